/- An abstract machine for Go's code: part of the library of this claim. -/
import Derived.Calls
import Derived.Orders
import Derived.LoopN
import Derived.Below
import Derived.KernelRfl
import Derived.RangeFuncRecord
import Derived.Lib.Builder
import Derived.Laws.CopyOwn
import Derived.Laws.CopyRow
import Derived.Great.BuildSlice
/- An abstract machine for Go's regions and code: what a value is said to be, and what a memory of variables holds. -/
namespace Go.Proofs.YtejkcmklhmifaaaGreatDoor.AM
open Go Go.RowKit

/-- The kinds of numbers' digits. -/
def exk : IntKind → Bool
  | .u32 => true
  | .i64 => false
  | _ => false
/-- A value that one cell may hold, and that is no digit of a number. -/
def okCell : Value → Bool
  | .agg _ => false
  | .tuple _ => false
  | .int k _ => !exk k
  | _ => true
theorem okCell_int {k : IntKind} {z : Int} (h : okCell (.int k z) = true) : exk k = false := by
  simpa [okCell] using h
/-- Every cell of the one world is one of the other. -/
def Ext (w w' : World) : Prop := ∀ a u, w.cell? a = some u → w'.cell? a = some u
theorem Ext.refl (w : World) : Ext w w := fun _ _ h => h
theorem Ext.trans {a b c : World} (h : Ext a b) (k : Ext b c) : Ext a c := fun p u hp => k p u (h p u hp)

/-- A thing that a value may be: it stays so as long as the cells that there are stay. -/
structure Ent where
  holds : World → Value → Prop
  len : Option Nat
  mono : ∀ {w w' : World} {v : Value}, Ext w w' → w.heap.size ≤ w'.heap.size → holds w v → holds w' v
  slice : ∀ {w : World} {v : Value} {n : Nat}, holds w v → len = some n → ∃ a c, v = .slice a n c
  cell : ∀ {w : World} {v : Value}, holds w v → okCell v = true

/-- What a cell is said to hold: a value itself, a thing, the address of a variable's cell, a slice of a variable. -/
inductive Cv where
  | any
  | raw (v : Value)
  | ent (e : Ent)
  | ptr (x o : Nat)
  | row (x o n c : Nat)
/-- One value: a cell's, or a struct of such. -/
inductive Sv where
  | cel (c : Cv)
  | agg (l : List Cv)
/-- A temporary's: one value, or a call's results. -/
inductive Av where
  | one (s : Sv)
  | tup (l : List Sv)
def varsC : Cv → List Nat
  | .ptr x _ => [x]
  | .row x _ _ _ => [x]
  | _ => []
/-- Is it known that a list's cells speak of no variable? -/
inductive Sy (cs : List Cv) : Type where
  | no
  | yes (h : ∀ c ∈ cs, varsC c = [])
/-- A variable: its type, what its cells hold, and whether the call made it. -/
structure VarSt where
  t : TypeId
  cs : List Cv
  own : Bool
  sy : Sy cs := .no
/-- The variables of which a variable's cells speak. -/
def varsV (s : VarSt) : List Nat := match s.sy with | .no => s.cs.flatMap varsC | .yes _ => []
theorem varsV_spec {s : VarSt} {x : Nat} (h : x ∈ s.cs.flatMap varsC) : x ∈ varsV s := by
  unfold varsV
  split
  · exact h
  · rename_i hc _
    obtain ⟨c, h1, h2⟩ := List.mem_flatMap.1 h
    rw [hc c h1] at h2; cases h2

def undefA : Av := .one (.cel (.raw undef))

def All2 {α β : Type} (R : α → β → Prop) : List α → List β → Prop
  | [], [] => True
  | x :: xs, y :: ys => R x y ∧ All2 R xs ys
  | _, _ => False
section
variable {α β : Type} {R R' : α → β → Prop}
theorem All2.length : ∀ {xs : List α} {ys : List β}, All2 R xs ys → xs.length = ys.length
  | [], [], _ => rfl
  | _ :: _, _ :: _, h => congrArg (· + 1) (All2.length h.2)
theorem All2.mono (hR : ∀ x y, R x y → R' x y) : ∀ {xs : List α} {ys : List β}, All2 R xs ys → All2 R' xs ys
  | [], [], _ => trivial
  | _ :: _, _ :: _, h => ⟨hR _ _ h.1, All2.mono hR h.2⟩
theorem All2.get : ∀ {xs : List α} {ys : List β} {i : Nat} {y : β}, All2 R xs ys → ys[i]? = some y → ∃ x, xs[i]? = some x ∧ R x y
  | [], [], _, _, _, h => by simp at h
  | x :: xs, y :: ys, 0, z, h, e => by simp at e; subst e; exact ⟨x, rfl, h.1⟩
  | x :: xs, y :: ys, i + 1, z, h, e => by
    simp at e
    obtain ⟨u, h1, h2⟩ := All2.get h.2 e
    exact ⟨u, by simpa using h1, h2⟩
theorem All2.append : ∀ {xs : List α} {ys : List β} {xs' : List α} {ys' : List β}, All2 R xs ys → All2 R xs' ys' → All2 R (xs ++ xs') (ys ++ ys')
  | [], [], _, _, _, h => h
  | _ :: _, _ :: _, _, _, h, k => ⟨h.1, All2.append h.2 k⟩
theorem All2.take : ∀ {xs : List α} {ys : List β} (n : Nat), All2 R xs ys → All2 R (xs.take n) (ys.take n)
  | [], [], n, _ => by cases n <;> trivial
  | _ :: _, _ :: _, 0, _ => trivial
  | _ :: _, _ :: _, n + 1, h => ⟨h.1, All2.take n h.2⟩
theorem All2.drop : ∀ {xs : List α} {ys : List β} (n : Nat), All2 R xs ys → All2 R (xs.drop n) (ys.drop n)
  | [], [], n, _ => by cases n <;> trivial
  | _ :: _, _ :: _, 0, h => h
  | _ :: _, _ :: _, n + 1, h => All2.drop n h.2
theorem All2.mapR {γ : Type} (f : γ → β) : ∀ {xs : List α} {zs : List γ}, All2 (fun x z => R x (f z)) xs zs → All2 R xs (zs.map f)
  | [], [], _ => trivial
  | _ :: _, _ :: _, h => ⟨h.1, All2.mapR f h.2⟩
theorem All2.self {γ : Type} {R : γ → β → Prop} (f : γ → β) (hf : ∀ x, R x (f x)) : ∀ (l : List γ), All2 R l (l.map f)
  | [] => trivial
  | x :: l => ⟨hf x, All2.self f hf l⟩
theorem All2.map2 {γ : Type} {f : γ → α} {g : γ → β} (hf : ∀ x, R (f x) (g x)) : ∀ (l : List γ), All2 R (l.map f) (l.map g)
  | [] => trivial
  | x :: l => ⟨hf x, All2.map2 hf l⟩
theorem All2.one {x : α} {y : β} (h : R x y) : All2 R [x] [y] := ⟨h, trivial⟩
theorem All2.mem : ∀ {xs : List α} {ys : List β} {Q : α → Prop}, All2 R xs ys → (∀ x y, y ∈ ys → R x y → Q x) → ∀ x ∈ xs, Q x
  | [], [], _, _, _ => fun x h => by cases h
  | x :: xs, y :: ys, Q, h, k => fun z hz => by
    rcases List.mem_cons.1 hz with rfl | hz
    · exact k z y (List.mem_cons_self ..) h.1
    · exact All2.mem h.2 (fun x y hy => k x y (List.mem_cons_of_mem _ hy)) z hz
end

/-- A part of a list written anew. -/
def putL {α : Type} (cells : List α) (off : Nat) (cs : List α) : List α := cells.take off ++ cs ++ cells.drop (off + cs.length)
theorem All2.putted {α β : Type} {R : α → β → Prop} {xs : List α} {ys : List β} {us : List α} {vs : List β} (off : Nat) (h : All2 R xs ys) (k : All2 R us vs) : All2 R (putL xs off us) (putL ys off vs) := by
  unfold putL
  rw [k.length]
  exact ((h.take off).append k).append (h.drop _)

section
variable (β : Nat → Option Nat) (W : World)
def RelC (v : Value) : Cv → Prop
  | .any => True
  | .raw u => v = u
  | .ent e => e.holds W v
  | .ptr x o => ∃ g, β x = some g ∧ v = .pointer (some ⟨g, o, none⟩)
  | .row x o n c => ∃ g, β x = some g ∧ v = .slice (some ⟨g, o, none⟩) n c
def RelS (v : Value) : Sv → Prop
  | .cel c => RelC β W v c
  | .agg l => ∃ vs : List Value, v = .agg vs.toArray ∧ All2 (RelC β W) vs l
def RelA (v : Value) : Av → Prop
  | .one s => RelS β W v s
  | .tup l => ∃ vs : List Value, v = .tuple vs.toArray ∧ All2 (RelS β W) vs l
end
/-- A cell's word that speaks of no variable. -/
def HoldsC (W : World) (v : Value) (c : Cv) : Prop := RelC (fun _ => none) W v c
theorem RelC.shut {β : Nat → Option Nat} {W : World} {v : Value} {c : Cv} (h : varsC c = []) (k : RelC β W v c) : HoldsC W v c := by
  cases c with
  | any => trivial
  | raw u => exact k
  | ent e => exact k
  | ptr x o => cases h
  | row x o n d => cases h
theorem HoldsC.rel {β : Nat → Option Nat} {W : World} {v : Value} {c : Cv} (k : HoldsC W v c) : RelC β W v c := by
  cases c with
  | any => trivial
  | raw u => exact k
  | ent e => exact k
  | ptr x o => obtain ⟨g, h, _⟩ := k; cases h
  | row x o n d => obtain ⟨g, h, _⟩ := k; cases h
theorem HoldsC.mono {W W' : World} {v : Value} {c : Cv} (he : Ext W W') (hs : W.heap.size ≤ W'.heap.size) (k : HoldsC W v c) : HoldsC W' v c := by
  cases c with
  | any => trivial
  | raw u => exact k
  | ent e => exact e.mono he hs k
  | ptr x o => obtain ⟨g, h, _⟩ := k; cases h
  | row x o n d => obtain ⟨g, h, _⟩ := k; cases h
/-- Cells that stand in a row, and are seen. -/
def CellsAt (W : World) (g o : Nat) (cs : List Cv) : Prop := ∀ i c, cs[i]? = some c → ∃ u, W.cell? ⟨g, o + i, none⟩ = some u ∧ HoldsC W u c
theorem CellsAt.mono {W W' : World} {g o : Nat} {cs : List Cv} (he : Ext W W') (hs : W.heap.size ≤ W'.heap.size) (h : CellsAt W g o cs) : CellsAt W' g o cs := fun i c hc => by
  obtain ⟨u, h1, h2⟩ := h i c hc
  exact ⟨u, he _ _ h1, h2.mono he hs⟩
/-- A pointer to cells. -/
def ptrTo (cs : List Cv) : Ent where
  holds W v := ∃ g o, v = .pointer (some ⟨g, o, none⟩) ∧ CellsAt W g o cs
  len := none
  mono he hs h := by obtain ⟨g, o, h1, h2⟩ := h; exact ⟨g, o, h1, h2.mono he hs⟩
  slice := by intro w v n _ e; cases e
  cell := by rintro w v ⟨g, o, rfl, _⟩; rfl
/-- A slice of so many places over cells. -/
def rowOf (n : Nat) (cs : List Cv) : Ent where
  holds W v := ∃ A c, v = .slice A n c ∧ (cs = [] ∨ ∃ g o, A = some ⟨g, o, none⟩ ∧ CellsAt W g o cs)
  len := some n
  mono he hs h := by
    obtain ⟨A, c, h1, h2⟩ := h
    refine ⟨A, c, h1, ?_⟩
    rcases h2 with h2 | ⟨g, o, h2, h3⟩
    · exact .inl h2
    · exact .inr ⟨g, o, h2, h3.mono he hs⟩
  slice := by
    rintro w v m ⟨A, c, rfl, _⟩ e
    injection e with e; subst e
    exact ⟨A, c, rfl⟩
  cell := by rintro w v ⟨A, c, rfl, _⟩; rfl
/-- More variables, more memory. -/
structure Up (β : Nat → Option Nat) (W : World) (β' : Nat → Option Nat) (W' : World) : Prop where
  vars : ∀ x g, β x = some g → β' x = some g
  ext : Ext W W'
  size : W.heap.size ≤ W'.heap.size
section
variable {β β' : Nat → Option Nat} {W W' : World} {v : Value}
theorem Up.refl (β : Nat → Option Nat) (W : World) : Up β W β W := ⟨fun _ _ h => h, Ext.refl _, Nat.le_refl _⟩
theorem RelC.up (h : Up β W β' W') {c : Cv} (k : RelC β W v c) : RelC β' W' v c := by
  cases c with
  | any => trivial
  | raw u => exact k
  | ent e => exact e.mono h.ext h.size k
  | ptr x o => obtain ⟨g, h1, h2⟩ := k; exact ⟨g, h.vars _ _ h1, h2⟩
  | row x o n c => obtain ⟨g, h1, h2⟩ := k; exact ⟨g, h.vars _ _ h1, h2⟩
theorem RelS.up (h : Up β W β' W') {s : Sv} (k : RelS β W v s) : RelS β' W' v s := by
  cases s with
  | cel c => exact RelC.up h k
  | agg l => obtain ⟨vs, h1, h2⟩ := k; exact ⟨vs, h1, h2.mono fun _ _ => RelC.up h⟩
theorem RelA.up (h : Up β W β' W') {s : Av} (k : RelA β W v s) : RelA β' W' v s := by
  cases s with
  | one s => exact RelS.up h k
  | tup l => obtain ⟨vs, h1, h2⟩ := k; exact ⟨vs, h1, h2.mono fun _ _ => RelS.up h⟩
end

def rawOf : Av → Option Value
  | .one (.cel (.raw v)) => some v
  | _ => none
theorem rawOf_some {av : Av} {v : Value} (h : rawOf av = some v) : av = .one (.cel (.raw v)) := by
  unfold rawOf at h
  split at h
  · injection h with h; subst h; rfl
  · cases h
def svOf : Av → Option Sv
  | .one s => some s
  | _ => none
theorem svOf_some {av : Av} {s : Sv} (h : svOf av = some s) : av = .one s := by
  cases av with
  | one s' => injection h with h; subst h; rfl
  | tup l => cases h
def cellsOf : Sv → List Cv
  | .cel c => [c]
  | .agg l => l
def okCv : Cv → Bool
  | .raw v => okCell v
  | .any => false
  | _ => true
theorem okCv_rel {β : Nat → Option Nat} {W : World} {v : Value} {c : Cv} (hc : okCv c = true) (h : RelC β W v c) : okCell v = true := by
  cases c with
  | any => cases hc
  | raw u => rw [show v = u from h]; exact hc
  | ent e => exact e.cell h
  | ptr x o => obtain ⟨g, _, rfl⟩ := h; rfl
  | row x o n c => obtain ⟨g, _, rfl⟩ := h; rfl
theorem cells_one {v : Value} (h : okCell v = true) : v.cells = #[v] := by
  cases v <;> first | rfl | cases h
/-- The cells of a value that may be stored. -/
theorem relS_cells {β : Nat → Option Nat} {W : World} {v : Value} {s : Sv} (ho : (cellsOf s).all okCv = true) (h : RelS β W v s) :
    All2 (RelC β W) v.cells.toList (cellsOf s) ∧ ∀ c ∈ v.cells.toList, okCell c = true := by
  cases s with
  | cel c =>
    have hc : okCv c = true := by simpa [cellsOf] using ho
    have hk := okCv_rel hc h
    rw [cells_one hk]
    exact ⟨All2.one h, by simpa using hk⟩
  | agg l =>
    obtain ⟨vs, rfl, h2⟩ := h
    refine ⟨by simpa [Value.cells, cellsOf] using h2, ?_⟩
    have : ∀ c ∈ vs, okCell c = true := h2.mem fun x y hy hr => okCv_rel (List.all_eq_true.1 ho y hy) hr
    simpa [Value.cells] using this
end Go.Proofs.YtejkcmklhmifaaaGreatDoor.AM

/- What one operation does to what is said. -/
namespace Go.Proofs.YtejkcmklhmifaaaGreatDoor.AM
open Go Go.RowKit

/-- What a reckoning that looks at the program alone comes to. -/
def pureSem (P : Program) {α : Type} : Sem α → Option α
  | .pure a => some a
  | .program k => pureSem P (k P)
  | .mark _ k => pureSem P k
  | _ => none
theorem pureSem_run {P : Program} {α : Type} {s : Sem α} {a : α} (h : pureSem P s = some a) (w : World) : s.run P w = .ok a w := by
  induction s with
  | pure b => simp [pureSem] at h; subst h; rfl
  | program k ih => exact ih P h
  | mark m k ih => exact ih h
  | _ => simp [pureSem] at h

inductive Acc where
  | val (v : Av)
  | new (t : TypeId) (cs : List Cv) (k : Option (Nat × Nat))
  | load (x off : Nat) (n : Option Nat)
  | sto (x off : Nat) (cs : List Cv)
  | call (f : FuncId) (args : List Sv)
  | callv (e : Ent) (args : List Sv)

def rawA (v : Value) : Av := .one (.cel (.raw v))
def optVal (o : Option Value) : Option Acc := match o with | some v => some (.val (rawA v)) | none => none

def partsA (ev : Operand → Av) : List (Nat × Operand) → Option (List (Nat × Sv))
  | [] => some []
  | (i, x) :: l => match svOf (ev x), partsA ev l with | some s, some r => some ((i, s) :: r) | _, _ => none
def fillA (place : Nat → Option (Nat × Nat)) (cells : List Cv) : List (Nat × Sv) → Option (List Cv)
  | [] => some cells
  | (i, s) :: rest =>
    match place i with
    | none => none
    | some (off, size) => if (cellsOf s).length = size ∧ off + size ≤ cells.length ∧ (cellsOf s).all okCv = true then fillA place (putL cells off (cellsOf s)) rest else none
def rawCells (v : Value) : List Cv := v.cells.toList.map .raw
def placesA (P : Program) (t : TypeId) : Option (List Cv × (Nat → Option (Nat × Nat))) :=
  match P.info? t, P.underlying t with
  | some it, some (.array _ e) => (match it.zero, P.info? e with | some z, some ie => some (rawCells z, fun i => some (i * ie.size, ie.size)) | _, _ => none)
  | some it, some (.struct fields) => (match it.zero, fields.toList.mapM (fun f => (P.info? f.type).map fun i => (f.offset, i.size)) with | some z, some places => some (rawCells z, (places.toArray[·]?)) | _, _ => none)
  | _, _ => none
def svsOf (ev : Operand → Av) : List Operand → Option (List Sv)
  | [] => some []
  | x :: l => match svOf (ev x), svsOf ev l with | some s, some r => some (s :: r) | _, _ => none
def rawsOf (ev : Operand → Av) : List Operand → Option (List Value)
  | [] => some []
  | x :: l => match rawOf (ev x), rawsOf ev l with | some s, some r => some (s :: r) | _, _ => none
def lenA : Av → Option Nat
  | .one (.cel (.ent e)) => e.len
  | .one (.cel (.row _ _ n _)) => some n
  | .one (.cel (.raw (.slice _ n _))) => some n
  | _ => none
/-- One field of a struct at hand. -/
def fieldA (P : Program) (t : TypeId) (l : List Cv) (f : Nat) : Option Av :=
  match pureSem P (underlying t) with
  | some (.struct fs) =>
    (match fs[f]? with
    | some fd => (match pureSem P (isAgg fd.type), pureSem P (sizeOf fd.type) with
      | some true, some n => some (.one (.agg ((l.drop fd.offset).take n)))
      | some false, some _ => (match l[fd.offset]? with | some c => some (.one (.cel c)) | none => none)
      | _, _ => none)
    | none => none)
  | _ => none
def addrA (P : Program) (t : TypeId) (x : Nat) (off : Nat) (f : Nat) : Option Av :=
  match pureSem P (underlying t) with
  | some (.struct fs) =>
    (match fs[f]? with
    | some fd => (match pureSem P (sizeOf fd.type) with | some 0 => none | some _ => some (.one (.cel (.ptr x (off + fd.offset)))) | none => none)
    | none => none)
  | _ => none
def atA (P : Program) (t : TypeId) (b i : Av) : Option Av :=
  match b, i, pureSem P (underlying t) with
  | .one (.cel (.row x off n _)), .one (.cel (.raw (.int _ k))), some (.slice e) =>
    (match pureSem P (sizeOf e) with | some s => if 0 ≤ k ∧ k < n then some (.one (.cel (.ptr x (off + k.toNat * s)))) else none | none => none)
  | .one (.cel (.ptr x off)), .one (.cel (.raw (.int _ k))), some (.array n e) =>
    (match pureSem P (sizeOf e) with | some s => if 0 ≤ k ∧ k < n then some (.one (.cel (.ptr x (off + k.toNat * s)))) else none | none => none)
  | _, _, _ => none
def loadA (P : Program) (t : TypeId) : Av → Option Acc
  | .one (.cel (.ptr x off)) => (match pureSem P (isAgg t), pureSem P (sizeOf t) with | some true, some n => some (.load x off (some n)) | some false, some _ => some (.load x off none) | _, _ => none)
  | _ => none
def storeA (P : Program) (t : TypeId) (a v : Av) : Option Acc :=
  match a, svOf v with
  | .one (.cel (.ptr x off)), some s => (match pureSem P (sizeOf t) with | some n => if (cellsOf s).length = n ∧ (cellsOf s).all okCv = true then some (.sto x off (cellsOf s)) else none | none => none)
  | _, _ => none
def nilA (_P : Program) (_o : Oper) (v : Av) : Option Acc :=
  match v with
  | .one (.cel (.ptr _ _)) => some (.val v)
  | .one (.cel (.raw (.func (.func f) a b))) => some (.val (rawA (.func (.func f) a b)))
  | _ => none
def boxA (t : TypeId) (v : Av) : Option Acc :=
  match svOf v with | some s => if (cellsOf s).all okCv = true then some (.new t (cellsOf s) none) else none | none => none
def allocA (P : Program) (t : TypeId) : Option Acc :=
  match pureSem P (zeroValue t) with | some z => if (rawCells z).all okCv = true then some (.new t (rawCells z) none) else none | none => none
def buildA (P : Program) (t : TypeId) (ps : Option (List (Nat × Sv))) : Option Acc :=
  match placesA P t, ps with
  | some (zs, pl), some parts => (match fillA pl zs parts with | some cs => some (.val (.one (.agg cs))) | none => none)
  | _, _ => none
def buildSliceA (P : Program) (t : TypeId) (n : Nat) (ps : Option (List (Nat × Sv))) : Option Acc :=
  match P.underlying t, ps with
  | some (.slice e), some parts =>
    (match P.info? e with
    | some ie => (match ie.zero with
      | some z => if n * ie.size > 2 ^ 24 ∨ n * ie.size = 0 then none else
          (match fillA (fun i => some (i * ie.size, ie.size)) ((List.range (n * ie.size)).map fun i => .raw (z.cells[i % z.cells.size]!)) parts with
          | some cs => if cs.all okCv = true then some (.new e cs (some (n, n))) else none
          | none => none)
      | none => none)
    | none => none)
  | _, _ => none
def callA (P : Program) (_o : Oper) (c : Call) (ev : Operand → Av) : Option Acc :=
  match c.callee with
  | .value f => (match ev f, svsOf ev c.args.toList with
    | .one (.cel (.raw (.func (.func g) ⟨[]⟩ ⟨[]⟩))), some args => some (.call g args)
    | .one (.cel (.ent e)), some args => some (.callv e args)
    | _, _ => none)
  | .builtin .len => (match c.args with
    | ⟨[x]⟩ => (match c.argTypes with
      | ⟨[t]⟩ => (match pureSem P (underlying t), lenA (ev x) with | some (.slice _), some n => some (.val (rawA (.int .i64 n))) | some .string, _ => (match rawOf (ev x) with | some (.string s) => some (.val (rawA (.int .i64 s.size))) | _ => none) | _, _ => none)
      | _ => none)
    | _ => none)
  | _ => none
/-- One place of a row at hand, or of a text. -/
def placeA (P : Program) (t : TypeId) (l : List Cv) (k : Int) : Option Av :=
  match pureSem P (underlying t) with
  | some (.array n e) =>
    (match pureSem P (sizeOf e) with
    | some s => if 0 ≤ k ∧ k < n then
        (match pureSem P (isAgg e) with
        | some true => some (.one (.agg ((l.drop (k.toNat * s)).take s)))
        | some false => (match l[k.toNat * s]? with | some c => some (.one (.cel c)) | none => none)
        | none => none) else none
    | none => none)
  | _ => none
def indexA (P : Program) (t : TypeId) (x i : Av) : Option Acc :=
  match x, rawOf i with
  | .one (.agg l), some (.int _ k) => (placeA P t l k).map .val
  | .one (.cel (.raw a)), some b => optVal (pureSem P (Instr.index t a b))
  | _, _ => none
/-- What an operation does, of what its operands are said to be. -/
def acc (P : Program) (o : Oper) (ev : Operand → Av) : Option Acc :=
  match o.op with
  | .move x => some (.val (ev x))
  | .assign x => some (.val (ev x))
  | .pick c a b => (match rawOf (ev c) with | some (.bool true) => some (.val (ev a)) | some (.bool false) => some (.val (ev b)) | _ => none)
  | .alloc t => allocA P t
  | .box t x => boxA t (ev x)
  | .build t ps => buildA P t (partsA ev ps.toList)
  | .buildSlice t n ps => buildSliceA P t n (partsA ev ps.toList)
  | .load t x => loadA P t (ev x)
  | .store t x v => storeA P t (ev x) (ev v)
  | .nilCheck x => nilA P o (ev x)
  | .binOp op t x y _ => (match rawOf (ev x), rawOf (ev y) with | some a, some b => optVal (pureSem P (do eqGuard op t x y a b; binOp op t a b)) | _, _ => none)
  | .unOp op _ x => (match rawOf (ev x) with | some a => optVal (pureSem P (Op.unary op a)) | none => none)
  | .convert s d x => (match rawOf (ev x) with | some a => optVal (pureSem P (convert s d a)) | none => none)
  | .makeInterface t x => (match rawOf (ev x) with | some a => optVal (pureSem P (Instr.makeInterface t a)) | none => none)
  | .index t x i => indexA P t (ev x) (ev i)
  | .fieldAddr t x f => (match ev x with | .one (.cel (.ptr y off)) => (addrA P t y off f).map .val | _ => none)
  | .field t x f => (match ev x with | .one (.agg l) => (fieldA P t l f).map .val | _ => none)
  | .indexAddr t x i => (atA P t (ev x) (ev i)).map .val
  | .extract x i => (match ev x with | .tup l => (match l[i]? with | some s => some (.val (.one s)) | none => none) | _ => none)
  | .call c => callA P o c ev
  | _ => none

theorem partsA_congr {ev ev' : Operand → Av} : ∀ {l : List (Nat × Operand)}, (∀ x ∈ l.map (·.2), ev x = ev' x) → partsA ev l = partsA ev' l
  | [], _ => rfl
  | (i, x) :: l, h => by
    unfold partsA
    rw [h x (by simp), partsA_congr (l := l) fun y hy => h y (by simp only [List.map_cons, List.mem_cons]; exact Or.inr hy)]
theorem svsOf_congr {ev ev' : Operand → Av} : ∀ {l : List Operand}, (∀ x ∈ l, ev x = ev' x) → svsOf ev l = svsOf ev' l
  | [], _ => rfl
  | x :: l, h => by
    unfold svsOf
    rw [h x (by simp), svsOf_congr (l := l) fun y hy => h y (List.mem_cons_of_mem _ hy)]
theorem rawsOf_congr {ev ev' : Operand → Av} : ∀ {l : List Operand}, (∀ x ∈ l, ev x = ev' x) → rawsOf ev l = rawsOf ev' l
  | [], _ => rfl
  | x :: l, h => by
    unfold rawsOf
    rw [h x (by simp), rawsOf_congr (l := l) fun y hy => h y (List.mem_cons_of_mem _ hy)]
/-- It hangs on the operands alone. -/
theorem acc_congr (P : Program) (o : Oper) {ev ev' : Operand → Av} (h : ∀ x ∈ o.op.operands.toList, ev x = ev' x) : acc P o ev = acc P o ev' := by
  obtain ⟨dst, op, type, pos, after, guard⟩ := o
  cases op <;> (try rfl) <;> simp only [Op.operands, Call.operands, List.mem_cons, List.not_mem_nil, or_false, forall_eq_or_imp, forall_eq] at h <;> simp only [acc]
  case build t ps => rw [partsA_congr (ev := ev) (ev' := ev') (by simpa using h)]
  case buildSlice t n ps => rw [partsA_congr (ev := ev) (ev' := ev') (by simpa using h)]
  case call c =>
    obtain ⟨callee, args, ats⟩ := c
    cases callee with
    | value f =>
      have hf : ev f = ev' f := h f (by simp)
      have ha : svsOf ev args.toList = svsOf ev' args.toList := svsOf_congr fun x hx => h x (by simp [Array.mem_toList_iff.1 hx])
      simp only [callA, hf, ha]
    | invoke r m => rfl
    | builtin b =>
      cases b <;> try rfl
      obtain ⟨args⟩ := args
      match args with
      | [] => rfl
      | [x] =>
        have hx : ev x = ev' x := h x (by simp)
        simp only [callA, hx]
      | _ :: _ :: _ => rfl
  all_goals (try simp only [h])
  all_goals (try (obtain ⟨h1, h2⟩ := h; simp only [h1, h2]))
end Go.Proofs.YtejkcmklhmifaaaGreatDoor.AM

/- What is said of an operation is so. -/
namespace Go.Proofs.YtejkcmklhmifaaaGreatDoor.AM
open Go Go.RowKit

/-- A function of the program's own text. -/
def Callable (P : Program) (f : FuncId) : Prop := ∃ fn, P.funcs[f]? = some fn ∧ (fn.name == "runtime.NumGoroutine") = false ∧ fn.body.isNone = false
theorem run_callFunc {P : Program} {f : FuncId} (h : Callable P f) (args : Array Value) (w : World) : (callFunc f args).run P w = .ok (.enter f args) w := by
  obtain ⟨fn, h1, h2, h3⟩ := h
  obtain ⟨c, hc⟩ : ∃ c, fn.body = some c := by cases e : fn.body with
    | none => rw [e] at h3; cases h3
    | some c => exact ⟨c, rfl⟩
  simp [callFunc, h1, hc, show ¬ fn.name = "runtime.NumGoroutine" by simpa using h2]

def AccOk (P : Program) (β : Nat → Option Nat) (W : World) (o : Oper) (a : Act) (w : World) : Acc → Prop
  | .val av => ∃ v, (execOp a.eval o).run P w = .ok (.value v) w ∧ RelA β W v av
  | .new t cs k => ∃ vs : List Value, (execOp a.eval o).run P w = .ok (.value (match k with | none => .pointer (some ⟨w.heap.size, 0, none⟩) | some (n, c) => .slice (some ⟨w.heap.size, 0, none⟩) n c)) (w.alloc (.cells vs.toArray t)) ∧
      All2 (RelC β W) vs cs ∧ ∀ v ∈ vs, okCell v = true
  | .load x off none => ∃ g, β x = some g ∧ ∀ u, w.cell? ⟨g, off, none⟩ = some u → (execOp a.eval o).run P w = .ok (.value u) w
  | .load x off (some n) => ∃ g, β x = some g ∧ ∀ us : List Value, us.length = n → (∀ i u, us[i]? = some u → w.cell? ⟨g, off + i, none⟩ = some u) → (execOp a.eval o).run P w = .ok (.value (.agg us.toArray)) w
  | .sto x off cs => ∃ g vs, β x = some g ∧ All2 (RelC β W) vs cs ∧ (∀ v ∈ vs, okCell v = true) ∧ ∀ cells t, w.heap[g]? = some (.cells cells t (0, 0)) → off + vs.length ≤ cells.size →
      (execOp a.eval o).run P w = .ok .skip (w.setRow g (putL cells.toList off vs).toArray)
  | .call f args => ∃ vals : List Value, All2 (RelS β W) vals args ∧ (Callable P f → (execOp a.eval o).run P w = .ok (.enter f vals.toArray) w)
  | .callv e args => ∃ (u : Value) (vals : List Value), e.holds W u ∧ All2 (RelS β W) vals args ∧ ∀ f vs us, u = .func (.func f) vs us → Callable P f → (execOp a.eval o).run P w = .ok (.enter f (vs ++ vals.toArray ++ us)) w

section
variable {P : Program} {β : Nat → Option Nat} {W w : World} {a : Act} {ev : Operand → Av}

theorem add_at (g off i : Nat) : (⟨g, off, none⟩ : Addr).add i = ⟨g, off + i, none⟩ := by unfold Addr.add; split <;> simp_all
theorem okCell_one {v : Value} (h : okCell v = true) : v.oneCell' = true := by cases v <;> first | rfl | cases h
theorem rawOf_rel {v u : Value} {av : Av} (h : rawOf av = some u) (k : RelA β W v av) : v = u := by
  rw [rawOf_some h] at k; exact k

theorem foldl_put (off : Nat) : ∀ (l : List Value) (k : Nat) (cs : Array Value), off + k + l.length ≤ cs.size →
    ((l.zipIdx k).foldl (fun cs x => cs.setIfInBounds (off + x.2) x.1) cs).toList = putL cs.toList (off + k) l
  | [], k, cs, _ => by simp [putL]
  | v :: l, k, cs, h => by
    rw [List.zipIdx_cons, List.foldl_cons, foldl_put off l (k + 1) (cs.setIfInBounds (off + k) v) (by simp at h ⊢; omega)]
    have e := list_seg_step cs.toList (off + k) v l (by simp at h ⊢; omega)
    simp only [putL, List.length_cons, Array.toList_setIfInBounds]
    rw [← Nat.add_assoc off k 1]
    exact e
theorem putL_length {α : Type} (l : List α) (off : Nat) (cs : List α) (h : off + cs.length ≤ l.length) : (putL l off cs).length = l.length := by
  unfold putL; simp; omega
theorem fill_rel (place : Nat → Option (Nat × Nat)) : ∀ (parts : List (Nat × Value)) (pa : List (Nat × Sv)) (cells : Array Value) (cs res : List Cv),
    All2 (fun p q => p.1 = q.1 ∧ RelS β W p.2 q.2) parts pa → All2 (RelC β W) cells.toList cs → fillA place cs pa = some res →
    ∃ cells', Instr.fill place cells parts = some cells' ∧ All2 (RelC β W) cells'.toList res
  | [], [], cells, cs, res, _, hc, h => by
    injection h with h; subst h; exact ⟨cells, rfl, hc⟩
  | (i, v) :: parts, (j, s) :: pa, cells, cs, res, ⟨⟨hij, hv⟩, hr⟩, hc, h => by
    dsimp only at hij hv
    subst hij
    unfold fillA at h
    unfold Instr.fill
    cases hp : place i with
    | none => rw [hp] at h; cases h
    | some os =>
      obtain ⟨off, size⟩ := os
      rw [hp] at h
      dsimp only at h ⊢
      split at h
      · rename_i hcond
        obtain ⟨h1, h2, h3⟩ := hcond
        obtain ⟨hrel, _⟩ := relS_cells h3 hv
        have hl := hrel.length
        have hcl := hc.length
        have hsz : v.cells.size = size := by rw [← Array.length_toList, hl, h1]
        have hcs : cells.size = cs.length := by rw [← Array.length_toList, hcl]
        rw [if_neg (by simp [hsz]; omega)]
        have hput := foldl_put off v.cells.toList 0 cells (by rw [Array.length_toList]; omega)
        have e : (v.cells.zipIdx.foldl (fun cs x => cs.setIfInBounds (off + x.2) x.1) cells).toList = putL cells.toList off v.cells.toList := by
          rw [← Array.foldl_toList, Array.toList_zipIdx]; exact hput
        have hc' : All2 (RelC β W) (v.cells.zipIdx.foldl (fun cs x => cs.setIfInBounds (off + x.2) x.1) cells).toList (putL cs off (cellsOf s)) := by
          rw [e]; exact All2.putted off hc hrel
        exact fill_rel place parts pa _ _ res hr hc' h
      · cases h
  | [], _ :: _, _, _, _, h, _, _ => h.elim
  | _ :: _, [], _, _, _, h, _, _ => h.elim

theorem partsA_rel : ∀ {l : List (Nat × Operand)} {parts : List (Nat × Sv)}, (∀ x ∈ l.map (·.2), RelA β W (a.eval x) (ev x)) → partsA ev l = some parts →
    All2 (fun p q => p.1 = q.1 ∧ RelS β W p.2 q.2) (l.map fun p => (p.1, a.eval p.2)) parts
  | [], parts, _, h => by injection h with h; subst h; trivial
  | (i, x) :: l, parts, hev, h => by
    unfold partsA at h
    split at h
    · rename_i s r hs hr
      injection h with h; subst h
      have hx := hev x (by simp)
      rw [svOf_some hs] at hx
      exact ⟨⟨rfl, hx⟩, partsA_rel (fun y hy => hev y (by simp only [List.map_cons, List.mem_cons]; exact Or.inr hy)) hr⟩
    · cases h
theorem svsOf_rel : ∀ {l : List Operand} {args : List Sv}, (∀ x ∈ l, RelA β W (a.eval x) (ev x)) → svsOf ev l = some args → All2 (RelS β W) (l.map a.eval) args
  | [], args, _, h => by injection h with h; subst h; trivial
  | x :: l, args, hev, h => by
    unfold svsOf at h
    split at h
    · rename_i s r hs hr
      injection h with h; subst h
      have hx := hev x (by simp)
      rw [svOf_some hs] at hx
      exact ⟨hx, svsOf_rel (fun y hy => hev y (List.mem_cons_of_mem _ hy)) hr⟩
    · cases h
theorem rawsOf_rel : ∀ {l : List Operand} {rs : List Value}, (∀ x ∈ l, RelA β W (a.eval x) (ev x)) → rawsOf ev l = some rs → l.map a.eval = rs
  | [], rs, _, h => by injection h with h
  | x :: l, rs, hev, h => by
    unfold rawsOf at h
    split at h
    · rename_i s r hs hr
      injection h with h; subst h
      rw [List.map_cons, rawOf_rel hs (hev x (by simp)), rawsOf_rel (fun y hy => hev y (List.mem_cons_of_mem _ hy)) hr]
    · cases h
theorem rawCells_rel (z : Value) : All2 (RelC β W) z.cells.toList (rawCells z) := All2.self (R := RelC β W) (fun v => Cv.raw v) (fun _ => rfl) _
theorem rawCells_ok {z : Value} (h : (rawCells z).all okCv = true) : ∀ v ∈ z.cells.toList, okCell v = true := fun v hv => by
  have := List.all_eq_true.1 h (.raw v) (List.mem_map.2 ⟨v, hv, rfl⟩)
  exact this

theorem optVal_some {x : Option Value} {A : Acc} (h : optVal x = some A) : ∃ v, x = some v ∧ A = .val (rawA v) := by
  cases x with
  | none => cases h
  | some v => injection h with h; exact ⟨v, rfl, h.symm⟩
theorem run_value {s : Sem Value} {v : Value} (h : pureSem P s = some v) (w : World) : (do let x ← s; pure (Next.value x) : Sem Next).run P w = .ok (.value v) w := by
  rw [Sem.run_bind, pureSem_run h]; rfl

theorem run_len {t e : TypeId} {ty : TypeId} {A : Option Addr} {n c : Nat} (h : pureSem P (underlying t) = some (.slice e)) : (Builtin.len_ #[t] ty #[.slice A n c]).run P w = .ok (goInt n) w := by
  simp [Builtin.len_, pureSem_run h w]
theorem run_len_str {t : TypeId} {ty : TypeId} {s : ByteArray} (h : pureSem P (underlying t) = some .string) : (Builtin.len_ #[t] ty #[.string s]).run P w = .ok (goInt s.size) w := by
  simp [Builtin.len_, pureSem_run h w]
theorem lenA_rel {v : Value} {av : Av} {n : Nat} (h : lenA av = some n) (k : RelA β W v av) : ∃ A c, v = .slice A n c := by
  unfold lenA at h
  split at h
  · exact Ent.slice _ k h
  · injection h with h; subst h; obtain ⟨g, _, rfl⟩ := k; exact ⟨_, _, rfl⟩
  · injection h with h; subst h; exact ⟨_, _, k⟩
  · cases h

theorem fieldA_rel {t : TypeId} {l : List Cv} {f : Nat} {av : Av} {vs : List Value} (h : fieldA P t l f = some av) (k : All2 (RelC β W) vs l) :
    ∃ v, (Instr.field t (.agg vs.toArray) f).run P w = .ok v w ∧ RelA β W v av := by
  unfold fieldA at h
  split at h
  · rename_i fs hu
    split at h
    · rename_i fd hf
      split at h
      · rename_i n hA hS
        injection h with h; subst h
        refine ⟨.agg ((vs.drop fd.offset).take n).toArray, ?_, _, rfl, (k.drop _).take _⟩
        simp [Instr.field, pureSem_run hu w, hf, asAgg, part, pureSem_run hA w, pureSem_run hS w]
      · rename_i n hA hS
        split at h
        · rename_i c hc
          injection h with h; subst h
          obtain ⟨u, h1, h2⟩ := k.get hc
          refine ⟨u, ?_, h2⟩
          simp [Instr.field, pureSem_run hu w, hf, asAgg, part, pureSem_run hA w, h1]
        · cases h
      · cases h
    · cases h
  · cases h
theorem placeA_rel {t : TypeId} {l : List Cv} {kk : IntKind} {k : Int} {av : Av} {vs : List Value} (h : placeA P t l k = some av) (hv : All2 (RelC β W) vs l) :
    ∃ v, (Instr.index t (.agg vs.toArray) (.int kk k)).run P w = .ok v w ∧ RelA β W v av := by
  unfold placeA at h
  split at h
  · rename_i n e hu
    split at h
    · rename_i s hS
      split at h
      · rename_i hk
        split at h
        · rename_i hA
          injection h with h; subst h
          refine ⟨.agg ((vs.drop (k.toNat * s)).take s).toArray, ?_, _, rfl, (hv.drop _).take _⟩
          simp [Instr.index, asIntOf, pureSem_run hu w, hk, part, pureSem_run hA w, pureSem_run hS w]
        · rename_i hA
          split at h
          · rename_i c hc
            injection h with h; subst h
            obtain ⟨u, h1, h2⟩ := hv.get hc
            refine ⟨u, ?_, h2⟩
            simp [Instr.index, asIntOf, pureSem_run hu w, hk, part, pureSem_run hA w, pureSem_run hS w, h1]
          · cases h
        · cases h
      · cases h
    · cases h
  · cases h
theorem addrA_rel {t : TypeId} {x off f g : Nat} {av : Av} (hb : β x = some g) (h : addrA P t x off f = some av) :
    ∃ v, (Instr.fieldAt t (.pointer (some ⟨g, off, none⟩)) f).run P w = .ok v w ∧ RelA β W v av := by
  unfold addrA at h
  split at h
  · rename_i fs hu
    split at h
    · rename_i fd hf
      split at h
      · cases h
      · rename_i n hS hn
        injection h with h; subst h
        refine ⟨.pointer (some ⟨g, off + fd.offset, none⟩), ?_, g, hb, rfl⟩
        have hn0 : ¬ n = 0 := fun e => hS e
        simp [Instr.fieldAt, pureSem_run hu w, hf, Instr.sureAddr, fieldPlace, pureSem_run hn w, hn0, add_at]
      · cases h
    · cases h
  · cases h
theorem atA_rel {t : TypeId} {b i av : Av} {vb vi : Value} (hb : RelA β W vb b) (hi : RelA β W vi i) (h : atA P t b i = some av) :
    ∃ v, (Instr.indexAt t vb vi).run P w = .ok v w ∧ RelA β W v av := by
  unfold atA at h
  split at h
  · rename_i x off n c kk k e hu
    split at h
    · rename_i s hS
      split at h
      · rename_i hk
        injection h with h; subst h
        obtain ⟨g, hg, rfl⟩ := hb
        obtain rfl : vi = .int kk k := hi
        refine ⟨.pointer (some ⟨g, off + k.toNat * s, none⟩), ?_, g, hg, rfl⟩
        simp [Instr.indexAt, asIntOf, pureSem_run hu w, hk, pureSem_run hS w, add_at]
      · cases h
    · cases h
  · rename_i x off kk k n e hu
    split at h
    · rename_i s hS
      split at h
      · rename_i hk
        injection h with h; subst h
        obtain ⟨g, hg, rfl⟩ := hb
        obtain rfl : vi = .int kk k := hi
        refine ⟨.pointer (some ⟨g, off + k.toNat * s, none⟩), ?_, g, hg, rfl⟩
        simp [Instr.indexAt, asIntOf, Instr.sureAddr, pureSem_run hu w, hk, pureSem_run hS w, add_at]
      · cases h
    · cases h
  · cases h
end
end Go.Proofs.YtejkcmklhmifaaaGreatDoor.AM

/- What is said of an operation is so: all of them. -/
namespace Go.Proofs.YtejkcmklhmifaaaGreatDoor.AM
open Go Go.RowKit

section
variable {P : Program} {β : Nat → Option Nat} {W w : World} {a : Act} {ev : Operand → Av}

theorem acc_sound (o : Oper) (A : Acc) (hev : ∀ x ∈ o.op.operands.toList, RelA β W (a.eval x) (ev x)) (h : acc P o ev = some A) : AccOk P β W o a w A := by
  obtain ⟨dst, op, type, pos, after, guard⟩ := o
  cases op <;> simp only [acc] at h <;> (try (cases h; done)) <;> simp only [Op.operands, List.mem_cons, List.not_mem_nil, or_false, forall_eq_or_imp, forall_eq] at hev
  case move x => injection h with h; subst h; exact ⟨_, rfl, hev⟩
  case assign x => injection h with h; subst h; exact ⟨_, rfl, hev⟩
  case pick c x y =>
    obtain ⟨hc, hx, hy⟩ := hev
    split at h
    · rename_i hr
      injection h with h; subst h
      exact ⟨a.eval x, by simp [execOp, rawOf_rel hr hc, asBool], hx⟩
    · rename_i hr
      injection h with h; subst h
      exact ⟨a.eval y, by simp [execOp, rawOf_rel hr hc, asBool], hy⟩
    · cases h
  case alloc t =>
    unfold allocA at h
    split at h
    · rename_i z hz
      split at h
      · rename_i hok
        injection h with h; subst h
        exact ⟨z.cells.toList, by simp [execOp, Instr.alloc, pureSem_run hz w, newVar, newRow], rawCells_rel z, rawCells_ok hok⟩
      · cases h
    · cases h
  case box t x =>
    unfold boxA at h
    split at h
    · rename_i s hs
      split at h
      · rename_i hok
        injection h with h; subst h
        rw [svOf_some hs] at hev
        obtain ⟨h1, h2⟩ := relS_cells hok hev
        exact ⟨(a.eval x).cells.toList, by simp [execOp, Instr.box, newVar, newRow], h1, h2⟩
      · cases h
    · cases h
  case build t ps =>
    unfold buildA at h
    split at h
    · rename_i zs pl parts hp hpa
      split at h
      · rename_i cs hf
        injection h with h; subst h
        have hrel := partsA_rel (β := β) (W := W) (a := a) (by simpa using hev) hpa
        have key : ∀ (z : Value), zs = rawCells z → P.built t ((ps.map fun (i, x) => (i, a.eval x)).toList) = Instr.fill pl z.cells ((ps.map fun (i, x) => (i, a.eval x)).toList) →
            AccOk P β W { dst, op := .build t ps, type, pos, after, guard } a w (.val (.one (.agg cs))) := by
          intro z hz hb
          subst hz
          obtain ⟨cells', h1, h2⟩ := fill_rel pl _ parts z.cells _ cs hrel (rawCells_rel z) hf
          rw [Array.toList_map] at hb
          have hb' : P.built t (ps.map fun (i, x) => (i, a.eval x)).toList = some cells' := by
            rw [Array.toList_map]; exact hb.trans h1
          refine ⟨.agg cells', ?_, cells'.toList, by simp, h2⟩
          unfold execOp
          simp only [Sem.run_bind, run_build w t _ _ hb', Result.andThen_ok, Sem.run_pure]
        unfold placesA at hp
        split at hp
        · rename_i it e1 n e hi hu
          split at hp
          · rename_i z ie hz hie
            injection hp with hp; injection hp with hp1 hp2
            refine key z hp1.symm ?_
            unfold Program.built
            simp only [hi, hu, hz, hie, hp2]
          · cases hp
        · rename_i it fields hi hu
          split at hp
          · rename_i z places hz hpl
            injection hp with hp; injection hp with hp1 hp2
            refine key z hp1.symm ?_
            unfold Program.built
            simp only [hi, hu, hz, hpl, hp2]
          · cases hp
        · cases hp
      · cases h
    · cases h
  case buildSlice t n ps =>
    unfold buildSliceA at h
    split at h
    · rename_i e parts hu hpa
      split at h
      · rename_i ie hie
        split at h
        · rename_i z hz
          split at h
          · cases h
          · rename_i hsz
            split at h
            · rename_i cs hf
              split at h
              · rename_i hok
                injection h with h; subst h
                have hrel := partsA_rel (β := β) (W := W) (a := a) (by simpa using hev) hpa
                obtain ⟨cells', h1, h2⟩ := fill_rel (β := β) (W := W) _ _ parts ((Array.range (n * ie.size)).map (z.cells[· % z.cells.size]!)) _ cs hrel
                  (by rw [Array.toList_map, Array.toList_range]; exact All2.map2 (R := RelC β W) (f := fun i => z.cells[i % z.cells.size]!) (g := fun i => Cv.raw (z.cells[i % z.cells.size]!)) (fun _ => rfl) _) hf
                have hb : Instr.fill (fun i => some (i * ie.size, ie.size)) ((Array.range (n * ie.size)).map (z.cells[· % z.cells.size]!)) (ps.map fun (i, x) => (i, a.eval x)).toList = some cells' := by
                  rw [Array.toList_map]; exact h1
                refine ⟨cells'.toList, ?_, h2, h2.mem fun x y hy hr => okCv_rel (List.all_eq_true.1 hok y hy) hr⟩
                unfold execOp
                simp only [Sem.run_bind, run_buildSlice w t e n _ cells' ie z hu hie hz (by omega) (by omega) hb, Result.andThen_ok, Sem.run_pure, Array.toArray_toList]
              · cases h
            · cases h
        · cases h
      · cases h
    · cases h
  case load t x =>
    unfold loadA at h
    split at h
    · rename_i y off hx
      rw [hx] at hev
      obtain ⟨g, hg, hx'⟩ := hev
      split at h
      · rename_i n hA hS
        injection h with h; subst h
        refine ⟨g, hg, fun us hl hc => ?_⟩
        have hld := run_loadCells_list (P := P) w ⟨g, off, none⟩ us (fun j v hj => by rw [add_at]; exact hc j v hj)
        rw [hl] at hld
        simp [execOp, hx', Instr.loadAt, Instr.sureAddr, loadVar, pureSem_run hA w, pureSem_run hS w, hld]
      · rename_i n hA hS
        injection h with h; subst h
        refine ⟨g, hg, fun u hc => ?_⟩
        simp [execOp, hx', Instr.loadAt, Instr.sureAddr, loadVar, pureSem_run hA w, hc]
      · cases h
    · cases h
  case store t x y =>
    obtain ⟨hx, hy⟩ := hev
    unfold storeA at h
    split at h
    · rename_i z off s hxe hs
      split at h
      · rename_i n hS
        split at h
        · rename_i hc
          injection h with h; subst h
          rw [hxe] at hx
          obtain ⟨g, hg, hx'⟩ := hx
          rw [svOf_some hs] at hy
          obtain ⟨h1, h2⟩ := relS_cells hc.2 hy
          refine ⟨g, (a.eval y).cells.toList, hg, h1, h2, fun cells t' hcell hle => ?_⟩
          have hst := run_storeCells_at P g off t' (a.eval y).cells.toList 0 cells w hcell (by simpa using hle) (fun v hv => okCell_one (h2 v hv))
          have hsz : (a.eval y).cells.size = n := by rw [← Array.length_toList, h1.length, hc.1]
          simp only [Nat.add_zero] at hst
          simp [execOp, hx', Instr.storeAt, Instr.sureAddr, storeVar, pureSem_run hS w, hsz, hst, putL]
        · cases h
      · cases h
    · cases h
  case nilCheck x =>
    unfold nilA at h
    split at h
    · rename_i y off hx
      injection h with h; subst h
      rw [hx] at hev
      obtain ⟨g, hg, hx'⟩ := hev
      exact ⟨.pointer (some ⟨g, off, none⟩), by simp [execOp, hx'], by rw [hx]; exact ⟨g, hg, rfl⟩⟩
    · rename_i f b c hx
      injection h with h; subst h
      rw [hx] at hev
      replace hev : a.eval x = _ := hev
      exact ⟨_, by simp [execOp, hev], rfl⟩
    · cases h
  case binOp op t x y yt =>
    obtain ⟨hx, hy⟩ := hev
    split at h
    · rename_i u v hu hv
      obtain ⟨r, hr, rfl⟩ := optVal_some h
      have e1 := rawOf_rel hu hx
      have e2 := rawOf_rel hv hy
      refine ⟨r, ?_, rfl⟩
      unfold execOp
      simp only [e1, e2]
      exact run_value hr w
    · cases h
  case unOp op t x =>
    split at h
    · rename_i u hu
      obtain ⟨r, hr, rfl⟩ := optVal_some h
      have e1 := rawOf_rel hu hev
      refine ⟨r, ?_, rfl⟩
      unfold execOp
      simp only [e1]
      exact run_value hr w
    · cases h
  case convert s d x =>
    split at h
    · rename_i u hu
      obtain ⟨r, hr, rfl⟩ := optVal_some h
      have e1 := rawOf_rel hu hev
      refine ⟨r, ?_, rfl⟩
      unfold execOp
      simp only [e1]
      exact run_value hr w
    · cases h
  case makeInterface t x =>
    split at h
    · rename_i u hu
      obtain ⟨r, hr, rfl⟩ := optVal_some h
      have e1 := rawOf_rel hu hev
      refine ⟨r, ?_, rfl⟩
      unfold execOp
      simp only [e1]
      exact run_value hr w
    · cases h
  case index t x y =>
    obtain ⟨hx, hy⟩ := hev
    unfold indexA at h
    split at h
    · rename_i l kk k hx0 hv
      obtain ⟨av, h1, rfl⟩ := Option.map_eq_some_iff.1 h
      rw [hx0] at hx
      obtain ⟨vs, hvs, hrel⟩ := hx
      obtain ⟨v, hv1, hr⟩ := placeA_rel (W := W) (w := w) (kk := kk) h1 hrel
      refine ⟨v, ?_, hr⟩
      have e2 := rawOf_rel hv hy
      unfold execOp
      simp only [hvs, e2, Sem.run_bind, hv1, Result.andThen_ok, Sem.run_pure]
    · rename_i u v hx0 hv
      obtain ⟨r, hr, rfl⟩ := optVal_some h
      rw [hx0] at hx
      have e1 : a.eval x = u := hx
      have e2 := rawOf_rel hv hy
      refine ⟨r, ?_, rfl⟩
      unfold execOp
      simp only [e1, e2]
      exact run_value hr w
    · cases h
  case fieldAddr t x f =>
    split at h
    · rename_i y off hx
      obtain ⟨av, h1, rfl⟩ := Option.map_eq_some_iff.1 h
      rw [hx] at hev
      obtain ⟨g, hg, hx'⟩ := hev
      obtain ⟨v, hv, hr⟩ := addrA_rel (W := W) (w := w) hg h1
      refine ⟨v, ?_, hr⟩
      unfold execOp
      simp only [hx', Sem.run_bind, hv, Result.andThen_ok, Sem.run_pure]
    · cases h
  case field t x f =>
    split at h
    · rename_i l hx
      obtain ⟨av, h1, rfl⟩ := Option.map_eq_some_iff.1 h
      rw [hx] at hev
      obtain ⟨vs, hx', hl⟩ := hev
      obtain ⟨v, hv, hr⟩ := fieldA_rel (w := w) h1 hl
      refine ⟨v, ?_, hr⟩
      unfold execOp
      simp only [hx', Sem.run_bind, hv, Result.andThen_ok, Sem.run_pure]
    · cases h
  case indexAddr t x y =>
    obtain ⟨hx, hy⟩ := hev
    obtain ⟨av, h1, rfl⟩ := Option.map_eq_some_iff.1 h
    obtain ⟨v, hv, hr⟩ := atA_rel (w := w) hx hy h1
    refine ⟨v, ?_, hr⟩
    unfold execOp
    simp only [Sem.run_bind, hv, Result.andThen_ok, Sem.run_pure]
  case extract x i =>
    split at h
    · rename_i l hx
      split at h
      · rename_i s hs
        injection h with h; subst h
        rw [hx] at hev
        obtain ⟨vs, hx', hl⟩ := hev
        obtain ⟨v, hv, hr⟩ := hl.get hs
        refine ⟨v, ?_, hr⟩
        simp [execOp, hx', Instr.extract, hv]
      · cases h
    · cases h
  case call c =>
    obtain ⟨callee, args, ats⟩ := c
    unfold callA at h
    split at h
    · rename_i f hcal
      dsimp only at hcal
      subst hcal
      split at h
      · rename_i g xs hf hargs
        injection h with h; subst h
        have hf' : RelA β W (a.eval f) (ev f) := hev f (by simp [Call.operands])
        rw [hf] at hf'
        replace hf' : a.eval f = .func (.func g) #[] #[] := hf'
        refine ⟨args.toList.map a.eval, svsOf_rel (fun x hx => hev x (by simp [Call.operands, Array.mem_toList_iff.1 hx])) hargs, fun hcb => ?_⟩
        have := run_callFunc hcb (args.toList.map a.eval).toArray w
        have e : (#[] ++ args.map a.eval ++ #[] : Array Value) = (args.toList.map a.eval).toArray := by
          cases args; simp
        simp only [execOp, resolve, hf', Deferred.ofValue, Sem.run_bind, Sem.run_pure, Result.andThen_ok, invoke]
        rw [e]; exact this
      · rename_i g xs hf hargs
        injection h with h; subst h
        have hf' : RelA β W (a.eval f) (ev f) := hev f (by simp [Call.operands])
        rw [hf] at hf'
        refine ⟨a.eval f, args.toList.map a.eval, hf', svsOf_rel (fun x hx => hev x (by simp [Call.operands, Array.mem_toList_iff.1 hx])) hargs, fun g vs us hg hcb => ?_⟩
        have := run_callFunc hcb (vs ++ (args.toList.map a.eval).toArray ++ us) w
        have e : (vs ++ args.map a.eval ++ us : Array Value) = vs ++ (args.toList.map a.eval).toArray ++ us := by
          cases args; simp
        simp only [execOp, resolve, hg, Deferred.ofValue, Sem.run_bind, Sem.run_pure, Result.andThen_ok, invoke]
        rw [e]; exact this
      · cases h
    · rename_i hcal
      dsimp only at hcal
      subst hcal
      split at h
      · rename_i args' x hargs
        dsimp only at hargs
        subst hargs
        split at h
        · rename_i ats' t hats
          dsimp only at hats
          subst hats
          have hx : RelA β W (a.eval x) (ev x) := hev x (by simp [Call.operands])
          split at h
          · rename_i e n hu hl
            injection h with h; subst h
            obtain ⟨A, c, hA⟩ := lenA_rel hl hx
            refine ⟨.int .i64 n, ?_, rfl⟩
            have := run_len (P := P) (ty := type) (w := w) (A := A) (n := n) (c := c) hu
            simp [execOp, resolve, invoke, builtin, hA, this, goInt]
          · rename_i hu
            split at h
            · rename_i s hs
              injection h with h; subst h
              refine ⟨.int .i64 s.size, ?_, rfl⟩
              have := run_len_str (P := P) (ty := type) (w := w) (s := s) hu
              simp [execOp, resolve, invoke, builtin, rawOf_rel hs hx, this, goInt]
            · cases h
          · cases h
        · cases h
      · cases h
    · cases h
end
end Go.Proofs.YtejkcmklhmifaaaGreatDoor.AM

/- An abstract machine for Go's code: part of the library of this claim. -/
/- The state of a call, and one operation carried out. -/
namespace Go.Proofs.YtejkcmklhmifaaaGreatDoor.AM
open Go Go.RowKit

/-- Digits of numbers are seen by both. -/
def U32 (W w : World) : Prop := ∀ p k z, exk k = true → w.cell? p = some (.int k z) → W.cell? p = some (.int k z)
/-- W, and what is new in w'. -/
def patch (W w' : World) : World := { w' with heap := W.heap ++ w'.heap.extract W.heap.size w'.heap.size }
section
variable {W w w' : World}
theorem patch_size (h : W.heap.size ≤ w'.heap.size) : (patch W w').heap.size = w'.heap.size := by
  simp [patch]; omega
theorem patch_get (i : Nat) : (patch W w').heap[i]? = if i < W.heap.size then W.heap[i]? else w'.heap[i]? := by
  unfold patch
  simp only [Array.getElem?_append]
  split
  · rfl
  · rename_i h
    rw [Array.getElem?_extract]
    split
    · congr 1; omega
    · rename_i h2
      rw [Array.getElem?_eq_none]
      omega
theorem patch_cell (p : Addr) : (patch W w').cell? p = if p.block < W.heap.size then W.cell? p else w'.cell? p := by
  unfold World.cell?
  rw [patch_get]
  by_cases h : p.block < W.heap.size
  · simp only [if_pos h]
  · simp only [if_neg h]
theorem cell_lt {p : Addr} {u : Value} (h : w.cell? p = some u) : p.block < w.heap.size := World.block_lt_of_cell? w p h
theorem Ext.patch (_hs : W.heap.size = w.heap.size) (_hb : Below w.heap.size w w') : Ext W (patch W w') := fun p u h => by
  rw [patch_cell, if_pos (cell_lt h)]; exact h
theorem patch_ext (hs : W.heap.size = w.heap.size) (he : Ext W w) (hb : Below w.heap.size w w') : Ext (patch W w') w' := fun p u h => by
  rw [patch_cell] at h
  split at h
  · rename_i hp
    exact (World.cell?_of_block (hb.block p.block (by omega))).trans (he p u h)
  · exact h
theorem U32.patch (hs : W.heap.size = w.heap.size) (hu : U32 W w) (hb : Below w.heap.size w w') : U32 (patch W w') w' := fun p k z hk h => by
  rw [patch_cell]
  split
  · rename_i hp
    exact hu p k z hk ((World.cell?_of_block (hb.block p.block (by omega))).symm.trans h)
  · exact h
end

def MemOk (β : Nat → Option Nat) (W w : World) (mem : List (Nat × VarSt)) : Prop :=
  ∀ m ∈ mem, ∃ g cs, β m.1 = some g ∧ g < w.heap.size ∧ w.heap[g]? = some (.cells cs m.2.t (0, 0)) ∧ All2 (RelC β W) cs.toList m.2.cs
/-- A function's contract: of what its arguments, and the rows that are handed in, are said to be, it returns what is said, and leaves all as it was. -/
def Fits (P : Program) (G : World → Prop) (f : FuncId) (args : List Sv) (mem : List (Nat × VarSt)) (res : Av) : Prop :=
  Callable P f ∧ ∀ (β : Nat → Option Nat) (W w : World) (vals : List Value), W.heap.size = w.heap.size → Ext W w → U32 W w → G w → All2 (RelS β W) vals args → MemOk β W w mem →
    Calls P f vals.toArray w fun e w' => ∃ v, e = .returned v ∧ RelA β (patch W w') v res ∧ Below w.heap.size w w'

/-- A world in which nothing is seen of one block. -/
def bare (W : World) (g : Nat) (t : TypeId) : World := { W with heap := W.heap.setIfInBounds g (.cells #[] t) }
theorem bare_cell (W : World) (g : Nat) (t : TypeId) (p : Addr) : (bare W g t).cell? p = if p.block = g then none else W.cell? p := by
  unfold bare World.cell?
  dsimp only
  rw [Array.getElem?_setIfInBounds]
  by_cases e : p.block = g
  · rw [if_pos e, if_pos e.symm]
    by_cases h : g < W.heap.size
    · rw [if_pos h]; simp
    · rw [if_neg h]
  · rw [if_neg e, if_neg (Ne.symm e)]
theorem bare_size (W : World) (g : Nat) (t : TypeId) : (bare W g t).heap.size = W.heap.size := by unfold bare; simp
def renC (id : Nat) : Cv → Cv
  | .ptr _ o => .ptr id o
  | .row _ o n c => .row id o n c
  | c => c
def renS (id : Nat) : Sv → Sv
  | .cel c => .cel (renC id c)
  | .agg l => .agg (l.map (renC id))
def renA (id : Nat) : Av → Av
  | .one s => .one (renS id s)
  | .tup l => .tup (l.map (renS id))
def only (x g : Nat) : Nat → Option Nat := fun y => if y = x then some g else none
theorem renC_rel {β : Nat → Option Nat} {x y g : Nat} {W : World} {v : Value} {c : Cv} (hb : β y = some g) (h : RelC (only x g) W v c) : RelC β W v (renC y c) := by
  cases c with
  | any => trivial
  | raw u => exact h
  | ent e => exact h
  | ptr z o =>
    obtain ⟨g', h1, h2⟩ := h
    unfold only at h1
    split at h1
    · injection h1 with h1; subst h1; exact ⟨g, hb, h2⟩
    · cases h1
  | row z o n d =>
    obtain ⟨g', h1, h2⟩ := h
    unfold only at h1
    split at h1
    · injection h1 with h1; subst h1; exact ⟨g, hb, h2⟩
    · cases h1
theorem renS_rel {β : Nat → Option Nat} {x y g : Nat} {W : World} {v : Value} {c : Sv} (hb : β y = some g) (h : RelS (only x g) W v c) : RelS β W v (renS y c) := by
  cases c with
  | cel c => exact renC_rel hb h
  | agg l => obtain ⟨vs, h1, h2⟩ := h; exact ⟨vs, h1, All2.mapR (R := RelC β W) (renC y) (h2.mono fun _ _ k => renC_rel hb k)⟩
theorem renA_rel {β : Nat → Option Nat} {x y g : Nat} {W : World} {v : Value} {c : Av} (hb : β y = some g) (h : RelA (only x g) W v c) : RelA β W v (renA y c) := by
  cases c with
  | one c => exact renS_rel hb h
  | tup l => obtain ⟨vs, h1, h2⟩ := h; exact ⟨vs, h1, All2.mapR (R := RelS β W) (renS y) (h2.mono fun _ _ k => renS_rel hb k)⟩
/-- A function's contract that hands back a new row, to be written: the row stands as 0. -/
def FitsO (P : Program) (G : World → Prop) (f : FuncId) (args : List Sv) (mem : List (Nat × VarSt)) (res : Av) (s : VarSt) : Prop :=
  Callable P f ∧ s.own = true ∧ ∀ (β : Nat → Option Nat) (W w : World) (vals : List Value), W.heap.size = w.heap.size → Ext W w → U32 W w → G w → All2 (RelS β W) vals args → MemOk β W w mem →
    Calls P f vals.toArray w fun e w' => ∃ v g cs, e = .returned v ∧ RelA (only 0 g) (bare (patch W w') g s.t) v res ∧ Below w.heap.size w w' ∧ w.heap.size ≤ g ∧ g < w'.heap.size ∧
      w'.heap[g]? = some (.cells cs s.t (0, 0)) ∧ All2 (HoldsC (bare (patch W w') g s.t)) cs.toList s.cs ∧ ∀ c ∈ cs.toList, okCell c = true

/-- The world in which the call began, and what was seen of it. -/
structure Base extends World where
  hid : World
structure Rep (w0 : Base) (G : World → Prop) (N : Nat) (β : Nat → Option Nat) (W : World) (tm : Nat → Av) (vr : Nat → Option VarSt) (a : Act) (w : World) : Prop where
  defers : a.defers = []
  room : N ≤ a.tmps.size
  tmp : ∀ t, RelA β W (a.tmps.getD t undef) (tm t)
  below : Below w0.heap.size w0.toWorld w
  old : ∀ p u, p.block < w0.heap.size → W.cell? p = some u → w0.hid.cell? p = some u
  size : W.heap.size = w.heap.size
  ext : Ext W w
  u32 : U32 W w
  glob : G w0.toWorld
  inj : ∀ x y g, β x = some g → β y = some g → w0.heap.size ≤ g → x = y
  var : ∀ x s, vr x = some s → ∃ g cs, β x = some g ∧ g < w.heap.size ∧ w.heap[g]? = some (.cells cs s.t (0, 0)) ∧ All2 (RelC β W) cs.toList s.cs ∧
    (s.own = true → w0.heap.size ≤ g ∧ (∀ p u, p.block = g → W.cell? p ≠ some u) ∧ ∀ c ∈ cs.toList, okCell c = true)
  dom : ∀ x g, β x = some g → (∃ s, vr x = some s) ∧ g < w.heap.size

def updT (tm : Nat → Av) : Option Tmp → Av → Nat → Av
  | none, _ => tm
  | some d, v => fun t => if t = d then v else tm t
inductive REff where
  | none
  | new (t : TypeId) (cs : List Cv)
  | sto (x off : Nat) (cs : List Cv)
  | put (x : Nat) (s : VarSt)
  | news (s : VarSt)
def updV (vr : Nat → Option VarSt) (id : Nat) : REff → Nat → Option VarSt
  | .none => vr
  | .new t cs => fun x => if x = id then some ⟨t, cs, true, .no⟩ else vr x
  | .sto x off cs => fun y => if y = x then (vr x).map (fun s => ⟨s.t, putL s.cs off cs, s.own, .no⟩) else vr y
  | .put x s => fun y => if y = x then (vr x).map (fun _ => s) else vr y
  | .news s => fun x => if x = id then some s else vr x
structure Rec where
  put : Av
  eff : REff
  touch : List Nat

def constA (v : Value) : Av := match v with | .agg cs => .one (.agg (cs.toList.map .raw)) | v => rawA v
def evF (tm : Nat → Av) : Operand → Av
  | .tmp t => tm t
  | .const v => constA v
  | .global g => rawA (.pointer (some ⟨g, 0, none⟩))
  | .func f => rawA (.func (.func f) #[] #[])
def boolA : Av → Option (Option Bool)
  | .one (.cel (.raw (.bool b))) => some (some b)
  | .one (.cel (.raw _)) => some none
  | .one (.cel (.ptr _ _)) => some none
  | .one (.cel (.row _ _ _ _)) => some none
  | .one (.agg _) => some none
  | .tup _ => some none
  | _ => none
def wantedA (ops : Array Oper) (tm : Nat → Av) (o : Oper) : Option Bool :=
  match o.guard with
  | none => some true
  | some (j, want) =>
    match (ops[j]?).bind (·.dst) with
    | none => some false
    | some d => match boolA (tm d) with
      | some (some b) => some (b == want)
      | some none => some false
      | none => none
def Norm (av put : Av) : Prop := ∀ (β : Nat → Option Nat) (W : World) (v : Value), RelA β W v av → RelA β W v put

/-- What an operation is reckoned to, its operands being told whole. -/
def PrimOk (P : Program) (op : Op) (ty : TypeId) (rs : List Value) (r : Value) : Prop :=
  ∀ (ρ : Operand → Value) (w : World), op.operands.toList.map ρ = rs → (execOp ρ { dst := none, op := op, type := ty, pos := "", after := #[], guard := none }).run P w = .ok (.value r) w
/-- An operation that leaves what there was: what it gives, of what is said of its operands. -/
def PureOk (P : Program) (op : Op) (ty : TypeId) (avs : List Av) (put : Av) : Prop :=
  ∀ (β : Nat → Option Nat) (W w : World) (ρ : Operand → Value), W.heap.size = w.heap.size → Ext W w → U32 W w → All2 (RelA β W) (op.operands.toList.map ρ) avs →
    ∃ r w', (execOp ρ { dst := none, op := op, type := ty, pos := "", after := #[], guard := none }).run P w = .ok (.value r) w' ∧ Below w.heap.size w w' ∧ RelA β (patch W w') r put
/-- An operation that makes a row. -/
def NewOk (P : Program) (op : Op) (ty : TypeId) (avs : List Av) (s : VarSt) (n c : Nat) : Prop :=
  s.own = true ∧ ∀ (β : Nat → Option Nat) (W w : World) (ρ : Operand → Value), W.heap.size = w.heap.size → Ext W w → U32 W w → All2 (RelA β W) (op.operands.toList.map ρ) avs →
    ∃ vs : List Value, (execOp ρ { dst := none, op := op, type := ty, pos := "", after := #[], guard := none }).run P w = .ok (.value (.slice (some ⟨w.heap.size, 0, none⟩) n c)) (w.alloc (.cells vs.toArray s.t)) ∧
      All2 (RelC β W) vs s.cs ∧ ∀ v ∈ vs, okCell v = true
/-- A thing is a function of the program's, with what it took along. -/
def Clo (e : Ent) (f : FuncId) (first caps : List Cv) : Prop := ∀ (W : World) (v : Value), e.holds W v → ∃ vs us : List Value, v = .func (.func f) vs.toArray us.toArray ∧ All2 (HoldsC W) vs first ∧ All2 (HoldsC W) us caps
def CallV (P : Program) (G : World → Prop) (e : Ent) (args : List Sv) (mem : List (Nat × VarSt)) (res : Av) : Prop :=
  ∃ f first caps, Clo e f first caps ∧ Fits P G f (first.map .cel ++ args ++ caps.map .cel) mem res
/-- What is frozen at its birth. -/
def frozenA (cs : List Cv) : Option (Nat × Nat) → Av
  | none => .one (.cel (.ent (ptrTo cs)))
  | some (n, _) => .one (.cel (.ent (rowOf n cs)))
inductive Does (P : Program) (G : World → Prop) (ops : Array Oper) (id : Nat) (o : Oper) (tm : Nat → Av) (vr : Nat → Option VarSt) : Rec → Prop
  | skip : wantedA ops tm o = some false → Does P G ops id o tm vr ⟨undefA, .none, []⟩
  | val {av put : Av} : wantedA ops tm o = some true → acc P o (evF tm) = some (.val av) → Norm av put → Does P G ops id o tm vr ⟨put, .none, []⟩
  | prim {rs : List Value} {r : Value} : wantedA ops tm o = some true → rawsOf (evF tm) o.op.operands.toList = some rs → PrimOk P o.op o.type rs r → Does P G ops id o tm vr ⟨rawA r, .none, []⟩
  | newp {t : TypeId} {cs : List Cv} : wantedA ops tm o = some true → acc P o (evF tm) = some (.new t cs none) → Does P G ops id o tm vr ⟨.one (.cel (.ptr id 0)), .new t cs, []⟩
  | newr {t : TypeId} {cs : List Cv} {n c : Nat} : wantedA ops tm o = some true → acc P o (evF tm) = some (.new t cs (some (n, c))) → Does P G ops id o tm vr ⟨.one (.cel (.row id 0 n c)), .new t cs, []⟩
  | load1 {x off : Nat} {s : VarSt} {c : Cv} {put : Av} : wantedA ops tm o = some true → acc P o (evF tm) = some (.load x off none) → vr x = some s → s.cs[off]? = some c → Norm (.one (.cel c)) put →
      Does P G ops id o tm vr ⟨put, .none, [x]⟩
  | loadn {x off n : Nat} {s : VarSt} {put : Av} : wantedA ops tm o = some true → acc P o (evF tm) = some (.load x off (some n)) → vr x = some s → off + n ≤ s.cs.length → Norm (.one (.agg ((s.cs.drop off).take n))) put →
      Does P G ops id o tm vr ⟨put, .none, [x]⟩
  | sto {x off : Nat} {cs : List Cv} {s : VarSt} : wantedA ops tm o = some true → acc P o (evF tm) = some (.sto x off cs) → vr x = some s → s.own = true → off + cs.length ≤ s.cs.length →
      Does P G ops id o tm vr ⟨undefA, .sto x off cs, [x]⟩
  | call {f : FuncId} {args : List Sv} {mem : List (Nat × VarSt)} {res : Av} : wantedA ops tm o = some true → acc P o (evF tm) = some (.call f args) → (∀ m ∈ mem, vr m.1 = some m.2) → Fits P G f args mem res →
      Does P G ops id o tm vr ⟨res, .none, mem.map (·.1)⟩
  | callo {f : FuncId} {args : List Sv} {mem : List (Nat × VarSt)} {res : Av} {s : VarSt} : wantedA ops tm o = some true → acc P o (evF tm) = some (.call f args) → (∀ m ∈ mem, vr m.1 = some m.2) → FitsO P G f args mem res s →
      Does P G ops id o tm vr ⟨renA id res, .news s, mem.map (·.1)⟩
  | callv {e : Ent} {args : List Sv} {mem : List (Nat × VarSt)} {res : Av} : wantedA ops tm o = some true → acc P o (evF tm) = some (.callv e args) → (∀ m ∈ mem, vr m.1 = some m.2) → CallV P G e args mem res →
      Does P G ops id o tm vr ⟨res, .none, mem.map (·.1)⟩
  | told {put : Av} : wantedA ops tm o = some true → PureOk P o.op o.type (o.op.operands.toList.map (evF tm)) put → Does P G ops id o tm vr ⟨put, .none, []⟩
  | make {s : VarSt} {n c : Nat} : wantedA ops tm o = some true → NewOk P o.op o.type (o.op.operands.toList.map (evF tm)) s n c → Does P G ops id o tm vr ⟨.one (.cel (.row id 0 n c)), .news s, []⟩
  | froz {t : TypeId} {cs : List Cv} {k : Option (Nat × Nat)} : wantedA ops tm o = some true → acc P o (evF tm) = some (.new t cs k) → (∀ c ∈ cs, varsC c = []) → Does P G ops id o tm vr ⟨frozenA cs k, .none, []⟩
  | stot {x off : Nat} {cs : List Cv} {s s' : VarSt} : wantedA ops tm o = some true → acc P o (evF tm) = some (.sto x off cs) → vr x = some s → s.own = true → off + cs.length ≤ s.cs.length → s'.t = s.t → s'.own = true → s'.cs = putL s.cs off cs →
      Does P G ops id o tm vr ⟨undefA, .put x s', [x]⟩

section
variable {P : Program} {w0 : Base} {G : World → Prop} {N : Nat} {β : Nat → Option Nat} {W w : World} {tm : Nat → Av} {vr : Nat → Option VarSt} {a : Act}

theorem Rep.eval (h : Rep w0 G N β W tm vr a w) (x : Operand) : RelA β W (a.eval x) (evF tm x) := by
  cases x with
  | tmp t => exact h.tmp t
  | const v =>
    show RelA β W v (constA v)
    unfold constA
    split
    · rename_i cs
      exact ⟨cs.toList, by simp, All2.self (R := RelC β W) (fun v => Cv.raw v) (fun _ => rfl) _⟩
    · rfl
  | global g => rfl
  | func f => rfl

def boolV : Value → Option Bool
  | .bool b => some b
  | _ => none
theorem boolA_rel {v : Value} {av : Av} {ob : Option Bool} (h : boolA av = some ob) (k : RelA β W v av) : boolV v = ob := by
  unfold boolA at h
  split at h
  all_goals (first | (cases h; done) | skip)
  · rename_i b; injection h with h; subst h; rw [show v = .bool b from k]; rfl
  · rename_i u hu; injection h with h; subst h; rw [show v = u from k]; unfold boolV; split
    · rename_i b; exact absurd rfl (hu b)
    · rfl
  · injection h with h; subst h; obtain ⟨g, _, rfl⟩ := k; rfl
  · injection h with h; subst h; obtain ⟨g, _, rfl⟩ := k; rfl
  · injection h with h; subst h; obtain ⟨g, rfl, _⟩ := k; rfl
  · injection h with h; subst h; obtain ⟨g, rfl, _⟩ := k; rfl

theorem wanted_rel {ops : Array Oper} {o : Oper} {b : Bool} (h : Rep w0 G N β W tm vr a w) (hw : wantedA ops tm o = some b) : Region.wanted o (yielded ops a.tmps) = b := by
  unfold wantedA at hw
  unfold Region.wanted
  split at hw
  · rename_i hg; injection hw with hw; rw [hg]; exact hw
  · rename_i j want hg
    rw [hg]
    dsimp only
    split at hw
    · rename_i hd; injection hw with hw; subst hw; unfold yielded; rw [hd]; rfl
    · rename_i d hd
      have ht := h.tmp d
      have key : ∀ ob, boolA (tm d) = some ob → yielded ops a.tmps j = ob := by
        intro ob hb
        have hr := boolA_rel hb ht
        unfold yielded
        rw [hd, ← hr]
        simp only [Option.bind_some]
        cases hq : a.tmps[d]? with
        | none =>
          have : a.tmps.getD d undef = undef := by simp [Array.getD_eq_getD_getElem?, hq]
          rw [this]; rfl
        | some u =>
          have : a.tmps.getD d undef = u := by simp [Array.getD_eq_getD_getElem?, hq]
          rw [this]
          cases u <;> rfl
      split at hw
      · rename_i b' hb; injection hw with hw; subst hw; rw [key _ hb]; cases b' <;> cases want <;> rfl
      · rename_i hb; injection hw with hw; subst hw; rw [key _ hb]; rfl
      · cases hw

theorem Rep.put (h : Rep w0 G N β W tm vr a w) {v : Value} {av : Av} (hv : RelA β W v av) (dst : Option Tmp) (hd : ∀ d, dst = some d → d < N) : Rep w0 G N β W (updT tm dst av) vr (a.put dst v) w := by
  cases dst with
  | none => exact h
  | some d =>
    have hlt := Nat.lt_of_lt_of_le (hd d rfl) h.room
    refine ⟨h.defers, by simpa [Act.put] using h.room, fun t => ?_, h.below, h.old, h.size, h.ext, h.u32, h.glob, h.inj, h.var, h.dom⟩
    show RelA β W ((a.tmps.setIfInBounds d v).getD t undef) (if t = d then av else tm t)
    rw [Array.getD_eq_getD_getElem?, Array.getElem?_setIfInBounds]
    by_cases e : t = d
    · subst e
      rw [if_pos rfl, if_pos rfl, if_pos hlt]
      exact hv
    · rw [if_neg e, if_neg (Ne.symm e), ← Array.getD_eq_getD_getElem?]
      exact h.tmp t

/-- A new variable. -/
theorem Rep.new (h : Rep w0 G N β W tm vr a w) {vs : List Value} {st : VarSt} {id : Nat} (hf : vr id = none) (hv : All2 (RelC β W) vs st.cs) (hok : ∀ v ∈ vs, okCell v = true) :
    ∃ β' W', β' id = some w.heap.size ∧ Rep w0 G N β' W' tm (updV vr id (.news st)) a (w.alloc (.cells vs.toArray st.t)) := by
  have hbf : β id = none := by
    cases e : β id with
    | none => rfl
    | some g => obtain ⟨⟨s, hs⟩, _⟩ := h.dom id g e; rw [hf] at hs; cases hs
  refine ⟨fun x => if x = id then some w.heap.size else β x, W.alloc (.cells #[] st.t), if_pos rfl, ?_⟩
  have hcellW : ∀ p, (W.alloc (.cells #[] st.t)).cell? p = W.cell? p := fun p => by
    by_cases e : p.block = W.heap.size
    · obtain ⟨b, o, s⟩ := p
      dsimp only at e
      subst e
      have h1 : (W.alloc (.cells #[] st.t)).cell? ⟨W.heap.size, o, s⟩ = none := by
        unfold World.cell?
        rw [show (W.alloc (.cells #[] st.t)).heap[W.heap.size]? = some (.cells #[] st.t) from World.alloc_heap_new W _]
        simp
      rw [h1]
      unfold World.cell?
      simp
    · exact World.cell?_alloc_old W _ p e
  have hup : Up β W (fun x => if x = id then some w.heap.size else β x) (W.alloc (.cells #[] st.t)) := by
    refine ⟨fun x g hx => ?_, fun p u hp => (hcellW p).trans hp, by simp⟩
    rw [if_neg (by rintro rfl; rw [hbf] at hx; cases hx)]
    exact hx
  have hlt : w0.heap.size ≤ w.heap.size := h.below.size
  refine ⟨h.defers, h.room, fun t => (h.tmp t).up hup, h.below.alloc hlt _, fun p u hp hc => h.old p u hp ((hcellW p).symm.trans hc), by simp [h.size], fun p u hp => ?_, fun p k z hk hp => ?_, h.glob, ?_, ?_, ?_⟩
  · rw [hcellW] at hp
    have := h.ext p u hp
    rw [World.cell?_alloc_lt w _ p (cell_lt this)]; exact this
  · rw [hcellW]
    by_cases e : p.block = w.heap.size
    · obtain ⟨b, o, s⟩ := p
      dsimp only at e
      subst e
      exfalso
      unfold World.cell? at hp
      rw [show (w.alloc (.cells vs.toArray st.t)).heap[w.heap.size]? = some (.cells vs.toArray st.t) from World.alloc_heap_new w _] at hp
      dsimp only at hp
      split at hp
      · cases hp
      · have := okCell_int (hok _ (by simpa using Array.mem_toList_iff.2 (Array.mem_of_getElem? hp)))
        rw [hk] at this; cases this
    · rw [World.cell?_alloc_old w _ p e] at hp; exact h.u32 p k z hk hp
  · intro x y g hx hy hg
    by_cases ex : x = id
    · by_cases ey : y = id
      · rw [ex, ey]
      · rw [if_pos ex] at hx; rw [if_neg ey] at hy
        injection hx with hx; subst hx
        have := (h.dom y _ hy).2; omega
    · by_cases ey : y = id
      · rw [if_neg ex] at hx; rw [if_pos ey] at hy
        injection hy with hy; subst hy
        have := (h.dom x _ hx).2; omega
      · rw [if_neg ex] at hx; rw [if_neg ey] at hy
        exact h.inj x y g hx hy hg
  · intro x s hx
    show ∃ g cs', _
    unfold updV at hx
    dsimp only at hx
    by_cases ex : x = id
    · rw [if_pos ex] at hx
      injection hx with hx; subst hx
      refine ⟨w.heap.size, vs.toArray, if_pos ex, by simp, World.alloc_heap_new w _, ?_, fun _ => ⟨hlt, fun p u hp hc => ?_, by simpa using hok⟩⟩
      · exact (by simpa using hv : All2 (RelC β W) vs.toArray.toList st.cs).mono fun _ _ hr => hr.up hup
      · rw [hcellW] at hc
        have := cell_lt hc
        rw [h.size] at this; omega
    · rw [if_neg ex] at hx
      obtain ⟨g, cs', h1, h2, h3, h4, h5⟩ := h.var x s hx
      refine ⟨g, cs', by rw [if_neg ex]; exact h1, by simp; omega, (Below.heap_alloc w _ g h2).trans h3, h4.mono fun _ _ hr => hr.up hup, fun ho => ?_⟩
      obtain ⟨a1, a2, a3⟩ := h5 ho
      exact ⟨a1, fun p u hp hc => a2 p u hp ((hcellW p).symm.trans hc), a3⟩
  · intro x g hx
    unfold updV
    dsimp only at hx ⊢
    by_cases ex : x = id
    · rw [if_pos ex] at hx ⊢
      injection hx with hx; subst hx
      exact ⟨⟨_, rfl⟩, by simp⟩
    · rw [if_neg ex] at hx ⊢
      obtain ⟨h1, h2⟩ := h.dom x g hx
      exact ⟨h1, by simp; omega⟩
end
end Go.Proofs.YtejkcmklhmifaaaGreatDoor.AM

/- One operation carried out. -/
namespace Go.Proofs.YtejkcmklhmifaaaGreatDoor.AM
open Go Go.RowKit

section
variable {P : Program} {w0 : Base} {G : World → Prop} {N : Nat} {β : Nat → Option Nat} {W w : World} {tm : Nat → Av} {vr : Nat → Option VarSt} {a : Act}

theorem cell_setRow_eq (w : World) (g : Nat) (cs : Array Value) (old : Array Value) (t : TypeId) (h : w.heap[g]? = some (.cells old t (0, 0))) (p : Addr) (hp : p.block = g) :
    (w.setRow g cs).cell? p = if p.spot.isSome then none else cs[p.off]? := by
  unfold World.cell?
  rw [hp, setRow_heap w g old cs t (0, 0) h]
/-- A variable of one's own written. -/
theorem Rep.put1 {id : Nat} (h : Rep w0 G N β W tm vr a w) {vs : List Value} {cs : List Cv} {x off g : Nat} {s st : VarSt} {old : Array Value} (hs : vr x = some s) (ho : s.own = true) (hb : β x = some g) (hg : w.heap[g]? = some (.cells old s.t (0, 0)))
    (e1 : st.t = s.t) (e3 : st.cs = putL s.cs off cs)
    (hv : All2 (RelC β W) vs cs) (hok : ∀ v ∈ vs, okCell v = true) : Rep w0 G N β W tm (updV vr id (.put x st)) a (w.setRow g (putL old.toList off vs).toArray) := by
  obtain ⟨g', old', h1, h2, h3, h4, h5⟩ := h.var x s hs
  obtain rfl : g = g' := by rw [hb] at h1; injection h1
  obtain rfl : old = old' := by rw [hg] at h3; injection h3 with h3; injection h3
  obtain ⟨a1, a2, a3⟩ := h5 ho
  have hex : Ext W (w.setRow g (putL old.toList off vs).toArray) := fun p u hp => by
    have hne : p.block ≠ g := fun e => a2 p u e hp
    rw [cell_setRow_other w g _ p hne]
    exact h.ext p u hp
  have hputok : ∀ c ∈ putL old.toList off vs, okCell c = true := fun c hc => by
    unfold putL at hc
    simp only [List.mem_append] at hc
    rcases hc with (hc | hc) | hc
    · exact a3 c (List.mem_of_mem_take hc)
    · exact hok c hc
    · exact a3 c (List.mem_of_mem_drop hc)
  refine ⟨h.defers, h.room, h.tmp, below_setRow h.below a1 _, h.old, by rw [setRow_size]; exact h.size, hex, fun p k z hk hp => ?_, h.glob, h.inj, ?_, fun y g' hy => ?_⟩
  · by_cases e : p.block = g
    · rw [cell_setRow_eq w g _ old s.t hg p e] at hp
      split at hp
      · cases hp
      · have := okCell_int (hputok _ (by simpa using Array.mem_toList_iff.2 (Array.mem_of_getElem? hp)))
        rw [hk] at this; cases this
    · rw [cell_setRow_other w g _ p e] at hp; exact h.u32 p k z hk hp
  · intro y s' hy
    unfold updV at hy
    dsimp only at hy
    by_cases e : y = x
    · subst e
      rw [if_pos rfl, hs] at hy
      injection hy with hy; subst hy
      refine ⟨g, (putL old.toList off vs).toArray, hb, by rw [setRow_size]; exact h2, by rw [e1]; exact setRow_heap w g old _ s.t (0, 0) hg, ?_, fun _ => ⟨a1, a2, by simpa using hputok⟩⟩
      rw [e3]
      simpa using All2.putted off h4 hv
    · rw [if_neg e] at hy
      obtain ⟨gy, csy, b1, b2, b3, b4, b5⟩ := h.var y s' hy
      have hne : gy ≠ g := fun e2 => by subst e2; exact e (h.inj y x gy b1 hb a1)
      exact ⟨gy, csy, b1, by rw [setRow_size]; exact b2, (setRow_other w g gy _ hne).trans b3, b4, b5⟩
  · rw [setRow_size]
    obtain ⟨⟨s', h6⟩, h7⟩ := h.dom y g' hy
    refine ⟨?_, h7⟩
    unfold updV
    dsimp only
    by_cases e : y = x
    · rw [if_pos e, hs]; exact ⟨_, rfl⟩
    · rw [if_neg e]; exact ⟨s', h6⟩
theorem updV_sto {vr : Nat → Option VarSt} {id x off : Nat} {cs : List Cv} {s : VarSt} (hs : vr x = some s) : updV vr id (.sto x off cs) = updV vr id (.put x ⟨s.t, putL s.cs off cs, s.own, .no⟩) := by
  funext y
  unfold updV
  dsimp only
  split
  · rw [hs]; rfl
  · rfl

/-- Behind a call. -/
theorem Rep.call (h : Rep w0 G N β W tm vr a w) {w' : World} (hb : Below w.heap.size w w') : Rep w0 G N β (patch W w') tm vr a w' := by
  have hex := Ext.patch h.size hb
  have hsz : W.heap.size ≤ w'.heap.size := by rw [h.size]; exact hb.size
  have hps := patch_size (W := W) (w' := w') hsz
  have hup : Up β W β (patch W w') := ⟨fun _ _ e => e, hex, by rw [hps]; exact hsz⟩
  refine ⟨h.defers, h.room, fun t => (h.tmp t).up hup, h.below.trans (hb.mono h.below.size), fun p u hp hc => h.old p u hp (by rw [patch_cell, if_pos (by have := h.below.size; have := h.size; omega)] at hc; exact hc), hps, patch_ext h.size h.ext hb, h.u32.patch h.size hb, h.glob, h.inj, ?_, fun x g hx => ?_⟩
  · intro x s hx
    obtain ⟨g, cs, h1, h2, h3, h4, h5⟩ := h.var x s hx
    refine ⟨g, cs, h1, Nat.lt_of_lt_of_le h2 hb.size, (hb.block g h2).trans h3, h4.mono fun _ _ hr => hr.up hup, fun ho => ?_⟩
    obtain ⟨a1, a2, a3⟩ := h5 ho
    refine ⟨a1, fun p u hp hc => ?_, a3⟩
    rw [patch_cell, if_pos (by rw [hp, h.size]; exact h2)] at hc
    exact a2 p u hp hc
  · obtain ⟨h1, h2⟩ := h.dom x g hx
    exact ⟨h1, Nat.lt_of_lt_of_le h2 hb.size⟩

/-- Behind a call that hands back a row. -/
theorem Rep.callo (h : Rep w0 G N β W tm vr a w) {w' : World} (hb : Below w.heap.size w w') {id g : Nat} {s : VarSt} {cs : Array Value} (hf : vr id = none) (h1 : w.heap.size ≤ g) (h2 : g < w'.heap.size)
    (h3 : w'.heap[g]? = some (.cells cs s.t (0, 0))) (h4 : All2 (HoldsC (bare (patch W w') g s.t)) cs.toList s.cs) (h5 : ∀ c ∈ cs.toList, okCell c = true) :
    ∃ β', β' id = some g ∧ Rep w0 G N β' (bare (patch W w') g s.t) tm (updV vr id (.news s)) a w' := by
  have hbf : β id = none := by
    cases e : β id with
    | none => rfl
    | some g => obtain ⟨⟨s, hs⟩, _⟩ := h.dom id g e; rw [hf] at hs; cases hs
  have hsz : W.heap.size ≤ w'.heap.size := by rw [h.size]; exact hb.size
  have hps := patch_size (W := W) (w' := w') hsz
  have hcell := bare_cell (patch W w') g s.t
  have hex : Ext W (bare (patch W w') g s.t) := fun p u hp => by
    have := cell_lt hp
    have := h.size
    rw [hcell, if_neg (by omega)]
    exact Ext.patch h.size hb p u hp
  have hup : Up β W (fun x => if x = id then some g else β x) (bare (patch W w') g s.t) := by
    refine ⟨fun x g' hx => ?_, hex, by rw [bare_size, hps]; exact hsz⟩
    rw [if_neg (by rintro rfl; rw [hbf] at hx; cases hx)]
    exact hx
  refine ⟨fun x => if x = id then some g else β x, if_pos rfl, h.defers, h.room, fun t => (h.tmp t).up hup, h.below.trans (hb.mono h.below.size), fun p u hp hc => ?_, by rw [bare_size]; exact hps, fun p u hp => ?_, fun p k z hk hp => ?_, h.glob, fun x y g' hx hy hg => ?_, fun x st hx => ?_, fun x g' hx => ?_⟩
  · have := h.below.size
    rw [hcell, if_neg (by omega)] at hc
    exact h.old p u hp (by rw [patch_cell, if_pos (by have := h.size; omega)] at hc; exact hc)
  · rw [hcell] at hp
    split at hp
    · cases hp
    · exact patch_ext h.size h.ext hb p u hp
  · rw [hcell]
    by_cases e : p.block = g
    · exfalso
      have hc := hp
      unfold World.cell? at hc
      rw [e, h3] at hc
      dsimp only at hc
      split at hc
      · cases hc
      · have := okCell_int (h5 _ (by simpa using Array.mem_toList_iff.2 (Array.mem_of_getElem? hc)))
        rw [hk] at this; cases this
    · rw [if_neg e]; exact h.u32.patch h.size hb p k z hk hp
  · try dsimp only at hx hy
    by_cases ex : x = id
    · by_cases ey : y = id
      · rw [ex, ey]
      · rw [if_pos ex] at hx; rw [if_neg ey] at hy
        injection hx with hx; subst hx
        have := (h.dom y _ hy).2; omega
    · by_cases ey : y = id
      · rw [if_neg ex] at hx; rw [if_pos ey] at hy
        injection hy with hy; subst hy
        have := (h.dom x _ hx).2; omega
      · rw [if_neg ex] at hx; rw [if_neg ey] at hy
        exact h.inj x y g' hx hy hg
  · unfold updV at hx
    dsimp only at hx
    by_cases ex : x = id
    · rw [if_pos ex] at hx
      injection hx with hx; subst hx
      refine ⟨g, cs, if_pos ex, h2, h3, h4.mono fun _ _ k => k.rel, fun _ => ⟨Nat.le_trans h.below.size h1, fun p u hp hc => ?_, h5⟩⟩
      rw [hcell, if_pos hp] at hc; cases hc
    · rw [if_neg ex] at hx
      obtain ⟨g1, cs1, c1, c2, c3, c4, c5⟩ := h.var x st hx
      refine ⟨g1, cs1, by rw [if_neg ex]; exact c1, Nat.lt_of_lt_of_le c2 hb.size, (hb.block g1 c2).trans c3, c4.mono fun _ _ hr => hr.up hup, fun ho => ?_⟩
      obtain ⟨a1, a2, a3⟩ := c5 ho
      refine ⟨a1, fun p u hp hc => ?_, a3⟩
      rw [hcell] at hc
      split at hc
      · cases hc
      · rw [patch_cell, if_pos (by rw [hp, h.size]; exact c2)] at hc
        exact a2 p u hp hc
  · try dsimp only at hx
    unfold updV
    dsimp only
    by_cases ex : x = id
    · rw [if_pos ex] at hx ⊢
      injection hx with hx; subst hx
      exact ⟨⟨_, rfl⟩, h2⟩
    · rw [if_neg ex] at hx ⊢
      obtain ⟨d1, d2⟩ := h.dom x g' hx
      exact ⟨d1, Nat.lt_of_lt_of_le d2 hb.size⟩

theorem does_sound {ops : Array Oper} {id : Nat} {o : Oper} {r : Rec} {K : Act → World → Prop} {Q : Exit → Act → World → Prop} (hG : ∀ {w w' : World}, Below w.heap.size w w' → G w → G w')
    (h : Rep w0 G N β W tm vr a w) (hD : Does P G ops id o tm vr r) (hd : ∀ d, o.dst = some d → d < N) (hf : (∃ t cs, r.eff = .new t cs) ∨ (∃ s, r.eff = .news s) → vr id = none)
    (hK : ∀ β' W' a' w', Rep w0 G N β' W' (updT tm o.dst r.put) (updV vr id r.eff) a' w' → K a' w') :
    if Region.wanted o (yielded ops a.tmps) = true then Oper.wp P o a w K Q else K (a.put o.dst undef) w := by
  cases hD with
  | skip hw =>
    rw [wanted_rel h hw]
    exact hK β W _ _ (h.put (av := undefA) rfl o.dst hd)
  | val hw ha hn =>
    rw [wanted_rel h hw, if_pos rfl]
    obtain ⟨v, h1, h2⟩ := acc_sound (w := w) o _ (fun x _ => h.eval x) ha
    unfold Oper.wp
    rw [h1]
    exact hK β W _ _ (h.put (hn _ _ _ h2) o.dst hd)
  | prim hw hr hp =>
    rw [wanted_rel h hw, if_pos rfl]
    have hv := rawsOf_rel (a := a) (fun x _ => h.eval x) hr
    have hx := hp a.eval w hv
    unfold Oper.wp
    rw [show execOp a.eval o = execOp a.eval { dst := none, op := o.op, type := o.type, pos := "", after := #[], guard := none } from rfl, hx]
    exact hK β W _ _ (h.put (av := rawA _) rfl o.dst hd)
  | newp hw ha =>
    rw [wanted_rel h hw, if_pos rfl]
    obtain ⟨vs, h1, h2, h3⟩ := acc_sound (w := w) o _ (fun x _ => h.eval x) ha
    unfold Oper.wp
    rw [h1]
    obtain ⟨β', W', hb, hr⟩ := h.new (st := ⟨_, _, true, .no⟩) (hf (.inl ⟨_, _, rfl⟩)) h2 h3
    exact hK β' W' _ _ (hr.put (av := .one (.cel (.ptr id 0))) ⟨_, hb, rfl⟩ o.dst hd)
  | newr hw ha =>
    rw [wanted_rel h hw, if_pos rfl]
    obtain ⟨vs, h1, h2, h3⟩ := acc_sound (w := w) o _ (fun x _ => h.eval x) ha
    unfold Oper.wp
    rw [h1]
    obtain ⟨β', W', hb, hr⟩ := h.new (st := ⟨_, _, true, .no⟩) (hf (.inl ⟨_, _, rfl⟩)) h2 h3
    exact hK β' W' _ _ (hr.put (av := .one (.cel (.row id 0 _ _))) ⟨_, hb, rfl⟩ o.dst hd)
  | @load1 x off s c put hw ha hx hc hn =>
    rw [wanted_rel h hw, if_pos rfl]
    obtain ⟨g, h1, h2⟩ := acc_sound (w := w) o _ (fun x _ => h.eval x) ha
    obtain ⟨g', cs, b1, b2, b3, b4, _⟩ := h.var x s hx
    obtain rfl : g = g' := by rw [h1] at b1; injection b1
    obtain ⟨u, hu, hr⟩ := b4.get hc
    have hcell : w.cell? ⟨g, off, none⟩ = some u := by rw [Lib.cell_of_heap b3]; simpa using hu
    unfold Oper.wp
    rw [h2 u hcell]
    exact hK β W _ _ (h.put (hn _ _ u hr) o.dst hd)
  | @loadn x off n s put hw ha hx hl hn =>
    rw [wanted_rel h hw, if_pos rfl]
    obtain ⟨g, h1, h2⟩ := acc_sound (w := w) o _ (fun x _ => h.eval x) ha
    obtain ⟨g', cs, b1, b2, b3, b4, _⟩ := h.var x s hx
    obtain rfl : g = g' := by rw [h1] at b1; injection b1
    have hlen := b4.length
    unfold Oper.wp
    rw [h2 ((cs.toList.drop off).take n) (by simp at hlen ⊢; omega) (fun i u hi => ?_)]
    · exact hK β W _ _ (h.put (hn _ _ _ ⟨_, rfl, (b4.drop off).take n⟩) o.dst hd)
    · rw [Lib.cell_of_heap b3]
      rw [List.getElem?_take] at hi
      split at hi
      · rw [List.getElem?_drop] at hi; simpa using hi
      · cases hi
  | @sto x off cs s hw ha hx ho hl =>
    rw [wanted_rel h hw, if_pos rfl]
    obtain ⟨g, vs, h1, h2, h3, h4⟩ := acc_sound (w := w) o _ (fun x _ => h.eval x) ha
    obtain ⟨g', old, b1, b2, b3, b4, _⟩ := h.var x s hx
    obtain rfl : g = g' := by rw [h1] at b1; injection b1
    have hlen := b4.length
    have hlv := h2.length
    unfold Oper.wp
    rw [h4 old s.t b3 (by rw [hlv, ← Array.length_toList, hlen]; exact hl)]
    have := (h.put1 (id := id) (st := ⟨s.t, putL s.cs off cs, s.own, .no⟩) hx ho h1 b3 rfl rfl h2 h3).put (av := undefA) rfl o.dst hd
    rw [← updV_sto hx] at this
    exact hK β W _ _ this
  | @stot x off cs s st hw ha hx ho hl e1 e2 e3 =>
    rw [wanted_rel h hw, if_pos rfl]
    obtain ⟨g, vs, h1, h2, h3, h4⟩ := acc_sound (w := w) o _ (fun x _ => h.eval x) ha
    obtain ⟨g', old, b1, b2, b3, b4, _⟩ := h.var x s hx
    obtain rfl : g = g' := by rw [h1] at b1; injection b1
    have hlen := b4.length
    have hlv := h2.length
    unfold Oper.wp
    rw [h4 old s.t b3 (by rw [hlv, ← Array.length_toList, hlen]; exact hl)]
    exact hK β W _ _ ((h.put1 (id := id) hx ho h1 b3 e1 e3 h2 h3).put (av := undefA) rfl o.dst hd)
  | told hw hp =>
    rw [wanted_rel h hw, if_pos rfl]
    obtain ⟨r, w', h1, h2, h3⟩ := hp β W w a.eval h.size h.ext h.u32 (All2.map2 (R := RelA β W) (f := a.eval) (g := evF tm) (fun x => h.eval x) _)
    unfold Oper.wp
    rw [show execOp a.eval o = execOp a.eval { dst := none, op := o.op, type := o.type, pos := "", after := #[], guard := none } from rfl, h1]
    exact hK β (patch W w') _ _ ((h.call h2).put h3 o.dst hd)
  | @make st n c hw hp =>
    rw [wanted_rel h hw, if_pos rfl]
    obtain ⟨vs, h1, h2, h3⟩ := hp.2 β W w a.eval h.size h.ext h.u32 (All2.map2 (R := RelA β W) (f := a.eval) (g := evF tm) (fun x => h.eval x) _)
    unfold Oper.wp
    rw [show execOp a.eval o = execOp a.eval { dst := none, op := o.op, type := o.type, pos := "", after := #[], guard := none } from rfl, h1]
    obtain ⟨β', W', hb, hr⟩ := h.new (st := st) (hf (.inr ⟨_, rfl⟩)) h2 h3
    exact hK β' W' _ _ (hr.put (av := .one (.cel (.row id 0 _ _))) ⟨_, hb, rfl⟩ o.dst hd)
  | @froz t cs k hw ha hc =>
    rw [wanted_rel h hw, if_pos rfl]
    obtain ⟨vs, h1, h2, h3⟩ := acc_sound (w := w) o _ (fun x _ => h.eval x) ha
    unfold Oper.wp
    rw [h1]
    have hb : Below w.heap.size w (w.alloc (.cells vs.toArray t)) := (Below.refl _ _).alloc (Nat.le_refl _) _
    refine hK β (patch W (w.alloc (.cells vs.toArray t))) _ _ ((h.call hb).put ?_ o.dst hd)
    have hcells : CellsAt (patch W (w.alloc (.cells vs.toArray t))) w.heap.size 0 cs := fun i c hi => by
      obtain ⟨u, hu, hr⟩ := h2.get hi
      refine ⟨u, ?_, ((hr.shut (hc c (List.mem_of_getElem? hi))).mono (Ext.patch h.size hb) (by rw [patch_size (by rw [h.size]; exact hb.size), h.size]; exact hb.size))⟩
      rw [patch_cell, if_neg (by dsimp only; have := h.size; omega)]
      unfold World.cell?
      rw [show (w.alloc (.cells vs.toArray t)).heap[w.heap.size]? = some (.cells vs.toArray t) from World.alloc_heap_new w _]
      simpa using hu
    cases k with
    | none => exact ⟨_, _, rfl, hcells⟩
    | some nc =>
      obtain ⟨n, c⟩ := nc
      exact ⟨_, _, rfl, .inr ⟨_, _, rfl, hcells⟩⟩
  | @call f args mem res hw ha hm hfit =>
    rw [wanted_rel h hw, if_pos rfl]
    obtain ⟨vals, h1, h2⟩ := acc_sound (w := w) o _ (fun x _ => h.eval x) ha
    unfold Oper.wp
    rw [h2 hfit.1]
    refine (hfit.2 β W w vals h.size h.ext h.u32 (hG h.below h.glob) h1 (fun m hmem => ?_)).mono ?_
    · obtain ⟨g, cs, b1, b2, b3, b4, _⟩ := h.var m.1 m.2 (hm m hmem)
      exact ⟨g, cs, b1, b2, b3, b4⟩
    · rintro e w' ⟨v, rfl, hr, hb⟩
      exact hK β (patch W w') _ _ ((h.call hb).put hr o.dst hd)
  | @callo f args mem res st hw ha hm hfit =>
    rw [wanted_rel h hw, if_pos rfl]
    obtain ⟨vals, h1, h2⟩ := acc_sound (w := w) o _ (fun x _ => h.eval x) ha
    unfold Oper.wp
    rw [h2 hfit.1]
    refine (hfit.2.2 β W w vals h.size h.ext h.u32 (hG h.below h.glob) h1 (fun m hmem => ?_)).mono ?_
    · obtain ⟨g, cs, b1, b2, b3, b4, _⟩ := h.var m.1 m.2 (hm m hmem)
      exact ⟨g, cs, b1, b2, b3, b4⟩
    · rintro e w' ⟨v, g, cs, rfl, hr, hb, e1, e2, e3, e4, e5⟩
      obtain ⟨β', hb', hR⟩ := h.callo (id := id) hb (hf (.inr ⟨_, rfl⟩)) e1 e2 e3 e4 e5
      exact hK β' _ _ _ (hR.put (renA_rel hb' hr) o.dst hd)
  | @callv e args mem res hw ha hm hfit =>
    rw [wanted_rel h hw, if_pos rfl]
    obtain ⟨u, vals, h0, h1, h2⟩ := acc_sound (w := w) o _ (fun x _ => h.eval x) ha
    obtain ⟨f, first, caps, hclo, hcal, hfit⟩ := hfit
    obtain ⟨vs, us, rfl, hv1, hv2⟩ := hclo W u h0
    unfold Oper.wp
    rw [h2 f _ _ rfl hcal]
    have hall : All2 (RelS β W) (vs ++ vals ++ us) (first.map .cel ++ args ++ caps.map .cel) := by
      refine ((All2.mapR (R := RelS β W) Sv.cel (hv1.mono fun _ _ k => k.rel)).append h1).append (All2.mapR (R := RelS β W) Sv.cel (hv2.mono fun _ _ k => k.rel))
    rw [show vs.toArray ++ vals.toArray ++ us.toArray = (vs ++ vals ++ us).toArray by simp]
    refine (hfit β W w _ h.size h.ext h.u32 (hG h.below h.glob) hall (fun m hmem => ?_)).mono ?_
    · obtain ⟨g, cs, b1, b2, b3, b4, _⟩ := h.var m.1 m.2 (hm m hmem)
      exact ⟨g, cs, b1, b2, b3, b4⟩
    · rintro e w' ⟨v, rfl, hr, hb⟩
      exact hK β (patch W w') _ _ ((h.call hb).put hr o.dst hd)
end
end Go.Proofs.YtejkcmklhmifaaaGreatDoor.AM

/- The machine, and regions whose order is told. -/
namespace Go.Proofs.YtejkcmklhmifaaaGreatDoor.AM
open Go Go.RowKit

/-- What the machine is told ahead: a call's answer, or another word for a value. -/
inductive Tr where
  | call (f : FuncId) (args : List Sv) (mem : List (Nat × VarSt)) (res : Av)
  | norm (id : Nat) (old put : Av)
  | loop (b : Code) (keep ids : List Nat) (tm : List Av) (vr : List (Nat × VarSt)) (e : Exit) (tm' : List Av) (vr' : List (Nat × VarSt)) (k' : Nat)
  | unroll
  | prim (id : Nat) (op : Op) (ty : TypeId) (rs : List Value) (r : Value)
  | told (op : Op) (ty : TypeId) (avs : List Av) (put : Av)
  | toldAt (id : Nat) (op : Op) (ty : TypeId) (avs : List Av) (put : Av)
  | make (op : Op) (ty : TypeId) (avs : List Av) (s : VarSt) (n c : Nat)
  | froz
  | keep
  | freeze (x : Nat) (cs : List Cv)
  | lod (cs : List Cv) (off : Nat) (n : Option Nat) (put : Av)
  | sto (cs : List Cv) (off : Nat) (us : List Cv) (cs' : List Cv) (sy : Sy cs')
  | callv (e : Ent) (args : List Sv) (mem : List (Nat × VarSt)) (res : Av)
  | callo (f : FuncId) (args : List Sv) (mem : List (Nat × VarSt)) (res : Av) (s : VarSt)
def look : List (Nat × VarSt) → Nat → Option VarSt
  | [], _ => none
  | (y, s) :: l, x => match Nat.beq y x with | true => some s | false => look l x
def tmF (tm : List Av) (t : Nat) : Av := tm.getD t undefA
/-- What is said of a call's memory is so. -/
def Is (w0 : Base) (G : World → Prop) (tm : List Av) (vr : List (Nat × VarSt)) (a : Act) (w : World) : Prop := ∃ β W, Rep w0 G tm.length β W (tmF tm) (look vr) a w
def TrOk (P : Program) (G : World → Prop) : Tr → Prop
  | .call f args mem res => Fits P G f args mem res
  | .norm _ old put => Norm old put
  | .loop b _ _ tm vr e tm' vr' _ => ∀ (w0 : Base) (Q : Exit → Act → World → Prop) (a : Act) (w : World), Is w0 G tm vr a w → (∀ a w, Is w0 G tm' vr' a w → Q e a w) → (Code.loop b).wp P Q a w
  | .unroll => True
  | .prim _ op ty rs r => PrimOk P op ty rs r
  | .told op ty avs put => PureOk P op ty avs put
  | .toldAt _ op ty avs put => PureOk P op ty avs put
  | .make op ty avs s n c => NewOk P op ty avs s n c
  | .froz => True
  | .keep => True
  | .freeze _ cs => ∀ c ∈ cs, varsC c = []
  | .lod cs off none put => ∃ c, cs[off]? = some c ∧ Norm (.one (.cel c)) put
  | .lod cs off (some n) put => off + n ≤ cs.length ∧ Norm (.one (.agg ((cs.drop off).take n))) put
  | .sto cs off us cs' _ => off + us.length ≤ cs.length ∧ cs' = putL cs off us
  | .callv e args mem res => CallV P G e args mem res
  | .callo f args mem res s => FitsO P G f args mem res s
structure St where
  tm : List Av
  vr : List (Nat × VarSt)
  k : Nat
  tr : List Tr
  out : List Tr

def varsS : Sv → List Nat
  | .cel c => varsC c
  | .agg l => l.flatMap varsC
def memOf (vr : List (Nat × VarSt)) : List Nat → Option (List (Nat × VarSt))
  | [] => some []
  | x :: l => match look vr x, memOf vr l with | some s, some r => some ((x, s) :: r) | _, _ => none
def normIt (id : Nat) (av : Av) (tr : List Tr) : Av × List Tr × Option Tr :=
  match tr with
  | .norm id' _ put :: tr' => (match Nat.beq id' id with | true => (put, tr', some (.norm id av put)) | false => (av, tr, none))
  | _ => (av, tr, none)
/-- Is a value told whole? -/
def primIt (id : Nat) (tr : List Tr) : Option (Value × List Tr) :=
  match tr with
  | .prim id' _ _ _ r :: tr' => (match Nat.beq id' id with | true => some (r, tr') | false => none)
  | _ => none
/-- Is all closed? -/
def shutC (cs : List Cv) : Bool := cs.all fun c => match varsC c with | [] => true | _ => false
def isSym (s : VarSt) : Bool := match s.sy with | .no => false | .yes _ => true
def newIt (id : Nat) (t : TypeId) (cs : List Cv) (k : Option (Nat × Nat)) (tr : List Tr) : Option (Rec × List Tr × Option Tr) :=
  match tr with
  | .froz :: tr' => (match shutC cs with | true => some (⟨frozenA cs k, .none, []⟩, tr', some .froz) | false => none)
  | .keep :: tr' => (match k with | none => some (⟨.one (.cel (.ptr id 0)), .new t cs, []⟩, tr', some .keep) | some (n, c) => some (⟨.one (.cel (.row id 0 n c)), .new t cs, []⟩, tr', some .keep))
  | _ => (match k with | none => some (⟨.one (.cel (.ptr id 0)), .new t cs, []⟩, tr, none) | some (n, c) => some (⟨.one (.cel (.row id 0 n c)), .new t cs, []⟩, tr, none))
/-- Is it told what an operation gives? -/
def atIt (id : Nat) (tr : List Tr) : Option (Av × List Tr) :=
  match tr with
  | .toldAt id' _ _ _ put :: tr' => (match Nat.beq id' id with | true => some (put, tr') | false => none)
  | _ => none
def doOp (P : Program) (ops : Array Oper) (id : Nat) (o : Oper) (tm : List Av) (vr : List (Nat × VarSt)) (tr : List Tr) : Option (Rec × List Tr × Option Tr) :=
  match wantedA ops (tmF tm) o with
  | none => none
  | some false => some (⟨undefA, .none, []⟩, tr, none)
  | some true =>
    match primIt id tr with
    | some (r, tr') => (match rawsOf (evF (tmF tm)) o.op.operands.toList with | some rs => some (⟨rawA r, .none, []⟩, tr', some (.prim id o.op o.type rs r)) | none => none)
    | none =>
    match atIt id tr with
    | some (put, tr') => some (⟨put, .none, []⟩, tr', some (.toldAt id o.op o.type (o.op.operands.toList.map (evF (tmF tm))) put))
    | none =>
    match acc P o (evF (tmF tm)) with
    | none =>
      (match tr with
      | .told _ _ _ put :: tr' => some (⟨put, .none, []⟩, tr', some (.told o.op o.type (o.op.operands.toList.map (evF (tmF tm))) put))
      | .make _ _ _ s n c :: tr' => some (⟨.one (.cel (.row id 0 n c)), .news s, []⟩, tr', some (.make o.op o.type (o.op.operands.toList.map (evF (tmF tm))) s n c))
      | _ => none)
    | some (.val av) => (match normIt id av tr with | (put, tr', po) => some (⟨put, .none, []⟩, tr', po))
    | some (.new t cs k) => newIt id t cs k tr
    | some (.load x off none) =>
      (match look vr x with
      | some s =>
        (match isSym s with
        | true => (match tr with
          | .lod _ _ _ put :: tr' => some (⟨put, .none, [x]⟩, tr', some (.lod s.cs off none put))
          | _ => none)
        | false => (match s.cs[off]? with
          | some c => (match normIt id (.one (.cel c)) tr with | (put, tr', po) => some (⟨put, .none, [x]⟩, tr', po))
          | none => none))
      | none => none)
    | some (.load x off (some n)) =>
      (match look vr x with
      | some s =>
        (match isSym s with
        | true => (match tr with
          | .lod _ _ _ put :: tr' => some (⟨put, .none, [x]⟩, tr', some (.lod s.cs off (some n) put))
          | _ => none)
        | false => if off + n ≤ s.cs.length then (match normIt id (.one (.agg ((s.cs.drop off).take n))) tr with | (put, tr', po) => some (⟨put, .none, [x]⟩, tr', po)) else none)
      | none => none)
    | some (.sto x off cs) =>
      (match look vr x with
      | some s =>
        (match isSym s with
        | true => (match tr, s.own with
          | .sto _ _ _ cs' sy :: tr', true => some (⟨undefA, .put x ⟨s.t, cs', true, sy⟩, [x]⟩, tr', some (.sto s.cs off cs cs' sy))
          | _, _ => none)
        | false => if s.own = true ∧ off + cs.length ≤ s.cs.length then some (⟨undefA, .sto x off cs, [x]⟩, tr, none) else none)
      | none => none)
    | some (.call f args) =>
      (match tr, memOf vr (args.flatMap varsS) with
      | .call _ _ _ res :: tr', some mem => some (⟨res, .none, mem.map (·.1)⟩, tr', some (.call f args mem res))
      | .callo _ _ _ res s :: tr', some mem => some (⟨renA id res, .news s, mem.map (·.1)⟩, tr', some (.callo f args mem res s))
      | _, _ => none)
    | some (.callv e args) =>
      (match tr, memOf vr (args.flatMap varsS) with
      | .callv _ _ _ res :: tr', some mem => some (⟨res, .none, mem.map (·.1)⟩, tr', some (.callv e args mem res))
      | _, _ => none)
def setT (tm : List Av) (dst : Option Tmp) (v : Av) : List Av := match dst with | none => tm | some d => tm.set d v
def setV (vr : List (Nat × VarSt)) (id : Nat) : REff → List (Nat × VarSt)
  | .none => vr
  | .new t cs => (id, ⟨t, cs, true, .no⟩) :: vr
  | .sto x off cs => match look vr x with | some s => (x, ⟨s.t, putL s.cs off cs, s.own, .no⟩) :: vr | none => vr
  | .put x s => match look vr x with | some _ => (x, s) :: vr | none => vr
  | .news s => (id, s) :: vr
def dstOk (n : Nat) : Option Tmp → Bool
  | none => true
  | some d => Nat.blt d n
def pushT (out : List Tr) : Option Tr → List Tr | none => out | some t => t :: out
/-- Operations one behind the other. -/
def seqOps (P : Program) (ops : Array Oper) : List Oper → St → Option St
  | [], S => some S
  | o :: l, S =>
    match dstOk S.tm.length o.dst, doOp P ops S.k o S.tm S.vr S.tr with
    | true, some (r, tr', po) => seqOps P ops l ⟨setT S.tm o.dst r.put, setV S.vr S.k r.eff, S.k + 1, tr', pushT S.out po⟩
    | _, _ => none

theorem look_setV (vr : List (Nat × VarSt)) (id : Nat) (e : REff) : look (setV vr id e) = updV (look vr) id e := by
  funext x
  cases e with
  | none => rfl
  | new t cs =>
    show (match Nat.beq id x with | true => _ | false => _) = _
    unfold updV
    dsimp only
    by_cases h : x = id
    · subst h; rw [if_pos rfl, Nat.beq_refl]
    · rw [if_neg h, show Nat.beq id x = false by rw [Bool.eq_false_iff]; intro e; exact h (Nat.eq_of_beq_eq_true e).symm]
  | sto y off cs =>
    unfold setV updV
    dsimp only
    cases hy : look vr y with
    | none =>
      dsimp only
      by_cases h : x = y
      · subst h; rw [if_pos rfl, hy]; rfl
      · rw [if_neg h]
    | some s =>
      show (match Nat.beq y x with | true => _ | false => _) = _
      by_cases h : x = y
      · subst h; rw [if_pos rfl, Nat.beq_refl]; rfl
      · rw [if_neg h, show Nat.beq y x = false by rw [Bool.eq_false_iff]; intro e; exact h (Nat.eq_of_beq_eq_true e).symm]
  | put y s =>
    unfold setV updV
    dsimp only
    cases hy : look vr y with
    | none =>
      dsimp only
      by_cases h : x = y
      · subst h; rw [if_pos rfl, hy]; rfl
      · rw [if_neg h]
    | some s0 =>
      show (match Nat.beq y x with | true => _ | false => _) = _
      by_cases h : x = y
      · subst h; rw [if_pos rfl, Nat.beq_refl]; rfl
      · rw [if_neg h, show Nat.beq y x = false by rw [Bool.eq_false_iff]; intro e; exact h (Nat.eq_of_beq_eq_true e).symm]
  | news s =>
    show (match Nat.beq id x with | true => _ | false => _) = _
    unfold updV
    dsimp only
    by_cases h : x = id
    · subst h; rw [if_pos rfl, Nat.beq_refl]
    · rw [if_neg h, show Nat.beq id x = false by rw [Bool.eq_false_iff]; intro e; exact h (Nat.eq_of_beq_eq_true e).symm]
theorem dstOk_lt {n d : Nat} (h : dstOk n (some d) = true) : d < n := Nat.le_of_ble_eq_true h
theorem tmF_setT (tm : List Av) (dst : Option Tmp) (v : Av) (h : dstOk tm.length dst = true) : tmF (setT tm dst v) = updT (tmF tm) dst v := by
  funext t
  cases dst with
  | none => rfl
  | some d =>
    have hd : d < tm.length := dstOk_lt h
    unfold setT updT tmF
    dsimp only
    rw [List.getD_eq_getElem?_getD, List.getElem?_set]
    by_cases e : t = d
    · subst e; rw [if_pos rfl, if_pos rfl, if_pos hd]; rfl
    · rw [if_neg e, if_neg (Ne.symm e), ← List.getD_eq_getElem?_getD]
theorem setT_length (tm : List Av) (dst : Option Tmp) (v : Av) : (setT tm dst v).length = tm.length := by
  cases dst <;> simp [setT]
theorem memOf_spec {vr : List (Nat × VarSt)} : ∀ {l : List Nat} {mem : List (Nat × VarSt)}, memOf vr l = some mem → (∀ m ∈ mem, look vr m.1 = some m.2) ∧ mem.map (·.1) = l
  | [], mem, h => by injection h with h; subst h; exact ⟨by simp, rfl⟩
  | x :: l, mem, h => by
    unfold memOf at h
    split at h
    · rename_i s r hs hr
      injection h with h; subst h
      obtain ⟨h1, h2⟩ := memOf_spec hr
      refine ⟨fun m hm => ?_, by rw [List.map_cons, h2]⟩
      rcases List.mem_cons.1 hm with rfl | hm
      · exact hs
      · exact h1 m hm
    · cases h
theorem normIt_spec {P : Program} {G : World → Prop} {id : Nat} {av put : Av} {tr tr' : List Tr} {po : Option Tr} (h : normIt id av tr = (put, tr', po)) (hok : ∀ t, po = some t → TrOk P G t) : Norm av put := by
  unfold normIt at h
  split at h
  · split at h
    · injection h with h1 h2; injection h2 with h2 h3
      subst h1; exact hok _ h3.symm
    · injection h with h1 h2; subst h1; exact fun _ _ _ h => h
  · injection h with h1 h2; subst h1; exact fun _ _ _ h => h

theorem shutC_spec {cs : List Cv} (h : shutC cs = true) : ∀ c ∈ cs, varsC c = [] := fun c hc => by
  have := List.all_eq_true.1 h c hc
  split at this
  · assumption
  · cases this
theorem newIt_does {P : Program} {G : World → Prop} {ops : Array Oper} {id : Nat} {o : Oper} {tm : List Av} {vr : List (Nat × VarSt)} {tr tr' : List Tr} {r : Rec} {po : Option Tr} {t : TypeId} {cs : List Cv} {k : Option (Nat × Nat)}
    (hw : wantedA ops (tmF tm) o = some true) (ha : acc P o (evF (tmF tm)) = some (.new t cs k)) (h : newIt id t cs k tr = some (r, tr', po)) : Does P G ops id o (tmF tm) (look vr) r := by
  unfold newIt at h
  split at h
  · split at h
    · rename_i hs
      injection h with h; injection h with h1 h2; subst h1
      exact .froz hw ha (shutC_spec hs)
    · cases h
  · split at h
    · injection h with h; injection h with h1 h2; subst h1
      exact .newp hw ha
    · injection h with h; injection h with h1 h2; subst h1
      exact .newr hw ha
  · split at h
    · injection h with h; injection h with h1 h2; subst h1
      exact .newp hw ha
    · injection h with h; injection h with h1 h2; subst h1
      exact .newr hw ha
theorem doOp_does {P : Program} {G : World → Prop} {ops : Array Oper} {id : Nat} {o : Oper} {tm : List Av} {vr : List (Nat × VarSt)} {tr tr' : List Tr} {r : Rec} {po : Option Tr}
    (h : doOp P ops id o tm vr tr = some (r, tr', po)) (hok : ∀ t, po = some t → TrOk P G t) : Does P G ops id o (tmF tm) (look vr) r := by
  unfold doOp at h
  split at h
  · cases h
  · rename_i hw
    injection h with h; injection h with h1 h2; subst h1
    exact .skip hw
  · rename_i hw
    split at h
    · split at h
      · rename_i rs hrs
        injection h with h; injection h with h1 h2; injection h2 with h2 h3; subst h1; subst h3
        exact .prim hw hrs (hok _ rfl)
      · cases h
    split at h
    · injection h with h; injection h with h1 h2; injection h2 with h2 h3; subst h1; subst h3
      exact .told hw (hok _ rfl)
    split at h
    · split at h
      · injection h with h; injection h with h1 h2; injection h2 with h2 h3; subst h1; subst h3
        exact .told hw (hok _ rfl)
      · injection h with h; injection h with h1 h2; injection h2 with h2 h3; subst h1; subst h3
        exact .make hw (hok _ rfl)
      · cases h
    · rename_i av ha
      split at h
      rename_i put tr'' po' hn
      injection h with h; injection h with h1 h2; injection h2 with h2 h3; subst h1; subst h3
      exact .val hw ha (normIt_spec hn hok)
    · rename_i t cs k ha
      exact newIt_does hw ha h
    · rename_i x off ha
      split at h
      · rename_i s hs
        split at h
        · split at h
          · injection h with h; injection h with h1 h2; injection h2 with h2 h3; subst h1; subst h3
            obtain ⟨c, h4, h5⟩ := hok _ rfl
            exact .load1 hw ha hs h4 h5
          · cases h
        split at h
        · rename_i c hc
          split at h
          rename_i put tr'' po' hn
          injection h with h; injection h with h1 h2; injection h2 with h2 h3; subst h1; subst h3
          exact .load1 hw ha hs hc (normIt_spec hn hok)
        · cases h
      · cases h
    · rename_i x off n ha
      split at h
      · rename_i s hs
        split at h
        · split at h
          · injection h with h; injection h with h1 h2; injection h2 with h2 h3; subst h1; subst h3
            have h4 := hok _ rfl
            exact .loadn hw ha hs h4.1 h4.2
          · cases h
        split at h
        · rename_i hle
          split at h
          rename_i put tr'' po' hn
          injection h with h; injection h with h1 h2; injection h2 with h2 h3; subst h1; subst h3
          exact .loadn hw ha hs hle (normIt_spec hn hok)
        · cases h
      · cases h
    · rename_i x off cs ha
      split at h
      · rename_i s hs
        split at h
        · split at h
          · rename_i ho _ _
            injection h with h; injection h with h1 h2; injection h2 with h2 h3; subst h1; subst h3
            have h4 := hok _ rfl
            exact .stot hw ha hs (by assumption) h4.1 rfl rfl h4.2
          · cases h
        split at h
        · rename_i hc
          injection h with h; injection h with h1 h2; subst h1
          exact .sto hw ha hs hc.1 hc.2
        · cases h
      · cases h
    · rename_i f args ha
      split at h
      · rename_i mem hm _ _
        injection h with h; injection h with h1 h2; injection h2 with h2 h3; subst h1; subst h3
        exact .call hw ha (memOf_spec hm).1 (hok _ rfl)
      · rename_i mem hm _ _
        injection h with h; injection h with h1 h2; injection h2 with h2 h3; subst h1; subst h3
        exact .callo hw ha (memOf_spec hm).1 (hok _ rfl)
      · cases h
    · rename_i f args ha
      split at h
      · rename_i mem hm _ _
        injection h with h; injection h with h1 h2; injection h2 with h2 h3; subst h1; subst h3
        exact .callv hw ha (memOf_spec hm).1 (hok _ rfl)
      · cases h

/-- The state is so. -/
def Sat (w0 : Base) (G : World → Prop) (S : St) (a : Act) (w : World) : Prop := Is w0 G S.tm S.vr a w ∧ ∀ x, S.k ≤ x → look S.vr x = none
theorem setV_fresh {vr : List (Nat × VarSt)} {id : Nat} (e : REff) (h : ∀ x, id ≤ x → look vr x = none) : ∀ x, id + 1 ≤ x → look (setV vr id e) x = none := fun x hx => by
  rw [look_setV]
  cases e with
  | none => exact h x (by omega)
  | new t cs => unfold updV; dsimp only; rw [if_neg (by omega)]; exact h x (by omega)
  | sto y off cs =>
    unfold updV
    dsimp only
    by_cases e : x = y
    · subst e; rw [if_pos rfl, h x (by omega)]; rfl
    · rw [if_neg e]; exact h x (by omega)
  | put y s =>
    unfold updV
    dsimp only
    by_cases e : x = y
    · subst e; rw [if_pos rfl, h x (by omega)]; rfl
    · rw [if_neg e]; exact h x (by omega)
  | news s => unfold updV; dsimp only; rw [if_neg (by omega)]; exact h x (by omega)

theorem seqOps_sound {P : Program} {G : World → Prop} {ops : Array Oper} {w0 : Base} {Q : Exit → Act → World → Prop} (hG : ∀ {w w' : World}, Below w.heap.size w w' → G w → G w') :
    ∀ (l : List Oper) (S S' : St) (a : Act) (w : World), seqOps P ops l S = some S' → (∀ t ∈ S'.out, TrOk P G t) → Sat w0 G S a w → (∀ a w, Sat w0 G S' a w → Q .normal a w) → wpList P ops Q l a w ∧ (∀ t ∈ S.out, t ∈ S'.out)
  | [], S, S', a, w, h, _, hS, hQ => by
    injection h with h; subst h
    exact ⟨hQ a w hS, fun t ht => ht⟩
  | o :: l, S, S', a, w, h, hok, hS, hQ => by
    unfold seqOps at h
    split at h
    · rename_i r tr' po hdst hdo
      have key : ∀ a w, Sat w0 G ⟨setT S.tm o.dst r.put, setV S.vr S.k r.eff, S.k + 1, tr', pushT S.out po⟩ a w → wpList P ops Q l a w ∧ ∀ t ∈ pushT S.out po, t ∈ S'.out :=
        fun a w hs => seqOps_sound hG l _ S' a w h hok hs hQ
      have hsub : ∀ (a : Act) (w : World), Sat w0 G ⟨setT S.tm o.dst r.put, setV S.vr S.k r.eff, S.k + 1, tr', pushT S.out po⟩ a w → wpList P ops Q l a w := fun a w hs => (key a w hs).1
      have hout : ∀ t ∈ pushT S.out po, t ∈ S'.out := seqOut l _ S' h
      have hpo : ∀ t, po = some t → TrOk P G t := fun t e => hok t (hout t (by subst e; exact List.mem_cons_self ..))
      refine ⟨?_, fun t ht => hout t (by cases po with | none => exact ht | some u => exact List.mem_cons_of_mem _ ht)⟩
      obtain ⟨⟨β, W, hR⟩, hfr⟩ := hS
      refine wpList_step fun K hK => does_sound hG hR (doOp_does hdo hpo) (fun d hd => dstOk_lt (by rw [hd] at hdst; exact hdst)) (fun _ => hfr S.k (Nat.le_refl _)) fun β' W' a' w' hR' => hK a' w' (hsub a' w' ⟨⟨β', W', ?_⟩, setV_fresh _ hfr⟩)
      rw [← tmF_setT _ _ _ hdst, ← look_setV] at hR'
      dsimp only
      rw [setT_length]
      exact hR'
    · cases h
where
  seqOut {P : Program} {ops : Array Oper} : ∀ (l : List Oper) (S S' : St), seqOps P ops l S = some S' → ∀ t ∈ S.out, t ∈ S'.out
  | [], S, S', h => by injection h with h; subst h; exact fun t ht => ht
  | o :: l, S, S', h => by
    unfold seqOps at h
    split at h
    · rename_i r tr' po hdst hdo
      intro t ht
      refine seqOut l _ S' h t ?_
      cases po with
      | none => exact ht
      | some u => exact List.mem_cons_of_mem _ ht
    · cases h
end Go.Proofs.YtejkcmklhmifaaaGreatDoor.AM

/- An abstract machine for Go's code: part of the library of this claim. -/
/- Regions whose order is drawn: what does not wait for each other does not meet. -/
namespace Go.Proofs.YtejkcmklhmifaaaGreatDoor.AM
open Go Go.RowKit

/-- For each operation the set of those that come ahead of it in any order. -/
def anc1 (acc : List Nat) (o : Oper) : Nat := o.after.toList.foldl (fun s e => match Region.binds .any e with | true => Nat.lor s (Nat.lor (2 ^ e.on) (acc.getD e.on 0)) | false => s) 0
def ancs : List Oper → List Nat → List Nat
  | [], acc => acc
  | o :: l, acc => ancs l (acc ++ [anc1 acc o])
def guardT (ops : Array Oper) (o : Oper) : List Tmp :=
  match o.guard with
  | none => []
  | some (j, _) => match (ops[j]?).bind (·.dst) with | none => [] | some d => [d]
def tmpsOf : List Operand → List Tmp
  | [] => []
  | .tmp t :: l => t :: tmpsOf l
  | _ :: l => tmpsOf l
def readsT (ops : Array Oper) (o : Oper) : List Tmp := tmpsOf o.op.operands.toList ++ guardT ops o
def writesV (id : Nat) : REff → Option Nat
  | .none => none
  | .new _ _ => some id
  | .sto x _ _ => some x
  | .put x _ => some x
  | .news _ => some id
def memN (x : Nat) : List Nat → Bool
  | [] => false
  | y :: l => match Nat.beq x y with | true => true | false => memN x l
theorem memN_iff {x : Nat} : ∀ {l : List Nat}, memN x l = true ↔ x ∈ l
  | [] => by simp [memN]
  | y :: l => by
    unfold memN
    split
    · rename_i h; simp [Nat.eq_of_beq_eq_true h]
    · rename_i h
      have hne : x ≠ y := fun e => by subst e; rw [Nat.beq_refl] at h; cases h
      rw [memN_iff (l := l)]; simp [hne]
def ordered (A : List Nat) (i j : Nat) : Bool :=
  match Nat.blt j i with
  | true => (A.getD i 0).testBit j
  | false => match Nat.blt i j with | true => (A.getD j 0).testBit i | false => true
/-- Does the one write what the other meets? -/
def meets (ops : Array Oper) (k : Nat) (oi : Oper) (ri : Rec) (j : Nat) (oj : Oper) (rj : Rec) : Bool :=
  (match oj.dst with | none => false | some t => memN t (readsT ops oi) || (match oi.dst with | none => false | some u => Nat.beq t u)) ||
  (match writesV (k + j) rj.eff with | none => false | some x => memN x ri.touch)
def apartAll (ops : Array Oper) (k : Nat) (A : List Nat) (i : Nat) (oi : Oper) (ri : Rec) : Nat → List (Oper × Rec) → Bool
  | _, [] => true
  | j, (oj, rj) :: l => match meets ops k oi ri j oj rj with
    | true => (match ordered A i j with | true => apartAll ops k A i oi ri (j + 1) l | false => false)
    | false => apartAll ops k A i oi ri (j + 1) l
def edgesOk (i : Nat) (o : Oper) : Bool := o.after.toList.all fun e => match Region.binds .any e with | true => Nat.blt e.on i | false => true
def chk (ops : Array Oper) (k : Nat) (A : List Nat) (all : List (Oper × Rec)) : Nat → List (Oper × Rec) → Bool
  | _, [] => true
  | i, (oi, ri) :: l => match edgesOk i oi, apartAll ops k A i oi ri 0 all with | true, true => chk ops k A all (i + 1) l | _, _ => false

/-- Operations one behind the other, and what each did. -/
def canon (P : Program) (ops : Array Oper) : List Oper → St → List (Oper × Rec) → Option (St × List (Oper × Rec))
  | [], S, rs => some (S, rs)
  | o :: l, S, rs =>
    match dstOk S.tm.length o.dst, doOp P ops S.k o S.tm S.vr S.tr with
    | true, some (r, tr', po) => canon P ops l ⟨setT S.tm o.dst r.put, setV S.vr S.k r.eff, S.k + 1, tr', pushT S.out po⟩ (rs ++ [(o, r)])
    | _, _ => none
def drawnOps (P : Program) (ops : Array Oper) (S : St) : Option St :=
  match canon P ops ops.toList S [] with
  | some (S', rs) => (match chk ops S.k (ancs ops.toList []) rs 0 rs with | true => some S' | false => none)
  | none => none

/-- What the list of what was done makes of temporaries, of variables. -/
def stT (tm : Nat → Av) : List (Oper × Rec) → Nat → Av
  | [] => tm
  | x :: l => stT (updT tm x.1.dst x.2.put) l
def stV (k : Nat) (vr : Nat → Option VarSt) : List (Oper × Rec) → Nat → Option VarSt
  | [] => vr
  | x :: l => stV (k + 1) (updV vr k x.2.eff) l
theorem stT_snoc (x : Oper × Rec) : ∀ (l : List (Oper × Rec)) (tm : Nat → Av), stT tm (l ++ [x]) = updT (stT tm l) x.1.dst x.2.put
  | [], _ => rfl
  | _y :: l, _tm => stT_snoc x l _
theorem stV_snoc (x : Oper × Rec) : ∀ (l : List (Oper × Rec)) (k : Nat) (vr : Nat → Option VarSt), stV k vr (l ++ [x]) = updV (stV k vr l) (k + l.length) x.2.eff
  | [], _, _ => rfl
  | y :: l, k, vr => by
    show stV (k + 1) _ (l ++ [x]) = _
    rw [stV_snoc x l (k + 1) _, show k + 1 + l.length = k + (y :: l).length by simp; omega]
    rfl
theorem take_succ_snoc {α : Type} {l : List α} {m : Nat} {x : α} (h : l[m]? = some x) : l.take (m + 1) = l.take m ++ [x] := by
  rw [List.take_add_one, h]; rfl

section
variable {P : Program} {G : World → Prop} {ops : Array Oper}

theorem evF_congr {tm tm' : Nat → Av} {l : List Operand} (h : ∀ t ∈ tmpsOf l, tm t = tm' t) : ∀ x ∈ l, evF tm x = evF tm' x := by
  induction l with
  | nil => intro x hx; cases hx
  | cons y l ih =>
    intro x hx
    rcases List.mem_cons.1 hx with rfl | hx
    · cases x with
      | tmp t => exact h t (List.mem_cons_self ..)
      | const v => rfl
      | global g => rfl
      | func f => rfl
    · refine ih (fun t ht => h t ?_) x hx
      cases y with
      | tmp u => exact List.mem_cons_of_mem _ ht
      | const v => exact ht
      | global g => exact ht
      | func f => exact ht
theorem does_congr {id : Nat} {o : Oper} {tm tm' : Nat → Av} {vr vr' : Nat → Option VarSt} {r : Rec} (h : Does P G ops id o tm vr r) (ht : ∀ t ∈ readsT ops o, tm t = tm' t) (hv : ∀ x ∈ r.touch, vr x = vr' x) : Does P G ops id o tm' vr' r := by
  have ha : acc P o (evF tm) = acc P o (evF tm') := acc_congr P o (evF_congr fun t h => ht t (List.mem_append_left _ h))
  have hw : wantedA ops tm o = wantedA ops tm' o := by
    have hg : ∀ t ∈ guardT ops o, tm t = tm' t := fun t h => ht t (List.mem_append_right _ h)
    unfold guardT at hg
    unfold wantedA
    cases hgd : o.guard with
    | none => rfl
    | some jw =>
      obtain ⟨j, want⟩ := jw
      rw [hgd] at hg
      dsimp only at hg ⊢
      cases hd : (ops[j]?).bind (·.dst) with
      | none => rfl
      | some d =>
        rw [hd] at hg
        dsimp only
        rw [hg d (List.mem_cons_self ..)]
  cases h with
  | skip h1 => exact .skip (hw ▸ h1)
  | val h1 h2 h3 => exact .val (hw ▸ h1) (ha ▸ h2) h3
  | prim h1 h2 h3 => exact .prim (hw ▸ h1) ((rawsOf_congr (evF_congr fun t h => ht t (List.mem_append_left _ h))) ▸ h2) h3
  | newp h1 h2 => exact .newp (hw ▸ h1) (ha ▸ h2)
  | newr h1 h2 => exact .newr (hw ▸ h1) (ha ▸ h2)
  | @load1 x off s c put h1 h2 h3 h4 h5 => exact .load1 (hw ▸ h1) (ha ▸ h2) ((hv x (List.mem_cons_self ..)) ▸ h3) h4 h5
  | @loadn x off n s put h1 h2 h3 h4 h5 => exact .loadn (hw ▸ h1) (ha ▸ h2) ((hv x (List.mem_cons_self ..)) ▸ h3) h4 h5
  | @sto x off cs s h1 h2 h3 h4 h5 => exact .sto (hw ▸ h1) (ha ▸ h2) ((hv x (List.mem_cons_self ..)) ▸ h3) h4 h5
  | @stot x off cs s s' h1 h2 h3 h4 h5 h6 h7 h8 => exact .stot (hw ▸ h1) (ha ▸ h2) ((hv x (List.mem_cons_self ..)) ▸ h3) h4 h5 h6 h7 h8
  | call h1 h2 h3 h4 => exact .call (hw ▸ h1) (ha ▸ h2) (fun m hm => (hv m.1 (List.mem_map.2 ⟨m, hm, rfl⟩)) ▸ h3 m hm) h4
  | callo h1 h2 h3 h4 => exact .callo (hw ▸ h1) (ha ▸ h2) (fun m hm => (hv m.1 (List.mem_map.2 ⟨m, hm, rfl⟩)) ▸ h3 m hm) h4
  | callv h1 h2 h3 h4 => exact .callv (hw ▸ h1) (ha ▸ h2) (fun m hm => (hv m.1 (List.mem_map.2 ⟨m, hm, rfl⟩)) ▸ h3 m hm) h4
  | froz h1 h2 h3 => exact .froz (hw ▸ h1) (ha ▸ h2) h3
  | told h1 h2 =>
    have he : o.op.operands.toList.map (evF tm) = o.op.operands.toList.map (evF tm') := List.map_congr_left (evF_congr fun t h => ht t (List.mem_append_left _ h))
    exact .told (hw ▸ h1) (he ▸ h2)
  | make h1 h2 =>
    have he : o.op.operands.toList.map (evF tm) = o.op.operands.toList.map (evF tm') := List.map_congr_left (evF_congr fun t h => ht t (List.mem_append_left _ h))
    exact .make (hw ▸ h1) (he ▸ h2)
end

/-! What is checked says. -/
theorem anc1_spec {acc : List Nat} {o : Oper} {k : Nat} (h : (anc1 acc o).testBit k = true) : ∃ e ∈ o.after, Region.binds .any e = true ∧ (k = e.on ∨ (acc.getD e.on 0).testBit k = true) := by
  have key : ∀ (l : List Edge) (s : Nat), (l.foldl (fun s e => match Region.binds .any e with | true => Nat.lor s (Nat.lor (2 ^ e.on) (acc.getD e.on 0)) | false => s) s).testBit k = true →
      s.testBit k = true ∨ ∃ e ∈ l, Region.binds .any e = true ∧ (k = e.on ∨ (acc.getD e.on 0).testBit k = true) := by
    intro l
    induction l with
    | nil => intro s hs; exact .inl hs
    | cons e l ih =>
      intro s hs
      rw [List.foldl_cons] at hs
      rcases ih _ hs with h1 | ⟨e', he, h1⟩
      · split at h1
        · rename_i hb
          rw [show Nat.lor s (Nat.lor (2 ^ e.on) (acc.getD e.on 0)) = s ||| (2 ^ e.on ||| acc.getD e.on 0) from rfl, Nat.testBit_or, Nat.testBit_or, Bool.or_eq_true, Bool.or_eq_true] at h1
          rcases h1 with h1 | h1 | h1
          · exact .inl h1
          · rw [Nat.testBit_two_pow] at h1
            exact .inr ⟨e, List.mem_cons_self .., hb, .inl (of_decide_eq_true h1).symm⟩
          · exact .inr ⟨e, List.mem_cons_self .., hb, .inr h1⟩
        · exact .inl h1
      · exact .inr ⟨e', List.mem_cons_of_mem _ he, h1⟩
  rcases key o.after.toList 0 h with h1 | ⟨e, he, h1⟩
  · simp at h1
  · exact ⟨e, Array.mem_toList_iff.1 he, h1⟩
theorem ancs_prefix : ∀ (l : List Oper) (acc : List Nat) (i : Nat), i < acc.length → (ancs l acc).getD i 0 = acc.getD i 0
  | [], _, _, _ => rfl
  | o :: l, acc, i, h => by
    unfold ancs
    rw [ancs_prefix l _ i (by simp; omega)]
    simp [List.getD_eq_getElem?_getD, List.getElem?_append_left h]
theorem ancs_spec : ∀ (l : List Oper) (acc : List Nat) (i : Nat) (o : Oper) (k : Nat), l[i]? = some o → ((ancs l acc).getD (acc.length + i) 0).testBit k = true →
    ∃ e ∈ o.after, Region.binds .any e = true ∧ (k = e.on ∨ ((ancs l acc).getD e.on 0).testBit k = true)
  | [], _, _, _, _, h, _ => by simp at h
  | o' :: l, acc, 0, o, k, h, hk => by
    simp at h; subst h
    unfold ancs at hk ⊢
    rw [ancs_prefix l _ (acc.length + 0) (by simp)] at hk
    have : (acc ++ [anc1 acc o']).getD (acc.length + 0) 0 = anc1 acc o' := by simp [List.getD_eq_getElem?_getD]
    rw [this] at hk
    obtain ⟨e, he, hb, h1⟩ := anc1_spec hk
    refine ⟨e, he, hb, ?_⟩
    rcases h1 with h1 | h1
    · exact .inl h1
    · refine .inr ?_
      have hlt : e.on < acc.length := by
        rcases Nat.lt_or_ge e.on acc.length with h | h
        · exact h
        · simp [List.getD_eq_getElem?_getD, List.getElem?_eq_none h] at h1
      rw [ancs_prefix l _ e.on (by simp; omega)]
      simpa [List.getD_eq_getElem?_getD, List.getElem?_append_left hlt] using h1
  | o' :: l, acc, i + 1, o, k, h, hk => by
    simp at h
    unfold ancs at hk ⊢
    have := ancs_spec l (acc ++ [anc1 acc o']) i o k h (by simpa [Nat.add_assoc, Nat.add_comm 1 i] using hk)
    exact this
theorem apartAll_spec {ops : Array Oper} {k : Nat} {A : List Nat} {i : Nat} {oi : Oper} {ri : Rec} : ∀ {l : List (Oper × Rec)} {j0 : Nat}, apartAll ops k A i oi ri j0 l = true → ∀ j oj rj, l[j]? = some (oj, rj) → meets ops k oi ri (j0 + j) oj rj = true → ordered A i (j0 + j) = true
  | [], _, _, j, oj, rj, h, _ => by simp at h
  | (o', r') :: l, j0, hA, j, oj, rj, h, hm => by
    unfold apartAll at hA
    cases j with
    | zero =>
      simp at h; obtain ⟨rfl, rfl⟩ := h
      rw [Nat.add_zero] at hm ⊢
      rw [hm] at hA
      dsimp only at hA
      split at hA
      · assumption
      · cases hA
    | succ j =>
      simp at h
      have hrest : apartAll ops k A i oi ri (j0 + 1) l = true := by
        split at hA
        · split at hA
          · exact hA
          · cases hA
        · exact hA
      have := apartAll_spec hrest j oj rj h (by rw [show j0 + 1 + j = j0 + (j + 1) by omega]; exact hm)
      rwa [show j0 + 1 + j = j0 + (j + 1) by omega] at this
theorem chk_spec {ops : Array Oper} {k : Nat} {A : List Nat} {all : List (Oper × Rec)} : ∀ {l : List (Oper × Rec)} {i0 : Nat}, chk ops k A all i0 l = true → ∀ i oi ri, l[i]? = some (oi, ri) → edgesOk (i0 + i) oi = true ∧ apartAll ops k A (i0 + i) oi ri 0 all = true
  | [], _, _, i, oi, ri, h => by simp at h
  | (o', r') :: l, i0, hA, i, oi, ri, h => by
    unfold chk at hA
    split at hA
    · rename_i h1 h2
      cases i with
      | zero => simp at h; obtain ⟨rfl, rfl⟩ := h; exact ⟨h1, h2⟩
      | succ i =>
        simp at h
        have := chk_spec hA i oi ri h
        rwa [show i0 + 1 + i = i0 + (i + 1) by omega] at this
    · cases hA
end Go.Proofs.YtejkcmklhmifaaaGreatDoor.AM

/- Regions whose order is drawn: in any order the same is done. -/
namespace Go.Proofs.YtejkcmklhmifaaaGreatDoor.AM
open Go Go.RowKit

def WrT (l : List (Oper × Rec)) (t : Tmp) (j : Nat) : Prop := ∃ x, l[j]? = some x ∧ x.1.dst = some t
def WrV (l : List (Oper × Rec)) (k : Nat) (y j : Nat) : Prop := ∃ x, l[j]? = some x ∧ writesV (k + j) x.2.eff = some y

section
variable {l : List (Oper × Rec)} {tm0 : Nat → Av} {vr0 : Nat → Option VarSt} {k : Nat}
theorem tmC_succ {m : Nat} {x : Oper × Rec} (h : l[m]? = some x) : stT tm0 (l.take (m + 1)) = updT (stT tm0 (l.take m)) x.1.dst x.2.put := by
  rw [take_succ_snoc h, stT_snoc]
theorem vrC_succ {m : Nat} {x : Oper × Rec} (h : l[m]? = some x) : stV k vr0 (l.take (m + 1)) = updV (stV k vr0 (l.take m)) (k + m) x.2.eff := by
  have hm : m < l.length := (List.getElem?_eq_some_iff.1 h).1
  rw [take_succ_snoc h, stV_snoc, List.length_take, Nat.min_eq_left (by omega)]
theorem tmC_const {t : Tmp} (m : Nat) : ∀ (n : Nat), m + n ≤ l.length → (∀ j, m ≤ j → j < m + n → ¬ WrT l t j) → stT tm0 (l.take (m + n)) t = stT tm0 (l.take m) t
  | 0, _, _ => rfl
  | n + 1, h, hn => by
    obtain ⟨x, hx⟩ : ∃ x, l[m + n]? = some x := ⟨_, List.getElem?_eq_getElem (by omega)⟩
    rw [← Nat.add_assoc, tmC_succ hx, ← tmC_const m n (by omega) fun j h1 h2 => hn j h1 (by omega)]
    have := hn (m + n) (by omega) (by omega)
    cases hd : x.1.dst with
    | none => rfl
    | some d =>
      unfold updT
      dsimp only
      rw [if_neg]
      rintro rfl
      exact this ⟨x, hx, hd⟩
theorem vrC_const {y : Nat} (m : Nat) : ∀ (n : Nat), m + n ≤ l.length → (∀ j, m ≤ j → j < m + n → ¬ WrV l k y j) → stV k vr0 (l.take (m + n)) y = stV k vr0 (l.take m) y
  | 0, _, _ => rfl
  | n + 1, h, hn => by
    obtain ⟨x, hx⟩ : ∃ x, l[m + n]? = some x := ⟨_, List.getElem?_eq_getElem (by omega)⟩
    rw [← Nat.add_assoc, vrC_succ hx, ← vrC_const m n (by omega) fun j h1 h2 => hn j h1 (by omega)]
    have := hn (m + n) (by omega) (by omega)
    cases he : x.2.eff with
    | none => rfl
    | new t cs =>
      unfold updV
      dsimp only
      rw [if_neg]
      rintro rfl
      exact this ⟨x, hx, by rw [he]; rfl⟩
    | sto z off cs =>
      unfold updV
      dsimp only
      rw [if_neg]
      rintro rfl
      exact this ⟨x, hx, by rw [he]; rfl⟩
    | put z s =>
      unfold updV
      dsimp only
      rw [if_neg]
      rintro rfl
      exact this ⟨x, hx, by rw [he]; rfl⟩
    | news s =>
      unfold updV
      dsimp only
      rw [if_neg]
      rintro rfl
      exact this ⟨x, hx, by rw [he]; rfl⟩
theorem tmC_same {t : Tmp} {m i : Nat} (hm : m ≤ l.length) (hi : i ≤ l.length) (h : ∀ j, WrT l t j → (j < m ↔ j < i)) : stT tm0 (l.take m) t = stT tm0 (l.take i) t := by
  rcases Nat.le_total m i with hle | hle
  · obtain ⟨n, rfl⟩ := Nat.exists_eq_add_of_le hle
    exact (tmC_const m n hi fun j h1 h2 hw => by have := h j hw; omega).symm
  · obtain ⟨n, rfl⟩ := Nat.exists_eq_add_of_le hle
    exact tmC_const i n hm fun j h1 h2 hw => by have := h j hw; omega
theorem vrC_same {y m i : Nat} (hm : m ≤ l.length) (hi : i ≤ l.length) (h : ∀ j, WrV l k y j → (j < m ↔ j < i)) : stV k vr0 (l.take m) y = stV k vr0 (l.take i) y := by
  rcases Nat.le_total m i with hle | hle
  · obtain ⟨n, rfl⟩ := Nat.exists_eq_add_of_le hle
    exact (vrC_const m n hi fun j h1 h2 hw => by have := h j hw; omega).symm
  · obtain ⟨n, rfl⟩ := Nat.exists_eq_add_of_le hle
    exact vrC_const i n hm fun j h1 h2 hw => by have := h j hw; omega
/-- A number that isn't given yet. -/
theorem vrC_fresh (hfr : ∀ x, k ≤ x → vr0 x = none) : ∀ (m : Nat), m ≤ l.length → ∀ y, k + m ≤ y → stV k vr0 (l.take m) y = none
  | 0, _, y, h => hfr y (by omega)
  | m + 1, hm, y, h => by
    obtain ⟨x, hx⟩ : ∃ x, l[m]? = some x := ⟨_, List.getElem?_eq_getElem (by omega)⟩
    rw [vrC_succ hx]
    have ih := vrC_fresh hfr m (by omega) y (by omega)
    cases x.2.eff with
    | none => exact ih
    | new t cs => unfold updV; dsimp only; rw [if_neg (by omega)]; exact ih
    | sto z off cs =>
      unfold updV
      dsimp only
      by_cases e : y = z
      · subst e; rw [if_pos rfl, ih]; rfl
      · rw [if_neg e]; exact ih
    | put z s =>
      unfold updV
      dsimp only
      by_cases e : y = z
      · subst e; rw [if_pos rfl, ih]; rfl
      · rw [if_neg e]; exact ih
    | news s => unfold updV; dsimp only; rw [if_neg (by omega)]; exact ih
end

section
variable {P : Program} {G : World → Prop} {ops : Array Oper} {w0 : Base} {N k : Nat} {l : List (Oper × Rec)} {tm0 : Nat → Av} {vr0 : Nat → Option VarSt} {A : List Nat}

structure Inv (w0 : Base) (G : World → Prop) (N k : Nat) (l : List (Oper × Rec)) (tm0 : Nat → Av) (vr0 : Nat → Option VarSt) (A : List Nat) (D : Nat → Bool) (a : Act) (w : World) : Prop where
  rep : ∃ β W tm vr, Rep w0 G N β W tm vr a w ∧
    (∀ t, ∃ m, m ≤ l.length ∧ (∀ j, WrT l t j → (D j = true ↔ j < m)) ∧ tm t = stT tm0 (l.take m) t) ∧
    (∀ y, ∃ m, m ≤ l.length ∧ (∀ j, WrV l k y j → (D j = true ↔ j < m)) ∧ vr y = stV k vr0 (l.take m) y)
  closed : ∀ j, j < l.length → D j = true → ∀ q, (A.getD j 0).testBit q = true → D q = true

theorem ord_iff {D : Nat → Bool} {i j : Nat} (hc : ∀ j, j < l.length → D j = true → ∀ q, (A.getD j 0).testBit q = true → D q = true) (hj : j < l.length) (hne : j ≠ i) (hi : D i = false) (ha : ∀ q, (A.getD i 0).testBit q = true → D q = true)
    (h : ordered A i j = true ∨ ordered A j i = true) : D j = true ↔ j < i := by
  have key : (j < i → (A.getD i 0).testBit j = true) ∧ (i < j → (A.getD j 0).testBit i = true) := by
    rcases h with h | h
    · unfold ordered at h
      split at h
      · rename_i hb; exact ⟨fun _ => h, fun h2 => by have := Nat.le_of_ble_eq_true hb; omega⟩
      · rename_i hb
        split at h
        · exact ⟨fun h2 => absurd ((show Nat.blt j i = true from Nat.ble_eq_true_of_le h2).symm.trans hb) (by decide), fun _ => h⟩
        · rename_i hb2
          exact ⟨fun h2 => absurd ((show Nat.blt j i = true from Nat.ble_eq_true_of_le h2).symm.trans hb) (by decide), fun h2 => absurd ((show Nat.blt i j = true from Nat.ble_eq_true_of_le h2).symm.trans hb2) (by decide)⟩
    · unfold ordered at h
      split at h
      · rename_i hb; exact ⟨fun h2 => by have := Nat.le_of_ble_eq_true hb; omega, fun _ => h⟩
      · rename_i hb
        split at h
        · exact ⟨fun _ => h, fun h2 => absurd ((show Nat.blt i j = true from Nat.ble_eq_true_of_le h2).symm.trans hb) (by decide)⟩
        · rename_i hb2
          exact ⟨fun h2 => absurd ((show Nat.blt j i = true from Nat.ble_eq_true_of_le h2).symm.trans hb2) (by decide), fun h2 => absurd ((show Nat.blt i j = true from Nat.ble_eq_true_of_le h2).symm.trans hb) (by decide)⟩
  constructor
  · intro hD
    rcases Nat.lt_or_ge j i with h1 | h1
    · exact h1
    · have := hc j hj hD i (key.2 (by omega))
      rw [hi] at this; cases this
  · intro h1; exact ha j (key.1 h1)

theorem meets_dst {oi oj : Oper} {ri rj : Rec} {j : Nat} {t : Tmp} (hj : oj.dst = some t) (h : t ∈ readsT ops oi ∨ oi.dst = some t) : meets ops k oi ri j oj rj = true := by
  unfold meets
  rw [hj]
  dsimp only
  rcases h with h | h
  · rw [memN_iff.2 h]; rfl
  · rw [h]; simp
theorem meets_var {oi oj : Oper} {ri rj : Rec} {j y : Nat} (hj : writesV (k + j) rj.eff = some y) (h : y ∈ ri.touch) : meets ops k oi ri j oj rj = true := by
  unfold meets
  rw [hj]
  dsimp only
  rw [memN_iff.2 h, Bool.or_true]

theorem inv_step (hG : ∀ {w w' : World}, Below w.heap.size w w' → G w → G w')
    (hD : ∀ i x, l[i]? = some x → Does P G ops (k + i) x.1 (stT tm0 (l.take i)) (stV k vr0 (l.take i)) x.2) (hdst : ∀ x ∈ l, ∀ d, x.1.dst = some d → d < N) (hfr : ∀ x, k ≤ x → vr0 x = none)
    (hap : ∀ (i : Nat) (oi : Oper) (ri : Rec), l[i]? = some (oi, ri) → apartAll ops k A i oi ri 0 l = true) (hto : ∀ (i : Nat) (oi : Oper) (ri : Rec) (x : Nat), l[i]? = some (oi, ri) → (∃ off cs, ri.eff = .sto x off cs) ∨ (∃ s, ri.eff = .put x s) → x ∈ ri.touch)
    {D D' : Nat → Bool} {i : Nat} {x : Oper × Rec} {a : Act} {w : World} {K : Act → World → Prop} {Q : Exit → Act → World → Prop} (hx : l[i]? = some x) (hI : Inv w0 G N k l tm0 vr0 A D a w)
    (hi : D i = false) (ha : ∀ q, (A.getD i 0).testBit q = true → D q = true) (hD'i : D' i = true) (hD' : ∀ j, j ≠ i → D' j = D j)
    (hK : ∀ a' w', Inv w0 G N k l tm0 vr0 A D' a' w' → K a' w') :
    if Region.wanted x.1 (yielded ops a.tmps) = true then Oper.wp P x.1 a w K Q else K (a.put x.1.dst undef) w := by
  obtain ⟨o, r⟩ := x
  obtain ⟨⟨β, W, tm, vr, hR, hT, hV⟩, hc⟩ := hI
  have hil : i < l.length := (List.getElem?_eq_some_iff.1 hx).1
  -- whom the operation meets came ahead just if it is told to
  have hmeet : ∀ j oj rj, l[j]? = some (oj, rj) → j ≠ i → (meets ops k o r j oj rj = true ∨ meets ops k oj rj i o r = true) → (D j = true ↔ j < i) := by
    intro j oj rj hj hne hm
    refine ord_iff hc (List.getElem?_eq_some_iff.1 hj).1 hne hi ha ?_
    rcases hm with hm | hm
    · have := apartAll_spec (hap i o r hx) j oj rj hj (by rw [Nat.zero_add]; exact hm)
      rw [Nat.zero_add] at this; exact .inl this
    · have := apartAll_spec (hap j oj rj hj) i o r hx (by rw [Nat.zero_add]; exact hm)
      rw [Nat.zero_add] at this; exact .inr this
  have hTi : ∀ t, (t ∈ readsT ops o ∨ o.dst = some t) → ∀ j, WrT l t j → j ≠ i → (D j = true ↔ j < i) := by
    rintro t ht j ⟨⟨oj, rj⟩, hj, hd⟩ hne
    exact hmeet j oj rj hj hne (.inl (meets_dst hd ht))
  have hVi : ∀ y, (y ∈ r.touch ∨ writesV (k + i) r.eff = some y) → ∀ j, WrV l k y j → j ≠ i → (D j = true ↔ j < i) := by
    rintro y hy j ⟨⟨oj, rj⟩, hj, hd⟩ hne
    rcases hy with hy | hy
    · exact hmeet j oj rj hj hne (.inl (meets_var hd hy))
    · have hoj : y ∈ rj.touch ∨ y = k + j := by
        cases he : rj.eff with
        | none => rw [he] at hd; cases hd
        | new t cs => rw [he] at hd; injection hd with hd; exact .inr hd.symm
        | sto z off cs => rw [he] at hd; injection hd with hd; subst hd; exact .inl (hto j oj rj z hj (.inl ⟨off, cs, he⟩))
        | put z s => rw [he] at hd; injection hd with hd; subst hd; exact .inl (hto j oj rj z hj (.inr ⟨s, he⟩))
        | news s => rw [he] at hd; injection hd with hd; exact .inr hd.symm
      rcases hoj with hoj | hoj
      · exact hmeet j oj rj hj hne (.inr (meets_var hy hoj))
      · cases he : r.eff with
        | none => rw [he] at hy; cases hy
        | new t cs => rw [he] at hy; injection hy with hy; exact absurd (by omega : j = i) hne
        | sto z off cs =>
          rw [he] at hy; injection hy with hy; subst hy
          exact hmeet j oj rj hj hne (.inl (meets_var hd (hto i o r z hx (.inl ⟨off, cs, he⟩))))
        | put z s =>
          rw [he] at hy; injection hy with hy; subst hy
          exact hmeet j oj rj hj hne (.inl (meets_var hd (hto i o r z hx (.inr ⟨s, he⟩))))
        | news s => rw [he] at hy; injection hy with hy; exact absurd (by omega : j = i) hne
  have htm : ∀ t ∈ readsT ops o, stT tm0 (l.take i) t = tm t := by
    intro t ht
    obtain ⟨m, hm, hw, he⟩ := hT t
    rw [he]
    refine tmC_same (by omega) hm fun j hj => ?_
    by_cases e : j = i
    · subst e; have := hw j hj; rw [hi] at this; constructor
      · intro h; omega
      · intro h; have := this.2 h; cases this
    · rw [← hTi t (.inl ht) j hj e, hw j hj]
  have hvr : ∀ y, y ∈ r.touch → stV k vr0 (l.take i) y = vr y := by
    intro y hy
    obtain ⟨m, hm, hw, he⟩ := hV y
    rw [he]
    refine vrC_same (by omega) hm fun j hj => ?_
    by_cases e : j = i
    · subst e; have := hw j hj; rw [hi] at this; constructor
      · intro h; omega
      · intro h; have := this.2 h; cases this
    · rw [← hVi y (.inl hy) j hj e, hw j hj]
  have hdo := does_congr (hD i _ hx) htm hvr
  refine does_sound hG hR hdo (hdst _ (List.mem_of_getElem? hx)) (fun he => ?_) fun β' W' a' w' hR' => hK a' w' ⟨⟨β', W', _, _, hR', ?_, ?_⟩, ?_⟩
  · obtain ⟨m, hm, hw, hey⟩ := hV (k + i)
    rw [hey]
    have hwi : WrV l k (k + i) i := ⟨_, hx, by rcases he with ⟨_, _, he⟩ | ⟨_, he⟩ <;> (rw [he]; rfl)⟩
    have := hw i hwi
    rw [hi] at this
    have hmi : m ≤ i := by
      rcases Nat.lt_or_ge i m with h | h
      · have := this.2 h; cases this
      · exact h
    exact vrC_fresh hfr m hm (k + i) (by omega)
  · intro t
    by_cases ht : o.dst = some t
    · refine ⟨i + 1, hil, fun j hj => ?_, ?_⟩
      · by_cases e : j = i
        · subst e; rw [hD'i]; simp
        · rw [hD' j e, hTi t (.inr ht) j hj e]; omega
      · rw [tmC_succ hx]
        dsimp only
        rw [ht]
        unfold updT
        dsimp only
        rw [if_pos rfl, if_pos rfl]
    · obtain ⟨m, hm, hw, he⟩ := hT t
      refine ⟨m, hm, fun j hj => ?_, ?_⟩
      · have hne : j ≠ i := by
          rintro rfl
          obtain ⟨y, hy, hd⟩ := hj
          rw [hx] at hy; injection hy with hy; subst hy
          exact ht hd
        rw [hD' j hne]; exact hw j hj
      · rw [← he]
        dsimp only
        cases hd : o.dst with
        | none => rfl
        | some d => unfold updT; dsimp only; rw [if_neg]; rintro rfl; exact ht hd
  · intro y
    by_cases hy : writesV (k + i) r.eff = some y
    · refine ⟨i + 1, hil, fun j hj => ?_, ?_⟩
      · by_cases e : j = i
        · subst e; rw [hD'i]; simp
        · rw [hD' j e, hVi y (.inr hy) j hj e]; omega
      · rw [vrC_succ hx]
        dsimp only
        cases he : r.eff with
        | none => rw [he] at hy; cases hy
        | new t cs =>
          rw [he] at hy; injection hy with hy
          unfold updV; dsimp only; rw [if_pos hy.symm, if_pos hy.symm]
        | sto z off cs =>
          rw [he] at hy; injection hy with hy; subst hy
          unfold updV; dsimp only
          rw [if_pos rfl, if_pos rfl, hvr z (hto i o r z hx (.inl ⟨off, cs, he⟩))]
        | put z s =>
          rw [he] at hy; injection hy with hy; subst hy
          unfold updV; dsimp only
          rw [if_pos rfl, if_pos rfl, hvr z (hto i o r z hx (.inr ⟨s, he⟩))]
        | news s =>
          rw [he] at hy; injection hy with hy
          unfold updV; dsimp only; rw [if_pos hy.symm, if_pos hy.symm]
    · obtain ⟨m, hm, hw, he⟩ := hV y
      refine ⟨m, hm, fun j hj => ?_, ?_⟩
      · have hne : j ≠ i := by
          rintro rfl
          obtain ⟨z, hz, hd⟩ := hj
          rw [hx] at hz; injection hz with hz; subst hz
          exact hy hd
        rw [hD' j hne]; exact hw j hj
      · rw [← he]
        dsimp only
        cases hd : r.eff with
        | none => rfl
        | new t cs => unfold updV; dsimp only; rw [if_neg]; rintro rfl; exact hy (by rw [hd]; rfl)
        | sto z off cs => unfold updV; dsimp only; rw [if_neg]; rintro rfl; exact hy (by rw [hd]; rfl)
        | put z s => unfold updV; dsimp only; rw [if_neg]; rintro rfl; exact hy (by rw [hd]; rfl)
        | news s => unfold updV; dsimp only; rw [if_neg]; rintro rfl; exact hy (by rw [hd]; rfl)
  · intro j hj hDj q hq
    by_cases e : q = i
    · subst e; exact hD'i
    · rw [hD' q e]
      by_cases e2 : j = i
      · subst e2; exact ha q hq
      · rw [hD' j e2] at hDj; exact hc j hj hDj q hq
end
end Go.Proofs.YtejkcmklhmifaaaGreatDoor.AM

/- Regions whose order is drawn, in one. -/
namespace Go.Proofs.YtejkcmklhmifaaaGreatDoor.AM
open Go Go.RowKit

theorem does_touch {P : Program} {G : World → Prop} {ops : Array Oper} {id : Nat} {o : Oper} {tm : Nat → Av} {vr : Nat → Option VarSt} {r : Rec} (h : Does P G ops id o tm vr r) {x : Nat} (he : (∃ off cs, r.eff = .sto x off cs) ∨ (∃ s, r.eff = .put x s)) : x ∈ r.touch := by
  rcases he with ⟨off, cs, he⟩ | ⟨s, he⟩
  · cases h <;> first | (cases he; done) | skip
    injection he with h1; subst h1; exact List.mem_cons_self ..
  · cases h <;> first | (cases he; done) | skip
    injection he with h1; subst h1; exact List.mem_cons_self ..
theorem pushT_sub {out : List Tr} {po : Option Tr} {t : Tr} (h : t ∈ out) : t ∈ pushT out po := by
  cases po with
  | none => exact h
  | some u => exact List.mem_cons_of_mem _ h
theorem canon_out {P : Program} {ops : Array Oper} : ∀ {lo : List Oper} {S S' : St} {rs rs' : List (Oper × Rec)}, canon P ops lo S rs = some (S', rs') → ∀ t ∈ S.out, t ∈ S'.out
  | [], S, S', rs, rs', h => by injection h with h; injection h with h1 h2; subst h1; exact fun t ht => ht
  | o :: lo, S, S', rs, rs', h => by
    unfold canon at h
    split at h
    · rename_i r tr' po hdst hdo
      intro t ht
      exact canon_out h t (pushT_sub ht)
    · cases h
theorem canon_spec {P : Program} {G : World → Prop} {ops : Array Oper} : ∀ {lo : List Oper} {S S' : St} {rs rs' : List (Oper × Rec)}, canon P ops lo S rs = some (S', rs') → (∀ t ∈ S'.out, TrOk P G t) →
    ∃ l, rs' = rs ++ l ∧ l.map (·.1) = lo ∧ (∀ i x, l[i]? = some x → Does P G ops (S.k + i) x.1 (stT (tmF S.tm) (l.take i)) (stV S.k (look S.vr) (l.take i)) x.2) ∧
      (∀ x ∈ l, ∀ d, x.1.dst = some d → d < S.tm.length) ∧ tmF S'.tm = stT (tmF S.tm) l ∧ look S'.vr = stV S.k (look S.vr) l ∧ S'.tm.length = S.tm.length ∧ S'.k = S.k + lo.length
  | [], S, S', rs, rs', h, _ => by
    injection h with h; injection h with h1 h2; subst h1; subst h2
    exact ⟨[], by simp, rfl, by simp, by simp, rfl, rfl, rfl, rfl⟩
  | o :: lo, S, S', rs, rs', h, hok => by
    unfold canon at h
    split at h
    · rename_i r tr' po hdst hdo
      have hsub := canon_out h
      have hpo : ∀ t, po = some t → TrOk P G t := fun t e => hok t (hsub t (by subst e; exact List.mem_cons_self ..))
      have hd := doOp_does hdo hpo
      obtain ⟨l, h1, h2, h3, h4, h5, h6, h7, h8⟩ := canon_spec h hok
      dsimp only at h3 h4 h5 h6 h7 h8
      rw [tmF_setT _ _ _ hdst] at h3 h5
      rw [look_setV] at h3 h6
      rw [setT_length] at h4 h7
      refine ⟨(o, r) :: l, by rw [h1]; simp, by rw [List.map_cons, h2], fun i x hx => ?_, fun x hx => ?_, h5, h6, h7, by rw [h8, List.length_cons]; omega⟩
      · cases i with
        | zero => simp at hx; subst hx; exact hd
        | succ i =>
          simp at hx
          have := h3 i x hx
          rw [show S.k + 1 + i = S.k + (i + 1) by omega] at this
          exact this
      · rcases List.mem_cons.1 hx with rfl | hx
        · exact fun d e => dstOk_lt (by dsimp only at e; rw [e] at hdst; exact hdst)
        · exact h4 x hx
    · cases h

def cnt : List Bool → Nat
  | [] => 0
  | true :: l => cnt l
  | false :: l => cnt l + 1
theorem cnt_set : ∀ {l : List Bool} {i : Nat}, l[i]? = some false → cnt (l.set i true) + 1 = cnt l
  | [], _, h => by simp at h
  | b :: l, 0, h => by simp at h; subst h; rfl
  | b :: l, i + 1, h => by
    simp at h
    have := cnt_set h
    cases b <;> simp only [List.set_cons_succ, cnt] <;> omega
theorem cnt_zero : ∀ {l : List Bool}, cnt l = 0 → ∀ i, i < l.length → l[i]? = some true
  | [], _, i, hi => by simp at hi
  | true :: l, h, 0, _ => rfl
  | true :: l, h, i + 1, hi => by simpa using cnt_zero (l := l) h i (by simpa using hi)
  | false :: l, h, _, _ => by simp [cnt] at h

section
variable {P : Program} {G : World → Prop} {ops : Array Oper} {w0 : Base} {N k : Nat} {l : List (Oper × Rec)} {tm0 : Nat → Av} {vr0 : Nat → Option VarSt} {A : List Nat} {Q : Exit → Act → World → Prop}

theorem inv_any (hG : ∀ {w w' : World}, Below w.heap.size w w' → G w → G w')
    (hD : ∀ i x, l[i]? = some x → Does P G ops (k + i) x.1 (stT tm0 (l.take i)) (stV k vr0 (l.take i)) x.2) (hdst : ∀ x ∈ l, ∀ d, x.1.dst = some d → d < N) (hfr : ∀ x, k ≤ x → vr0 x = none)
    (hap : ∀ (i : Nat) (oi : Oper) (ri : Rec), l[i]? = some (oi, ri) → edgesOk i oi = true ∧ apartAll ops k A i oi ri 0 l = true)
    (hA : ∀ (i : Nat) (o : Oper) (q : Nat), ops[i]? = some o → (A.getD i 0).testBit q = true → ∃ e ∈ o.after, Region.binds .any e = true ∧ (q = e.on ∨ (A.getD e.on 0).testBit q = true))
    (hl : ops.toList = l.map (·.1)) (hQ : ∀ β W a w, Rep w0 G N β W (stT tm0 l) (stV k vr0 l) a w → Q .normal a w) :
    ∀ (fuel : Nat) (listed : Array Bool) (a : Act) (w : World), listed.size = ops.size → cnt listed.toList ≤ fuel → Inv w0 G N k l tm0 vr0 A (fun j => listed.getD j false) a w → wpAny P .any ops Q fuel listed a w := by
  have hlen : ops.size = l.length := by rw [← Array.length_toList, hl, List.length_map]
  have hget : ∀ (i : Nat) (o : Oper), ops[i]? = some o → ∃ r, l[i]? = some (o, r) := fun i o h => by
    rw [← Array.getElem?_toList, hl, List.getElem?_map] at h
    cases hx : l[i]? with
    | none => rw [hx] at h; cases h
    | some x => rw [hx] at h; injection h with h; exact ⟨x.2, by rw [← h]⟩
  -- all listed: the end
  have hend : ∀ (listed : Array Bool) (a : Act) (w : World), (∀ j, j < ops.size → listed.getD j false = true) → Inv w0 G N k l tm0 vr0 A (fun j => listed.getD j false) a w → Q .normal a w := by
    rintro listed a w hall ⟨⟨β, W, tm, vr, hR, hT, hV⟩, _⟩
    have e1 : tm = stT tm0 l := by
      funext t
      obtain ⟨m, hm, hw, he⟩ := hT t
      have := tmC_same (tm0 := tm0) (l := l) (t := t) (m := m) (i := l.length) hm (Nat.le_refl _) fun j hj => by
        have hjl : j < l.length := by obtain ⟨x, hx, _⟩ := hj; exact (List.getElem?_eq_some_iff.1 hx).1
        exact ⟨fun _ => hjl, fun _ => (hw j hj).1 (hall j (by omega))⟩
      rw [he, this, List.take_length]
    have e2 : vr = stV k vr0 l := by
      funext y
      obtain ⟨m, hm, hw, he⟩ := hV y
      have := vrC_same (vr0 := vr0) (l := l) (k := k) (y := y) (m := m) (i := l.length) hm (Nat.le_refl _) fun j hj => by
        have hjl : j < l.length := by obtain ⟨x, hx, _⟩ := hj; exact (List.getElem?_eq_some_iff.1 hx).1
        exact ⟨fun _ => hjl, fun _ => (hw j hj).1 (hall j (by omega))⟩
      rw [he, this, List.take_length]
    subst e1; subst e2
    exact hQ β W a w hR
  -- nothing may come up: all are listed
  have hready : ∀ (listed : Array Bool), listed.size = ops.size → Region.ready .any ops listed = [] → ∀ j, j < ops.size → listed.getD j false = true := by
    intro listed hsz hr j
    induction j using Nat.strongRecOn with
    | _ j ih =>
      intro hj
      cases hb : listed.getD j false with
      | true => rfl
      | false =>
        exfalso
        obtain ⟨o, ho⟩ : ∃ o, ops[j]? = some o := ⟨_, Array.getElem?_eq_getElem hj⟩
        obtain ⟨r, hx⟩ := hget j o ho
        have hedge := (hap j o r hx).1
        have hj' : j < listed.size := by omega
        have : j ∈ Region.ready .any ops listed := mem_ready.2 ⟨by
          rw [Array.getD_eq_getD_getElem?, Array.getElem?_eq_getElem hj'] at hb ⊢; exact hb, o, ho, fun e he hbd => by
          unfold edgesOk at hedge
          have := List.all_eq_true.1 hedge e (Array.mem_toList_iff.2 he)
          rw [hbd] at this
          have hlt : e.on < j := Nat.le_of_ble_eq_true this
          exact ih e.on hlt (by omega)⟩
        rw [hr] at this; cases this
  intro fuel
  induction fuel with
  | zero =>
    intro listed a w hsz hc hI
    have hall : ∀ j, j < ops.size → listed.getD j false = true := fun j hj => by
      have := cnt_zero (l := listed.toList) (by omega) j (by simp; omega)
      rw [Array.getElem?_toList] at this
      rw [Array.getD_eq_getD_getElem?, this]; rfl
    refine ⟨?_, hend listed a w hall hI⟩
    cases hr : Region.ready .any ops listed with
    | nil => rfl
    | cons i rs =>
      exfalso
      have hi : i ∈ Region.ready .any ops listed := by rw [hr]; exact List.mem_cons_self ..
      obtain ⟨h1, o, ho, _⟩ := mem_ready.1 hi
      have hlt : i < ops.size := (Array.getElem?_eq_some_iff.1 ho).1
      have h2 := hall i hlt
      rw [Array.getD_eq_getD_getElem?, Array.getElem?_eq_getElem (show i < listed.size by omega)] at h1 h2
      simp at h1 h2
      rw [h1] at h2; cases h2
  | succ fuel ih =>
    intro listed a w hsz hc hI
    refine ⟨fun hr => hend listed a w (hready listed hsz hr) hI, fun i hi => ?_⟩
    obtain ⟨h1, o, ho, hafter⟩ := mem_ready.1 hi
    have hlt : i < ops.size := (Array.getElem?_eq_some_iff.1 ho).1
    have hlt' : i < listed.size := by omega
    have hli : listed[i]? = some false := by
      rw [Array.getD_eq_getD_getElem?, Array.getElem?_eq_getElem hlt'] at h1
      rw [Array.getElem?_eq_getElem hlt']; simpa using h1
    obtain ⟨r, hx⟩ := hget i o ho
    have hset : ∀ j, j ≠ i → (listed.setIfInBounds i true).getD j false = listed.getD j false := fun j hne => by
      rw [Array.getD_eq_getD_getElem?, Array.getD_eq_getD_getElem?, Array.getElem?_setIfInBounds, if_neg (Ne.symm hne)]
    have hseti : (listed.setIfInBounds i true).getD i false = true := by
      rw [Array.getD_eq_getD_getElem?, Array.getElem?_setIfInBounds, if_pos rfl, if_pos hlt']; rfl
    refine wpOp_step ho fun K hK => inv_step hG hD hdst hfr (fun i oi ri h => (hap i oi ri h).2) (fun j oj rj y hj he => does_touch (hD j _ hj) he) hx hI
      (by rw [Array.getD_eq_getD_getElem?, hli]; rfl) (fun q hq => ?_) hseti hset fun a' w' hI' => hK a' w' (ih _ a' w' (by simpa using hsz) ?_ hI')
    · obtain ⟨e, he, hb, h2⟩ := hA i o q ho hq
      have hl := hafter e he hb
      rcases h2 with rfl | h2
      · exact hl
      · have hel : e.on < l.length := by
          rcases Nat.lt_or_ge e.on listed.size with h | h
          · omega
          · rw [Array.getD_eq_getD_getElem?, Array.getElem?_eq_none h] at hl; cases hl
        exact hI.closed e.on hel hl q h2
    · have := cnt_set (l := listed.toList) (i := i) (by rw [Array.getElem?_toList]; exact hli)
      rw [Array.toList_setIfInBounds]; omega
end

theorem Rep.drew {w0 : Base} {G : World → Prop} {N : Nat} {β : Nat → Option Nat} {W : World} {tm : Nat → Av} {vr : Nat → Option VarSt} {a : Act} {w : World} (h : Rep w0 G N β W tm vr a w) : Rep w0 G N β W tm vr a w.drew :=
  ⟨h.defers, h.room, h.tmp, h.below.drew, h.old, h.size, h.ext, h.u32, h.glob, h.inj, h.var, h.dom⟩
theorem cnt_replicate : ∀ n, cnt (List.replicate n false) = n
  | 0 => rfl
  | n + 1 => by rw [List.replicate_succ]; simp [cnt, cnt_replicate n]

theorem drawnOps_sound {P : Program} {G : World → Prop} {ops : Array Oper} {w0 : Base} {Q : Exit → Act → World → Prop} {id : Nat} (hG : ∀ {w w' : World}, Below w.heap.size w w' → G w → G w') (hm : P.follows .mixedOrders = true)
    {S S' : St} {a : Act} {w : World} (h : drawnOps P ops S = some S') (hok : ∀ t ∈ S'.out, TrOk P G t) (hS : Sat w0 G S a w) (hQ : ∀ a w, Sat w0 G S' a w → Q .normal a w) : (Code.region id ops true).wp P Q a w := by
  unfold drawnOps at h
  split at h
  · rename_i S1 rs hcan
    split at h
    · rename_i hchk
      injection h with h; subst h
      obtain ⟨l, h1, h2, h3, h4, h5, h6, h7, h8⟩ := canon_spec hcan hok
      rw [List.nil_append] at h1
      subst h1
      obtain ⟨⟨β, W, hR⟩, hfr⟩ := hS
      refine wp_region_any hm (inv_any hG h3 h4 hfr (A := ancs ops.toList []) (fun i oi ri hi => ?_) (fun i o q ho hq => ?_) h2.symm (fun β' W' a' w' hR' => hQ a' w' ⟨⟨β', W', ?_⟩, fun x hx => ?_⟩) ops.size _ a _ (by simp) ?_ ⟨⟨β, W, _, _, hR.drew, fun t => ⟨0, Nat.zero_le _, fun j _ => ?_, rfl⟩, fun y => ⟨0, Nat.zero_le _, fun j _ => ?_, rfl⟩⟩, fun j _ hj => ?_⟩)
      · have := chk_spec hchk i oi ri hi
        rwa [Nat.zero_add] at this
      · have := ancs_spec ops.toList [] i o q (by rw [Array.getElem?_toList]; exact ho) (by rw [List.length_nil, Nat.zero_add]; exact hq)
        exact this
      · rw [← h5, ← h6, ← h7] at hR'; exact hR'
      · rw [h6]
        have := vrC_fresh (l := rs) hfr rs.length (Nat.le_refl _) x (by rw [h8, ← h2, List.length_map] at hx; exact hx)
        rwa [List.take_length] at this
      · simp [cnt_replicate]
      · constructor
        · intro hj; exfalso
          rw [Array.getD_eq_getD_getElem?, Array.getElem?_replicate] at hj
          split at hj <;> cases hj
        · intro hj; omega
      · constructor
        · intro hj; exfalso
          rw [Array.getD_eq_getD_getElem?, Array.getElem?_replicate] at hj
          split at hj <;> cases hj
        · intro hj; omega
      · exfalso
        rw [Array.getD_eq_getD_getElem?, Array.getElem?_replicate] at hj
        split at hj <;> cases hj
    · cases h
  · cases h
theorem drawnOps_out {P : Program} {ops : Array Oper} {S S' : St} (h : drawnOps P ops S = some S') : ∀ t ∈ S.out, t ∈ S'.out := by
  unfold drawnOps at h
  split at h
  · rename_i S1 rs hcan
    split at h
    · injection h with h; subst h; exact canon_out hcan
    · cases h
  · cases h
end Go.Proofs.YtejkcmklhmifaaaGreatDoor.AM

/- Forgetting what isn't needed any more. -/
namespace Go.Proofs.YtejkcmklhmifaaaGreatDoor.AM
open Go Go.RowKit

def varsA : Av → List Nat
  | .one s => varsS s
  | .tup l => l.flatMap varsS
def inAll (ids : List Nat) (l : List Nat) : Bool := l.all fun x => memN x ids

section
variable {β β' : Nat → Option Nat} {W W' : World}
theorem relC_restrict {v : Value} {c : Cv} (hv : ∀ x ∈ varsC c, β' x = β x) (he : ∀ e : Ent, e.holds W v → e.holds W' v) (h : RelC β W v c) : RelC β' W' v c := by
  cases c with
  | any => trivial
  | raw u => exact h
  | ent e => exact he e h
  | ptr x o => obtain ⟨g, h1, h2⟩ := h; exact ⟨g, (hv x (by simp [varsC])).trans h1, h2⟩
  | row x o n d => obtain ⟨g, h1, h2⟩ := h; exact ⟨g, (hv x (by simp [varsC])).trans h1, h2⟩
theorem all2_restrict {l : List Cv} : ∀ {vs : List Value}, (∀ x ∈ l.flatMap varsC, β' x = β x) → (∀ (e : Ent) (v : Value), e.holds W v → e.holds W' v) → All2 (RelC β W) vs l → All2 (RelC β' W') vs l := by
  induction l with
  | nil => intro vs _ _ h; cases vs with | nil => trivial | cons => exact h.elim
  | cons c l ih =>
    intro vs hv he h
    cases vs with
    | nil => exact h.elim
    | cons v vs => exact ⟨relC_restrict (fun x hx => hv x (by simp [hx])) (fun e => he e v) h.1, ih (fun x hx => hv x (by rw [List.flatMap_cons]; exact List.mem_append_right _ hx)) he h.2⟩
theorem relS_restrict {v : Value} {s : Sv} (hv : ∀ x ∈ varsS s, β' x = β x) (he : ∀ (e : Ent) (v : Value), e.holds W v → e.holds W' v) (h : RelS β W v s) : RelS β' W' v s := by
  cases s with
  | cel c => exact relC_restrict hv (fun e => he e v) h
  | agg l => obtain ⟨vs, h1, h2⟩ := h; exact ⟨vs, h1, all2_restrict hv he h2⟩
theorem all2S_restrict {l : List Sv} : ∀ {vs : List Value}, (∀ x ∈ l.flatMap varsS, β' x = β x) → (∀ (e : Ent) (v : Value), e.holds W v → e.holds W' v) → All2 (RelS β W) vs l → All2 (RelS β' W') vs l := by
  induction l with
  | nil => intro vs _ _ h; cases vs with | nil => trivial | cons => exact h.elim
  | cons c l ih =>
    intro vs hv he h
    cases vs with
    | nil => exact h.elim
    | cons v vs => exact ⟨relS_restrict (fun x hx => hv x (by simp [hx])) he h.1, ih (fun x hx => hv x (by rw [List.flatMap_cons]; exact List.mem_append_right _ hx)) he h.2⟩
theorem relA_restrict {v : Value} {s : Av} (hv : ∀ x ∈ varsA s, β' x = β x) (he : ∀ (e : Ent) (v : Value), e.holds W v → e.holds W' v) (h : RelA β W v s) : RelA β' W' v s := by
  cases s with
  | one s => exact relS_restrict hv he h
  | tup l => obtain ⟨vs, h1, h2⟩ := h; exact ⟨vs, h1, all2S_restrict hv he h2⟩

end
theorem look_mem {l : List (Nat × VarSt)} {x : Nat} {s : VarSt} (h : look l x = some s) : (x, s) ∈ l := by
  induction l with
  | nil => cases h
  | cons m l ih =>
    obtain ⟨y, s'⟩ := m
    unfold look at h
    split at h
    · rename_i hb
      injection h with h; subst h
      rw [Nat.eq_of_beq_eq_true hb]; exact List.mem_cons_self ..
    · exact List.mem_cons_of_mem _ (ih h)
theorem look_some {l : List (Nat × VarSt)} {x : Nat} (h : x ∈ l.map (·.1)) : ∃ s, look l x = some s := by
  induction l with
  | nil => cases h
  | cons m l ih =>
    obtain ⟨y, s'⟩ := m
    unfold look
    split
    · exact ⟨_, rfl⟩
    · rename_i hb
      rcases List.mem_cons.1 h with rfl | h
      · rw [Nat.beq_refl] at hb; cases hb
      · exact ih h
theorem inAll_spec {ids l : List Nat} (h : inAll ids l = true) : ∀ x ∈ l, x ∈ ids := fun x hx => memN_iff.1 (List.all_eq_true.1 h x hx)

def anyA : Av := .one (.cel .any)
def forgetT (keep : List Nat) : Nat → List Av → List Av
  | _, [] => []
  | i, a :: l => (match memN i keep with | true => a | false => anyA) :: forgetT keep (i + 1) l
def forgetV (vr : List (Nat × VarSt)) : List Nat → List (Nat × VarSt)
  | [] => []
  | x :: l => match look vr x with | some s => (x, s) :: forgetV vr l | none => forgetV vr l
def closedIds (ids : List Nat) (tm : List Av) (vr : List (Nat × VarSt)) : Bool := (tm.all fun a => inAll ids (varsA a)) && (vr.all fun m => inAll ids (varsV m.2))
/-- A list of temporaries, few of which are told. -/
def mkT (n : Nat) (l : List (Nat × Av)) : List Av := (List.range n).map fun i => match l.find? (fun p => Nat.beq p.1 i) with | some p => p.2 | none => anyA

theorem forgetT_length (keep : List Nat) : ∀ (i : Nat) (l : List Av), (forgetT keep i l).length = l.length
  | _, [] => rfl
  | i, a :: l => by unfold forgetT; rw [List.length_cons, List.length_cons, forgetT_length keep (i + 1) l]
theorem forgetT_get (keep : List Nat) : ∀ (i : Nat) (l : List Av) (t : Nat), tmF (forgetT keep i l) t = (if t < l.length ∧ memN (i + t) keep = false then anyA else tmF l t)
  | i, [], t => by simp [forgetT, tmF]
  | i, a :: l, 0 => by
    unfold forgetT
    rw [Nat.add_zero]
    cases h : memN i keep <;> simp [tmF]
  | i, a :: l, t + 1 => by
    unfold forgetT
    have ih := forgetT_get keep (i + 1) l t
    rw [show i + 1 + t = i + (t + 1) by omega] at ih
    have e1 : ∀ x (l : List Av), tmF (x :: l) (t + 1) = tmF l t := fun x l => by simp [tmF]
    rw [e1, e1, ih]
    simp
theorem forgetV_look (vr : List (Nat × VarSt)) : ∀ (ids : List Nat) (x : Nat), look (forgetV vr ids) x = if memN x ids = true then look vr x else none
  | [], x => rfl
  | y :: l, x => by
    unfold forgetV memN
    have ih := forgetV_look vr l x
    by_cases e : x = y
    · subst e
      rw [Nat.beq_refl]
      dsimp only
      rw [if_pos rfl]
      cases h : look vr x with
      | none =>
        dsimp only
        rw [ih, h]; split <;> rfl
      | some s =>
        show (match Nat.beq x x with | true => _ | false => _) = _
        rw [Nat.beq_refl]
    · have e1 : Nat.beq x y = false := by rw [Bool.eq_false_iff]; intro h; exact e (Nat.eq_of_beq_eq_true h)
      have e2 : Nat.beq y x = false := by rw [Bool.eq_false_iff]; intro h; exact e (Nat.eq_of_beq_eq_true h).symm
      rw [e1]
      dsimp only
      cases h : look vr y with
      | none => exact ih
      | some s =>
        show (match Nat.beq y x with | true => _ | false => _) = _
        rw [e2]; exact ih
theorem tmF_mem {tm : List Av} {t : Nat} : tmF tm t = undefA ∨ tmF tm t ∈ tm := by
  unfold tmF
  rw [List.getD_eq_getElem?_getD]
  cases h : tm[t]? with
  | none => exact .inl rfl
  | some a => exact .inr (List.mem_of_getElem? h)
/-- What isn't needed is forgotten. -/
theorem Is.forget {w0 : Base} {G : World → Prop} {tm : List Av} {vr : List (Nat × VarSt)} {a : Act} {w : World} (keep ids : List Nat) (hc : closedIds ids (forgetT keep 0 tm) (forgetV vr ids) = true) (h : Is w0 G tm vr a w) : Is w0 G (forgetT keep 0 tm) (forgetV vr ids) a w := by
  obtain ⟨β, W, hR⟩ := h
  unfold closedIds at hc
  rw [Bool.and_eq_true] at hc
  have hβ : ∀ x, x ∈ ids → (fun x => if memN x ids = true then β x else none) x = β x := fun x hx => if_pos (memN_iff.2 hx)
  refine ⟨fun x => if memN x ids = true then β x else none, W, hR.defers, by rw [forgetT_length]; exact hR.room, fun t => ?_, hR.below, hR.old, hR.size, hR.ext, hR.u32, hR.glob, fun x y g hx hy hg => ?_, fun x s hx => ?_, fun x g hx => ?_⟩
  · have hin : ∀ x ∈ varsA (tmF (forgetT keep 0 tm) t), x ∈ ids := fun x hx => by
      rcases tmF_mem (tm := forgetT keep 0 tm) (t := t) with e | e
      · rw [e] at hx; cases hx
      · exact inAll_spec (List.all_eq_true.1 hc.1 _ e) x hx
    have hr : RelA β W (a.tmps.getD t undef) (tmF (forgetT keep 0 tm) t) := by
      rw [forgetT_get]
      split
      · exact trivial
      · exact hR.tmp t
    exact relA_restrict (fun x hx => hβ x (hin x hx)) (fun _ _ h => h) hr
  · try dsimp only at hx hy
    split at hx
    · split at hy
      · exact hR.inj x y g hx hy hg
      · cases hy
    · cases hx
  · have hmem := look_mem hx
    rw [forgetV_look] at hx
    split at hx
    · rename_i hm
      obtain ⟨g, cs, b1, b2, b3, b4, b5⟩ := hR.var x s hx
      have hin : ∀ y ∈ s.cs.flatMap varsC, y ∈ ids := fun y hy => inAll_spec (List.all_eq_true.1 hc.2 _ hmem) y (varsV_spec hy)
      exact ⟨g, cs, (hβ x (memN_iff.1 hm)).trans b1, b2, b3, all2_restrict (fun y hy => hβ y (hin y hy)) (fun _ _ h => h) b4, b5⟩
    · cases hx
  · try dsimp only at hx
    split at hx
    · rename_i hm
      obtain ⟨⟨s, hs⟩, h2⟩ := hR.dom x g hx
      exact ⟨⟨s, by rw [forgetV_look, if_pos hm]; exact hs⟩, h2⟩
    · cases hx
end Go.Proofs.YtejkcmklhmifaaaGreatDoor.AM

/- A variable that isn't written any more. -/
namespace Go.Proofs.YtejkcmklhmifaaaGreatDoor.AM
open Go Go.RowKit

def frzC (x : Nat) (cs : List Cv) : Cv → Cv
  | .ptr y o => (match Nat.beq y x with | true => .ent (ptrTo (cs.drop o)) | false => .ptr y o)
  | .row y o n d => (match Nat.beq y x with | true => .ent (rowOf n (cs.drop o)) | false => .row y o n d)
  | c => c
def frzS (x : Nat) (cs : List Cv) : Sv → Sv
  | .cel c => .cel (frzC x cs c)
  | .agg l => .agg (l.map (frzC x cs))
def frzA (x : Nat) (cs : List Cv) : Av → Av
  | .one s => .one (frzS x cs s)
  | .tup l => .tup (l.map (frzS x cs))
def frzW (x : Nat) (cs : List Cv) (s : VarSt) : VarSt := match s.sy with | .no => ⟨s.t, s.cs.map (frzC x cs), s.own, .no⟩ | .yes _ => s
def frzV (x : Nat) (cs : List Cv) : List (Nat × VarSt) → List (Nat × VarSt)
  | [] => []
  | (y, s) :: l => match Nat.beq y x with | true => frzV x cs l | false => (y, frzW x cs s) :: frzV x cs l
def thaw (k : Nat) : List Tr → List Av → List (Nat × VarSt) → List Tr → Option St
  | .freeze x _ :: tr, tm, vr, out => (match look vr x with
    | some s => (match s.own with | true => thaw k tr (tm.map (frzA x s.cs)) (frzV x s.cs vr) (.freeze x s.cs :: out) | false => none)
    | none => none)
  | tr, tm, vr, out => some ⟨tm, vr, k, tr, out⟩
theorem look_frzV (x : Nat) (cs : List Cv) : ∀ (vr : List (Nat × VarSt)) (y : Nat), look (frzV x cs vr) y = if y = x then none else (look vr y).map (frzW x cs)
  | [], y => by unfold frzV look; split <;> rfl
  | (z, s) :: l, y => by
    have ih := look_frzV x cs l y
    unfold frzV
    cases hz : Nat.beq z x with
    | true =>
      have e := Nat.eq_of_beq_eq_true hz
      dsimp only
      rw [ih]
      by_cases h : y = x
      · rw [if_pos h, if_pos h]
      · rw [if_neg h, if_neg h]
        conv => rhs; unfold look
        rw [show Nat.beq z y = false by rw [Bool.eq_false_iff]; intro h2; have := Nat.eq_of_beq_eq_true h2; omega]
    | false =>
      dsimp only
      conv => lhs; unfold look
      cases hy : Nat.beq z y with
      | true =>
        have e := Nat.eq_of_beq_eq_true hy
        dsimp only
        have hne : ¬ y = x := fun h => by rw [e, h, Nat.beq_refl] at hz; cases hz
        rw [if_neg hne]
        conv => rhs; unfold look
        rw [hy]; rfl
      | false =>
        dsimp only
        rw [ih]
        conv => rhs; unfold look
        rw [hy]
theorem tmF_map (f : Av → Av) (hu : f undefA = undefA) (tm : List Av) (t : Nat) : tmF (tm.map f) t = f (tmF tm t) := by
  unfold tmF
  rw [List.getD_eq_getElem?_getD, List.getD_eq_getElem?_getD, List.getElem?_map]
  cases tm[t]? with
  | none => exact hu.symm
  | some a => rfl
section
variable {P : Program} {w0 : Base} {G : World → Prop} {N : Nat} {β : Nat → Option Nat} {W w : World} {tm : List Av} {vr : List (Nat × VarSt)} {a : Act}
theorem Rep.freeze {x : Nat} {s : VarSt} (h : Rep w0 G N β W (tmF tm) (look vr) a w) (hs : look vr x = some s) (ho : s.own = true) (hc : ∀ c ∈ s.cs, varsC c = []) :
    ∃ β' W', Rep w0 G N β' W' (tmF (tm.map (frzA x s.cs))) (look (frzV x s.cs vr)) a w := by
  obtain ⟨g, cells, b1, b2, b3, b4, b5⟩ := h.var x s hs
  obtain ⟨a1, a2, a3⟩ := b5 ho
  have hgW : g < W.heap.size := by rw [h.size]; exact b2
  have hcell : ∀ p, ({ W with heap := W.heap.setIfInBounds g (.cells cells s.t (0, 0)) } : World).cell? p = if p.block = g then w.cell? p else W.cell? p := fun p => by
    unfold World.cell?
    dsimp only
    by_cases e : p.block = g
    · rw [if_pos e, e, b3, Array.getElem?_setIfInBounds, if_pos rfl, if_pos hgW]
    · rw [if_neg e, Array.getElem?_setIfInBounds, if_neg (Ne.symm e)]
  generalize hW : ({ W with heap := W.heap.setIfInBounds g (.cells cells s.t (0, 0)) } : World) = W' at hcell
  have hsz : W'.heap.size = W.heap.size := by rw [← hW]; simp
  have hext : Ext W W' := fun p u hp => by
    rw [hcell]
    by_cases e : p.block = g
    · exact absurd hp (a2 p u e)
    · rw [if_neg e]; exact hp
  have hle : W.heap.size ≤ W'.heap.size := by rw [hsz]; exact Nat.le_refl _
  have hat : ∀ o, CellsAt W' g o (s.cs.drop o) := fun o i c hi => by
    rw [List.getElem?_drop] at hi
    obtain ⟨u, hu, hr⟩ := b4.get hi
    refine ⟨u, ?_, (hr.shut (hc c (List.mem_of_getElem? hi))).mono hext hle⟩
    rw [hcell, if_pos rfl, Lib.cell_of_heap b3]
    simpa using hu
  have hβ : ∀ y, y ≠ x → (fun y => if y = x then none else β y) y = β y := fun y hy => if_neg hy
  have hC : ∀ (v : Value) (c : Cv), RelC β W v c → RelC (fun y => if y = x then none else β y) W' v (frzC x s.cs c) := by
    intro v c hr
    cases c with
    | any => trivial
    | raw u => exact hr
    | ent e => exact e.mono hext hle hr
    | ptr y o =>
      obtain ⟨g1, h1, h2⟩ := hr
      rw [show frzC x s.cs (.ptr y o) = (match Nat.beq y x with | true => .ent (ptrTo (s.cs.drop o)) | false => .ptr y o) from rfl]
      split
      · rename_i hb
        have e := Nat.eq_of_beq_eq_true hb
        subst e
        rw [b1] at h1; injection h1 with h1; subst h1
        exact ⟨_, _, h2, hat o⟩
      · rename_i hb
        exact ⟨g1, (hβ y (by rintro rfl; rw [Nat.beq_refl] at hb; cases hb)).trans h1, h2⟩
    | row y o n d =>
      obtain ⟨g1, h1, h2⟩ := hr
      rw [show frzC x s.cs (.row y o n d) = (match Nat.beq y x with | true => .ent (rowOf n (s.cs.drop o)) | false => .row y o n d) from rfl]
      split
      · rename_i hb
        have e := Nat.eq_of_beq_eq_true hb
        subst e
        rw [b1] at h1; injection h1 with h1; subst h1
        exact ⟨_, _, h2, .inr ⟨_, _, rfl, hat o⟩⟩
      · rename_i hb
        exact ⟨g1, (hβ y (by rintro rfl; rw [Nat.beq_refl] at hb; cases hb)).trans h1, h2⟩
  have hCs : ∀ (l : List Cv) (vs : List Value), All2 (RelC β W) vs l → All2 (RelC (fun y => if y = x then none else β y) W') vs (l.map (frzC x s.cs)) := fun l vs hl => All2.mapR (R := RelC _ W') (frzC x s.cs) (hl.mono fun v c hr => hC v c hr)
  have hS : ∀ (v : Value) (c : Sv), RelS β W v c → RelS (fun y => if y = x then none else β y) W' v (frzS x s.cs c) := by
    intro v c hr
    cases c with
    | cel c => exact hC v c hr
    | agg l => obtain ⟨vs, h1, h2⟩ := hr; exact ⟨vs, h1, hCs l vs h2⟩
  have hA : ∀ (v : Value) (c : Av), RelA β W v c → RelA (fun y => if y = x then none else β y) W' v (frzA x s.cs c) := by
    intro v c hr
    cases c with
    | one c => exact hS v c hr
    | tup l => obtain ⟨vs, h1, h2⟩ := hr; exact ⟨vs, h1, All2.mapR (R := RelS _ W') (frzS x s.cs) (h2.mono fun v c hr => hS v c hr)⟩
  refine ⟨fun y => if y = x then none else β y, W', h.defers, h.room, fun t => by rw [tmF_map _ rfl]; exact hA _ _ (h.tmp t), h.below, fun p u hp hq => ?_, by rw [hsz]; exact h.size, fun p u hp => ?_, fun p k z hk hp => hext _ _ (h.u32 p k z hk hp), h.glob, fun y z g1 hy hz hg => ?_, fun y st hy => ?_, fun y g1 hy => ?_⟩
  · rw [hcell, if_neg (by omega)] at hq; exact h.old p u hp hq
  · rw [hcell] at hp
    split at hp
    · exact hp
    · exact h.ext p u hp
  · try dsimp only at hy hz
    split at hy
    · cases hy
    · split at hz
      · cases hz
      · exact h.inj y z g1 hy hz hg
  · rw [look_frzV] at hy
    split at hy
    · cases hy
    · rename_i hne
      cases hl : look vr y with
      | none => rw [hl] at hy; cases hy
      | some s0 =>
        rw [hl] at hy
        injection hy with hy
        obtain ⟨g1, cells1, c1, c2, c3, c4, c5⟩ := h.var y s0 hl
        have hown : (frzW x s.cs s0).own = s0.own := by unfold frzW; split <;> rfl
        have ht : (frzW x s.cs s0).t = s0.t := by unfold frzW; split <;> rfl
        have hcs : All2 (RelC (fun y => if y = x then none else β y) W') cells1.toList (frzW x s.cs s0).cs := by
          unfold frzW
          split
          · exact hCs _ _ c4
          · rename_i _ hcl _
            exact all2_restrict (fun z hz => by obtain ⟨c, e1, e2⟩ := List.mem_flatMap.1 hz; rw [hcl c e1] at e2; cases e2) (fun e v hh => e.mono hext hle hh) c4
        subst hy
        refine ⟨g1, cells1, (hβ y hne).trans c1, c2, by rw [ht]; exact c3, hcs, fun hw => ?_⟩
        rw [hown] at hw
        obtain ⟨d1, d2, d3⟩ := c5 hw
        refine ⟨d1, fun p u hp hq => ?_, d3⟩
        have : g1 ≠ g := by rintro rfl; exact hne (h.inj y x g1 c1 b1 d1)
        rw [hcell, if_neg (by omega)] at hq
        exact d2 p u hp hq
  · try dsimp only at hy
    split at hy
    · cases hy
    · rename_i hne
      obtain ⟨⟨s0, h1⟩, h2⟩ := h.dom y g1 hy
      exact ⟨⟨_, by rw [look_frzV, if_neg hne, h1]; rfl⟩, h2⟩
theorem thaw_out {k : Nat} : ∀ {tr : List Tr} {tm : List Av} {vr : List (Nat × VarSt)} {out : List Tr} {S : St}, thaw k tr tm vr out = some S → ∀ t ∈ out, t ∈ S.out := by
  intro tr
  induction tr with
  | nil => intro tm vr out S h; unfold thaw at h; injection h with h; subst h; exact fun t ht => ht
  | cons t tr ih =>
    intro tm vr out S h
    unfold thaw at h
    split at h
    · rename_i heq
      injection heq with _ heq; subst heq
      split at h
      · split at h
        · exact fun t ht => ih h t (List.mem_cons_of_mem _ ht)
        · cases h
      · cases h
    · injection h with h; subst h; exact fun t ht => ht
theorem thaw_sound {k : Nat} : ∀ {tr : List Tr} {tm : List Av} {vr : List (Nat × VarSt)} {out : List Tr} {S : St}, thaw k tr tm vr out = some S → (∀ t ∈ S.out, TrOk P G t) → ∀ {tr0 : List Tr} {out0 : List Tr}, Sat w0 G ⟨tm, vr, k, tr0, out0⟩ a w → Sat w0 G S a w := by
  intro tr
  induction tr with
  | nil => intro tm vr out S h _ tr0 out0 hs; unfold thaw at h; injection h with h; subst h; exact hs
  | cons t tr ih =>
    intro tm vr out S h hok tr0 out0 hs
    unfold thaw at h
    split at h
    · rename_i heq
      injection heq with heq0 heq; subst heq; subst heq0
      split at h
      · rename_i s hl
        split at h
        · rename_i ho
          have hc : ∀ c ∈ s.cs, varsC c = [] := hok (.freeze _ s.cs) (thaw_out h _ (List.mem_cons_self ..))
          refine ih h hok (tr0 := tr0) (out0 := out0) ?_
          obtain ⟨⟨β, W, hR⟩, hf⟩ := hs
          obtain ⟨β', W', hR'⟩ := hR.freeze hl ho hc
          refine ⟨⟨β', W', ?_⟩, fun z hz => ?_⟩
          · dsimp only
            rw [List.length_map]
            exact hR'
          · show look (frzV _ s.cs _) z = none
            rw [look_frzV]
            split
            · rfl
            · have hz' := hf z hz
              dsimp only at hz'
              rw [hz']; rfl
        · cases h
      · cases h
    · injection h with h; subst h; exact hs
end
end Go.Proofs.YtejkcmklhmifaaaGreatDoor.AM

/- Code, and whole functions. -/
namespace Go.Proofs.YtejkcmklhmifaaaGreatDoor.AM
open Go Go.RowKit

/-- A list laid out before one goes on. -/
def forceC {γ : Type} (c : Cv) (k : Cv → γ) : γ := match c with | .any => k .any | .raw v => k (.raw v) | .ent e => k (.ent e) | .ptr x o => k (.ptr x o) | .row x o n d => k (.row x o n d)
def forceCs {γ : Type} : List Cv → (List Cv → γ) → γ
  | [], k => k []
  | c :: l, k => forceC c fun c' => forceCs l fun l' => k (c' :: l')
def forceS {γ : Type} (s : Sv) (k : Sv → γ) : γ := match s with | .cel c => forceC c fun c' => k (.cel c') | .agg l => forceCs l fun l' => k (.agg l')
def forceSs {γ : Type} : List Sv → (List Sv → γ) → γ
  | [], k => k []
  | c :: l, k => forceS c fun c' => forceSs l fun l' => k (c' :: l')
def forceA {γ : Type} (a : Av) (k : Av → γ) : γ := match a with | .one s => forceS s fun s' => k (.one s') | .tup l => forceSs l fun l' => k (.tup l')
def forceAs {γ : Type} : List Av → (List Av → γ) → γ
  | [], k => k []
  | c :: l, k => forceA c fun c' => forceAs l fun l' => k (c' :: l')
def forceN {γ : Type} (n : Nat) (k : Nat → γ) : γ := match n with | 0 => k 0 | m + 1 => k (m + 1)
def forceV {γ : Type} : List (Nat × VarSt) → (List (Nat × VarSt) → γ) → γ
  | [], k => k []
  | (x, ⟨t, cs, o, .no⟩) :: l, k => forceN x fun x' => forceCs cs fun cs' => forceV l fun l' => k ((x', ⟨t, cs', o, .no⟩) :: l')
  | (x, ⟨t, cs, o, .yes h⟩) :: l, k => forceN x fun x' => forceV l fun l' => k ((x', ⟨t, cs, o, .yes h⟩) :: l')
theorem forceC_eq {γ : Type} (c : Cv) (k : Cv → γ) : forceC c k = k c := by cases c <;> rfl
theorem forceCs_eq {γ : Type} : ∀ (l : List Cv) (k : List Cv → γ), forceCs l k = k l
  | [], _ => rfl
  | c :: l, k => by unfold forceCs; rw [forceC_eq, forceCs_eq l]
theorem forceS_eq {γ : Type} (s : Sv) (k : Sv → γ) : forceS s k = k s := by
  cases s with
  | cel c => exact forceC_eq c fun c' => k (.cel c')
  | agg l => exact forceCs_eq l fun l' => k (.agg l')
theorem forceSs_eq {γ : Type} : ∀ (l : List Sv) (k : List Sv → γ), forceSs l k = k l
  | [], _ => rfl
  | c :: l, k => by unfold forceSs; rw [forceS_eq, forceSs_eq l]
theorem forceA_eq {γ : Type} (s : Av) (k : Av → γ) : forceA s k = k s := by
  cases s with
  | one c => exact forceS_eq c fun c' => k (.one c')
  | tup l => exact forceSs_eq l fun l' => k (.tup l')
theorem forceAs_eq {γ : Type} : ∀ (l : List Av) (k : List Av → γ), forceAs l k = k l
  | [], _ => rfl
  | c :: l, k => by unfold forceAs; rw [forceA_eq, forceAs_eq l]
theorem forceN_eq {γ : Type} (n : Nat) (k : Nat → γ) : forceN n k = k n := by cases n <;> rfl
theorem forceV_eq {γ : Type} : ∀ (l : List (Nat × VarSt)) (k : List (Nat × VarSt) → γ), forceV l k = k l
  | [], _ => rfl
  | (x, ⟨t, cs, o, .no⟩) :: l, k => by unfold forceV; rw [forceN_eq, forceCs_eq, forceV_eq l]
  | (x, ⟨t, cs, o, .yes h⟩) :: l, k => by unfold forceV; rw [forceN_eq, forceV_eq l]
def forceSt {γ : Type} (S : St) (k : St → γ) : γ := forceAs S.tm fun tm => forceN S.k fun n => k ⟨tm, S.vr, n, S.tr, S.out⟩
theorem forceSt_eq {γ : Type} (S : St) (k : St → γ) : forceSt S k = k S := by
  unfold forceSt; rw [forceAs_eq, forceN_eq]

def endRegion (r : Option St) : Option (Exit × St) := match r with | some S => forceSt S fun S' => some (.normal, S') | none => none
/-- The machine. 'go': the next round of a loop. -/
def run (P : Program) : Nat → Bool → Code → St → Option (Exit × St)
  | 0, _, _, _ => none
  | n + 1, go, c, S =>
    match c with
    | .skip => some (.normal, S)
    | .label _ => some (.normal, S)
    | .seq x y => (match run P n false x S with | some (.normal, S1) => run P n false y S1 | r => r)
    | .cond c x y => (match evF (tmF S.tm) c with | .one (.cel (.raw (.bool true))) => run P n false x S | .one (.cel (.raw (.bool false))) => run P n false y S | _ => none)
    | .block id b => (match run P n false b S with | some (.exit id', S1) => (match Nat.beq id' id with | true => some (.normal, S1) | false => some (.exit id', S1)) | r => r)
    | .loop b =>
      (match go with
      | true => (match run P n false b S with | some (.normal, S1) => run P n true (.loop b) S1 | r => r)
      | false =>
        (match S.tr with
        | .loop _ keep ids _ _ e tm' vr' k' :: tr' => (match Nat.beq tm'.length S.tm.length, vr'.all (fun m => Nat.blt m.1 k'), closedIds ids (forgetT keep 0 S.tm) (forgetV S.vr ids) with
          | true, true, true => some (e, ⟨tm', vr', k', tr', .loop b keep ids (forgetT keep 0 S.tm) (forgetV S.vr ids) e tm' vr' k' :: S.out⟩)
          | _, _, _ => none)
        | .unroll :: tr' => run P n true (.loop b) ⟨S.tm, S.vr, S.k, tr', .unroll :: S.out⟩
        | _ => run P n true (.loop b) S))
    | .exit id => some (.exit id, S)
    | .ret => some (.ret, S)
    | .region _ ops false => (match thaw S.k S.tr S.tm S.vr S.out with | some S1 => endRegion (seqOps P ops ops.toList S1) | none => none)
    | .region _ ops true => (match thaw S.k S.tr S.tm S.vr S.out with | some S1 => endRegion (drawnOps P ops S1) | none => none)
    | _ => none

theorem endRegion_some {r : Option St} {e : Exit} {S : St} (h : endRegion r = some (e, S)) : e = .normal ∧ r = some S := by
  unfold endRegion at h
  split at h
  · rw [forceSt_eq] at h
    injection h with h; injection h with h1 h2
    subst h1; subst h2; exact ⟨rfl, rfl⟩
  · cases h

theorem run_out {P : Program} : ∀ (n : Nat) (go : Bool) (c : Code) (S S' : St) (e : Exit), run P n go c S = some (e, S') → ∀ t ∈ S.out, t ∈ S'.out
  | 0, _, _, _, _, _, h => by cases h
  | n + 1, go, c, S, S', e, h => by
    unfold run at h
    cases c <;> (try dsimp only at h) <;> (try (cases h; done)) <;> (try (injection h with h; injection h with _ h; subst h; exact fun t ht => ht))
    case seq x y =>
      split at h
      · rename_i S1 h1
        exact fun t ht => run_out n false y S1 S' e h t (run_out n false x S S1 _ h1 t ht)
      · exact run_out n false x S S' e h
    case cond c x y =>
      split at h
      · exact run_out n false x S S' e h
      · exact run_out n false y S S' e h
      · cases h
    case block id b =>
      split at h
      · rename_i id' S1 h1
        have := run_out n false b S S1 _ h1
        split at h <;> (injection h with h; injection h with _ h; subst h; exact this)
      · exact run_out n false b S S' e h
    case loop b =>
      split at h
      · split at h
        · rename_i S1 h1
          exact fun t ht => run_out n true (.loop b) S1 S' e h t (run_out n false b S S1 _ h1 t ht)
        · exact run_out n false b S S' e h
      · split at h
        · split at h
          · injection h with h; injection h with _ h; subst h; exact fun t ht => List.mem_cons_of_mem _ ht
          · cases h
        · exact fun t ht => run_out n true (.loop b) _ S' e h t (List.mem_cons_of_mem _ ht)
        · exact run_out n true (.loop b) S S' e h
    case region id ops d =>
      cases d with
      | false =>
        dsimp only at h
        split at h
        · rename_i S1 h1
          exact fun t ht => seqOps_sound.seqOut _ _ _ (endRegion_some h).2 t (thaw_out h1 t ht)
        · cases h
      | true =>
        dsimp only at h
        split at h
        · rename_i S1 h1
          exact fun t ht => drawnOps_out (endRegion_some h).2 t (thaw_out h1 t ht)
        · cases h
theorem all_fresh {vr : List (Nat × VarSt)} {k : Nat} (h : (vr.all fun m => Nat.blt m.1 k) = true) : ∀ x, k ≤ x → look vr x = none := fun x hx => by
  induction vr with
  | nil => rfl
  | cons m l ih =>
    obtain ⟨y, s⟩ := m
    rw [List.all_cons, Bool.and_eq_true] at h
    unfold look
    have hy : y < k := Nat.le_of_ble_eq_true h.1
    rw [show Nat.beq y x = false by rw [Bool.eq_false_iff]; intro e; have := Nat.eq_of_beq_eq_true e; omega]
    exact ih h.2

theorem run_sound {P : Program} {G : World → Prop} {w0 : Base} (hG : ∀ {w w' : World}, Below w.heap.size w w' → G w → G w') (hm : P.follows .mixedOrders = true) :
    ∀ (n : Nat), (∀ (c : Code) (S S' : St) (e : Exit), run P n false c S = some (e, S') → (∀ t ∈ S'.out, TrOk P G t) → ∀ (Q : Exit → Act → World → Prop) (a : Act) (w : World), Sat w0 G S a w → (∀ a w, Sat w0 G S' a w → Q e a w) → c.wp P Q a w) ∧
      (∀ (b : Code) (S S' : St) (e : Exit), run P n true (.loop b) S = some (e, S') → (∀ t ∈ S'.out, TrOk P G t) → ∀ (Q : Exit → Act → World → Prop) (a : Act) (w : World), Sat w0 G S a w → (∀ a w, Sat w0 G S' a w → Q e a w) → Code.rounds P b Q n a w)
  | 0 => ⟨fun _ _ _ _ h => (by cases h), fun _ _ _ _ h => (by cases h)⟩
  | n + 1 => by
    obtain ⟨ih, ihl⟩ := run_sound hG hm n (w0 := w0)
    have hloop : ∀ (b : Code) (S S' : St) (e : Exit), run P (n + 1) true (.loop b) S = some (e, S') → (∀ t ∈ S'.out, TrOk P G t) → ∀ (Q : Exit → Act → World → Prop) (a : Act) (w : World), Sat w0 G S a w → (∀ a w, Sat w0 G S' a w → Q e a w) → Code.rounds P b Q (n + 1) a w := by
      intro b S S' e h hok Q a w hS hQ
      unfold run at h
      dsimp only at h
      rw [rounds_succ]
      split at h
      · rename_i S1 h1
        have hok1 : ∀ t ∈ S1.out, TrOk P G t := fun t ht => hok t (run_out n _ _ _ _ _ h t ht)
        exact ih b S S1 .normal h1 hok1 _ a w hS fun a1 w1 hS1 => ihl b S1 S' e h hok Q a1 w1 hS1 hQ
      · rename_i hnn
        refine ih b S S' e h hok _ a w hS fun a1 w1 hS1 => ?_
        have := hQ a1 w1 hS1
        cases e <;> first | exact this | exact absurd h (hnn _)
    refine ⟨fun c S S' e h hok Q a w hS hQ => ?_, hloop⟩
    cases c with
    | skip => unfold run at h; injection h with h; injection h with h1 h2; subst h1; subst h2; exact wp_skip (hQ a w hS)
    | label l => unfold run at h; injection h with h; injection h with h1 h2; subst h1; subst h2; exact wp_label (hQ a w hS)
    | exit id => unfold run at h; injection h with h; injection h with h1 h2; subst h1; subst h2; exact wp_exit (hQ a w hS)
    | ret => unfold run at h; injection h with h; injection h with h1 h2; subst h1; subst h2; exact wp_ret (hQ a w hS)
    | seq x y =>
      unfold run at h
      dsimp only at h
      split at h
      · rename_i S1 h1
        have hok1 : ∀ t ∈ S1.out, TrOk P G t := fun t ht => hok t (run_out n _ _ _ _ _ h t ht)
        exact wp_seq (ih x S S1 .normal h1 hok1 _ a w hS fun a1 w1 hS1 => ih y S1 S' e h hok Q a1 w1 hS1 hQ)
      · rename_i hnn
        refine wp_seq (ih x S S' e h hok _ a w hS fun a1 w1 hS1 => ?_)
        have := hQ a1 w1 hS1
        cases e <;> first | exact this | exact absurd h (hnn _)
    | cond c x y =>
      unfold run at h
      dsimp only at h
      obtain ⟨⟨β, W, hR⟩, _⟩ := id hS
      have hev := hR.eval c
      split at h
      · rename_i he
        rw [he] at hev
        exact wp_cond_true hev (ih x S S' e h hok Q a w hS hQ)
      · rename_i he
        rw [he] at hev
        exact wp_cond_false hev (ih y S S' e h hok Q a w hS hQ)
      · cases h
    | block id b =>
      unfold run at h
      dsimp only at h
      split at h
      · rename_i id' S1 h1
        split at h
        · rename_i hb
          injection h with h; injection h with e1 e2; subst e1; subst e2
          refine wp_block (ih b S S1 _ h1 hok _ a w hS fun a1 w1 hS1 => ?_)
          show if id' = id then _ else _
          rw [if_pos (Nat.eq_of_beq_eq_true hb)]
          exact hQ a1 w1 hS1
        · rename_i hb
          injection h with h; injection h with e1 e2; subst e1; subst e2
          refine wp_block (ih b S S1 _ h1 hok _ a w hS fun a1 w1 hS1 => ?_)
          show if id' = id then _ else _
          rw [if_neg (by rintro rfl; rw [Nat.beq_refl] at hb; cases hb)]
          exact hQ a1 w1 hS1
      · rename_i hnn
        refine wp_block (ih b S S' e h hok _ a w hS fun a1 w1 hS1 => ?_)
        have := hQ a1 w1 hS1
        cases e <;> first | exact this | exact absurd h (hnn _ _)
    | loop b =>
      unfold run at h
      dsimp only at h
      split at h
      · rename_i b' keep ids tm vr e' tm' vr' k' tr' htr
        split at h
        · rename_i hl hall hcl
          injection h with h; injection h with e1 e2; subst e1; subst e2
          exact hok _ (List.mem_cons_self ..) w0 Q a w (hS.1.forget keep ids hcl) fun a1 w1 h1 => hQ a1 w1 ⟨h1, all_fresh hall⟩
        · cases h
      · exact wp_loop_rounds n (ihl b _ S' e h hok Q a w hS hQ)
      · exact wp_loop_rounds n (ihl b S S' e h hok Q a w hS hQ)
    | region id ops d =>
      unfold run at h
      cases d with
      | false =>
        dsimp only at h
        split at h
        · rename_i S1 hth
          obtain ⟨rfl, h1⟩ := endRegion_some h
          have hok1 : ∀ t ∈ S1.out, TrOk P G t := fun t ht => hok t (seqOps_sound.seqOut _ _ _ h1 t ht)
          exact wp_region_list (seqOps_sound hG _ S1 S' a w h1 hok (thaw_sound hth hok1 hS) hQ).1
        · cases h
      | true =>
        dsimp only at h
        split at h
        · rename_i S1 hth
          obtain ⟨rfl, h1⟩ := endRegion_some h
          have hok1 : ∀ t ∈ S1.out, TrOk P G t := fun t ht => hok t (drawnOps_out h1 t ht)
          exact drawnOps_sound hG hm h1 hok (thaw_sound hth hok1 hS) hQ
        · cases h
    | rangeFunc f ps as b => unfold run at h; cases h
    | scope b => unfold run at h; cases h
    | goto l => unfold run at h; cases h
    | refuse s => unfold run at h; cases h
end Go.Proofs.YtejkcmklhmifaaaGreatDoor.AM

/- A whole function: its contract, from what the machine comes to. -/
namespace Go.Proofs.YtejkcmklhmifaaaGreatDoor.AM
open Go Go.RowKit

def resOne (P : Program) (S : St) : ResultVar → Option Sv
  | .tmp t => svOf (tmF S.tm t)
  | .cell a t =>
    match tmF S.tm a with
    | .one (.cel (.ptr x off)) =>
      (match look S.vr x with
      | some s => (match pureSem P (isAgg t), pureSem P (sizeOf t) with
        | some true, some n => if off + n ≤ s.cs.length then some (.agg ((s.cs.drop off).take n)) else none
        | some false, some _ => (match s.cs[off]? with | some c => some (.cel c) | none => none)
        | _, _ => none)
      | none => none)
    | _ => none
def resAll (P : Program) (S : St) : List ResultVar → Option (List Sv)
  | [] => some []
  | r :: l => match resOne P S r, resAll P S l with | some s, some l' => some (s :: l') | _, _ => none
def resA (l : List Sv) : Av := match l with | [s] => .one s | l => .tup l
def foreign (mem : List (Nat × VarSt)) : List (Nat × VarSt) := mem.map fun m => (m.1, ⟨m.2.t, m.2.cs, false, m.2.sy⟩)
def startSt (fn : Func) (args : List Sv) (mem : List (Nat × VarSt)) (k0 : Nat) (tr : List Tr) : St :=
  ⟨args.map .one ++ List.replicate (fn.ntmps - args.length) undefA, foreign mem, k0, tr, []⟩
def closed (args : List Sv) (mem : List (Nat × VarSt)) (k0 : Nat) : Bool :=
  inAll (mem.map (·.1)) (args.flatMap varsS) && mem.all fun m => Nat.blt m.1 k0 && inAll (mem.map (·.1)) (varsV m.2)
/-- What a function answers, and what was asked on the way (the last first). -/
def endFn (P : Program) (fn : Func) (S : St) : Option (Av × List Tr) :=
  match thaw S.k S.tr S.tm S.vr S.out with
  | some S1 => (match resAll P S1 fn.results.toList with | some l => (match varsA (resA l) with | [] => some (resA l, S1.out) | _ => none) | none => none)
  | none => none
def runFn (P : Program) (n : Nat) (fn : Func) (c : Code) (args : List Sv) (mem : List (Nat × VarSt)) (k0 : Nat) (tr : List Tr) : Option (Av × List Tr) :=
  match closed args mem k0 with
  | true => (match run P n false c (startSt fn args mem k0 tr) with
    | some (.ret, S) => endFn P fn S
    | some (.normal, S) => endFn P fn S
    | _ => none)
  | false => none

/-- A function that hands back its row x. -/
def endFnO (P : Program) (fn : Func) (x : Nat) (S : St) : Option (Av × VarSt × List Tr) :=
  match thaw S.k S.tr S.tm S.vr S.out with
  | some S1 => (match resAll P S1 fn.results.toList, look S1.vr x with
    | some l, some s => (match inAll [x] (varsA (resA l)), s.own, varsV s with | true, true, [] => some (renA 0 (resA l), s, S1.out) | _, _, _ => none)
    | _, _ => none)
  | none => none
def runFnO (P : Program) (n : Nat) (fn : Func) (c : Code) (args : List Sv) (mem : List (Nat × VarSt)) (k0 : Nat) (tr : List Tr) (x : Nat) : Option (Av × VarSt × List Tr) :=
  match closed args mem k0 with
  | true => (match run P n false c (startSt fn args mem k0 tr) with
    | some (.ret, S) => endFnO P fn x S
    | some (.normal, S) => endFnO P fn x S
    | _ => none)
  | false => none

section
variable {P : Program} {G : World → Prop} {β β' : Nat → Option Nat} {W W' w : World}
theorem mapM_run {α γ : Type} {f : α → Sem γ} {w : World} : ∀ {l : List α} {r : List γ}, All2 (fun x y => (f x).run P w = .ok y w) l r → (l.mapM f).run P w = .ok r w
  | [], [], _ => rfl
  | x :: l, y :: r, h => by
    rw [List.mapM_cons, Sem.run_bind, h.1, Result.andThen_ok, Sem.run_bind, mapM_run h.2, Result.andThen_ok]; rfl
def tupV (vs : List Value) : Value := match vs with | [v] => v | vs => .tuple vs.toArray
theorem results_run {fn : Func} {tmps : Array Value} {vs : List Value} {w : World} (h : All2 (fun r v => (match r with | .tmp t => pure (tmps.getD t undef) | .cell a t => do loadVar t (← asAddr (tmps.getD a undef)) : Sem Value).run P w = .ok v w) fn.results.toList vs) :
    (results fn tmps).run P w = .ok (tupV vs) w := by
  unfold results
  rw [Sem.run_bind]
  have e : (fn.results.mapM fun r => (match r with | .tmp t => pure (tmps.getD t undef) | .cell a t => do loadVar t (← asAddr (tmps.getD a undef)) : Sem Value)).run P w = .ok vs.toArray w := by
    rw [Array.mapM_eq_mapM_toList, Sem.run_map, mapM_run h, Result.andThen_ok]
  refine (congrArg (fun r => Result.andThen r _) e).trans ?_
  rw [Result.andThen_ok]
  match vs with
  | [] => rfl
  | [v] => rfl
  | _ :: _ :: _ => simp [tupV]

theorem resAll_rel {w0 : Base} {S : St} {a : Act} {w : World} {N : Nat} (h : Rep w0 G N β W (tmF S.tm) (look S.vr) a w) : ∀ {rs : List ResultVar} {l : List Sv}, resAll P S rs = some l →
    ∃ vs, All2 (fun r v => (match r with | .tmp t => pure (a.tmps.getD t undef) | .cell c t => do loadVar t (← asAddr (a.tmps.getD c undef)) : Sem Value).run P w = .ok v w) rs vs ∧ All2 (RelS β W) vs l
  | [], l, hr => by injection hr with hr; subst hr; exact ⟨[], trivial, trivial⟩
  | r :: rs, l, hr => by
    unfold resAll at hr
    split at hr
    · rename_i s l' h1 h2
      injection hr with hr; subst hr
      obtain ⟨vs, hv1, hv2⟩ := resAll_rel h h2
      have key : ∃ v, (match r with | .tmp t => pure (a.tmps.getD t undef) | .cell c t => do loadVar t (← asAddr (a.tmps.getD c undef)) : Sem Value).run P w = .ok v w ∧ RelS β W v s := by
        unfold resOne at h1
        split at h1
        · rename_i t
          have ht := h.tmp t
          rw [svOf_some h1] at ht
          exact ⟨_, rfl, ht⟩
        · rename_i c t
          split at h1
          · rename_i x off hx
            have hc := h.tmp c
            rw [hx] at hc
            obtain ⟨g, hg, hptr⟩ := hc
            split at h1
            · rename_i vs' hs
              obtain ⟨g', cs, b1, b2, b3, b4, _⟩ := h.var x vs' hs
              obtain rfl : g = g' := by rw [hg] at b1; injection b1
              have hlen := b4.length
              split at h1
              · rename_i n hA hS
                split at h1
                · rename_i hle
                  injection h1 with h1; subst h1
                  have hld := run_loadCells_list (P := P) w ⟨g, off, none⟩ ((cs.toList.drop off).take n) (fun j v hj => by
                    rw [add_at, Lib.cell_of_heap b3]
                    rw [List.getElem?_take] at hj
                    split at hj
                    · rw [List.getElem?_drop] at hj; simpa using hj
                    · cases hj)
                  have hn : ((cs.toList.drop off).take n).length = n := by simp at hlen ⊢; omega
                  rw [hn] at hld
                  refine ⟨.agg ((cs.toList.drop off).take n).toArray, ?_, _, rfl, (b4.drop off).take n⟩
                  try dsimp only
                  rw [hptr]
                  simp [asAddr, loadVar, pureSem_run hA w, pureSem_run hS w, hld]
                · cases h1
              · rename_i n hA hS
                split at h1
                · rename_i c' hc'
                  injection h1 with h1; subst h1
                  obtain ⟨u, hu, hr⟩ := b4.get hc'
                  have hcell : w.cell? ⟨g, off, none⟩ = some u := by rw [Lib.cell_of_heap b3]; simpa using hu
                  refine ⟨u, ?_, hr⟩
                  try dsimp only
                  rw [hptr]
                  simp [asAddr, loadVar, pureSem_run hA w, hcell]
                · cases h1
              · cases h1
            · cases h1
          · cases h1
      obtain ⟨v, hv, hs⟩ := key
      exact ⟨v :: vs, ⟨hv, hv1⟩, hs, hv2⟩
    · cases hr

theorem resA_rel {vs : List Value} {l : List Sv} (h : All2 (RelS β W) vs l) : RelA β W (tupV vs) (resA l) := by
  match vs, l, h with
  | [], [], h => exact ⟨[], rfl, h⟩
  | [v], [s], h => exact h.1
  | _ :: _ :: _, _ :: _ :: _, h => exact ⟨_, rfl, h⟩

theorem start_rep {fn : Func} {args : List Sv} {mem : List (Nat × VarSt)} {k0 : Nat} {vals : List Value} (hcl : closed args mem k0 = true) (hs : W.heap.size = w.heap.size) (he : Ext W w) (hu : U32 W w) (hG : G w)
    (ha : All2 (RelS β W) vals args) (hm : MemOk β W w mem) (tr : List Tr) :
    Sat ⟨w, W⟩ G (startSt fn args mem k0 tr) { tmps := vals.toArray ++ Array.replicate (fn.ntmps - vals.toArray.size) undef, defers := [] } w := by
  unfold closed at hcl
  rw [Bool.and_eq_true] at hcl
  have hin := inAll_spec hcl.1
  have hmem : ∀ m ∈ mem, m.1 < k0 ∧ ∀ x ∈ m.2.cs.flatMap varsC, x ∈ mem.map (·.1) := fun m hmm => by
    have := List.all_eq_true.1 hcl.2 m hmm
    rw [Bool.and_eq_true] at this
    exact ⟨Nat.le_of_ble_eq_true this.1, fun x hx => inAll_spec this.2 x (varsV_spec hx)⟩
  have hlen := ha.length
  have hids : (foreign mem).map (·.1) = mem.map (·.1) := by unfold foreign; rw [List.map_map]; rfl
  have hβ : ∀ x, x ∈ mem.map (·.1) → (fun x => if memN x (mem.map (·.1)) = true then β x else none) x = β x := fun x hx => if_pos (memN_iff.2 hx)
  refine ⟨⟨fun x => if memN x (mem.map (·.1)) = true then β x else none, W, ?_⟩, fun x hx => ?_⟩
  · refine ⟨rfl, by simp [startSt, hlen], fun t => ?_, Below.refl _ _, fun _ _ _ h => h, hs, he, hu, hG, fun x y g hx _ hg => ?_, fun x s hx => ?_, fun x g hx => ?_⟩
    · have h1 : All2 (RelS (fun x => if memN x (mem.map (·.1)) = true then β x else none) W) vals args := all2S_restrict (fun x hx => hβ x (hin x hx)) (fun _ _ h => h) ha
      have h2 : All2 (RelA (fun x => if memN x (mem.map (·.1)) = true then β x else none) W) (vals ++ List.replicate (fn.ntmps - args.length) undef) (args.map Av.one ++ List.replicate (fn.ntmps - args.length) undefA) := by
        refine All2.append (All2.mapR (R := RelA _ W) Av.one h1) ?_
        have : ∀ n, All2 (RelA (fun x => if memN x (mem.map (·.1)) = true then β x else none) W) (List.replicate n undef) (List.replicate n undefA) := fun n => by
          induction n with
          | zero => trivial
          | succ n ih => rw [List.replicate_succ, List.replicate_succ]; exact ⟨rfl, ih⟩
        exact this _
      have e : (vals.toArray ++ Array.replicate (fn.ntmps - vals.toArray.size) undef) = (vals ++ List.replicate (fn.ntmps - args.length) undef).toArray := by
        rw [← hlen]; apply Array.ext'; simp
      try dsimp only
      rw [e]
      show RelA _ W _ (tmF (args.map Av.one ++ List.replicate (fn.ntmps - args.length) undefA) t)
      generalize args.map Av.one ++ List.replicate (fn.ntmps - args.length) undefA = L at h2
      generalize vals ++ List.replicate (fn.ntmps - args.length) undef = V at h2
      unfold tmF
      rw [List.getD_eq_getElem?_getD]
      cases hL : L[t]? with
      | some av =>
        obtain ⟨v, hv, hr⟩ := h2.get hL
        rw [Array.getD_eq_getD_getElem?]
        simp only [List.getElem?_toArray, hv]
        exact hr
      | none =>
        have hV : V[t]? = none := by
          rw [List.getElem?_eq_none_iff] at hL ⊢
          rw [h2.length]; exact hL
        rw [Array.getD_eq_getD_getElem?]
        simp only [List.getElem?_toArray, hV]
        exact rfl
    · exfalso
      try dsimp only at hx
      split at hx
      · rename_i hmm
        obtain ⟨m, hm1, hm2⟩ := List.mem_map.1 (memN_iff.1 hmm)
        obtain ⟨g', cs, b1, b2, _⟩ := hm m hm1
        rw [← hm2, b1] at hx
        injection hx with hx; subst hx
        exact absurd b2 (Nat.not_lt.2 hg)
      · cases hx
    · have := look_mem hx
      unfold startSt foreign at this
      dsimp only at this
      obtain ⟨m, hm1, hm2⟩ := List.mem_map.1 this
      injection hm2 with h1 h2
      subst h1; subst h2
      obtain ⟨g, cs, b1, b2, b3, b4⟩ := hm m hm1
      refine ⟨g, cs, (hβ m.1 (List.mem_map.2 ⟨m, hm1, rfl⟩)).trans b1, b2, b3, all2_restrict (fun x hx => hβ x ((hmem m hm1).2 x hx)) (fun _ _ h => h) b4, fun h => by cases h⟩
    · try dsimp only at hx
      split at hx
      · rename_i hmm
        have hmm' := memN_iff.1 hmm
        refine ⟨look_some (by unfold startSt; dsimp only; rw [hids]; exact hmm'), ?_⟩
        obtain ⟨m, hm1, hm2⟩ := List.mem_map.1 hmm'
        obtain ⟨g', cs, b1, b2, _⟩ := hm m hm1
        rw [← hm2, b1] at hx
        injection hx with hx; subst hx
        exact b2
      · cases hx
  · cases hl : look (startSt fn args mem k0 tr).vr x with
    | none => rfl
    | some s =>
      exfalso
      have := look_mem hl
      unfold startSt foreign at this
      dsimp only at this
      obtain ⟨m, hm1, hm2⟩ := List.mem_map.1 this
      injection hm2 with h1 _
      have := (hmem m hm1).1
      subst h1
      have hx' : k0 ≤ m.1 := hx
      omega

theorem fits_of_run (hG : ∀ {w w' : World}, Below w.heap.size w w' → G w → G w') (hmix : P.follows .mixedOrders = true) {f : FuncId} {fn : Func} {c : Code} {n k0 : Nat} {args : List Sv} {mem : List (Nat × VarSt)} {res : Av} {tr out : List Tr}
    (hf : P.funcs[f]? = some fn) (hn : (fn.name == "runtime.NumGoroutine") = false) (hb : fn.body = some c) (h : runFn P n fn c args mem k0 tr = some (res, out)) (hok : ∀ t ∈ out, TrOk P G t) : Fits P G f args mem res := by
  refine ⟨⟨fn, hf, hn, by rw [hb]; rfl⟩, fun β W w vals hs he hu hg ha hm => ?_⟩
  unfold runFn at h
  split at h
  · rename_i hcl
    have hstart := start_rep (fn := fn) hcl hs he hu hg ha hm tr
    have key : ∀ (e : Exit) (S : St), run P n false c (startSt fn args mem k0 tr) = some (e, S) → (e = .ret ∨ e = .normal) →
        endFn P fn S = some (res, out) →
        Calls P f vals.toArray w fun e w' => ∃ v, e = .returned v ∧ RelA β (patch W w') v res ∧ Below w.heap.size w w' := by
      intro e S hrun hex hres
      unfold endFn at hres
      split at hres
      case h_2 => cases hres
      rename_i S1 hth
      split at hres
      · rename_i l hl
        split at hres
        · rename_i hvars
          injection hres with hres; injection hres with h1 h2
          subst h1; subst h2
          refine calls_of_wp hf hb ?_
          refine ((run_sound (w0 := ⟨w, W⟩) hG hmix n).1 c _ S e hrun (fun t ht => hok t (thaw_out hth t ht)) _ _ w hstart fun a' w' hS' => ?_)
          obtain ⟨⟨β', W', hR⟩, _⟩ := thaw_sound hth hok hS'
          obtain ⟨vs, hv1, hv2⟩ := resAll_rel hR hl
          have hrel := resA_rel hv2
          have hext : Ext W' (patch W w') := fun p u hp => by
            rw [patch_cell]
            split
            · rename_i hlt
              exact hR.old p u (by rw [hs] at hlt; exact hlt) hp
            · exact hR.ext p u hp
          have hfin : RelA β (patch W w') (tupV vs) (resA l) :=
            relA_restrict (fun x hx => absurd hx (by rw [hvars]; simp)) (fun e v hh => e.mono hext (by rw [hR.size, patch_size (by rw [hs]; exact hR.below.size)]; exact Nat.le_refl _) hh) hrel
          have hpost : a'.defers = [] ∧ ∃ v, (results fn a'.tmps).run P w' = .ok v w' ∧ ∃ u, Ending.returned v = .returned u ∧ RelA β (patch W w') u (resA l) ∧ Below w.heap.size w w' :=
            ⟨hR.defers, _, results_run hv1, _, rfl, hfin, hR.below⟩
          rcases hex with rfl | rfl <;> exact hpost
        · cases hres
      · cases hres
    split at h
    · rename_i S hr; exact key _ S hr (.inl rfl) h
    · rename_i S hr; exact key _ S hr (.inr rfl) h
    · cases h
  · cases h
theorem fitsO_of_run (hG : ∀ {w w' : World}, Below w.heap.size w w' → G w → G w') (hmix : P.follows .mixedOrders = true) {f : FuncId} {fn : Func} {c : Code} {n k0 x : Nat} {args : List Sv} {mem : List (Nat × VarSt)} {res : Av} {s : VarSt} {tr out : List Tr}
    (hf : P.funcs[f]? = some fn) (hn : (fn.name == "runtime.NumGoroutine") = false) (hb : fn.body = some c) (h : runFnO P n fn c args mem k0 tr x = some (res, s, out)) (hok : ∀ t ∈ out, TrOk P G t) : FitsO P G f args mem res s := by
  unfold runFnO at h
  split at h
  case h_2 => cases h
  rename_i hcl
  have main : ∃ (e : Exit) (S : St), run P n false c (startSt fn args mem k0 tr) = some (e, S) ∧ (e = .ret ∨ e = .normal) ∧ endFnO P fn x S = some (res, s, out) := by
    split at h
    · rename_i S hr; exact ⟨_, S, hr, .inl rfl, h⟩
    · rename_i S hr; exact ⟨_, S, hr, .inr rfl, h⟩
    · cases h
  obtain ⟨e, S, hrun, hex, hres⟩ := main
  unfold endFnO at hres
  split at hres
  case h_2 => cases hres
  rename_i S1 hth
  split at hres
  case h_2 => cases hres
  rename_i l st hl hlook
  split at hres
  case h_2 => cases hres
  rename_i hin hown hvar
  injection hres with hres; injection hres with h1 h2; injection h2 with h2 h3
  subst h1; subst h2; subst h3
  refine ⟨⟨fn, hf, hn, by rw [hb]; rfl⟩, hown, fun β W w vals hs he hu hg ha hm => ?_⟩
  have hstart := start_rep (fn := fn) hcl hs he hu hg ha hm tr
  refine calls_of_wp hf hb ?_
  refine ((run_sound (w0 := ⟨w, W⟩) hG hmix n).1 c _ S e hrun (fun t ht => hok t (thaw_out hth t ht)) _ _ w hstart fun a' w' hS' => ?_)
  obtain ⟨⟨β', W', hR⟩, _⟩ := thaw_sound hth hok hS'
  obtain ⟨vs, hv1, hv2⟩ := resAll_rel hR hl
  have hrel := resA_rel hv2
  obtain ⟨g, cells, b1, b2, b3, b4, b5⟩ := hR.var x st hlook
  obtain ⟨a1, a2, a3⟩ := b5 hown
  have hext : Ext W' (bare (patch W w') g st.t) := fun p u hp => by
    have hne : p.block ≠ g := fun e => a2 p u e hp
    rw [bare_cell, if_neg hne, patch_cell]
    split
    · rename_i hlt
      exact hR.old p u (by rw [hs] at hlt; exact hlt) hp
    · exact hR.ext p u hp
  have hsz : W'.heap.size ≤ (bare (patch W w') g st.t).heap.size := by
    rw [bare_size, hR.size, patch_size (by rw [hs]; exact hR.below.size)]; exact Nat.le_refl _
  have hmid : RelA (only x g) (bare (patch W w') g st.t) (tupV vs) (resA l) :=
    relA_restrict (fun y hy => by
      have := inAll_spec hin y hy
      simp at this; subst this
      rw [b1]; unfold only; rw [if_pos rfl]) (fun e v hh => e.mono hext hsz hh) hrel
  have hfin : RelA (only 0 g) (bare (patch W w') g st.t) (tupV vs) (renA 0 (resA l)) := renA_rel (if_pos rfl) hmid
  have hcl2 : ∀ c ∈ st.cs, varsC c = [] := fun c hc => by
    cases hvc : varsC c with
    | nil => rfl
    | cons y ys =>
      have : y ∈ varsV st := varsV_spec (List.mem_flatMap.2 ⟨c, hc, by rw [hvc]; exact List.mem_cons_self ..⟩)
      rw [hvar] at this; cases this
  have hcells : ∀ (us : List Value) (cs : List Cv), (∀ c ∈ cs, varsC c = []) → All2 (RelC β' W') us cs → All2 (HoldsC (bare (patch W w') g st.t)) us cs := by
    intro us
    induction us with
    | nil => intro cs _ h; cases cs with | nil => trivial | cons => exact h.elim
    | cons u us ih =>
      intro cs hc h
      cases cs with
      | nil => exact h.elim
      | cons c cs => exact ⟨(h.1.shut (hc c (List.mem_cons_self ..))).mono hext hsz, ih cs (fun c h => hc c (List.mem_cons_of_mem _ h)) h.2⟩
  have hpost : a'.defers = [] ∧ ∃ v, (results fn a'.tmps).run P w' = .ok v w' ∧ ∃ u g cs, Ending.returned v = .returned u ∧ RelA (only 0 g) (bare (patch W w') g st.t) u (renA 0 (resA l)) ∧ Below w.heap.size w w' ∧ w.heap.size ≤ g ∧ g < w'.heap.size ∧
      w'.heap[g]? = some (.cells cs st.t (0, 0)) ∧ All2 (HoldsC (bare (patch W w') g st.t)) cs.toList st.cs ∧ ∀ c ∈ cs.toList, okCell c = true :=
    ⟨hR.defers, _, results_run hv1, _, g, cells, rfl, hfin, hR.below, a1, b2, b3, hcells _ _ hcl2 b4, a3⟩
  rcases hex with rfl | rfl <;> exact hpost
/-- A row handed back, not written any more. -/
theorem FitsO.fits {f : FuncId} {args : List Sv} {mem : List (Nat × VarSt)} {res res' : Av} {s : VarSt} (h : FitsO P G f args mem res s)
    (hn : ∀ (g : Nat) (W : World) (v : Value), CellsAt W g 0 s.cs → RelA (only 0 g) W v res → RelA (fun _ => none) W v res') : Fits P G f args mem res' := by
  refine ⟨h.1, fun β W w vals hs he hu hg ha hm => (h.2.2 β W w vals hs he hu hg ha hm).mono ?_⟩
  rintro e w' ⟨v, g, cs, rfl, hr, hb, e1, e2, e3, e4, e5⟩
  refine ⟨v, rfl, ?_, hb⟩
  have hext : Ext (bare (patch W w') g s.t) (patch W w') := fun p u hp => by
    rw [bare_cell] at hp
    split at hp
    · cases hp
    · exact hp
  have hsz : (bare (patch W w') g s.t).heap.size ≤ (patch W w').heap.size := by rw [bare_size]; exact Nat.le_refl _
  have hat : CellsAt (patch W w') g 0 s.cs := fun i c hi => by
    obtain ⟨u, hu, hr⟩ := e4.get hi
    refine ⟨u, ?_, hr.mono hext hsz⟩
    rw [patch_cell, if_neg (by dsimp only; omega), Nat.zero_add, Lib.cell_of_heap e3]
    simpa using hu
  have := hn g _ v hat (hr.up ⟨fun _ _ h => h, hext, hsz⟩)
  exact this.up ⟨fun _ _ h => (by cases h), Ext.refl _, Nat.le_refl _⟩
end
end Go.Proofs.YtejkcmklhmifaaaGreatDoor.AM

/- Loops: round by round. -/
namespace Go.Proofs.YtejkcmklhmifaaaGreatDoor.AM
open Go Go.RowKit

section
variable {P : Program} {G : World → Prop}
/-- What a piece of code does, of what is said. -/
def Moves (P : Program) (G : World → Prop) (b : Code) (tm : List Av) (vr : List (Nat × VarSt)) (e : Exit) (tm' : List Av) (vr' : List (Nat × VarSt)) : Prop :=
  ∀ (w0 : Base) (Q : Exit → Act → World → Prop) (a : Act) (w : World), Is w0 G tm vr a w → (∀ a w, Is w0 G tm' vr' a w → Q e a w) → b.wp P Q a w
/-- A piece of code run from a state, and what is kept of that. -/
def runPart (P : Program) (n : Nat) (b : Code) (tm : List Av) (vr : List (Nat × VarSt)) (k : Nat) (tr : List Tr) (keep ids : List Nat) : Option (Exit × List Av × List (Nat × VarSt) × List Tr) :=
  match vr.all fun m => Nat.blt m.1 k with
  | true => (match run P n false b ⟨tm, vr, k, tr, []⟩ with
    | some (e, S) => (match closedIds ids (forgetT keep 0 S.tm) (forgetV S.vr ids) with | true => some (e, forgetT keep 0 S.tm, forgetV S.vr ids, S.out) | false => none)
    | none => none)
  | false => none
theorem moves_of_run (hG : ∀ {w w' : World}, Below w.heap.size w w' → G w → G w') (hm : P.follows .mixedOrders = true) {n k : Nat} {b : Code} {tm tm' : List Av} {vr vr' : List (Nat × VarSt)} {tr out : List Tr} {keep ids : List Nat} {e : Exit}
    (h : runPart P n b tm vr k tr keep ids = some (e, tm', vr', out)) (hok : ∀ t ∈ out, TrOk P G t) : Moves P G b tm vr e tm' vr' := by
  intro w0 Q a w hI hQ
  unfold runPart at h
  split at h
  · rename_i hfr
    split at h
    · rename_i e1 S hrun
      split at h
      · rename_i hcl
        injection h with h; injection h with h1 h2; injection h2 with h2 h3; injection h3 with h3 h4
        subst h1; subst h2; subst h3; subst h4
        exact (run_sound hG hm n).1 b _ S e1 hrun hok Q a w ⟨hI, all_fresh hfr⟩ fun a1 w1 h1 => hQ a1 w1 (h1.1.forget keep ids hcl)
      · cases h
    · cases h
  · cases h
theorem loop_moves {b : Code} {n : Nat} {tm : Nat → List Av} {vr : Nat → List (Nat × VarSt)} {e : Exit} {tm' : List Av} {vr' : List (Nat × VarSt)} (hr : ∀ k, k < n → Moves P G b (tm k) (vr k) .normal (tm (k + 1)) (vr (k + 1))) (he : e ≠ .normal) (hx : Moves P G b (tm n) (vr n) e tm' vr') :
    Moves P G (.loop b) (tm 0) (vr 0) e tm' vr' := by
  intro w0 Q a w hI hQ
  have key : ∀ (m k : Nat), k + m = n → ∀ (a : Act) (w : World), Is w0 G (tm k) (vr k) a w → Code.rounds P b Q (m + 1) a w := by
    intro m
    induction m with
    | zero =>
      intro k hk a w hI
      obtain rfl : k = n := by omega
      rw [rounds_succ]
      refine hx w0 _ a w hI fun a1 w1 h1 => ?_
      have := hQ a1 w1 h1
      cases e <;> first | exact this | exact absurd rfl he
    | succ m ih =>
      intro k hk a w hI
      rw [rounds_succ]
      exact hr k (by omega) w0 _ a w hI fun a1 w1 h1 => ih (k + 1) (by omega) a1 w1 h1
  exact wp_loop_rounds (n + 1) (key n 0 (by omega) a w hI)
/-- Nothing more is asked than what is told. -/
def AllOk (P : Program) (G : World → Prop) : List Tr → Prop
  | [] => True
  | t :: l => TrOk P G t ∧ AllOk P G l
theorem AllOk.all : ∀ {l : List Tr}, AllOk P G l → ∀ t ∈ l, TrOk P G t
  | [], _, t, h => by cases h
  | _ :: _, h, t, ht => by
    rcases List.mem_cons.1 ht with rfl | ht
    · exact h.1
    · exact h.2.all t ht
theorem AllOk.back {l : List Tr} (h : AllOk P G l) : ∀ t ∈ l.reverse, TrOk P G t := fun t ht => h.all t (List.mem_reverse.1 ht)
end
end Go.Proofs.YtejkcmklhmifaaaGreatDoor.AM
