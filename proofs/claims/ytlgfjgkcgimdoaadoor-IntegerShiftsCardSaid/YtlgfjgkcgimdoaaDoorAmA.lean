/- An abstract machine for Go's code: part of the library of this claim. -/
import Derived.Calls
import Derived.Orders
import Derived.LoopN
import Derived.Below
import Derived.KernelRfl
import Derived.RangeFuncRecord
import Derived.Lib.Builder
import Derived.Laws.CopyOwn
import Derived.Laws.CopyRow
import Derived.Great.BuildSlice
/- An abstract machine for Go's regions and code: what a value is said to be, and what a memory of variables holds. -/
namespace Go.Proofs.YtlgfjgkcgimdoaaDoor.AM
open Go Go.RowKit

/-- The kinds of numbers' digits. -/
def exk : IntKind → Bool
  | .u32 => true
  | .i64 => false
  | _ => false
/-- A value that one cell may hold, and that is no digit of a number. -/
def okCell : Value → Bool
  | .agg _ => false
  | .tuple _ => false
  | .int k _ => !exk k
  | _ => true
theorem okCell_int {k : IntKind} {z : Int} (h : okCell (.int k z) = true) : exk k = false := by
  simpa [okCell] using h
/-- Every cell of the one world is one of the other. -/
def Ext (w w' : World) : Prop := ∀ a u, w.cell? a = some u → w'.cell? a = some u
theorem Ext.refl (w : World) : Ext w w := fun _ _ h => h
theorem Ext.trans {a b c : World} (h : Ext a b) (k : Ext b c) : Ext a c := fun p u hp => k p u (h p u hp)

/-- A thing that a value may be: it stays so as long as the cells that there are stay. -/
structure Ent where
  holds : World → Value → Prop
  len : Option Nat
  mono : ∀ {w w' : World} {v : Value}, Ext w w' → w.heap.size ≤ w'.heap.size → holds w v → holds w' v
  slice : ∀ {w : World} {v : Value} {n : Nat}, holds w v → len = some n → ∃ a c, v = .slice a n c
  cell : ∀ {w : World} {v : Value}, holds w v → okCell v = true

/-- What a cell is said to hold: a value itself, a thing, the address of a variable's cell, a slice of a variable. -/
inductive Cv where
  | any
  | raw (v : Value)
  | ent (e : Ent)
  | ptr (x o : Nat)
  | row (x o n c : Nat)
/-- One value: a cell's, or a struct of such. -/
inductive Sv where
  | cel (c : Cv)
  | agg (l : List Cv)
/-- A temporary's: one value, or a call's results. -/
inductive Av where
  | one (s : Sv)
  | tup (l : List Sv)
/-- A variable: its type, what its cells hold, and whether the call made it. -/
structure VarSt where
  t : TypeId
  cs : List Cv
  own : Bool

def undefA : Av := .one (.cel (.raw undef))

def All2 {α β : Type} (R : α → β → Prop) : List α → List β → Prop
  | [], [] => True
  | x :: xs, y :: ys => R x y ∧ All2 R xs ys
  | _, _ => False
section
variable {α β : Type} {R R' : α → β → Prop}
theorem All2.length : ∀ {xs : List α} {ys : List β}, All2 R xs ys → xs.length = ys.length
  | [], [], _ => rfl
  | _ :: _, _ :: _, h => congrArg (· + 1) (All2.length h.2)
theorem All2.mono (hR : ∀ x y, R x y → R' x y) : ∀ {xs : List α} {ys : List β}, All2 R xs ys → All2 R' xs ys
  | [], [], _ => trivial
  | _ :: _, _ :: _, h => ⟨hR _ _ h.1, All2.mono hR h.2⟩
theorem All2.get : ∀ {xs : List α} {ys : List β} {i : Nat} {y : β}, All2 R xs ys → ys[i]? = some y → ∃ x, xs[i]? = some x ∧ R x y
  | [], [], _, _, _, h => by simp at h
  | x :: xs, y :: ys, 0, z, h, e => by simp at e; subst e; exact ⟨x, rfl, h.1⟩
  | x :: xs, y :: ys, i + 1, z, h, e => by
    simp at e
    obtain ⟨u, h1, h2⟩ := All2.get h.2 e
    exact ⟨u, by simpa using h1, h2⟩
theorem All2.append : ∀ {xs : List α} {ys : List β} {xs' : List α} {ys' : List β}, All2 R xs ys → All2 R xs' ys' → All2 R (xs ++ xs') (ys ++ ys')
  | [], [], _, _, _, h => h
  | _ :: _, _ :: _, _, _, h, k => ⟨h.1, All2.append h.2 k⟩
theorem All2.take : ∀ {xs : List α} {ys : List β} (n : Nat), All2 R xs ys → All2 R (xs.take n) (ys.take n)
  | [], [], n, _ => by cases n <;> trivial
  | _ :: _, _ :: _, 0, _ => trivial
  | _ :: _, _ :: _, n + 1, h => ⟨h.1, All2.take n h.2⟩
theorem All2.drop : ∀ {xs : List α} {ys : List β} (n : Nat), All2 R xs ys → All2 R (xs.drop n) (ys.drop n)
  | [], [], n, _ => by cases n <;> trivial
  | _ :: _, _ :: _, 0, h => h
  | _ :: _, _ :: _, n + 1, h => All2.drop n h.2
theorem All2.mapR {γ : Type} (f : γ → β) : ∀ {xs : List α} {zs : List γ}, All2 (fun x z => R x (f z)) xs zs → All2 R xs (zs.map f)
  | [], [], _ => trivial
  | _ :: _, _ :: _, h => ⟨h.1, All2.mapR f h.2⟩
theorem All2.self {γ : Type} {R : γ → β → Prop} (f : γ → β) (hf : ∀ x, R x (f x)) : ∀ (l : List γ), All2 R l (l.map f)
  | [] => trivial
  | x :: l => ⟨hf x, All2.self f hf l⟩
theorem All2.map2 {γ : Type} {f : γ → α} {g : γ → β} (hf : ∀ x, R (f x) (g x)) : ∀ (l : List γ), All2 R (l.map f) (l.map g)
  | [] => trivial
  | x :: l => ⟨hf x, All2.map2 hf l⟩
theorem All2.one {x : α} {y : β} (h : R x y) : All2 R [x] [y] := ⟨h, trivial⟩
theorem All2.mem : ∀ {xs : List α} {ys : List β} {Q : α → Prop}, All2 R xs ys → (∀ x y, y ∈ ys → R x y → Q x) → ∀ x ∈ xs, Q x
  | [], [], _, _, _ => fun x h => by cases h
  | x :: xs, y :: ys, Q, h, k => fun z hz => by
    rcases List.mem_cons.1 hz with rfl | hz
    · exact k z y (List.mem_cons_self ..) h.1
    · exact All2.mem h.2 (fun x y hy => k x y (List.mem_cons_of_mem _ hy)) z hz
end

/-- A part of a list written anew. -/
def putL {α : Type} (cells : List α) (off : Nat) (cs : List α) : List α := cells.take off ++ cs ++ cells.drop (off + cs.length)
theorem All2.putted {α β : Type} {R : α → β → Prop} {xs : List α} {ys : List β} {us : List α} {vs : List β} (off : Nat) (h : All2 R xs ys) (k : All2 R us vs) : All2 R (putL xs off us) (putL ys off vs) := by
  unfold putL
  rw [k.length]
  exact ((h.take off).append k).append (h.drop _)

section
variable (β : Nat → Option Nat) (W : World)
def RelC (v : Value) : Cv → Prop
  | .any => True
  | .raw u => v = u
  | .ent e => e.holds W v
  | .ptr x o => ∃ g, β x = some g ∧ v = .pointer (some ⟨g, o, none⟩)
  | .row x o n c => ∃ g, β x = some g ∧ v = .slice (some ⟨g, o, none⟩) n c
def RelS (v : Value) : Sv → Prop
  | .cel c => RelC β W v c
  | .agg l => ∃ vs : List Value, v = .agg vs.toArray ∧ All2 (RelC β W) vs l
def RelA (v : Value) : Av → Prop
  | .one s => RelS β W v s
  | .tup l => ∃ vs : List Value, v = .tuple vs.toArray ∧ All2 (RelS β W) vs l
end
/-- More variables, more memory. -/
structure Up (β : Nat → Option Nat) (W : World) (β' : Nat → Option Nat) (W' : World) : Prop where
  vars : ∀ x g, β x = some g → β' x = some g
  ext : Ext W W'
  size : W.heap.size ≤ W'.heap.size
section
variable {β β' : Nat → Option Nat} {W W' : World} {v : Value}
theorem Up.refl (β : Nat → Option Nat) (W : World) : Up β W β W := ⟨fun _ _ h => h, Ext.refl _, Nat.le_refl _⟩
theorem RelC.up (h : Up β W β' W') {c : Cv} (k : RelC β W v c) : RelC β' W' v c := by
  cases c with
  | any => trivial
  | raw u => exact k
  | ent e => exact e.mono h.ext h.size k
  | ptr x o => obtain ⟨g, h1, h2⟩ := k; exact ⟨g, h.vars _ _ h1, h2⟩
  | row x o n c => obtain ⟨g, h1, h2⟩ := k; exact ⟨g, h.vars _ _ h1, h2⟩
theorem RelS.up (h : Up β W β' W') {s : Sv} (k : RelS β W v s) : RelS β' W' v s := by
  cases s with
  | cel c => exact RelC.up h k
  | agg l => obtain ⟨vs, h1, h2⟩ := k; exact ⟨vs, h1, h2.mono fun _ _ => RelC.up h⟩
theorem RelA.up (h : Up β W β' W') {s : Av} (k : RelA β W v s) : RelA β' W' v s := by
  cases s with
  | one s => exact RelS.up h k
  | tup l => obtain ⟨vs, h1, h2⟩ := k; exact ⟨vs, h1, h2.mono fun _ _ => RelS.up h⟩
end

def rawOf : Av → Option Value
  | .one (.cel (.raw v)) => some v
  | _ => none
theorem rawOf_some {av : Av} {v : Value} (h : rawOf av = some v) : av = .one (.cel (.raw v)) := by
  unfold rawOf at h
  split at h
  · injection h with h; subst h; rfl
  · cases h
def svOf : Av → Option Sv
  | .one s => some s
  | _ => none
theorem svOf_some {av : Av} {s : Sv} (h : svOf av = some s) : av = .one s := by
  cases av with
  | one s' => injection h with h; subst h; rfl
  | tup l => cases h
def cellsOf : Sv → List Cv
  | .cel c => [c]
  | .agg l => l
def okCv : Cv → Bool
  | .raw v => okCell v
  | .any => false
  | _ => true
theorem okCv_rel {β : Nat → Option Nat} {W : World} {v : Value} {c : Cv} (hc : okCv c = true) (h : RelC β W v c) : okCell v = true := by
  cases c with
  | any => cases hc
  | raw u => rw [show v = u from h]; exact hc
  | ent e => exact e.cell h
  | ptr x o => obtain ⟨g, _, rfl⟩ := h; rfl
  | row x o n c => obtain ⟨g, _, rfl⟩ := h; rfl
theorem cells_one {v : Value} (h : okCell v = true) : v.cells = #[v] := by
  cases v <;> first | rfl | cases h
/-- The cells of a value that may be stored. -/
theorem relS_cells {β : Nat → Option Nat} {W : World} {v : Value} {s : Sv} (ho : (cellsOf s).all okCv = true) (h : RelS β W v s) :
    All2 (RelC β W) v.cells.toList (cellsOf s) ∧ ∀ c ∈ v.cells.toList, okCell c = true := by
  cases s with
  | cel c =>
    have hc : okCv c = true := by simpa [cellsOf] using ho
    have hk := okCv_rel hc h
    rw [cells_one hk]
    exact ⟨All2.one h, by simpa using hk⟩
  | agg l =>
    obtain ⟨vs, rfl, h2⟩ := h
    refine ⟨by simpa [Value.cells, cellsOf] using h2, ?_⟩
    have : ∀ c ∈ vs, okCell c = true := h2.mem fun x y hy hr => okCv_rel (List.all_eq_true.1 ho y hy) hr
    simpa [Value.cells] using this
end Go.Proofs.YtlgfjgkcgimdoaaDoor.AM

/- What one operation does to what is said. -/
namespace Go.Proofs.YtlgfjgkcgimdoaaDoor.AM
open Go Go.RowKit

/-- What a reckoning that looks at the program alone comes to. -/
def pureSem (P : Program) {α : Type} : Sem α → Option α
  | .pure a => some a
  | .program k => pureSem P (k P)
  | .mark _ k => pureSem P k
  | _ => none
theorem pureSem_run {P : Program} {α : Type} {s : Sem α} {a : α} (h : pureSem P s = some a) (w : World) : s.run P w = .ok a w := by
  induction s with
  | pure b => simp [pureSem] at h; subst h; rfl
  | program k ih => exact ih P h
  | mark m k ih => exact ih h
  | _ => simp [pureSem] at h

inductive Acc where
  | val (v : Av)
  | new (t : TypeId) (cs : List Cv) (k : Option (Nat × Nat))
  | load (x off : Nat) (n : Option Nat)
  | sto (x off : Nat) (cs : List Cv)
  | call (f : FuncId) (args : List Sv)

def rawA (v : Value) : Av := .one (.cel (.raw v))
def optVal (o : Option Value) : Option Acc := match o with | some v => some (.val (rawA v)) | none => none

def partsA (ev : Operand → Av) : List (Nat × Operand) → Option (List (Nat × Sv))
  | [] => some []
  | (i, x) :: l => match svOf (ev x), partsA ev l with | some s, some r => some ((i, s) :: r) | _, _ => none
def fillA (place : Nat → Option (Nat × Nat)) (cells : List Cv) : List (Nat × Sv) → Option (List Cv)
  | [] => some cells
  | (i, s) :: rest =>
    match place i with
    | none => none
    | some (off, size) => if (cellsOf s).length = size ∧ off + size ≤ cells.length ∧ (cellsOf s).all okCv = true then fillA place (putL cells off (cellsOf s)) rest else none
def rawCells (v : Value) : List Cv := v.cells.toList.map .raw
def placesA (P : Program) (t : TypeId) : Option (List Cv × (Nat → Option (Nat × Nat))) :=
  match P.info? t, P.underlying t with
  | some it, some (.array _ e) => (match it.zero, P.info? e with | some z, some ie => some (rawCells z, fun i => some (i * ie.size, ie.size)) | _, _ => none)
  | some it, some (.struct fields) => (match it.zero, fields.toList.mapM (fun f => (P.info? f.type).map fun i => (f.offset, i.size)) with | some z, some places => some (rawCells z, (places.toArray[·]?)) | _, _ => none)
  | _, _ => none
def svsOf (ev : Operand → Av) : List Operand → Option (List Sv)
  | [] => some []
  | x :: l => match svOf (ev x), svsOf ev l with | some s, some r => some (s :: r) | _, _ => none
def rawsOf (ev : Operand → Av) : List Operand → Option (List Value)
  | [] => some []
  | x :: l => match rawOf (ev x), rawsOf ev l with | some s, some r => some (s :: r) | _, _ => none
def lenA : Av → Option Nat
  | .one (.cel (.ent e)) => e.len
  | .one (.cel (.row _ _ n _)) => some n
  | .one (.cel (.raw (.slice _ n _))) => some n
  | _ => none
/-- One field of a struct at hand. -/
def fieldA (P : Program) (t : TypeId) (l : List Cv) (f : Nat) : Option Av :=
  match pureSem P (underlying t) with
  | some (.struct fs) =>
    (match fs[f]? with
    | some fd => (match pureSem P (isAgg fd.type), pureSem P (sizeOf fd.type) with
      | some true, some n => some (.one (.agg ((l.drop fd.offset).take n)))
      | some false, some _ => (match l[fd.offset]? with | some c => some (.one (.cel c)) | none => none)
      | _, _ => none)
    | none => none)
  | _ => none
def addrA (P : Program) (t : TypeId) (x : Nat) (off : Nat) (f : Nat) : Option Av :=
  match pureSem P (underlying t) with
  | some (.struct fs) =>
    (match fs[f]? with
    | some fd => (match pureSem P (sizeOf fd.type) with | some 0 => none | some _ => some (.one (.cel (.ptr x (off + fd.offset)))) | none => none)
    | none => none)
  | _ => none
def atA (P : Program) (t : TypeId) (b i : Av) : Option Av :=
  match b, i, pureSem P (underlying t) with
  | .one (.cel (.row x off n _)), .one (.cel (.raw (.int _ k))), some (.slice e) =>
    (match pureSem P (sizeOf e) with | some s => if 0 ≤ k ∧ k < n then some (.one (.cel (.ptr x (off + k.toNat * s)))) else none | none => none)
  | .one (.cel (.ptr x off)), .one (.cel (.raw (.int _ k))), some (.array n e) =>
    (match pureSem P (sizeOf e) with | some s => if 0 ≤ k ∧ k < n then some (.one (.cel (.ptr x (off + k.toNat * s)))) else none | none => none)
  | _, _, _ => none
def loadA (P : Program) (t : TypeId) : Av → Option Acc
  | .one (.cel (.ptr x off)) => (match pureSem P (isAgg t), pureSem P (sizeOf t) with | some true, some n => some (.load x off (some n)) | some false, some _ => some (.load x off none) | _, _ => none)
  | _ => none
def storeA (P : Program) (t : TypeId) (a v : Av) : Option Acc :=
  match a, svOf v with
  | .one (.cel (.ptr x off)), some s => (match pureSem P (sizeOf t) with | some n => if (cellsOf s).length = n ∧ (cellsOf s).all okCv = true then some (.sto x off (cellsOf s)) else none | none => none)
  | _, _ => none
def nilA (_P : Program) (_o : Oper) (v : Av) : Option Acc :=
  match v with
  | .one (.cel (.ptr _ _)) => some (.val v)
  | .one (.cel (.raw (.func (.func f) a b))) => some (.val (rawA (.func (.func f) a b)))
  | _ => none
def boxA (t : TypeId) (v : Av) : Option Acc :=
  match svOf v with | some s => if (cellsOf s).all okCv = true then some (.new t (cellsOf s) none) else none | none => none
def allocA (P : Program) (t : TypeId) : Option Acc :=
  match pureSem P (zeroValue t) with | some z => if (rawCells z).all okCv = true then some (.new t (rawCells z) none) else none | none => none
def buildA (P : Program) (t : TypeId) (ps : Option (List (Nat × Sv))) : Option Acc :=
  match placesA P t, ps with
  | some (zs, pl), some parts => (match fillA pl zs parts with | some cs => some (.val (.one (.agg cs))) | none => none)
  | _, _ => none
def buildSliceA (P : Program) (t : TypeId) (n : Nat) (ps : Option (List (Nat × Sv))) : Option Acc :=
  match P.underlying t, ps with
  | some (.slice e), some parts =>
    (match P.info? e with
    | some ie => (match ie.zero with
      | some z => if n * ie.size > 2 ^ 24 ∨ n * ie.size = 0 then none else
          (match fillA (fun i => some (i * ie.size, ie.size)) ((List.range (n * ie.size)).map fun i => .raw (z.cells[i % z.cells.size]!)) parts with
          | some cs => if cs.all okCv = true then some (.new e cs (some (n, n))) else none
          | none => none)
      | none => none)
    | none => none)
  | _, _ => none
def callA (P : Program) (_o : Oper) (c : Call) (ev : Operand → Av) : Option Acc :=
  match c.callee with
  | .value f => (match ev f, svsOf ev c.args.toList with
    | .one (.cel (.raw (.func (.func g) ⟨[]⟩ ⟨[]⟩))), some args => some (.call g args)
    | _, _ => none)
  | .builtin .len => (match c.args with
    | ⟨[x]⟩ => (match c.argTypes with
      | ⟨[t]⟩ => (match pureSem P (underlying t), lenA (ev x) with | some (.slice _), some n => some (.val (rawA (.int .i64 n))) | some .string, _ => (match rawOf (ev x) with | some (.string s) => some (.val (rawA (.int .i64 s.size))) | _ => none) | _, _ => none)
      | _ => none)
    | _ => none)
  | _ => none
/-- What an operation does, of what its operands are said to be. -/
def acc (P : Program) (o : Oper) (ev : Operand → Av) : Option Acc :=
  match o.op with
  | .move x => some (.val (ev x))
  | .assign x => some (.val (ev x))
  | .pick c a b => (match rawOf (ev c) with | some (.bool true) => some (.val (ev a)) | some (.bool false) => some (.val (ev b)) | _ => none)
  | .alloc t => allocA P t
  | .box t x => boxA t (ev x)
  | .build t ps => buildA P t (partsA ev ps.toList)
  | .buildSlice t n ps => buildSliceA P t n (partsA ev ps.toList)
  | .load t x => loadA P t (ev x)
  | .store t x v => storeA P t (ev x) (ev v)
  | .nilCheck x => nilA P o (ev x)
  | .binOp op t x y _ => (match rawOf (ev x), rawOf (ev y) with | some a, some b => optVal (pureSem P (do eqGuard op t x y a b; binOp op t a b)) | _, _ => none)
  | .unOp op _ x => (match rawOf (ev x) with | some a => optVal (pureSem P (Op.unary op a)) | none => none)
  | .convert s d x => (match rawOf (ev x) with | some a => optVal (pureSem P (convert s d a)) | none => none)
  | .makeInterface t x => (match rawOf (ev x) with | some a => optVal (pureSem P (Instr.makeInterface t a)) | none => none)
  | .index t x i => (match rawOf (ev x), rawOf (ev i) with | some a, some b => optVal (pureSem P (Instr.index t a b)) | _, _ => none)
  | .fieldAddr t x f => (match ev x with | .one (.cel (.ptr y off)) => (addrA P t y off f).map .val | _ => none)
  | .field t x f => (match ev x with | .one (.agg l) => (fieldA P t l f).map .val | _ => none)
  | .indexAddr t x i => (atA P t (ev x) (ev i)).map .val
  | .extract x i => (match ev x with | .tup l => (match l[i]? with | some s => some (.val (.one s)) | none => none) | _ => none)
  | .call c => callA P o c ev
  | _ => none

theorem partsA_congr {ev ev' : Operand → Av} : ∀ {l : List (Nat × Operand)}, (∀ x ∈ l.map (·.2), ev x = ev' x) → partsA ev l = partsA ev' l
  | [], _ => rfl
  | (i, x) :: l, h => by
    unfold partsA
    rw [h x (by simp), partsA_congr (l := l) fun y hy => h y (by simp only [List.map_cons, List.mem_cons]; exact Or.inr hy)]
theorem svsOf_congr {ev ev' : Operand → Av} : ∀ {l : List Operand}, (∀ x ∈ l, ev x = ev' x) → svsOf ev l = svsOf ev' l
  | [], _ => rfl
  | x :: l, h => by
    unfold svsOf
    rw [h x (by simp), svsOf_congr (l := l) fun y hy => h y (List.mem_cons_of_mem _ hy)]
theorem rawsOf_congr {ev ev' : Operand → Av} : ∀ {l : List Operand}, (∀ x ∈ l, ev x = ev' x) → rawsOf ev l = rawsOf ev' l
  | [], _ => rfl
  | x :: l, h => by
    unfold rawsOf
    rw [h x (by simp), rawsOf_congr (l := l) fun y hy => h y (List.mem_cons_of_mem _ hy)]
/-- It hangs on the operands alone. -/
theorem acc_congr (P : Program) (o : Oper) {ev ev' : Operand → Av} (h : ∀ x ∈ o.op.operands.toList, ev x = ev' x) : acc P o ev = acc P o ev' := by
  obtain ⟨dst, op, type, pos, after, guard⟩ := o
  cases op <;> (try rfl) <;> simp only [Op.operands, Call.operands, List.mem_cons, List.not_mem_nil, or_false, forall_eq_or_imp, forall_eq] at h <;> simp only [acc]
  case build t ps => rw [partsA_congr (ev := ev) (ev' := ev') (by simpa using h)]
  case buildSlice t n ps => rw [partsA_congr (ev := ev) (ev' := ev') (by simpa using h)]
  case call c =>
    obtain ⟨callee, args, ats⟩ := c
    cases callee with
    | value f =>
      have hf : ev f = ev' f := h f (by simp)
      have ha : svsOf ev args.toList = svsOf ev' args.toList := svsOf_congr fun x hx => h x (by simp [Array.mem_toList_iff.1 hx])
      simp only [callA, hf, ha]
    | invoke r m => rfl
    | builtin b =>
      cases b <;> try rfl
      obtain ⟨args⟩ := args
      match args with
      | [] => rfl
      | [x] =>
        have hx : ev x = ev' x := h x (by simp)
        simp only [callA, hx]
      | _ :: _ :: _ => rfl
  all_goals (try simp only [h])
  all_goals (try (obtain ⟨h1, h2⟩ := h; simp only [h1, h2]))
end Go.Proofs.YtlgfjgkcgimdoaaDoor.AM

/- What is said of an operation is so. -/
namespace Go.Proofs.YtlgfjgkcgimdoaaDoor.AM
open Go Go.RowKit

/-- A function of the program's own text. -/
def Callable (P : Program) (f : FuncId) : Prop := ∃ fn, P.funcs[f]? = some fn ∧ (fn.name == "runtime.NumGoroutine") = false ∧ fn.body.isNone = false
theorem run_callFunc {P : Program} {f : FuncId} (h : Callable P f) (args : Array Value) (w : World) : (callFunc f args).run P w = .ok (.enter f args) w := by
  obtain ⟨fn, h1, h2, h3⟩ := h
  obtain ⟨c, hc⟩ : ∃ c, fn.body = some c := by cases e : fn.body with
    | none => rw [e] at h3; cases h3
    | some c => exact ⟨c, rfl⟩
  simp [callFunc, h1, hc, show ¬ fn.name = "runtime.NumGoroutine" by simpa using h2]

def AccOk (P : Program) (β : Nat → Option Nat) (W : World) (o : Oper) (a : Act) (w : World) : Acc → Prop
  | .val av => ∃ v, (execOp a.eval o).run P w = .ok (.value v) w ∧ RelA β W v av
  | .new t cs k => ∃ vs : List Value, (execOp a.eval o).run P w = .ok (.value (match k with | none => .pointer (some ⟨w.heap.size, 0, none⟩) | some (n, c) => .slice (some ⟨w.heap.size, 0, none⟩) n c)) (w.alloc (.cells vs.toArray t)) ∧
      All2 (RelC β W) vs cs ∧ ∀ v ∈ vs, okCell v = true
  | .load x off none => ∃ g, β x = some g ∧ ∀ u, w.cell? ⟨g, off, none⟩ = some u → (execOp a.eval o).run P w = .ok (.value u) w
  | .load x off (some n) => ∃ g, β x = some g ∧ ∀ us : List Value, us.length = n → (∀ i u, us[i]? = some u → w.cell? ⟨g, off + i, none⟩ = some u) → (execOp a.eval o).run P w = .ok (.value (.agg us.toArray)) w
  | .sto x off cs => ∃ g vs, β x = some g ∧ All2 (RelC β W) vs cs ∧ (∀ v ∈ vs, okCell v = true) ∧ ∀ cells t, w.heap[g]? = some (.cells cells t (0, 0)) → off + vs.length ≤ cells.size →
      (execOp a.eval o).run P w = .ok .skip (w.setRow g (putL cells.toList off vs).toArray)
  | .call f args => ∃ vals : List Value, All2 (RelS β W) vals args ∧ (Callable P f → (execOp a.eval o).run P w = .ok (.enter f vals.toArray) w)

section
variable {P : Program} {β : Nat → Option Nat} {W w : World} {a : Act} {ev : Operand → Av}

theorem add_at (g off i : Nat) : (⟨g, off, none⟩ : Addr).add i = ⟨g, off + i, none⟩ := by unfold Addr.add; split <;> simp_all
theorem okCell_one {v : Value} (h : okCell v = true) : v.oneCell' = true := by cases v <;> first | rfl | cases h
theorem rawOf_rel {v u : Value} {av : Av} (h : rawOf av = some u) (k : RelA β W v av) : v = u := by
  rw [rawOf_some h] at k; exact k

theorem foldl_put (off : Nat) : ∀ (l : List Value) (k : Nat) (cs : Array Value), off + k + l.length ≤ cs.size →
    ((l.zipIdx k).foldl (fun cs x => cs.setIfInBounds (off + x.2) x.1) cs).toList = putL cs.toList (off + k) l
  | [], k, cs, _ => by simp [putL]
  | v :: l, k, cs, h => by
    rw [List.zipIdx_cons, List.foldl_cons, foldl_put off l (k + 1) (cs.setIfInBounds (off + k) v) (by simp at h ⊢; omega)]
    have e := list_seg_step cs.toList (off + k) v l (by simp at h ⊢; omega)
    simp only [putL, List.length_cons, Array.toList_setIfInBounds]
    rw [← Nat.add_assoc off k 1]
    exact e
theorem putL_length {α : Type} (l : List α) (off : Nat) (cs : List α) (h : off + cs.length ≤ l.length) : (putL l off cs).length = l.length := by
  unfold putL; simp; omega
theorem fill_rel (place : Nat → Option (Nat × Nat)) : ∀ (parts : List (Nat × Value)) (pa : List (Nat × Sv)) (cells : Array Value) (cs res : List Cv),
    All2 (fun p q => p.1 = q.1 ∧ RelS β W p.2 q.2) parts pa → All2 (RelC β W) cells.toList cs → fillA place cs pa = some res →
    ∃ cells', Instr.fill place cells parts = some cells' ∧ All2 (RelC β W) cells'.toList res
  | [], [], cells, cs, res, _, hc, h => by
    injection h with h; subst h; exact ⟨cells, rfl, hc⟩
  | (i, v) :: parts, (j, s) :: pa, cells, cs, res, ⟨⟨hij, hv⟩, hr⟩, hc, h => by
    dsimp only at hij hv
    subst hij
    unfold fillA at h
    unfold Instr.fill
    cases hp : place i with
    | none => rw [hp] at h; cases h
    | some os =>
      obtain ⟨off, size⟩ := os
      rw [hp] at h
      dsimp only at h ⊢
      split at h
      · rename_i hcond
        obtain ⟨h1, h2, h3⟩ := hcond
        obtain ⟨hrel, _⟩ := relS_cells h3 hv
        have hl := hrel.length
        have hcl := hc.length
        have hsz : v.cells.size = size := by rw [← Array.length_toList, hl, h1]
        have hcs : cells.size = cs.length := by rw [← Array.length_toList, hcl]
        rw [if_neg (by simp [hsz]; omega)]
        have hput := foldl_put off v.cells.toList 0 cells (by rw [Array.length_toList]; omega)
        have e : (v.cells.zipIdx.foldl (fun cs x => cs.setIfInBounds (off + x.2) x.1) cells).toList = putL cells.toList off v.cells.toList := by
          rw [← Array.foldl_toList, Array.toList_zipIdx]; exact hput
        have hc' : All2 (RelC β W) (v.cells.zipIdx.foldl (fun cs x => cs.setIfInBounds (off + x.2) x.1) cells).toList (putL cs off (cellsOf s)) := by
          rw [e]; exact All2.putted off hc hrel
        exact fill_rel place parts pa _ _ res hr hc' h
      · cases h
  | [], _ :: _, _, _, _, h, _, _ => h.elim
  | _ :: _, [], _, _, _, h, _, _ => h.elim

theorem partsA_rel : ∀ {l : List (Nat × Operand)} {parts : List (Nat × Sv)}, (∀ x ∈ l.map (·.2), RelA β W (a.eval x) (ev x)) → partsA ev l = some parts →
    All2 (fun p q => p.1 = q.1 ∧ RelS β W p.2 q.2) (l.map fun p => (p.1, a.eval p.2)) parts
  | [], parts, _, h => by injection h with h; subst h; trivial
  | (i, x) :: l, parts, hev, h => by
    unfold partsA at h
    split at h
    · rename_i s r hs hr
      injection h with h; subst h
      have hx := hev x (by simp)
      rw [svOf_some hs] at hx
      exact ⟨⟨rfl, hx⟩, partsA_rel (fun y hy => hev y (by simp only [List.map_cons, List.mem_cons]; exact Or.inr hy)) hr⟩
    · cases h
theorem svsOf_rel : ∀ {l : List Operand} {args : List Sv}, (∀ x ∈ l, RelA β W (a.eval x) (ev x)) → svsOf ev l = some args → All2 (RelS β W) (l.map a.eval) args
  | [], args, _, h => by injection h with h; subst h; trivial
  | x :: l, args, hev, h => by
    unfold svsOf at h
    split at h
    · rename_i s r hs hr
      injection h with h; subst h
      have hx := hev x (by simp)
      rw [svOf_some hs] at hx
      exact ⟨hx, svsOf_rel (fun y hy => hev y (List.mem_cons_of_mem _ hy)) hr⟩
    · cases h
theorem rawsOf_rel : ∀ {l : List Operand} {rs : List Value}, (∀ x ∈ l, RelA β W (a.eval x) (ev x)) → rawsOf ev l = some rs → l.map a.eval = rs
  | [], rs, _, h => by injection h with h
  | x :: l, rs, hev, h => by
    unfold rawsOf at h
    split at h
    · rename_i s r hs hr
      injection h with h; subst h
      rw [List.map_cons, rawOf_rel hs (hev x (by simp)), rawsOf_rel (fun y hy => hev y (List.mem_cons_of_mem _ hy)) hr]
    · cases h
theorem rawCells_rel (z : Value) : All2 (RelC β W) z.cells.toList (rawCells z) := All2.self (R := RelC β W) (fun v => Cv.raw v) (fun _ => rfl) _
theorem rawCells_ok {z : Value} (h : (rawCells z).all okCv = true) : ∀ v ∈ z.cells.toList, okCell v = true := fun v hv => by
  have := List.all_eq_true.1 h (.raw v) (List.mem_map.2 ⟨v, hv, rfl⟩)
  exact this

theorem optVal_some {x : Option Value} {A : Acc} (h : optVal x = some A) : ∃ v, x = some v ∧ A = .val (rawA v) := by
  cases x with
  | none => cases h
  | some v => injection h with h; exact ⟨v, rfl, h.symm⟩
theorem run_value {s : Sem Value} {v : Value} (h : pureSem P s = some v) (w : World) : (do let x ← s; pure (Next.value x) : Sem Next).run P w = .ok (.value v) w := by
  rw [Sem.run_bind, pureSem_run h]; rfl

theorem run_len {t e : TypeId} {ty : TypeId} {A : Option Addr} {n c : Nat} (h : pureSem P (underlying t) = some (.slice e)) : (Builtin.len_ #[t] ty #[.slice A n c]).run P w = .ok (goInt n) w := by
  simp [Builtin.len_, pureSem_run h w]
theorem run_len_str {t : TypeId} {ty : TypeId} {s : ByteArray} (h : pureSem P (underlying t) = some .string) : (Builtin.len_ #[t] ty #[.string s]).run P w = .ok (goInt s.size) w := by
  simp [Builtin.len_, pureSem_run h w]
theorem lenA_rel {v : Value} {av : Av} {n : Nat} (h : lenA av = some n) (k : RelA β W v av) : ∃ A c, v = .slice A n c := by
  unfold lenA at h
  split at h
  · exact Ent.slice _ k h
  · injection h with h; subst h; obtain ⟨g, _, rfl⟩ := k; exact ⟨_, _, rfl⟩
  · injection h with h; subst h; exact ⟨_, _, k⟩
  · cases h

theorem fieldA_rel {t : TypeId} {l : List Cv} {f : Nat} {av : Av} {vs : List Value} (h : fieldA P t l f = some av) (k : All2 (RelC β W) vs l) :
    ∃ v, (Instr.field t (.agg vs.toArray) f).run P w = .ok v w ∧ RelA β W v av := by
  unfold fieldA at h
  split at h
  · rename_i fs hu
    split at h
    · rename_i fd hf
      split at h
      · rename_i n hA hS
        injection h with h; subst h
        refine ⟨.agg ((vs.drop fd.offset).take n).toArray, ?_, _, rfl, (k.drop _).take _⟩
        simp [Instr.field, pureSem_run hu w, hf, asAgg, part, pureSem_run hA w, pureSem_run hS w]
      · rename_i n hA hS
        split at h
        · rename_i c hc
          injection h with h; subst h
          obtain ⟨u, h1, h2⟩ := k.get hc
          refine ⟨u, ?_, h2⟩
          simp [Instr.field, pureSem_run hu w, hf, asAgg, part, pureSem_run hA w, h1]
        · cases h
      · cases h
    · cases h
  · cases h
theorem addrA_rel {t : TypeId} {x off f g : Nat} {av : Av} (hb : β x = some g) (h : addrA P t x off f = some av) :
    ∃ v, (Instr.fieldAt t (.pointer (some ⟨g, off, none⟩)) f).run P w = .ok v w ∧ RelA β W v av := by
  unfold addrA at h
  split at h
  · rename_i fs hu
    split at h
    · rename_i fd hf
      split at h
      · cases h
      · rename_i n hS hn
        injection h with h; subst h
        refine ⟨.pointer (some ⟨g, off + fd.offset, none⟩), ?_, g, hb, rfl⟩
        have hn0 : ¬ n = 0 := fun e => hS e
        simp [Instr.fieldAt, pureSem_run hu w, hf, Instr.sureAddr, fieldPlace, pureSem_run hn w, hn0, add_at]
      · cases h
    · cases h
  · cases h
theorem atA_rel {t : TypeId} {b i av : Av} {vb vi : Value} (hb : RelA β W vb b) (hi : RelA β W vi i) (h : atA P t b i = some av) :
    ∃ v, (Instr.indexAt t vb vi).run P w = .ok v w ∧ RelA β W v av := by
  unfold atA at h
  split at h
  · rename_i x off n c kk k e hu
    split at h
    · rename_i s hS
      split at h
      · rename_i hk
        injection h with h; subst h
        obtain ⟨g, hg, rfl⟩ := hb
        obtain rfl : vi = .int kk k := hi
        refine ⟨.pointer (some ⟨g, off + k.toNat * s, none⟩), ?_, g, hg, rfl⟩
        simp [Instr.indexAt, asIntOf, pureSem_run hu w, hk, pureSem_run hS w, add_at]
      · cases h
    · cases h
  · rename_i x off kk k n e hu
    split at h
    · rename_i s hS
      split at h
      · rename_i hk
        injection h with h; subst h
        obtain ⟨g, hg, rfl⟩ := hb
        obtain rfl : vi = .int kk k := hi
        refine ⟨.pointer (some ⟨g, off + k.toNat * s, none⟩), ?_, g, hg, rfl⟩
        simp [Instr.indexAt, asIntOf, Instr.sureAddr, pureSem_run hu w, hk, pureSem_run hS w, add_at]
      · cases h
    · cases h
  · cases h
end
end Go.Proofs.YtlgfjgkcgimdoaaDoor.AM

/- What is said of an operation is so: all of them. -/
namespace Go.Proofs.YtlgfjgkcgimdoaaDoor.AM
open Go Go.RowKit

section
variable {P : Program} {β : Nat → Option Nat} {W w : World} {a : Act} {ev : Operand → Av}

theorem acc_sound (o : Oper) (A : Acc) (hev : ∀ x ∈ o.op.operands.toList, RelA β W (a.eval x) (ev x)) (h : acc P o ev = some A) : AccOk P β W o a w A := by
  obtain ⟨dst, op, type, pos, after, guard⟩ := o
  cases op <;> simp only [acc] at h <;> (try (cases h; done)) <;> simp only [Op.operands, List.mem_cons, List.not_mem_nil, or_false, forall_eq_or_imp, forall_eq] at hev
  case move x => injection h with h; subst h; exact ⟨_, rfl, hev⟩
  case assign x => injection h with h; subst h; exact ⟨_, rfl, hev⟩
  case pick c x y =>
    obtain ⟨hc, hx, hy⟩ := hev
    split at h
    · rename_i hr
      injection h with h; subst h
      exact ⟨a.eval x, by simp [execOp, rawOf_rel hr hc, asBool], hx⟩
    · rename_i hr
      injection h with h; subst h
      exact ⟨a.eval y, by simp [execOp, rawOf_rel hr hc, asBool], hy⟩
    · cases h
  case alloc t =>
    unfold allocA at h
    split at h
    · rename_i z hz
      split at h
      · rename_i hok
        injection h with h; subst h
        exact ⟨z.cells.toList, by simp [execOp, Instr.alloc, pureSem_run hz w, newVar, newRow], rawCells_rel z, rawCells_ok hok⟩
      · cases h
    · cases h
  case box t x =>
    unfold boxA at h
    split at h
    · rename_i s hs
      split at h
      · rename_i hok
        injection h with h; subst h
        rw [svOf_some hs] at hev
        obtain ⟨h1, h2⟩ := relS_cells hok hev
        exact ⟨(a.eval x).cells.toList, by simp [execOp, Instr.box, newVar, newRow], h1, h2⟩
      · cases h
    · cases h
  case build t ps =>
    unfold buildA at h
    split at h
    · rename_i zs pl parts hp hpa
      split at h
      · rename_i cs hf
        injection h with h; subst h
        have hrel := partsA_rel (β := β) (W := W) (a := a) (by simpa using hev) hpa
        have key : ∀ (z : Value), zs = rawCells z → P.built t ((ps.map fun (i, x) => (i, a.eval x)).toList) = Instr.fill pl z.cells ((ps.map fun (i, x) => (i, a.eval x)).toList) →
            AccOk P β W { dst, op := .build t ps, type, pos, after, guard } a w (.val (.one (.agg cs))) := by
          intro z hz hb
          subst hz
          obtain ⟨cells', h1, h2⟩ := fill_rel pl _ parts z.cells _ cs hrel (rawCells_rel z) hf
          rw [Array.toList_map] at hb
          have hb' : P.built t (ps.map fun (i, x) => (i, a.eval x)).toList = some cells' := by
            rw [Array.toList_map]; exact hb.trans h1
          refine ⟨.agg cells', ?_, cells'.toList, by simp, h2⟩
          unfold execOp
          simp only [Sem.run_bind, run_build w t _ _ hb', Result.andThen_ok, Sem.run_pure]
        unfold placesA at hp
        split at hp
        · rename_i it e1 n e hi hu
          split at hp
          · rename_i z ie hz hie
            injection hp with hp; injection hp with hp1 hp2
            refine key z hp1.symm ?_
            unfold Program.built
            simp only [hi, hu, hz, hie, hp2]
          · cases hp
        · rename_i it fields hi hu
          split at hp
          · rename_i z places hz hpl
            injection hp with hp; injection hp with hp1 hp2
            refine key z hp1.symm ?_
            unfold Program.built
            simp only [hi, hu, hz, hpl, hp2]
          · cases hp
        · cases hp
      · cases h
    · cases h
  case buildSlice t n ps =>
    unfold buildSliceA at h
    split at h
    · rename_i e parts hu hpa
      split at h
      · rename_i ie hie
        split at h
        · rename_i z hz
          split at h
          · cases h
          · rename_i hsz
            split at h
            · rename_i cs hf
              split at h
              · rename_i hok
                injection h with h; subst h
                have hrel := partsA_rel (β := β) (W := W) (a := a) (by simpa using hev) hpa
                obtain ⟨cells', h1, h2⟩ := fill_rel (β := β) (W := W) _ _ parts ((Array.range (n * ie.size)).map (z.cells[· % z.cells.size]!)) _ cs hrel
                  (by rw [Array.toList_map, Array.toList_range]; exact All2.map2 (R := RelC β W) (f := fun i => z.cells[i % z.cells.size]!) (g := fun i => Cv.raw (z.cells[i % z.cells.size]!)) (fun _ => rfl) _) hf
                have hb : Instr.fill (fun i => some (i * ie.size, ie.size)) ((Array.range (n * ie.size)).map (z.cells[· % z.cells.size]!)) (ps.map fun (i, x) => (i, a.eval x)).toList = some cells' := by
                  rw [Array.toList_map]; exact h1
                refine ⟨cells'.toList, ?_, h2, h2.mem fun x y hy hr => okCv_rel (List.all_eq_true.1 hok y hy) hr⟩
                unfold execOp
                simp only [Sem.run_bind, run_buildSlice w t e n _ cells' ie z hu hie hz (by omega) (by omega) hb, Result.andThen_ok, Sem.run_pure, Array.toArray_toList]
              · cases h
            · cases h
        · cases h
      · cases h
    · cases h
  case load t x =>
    unfold loadA at h
    split at h
    · rename_i y off hx
      rw [hx] at hev
      obtain ⟨g, hg, hx'⟩ := hev
      split at h
      · rename_i n hA hS
        injection h with h; subst h
        refine ⟨g, hg, fun us hl hc => ?_⟩
        have hld := run_loadCells_list (P := P) w ⟨g, off, none⟩ us (fun j v hj => by rw [add_at]; exact hc j v hj)
        rw [hl] at hld
        simp [execOp, hx', Instr.loadAt, Instr.sureAddr, loadVar, pureSem_run hA w, pureSem_run hS w, hld]
      · rename_i n hA hS
        injection h with h; subst h
        refine ⟨g, hg, fun u hc => ?_⟩
        simp [execOp, hx', Instr.loadAt, Instr.sureAddr, loadVar, pureSem_run hA w, hc]
      · cases h
    · cases h
  case store t x y =>
    obtain ⟨hx, hy⟩ := hev
    unfold storeA at h
    split at h
    · rename_i z off s hxe hs
      split at h
      · rename_i n hS
        split at h
        · rename_i hc
          injection h with h; subst h
          rw [hxe] at hx
          obtain ⟨g, hg, hx'⟩ := hx
          rw [svOf_some hs] at hy
          obtain ⟨h1, h2⟩ := relS_cells hc.2 hy
          refine ⟨g, (a.eval y).cells.toList, hg, h1, h2, fun cells t' hcell hle => ?_⟩
          have hst := run_storeCells_at P g off t' (a.eval y).cells.toList 0 cells w hcell (by simpa using hle) (fun v hv => okCell_one (h2 v hv))
          have hsz : (a.eval y).cells.size = n := by rw [← Array.length_toList, h1.length, hc.1]
          simp only [Nat.add_zero] at hst
          simp [execOp, hx', Instr.storeAt, Instr.sureAddr, storeVar, pureSem_run hS w, hsz, hst, putL]
        · cases h
      · cases h
    · cases h
  case nilCheck x =>
    unfold nilA at h
    split at h
    · rename_i y off hx
      injection h with h; subst h
      rw [hx] at hev
      obtain ⟨g, hg, hx'⟩ := hev
      exact ⟨.pointer (some ⟨g, off, none⟩), by simp [execOp, hx'], by rw [hx]; exact ⟨g, hg, rfl⟩⟩
    · rename_i f b c hx
      injection h with h; subst h
      rw [hx] at hev
      replace hev : a.eval x = _ := hev
      exact ⟨_, by simp [execOp, hev], rfl⟩
    · cases h
  case binOp op t x y yt =>
    obtain ⟨hx, hy⟩ := hev
    split at h
    · rename_i u v hu hv
      obtain ⟨r, hr, rfl⟩ := optVal_some h
      have e1 := rawOf_rel hu hx
      have e2 := rawOf_rel hv hy
      refine ⟨r, ?_, rfl⟩
      unfold execOp
      simp only [e1, e2]
      exact run_value hr w
    · cases h
  case unOp op t x =>
    split at h
    · rename_i u hu
      obtain ⟨r, hr, rfl⟩ := optVal_some h
      have e1 := rawOf_rel hu hev
      refine ⟨r, ?_, rfl⟩
      unfold execOp
      simp only [e1]
      exact run_value hr w
    · cases h
  case convert s d x =>
    split at h
    · rename_i u hu
      obtain ⟨r, hr, rfl⟩ := optVal_some h
      have e1 := rawOf_rel hu hev
      refine ⟨r, ?_, rfl⟩
      unfold execOp
      simp only [e1]
      exact run_value hr w
    · cases h
  case makeInterface t x =>
    split at h
    · rename_i u hu
      obtain ⟨r, hr, rfl⟩ := optVal_some h
      have e1 := rawOf_rel hu hev
      refine ⟨r, ?_, rfl⟩
      unfold execOp
      simp only [e1]
      exact run_value hr w
    · cases h
  case index t x y =>
    obtain ⟨hx, hy⟩ := hev
    split at h
    · rename_i u v hu hv
      obtain ⟨r, hr, rfl⟩ := optVal_some h
      have e1 := rawOf_rel hu hx
      have e2 := rawOf_rel hv hy
      refine ⟨r, ?_, rfl⟩
      unfold execOp
      simp only [e1, e2]
      exact run_value hr w
    · cases h
  case fieldAddr t x f =>
    split at h
    · rename_i y off hx
      obtain ⟨av, h1, rfl⟩ := Option.map_eq_some_iff.1 h
      rw [hx] at hev
      obtain ⟨g, hg, hx'⟩ := hev
      obtain ⟨v, hv, hr⟩ := addrA_rel (W := W) (w := w) hg h1
      refine ⟨v, ?_, hr⟩
      unfold execOp
      simp only [hx', Sem.run_bind, hv, Result.andThen_ok, Sem.run_pure]
    · cases h
  case field t x f =>
    split at h
    · rename_i l hx
      obtain ⟨av, h1, rfl⟩ := Option.map_eq_some_iff.1 h
      rw [hx] at hev
      obtain ⟨vs, hx', hl⟩ := hev
      obtain ⟨v, hv, hr⟩ := fieldA_rel (w := w) h1 hl
      refine ⟨v, ?_, hr⟩
      unfold execOp
      simp only [hx', Sem.run_bind, hv, Result.andThen_ok, Sem.run_pure]
    · cases h
  case indexAddr t x y =>
    obtain ⟨hx, hy⟩ := hev
    obtain ⟨av, h1, rfl⟩ := Option.map_eq_some_iff.1 h
    obtain ⟨v, hv, hr⟩ := atA_rel (w := w) hx hy h1
    refine ⟨v, ?_, hr⟩
    unfold execOp
    simp only [Sem.run_bind, hv, Result.andThen_ok, Sem.run_pure]
  case extract x i =>
    split at h
    · rename_i l hx
      split at h
      · rename_i s hs
        injection h with h; subst h
        rw [hx] at hev
        obtain ⟨vs, hx', hl⟩ := hev
        obtain ⟨v, hv, hr⟩ := hl.get hs
        refine ⟨v, ?_, hr⟩
        simp [execOp, hx', Instr.extract, hv]
      · cases h
    · cases h
  case call c =>
    obtain ⟨callee, args, ats⟩ := c
    unfold callA at h
    split at h
    · rename_i f hcal
      dsimp only at hcal
      subst hcal
      split at h
      · rename_i g xs hf hargs
        injection h with h; subst h
        have hf' : RelA β W (a.eval f) (ev f) := hev f (by simp [Call.operands])
        rw [hf] at hf'
        replace hf' : a.eval f = .func (.func g) #[] #[] := hf'
        refine ⟨args.toList.map a.eval, svsOf_rel (fun x hx => hev x (by simp [Call.operands, Array.mem_toList_iff.1 hx])) hargs, fun hcb => ?_⟩
        have := run_callFunc hcb (args.toList.map a.eval).toArray w
        have e : (#[] ++ args.map a.eval ++ #[] : Array Value) = (args.toList.map a.eval).toArray := by
          cases args; simp
        simp only [execOp, resolve, hf', Deferred.ofValue, Sem.run_bind, Sem.run_pure, Result.andThen_ok, invoke]
        rw [e]; exact this
      · cases h
    · rename_i hcal
      dsimp only at hcal
      subst hcal
      split at h
      · rename_i args' x hargs
        dsimp only at hargs
        subst hargs
        split at h
        · rename_i ats' t hats
          dsimp only at hats
          subst hats
          have hx : RelA β W (a.eval x) (ev x) := hev x (by simp [Call.operands])
          split at h
          · rename_i e n hu hl
            injection h with h; subst h
            obtain ⟨A, c, hA⟩ := lenA_rel hl hx
            refine ⟨.int .i64 n, ?_, rfl⟩
            have := run_len (P := P) (ty := type) (w := w) (A := A) (n := n) (c := c) hu
            simp [execOp, resolve, invoke, builtin, hA, this, goInt]
          · rename_i hu
            split at h
            · rename_i s hs
              injection h with h; subst h
              refine ⟨.int .i64 s.size, ?_, rfl⟩
              have := run_len_str (P := P) (ty := type) (w := w) (s := s) hu
              simp [execOp, resolve, invoke, builtin, rawOf_rel hs hx, this, goInt]
            · cases h
          · cases h
        · cases h
      · cases h
    · cases h
end
end Go.Proofs.YtlgfjgkcgimdoaaDoor.AM
