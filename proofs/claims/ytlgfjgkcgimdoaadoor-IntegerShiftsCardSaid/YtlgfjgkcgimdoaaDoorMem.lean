/- Numbers in memory: a slice that reads as a list of naturals, and a block of the call's own that holds one. -/
import Derived.Test.YtlgfjgkcgimdoaaDoorNum
import Derived.Test.YtlgfjgkcgimdoaaDoorProg
import Derived.WalkKit
import Derived.WalkSpells
import Derived.WalkLawsBesides
import Derived.Lib.Hide
import Derived.Outline
import Derived.Deep.OwnRows
import Derived.Laws.OwnMore
import Derived.Laws.BitsAllLaws
import Derived.Deep.QuietTactic
import Derived.BigQuiet
namespace Go.Proofs.YtlgfjgkcgimdoaaDoor
open Go Go.RowKit

/-- The cells of numbers of one kind. -/
def nums (k : IntKind) (zs : List Nat) : Array Value := (zs.map fun x : Nat => Value.int k (x : Int)).toArray

theorem nums_size (k : IntKind) (zs : List Nat) : (nums k zs).size = zs.length := by simp [nums]
theorem nums_get {k : IntKind} {zs : List Nat} {i x : Nat} (h : zs[i]? = some x) : (nums k zs)[i]? = some (.int k (x : Int)) := by simp [nums, h]
theorem nums_set (k : IntKind) (zs : List Nat) (i y : Nat) : (nums k zs).setIfInBounds i (.int k (y : Int)) = nums k (zs.set i y) := by
  simp [nums, List.map_set]

/-- A slice value v reads as zs in w: numbers of kind k; the block lies in w. -/
def Rd (k : IntKind) (w : World) (v : Value) (zs : List Nat) : Prop :=
  ∃ A cap, v = .slice A zs.length cap ∧ zs.length ≤ cap ∧ zs.length ≤ 70368744177664 ∧
    (0 < zs.length → ∃ b off, A = some ⟨b, off, none⟩ ∧ b < w.heap.size ∧ ∀ (j x : Nat), zs[j]? = some x → w.cell? ⟨b, off + j, none⟩ = some (.int k (x : Int)))

theorem Rd.nil (k : IntKind) (w : World) (A : Option Addr) : Rd k w (.slice A 0 0) [] := ⟨A, 0, rfl, by simp, by simp, fun h => absurd h (by simp)⟩

theorem Rd.below {k : IntKind} {w w' : World} {v : Value} {zs : List Nat} (h : Rd k w v zs) (hb : Below w.heap.size w w') : Rd k w' v zs := by
  obtain ⟨A, cap, rfl, h1, h2, h3⟩ := h
  refine ⟨A, cap, rfl, h1, h2, fun h0 => ?_⟩
  obtain ⟨b, off, rfl, hlt, hc⟩ := h3 h0
  exact ⟨b, off, rfl, Nat.lt_of_lt_of_le hlt hb.size, fun j x hx => (hb.cell (p := ⟨b, off + j, none⟩) hlt).trans (hc j x hx)⟩

theorem Rd.cell {k : IntKind} {w : World} {b off n cap : Nat} {zs : List Nat} (h : Rd k w (.slice (some ⟨b, off, none⟩) n cap) zs) {j x : Nat} (hx : zs[j]? = some x) :
    w.cell? ⟨b, off + j, none⟩ = some (.int k (x : Int)) := by
  obtain ⟨A, cap', e, _, _, h3⟩ := h
  obtain ⟨hj, _⟩ := List.getElem?_eq_some_iff.1 hx
  obtain ⟨b', off', e1, _, hc⟩ := h3 (by omega)
  injection e with e _ _
  rw [e1] at e
  injection e with e
  injection e with eb eo _
  rw [eb, eo]
  exact hc j x hx

theorem Rd.form {k : IntKind} {w : World} {v : Value} {zs : List Nat} (h : Rd k w v zs) : ∃ A cap, v = .slice A zs.length cap ∧ zs.length ≤ cap := by
  obtain ⟨A, cap, e, h1, _⟩ := h
  exact ⟨A, cap, e, h1⟩
theorem Rd.addr {k : IntKind} {w : World} {A : Option Addr} {n cap : Nat} {zs : List Nat} (h : Rd k w (.slice A n cap) zs) (h0 : 0 < zs.length) : ∃ b off, A = some ⟨b, off, none⟩ ∧ b < w.heap.size := by
  obtain ⟨A', cap', e, _, _, h3⟩ := h
  obtain ⟨b, off, e1, hb, _⟩ := h3 h0
  injection e with e _ _
  exact ⟨b, off, e.trans e1, hb⟩

/-- A block of the call's own holds zs, and nothing else. -/
def Own (k : IntKind) (t : TypeId) (w : World) (g : Nat) (zs : List Nat) : Prop := w.heap[g]? = some (.cells (nums k zs) t (0, 0))

section
variable {k : IntKind} {t : TypeId} {w w' : World} {g : Nat} {zs : List Nat}
theorem Own.lt (h : Own k t w g zs) : g < w.heap.size := (Array.getElem?_eq_some_iff.1 h).1
theorem Own.cell (h : Own k t w g zs) {i x : Nat} (hx : zs[i]? = some x) : w.cell? ⟨g, i, none⟩ = some (.int k (x : Int)) := by
  unfold Own at h
  simp [World.cell?, h, nums_get hx]
theorem Own.frozen (h : Own k t w g zs) (i : Nat) : w.frozen? ⟨g, i, none⟩ = false := by
  unfold Own at h
  simp [World.frozen?, h]
theorem Own.new (w : World) (k : IntKind) (t : TypeId) (zs : List Nat) : Own k t (w.alloc (.cells (nums k zs) t)) w.heap.size zs := by
  show (w.heap.push _)[w.heap.size]? = _
  simp
theorem Own.drew (h : Own k t w g zs) : Own k t w.drew g zs := h
theorem Own.alloc (h : Own k t w g zs) (o : Obj) : Own k t (w.alloc o) g zs := (Below.heap_alloc w o g h.lt).trans h
theorem Own.set (h : Own k t w g zs) (i y : Nat) : Own k t (w.setCell ⟨g, i, none⟩ (.int k (y : Int))) g (zs.set i y) := by
  unfold Own at h ⊢
  simp [World.setCell, Array.getElem?_modify, h, nums_set]
theorem Own.far (h : Own k t w g zs) {p : Addr} (hp : g ≠ p.block) (u : Value) : Own k t (w.setCell p u) g zs := (Below.heap_setCell w p u g hp).trans h
theorem Own.below {B : Nat} (h : Own k t w g zs) (hb : Below B w w') (hg : g < B) : Own k t w' g zs := (hb.block g hg).trans h
/-- A piece of such a block. -/
theorem Own.rd (h : Own k t w g zs) {off n cap : Nat} (hn : off + n ≤ zs.length) (hc : n ≤ cap) (hcap : cap ≤ 70368744177664) :
    Rd k w (.slice (some ⟨g, off, none⟩) n cap) ((zs.drop off).take n) := by
  have hl : ((zs.drop off).take n).length = n := by simp; omega
  refine ⟨some ⟨g, off, none⟩, cap, by rw [hl], by omega, by omega, fun _ => ⟨g, off, rfl, h.lt, fun j x hx => h.cell ?_⟩⟩
  rw [List.getElem?_take] at hx
  split at hx
  · rwa [List.getElem?_drop] at hx
  · cases hx
theorem Own.whole (h : Own k t w g zs) (hcap : zs.length ≤ 70368744177664) : Rd k w (.slice (some ⟨g, 0, none⟩) zs.length zs.length) zs := by
  have := h.rd (off := 0) (n := zs.length) (cap := zs.length) (by omega) (Nat.le_refl _) hcap
  simpa using this
end

/-- The block of a slice value. -/
def blk : Value → Option Nat
  | .slice (some a) _ _ => some a.block
  | _ => none

theorem Rd.grown {k : IntKind} {w w' : World} {g : Nat} {v : Value} {zs : List Nat} (h : Rd k w v zs) (hg : w.grownBy w' (some g)) (hne : 0 < zs.length → blk v ≠ some g) : Rd k w' v zs := by
  obtain ⟨A, cap, rfl, h1, h2, h3⟩ := h
  refine ⟨A, cap, rfl, h1, h2, fun h0 => ?_⟩
  obtain ⟨b, off, rfl, hlt, hc⟩ := h3 h0
  have hb : b ≠ g := fun e => hne h0 (by rw [e]; rfl)
  exact ⟨b, off, rfl, Nat.lt_of_lt_of_le hlt hg.size, fun j x hx => (World.cell?_of_block (w := w) (hg.block b hlt (fun e => hb (by injection e)))).trans (hc j x hx)⟩

theorem Rd.away {k : IntKind} {w : World} {g : Nat} {v : Value} {zs : List Nat} (h : Rd k w v zs) (hg : w.heap.size ≤ g) : 0 < zs.length → blk v ≠ some g := by
  intro h0 e
  obtain ⟨A, cap, rfl, _, _, h3⟩ := h
  obtain ⟨b, off, rfl, hlt, _⟩ := h3 h0
  injection e with e
  simp only at e
  omega

/-- Of what there was only the block g has turned. -/
def Only (g : Nat) (w w' : World) : Prop := w.grownBy w' (some g)
theorem Only.refl (g : Nat) (w : World) : Only g w w := World.grownBy.refl w _
theorem Only.set {g : Nat} {w w' : World} (h : Only g w w') (i : Nat) (u : Value) : Only g w (w'.setCell ⟨g, i, none⟩ u) :=
  ⟨h.os, h.tape, h.output, by simpa [World.setCell] using h.size, fun j hj hne => (Below.heap_setCell w' ⟨g, i, none⟩ u j (fun e => hne (by rw [e]))).trans (h.block j hj hne)⟩
theorem Only.alloc {g : Nat} {w w' : World} (h : Only g w w') (o : Obj) : Only g w (w'.alloc o) :=
  ⟨h.os, h.tape, h.output, Nat.le_trans h.size (by simp), fun j hj hne => (Below.heap_alloc w' o j (Nat.lt_of_lt_of_le hj h.size)).trans (h.block j hj hne)⟩
theorem Only.trans {g : Nat} {a b c : World} (h : Only g a b) (h' : Only g b c) : Only g a c :=
  ⟨h'.os.trans h.os, h'.tape.trans h.tape, h'.output.trans h.output, Nat.le_trans h.size h'.size, fun j hj hne => (h'.block j (Nat.lt_of_lt_of_le hj h.size) hne).trans (h.block j hj hne)⟩
theorem Only.of_below {g : Nat} {w w' : World} (h : Below w.heap.size w w') : Only g w w' := ⟨h.os, h.tape, h.output, h.size, fun j hj _ => h.block j hj⟩
/-- Where that block is a new one, all that there was has stayed. -/
theorem Only.below {g : Nat} {a w w' : World} (hb : Below a.heap.size a w) (h : Only g w w') (hg : a.heap.size ≤ g) : Below a.heap.size a w' :=
  ⟨h.os.trans hb.os, h.tape.trans hb.tape, h.output.trans hb.output, Nat.le_trans hb.size h.size, fun j hj => (h.block j (Nat.lt_of_lt_of_le hj hb.size) (fun e => by injection e with e; omega)).trans (hb.block j hj)⟩

/-- The middle of three pieces. -/
theorem mid_get {p m q : List Nat} {i x : Nat} (h : m[i]? = some x) : (p ++ m ++ q)[p.length + i]? = some x := by
  obtain ⟨hi, _⟩ := List.getElem?_eq_some_iff.1 h
  rw [List.append_assoc, List.getElem?_append_right (by omega), Nat.add_sub_cancel_left, List.getElem?_append_left hi, h]
theorem mid_set {p m q : List Nat} {i : Nat} (hi : i < m.length) (y : Nat) : (p ++ m ++ q).set (p.length + i) y = p ++ m.set i y ++ q := by
  rw [List.append_assoc, List.set_append_right _ _ (by omega), Nat.add_sub_cancel_left, List.set_append_left _ _ hi, List.append_assoc]
theorem Own.set_mid {k : IntKind} {t : TypeId} {w : World} {g : Nat} {p m q : List Nat} (h : Own k t w g (p ++ m ++ q)) {i : Nat} (hi : i < m.length) (y : Nat) :
    Own k t (w.setCell ⟨g, p.length + i, none⟩ (.int k (y : Int))) g (p ++ m.set i y ++ q) := by
  rw [← mid_set hi]; exact h.set _ _

theorem mem_set_lt {zs : List Nat} {B i y : Nat} (h : ∀ x ∈ zs, x < B) (hy : y < B) : ∀ x ∈ zs.set i y, x < B := fun x hx => by
  rcases List.mem_or_eq_of_mem_set hx with h' | rfl
  · exact h x h'
  · exact hy
theorem get_lt {zs : List Nat} {B i x : Nat} (h : ∀ x ∈ zs, x < B) (hx : zs[i]? = some x) : x < B := h x (List.mem_of_getElem? hx)

/-- make of a row of numbers: for every world. -/
theorem made_nums (z : Value) (n : Nat) : madeCells #[z] n = Array.replicate n z := by
  apply Array.ext'
  rw [toList_madeCells_one, Array.toList_replicate]
theorem nums_replicate (k : IntKind) (n : Nat) : nums k (List.replicate n 0) = Array.replicate n (.int k 0) := by
  apply Array.ext'
  simp [nums]

theorem run_make_nums {P : Program} (t e : TypeId) (k : IntKind) (bytes : Nat) (ht : P.underlying t = some (.slice e))
    (hinfo : (P.info? e).map (fun i => (i.zero, i.size, i.bytes)) = some (some (.int k 0), 1, bytes)) (n : Nat) (z : Int) (hz : z = (n : Int)) (hb : bytes ≤ 8) (hn : n ≤ 35184372088832) (w : World) :
    (Instr.makeSlice t (.int .i64 z) (.int .i64 z)).run P w = .ok (.slice (some ⟨w.heap.size, 0, none⟩) n n) (w.alloc (.cells (nums k (List.replicate n 0)) e)) := by
  subst hz
  rw [nums_replicate, ← made_nums]
  have hbn : bytes * n ≤ 281474976710656 := Nat.le_trans (Nat.mul_le_mul hb hn) (by omega)
  exact run_make_row' t e (.int k 0) bytes ht hinfo rfl .i64 .i64 n hbn (by omega) w

/-- What the call gives lies over an old world that has not turned. -/
theorem below_trans {a b c : World} (h : Below a.heap.size a b) (k : Below b.heap.size b c) : Below a.heap.size a c := h.trans (k.mono h.size)
end Go.Proofs.YtlgfjgkcgimdoaaDoor

/- The small calls: a digit at a place; 32 bits together and less, and divided. -/
namespace Go.Proofs.YtlgfjgkcgimdoaaDoor
open Go Go.RowKit

set_option maxHeartbeats 400000 in
theorem digit_c (w : World) (v : Value) (zs : List Nat) (h : Rd .u32 w v zs) (i : Nat) :
    Calls Tryd.prog 50 #[v, .int .i64 i] w fun e w' => e = .returned (.int .u32 ((zs[i]?.getD 0 : Nat) : Int)) ∧ w = w' := by
  obtain ⟨A, cap, rfl, hl, hc, hz⟩ := h
  by_cases hlt : i < zs.length
  · obtain ⟨b, off, rfl, _, hcell⟩ := hz (by omega)
    have hx : zs[i]? = some zs[i] := List.getElem?_eq_getElem hlt
    have hci := hcell i _ hx
    have he : zs[i]?.getD 0 = zs[i] := by rw [hx]; rfl
    rw [he]
    clear hx he hz hcell
    go_enter Tryd.func50, Tryd.ntmps50
    go_wp2
    go_ret
    exact ⟨rfl, rfl⟩
  · have he : zs[i]?.getD 0 = 0 := by rw [List.getElem?_eq_none (by omega)]; rfl
    rw [he]
    clear he hz
    go_enter Tryd.func50, Tryd.ntmps50
    go_wp2
    go_ret
    exact ⟨rfl, rfl⟩

theorem ret_pair {k l : IntKind} {a b c d : Int} (h : a = c) (h' : b = d) : Ending.returned (.tuple #[.int k a, .int l b]) = .returned (.tuple #[.int k c, .int l d]) := by rw [h, h']

set_option maxHeartbeats 400000 in
theorem add32_c (w : World) (x y c : Nat) (hx : x < 4294967296) (hy : y < 4294967296) (hc : c ≤ 1) :
    Calls Tryd.prog 52 #[.int .u32 x, .int .u32 y, .int .u32 c] w fun e w' => e = .returned (.tuple #[.int .u32 (((x + y + c) % 4294967296 : Nat) : Int), .int .u32 (((x + y + c) / 4294967296 : Nat) : Int)]) ∧ w = w' := by
  go_enter Tryd.func52, Tryd.ntmps52
  go_wp2
  go_ret2
  exact ⟨rfl, rfl⟩

theorem top_bit {x : Nat} (h : x < 4294967296) : x.testBit 31 = decide (2147483648 ≤ x) := by
  rw [Nat.testBit_eq_decide_div_mod_eq, decide_eq_decide]; omega
theorem top_of {n : Nat} (h : n < 4294967296) : n / 2147483648 = (n.testBit 31).toNat := by
  rw [top_bit h]
  by_cases c : 2147483648 ≤ n
  · simp [c]; omega
  · simp [c]; omega

/-- What a difference borrows. -/
def bor (x y c : Nat) : Nat := if x < y + c then 1 else 0
/-- The borrow of a difference, by the highest bits. -/
theorem borrow32 {x y c d : Nat} (hx : x < 4294967296) (hy : y < 4294967296) (hc : c ≤ 1) (hd : d = (x + 8589934592 - y - c) % 4294967296) :
    ((((4294967295 ^^^ x) &&& y) ||| ((4294967295 ^^^ (x ^^^ y)) &&& d)) / 2147483648 : Nat) = bor x y c := by
  unfold bor
  have hd' : d < 4294967296 := by omega
  have h1 : ((4294967295 ^^^ x) &&& y) < 2 ^ 32 := Nat.and_lt_two_pow _ (by omega)
  have h2 : ((4294967295 ^^^ (x ^^^ y)) &&& d) < 2 ^ 32 := Nat.and_lt_two_pow _ (by omega)
  rw [top_of (Nat.or_lt_two_pow h1 h2)]
  have hp : (4294967295 : Nat).testBit 31 = true := by decide
  simp only [Nat.testBit_or, Nat.testBit_and, Nat.testBit_xor, hp, top_bit hx, top_bit hy, top_bit hd']
  by_cases a : 2147483648 ≤ x <;> by_cases b : 2147483648 ≤ y <;> by_cases e : 2147483648 ≤ d <;> by_cases f : x < y + c <;> simp [a, b, e, f] <;> omega

set_option maxHeartbeats 400000 in
theorem sub32_c (w : World) (x y c : Nat) (hx : x < 4294967296) (hy : y < 4294967296) (hc : c ≤ 1) :
    Calls Tryd.prog 68 #[.int .u32 x, .int .u32 y, .int .u32 c] w fun e w' => e = .returned (.tuple #[.int .u32 (((x + 8589934592 - y - c) % 4294967296 : Nat) : Int), .int .u32 ((bor x y c : Nat) : Int)]) ∧ w = w' := by
  go_enter Tryd.func68, Tryd.ntmps68
  go_wp2
  go_ret2
  refine ⟨ret_pair ?_ ?_, rfl⟩
  · omega
  · obtain ⟨d, hd⟩ : ∃ d, d = (x + 8589934592 - y - c) % 4294967296 := ⟨_, rfl⟩
    have hd' : d < 4294967296 := by omega
    have e1 : ((x : Int) - y - c) % 4294967296 = (d : Int) := by omega
    have em : IntKind.u32.max = ((4294967295 : Nat) : Int) := by decide
    have hp : (4294967295 : Nat) < 4294967296 := by omega
    have hxy : x ^^^ y < 2 ^ 32 := Nat.xor_lt_two_pow (by omega) (by omega)
    have h0 : 4294967295 ^^^ x < 2 ^ 32 := Nat.xor_lt_two_pow (by omega) (by omega)
    have h00 : 4294967295 ^^^ (x ^^^ y) < 2 ^ 32 := Nat.xor_lt_two_pow (by omega) hxy
    rw [e1, em, u32_xor_nat _ _ hp hx, u32_and_nat _ _ h0 hy, u32_xor_nat _ _ hx hy, u32_xor_nat _ _ hp hxy, u32_and_nat _ _ h00 hd',
      u32_or_nat _ _ (Nat.and_lt_two_pow (n := 32) _ (by omega)) (Nat.and_lt_two_pow (n := 32) _ (by omega)), ← borrow32 hx hy hc hd]
    rfl

theorem join_low {x y : Nat} (hy : y < 4294967296) : x * 4294967296 ||| y = x * 4294967296 + y := nat_join 32 _ _ (by simp) (by omega)
theorem div32_lt {x y c : Nat} (hc : 0 < c) (hh : x < c) (hy : y < 4294967296) : (x * 4294967296 + y) / c < 4294967296 := by
  rw [Nat.div_lt_iff_lt_mul hc]
  have : (x + 1) * 4294967296 ≤ c * 4294967296 := Nat.mul_le_mul_right _ hh
  omega

theorem wrap_u64' (n : Int) : IntKind.u64.wrap n = n % 18446744073709551616 := by simp [IntKind.wrap, IntKind.bits, IntKind.signed]
theorem below_drewN' (w : World) (n : Nat) : Below w.heap.size w (w.drewN n) := ⟨rfl, rfl, rfl, Nat.le_refl _, fun _ _ => rfl⟩

set_option maxHeartbeats 1000000 in
theorem div32_c (w : World) (x y c : Nat) (hx : x < 4294967296) (hy : y < 4294967296) (hc : c < 4294967296) (hh : x < c) :
    Calls Tryd.prog 69 #[.int .u32 x, .int .u32 y, .int .u32 c] w fun e w' =>
      e = .returned (.tuple #[.int .u32 (((x * 4294967296 + y) / c : Nat) : Int), .int .u32 (((x * 4294967296 + y) % c : Nat) : Int)]) ∧ Below w.heap.size w w' := by
  have hc0 : ((c : Int) == 0) = false := by rw [beq_eq_false_iff_ne]; omega
  have hc1 : ((c : Int) != 0) = true := by rw [bne_iff_ne]; omega
  have hcx : decide ((c : Int) ≤ x) = false := by rw [decide_eq_false_iff_not]; omega
  go_enter Tryd.func69, Tryd.ntmps69
  go_wp2
  go_quiet (fail)
  go_wp2
  go_ret2
  have e1 : bits BinOp.or IntKind.u64 ((x : Int) * 4294967296) (y : Int) = ((x * 4294967296 + y : Nat) : Int) := by
    rw [← join_low hy, ← u64_or_nat _ _ (by omega) (by omega)]; rfl
  refine ⟨ret_pair ?_ ?_, below_drewN' _ _⟩
  · rw [e1, ← Int.ofNat_tdiv, wrap_u64']
    have := div32_lt (by omega) hh hy
    obtain ⟨q, hq⟩ : ∃ q, (x * 4294967296 + y) / c = q := ⟨_, rfl⟩
    rw [hq] at this ⊢
    omega
  · rw [e1, ← Int.ofNat_tmod]
    have := Nat.mod_lt (x * 4294967296 + y) (show c > 0 by omega)
    obtain ⟨q, hq⟩ : ∃ q, (x * 4294967296 + y) % c = q := ⟨_, rfl⟩
    rw [hq] at this ⊢
    omega
end Go.Proofs.YtlgfjgkcgimdoaaDoor
