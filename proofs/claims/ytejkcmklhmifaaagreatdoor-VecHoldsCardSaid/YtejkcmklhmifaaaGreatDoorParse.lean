/- strings.Builder: what is written into it, and had of it. -/
import Derived.Test.YtejkcmklhmifaaaGreatDoorShelf
import Derived.Test.YtejkcmklhmifaaaGreatDoorNum
import Derived.Lib.FrozenHead
import Derived.Lib.AppendIntMem
import Derived.BigCall
import Derived.Test.YtejkcmklhmifaaaGreatDoorNm
import Derived.Lib.OthersKept
import Derived.Lib.Strings
import Derived.Deep.LoopGhost
import Derived.Test.YtejkcmklhmifaaaGreatDoorHeld
namespace Go.Proofs.YtejkcmklhmifaaaGreatDoor
open Go Go.RowKit Go.Shelf

theorem size_builder : (Tryz.prog.info? 243).map (·.size) = some 2 := by kernel_rfl
theorem lies_builder : liesAt Tryz.prog Tryz.prog.depth 243 (2 / Tryz.prog.cellsOf 243) 0 243 1 = true := by kernel_rfl
theorem info_u8 : (Tryz.prog.info? 5).map (fun i => (i.zero, i.size, i.bytes)) = some (some (.int .u8 0), 1, 1) := by kernel_rfl

/-- A builder of the call's own, in block b, that holds the bytes l. -/
def Built (b : Nat) (l : List UInt8) (w : World) : Prop := Lib.IsBuilderF 243 5 b b (Lib.byteCells l) w
theorem Built.fresh (w : World) : Built w.heap.size [] (w.alloc (.cells #[.pointer none, .slice none 0 0] 243)) := Lib.IsBuilderF.of (Lib.fresh_isBuilder _ _ w)
theorem below_grownBy {w w' : World} (h : Below w.heap.size w w') : w.grownBy w' none := ⟨h.os, h.tape, h.output, h.size, fun j hj _ => h.block j hj⟩
theorem builderAt_below {T e : TypeId} {B b : Nat} {p : Value} {bs : List Value} {w w' : World} (h : Lib.BuilderAtF T e B b p bs w) (hb : Below w.heap.size w w') : Lib.BuilderAtF T e B b p bs w' := by
  have hlt := h.lt
  obtain ⟨hB, v, hbk, hown, hne⟩ := h
  refine ⟨hB, v, (hb.block b hlt).trans hbk, hown.kept (below_grownBy hb) ?_, hne⟩
  cases v.ownBlock with
  | none => exact .inl rfl
  | some g => exact .inr (by simp)
theorem Built.below {b : Nat} {l : List UInt8} {w w' : World} (h : Built b l w) (hb : Below w.heap.size w w') : Built b l w' := by
  rcases h with h | h
  · exact .inl (builderAt_below h hb)
  · exact .inr (builderAt_below h hb)
theorem Built.lt {b : Nat} {l : List UInt8} {w : World} (h : Built b l w) : b < w.heap.size := by
  rcases h with h | h <;> exact h.lt

set_option maxHeartbeats 1000000 in
set_option maxRecDepth 100000 in
theorem copyCheck_fresh (b : Nat) (w : World) (h0 : w.cell? ⟨b, 0, none⟩ = some (.pointer none)) (hsh : w.shape? b = some (243, 2)) (hfz : w.frozen? ⟨b, 0, none⟩ = false) :
    Calls Tryz.prog 225 #[.pointer (some ⟨b, 0, none⟩)] w fun e w' => e = .returned (.tuple #[]) ∧ w' = w.setCell ⟨b, 0, none⟩ (.pointer (some ⟨b, 0, none⟩)) := by
  obtain ⟨j, hj, hjs⟩ := Option.map_eq_some_iff.1 size_builder
  go_enter Tryz.func225, Tryz.ntmps225
  go_wp2
  rw [Lib.run_to_unsafe w ⟨b, 0, none⟩ Tryz.underlying240 Tryz.underlying269 hj (by rw [hjs]; decide) hsh (Nat.zero_lt_succ 1)]
  simp only [Result.andThen]
  rw [Oper.upon_value]
  go_wp2
  rw [run_callFunc_extern Tryz.func236 (by kernel_rfl) (by kernel_rfl) (by kernel_rfl) (e := Extern.AbiNoEscape.same) (by kernel_rfl)]
  rw [Lib.run_noEscape]
  simp only [Result.andThen]
  rw [Oper.upon_value]
  go_wp2
  rw [Lib.run_from_unsafe w ⟨b, 0, none⟩ Tryz.underlying269 Tryz.underlying240 hj hsh lies_builder]
  simp only [Result.andThen]
  rw [Oper.upon_value]
  go_wp2
  go_end0
  exact ⟨rfl, rfl⟩

set_option maxHeartbeats 1000000 in
set_option maxRecDepth 100000 in
theorem copyCheck_used (b : Nat) (w : World) (h0 : w.cell? ⟨b, 0, none⟩ = some (.pointer (some ⟨b, 0, none⟩))) :
    Calls Tryz.prog 225 #[.pointer (some ⟨b, 0, none⟩)] w fun e w' => e = .returned (.tuple #[]) ∧ w' = w := by
  obtain ⟨j, hj, _⟩ := Option.map_eq_some_iff.1 size_builder
  go_enter Tryz.func225, Tryz.ntmps225
  go_wp2
  rw [Lib.run_neq_ptr_same w _ Tryz.underlying240 hj]
  go_wp2
  go_end0
  exact ⟨rfl, rfl⟩

theorem copyCheck_c (b : Nat) (l : List UInt8) (w : World) (h : Built b l w) :
    Calls Tryz.prog 225 #[.pointer (some ⟨b, 0, none⟩)] w fun e w' => e = .returned (.tuple #[]) ∧ Lib.BuilderAtF 243 5 b b (.pointer (some ⟨b, 0, none⟩)) (Lib.byteCells l) w' ∧ Below b w w' := by
  rcases h with h | h
  · refine (copyCheck_fresh b w h.cell0 h.shape h.frozen0).mono ?_
    rintro e w' ⟨rfl, rfl⟩
    exact ⟨rfl, h.used _, (Below.refl b w).setCell (p := ⟨b, 0, none⟩) (Nat.le_refl _) _⟩
  · refine (copyCheck_used b w h.cell0).mono ?_
    rintro e w' ⟨rfl, rfl⟩
    exact ⟨rfl, h, Below.refl b _⟩

set_option maxHeartbeats 2000000 in
set_option maxRecDepth 100000 in
theorem writeString_c (b : Nat) (l : List UInt8) (s : ByteArray) (w : World) (h : Built b l w) (hlen : l.length + s.size ≤ 140737488355328) :
    Calls Tryz.prog 213 #[.pointer (some ⟨b, 0, none⟩), .string s] w fun e w' => e = .returned (.tuple #[.int .i64 s.size, .nilIface]) ∧ Built b (l ++ s.data.toList) w' ∧ Below b w w' := by
  obtain ⟨i0, hi, hz0, hz1, hz2⟩ := info_parts info_u8
  have hbw := h.lt
  have hcc := copyCheck_c b l w h
  have HI := Lib.hid (And.intro hi (And.intro hz0 (And.intro hz1 hz2)))
  clear hi hz0 hz1 hz2 h
  go_enter Tryz.func213, Tryz.ntmps213
  go_wp2_with (go_at_call 225; refine hcc.mono ?_)
  rintro e w1 ⟨rfl, h1, hb1⟩
  obtain ⟨hB, v, hbk, hown, hne⟩ := h1
  have c0 : w1.cell? ⟨b, 0, none⟩ = some (.pointer (some ⟨b, 0, none⟩)) := by rw [Lib.cell_of_heap hbk]; rfl
  have c1 : w1.cell? ⟨b, 1, none⟩ = some v := by rw [Lib.cell_of_heap hbk]; rfl
  have Hs := Lib.hid (show (Lib.byteCells l).length = l.length from Lib.byteCells_length l)
  go_wp2_with (at_builtin; refine Lib.wpList_append_own_stringF _ rfl _ _ 241 9 rfl b 5 i0 Tryz.underlying241 Tryz.underlying9 HI.out.1 HI.out.2.1 HI.out.2.2.1 HI.out.2.2.2 _ _ _ rfl hown s rfl ?c3 ?c4 ?c5 ?_)
  case c3 => have := Hs.out; unfold maxLen; omega
  case c4 => have := Hs.out; omega
  case c5 => have := hb1.size; omega
  intro v' w2 hown' hgrow _
  have hlt : b < w1.heap.size := (Array.getElem?_eq_some_iff.1 hbk).1
  have hb2 : w2.heap[b]? = some (.cells #[.pointer (some ⟨b, 0, none⟩), v] 243 (0, 0)) := by
    rw [hgrow.block b hlt (fun e => hne e.symm)]
    exact hbk
  have d0 : w2.cell? ⟨b, 0, none⟩ = some (.pointer (some ⟨b, 0, none⟩)) := by rw [Lib.cell_of_heap hb2]; rfl
  have d1 : w2.cell? ⟨b, 1, none⟩ = some v := by rw [Lib.cell_of_heap hb2]; rfl
  have f1 : w2.frozen? ⟨b, 1, none⟩ = false := Lib.frozen_of_heap hb2 1
  obtain ⟨ao, n', cap, rfl⟩ : ∃ ao n' cap, v' = .slice ao n' cap := by
    rcases hown'.2 with ⟨hv, _⟩ | ⟨g, cap, cur, fz, hv, _⟩
    · exact ⟨_, _, _, hv⟩
    · exact ⟨_, _, _, hv⟩
  have HO := Lib.hid hown'
  have HG := Lib.hid hgrow
  clear hown' hgrow
  go_wp2
  go_ret2
  refine ⟨rfl, .inr ?_, ?_⟩
  · have e : Lib.byteCells (l ++ s.data.toList) = Lib.byteCells l ++ Lib.strCells s := by rw [Lib.byteCells_append]; rfl
    rw [e]
    exact Lib.BuilderAtF.put (T := 243) (e := 5) hB hb2 (bs' := Lib.byteCells l ++ Lib.strCells s) (by simpa [Lib.strCells_length] using HO.out) (by decide)
  · exact (hb1.grown HG.out (by have := hb1.size; omega) (fun k hk => (hown.lt k hk).1)).setCell (p := ⟨b, 1, none⟩) hB _

theorem builderString_c (b : Nat) (l : List UInt8) (w : World) (h : Built b l w) :
    Calls Tryz.prog 215 #[.pointer (some ⟨b, 0, none⟩)] w fun e w' => e = .returned (.string ⟨l.toArray⟩) ∧ Below b w w' :=
  (Tryz.Builder_String_any_f b b l w h (Nat.le_of_lt h.lt)).mono fun _ _ h => ⟨h.1, h.2.2⟩
end Go.Proofs.YtejkcmklhmifaaaGreatDoor

/- strconv.FormatUint to the base ten. -/
namespace Go.Proofs.YtejkcmklhmifaaaGreatDoor
open Go Go.RowKit Go.Shelf Go.Sort

/-- The table of powers of ten. -/
def Tab10 (w : World) : Prop := Lib.TabIs Tryz.prog w "internal/strconv.uint64pow10" .u64 Lib.pow10Tab
theorem gTab10 : Tryz.prog.globalNamed "internal/strconv.uint64pow10" = some 2 := by kernel_rfl
theorem Tab10.below {w w' : World} (h : Tab10 w) (hb : Below w.heap.size w w') : Tab10 w' := Lib.tabBelow_of_tabIs h w' hb

set_option maxRecDepth 100000 in
set_option maxHeartbeats 4000000 in
theorem formatUint_in (u : Nat) (hu64 : u < 18446744073709551616) (w : World) (htab : Tab10 w) :
    Calls Tryz.prog 224 #[.int .u64 u, .int .i64 10] w fun e w' => e = .returned (.string ⟨(Lib.decDigits u).toArray⟩) ∧ Below w.heap.size w w' := by
  by_cases hs : u < 100
  · have iu : (u : Int) < 100 := by omega
    go_enter Tryz.func224, Tryz.ntmps224
    go_wp2_with (go_at_call 232; refine (Tryz.internal_strconv_small u hs _).mono ?_; rintro e w' ⟨rfl, rfl⟩)
    go_ret
    exact ⟨rfl, Below.refl _ _⟩
  · have hu1 : 1 ≤ u := by omega
    have hnd20 : Lib.nDigits u ≤ 20 := by have := Lib.numDigits_eq u hu1 hu64; split at this <;> omega
    have hal : Tryz.prog.arrayLen 264 = 24 := by simp [Program.arrayLen, Tryz.underlying264]
    have hsl : ∀ W, (Instr.sliceAt 264 (.pointer (some ⟨w.heap.size, 0, none⟩)) none (some (.int .i64 (Lib.nDigits u : Int))) none).run Tryz.prog W = .ok (.slice (some ⟨w.heap.size, 0, none⟩) (Lib.nDigits u) 24) W := fun W => by
      rw [run_sliceAt_array_h W 264 ⟨w.heap.size, 0, none⟩ (by simp [Program.arrayLen, Program.elem, Tryz.underlying264]) .i64 (Lib.nDigits u : Int) (by omega) (by rw [hal]; omega)]
      go_simp
    have hH0 := Lib.holds_zero0 w 264 (Lib.nDigits u) (by omega)
    have hfmt := Tryz.internal_strconv_formatBase10 w.heap.size 0 24 u (Array.replicate (Lib.nDigits u) 0) (w.alloc (.cells Lib.zeros24 264)) hH0 (by rw [Array.size_replicate]; exact Lib.lt_pow_nDigits u) hu64 (by rw [Array.size_replicate]; omega)
    rw [Array.size_replicate] at hfmt
    have HH0 := Lib.hid hH0
    have iu : (100 : Int) ≤ (u : Int) := by omega
    clear hH0 hal
    go_enter Tryz.func224, Tryz.ntmps224
    go_wp2_with (first
      | (go_at_call 233; refine (Tryz.internal_strconv_numDigits u hu1 hu64 _ (Lib.tabIs_alloc htab _)).mono ?_; rintro e w' ⟨rfl, rfl⟩))
    go_at_call 234
    refine hfmt.mono ?_
    rintro e w' ⟨rfl, k, v', dk, rfl, hF⟩
    have hcv : (convert 241 9 (.slice (some ⟨w.heap.size, 0, none⟩) (Lib.nDigits u) 24)).run Tryz.prog ((putRow (fun (b : UInt8) => Value.int .u8 (b.toNat : Int)) (w.alloc (.cells Lib.zeros24 264)) w.heap.size 0 dk).drewN k) = .ok (.string ⟨(Lib.decDigits u).toArray⟩) ((putRow (fun (b : UInt8) => Value.int .u8 (b.toNat : Int)) (w.alloc (.cells Lib.zeros24 264)) w.heap.size 0 dk).drewN k) := by
      have h := run_convert_bytes_back (P := Tryz.prog) ((putRow (fun (b : UInt8) => Value.int .u8 (b.toNat : Int)) (w.alloc (.cells Lib.zeros24 264)) w.heap.size 0 dk).drewN k) 241 9 5 ⟨w.heap.size, 0, none⟩ 24 (Lib.decDigits u) Tryz.underlying241 Tryz.underlying5 Tryz.underlying9 (fun j hj => by
        rw [Lib.row_is_numeral hF j hj, Lib.add_plain, World.cell?_drewN]
        exact cell?_putRow (fun (b : UInt8) => Value.int .u8 (b.toNat : Int)) _ w.heap.size 0 _ dk HH0.out (by rw [hF.size, Array.size_replicate]) j (by rw [hF.size]; rw [Lib.decDigits_length] at hj; exact hj))
      rw [Lib.decDigits_length] at h
      exact h
    go_wp2
    go_ret
    obtain ⟨os, eo⟩ := Lib.fin_at w (.cells Lib.zeros24 264) dk k 0
    refine ⟨rfl, ?_⟩
    rw [eo]
    exact Lib.below_grow w.heap.size w (Nat.le_refl _) k os

set_option maxRecDepth 100000 in
theorem formatUint_c (u : Nat) (hu64 : u < 18446744073709551616) (w : World) (htab : Tab10 w) :
    Calls Tryz.prog 212 #[.int .u64 u, .int .i64 10] w fun e w' => e = .returned (.string ⟨(Lib.decDigits u).toArray⟩) ∧ Below w.heap.size w w' := by
  go_enter Tryz.func212, Tryz.ntmps212
  go_wp2_with (go_at_call 224; refine (formatUint_in u hu64 _ htab).mono ?_; rintro e w' ⟨rfl, hb⟩)
  go_ret
  exact ⟨rfl, hb⟩
end Go.Proofs.YtejkcmklhmifaaaGreatDoor

/- Powers of ten. -/
namespace Go.Proofs.YtejkcmklhmifaaaGreatDoor
open Go Go.RowKit Go.Shelf

/-- The power, or none and ErrLimbs. -/
def TenPost (w : World) (n : Nat) (e : Ending) (w' : World) : Prop := (10 ^ n < Lim ∧ RetN0 w (10 ^ n) e w') ∨ (Lim ≤ 10 ^ n ∧ RetE w 11 e w')
theorem ten_even {n h : Nat} (e : n = 2 * h) : 10 ^ h * 10 ^ h = 10 ^ n := by rw [← Nat.pow_add, e]; congr 1; omega
theorem ten_odd {n h : Nat} (e : n = 2 * h + 1) : 10 ^ h * 10 ^ h * 10 = 10 ^ n := by rw [← Nat.pow_add, e, ← Nat.pow_succ]; congr 1; omega
theorem ten_mono {n m : Nat} (h : n ≤ m) : 10 ^ n ≤ 10 ^ m := Nat.pow_le_pow_right (by omega) h

end Go.Proofs.YtejkcmklhmifaaaGreatDoor

/- A text gone through sign by sign: is it digits, and their number. -/
namespace Go.Proofs.YtejkcmklhmifaaaGreatDoor
open Go Go.RowKit

/-- Is a text digits, and not empty? -/
def okText (l : List UInt8) : Bool := decide (AllD l ∧ l ≠ [])
theorem okText_true {l : List UInt8} (h : AllD l) (h0 : l ≠ []) : okText l = true := decide_eq_true ⟨h, h0⟩
theorem okText_nil : okText [] = false := decide_eq_false fun h => h.2 rfl
theorem okText_bad {l : List UInt8} {i : Nat} {c : UInt8} (h : l[i]? = some c) (hc : ¬ (48 ≤ c.toNat ∧ c.toNat ≤ 57)) : okText l = false :=
  decide_eq_false fun k => hc (k.1 c (List.mem_of_getElem? h))
theorem get_byte (s : ByteArray) (i : Nat) (h : i < s.size) : s.data.toList[i]? = some (s[i]'h) := by
  rw [List.getElem?_eq_getElem (by simpa using h)]; rfl
theorem size_list (s : ByteArray) : s.data.toList.length = s.size := by simp
theorem allD_take_succ {l : List UInt8} {i : Nat} {c : UInt8} (h : AllD (l.take i)) (hx : l[i]? = some c) (hc : 48 ≤ c.toNat ∧ c.toNat ≤ 57) : AllD (l.take (i + 1)) := by
  rw [List.take_add_one, hx]
  exact h.append (AllD.cons hc AllD.nil)
theorem decv_take_succ {l : List UInt8} {i : Nat} {c : UInt8} (hx : l[i]? = some c) : decv (l.take (i + 1)) = decv (l.take i) * 10 + (c.toNat - 48) := by
  rw [List.take_add_one, hx]
  exact decv_push _ _

end Go.Proofs.YtejkcmklhmifaaaGreatDoor

/- Texts of digits, read. -/
namespace Go.Proofs.YtejkcmklhmifaaaGreatDoor
open Go Go.RowKit Go.Shelf

theorem ten_mono9 {n m : Nat} (h : n ≤ m) : 10 ^ n ≤ 10 ^ m := Nat.pow_le_pow_right (by omega) h

def p4900 : Nat := 4900
def ten4900 : Nat := 10 ^ p4900
theorem ten4900_lim : ten4900 < Lim := of_decide_eq_true (by kernel_rfl)
theorem ten_lim {n : Nat} (h : n ≤ 4900) : 10 ^ n < Lim := Nat.lt_of_le_of_lt (Nat.pow_le_pow_right (by omega) (show n ≤ p4900 by unfold p4900; omega)) ten4900_lim

end Go.Proofs.YtejkcmklhmifaaaGreatDoor

/- A number's decimal digits. -/
namespace Go.Proofs.YtejkcmklhmifaaaGreatDoor
open Go Go.RowKit Go.Shelf

theorem info_u64 : (Tryz.prog.info? 114).map (fun i => (i.zero, i.size, i.bytes)) = some (some (.int .u64 0), 1, 8) := by kernel_rfl
theorem Grown.below {k : IntKind} {t : TypeId} {base : Nat} {w w' : World} {v : Value} {zs : List Nat} (h : Grown k t base w v zs) (hb : Below w.heap.size w w') : Grown k t base w' v zs := by
  refine h.keep (below_grownBy hb) ?_
  cases v.ownBlock with
  | none => exact .inl rfl
  | some g => exact .inr (by simp)
def p1024 : Nat := 1024
theorem p1024_eq : p1024 = 2 * maxL := rfl
theorem lim_nine : Lim ≤ 1000000000 ^ p1024 := by
  rw [p1024_eq, Nat.pow_mul]
  exact Nat.pow_le_pow_left (by decide) _
theorem Cutting.len_le {n cur : Nat} {bs : List Nat} (h : Cutting n cur bs) (hn : n < Lim) : bs.length ≤ 1024 := by
  rcases h.2.2 with h0 | h0
  · omega
  · have := Nat.lt_of_lt_of_le (Nat.lt_of_le_of_lt (h.len h0) hn) lim_nine
    exact Nat.le_of_lt (show bs.length < p1024 from (Nat.pow_lt_pow_iff_right (by omega)).1 this)

/-- The blocks of a number. -/
def RetBlk (w : World) (n : Nat) (e : Ending) (w' : World) : Prop :=
  ∃ A cap bs, e = .returned (.slice A bs.length cap) ∧ Rd .u64 w' (.slice A bs.length cap) bs ∧ Blk n bs ∧ bs.length ≤ 1025 ∧ Below w.heap.size w w'

set_option maxRecDepth 100000 in
set_option maxHeartbeats 4000000 in
theorem blocksOf_c (w : World) (va : Value) (n : Nat) (ha : Nm w va n) (hn : n < Lim) : Calls Tryz.prog 211 #[va] w (RetBlk w n) := by
  have HA := Lib.hid (And.intro ha hn)
  clear ha hn
  go_enter Tryz.func211, Tryz.ntmps211
  go_wp2_with fail
  go_loopg [0, 3] n (fun g a b wr => ∃ bs : List Nat, Hid (Nm wr a g ∧ (Grown .u64 114 w.heap.size wr b bs ∧ AllK .u64 114 wr b) ∧ Cutting n g bs ∧ Below w.heap.size w wr))
  case atStart => exact ⟨[], HA.out.1, ⟨Grown.nil _ _ _ _, AllK.nil _ _ _⟩, Cutting.start n, Below.refl _ _⟩
  case round =>
    obtain ⟨bs, HR⟩ := hrel
    have hgl : Hid (gk < Lim) := by
      have h1 := HR.out.2.2.1
      have h2 : gk ≤ n := by
        rw [← h1.2.1]
        exact Nat.le_trans (Nat.le_mul_of_pos_left _ (Nat.pow_pos (by omega))) (Nat.le_add_left _ _)
      exact Nat.lt_of_le_of_lt h2 HA.out.2
    go_wp2_with fail
    refine (of_n _ 1000000000 (by omega)).mono ?_
    rintro e w1 ⟨v1, rfl, hv1, hb1⟩
    have H1 := Lib.hid (And.intro hv1 hb1)
    clear hv1 hb1
    go_wp2_with fail
    refine (div_n (HR.out.1.below H1.out.2) H1.out.1 (by omega) hgl.out).mono ?_
    rintro e w2 ⟨v2, v3, rfl, hv2, hv3, hb2⟩
    have H2 := Lib.hid (And.intro hv2 (And.intro hv3 hb2))
    clear hv2 hv3 hb2
    go_wp2_with fail
    refine (small_n H2.out.2.1 (by omega)).mono ?_
    rintro e w3 ⟨rfl, hb3⟩
    have H3 := Lib.hid hb3
    clear hb3
    have HB := Lib.hid (below_trans (below_trans (below_trans HR.out.2.2.2 H1.out.2) H2.out.2.2) H3.out)
    have HG := Lib.hid (And.intro (((HR.out.2.1.1.below H1.out.2).below H2.out.2.2).below H3.out) (((HR.out.2.1.2.below H1.out.2).below H2.out.2.2).below H3.out))
    obtain ⟨d, hd⟩ : ∃ d, gk % 1000000000 = d := ⟨_, rfl⟩
    rw [hd]
    have Hd := Lib.hid hd
    clear hd
    have Hlen := Lib.hid (show bs.length ≤ 1000000000 by have := HR.out.2.2.1.len_le HA.out.2; omega)
    go_wp2_with (at_builtin; refine wpList_app1k rfl (.tmp 23) (.tmp 25) 238 rfl w.heap.size 114 8 Tryz.underlying238 info_u64 (by omega) _ bs _ _ d ?_ rfl HG.out.1 HG.out.2 rfl Hlen.out w HB.out (Below.size HB.out) ?_)
    · rfl
    · intro v' w4 hG hK hB hgr
      have H4 := Lib.hid (And.intro (And.intro hG hK) hB)
      have HQ := Lib.hid ((H2.out.1.below H3.out).append (by decide) HG.out.2 hgr)
      clear hG hK hB hgr
      go_wp2_with fail
      refine (bits_n HQ.out).mono ?_
      rintro e w5 ⟨nb, rfl, hnb, hb5⟩
      have H5 := Lib.hid (And.intro hnb hb5)
      clear hnb hb5
      by_cases hq : gk / 1000000000 = 0
      · have h0 : nb = 0 := isBits_none (by have := H5.out.1; rwa [hq] at this)
        subst h0
        have HBK := Lib.hid (by have := HR.out.2.2.1.done hq; rwa [Hd.out] at this)
        clear hq
        have hl : (bs ++ [d]).length ≤ 1025 := by have := HR.out.2.2.1.len_le HA.out.2; simp; omega
        have hrd := (H4.out.1.1.below H5.out.2).rd (by omega)
        obtain ⟨A, c, hv⟩ := hrd.form
        obtain ⟨rfl, _⟩ := hv
        have HRD := Lib.hid (And.intro hrd hl)
        clear hrd hl
        go_wp2_with fail
        go_ret
        exact ⟨A, c, bs ++ [d], by rw [List.length_append]; rfl, HRD.out.1, HBK.out, HRD.out.2, below_trans H4.out.2 H5.out.2⟩
      · have h0 : 0 < nb := isBits_some H5.out.1 (Nat.pos_of_ne_zero hq)
        have hb0 : ((nb : Int) == 0) = false := by rw [beq_eq_false_iff_ne]; omega
        have HCT := Lib.hid (by have := HR.out.2.2.1.next hq; rwa [Hd.out] at this)
        have Hq := Lib.hid hq
        clear hq
        go_wp2_with fail
        go_roundg (gk / 1000000000)
        case rel =>
          exact ⟨bs ++ [d], HQ.out.below H5.out.2, ⟨H4.out.1.1.below H5.out.2, H4.out.1.2.below H5.out.2⟩, HCT.out, below_trans H4.out.2 H5.out.2⟩
        case measure => have := Hq.out; omega

theorem repeat_c (c : Nat) (hc : c ≤ 100000) (w : World) : Calls Tryz.prog 214 #[.string ⟨#[48]⟩, .int .i64 c] w fun e w' => e = .returned (.string ⟨(noughts c).toArray⟩) ∧ Below w.heap.size w w' :=
  (Tryz.strings_Repeat ⟨#[48]⟩ c w (by omega) (by show 1 * c ≤ _; omega)).mono fun _ _ h => by
    obtain ⟨rfl, hb⟩ := h
    exact ⟨by rw [← repeat_nought], hb⟩
theorem byte_size (l : List UInt8) : (⟨l.toArray⟩ : ByteArray).size = l.length := by simp [ByteArray.size]

/-- The decimal digits. -/
def RetText (w : World) (n : Nat) (e : Ending) (w' : World) : Prop := ∃ l : List UInt8, e = .returned (.string ⟨l.toArray⟩) ∧ Dec n l ∧ Below w.heap.size w w'

set_option maxRecDepth 100000 in
set_option maxHeartbeats 4000000 in
theorem text_c (w : World) (hT : Tab10 w) (va : Value) (n : Nat) (ha : Nm w va n) (hn : n < Lim) : Calls Tryz.prog 172 #[va] w (RetText w n) := by
  have hbl := blocksOf_c w va n ha hn
  have HT := Lib.hid hT
  clear hT ha hn
  go_enter Tryz.func172, Tryz.ntmps172
  go_wp2_with fail
  refine hbl.mono ?_
  rintro e w1 ⟨A, c, bs, rfl, hr, hB, hl, hb⟩
  have H1 := Lib.hid (And.intro hr (And.intro hB hb))
  have hpos : 0 < bs.length := List.length_pos_iff.2 hB.1
  clear hr hB hb hbl
  obtain ⟨b0, off, rfl, hb0⟩ := H1.out.1.addr hpos
  have HF := Lib.hid (Built.fresh w1)
  go_wp2_with fail
  go_loopw [11] (fun i wr => ∃ (k : Nat) (l : List UInt8), k ≤ bs.length ∧ i = .int .i64 k ∧ Hid (Built w1.heap.size l wr ∧ (k = 0 → l = []) ∧ (0 < k → Dec (val 1000000000 (bs.drop (bs.length - k))) l) ∧ Below w1.heap.size w1 wr ∧ l.length ≤ 9 * k)) (fun i _ => bs.length - (intOf i).toNat)
  case atStart => exact ⟨0, [], Nat.zero_le _, rfl, HF.out, fun _ => rfl, fun h => absurd h (by omega), (Below.refl _ w1).alloc (Nat.le_refl _) _, by simp⟩
  case round =>
    obtain ⟨k, l, hk, rfl, HR⟩ := hrel
    by_cases hlt : k < bs.length
    · obtain ⟨j, hj⟩ : ∃ j, bs.length - 1 - k = j := ⟨_, rfl⟩
      have hx : bs[j]? = some (bs[j]'(by omega)) := List.getElem?_eq_getElem (by omega)
      obtain ⟨x, hxx⟩ : ∃ x, (bs[j]'(by omega)) = x := ⟨_, rfl⟩
      rw [hxx] at hx
      clear hxx
      have e1 : (bs.length : Int) - 1 - (k : Int) = (j : Int) := by omega
      have hjl : (j : Int) < (bs.length : Int) := by omega
      have hc := (H1.out.1.below HR.out.2.2.2.1).cell hx
      have hxb := H1.out.2.1.2.1 x (List.mem_of_getElem? hx)
      have hds := dec_decDigits x
      have HX := Lib.hid (And.intro hx hj)
      have hft := formatUint_c x (by omega) wr ((HT.out.below H1.out.2.2).below HR.out.2.2.2.1)
      clear hx hj
      generalize Lib.decDigits x = ds at hds hft
      have hdl : ds.length ≤ 9 := hds.len_le (k := 9) (by simpa using hxb) (by omega)
      have HDS := Lib.hid hds
      clear hds
      go_wp2_with fail
      refine hft.mono ?_
      rintro e w2 ⟨rfl, hb2⟩
      have H2 := Lib.hid hb2
      clear hb2 hft hc
      have hsz : (⟨ds.toArray⟩ : ByteArray).size = ds.length := byte_size ds
      rcases Nat.eq_zero_or_pos k with rfl | hp
      · have hb : decide ((0 : Int) > 0) = false := by decide
        go_wp2_with fail
        refine (writeString_c w1.heap.size l ⟨ds.toArray⟩ w2 (HR.out.1.below H2.out) (by have := HR.out.2.2.2.2; rw [hsz]; omega)).mono ?_
        rintro e w3 ⟨rfl, hbt, hb3⟩
        have H3 := Lib.hid (And.intro hbt hb3)
        clear hbt hb3
        go_wp2_with fail
        go_roundw
        case rel =>
          have hl0 : l = [] := by simpa using HR.out.2.1
          have hjx := HX.out.2
          rw [Nat.sub_zero] at hjx
          refine ⟨1, l ++ ds, by omega, by go_num, H3.out.1, fun h => absurd h (by omega), fun _ => ?_, HR.out.2.2.2.1.trans ((H2.out.mono (Below.size HR.out.2.2.2.1)).trans H3.out.2), by rw [hl0]; simpa using hdl⟩
          rw [hl0, List.nil_append]
          exact H1.out.2.1.first (by rw [hjx]; exact HX.out.1) HDS.out
        case measure => simp [intOf]; omega
      · obtain ⟨m, hm⟩ : ∃ m, 9 - ds.length = m := ⟨_, rfl⟩
        have e2 : (9 : Int) - (ds.length : Int) = (m : Int) := by omega
        have Hm := Lib.hid hm
        clear hm
        go_wp2_with fail
        refine (repeat_c m (by have := Hm.out; omega) w2).mono ?_
        rintro e w3 ⟨rfl, hb3⟩
        have hns : (⟨(noughts m).toArray⟩ : ByteArray).size = m := by rw [byte_size]; simp [noughts]
        have H3 := Lib.hid (below_trans H2.out hb3)
        clear hb3
        go_wp2_with fail
        refine (writeString_c w1.heap.size l ⟨(noughts m).toArray⟩ w3 (HR.out.1.below H3.out) (by have := HR.out.2.2.2.2; have := Hm.out; rw [hns]; omega)).mono ?_
        rintro e w4 ⟨rfl, hbt, hb4⟩
        have H4 := Lib.hid (And.intro hbt hb4)
        clear hbt hb4
        go_wp2_with fail
        refine (writeString_c w1.heap.size (l ++ noughts m) ⟨ds.toArray⟩ w4 H4.out.1 (by have := HR.out.2.2.2.2; have := Hm.out; rw [hsz]; simp [noughts]; omega)).mono ?_
        rintro e w5 ⟨rfl, hbt, hb5⟩
        have H5 := Lib.hid (And.intro hbt hb5)
        clear hbt hb5
        go_wp2_with fail
        go_roundw
        case rel =>
          have hjx := HX.out.2
          have hjk : bs.length - k = j + 1 := by omega
          refine ⟨k + 1, l ++ (noughts m ++ ds), by omega, by go_num, ?_, fun h => absurd h (by omega), fun _ => ?_, HR.out.2.2.2.1.trans ((H3.out.mono (Below.size HR.out.2.2.2.1)).trans (H4.out.2.trans H5.out.2)), ?_⟩
          · have := H5.out.1
            rw [List.append_assoc] at this
            exact this
          · have hd := HR.out.2.2.1 hp
            rw [hjk] at hd
            have := H1.out.2.1.step (by omega) HX.out.1 hd HDS.out
            rw [Hm.out] at this
            rw [show bs.length - (k + 1) = j by omega]
            exact this
          · have := HR.out.2.2.2.2
            have := Hm.out
            simp [noughts]; omega
        case measure => simp [intOf]; omega
    · obtain rfl : k = bs.length := by omega
      go_wp2_with fail
      refine (builderString_c w1.heap.size l wr HR.out.1).mono ?_
      rintro e w2 ⟨rfl, hb2⟩
      have H2 := Lib.hid hb2
      clear hb2
      go_wp2_with fail
      go_ret
      have hd := HR.out.2.2.1 hpos
      rw [Nat.sub_self, List.drop_zero, H1.out.2.1.2.2.1] at hd
      exact ⟨l, rfl, hd, below_trans H1.out.2.2 (HR.out.2.2.2.1.trans H2.out)⟩
end Go.Proofs.YtejkcmklhmifaaaGreatDoor

/- What divides two numbers. -/
namespace Go.Proofs.YtejkcmklhmifaaaGreatDoor
open Go Go.RowKit Go.Shelf

theorem gcd_step (x y : Nat) : Nat.gcd y (x % y) = Nat.gcd x y := by rw [Nat.gcd_comm x y, Nat.gcd_rec y x, Nat.gcd_comm]

set_option maxRecDepth 100000 in
set_option maxHeartbeats 1000000 in
theorem gcdSmall_c (w : World) (x y : Nat) (hx : x < two64) (hy : y < two64) :
    Calls Tryz.prog 157 #[.int .u64 x, .int .u64 y] w fun e w' => e = .returned (.int .u64 (Nat.gcd x y : Nat)) ∧ Below w.heap.size w w' := by
  have HX := Lib.hid (And.intro hx hy)
  clear hx hy
  go_enter Tryz.func157, Tryz.ntmps157
  go_wp2_with fail
  go_loopw [0, 1] (fun a b wr => ∃ u v nq : Nat, a = .int .u64 u ∧ b = .int .u64 v ∧ wr = w.drewN nq ∧ Hid (Nat.gcd u v = Nat.gcd x y ∧ u < two64 ∧ v < two64)) (fun _ b _ => (intOf b).toNat)
  case atStart => exact ⟨x, y, 0, rfl, rfl, rfl, rfl, HX.out⟩
  case round =>
    obtain ⟨u, v, nq, rfl, rfl, hw, H⟩ := hrel
    have hu := H.out.2.1
    have hv := H.out.2.2
    unfold two64 at hu hv
    have HW := Lib.hid hw
    clear hw
    rcases Nat.eq_zero_or_pos v with rfl | hp
    · have hfin : u = Nat.gcd x y := by rw [← H.out.1, Nat.gcd_zero_right]
      have HF := Lib.hid hfin
      clear hfin
      go_wp2_with fail
      go_ret
      refine ⟨?_, ?_⟩
      · show Ending.returned (.int .u64 (u : Int)) = _
        rw [HF.out]
      · rw [HW.out]; exact ⟨rfl, rfl, rfl, Nat.le_refl _, fun _ _ => rfl⟩
    · have hv0 : ¬ (v : Int) = 0 := by omega
      have hvb : ((v : Int) == 0) = false := by rw [beq_eq_false_iff_ne]; omega
      have hmi : (u : Int) % (v : Int) = ((u % v : Nat) : Int) := (Int.natCast_emod u v).symm
      have hml : u % v < v := Nat.mod_lt _ hp
      obtain ⟨r, hr⟩ : ∃ r, u % v = r := ⟨_, rfl⟩
      rw [hr] at hmi hml
      have Hr := Lib.hid hr
      clear hr
      go_wp2_with fail
      go_region
      all_goals
        go_wp2_with fail
        go_roundw
        case rel =>
          refine ⟨v, r, nq + 1, rfl, by rw [hmi], by rw [HW.out]; rfl, ?_, H.out.2.2, Nat.lt_trans hml H.out.2.2⟩
          rw [← Hr.out, gcd_step]; exact H.out.1
        case measure => simp [intOf]; omega

set_option maxRecDepth 100000 in
set_option maxHeartbeats 4000000 in
theorem gcd_c (w : World) (va vb : Value) (x y : Nat) (ha : Nm w va x) (hb : Nm w vb y) (hx : x < Lim) (hy : y < Lim) : Calls Tryz.prog 77 #[va, vb] w (RetN w (Nat.gcd x y)) := by
  have HA := Lib.hid (And.intro (And.intro ha hb) (And.intro hx hy))
  clear ha hb hx hy
  go_enter Tryz.func77, Tryz.ntmps77
  go_wp2_with fail
  go_loopg [0, 1] y (fun g a b wr => ∃ u : Nat, Hid (Nm wr a u ∧ Nm wr b g ∧ u < Lim ∧ g < Lim ∧ Nat.gcd u g = Nat.gcd x y ∧ Below w.heap.size w wr))
  case atStart => exact ⟨x, HA.out.1.1, HA.out.1.2, HA.out.2.1, HA.out.2.2, rfl, Below.refl _ _⟩
  case round =>
    obtain ⟨u, HR⟩ := hrel
    go_wp2_with fail
    refine (bits_n HR.out.2.1).mono ?_
    rintro e w1 ⟨nb, rfl, hnb, hb1⟩
    have H1 := Lib.hid (And.intro hnb hb1)
    clear hnb hb1
    rcases Nat.eq_zero_or_pos gk with hz | hp
    · have h0 : nb = 0 := isBits_none (by have := H1.out.1; rwa [hz] at this)
      subst h0
      have HZ := Lib.hid hz
      clear hz
      go_wp2_with fail
      refine (clone_n (HR.out.1.below H1.out.2)).mono ?_
      rintro e w2 ⟨v2, rfl, hv2, hb2⟩
      have H2 := Lib.hid (And.intro hv2 hb2)
      clear hv2 hb2
      go_wp2_with fail
      go_ret
      refine ⟨_, rfl, ?_, below_trans (below_trans HR.out.2.2.2.2.2 H1.out.2) H2.out.2⟩
      have := HR.out.2.2.2.2.1
      rw [HZ.out, Nat.gcd_zero_right] at this
      rw [← this]; exact H2.out.1
    · have h0 : 0 < nb := isBits_some H1.out.1 hp
      have hbp : decide ((nb : Int) > 0) = true := by rw [decide_eq_true_iff]; omega
      go_wp2_with fail
      refine (div_n (HR.out.1.below H1.out.2) (HR.out.2.1.below H1.out.2) hp HR.out.2.2.1).mono ?_
      rintro e w2 ⟨v2, v3, rfl, hv2, hv3, hb2⟩
      have H2 := Lib.hid (And.intro hv2 (And.intro hv3 hb2))
      clear hv2 hv3 hb2
      have hm : u % gk < gk := Nat.mod_lt _ hp
      have HM := Lib.hid hm
      clear hm
      rcases Nat.lt_or_ge gk 18446744073709551616 with hs | hs
      · have HS := Lib.hid hs
        clear hs
        go_wp2_with fail
        refine (small_n ((HR.out.2.1.below H1.out.2).below H2.out.2.2) HS.out).mono ?_
        rintro e w3 ⟨rfl, hb3⟩
        have H3 := Lib.hid hb3
        clear hb3
        go_wp2_with fail
        refine (small_n (H2.out.2.1.below H3.out) (Nat.lt_trans HM.out HS.out)).mono ?_
        rintro e w4 ⟨rfl, hb4⟩
        have H4 := Lib.hid hb4
        clear hb4
        go_wp2_with fail
        refine (gcdSmall_c w4 gk (u % gk) HS.out (Nat.lt_trans HM.out HS.out)).mono ?_
        rintro e w5 ⟨rfl, hb5⟩
        have H5 := Lib.hid hb5
        clear hb5
        have hg : Nat.gcd gk (u % gk) = Nat.gcd x y := by rw [gcd_step]; exact HR.out.2.2.2.2.1
        have hgl : Nat.gcd gk (u % gk) < 18446744073709551616 := Nat.lt_of_le_of_lt (Nat.gcd_le_left _ hp) HS.out
        have HG := Lib.hid (And.intro hg hgl)
        clear hg hgl
        go_wp2_with fail
        refine (of_n w5 _ HG.out.2).mono ?_
        rintro e w6 ⟨v6, rfl, hv6, hb6⟩
        have H6 := Lib.hid (And.intro hv6 hb6)
        clear hv6 hb6
        go_wp2_with fail
        go_ret
        refine ⟨_, rfl, by rw [← HG.out.1]; exact H6.out.1, ?_⟩
        exact below_trans (below_trans (below_trans (below_trans (below_trans (below_trans HR.out.2.2.2.2.2 H1.out.2) H2.out.2.2) H3.out) H4.out) H5.out) H6.out.2
      · have HS := Lib.hid hs
        clear hs
        go_wp2_with fail
        refine (small_big_n ((HR.out.2.1.below H1.out.2).below H2.out.2.2) HS.out).mono ?_
        rintro e w3 ⟨rfl, hb3⟩
        have H3 := Lib.hid hb3
        clear hb3
        go_wp2_with fail
        go_roundg (u % gk)
        case rel =>
          exact ⟨gk, ((HR.out.2.1.below H1.out.2).below H2.out.2.2).below H3.out, H2.out.2.1.below H3.out, HR.out.2.2.2.1, Nat.lt_trans HM.out HR.out.2.2.2.1, by rw [gcd_step]; exact HR.out.2.2.2.2.1, below_trans (below_trans (below_trans HR.out.2.2.2.2.2 H1.out.2) H2.out.2.2) H3.out⟩
        case measure => exact HM.out
end Go.Proofs.YtejkcmklhmifaaaGreatDoor

/- Layer 2's own numbers in words. -/
namespace Go.Proofs.YtejkcmklhmifaaaGreatDoor
open Go Go.RowKit Go.Shelf

instance (n : Nat) (l : List UInt8) : Decidable (Dec n l) := by unfold Dec; exact inferInstance
theorem text_is (w : World) (hT : Tab10 w) (va : Value) (n : Nat) (s : ByteArray) (hs : Dec n s.data.toList) (ha : Nm w va n) (hn : n < Lim) :
    Calls Tryz.prog 172 #[va] w fun e w' => e = .returned (.string s) ∧ Below w.heap.size w w' :=
  (text_c w hT va n ha hn).mono fun _ _ h => by
    obtain ⟨l, rfl, hd, hb⟩ := h
    rw [hd.eq hs]
    exact ⟨by cases s; rfl, hb⟩
/-- A number's digits, as they are written out. -/
theorem Nm.lit {w : World} {v : Value} {x : Nat} (h : Nm w v x) (zs : List Nat) (hC : Can 4294967296 zs) (hv : val 4294967296 zs = x) : ∃ A cap, v = .slice A zs.length cap ∧ Rd .u32 w (.slice A zs.length cap) zs := by
  obtain ⟨A, cap, us, rfl, h1, h2⟩ := h
  have e : us = zs := Can.eq h1.2.1 hC (by rw [h2, hv])
  subst e
  exact ⟨A, cap, rfl, h1.1⟩

end Go.Proofs.YtejkcmklhmifaaaGreatDoor
