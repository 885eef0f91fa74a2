/- A copy of a row of whatever form; a point of it. -/
import Derived.Test.YtnnnmhjcnkipbaaGreatDoorSpFit
namespace Go.Proofs.YtnnnmhjcnkipbaaGreatDoor
open Go Go.RowKit Go.Shelf AM
set_option maxRecDepth 100000 in
set_option maxHeartbeats 1000000 in
theorem clone_l (w : World) (v : Value) (zs : List Nat) (hR : Rd .u32 w v zs) (hn : zs.length = 0 → v = .slice none 0 0) (hlen : zs.length ≤ 35184372088832) :
    Calls Tryz.prog 96 #[v] w (Cloned w zs) := by
  by_cases h0 : zs.length = 0
  · have hv := hn h0
    subst hv
    have hz : zs = [] := List.eq_nil_of_length_eq_zero h0
    subst hz
    have hnil := Lib.run_eql_slice_nil (P := Tryz.prog) w 23 126 none 0 0 0 0 Tryz.underlying23
    clear h0 hn
    go_enter Tryz.func96, Tryz.ntmps96
    go_wp2
    go_ret
    exact ⟨Below.refl _ _, _, rfl, Rd.nil _ _ _, fun _ => rfl⟩
  · obtain ⟨A, cap, rfl, hl⟩ := hR.form
    obtain ⟨b, off, rfl, hb⟩ := hR.addr (by omega)
    have hnil := Lib.run_eql_slice_nil (P := Tryz.prog) w 23 126 (some ⟨b, off, none⟩) zs.length cap 0 0 Tryz.underlying23
    obtain ⟨i0, hi, hz0, hz1, hz2⟩ := info_parts info_u32
    have hown := World.ownsRow_lit (e := 126) (size := 1) (base := w.heap.size) w #[] 0 (Nat.le_refl _) (by unfold maxLen; omega) rfl
    have Hn := Lib.hid h0
    have hpos : 0 < zs.length := by omega
    have c1 : (zs.map fun x : Nat => Value.int .u32 (x : Int)).length = zs.length * 1 := by simp
    have c2 : ∀ (j : Nat) (u : Value), (zs.map fun x : Nat => Value.int .u32 (x : Int))[j]? = some u → (w.alloc (.cells #[] 126)).cell? ((⟨b, off, none⟩ : Addr).add j) = some u := by
      intro j u hu
      rw [List.getElem?_map] at hu
      rcases hx : zs[j]? with _ | x
      · rw [hx] at hu; cases hu
      · rw [hx] at hu
        have hc := ((Below.refl w.heap.size w).alloc (Nat.le_refl _) (.cells #[] 126)).cell (p := ⟨b, off + j, none⟩) hb
        have e : (⟨b, off, none⟩ : Addr).add j = ⟨b, off + j, none⟩ := by
          unfold Addr.add
          split
          · rename_i h; subst h; rfl
          · rfl
        rw [e, hc, hR.cell hx]
        exact hu
    have c3 : ∀ u ∈ (zs.map fun x : Nat => Value.int .u32 (x : Int)), u.oneCell' = true := by
      intro u hu
      obtain ⟨x, _, rfl⟩ := List.mem_map.1 hu
      rfl
    have C4 : Hid (0 + zs.length ≤ maxLen) := by unfold Hid maxLen; omega
    have C5 : Hid ((0 + zs.length) * 4 ≤ 140737488355328) := by unfold Hid; omega
    have C6 : Hid (w.heap.size ≤ (w.alloc (.cells #[] 126)).heap.size) := by unfold Hid; simp
    have C1 := Lib.hid c1
    have C2 := Lib.hid c2
    have C3 := Lib.hid c3
    have Hi := Lib.hid hi
    have Hz0 := Lib.hid hz0
    have Hz1 := Lib.hid hz1
    have Hz2 := Lib.hid hz2
    have Hown := Lib.hid hown
    clear c1 c2 c3 hn h0 hi hz0 hz1 hz2 hown
    go_enter Tryz.func96, Tryz.ntmps96
    go_wp2_with (at_builtin; refine wpList_append_own _ rfl (.tmp 5) (.tmp 6) 23 rfl w.heap.size 126 i0 (.int .u32 0) 1 4 Tryz.underlying23 Hi.out Hz0.out Hz1.out Hz2.out rfl (by decide) _ 0 [] rfl Hown.out ⟨b, off, none⟩ zs.length cap (zs.map fun x : Nat => Value.int .u32 (x : Int)) rfl C1.out C2.out C3.out C4.out C5.out C6.out ?_; intro v' w' hown' hgrow _)
    have hb0 : Below w.heap.size w w' := ((Below.refl _ w).alloc (Nat.le_refl _) _).grown hgrow (by simp) (fun k e => by injection e with e; simp only at e; omega)
    rw [Nat.zero_add] at hown'
    obtain ⟨g, cap', rfl, hge, hglt⟩ := hown'.form hpos
    have hcells := hown'.cells (g := g) rfl
    have hcap' : zs.length ≤ cap' := by
      rcases hown'.2 with ⟨e, _⟩ | ⟨g2, cap2, cur, e, _, _, h, _⟩
      · cases e
      · injection e with _ _ e; omega
    go_ret
    refine ⟨hb0, _, rfl, ⟨_, cap', rfl, hcap', by omega, fun _ => ⟨g, 0, rfl, hglt, fun j x hx => ?_⟩⟩, fun h => absurd h Hn.out⟩
    have hj := hcells j (.int .u32 (x : Int)) (by simp [hx])
    rwa [add_zero_or] at hj

/-- A row of digits, whatever they are and however many. -/
def rowE (zs : List Nat) : Ent where
  holds w v := Rd .u32 w v zs
  len := some zs.length
  mono he hs h := h.ext he hs
  slice := by
    intro w v n h e
    injection e with e
    obtain ⟨A, c, rfl, _⟩ := h
    exact ⟨A, c, by rw [e]⟩
  cell := by
    intro w v h
    obtain ⟨A, c, rfl, _⟩ := h
    rfl
def adR (m : Bool) (xs : List Nat) (e : Int) : Sv := .agg [.raw (.bool m), .ent (rowE xs), .raw (.int .i64 e)]

theorem Rd.hide {W w' : World} {v : Value} {xs : List Nat} (h : Rd .u32 w' v xs) (hu : U32 W w') (hs : W.heap.size = w'.heap.size) : Rd .u32 W v xs := by
  obtain ⟨A', cap', e, h1, h2, h3⟩ := h
  refine ⟨A', cap', e, h1, h2, fun h0 => ?_⟩
  obtain ⟨b, off, rfl, hlt, hcell⟩ := h3 h0
  exact ⟨b, off, rfl, by omega, fun j x hx => hu _ _ _ rfl (hcell j x hx)⟩
theorem callClone : Callable Tryz.prog 96 := ⟨_, Tryz.func96, by kernel_rfl, by kernel_rfl⟩
/-- A copy of a row of digits. -/
theorem cloneR_f {xs : List Nat} (hl : xs.length ≤ 35184372088832) : FitsP 96 [.cel (.ent (rowE xs))] [] (.one (.cel (.ent (argE xs)))) := fits_of callClone fun β W w vals hp ha => by
  obtain ⟨u, rfl, h1⟩ := all2_1 ha
  have hR : Rd .u32 w u xs := Rd.ext (show Rd .u32 W u xs from h1) hp.2.1 (Nat.le_of_eq hp.1)
  rcases Nat.eq_zero_or_pos xs.length with h0 | h0
  · obtain rfl : xs = [] := List.eq_nil_of_length_eq_zero h0
    obtain ⟨A, c, rfl, _⟩ := hR
    refine (clone_empty w A c).mono fun _ _ h => ?_
    obtain ⟨v, he, ⟨A1, c1, zs, rfl, h2, h3⟩, hb⟩ := h
    have hz : zs = [] := (Can.eq h2.2.1 (Can.nil 4294967296) (by rw [h3]; rfl))
    subst hz
    exact ⟨_, he, hb, ⟨⟨A1, c1, rfl⟩, fun _ => Rd.hide h2.1 (hp.patch hb).1 (hp.patch hb).2⟩⟩
  · refine (clone_l w u xs hR (fun e => by omega) hl).mono fun _ _ h => ?_
    obtain ⟨hb, v, rfl, hr, _⟩ := h
    obtain ⟨A1, c1, e1, _⟩ := hr.form
    exact ⟨_, rfl, hb, ⟨⟨A1, c1, e1⟩, fun _ => Rd.hide hr (hp.patch hb).1 (hp.patch hb).2⟩⟩

set_option maxRecDepth 100000 in
theorem copiedR_f {m : Bool} {xs : List Nat} {e : Int} (hl : xs.length ≤ 35184372088832) : FitsP 147 [adR m xs e] [] (.one (.agg [.raw (.bool m), .ent (argE xs), .raw (.int .i64 e)])) := by
  have hT : AllOk Tryz.prog Glob [
    Tr.call 96 [Sv.cel (Cv.ent (rowE xs))] [] (Av.one (Sv.cel (Cv.ent (argE xs))))] := ⟨
    cloneR_f hl, trivial⟩
  exact fits_of_trace (n := 300) (k0 := 0) hT Tryz.func147 (by kernel_rfl) (by kernel_rfl) (by kernel_rfl)

set_option maxRecDepth 100000 in
theorem betweenR_f {m : Bool} {xs : List Nat} {e : Int} (hl : xs.length ≤ 35184372088832) : FitsP 91 [adR m xs e, adR m xs e] [] (.one (spA m xs e m xs e)) := by
  have hT : AllOk Tryz.prog Glob [
    Tr.call 147 [Sv.agg [Cv.raw (Value.bool m), Cv.ent (rowE xs), Cv.raw (Value.int IntKind.i64 e)]] [] (Av.one (Sv.agg [Cv.raw (Value.bool m), Cv.ent (argE xs), Cv.raw (Value.int IntKind.i64 e)])),
    Tr.call 147 [Sv.agg [Cv.raw (Value.bool m), Cv.ent (rowE xs), Cv.raw (Value.int IntKind.i64 e)]] [] (Av.one (Sv.agg [Cv.raw (Value.bool m), Cv.ent (argE xs), Cv.raw (Value.int IntKind.i64 e)]))] := ⟨
    copiedR_f hl,
    copiedR_f hl, trivial⟩
  exact fits_of_trace (n := 300) (k0 := 0) hT Tryz.func91 (by kernel_rfl) (by kernel_rfl) (by kernel_rfl)

set_option maxRecDepth 100000 in
theorem pointR_f {m : Bool} {xs : List Nat} {e : Int} (hl : xs.length ≤ 35184372088832) : FitsP 32 [adR m xs e] [] (.one (spA m xs e m xs e)) := by
  have hT : AllOk Tryz.prog Glob [
    Tr.call 91 [Sv.agg [Cv.raw (Value.bool m), Cv.ent (rowE xs), Cv.raw (Value.int IntKind.i64 e)], Sv.agg [Cv.raw (Value.bool m), Cv.ent (rowE xs), Cv.raw (Value.int IntKind.i64 e)]] [] (Av.one (Sv.agg [Cv.raw (Value.bool m), Cv.ent (argE xs), Cv.raw (Value.int IntKind.i64 e), Cv.raw (Value.bool m), Cv.ent (argE xs), Cv.raw (Value.int IntKind.i64 e)]))] := ⟨
    betweenR_f hl, trivial⟩
  exact fits_of_trace (n := 300) (k0 := 0) hT Tryz.func32 (by kernel_rfl) (by kernel_rfl) (by kernel_rfl)
end Go.Proofs.YtnnnmhjcnkipbaaGreatDoor
