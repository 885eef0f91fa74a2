/- A copy of a number's digits. -/
import Derived.Test.YtlgfjgkcgimdoaaDoorAdd
import Derived.OwnWalk
import Derived.Laws.AppendOwn
import Derived.Deep.AppendLies
namespace Go.Proofs.YtlgfjgkcgimdoaaDoor
open Go Go.RowKit

def Cloned (w : World) (zs : List Nat) (e : Ending) (w' : World) : Prop := Below w.heap.size w w' ∧ ∃ v, e = .returned v ∧ Rd .u32 w' v zs ∧ (zs.length = 0 → v = .slice none 0 0)

theorem add_zero_or (g j : Nat) : (⟨g, 0, none⟩ : Addr).add j = ⟨g, 0 + j, none⟩ := by
  unfold Addr.add
  split
  · rename_i h; subst h; rfl
  · rfl

set_option maxRecDepth 100000 in
set_option maxHeartbeats 1000000 in
theorem clone_c (w : World) (v : Value) (zs : List Nat) (hR : Rd .u32 w v zs) (hn : zs.length = 0 → v = .slice none 0 0) (hlen : zs.length ≤ 1000000) :
    Calls Tryd.prog 37 #[v] w (Cloned w zs) := by
  by_cases h0 : zs.length = 0
  · have hv := hn h0
    subst hv
    have hz : zs = [] := List.eq_nil_of_length_eq_zero h0
    subst hz
    have hnil := Lib.run_eql_slice_nil (P := Tryd.prog) w 23 57 none 0 0 0 0 Tryd.underlying23
    clear h0 hn
    go_enter Tryd.func37, Tryd.ntmps37
    go_wp2
    go_ret
    exact ⟨Below.refl _ _, _, rfl, Rd.nil _ _ _, fun _ => rfl⟩
  · obtain ⟨A, cap, rfl, hl⟩ := hR.form
    obtain ⟨b, off, rfl, hb⟩ := hR.addr (by omega)
    have hnil := Lib.run_eql_slice_nil (P := Tryd.prog) w 23 57 (some ⟨b, off, none⟩) zs.length cap 0 0 Tryd.underlying23
    obtain ⟨i0, hi, hz0, hz1, hz2⟩ := info_parts info_u32
    have hown := World.ownsRow_lit (e := 57) (size := 1) (base := w.heap.size) w #[] 0 (Nat.le_refl _) (by unfold maxLen; omega) rfl
    have Hn := Lib.hid h0
    have hpos : 0 < zs.length := by omega
    have c1 : (zs.map fun x : Nat => Value.int .u32 (x : Int)).length = zs.length * 1 := by simp
    have c2 : ∀ (j : Nat) (u : Value), (zs.map fun x : Nat => Value.int .u32 (x : Int))[j]? = some u → (w.alloc (.cells #[] 57)).cell? ((⟨b, off, none⟩ : Addr).add j) = some u := by
      intro j u hu
      rw [List.getElem?_map] at hu
      rcases hx : zs[j]? with _ | x
      · rw [hx] at hu; cases hu
      · rw [hx] at hu
        have hc := ((Below.refl w.heap.size w).alloc (Nat.le_refl _) (.cells #[] 57)).cell (p := ⟨b, off + j, none⟩) hb
        have e : (⟨b, off, none⟩ : Addr).add j = ⟨b, off + j, none⟩ := by
          unfold Addr.add
          split
          · rename_i h; subst h; rfl
          · rfl
        rw [e, hc, hR.cell hx]
        exact hu
    have c3 : ∀ u ∈ (zs.map fun x : Nat => Value.int .u32 (x : Int)), u.oneCell' = true := by
      intro u hu
      obtain ⟨x, _, rfl⟩ := List.mem_map.1 hu
      rfl
    have C4 : Hid (0 + zs.length ≤ maxLen) := by unfold Hid maxLen; omega
    have C5 : Hid ((0 + zs.length) * 4 ≤ 140737488355328) := by unfold Hid; omega
    have C6 : Hid (w.heap.size ≤ (w.alloc (.cells #[] 57)).heap.size) := by unfold Hid; simp
    have C1 := Lib.hid c1
    have C2 := Lib.hid c2
    have C3 := Lib.hid c3
    have Hi := Lib.hid hi
    have Hz0 := Lib.hid hz0
    have Hz1 := Lib.hid hz1
    have Hz2 := Lib.hid hz2
    have Hown := Lib.hid hown
    clear c1 c2 c3 hn h0 hi hz0 hz1 hz2 hown
    go_enter Tryd.func37, Tryd.ntmps37
    go_wp2_with (at_builtin; refine wpList_append_own _ rfl (.tmp 5) (.tmp 6) 23 rfl w.heap.size 57 i0 (.int .u32 0) 1 4 Tryd.underlying23 Hi.out Hz0.out Hz1.out Hz2.out rfl (by decide) _ 0 [] rfl Hown.out ⟨b, off, none⟩ zs.length cap (zs.map fun x : Nat => Value.int .u32 (x : Int)) rfl C1.out C2.out C3.out C4.out C5.out C6.out ?_; intro v' w' hown' hgrow _)
    have hb0 : Below w.heap.size w w' := ((Below.refl _ w).alloc (Nat.le_refl _) _).grown hgrow (by simp) (fun k e => by injection e with e; simp only at e; omega)
    rw [Nat.zero_add] at hown'
    obtain ⟨g, cap', rfl, hge, hglt⟩ := hown'.form hpos
    have hcells := hown'.cells (g := g) rfl
    have hcap' : zs.length ≤ cap' := by
      rcases hown'.2 with ⟨e, _⟩ | ⟨g2, cap2, cur, e, _, _, h, _⟩
      · cases e
      · injection e with _ _ e; omega
    go_ret
    refine ⟨hb0, _, rfl, ⟨_, cap', rfl, hcap', by omega, fun _ => ⟨g, 0, rfl, hglt, fun j x hx => ?_⟩⟩, fun h => absurd h Hn.out⟩
    have hj := hcells j (.int .u32 (x : Int)) (by simp [hx])
    rwa [add_zero_or] at hj
end Go.Proofs.YtlgfjgkcgimdoaaDoor
