/- WholeHeld: whatever comes in. -/
import Derived.Test.YtnncfbmddpijcaaGreatDoorWHOut
import Derived.Test.YtnncfbmddpijcaaGreatDoorWHeld
namespace Go.Proofs.YtnncfbmddpijcaaGreatDoor
open Go Go.RowKit Go.Shelf AM
theorem wholeHeld_law (w : World) (hG : Glob w) (v0 v1 : Value) (n2 : Int) (_ : -9223372036854775808 ≤ n2) (_ : n2 ≤ 9223372036854775807) (h0 : RatIn1L w v0) (h1 : RatsInL w v1) : Calls Tryz.prog 3 #[v0, v1, .int .i64 n2] w fun e w' => e = .returned (.bool true) ∧ Below w.heap.size w w' := by
  obtain ⟨a, ha, r0⟩ := h0
  obtain ⟨l, hl, r1⟩ := h1
  have hargs : All2 (RelS (fun _ => none) w) [v0, v1, .int .i64 n2] [lagS a, .cel (.ent (rowOf l.length (l.flatMap alC))), intS n2] := ⟨r0, r1, rfl, trivial⟩
  by_cases hn : 8 < l.length
  · exact law_in (WholeHeld_o1 hn) hG hargs
  by_cases hw : n2 < 2
  · exact law_in (WholeHeld_o2 (by omega) hw) hG hargs
  by_cases hw2 : n2 > 200
  · exact law_in (WholeHeld_o3 (by omega) hw hw2) hG hargs
  rcases first_or (G := fun (x : Ag) (q : Rat) => x.GoodL 3 q) (B := fun x => x.BadL 3) (a :: l) (fun x hx => Ag.casesL (by
    rcases List.mem_cons.1 hx with rfl | h
    · exact ha
    · exact hl x h)) with ⟨qs, hql, hq⟩ | ⟨j, z, hz, hb, hg⟩
  · match qs, hql with
    | q :: ts, hql =>
      have hts : ts.length = l.length := by simpa using hql
      have hq0 : a.GoodL 3 q := hq 0 a q rfl rfl
      have hqs : ∀ (j : Nat) (x : Ag) (t : Rat), l[j]? = some x → ts[j]? = some t → x.GoodL 3 t := fun j x t hx ht => hq (j + 1) x t (by simpa using hx) (by simpa using ht)
      have hbt : ∀ t ∈ ts, BQ 3 t := fun t ht => by
        obtain ⟨j, hj⟩ := List.getElem?_of_mem ht
        obtain ⟨x, hx⟩ : ∃ x, l[j]? = some x := ⟨_, List.getElem?_eq_getElem (by rw [← hts]; exact (List.getElem?_eq_some_iff.1 hj).1)⟩
        exact (hqs j x t hx hj).bq
      obtain ⟨b, rfl⟩ : ∃ b : Nat, n2 = (b : Int) := ⟨n2.toNat, by omega⟩
      have hrow : (rowOf l.length (ts.flatMap rqC)).holds w v1 := row_conv alC_len rqC_len (by omega) hts.symm (fun j x t hx ht => (hqs j x t hx ht).conv) r1
      exact law_in (WholeHeld_fit (n := l.length) rfl (mid_off (hor_hld l.length)) rfl rfl rfl rfl rfl rfl rfl rfl (by omega) hts hq0.bq hbt (by omega) (by omega)) hG ⟨hq0.rel r0, hrow, rfl, trivial⟩
  · exact law_in (WholeHeld_o4 rfl rfl (by omega) rfl hw hw2 hz hb hg) hG hargs
end Go.Proofs.YtnncfbmddpijcaaGreatDoor
