/- Div: how often, and what is left. -/
import Derived.Test.YtlgfjgkcgimdoaaDoorDivShort
import Derived.OwnWalk
namespace Go.Proofs.YtlgfjgkcgimdoaaDoor
open Go Go.RowKit Go.Shelf

/-- What Div gives. -/
def DivPost (w : World) (x y : Nat) (e : Ending) (w' : World) : Prop :=
  Below w.heap.size w w' ∧ ((y = 0 ∧ e = .returned (.tuple #[.slice none 0 0, .slice none 0 0, .int .i64 10])) ∨ (0 < y ∧ Lim ≤ x ∧ e = .returned (.tuple #[.slice none 0 0, .slice none 0 0, .int .i64 11])) ∨
    (0 < y ∧ x < Lim ∧ ∃ v1 v2, e = .returned (.tuple #[v1, v2, .int .i64 0]) ∧ NumV w' v1 (x / y) ∧ NumV w' v2 (x % y)))

/-- What is asked of the long division. -/
def LongC : Prop := ∀ (w : World) (va vb : Value) (xs ys : List Nat), Rd .u32 w va xs → Rd .u32 w vb ys → Can 4294967296 xs → Can 4294967296 ys → xs.length ≤ 512 → 2 ≤ ys.length → ys.length ≤ xs.length →
  Calls Tryd.prog 55 #[va, vb] w (DivOut w (val 4294967296 xs) (val 4294967296 ys))

theorem can_lt {ps qs : List Nat} (ha : Can 4294967296 ps) (hb : Can 4294967296 qs) (hl : ps.length < qs.length) : val 4294967296 ps < val 4294967296 qs := by
  have h1 := val_lt ha.1
  have h2 := hb.ge (by intro e; rw [e] at hl; simp at hl)
  exact Nat.lt_of_lt_of_le h1 (Nat.le_trans (Nat.pow_le_pow_right (by omega) (by omega)) h2)
theorem one_digit {ys : List Nat} (h : ys.length = 1) (hC : Can 4294967296 ys) : ∃ d, ys = [d] ∧ 0 < d ∧ d < 4294967296 := by
  match ys, h with
  | [d], _ =>
    refine ⟨d, rfl, ?_, hC.1 d (by simp)⟩
    have := hC.2
    simp at this
    omega

set_option maxRecDepth 100000 in
set_option maxHeartbeats 2000000 in
theorem div_c (w : World) (va vb : Value) (xs ys : List Nat) (ha : Rd .u32 w va xs) (hb : Rd .u32 w vb ys) (hxs : ∀ x ∈ xs, x < 4294967296) (hys : ∀ x ∈ ys, x < 4294967296)
    (_hla : xs.length ≤ 1000000) (_hlb : ys.length ≤ 1000000) (hlong : 4294967296 ≤ val 4294967296 ys → LongC) :
    Calls Tryd.prog 38 #[va, vb] w (DivPost w (val 4294967296 xs) (val 4294967296 ys)) := by
  have C1 : Hid (Calls Tryd.prog 30 #[va] w fun e w1 => ∃ v1 us, e = .returned v1 ∧
      Hid (Calls Tryd.prog 30 #[vb] w1 fun e w2 => ∃ v2 vs, e = .returned v2 ∧
        Hid (Rd .u32 w2 v1 us ∧ Rd .u32 w2 v2 vs ∧ Can 4294967296 us ∧ Can 4294967296 vs ∧ val 4294967296 us = val 4294967296 xs ∧ val 4294967296 vs = val 4294967296 ys ∧ us.length ≤ xs.length ∧ vs.length ≤ ys.length ∧ Below w.heap.size w w2 ∧ (us.length = 0 → v1 = .slice none 0 0)))) := by
    refine (trim_nil w va xs ha hxs).mono ?_
    rintro e w1 ⟨v1, us, rfl, hR1, hC1, hv1, hl1, hB1, hn1⟩
    have hB1' : Below w.heap.size w w1 := hB1
    refine ⟨v1, us, rfl, (trim_num w1 vb ys (hb.below hB1') hys).mono ?_⟩
    rintro e w2 ⟨v2, vs, rfl, hR2, hC2, hv2, hl2, hB2⟩
    exact ⟨v2, vs, rfl, hR1.below hB2, hR2, hC1, hC2, hv1, hv2, hl1, hl2, hB1'.trans (hB2.mono hB1.size), hn1⟩
  have HL := Lib.hid hlong
  clear ha hb hxs hys hlong
  go_enter Tryd.func38, Tryd.ntmps38
  go_wp2_with fail
  refine C1.out.mono ?_
  clear C1
  rintro e w1 ⟨v1, us, rfl, C2⟩
  go_wp2_with fail
  refine C2.out.mono ?_
  clear C2
  rintro e w2 ⟨v2, vs, rfl, H⟩
  obtain ⟨hRu, hRv, hCu, hCv, hvu, hvv, hlu, hlv, hB, hn1⟩ := H.out
  obtain ⟨B1, d1, rfl, _⟩ := hRu.form
  obtain ⟨B2, d2, rfl, _⟩ := hRv.form
  have hsz := hB.size
  have hvs0 : vs.length ≠ 0 → 0 < val 4294967296 vs := fun h => hCv.pos (by omega) (by intro e; rw [e] at h; exact h rfl)
  by_cases hv0 : vs.length = 0
  · have hz : val 4294967296 ys = 0 := by rw [← hvv, List.eq_nil_of_length_eq_zero hv0]; rfl
    have Hz := Lib.hid hz
    have hd : ((vs.length : Int) == 0) = true := by rw [beq_iff_eq]; omega
    clear hRu hRv hCu hCv hvu hvv hlu hlv H hn1 hvs0 hz
    go_wp2
    go_ret3
    exact ⟨hB, .inl ⟨Hz.out, rfl⟩⟩
  have hd0 : ((vs.length : Int) == 0) = false := by rw [beq_eq_false_iff_ne]; omega
  have hpos : 0 < val 4294967296 ys := by rw [← hvv]; exact hvs0 hv0
  by_cases hbig : 512 < us.length
  · have hl := lim_le_of_len hCu hbig
    rw [hvu] at hl
    have Hl := Lib.hid (And.intro hpos hl)
    clear hRu hRv hCu hCv hvu hvv hlu hlv H hn1 hvs0 hpos hl
    go_wp2
    go_ret3
    exact ⟨hB, .inr (.inl ⟨Hl.out.1, Hl.out.2, rfl⟩)⟩
  have hlt := lim_of_len hCu.1 (by omega : us.length ≤ 512)
  rw [hvu] at hlt
  have hd1 : decide ((us.length : Int) > 512) = false := by rw [decide_eq_false_iff_not]; omega
  by_cases hsh : us.length < vs.length
  · have hq := can_lt hCu hCv hsh
    have hcl := clone_c w2 _ us hRu hn1 (by omega)
    have Hq := Lib.hid (And.intro hpos (And.intro hlt (And.intro hCu hvu)))
    rw [hvu, hvv] at hq
    have Hq2 := Lib.hid hq
    have hub := Lib.hid hCu.1
    clear hRu hRv hCu hCv hvu hvv hlu hlv H hn1 hvs0 hpos hlt hq
    go_wp2_with fail
    refine hcl.mono ?_
    rintro e w3 ⟨hB3, v3, rfl, hR3, _⟩
    have ht := trim_num w3 v3 us hR3 hub.out
    clear hcl hR3
    go_wp2_with fail
    refine ht.mono ?_
    rintro e w4 ⟨v4, zs, rfl, hR4, hC4, hv4, _, hB4⟩
    have H4 := Lib.hid (And.intro hR4 (And.intro hC4 hv4))
    clear ht hR4 hC4 hv4
    go_wp2
    go_ret3
    obtain ⟨hp, hlt, hCu, hvu⟩ := Hq.out
    refine ⟨hB.trans ((hB3.mono hsz).trans (hB4.mono (Nat.le_trans hsz hB3.size))), .inr (.inr ⟨hp, hlt, _, _, rfl, ?_, ?_⟩)⟩
    · rw [Nat.div_eq_of_lt Hq2.out]; exact NumV.nil _
    · rw [Nat.mod_eq_of_lt Hq2.out]; exact ⟨zs, H4.out.1, H4.out.2.1, H4.out.2.2.trans hvu⟩
  have hd2 : decide ((us.length : Int) < (vs.length : Int)) = false := by rw [decide_eq_false_iff_not]; omega
  by_cases hone : vs.length = 1
  · obtain ⟨d, rfl, hdp, hdb⟩ := one_digit hone hCv
    obtain ⟨b, off, rfl, hb⟩ := hRv.addr (by simp)
    have hcd : w2.cell? ⟨b, off, none⟩ = some (.int .u32 (d : Int)) := hRv.cell (j := 0) (x := d) rfl
    have hds := divideShort_c w2 _ us d hRu hCu.1 (by omega) hdb hdp
    have Hq := Lib.hid (And.intro hpos (And.intro hlt (And.intro hvu hvv)))
    have hd3 : (((([d] : List Nat).length : Nat) : Int) == 1) = true := rfl
    clear hRu hRv hCu hCv hvu hvv hlu hlv H hn1 hvs0 hpos hlt
    go_wp2_with fail
    refine hds.mono ?_
    rintro e w3 ⟨hB3, q, r, rfl, hq, hr⟩
    have HN := Lib.hid (And.intro hq hr)
    clear hds hcd hq hr
    go_wp2
    go_ret3
    obtain ⟨hp, hlt, hvu, hvv⟩ := Hq.out
    rw [hvu, show d = val 4294967296 ys by rw [← hvv]; simp] at HN
    exact ⟨hB.trans (hB3.mono hsz), .inr (.inr ⟨hp, hlt, _, _, rfl, HN.out.1, HN.out.2⟩)⟩
  have hd3 : ((vs.length : Int) == 1) = false := by rw [beq_eq_false_iff_ne]; omega
  have hlc := HL.out (by
    rw [← hvv]
    have h2 := hCv.ge (by intro e; rw [e] at hv0; exact hv0 rfl)
    exact Nat.le_trans (by omega) (Nat.le_trans (Nat.pow_le_pow_right (n := 4294967296) (by omega) (show 1 ≤ vs.length - 1 by omega)) h2)) w2 _ _ us vs hRu hRv hCu hCv (by omega) (by omega) (by omega)
  have Hq := Lib.hid (And.intro hpos (And.intro hlt (And.intro hvu hvv)))
  clear hRu hRv hCu hCv hvu hvv hlu hlv H hn1 hvs0 hpos hlt
  go_wp2_with fail
  refine hlc.mono ?_
  rintro e w3 ⟨hB3, q, r, rfl, hq, hr⟩
  have HN := Lib.hid (And.intro hq hr)
  clear hlc hq hr
  go_wp2
  go_ret3
  obtain ⟨hp, hlt, hvu, hvv⟩ := Hq.out
  rw [hvu, hvv] at HN
  exact ⟨hB.trans (hB3.mono hsz), .inr (.inr ⟨hp, hlt, _, _, rfl, HN.out.1, HN.out.2⟩)⟩
end Go.Proofs.YtlgfjgkcgimdoaaDoor
