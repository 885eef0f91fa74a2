/- The document's answer: how often, and what is left: digit by digit, taken away again and again. -/
import Derived.Test.YtdaoechbaejjmaaDoorRefMul
import Derived.Test.YtdaoechbaejjmaaDoorRefCmp
import Derived.Test.YtdaoechbaejjmaaDoorRefAdd
import Derived.Deep.LoopGhost
namespace Go.Proofs.YtdaoechbaejjmaaDoor
open Go Go.RowKit Go.Shelf

theorem take_one {x R Y t : Nat} (h : R + t * Y = x) (hle : Y ≤ R) : R - Y + (t + 1) * Y = x := by
  rw [Nat.add_mul, Nat.one_mul]; omega
/-- A digit more of how often. -/
theorem often_step {B k : Nat} {qs : List Nat} {t Y R x V W : Nat} (hq : qs[k]? = some 0) (h0 : val B qs * Y + B ^ (k + 1) * V = B ^ (k + 1) * W) (h1 : R + t * Y = x + B * V) :
    val B (qs.set k t) * Y + B ^ k * R = B ^ k * (x + B * W) := by
  have h := val_set (B := B) (y := t) hq
  rw [Nat.mul_zero, Nat.add_zero] at h
  rw [h, Nat.add_mul, Nat.mul_add (B ^ k) x]
  rw [Nat.pow_succ, Nat.mul_assoc, Nat.mul_assoc] at h0
  have h2 := congrArg (B ^ k * ·) h1
  simp only [Nat.mul_add] at h2
  rw [Nat.mul_assoc]
  omega
theorem ord3_ge {x y : Nat} : decide (0 ≤ ord3 x y) = decide (y ≤ x) := by
  rw [decide_eq_decide]; unfold ord3
  split
  · omega
  · split <;> omega

/-- What Div of the document gives. -/
def DivRef (w : World) (x y n : Nat) (e : Ending) (w' : World) : Prop :=
  Below w.heap.size w w' ∧ ∃ A cap qs A2 cap2 rs, e = .returned (.tuple #[.slice A qs.length cap, .slice A2 rs.length cap2]) ∧ Rd .i64 w' (.slice A qs.length cap) qs ∧ Rd .i64 w' (.slice A2 rs.length cap2) rs ∧
    Can 256 qs ∧ Can 256 rs ∧ val 256 qs = x / y ∧ val 256 rs = x % y ∧ qs.length ≤ n ∧ rs.length ≤ n

/-- What is left so far: a number less than that by which is divided, in no block of the quotient. -/
def LeftI (w0 : World) (wr : World) (A : Option Addr) (cap : Nat) (rs : List Nat) : Prop :=
  Rd .i64 wr (.slice A rs.length cap) rs ∧ Can 256 rs ∧ (A = none → cap = 0) ∧ ∀ ad, A = some ad → w0.heap.size < ad.block

theorem Rd.news {k : IntKind} {w : World} {ad : Addr} {n c : Nat} {zs : List Nat} (h : Rd k w (.slice (some ad) n c) zs) : ∀ j u, (zs.map fun z : Nat => Value.int k (z : Int))[j]? = some u → w.cell? (ad.add j) = some u := by
  intro j u hu
  rw [List.getElem?_map] at hu
  rcases hz : zs[j]? with _ | z
  · rw [hz] at hu; cases hu
  · rw [hz] at hu
    injection hu with hu
    have hj := (List.getElem?_eq_some_iff.1 hz).1
    obtain ⟨b, off, e, _⟩ := h.addr (by omega)
    injection e with e
    subst e
    have e2 : (⟨b, off, none⟩ : Addr).add j = ⟨b, off + j, none⟩ := by
      unfold Addr.add
      split
      · rename_i e; subst e; rfl
      · rfl
    rw [e2, ← hu]
    exact h.cell hz
theorem mem_cons_lt {B x : Nat} {zs : List Nat} (hx : x < B) (h : ∀ z ∈ zs, z < B) : ∀ z ∈ x :: zs, z < B := fun z hz => by
  rcases List.mem_cons.1 hz with rfl | hz
  · exact hx
  · exact h z hz
theorem mem_set_lt' {zs : List Nat} {B i y : Nat} (h : ∀ x ∈ zs, x < B) (hy : y < B) : ∀ x ∈ zs.set i y, x < B := fun x hx => by
  rcases List.mem_or_eq_of_mem_set hx with h' | rfl
  · exact h x h'
  · exact hy
theorem set_same {xs : List Nat} {i x : Nat} (h : xs[i]? = some x) : xs.set i x = xs := by
  obtain ⟨hi, rfl⟩ := List.getElem?_eq_some_iff.1 h
  simp
theorem often_lt {t Y R x V : Nat} (h : R + t * Y = x + 256 * V) (hx : x < 256) (hV : V < Y) : t < 256 := by
  rcases Nat.lt_or_ge t 256 with h1 | h1
  · exact h1
  · have := Nat.mul_le_mul_right Y h1
    omega

set_option maxRecDepth 100000 in
set_option maxHeartbeats 4000000 in
theorem refDiv_c (w : World) (va vb : Value) (xs ys : List Nat) (ha : Rd .i64 w va xs) (hb : Rd .i64 w vb ys) (hxs : ∀ x ∈ xs, x < 256) (hys : Can 256 ys) (hpos : 0 < val 256 ys) (hla : xs.length ≤ 10000) (hlb : ys.length ≤ 10000) :
    Calls Tryd.prog 30 #[va, vb] w (DivRef w (val 256 xs) (val 256 ys) (xs.length + ys.length)) := by
  obtain ⟨A, cap, rfl, hcapa⟩ := ha.form
  obtain ⟨A2, cap2, rfl, hcapb⟩ := hb.form
  have hmk := make_ref xs.length (xs.length : Int) rfl (by omega)
  have HX := Lib.hid (And.intro hxs (And.intro hys (And.intro ha (And.intro hb hpos))))
  clear hxs hys ha hb hpos
  go_enter Tryd.func30, Tryd.ntmps30
  go_wp2_with fail
  have hO := Own.new w .i64 3 (List.replicate xs.length 0)
  have hB0 := (Below.refl w.heap.size w).alloc (Nat.le_refl _) (.cells (nums .i64 (List.replicate xs.length 0)) 3)
  have HO := Lib.hid (And.intro hO hB0)
  clear hmk hO hB0
  go_loopw [7, 8] (fun v i wr => ∃ (k : Nat) (qs rs : List Nat) (Ar : Option Addr) (cr : Nat), k ≤ xs.length ∧ i = .int .i64 ((k : Int) - 1) ∧ v = .slice Ar rs.length cr ∧ Hid (qs.length = xs.length ∧ (∀ z ∈ qs, z < 256) ∧ (∀ j z, j < k → qs[j]? = some z → z = 0) ∧
      val 256 qs * val 256 ys + 256 ^ k * val 256 rs = 256 ^ k * val 256 (xs.drop k) ∧ val 256 rs < val 256 ys ∧ LeftI w wr Ar cr rs ∧ Own .i64 3 wr w.heap.size qs ∧ Below w.heap.size w wr ∧ rs.length ≤ ys.length))
    (fun _ i _ => (intOf i + 1).toNat)
  case atStart =>
    refine ⟨xs.length, _, [], none, 0, Nat.le_refl _, by go_num, rfl, by simp, fun z hz => by have := List.eq_of_mem_replicate hz; omega, fun j z _ hz => List.eq_of_mem_replicate (List.mem_of_getElem? hz), by simp [val_replicate], HX.out.2.2.2.2, ⟨Rd.nil _ _ _, Can.nil _, fun _ => rfl, fun _ e => by cases e⟩, HO.out.1, HO.out.2, by simp⟩
  case round =>
    obtain ⟨k, qs, rs, Ar, cr, hk, rfl, rfl, H⟩ := hrel
    clear HO
    rcases Nat.eq_zero_or_pos k with rfl | hp
    · obtain ⟨h1, h2, h3, h4, h5, h6, h7, h8, h9⟩ := H.out
      simp only [Nat.pow_zero, Nat.one_mul, List.drop_zero] at h4
      have hdm := divmod_unique h4 h5
      have hrd := h7.whole (by omega)
      have hcut := cut_c wr (some ⟨w.heap.size, 0, none⟩) qs.length qs hrd h2 (by omega)
      rw [h1] at hcut
      have HC := Lib.hid hcut
      have HF := Lib.hid (And.intro hdm (And.intro h6 (And.intro h8 h9)))
      clear hcut h1 h2 h3 h4 h5 h6 h7 h8 h9 hrd hdm H
      go_wp2_with fail
      refine HC.out.mono ?_
      rintro e w' ⟨rfl, es, rfl, hr, hcn, hv, hl⟩
      have HE := Lib.hid (And.intro hr (And.intro hcn (And.intro hv hl)))
      clear hr hcn hv hl HC
      go_wp2_with fail
      go_ret2
      obtain ⟨hdm, h6, h8, h9⟩ := HF.out
      obtain ⟨hr, hcn, hv, hl⟩ := HE.out
      exact ⟨h8, _, _, es, Ar, cr, rs, rfl, hr, h6.1, hcn, h6.2.1, hv.trans hdm.1.symm, hdm.2.symm, by omega, by omega⟩
    · obtain ⟨i, rfl⟩ : ∃ i, k = i + 1 := ⟨k - 1, by omega⟩
      have e1 : ((i + 1 : Nat) : Int) - 1 = (i : Int) := by omega
      rw [e1]
      clear e1 hp
      obtain ⟨x, hx⟩ : ∃ x, xs[i]? = some x := ⟨_, List.getElem?_eq_getElem (by omega)⟩
      obtain ⟨b, off, rfl, hbl⟩ := HX.out.2.2.1.addr (by omega)
      have hc := (HX.out.2.2.1.below H.out.2.2.2.2.2.2.2.1).cell hx
      have hxb := get_lt HX.out.1 hx
      have Hx := Lib.hid hx
      have hi1 : (i : Int) < (xs.length : Int) := by omega
      clear hx
      obtain ⟨h1, h2, h3, h4, h5, h6, h7, h8, h9⟩ := H.out
      have hdrop : val 256 (xs.drop i) = x + 256 * val 256 (xs.drop (i + 1)) := by rw [drop_of_get Hx.out, val_cons]
      have hsz := h8.size
      have hob : ((wr.alloc (.cells #[.int .i64 (x : Int)] 3))).ownsRow wr.heap.size 3 1 (.slice (some ⟨wr.heap.size, 0, none⟩) 1 1) 1 [.int .i64 (x : Int)] :=
        ⟨rfl, .inr ⟨wr.heap.size, 1, #[.int .i64 (x : Int)], rfl, Nat.le_refl _, World.alloc_heap_new wr _, Nat.le_refl _, by decide, rfl, rfl⟩⟩
      obtain ⟨i0, hi, hz0, hz1, hz2⟩ := info_parts ref_info
      -- behind the append: a new row that holds x and what was left
      have after : ∀ v' w', w'.ownsRow wr.heap.size 3 1 v' (1 + rs.length) ([.int .i64 (x : Int)] ++ rs.map fun z : Nat => Value.int .i64 (z : Int)) → (wr.alloc (.cells #[.int .i64 (x : Int)] 3)).grownBy w' (some wr.heap.size) →
          (∃ Av cv, v' = .slice Av (x :: rs).length cv ∧ Rd .i64 w' (.slice Av (x :: rs).length cv) (x :: rs) ∧ Fresh wr.heap.size Av cv) ∧ Own .i64 3 w' w.heap.size qs ∧ Below w.heap.size w w' := by
        intro v' w' hown hg
        have hG : Grown .i64 3 wr.heap.size w' v' (x :: rs) := by
          unfold Grown
          rw [List.length_cons, Nat.add_comm]
          exact hown
        have hlt := h7.lt
        obtain ⟨Av, cv, rfl, hf⟩ := hG.form
        refine ⟨⟨Av, cv, rfl, hG.rd (by simp; omega), hf⟩, ?_, ?_⟩
        · exact (hg.block w.heap.size (by simp; omega) (fun e => by injection e with e; omega)).trans (h7.alloc _)
        · exact (h8.alloc (Nat.le_of_lt (by omega)) _).grown hg (by simp; omega) (fun r er => by injection er with er; omega)
      have HA := Lib.hid after
      have HH := Lib.hid (And.intro hob (And.intro hi (And.intro hz0 (And.intro hz1 (And.intro hz2 h6)))))
      have Hd := Lib.hid (And.intro hdrop hsz)
      clear after hob hi hz0 hz1 hz2 h1 h2 h3 h4 h5 h6 h7 h8 hdrop hsz
      have HR := Lib.hid (HX.out.2.2.2)
      obtain ⟨wo, hwo⟩ : ∃ wo : World, wo = wr := ⟨_, rfl⟩
      cases Ar with
      | none =>
        obtain rfl : cr = 0 := HH.out.2.2.2.2.2.2.2.1 rfl
        obtain rfl : rs = [] := by
          obtain ⟨_, _, e, h⟩ := HH.out.2.2.2.2.2.1.form
          injection e with _ _ e
          exact List.eq_nil_of_length_eq_zero (by omega)
        have HN := Lib.hid (HA.out (.slice (some ⟨wr.heap.size, 0, none⟩) 1 1) (wr.alloc (.cells #[.int .i64 (x : Int)] 3)) HH.out.1 (World.grownBy.refl _ _))
        go_wp2_with (at_builtin; refine wpList_append_own_none rfl (.tmp 23) (.tmp 24) 45 rfl wr.heap.size 3 i0 1 Tryd.underlying45 HH.out.2.1 _ 1 [.int .i64 (x : Int)] rfl HH.out.1 rfl ?_)
        obtain ⟨⟨Av, cv, e, hrd, hfr⟩, hO1, hB1⟩ := HN.out
        rw [e]
        clear e HN
        generalize wr.alloc (.cells #[.int .i64 (x : Int)] 3) = w1 at *
        go_wp2_with fail
        refine (cut_c w1 Av cv (x :: ([] : List Nat)) hrd (mem_cons_lt hxb HH.out.2.2.2.2.2.2.1.1) (by simp <;> omega)).mono ?_
        rintro e w' ⟨rfl, es, rfl, hr, hcn, hv, hl⟩
        have HE := Lib.hid (And.intro hr (And.intro hcn (And.intro hv (And.intro hl (And.intro hfr (And.intro hO1 hB1))))))
        clear hr hcn hv hl hfr hO1 hB1 hrd HA
        have Hq0 := Lib.hid (show qs[i]? = some 0 by
          obtain ⟨h1, _, h3, _⟩ := H.out
          have hz : qs[i]? = some qs[i] := List.getElem?_eq_getElem (by omega)
          rw [hz, h3 i _ (by omega) hz])
        go_wp2_with fail
        go_loopg [7] 256 (fun g v wq => ∃ (t : Nat) (ts : List Nat) (At : Option Addr) (ct : Nat), v = .slice At ts.length ct ∧ g + t = 256 ∧ Hid (val 256 ts + t * val 256 ys = x + 256 * val 256 ([] : List Nat) ∧ LeftI w wq At ct ts ∧ Own .i64 3 wq w.heap.size (qs.set i t) ∧ Below w.heap.size w wq ∧ ts.length ≤ 100000))
        case atStart =>
          obtain ⟨hr, hcn, hv, hl, hfr, hO1, hB1⟩ := HE.out
          have hlt := H.out.2.2.2.2.2.2.1.lt
          refine ⟨0, es, Av, cv, rfl, by omega, ?_, ⟨hr, hcn, hfr.1, fun ad e => Nat.lt_of_lt_of_le hlt (hfr.2 ad e)⟩, by rw [set_same Hq0.out]; exact hO1, hB1, by simp at hl; omega⟩
          rw [hv]; simp
        case round =>
          obtain ⟨t, ts, At, ct, rfl, hgt, H2⟩ := hrel
          have hti : t < 256 := often_lt (R := val 256 ts) H2.out.1 hxb H.out.2.2.2.2.1
          go_wp2_with fail
          refine (refCmp_c wr _ _ ts ys H2.out.2.1.1 (HR.out.1.below H2.out.2.2.2.1) H2.out.2.1.2.1.1 HX.out.2.1.1 (by have := H2.out.2.2.2.2; omega) (by omega)).mono ?_
          rintro e w2 ⟨rfl, rfl⟩
          have hge := ord3_ge (x := val 256 ts) (y := val 256 ys)
          by_cases hle : val 256 ys ≤ val 256 ts
          · rw [decide_eq_true hle] at hge
            have hge2 : 0 ≤ ord3 (val 256 ts) (val 256 ys) := of_decide_eq_true hge
            generalize ord3 (val 256 ts) (val 256 ys) = oo at hge hge2 ⊢
            have Hle := Lib.hid hle
            clear hle
            go_wp2_with fail
            refine (refSub_c wr _ _ ts ys H2.out.2.1.1 (HR.out.1.below H2.out.2.2.2.1) H2.out.2.1.2.1.1 HX.out.2.1 Hle.out (by have := H2.out.2.2.2.2; omega) (by omega)).mono ?_
            rintro e w3 ⟨hb3, A3, c3, us, rfl, hr3, hcn3, hv3, hl3, hf3⟩
            have hO3 := H2.out.2.2.1.below hb3 H2.out.2.2.1.lt
            have hqi : (qs.set i t)[i]? = some t := List.getElem?_set_self (by have := (List.getElem?_eq_some_iff.1 Hq0.out).1; omega)
            have hcg := hO3.cell hqi
            have hfg := hO3.frozen i
            have HU := Lib.hid (And.intro hb3 (And.intro hr3 (And.intro hcn3 (And.intro hv3 (And.intro hl3 (And.intro hf3 hO3))))))
            clear hb3 hr3 hcn3 hv3 hl3 hf3 hO3 hqi hge hge2
            go_wp2_with fail
            go_roundg (gk - 1)
            case rel =>
              obtain ⟨hb3, hr3, hcn3, hv3, hl3, hf3, hO3⟩ := HU.out
              have hlt := H2.out.2.2.1.lt
              have e1 : (t : Int) + 1 = ((t + 1 : Nat) : Int) := by omega
              rw [e1]
              refine ⟨t + 1, us, A3, c3, rfl, by omega, ?_, ⟨Rd.grown hr3 (Only.set (Only.refl w.heap.size w3) i _) ?_, hcn3, hf3.1, fun ad e => Nat.lt_of_lt_of_le hlt (hf3.2 ad e)⟩, ?_, (H2.out.2.2.2.1.trans (hb3.mono H2.out.2.2.2.1.size)).setCell (Nat.le_refl _) _, Nat.le_trans hl3 H2.out.2.2.2.2⟩
              · rw [hv3]; exact take_one H2.out.1 Hle.out
              · intro _ e
                cases A3 with
                | none => cases e
                | some ad => injection e with e; have := hf3.2 ad rfl; omega
              · have := hO3.set i (t + 1)
                rw [List.set_set] at this
                exact this
            case measure => omega
          · rw [decide_eq_false hle] at hge
            have hge2 : ¬ 0 ≤ ord3 (val 256 ts) (val 256 ys) := of_decide_eq_false hge
            generalize ord3 (val 256 ts) (val 256 ys) = oo at hge hge2 ⊢
            have Hle := Lib.hid (show val 256 ts < val 256 ys by omega)
            clear hle
            go_wp2_with fail
            go_roundw
            case rel =>
              obtain ⟨h1, h2, h3, h4, h5, h6, h7, h8, h9⟩ := H.out
              refine ⟨i, qs.set i t, ts, At, ct, by omega, by go_num, rfl, by simp [h1], mem_set_lt' h2 hti, ?_, ?_, Hle.out, H2.out.2.1, H2.out.2.2.1, H2.out.2.2.2.1, H2.out.2.1.2.1.len_le (by omega) (Nat.lt_trans Hle.out (val_lt HX.out.2.1.1))⟩
              · intro j z hj hz
                rw [List.getElem?_set_ne (by omega)] at hz
                exact h3 j z (by omega) hz
              · rw [Hd.out.1]
                exact often_step Hq0.out h4 H2.out.1
            case measure => simp [intOf]
      | some ar =>
        go_wp2_with (at_builtin; refine wpList_append_own _ rfl (.tmp 23) (.tmp 24) 45 rfl wr.heap.size 3 i0 (.int .i64 0) 1 8 Tryd.underlying45 HH.out.2.1 HH.out.2.2.1 HH.out.2.2.2.1 HH.out.2.2.2.2.1 rfl (by decide) _ 1 [.int .i64 (x : Int)] rfl HH.out.1 ar rs.length cr (rs.map fun z : Nat => Value.int .i64 (z : Int)) rfl (by simp) (HH.out.2.2.2.2.2.1.below ((Below.refl _ wr).alloc (Nat.le_refl _) _)).news (fun u hu => by obtain ⟨z, _, rfl⟩ := List.mem_map.1 hu; rfl) (by unfold maxLen; omega) (by omega) (by simp) ?_)
        intro vn w1 hown hg _
        obtain ⟨⟨Av, cv, rfl, hrd, hfr⟩, hO1, hB1⟩ := HA.out vn w1 hown hg
        clear hown hg
        go_wp2_with fail
        refine (cut_c w1 Av cv (x :: rs) hrd (mem_cons_lt hxb HH.out.2.2.2.2.2.2.1.1) (by simp <;> omega)).mono ?_
        rintro e w' ⟨rfl, es, rfl, hr, hcn, hv, hl⟩
        have HE := Lib.hid (And.intro hr (And.intro hcn (And.intro hv (And.intro hl (And.intro hfr (And.intro hO1 hB1))))))
        clear hr hcn hv hl hfr hO1 hB1 hrd HA
        have Hq0 := Lib.hid (show qs[i]? = some 0 by
          obtain ⟨h1, _, h3, _⟩ := H.out
          have hz : qs[i]? = some qs[i] := List.getElem?_eq_getElem (by omega)
          rw [hz, h3 i _ (by omega) hz])
        go_wp2_with fail
        go_loopg [7] 256 (fun g v wq => ∃ (t : Nat) (ts : List Nat) (At : Option Addr) (ct : Nat), v = .slice At ts.length ct ∧ g + t = 256 ∧ Hid (val 256 ts + t * val 256 ys = x + 256 * val 256 rs ∧ LeftI w wq At ct ts ∧ Own .i64 3 wq w.heap.size (qs.set i t) ∧ Below w.heap.size w wq ∧ ts.length ≤ 100000))
        case atStart =>
          obtain ⟨hr, hcn, hv, hl, hfr, hO1, hB1⟩ := HE.out
          have hlt := H.out.2.2.2.2.2.2.1.lt
          refine ⟨0, es, Av, cv, rfl, by omega, ?_, ⟨hr, hcn, hfr.1, fun ad e => Nat.lt_of_lt_of_le hlt (hfr.2 ad e)⟩, by rw [set_same Hq0.out]; exact hO1, hB1, by simp at hl; omega⟩
          rw [hv]; simp
        case round =>
          obtain ⟨t, ts, At, ct, rfl, hgt, H2⟩ := hrel
          have hti : t < 256 := often_lt (R := val 256 ts) H2.out.1 hxb H.out.2.2.2.2.1
          go_wp2_with fail
          refine (refCmp_c wr _ _ ts ys H2.out.2.1.1 (HR.out.1.below H2.out.2.2.2.1) H2.out.2.1.2.1.1 HX.out.2.1.1 (by have := H2.out.2.2.2.2; omega) (by omega)).mono ?_
          rintro e w2 ⟨rfl, rfl⟩
          have hge := ord3_ge (x := val 256 ts) (y := val 256 ys)
          by_cases hle : val 256 ys ≤ val 256 ts
          · rw [decide_eq_true hle] at hge
            have hge2 : 0 ≤ ord3 (val 256 ts) (val 256 ys) := of_decide_eq_true hge
            generalize ord3 (val 256 ts) (val 256 ys) = oo at hge hge2 ⊢
            have Hle := Lib.hid hle
            clear hle
            go_wp2_with fail
            refine (refSub_c wr _ _ ts ys H2.out.2.1.1 (HR.out.1.below H2.out.2.2.2.1) H2.out.2.1.2.1.1 HX.out.2.1 Hle.out (by have := H2.out.2.2.2.2; omega) (by omega)).mono ?_
            rintro e w3 ⟨hb3, A3, c3, us, rfl, hr3, hcn3, hv3, hl3, hf3⟩
            have hO3 := H2.out.2.2.1.below hb3 H2.out.2.2.1.lt
            have hqi : (qs.set i t)[i]? = some t := List.getElem?_set_self (by have := (List.getElem?_eq_some_iff.1 Hq0.out).1; omega)
            have hcg := hO3.cell hqi
            have hfg := hO3.frozen i
            have HU := Lib.hid (And.intro hb3 (And.intro hr3 (And.intro hcn3 (And.intro hv3 (And.intro hl3 (And.intro hf3 hO3))))))
            clear hb3 hr3 hcn3 hv3 hl3 hf3 hO3 hqi hge hge2
            go_wp2_with fail
            go_roundg (gk - 1)
            case rel =>
              obtain ⟨hb3, hr3, hcn3, hv3, hl3, hf3, hO3⟩ := HU.out
              have hlt := H2.out.2.2.1.lt
              have e1 : (t : Int) + 1 = ((t + 1 : Nat) : Int) := by omega
              rw [e1]
              refine ⟨t + 1, us, A3, c3, rfl, by omega, ?_, ⟨Rd.grown hr3 (Only.set (Only.refl w.heap.size w3) i _) ?_, hcn3, hf3.1, fun ad e => Nat.lt_of_lt_of_le hlt (hf3.2 ad e)⟩, ?_, (H2.out.2.2.2.1.trans (hb3.mono H2.out.2.2.2.1.size)).setCell (Nat.le_refl _) _, Nat.le_trans hl3 H2.out.2.2.2.2⟩
              · rw [hv3]; exact take_one H2.out.1 Hle.out
              · intro _ e
                cases A3 with
                | none => cases e
                | some ad => injection e with e; have := hf3.2 ad rfl; omega
              · have := hO3.set i (t + 1)
                rw [List.set_set] at this
                exact this
            case measure => omega
          · rw [decide_eq_false hle] at hge
            have hge2 : ¬ 0 ≤ ord3 (val 256 ts) (val 256 ys) := of_decide_eq_false hge
            generalize ord3 (val 256 ts) (val 256 ys) = oo at hge hge2 ⊢
            have Hle := Lib.hid (show val 256 ts < val 256 ys by omega)
            clear hle
            go_wp2_with fail
            go_roundw
            case rel =>
              obtain ⟨h1, h2, h3, h4, h5, h6, h7, h8, h9⟩ := H.out
              refine ⟨i, qs.set i t, ts, At, ct, by omega, by go_num, rfl, by simp [h1], mem_set_lt' h2 hti, ?_, ?_, Hle.out, H2.out.2.1, H2.out.2.2.1, H2.out.2.2.2.1, H2.out.2.1.2.1.len_le (by omega) (Nat.lt_trans Hle.out (val_lt HX.out.2.1.1))⟩
              · intro j z hj hz
                rw [List.getElem?_set_ne (by omega)] at hz
                exact h3 j z (by omega) hz
              · rw [Hd.out.1]
                exact often_step Hq0.out h4 H2.out.1
            case measure => simp [intOf]
end Go.Proofs.YtdaoechbaejjmaaDoor
