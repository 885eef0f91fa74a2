
/- The long division. -/
import Derived.Test.YtnncfbmddpijcaaGreatDoorClone
import Derived.Test.YtnncfbmddpijcaaGreatDoorTake
import Derived.Test.YtnncfbmddpijcaaGreatDoorBits
import Derived.Test.YtnncfbmddpijcaaGreatDoorTrim
import Derived.Test.YtnncfbmddpijcaaGreatDoorNum
namespace Go.Proofs.YtnncfbmddpijcaaGreatDoor
open Go Go.RowKit Go.Shelf
attribute [local go_sem] Oper.semAt_some

theorem bits_len_32 {n x : Nat} (h : IsBits n x) (hx : x < 4294967296) : n ≤ 32 := by
  rcases h.2 with h1 | h1
  · omega
  · rcases Nat.lt_or_ge 32 n with h2 | h2
    · have := Nat.pow_le_pow_right (n := 2) (by omega) (show 32 ≤ n - 1 by omega)
      omega
    · exact h2
theorem lz_nat (W : World) (d s : Nat) (hd : d < 4294967296) (hs : s + Lib.bitLen d = 32) : Calls Tryz.prog 106 #[.int .u32 d] W fun e w' => e = .returned (.int .i64 (s : Int)) ∧ W = w' := by
  have h := lz32_c W d hd
  rw [show (32 - (Lib.bitLen d : Int)) = (s : Int) by omega] at h
  exact h
theorem via {n : Nat} {P : Program} {c : Code} {a : Act} {w : World} {Q : Exit → Act → World → Prop} (J : Act → World → Prop) (h : c.wpIn Fence.wide n P (onlyNormal J) a w) (hr : ∀ a' w', J a' w' → Q .normal a' w') : c.wpIn Fence.wide n P Q a w :=
  wpIn_mono h (fun e a w h => by cases e <;> first | exact hr _ _ h | exact h.elim)
theorem own_ne_box {k : IntKind} {t t' : TypeId} {w : World} {g B : Nat} {zs : List Nat} {v : Value} (h : Own k t w g zs) (hb : Boxed w B t' v) (ht : t ≠ t') : g ≠ B := by
  rintro rfl
  have := (show w.heap[g]? = _ from h).symm.trans hb
  injection this with this
  injection this with _ h1 _
  exact ht h1

/-- The top digit's noughts. -/
theorem lead_fits {ys : List Nat} {q d s : Nat} (hb : ∀ y ∈ ys, y < 4294967296) (hl : ys.length = q + 1) (hd : ys[q]? = some d) (hs : s + Lib.bitLen d = 32) : val 4294967296 ys * 2 ^ s < 4294967296 ^ ys.length := by
  have hdb := get_lt hb hd
  have h1 := (isBits_len (x := d) (by omega)).1
  have h2 := val_take_succ (B := 4294967296) hd
  rw [← hl, List.take_length] at h2
  have h3 := val_lt (B := 4294967296) (xs := ys.take q) fun y hy => hb y (List.mem_of_mem_take hy)
  have h4 : (ys.take q).length = q := by simp; omega
  rw [h4] at h3
  have h5 : val 4294967296 ys < 4294967296 ^ q * 2 ^ Lib.bitLen d := by
    rw [h2]
    have := Nat.mul_le_mul_left (4294967296 ^ q) (show d + 1 ≤ 2 ^ Lib.bitLen d from h1)
    rw [Nat.mul_add, Nat.mul_one] at this
    omega
  have h6 := Nat.mul_lt_mul_of_pos_right h5 (Nat.pow_pos (n := s) (show 0 < 2 by omega))
  rw [Nat.mul_assoc, ← Nat.pow_add, show Lib.bitLen d + s = 32 by omega] at h6
  rw [hl, Nat.pow_succ]
  exact h6

/-- What stands when both are shifted. -/
def LongJ (w : World) (va vb vd : Value) (d s q la lb X Y : Nat) (a : Act) (V : World) : Prop :=
  ∃ (Bl gl gs : Nat) (ls ss : List Nat), a = { tmps := #[va, vb, undef, .pointer (some ⟨w.heap.size, 0, none⟩), .slice none 0 0, .slice none 0 0, .int .i64 (s : Int), .pointer (some ⟨Bl, 0, none⟩), undef, undef, undef, undef,
      vb, vb, .int .i64 (lb : Int), .int .i64 (q : Int), vd, .int .u32 (d : Int), .int .i64 (s : Int), va, .int .i64 (s : Int), .slice (some ⟨gl, 0, none⟩) (la + 1) (la + 1), vb, .int .i64 (s : Int), .slice (some ⟨gs, 0, none⟩) (lb + 1) (lb + 1), .slice (some ⟨gs, 0, none⟩) lb lb, undef, undef, undef, undef, undef, undef, undef, undef, undef, undef, undef, undef, undef, undef, undef, undef, undef, undef, undef, undef, undef, undef, undef, undef, undef, undef, undef, undef, undef, undef, undef, undef, undef], defers := [] } ∧
    Hid (Below w.heap.size w V ∧ Boxed V w.heap.size 23 (.slice (some ⟨gs, 0, none⟩) lb lb) ∧ Boxed V Bl 23 (.slice (some ⟨gl, 0, none⟩) (la + 1) (la + 1)) ∧ Own .u32 85 V gl ls ∧ Own .u32 85 V gs ss ∧
      w.heap.size < Bl ∧ w.heap.size ≤ gl ∧ gl < gs ∧ ls.length = la + 1 ∧ (∀ x ∈ ls, x < 4294967296) ∧ val 4294967296 ls = X ∧ ss.length = lb + 1 ∧ val 4294967296 (ss.take lb) = Y ∧ Can 4294967296 (ss.take lb))
theorem boxed_below {w w' : World} {B : Nat} {t : TypeId} {v : Value} (h : Boxed w B t v) (hb : Below w.heap.size w w') : Boxed w' B t v := (hb.block B h.lt).trans h
theorem u32_ne_nat : 85 ≠ 23 := by decide
theorem long_fin {w W : World} {Bl gl gs la lb X Y : Nat} {vb : Value} {ls ss : List Nat} (hB : Below w.heap.size w W) (h3 : Boxed W w.heap.size 23 vb) (h1 : Own .u32 85 W gl ls) (h2 : Own .u32 85 W gs ss)
    (h7 : Boxed W Bl 23 (.slice none 0 0)) (hl : w.heap.size < Bl) (f2 : w.heap.size ≤ gl ∧ ls.length = la + 1 ∧ (∀ x ∈ ls, x < 4294967296) ∧ val 4294967296 ls = X) (f5 : gl < gs ∧ ss.length = lb + 1 ∧ (∀ x ∈ ss, x < 4294967296) ∧ val 4294967296 ss = Y)
    (f6 : val 4294967296 (ss.take lb) = Y ∧ Can 4294967296 (ss.take lb)) :
    Hid (Below w.heap.size w ((W.setCell ⟨Bl, 0, none⟩ (.slice (some ⟨gl, 0, none⟩) (la + 1) (la + 1))).setCell ⟨w.heap.size, 0, none⟩ (.slice (some ⟨gs, 0, none⟩) lb lb)) ∧
      Boxed ((W.setCell ⟨Bl, 0, none⟩ (.slice (some ⟨gl, 0, none⟩) (la + 1) (la + 1))).setCell ⟨w.heap.size, 0, none⟩ (.slice (some ⟨gs, 0, none⟩) lb lb)) w.heap.size 23 (.slice (some ⟨gs, 0, none⟩) lb lb) ∧
      Boxed ((W.setCell ⟨Bl, 0, none⟩ (.slice (some ⟨gl, 0, none⟩) (la + 1) (la + 1))).setCell ⟨w.heap.size, 0, none⟩ (.slice (some ⟨gs, 0, none⟩) lb lb)) Bl 23 (.slice (some ⟨gl, 0, none⟩) (la + 1) (la + 1)) ∧
      Own .u32 85 ((W.setCell ⟨Bl, 0, none⟩ (.slice (some ⟨gl, 0, none⟩) (la + 1) (la + 1))).setCell ⟨w.heap.size, 0, none⟩ (.slice (some ⟨gs, 0, none⟩) lb lb)) gl ls ∧
      Own .u32 85 ((W.setCell ⟨Bl, 0, none⟩ (.slice (some ⟨gl, 0, none⟩) (la + 1) (la + 1))).setCell ⟨w.heap.size, 0, none⟩ (.slice (some ⟨gs, 0, none⟩) lb lb)) gs ss ∧
      w.heap.size < Bl ∧ w.heap.size ≤ gl ∧ gl < gs ∧ ls.length = la + 1 ∧ (∀ x ∈ ls, x < 4294967296) ∧ val 4294967296 ls = X ∧ ss.length = lb + 1 ∧ val 4294967296 (ss.take lb) = Y ∧ Can 4294967296 (ss.take lb)) := by
  have n1 := own_ne_box h1 h3 u32_ne_nat
  have n2 := own_ne_box h1 h7 u32_ne_nat
  have n3 := own_ne_box h2 h3 u32_ne_nat
  have n4 := own_ne_box h2 h7 u32_ne_nat
  exact ⟨(hB.setCell (Nat.le_of_lt hl) _).setCell (Nat.le_refl _) _, Boxed.set _ (Boxed.far h3 (Nat.ne_of_lt hl) _), Boxed.far (Boxed.set _ h7) (Nat.ne_of_gt hl) _, (h1.far n2 _).far n1 _, (h2.far n4 _).far n3 _, hl, f2.1, f5.1, f2.2.1, f2.2.2.1, f2.2.2.2, f5.2.1, f6.1, f6.2⟩
/-- trim takes the one nought away. -/
theorem long_trim {lb Y gs n6 : Nat} {ss : List Nat} {v6 : Value} (hY : 4294967296 ^ (lb - 1) ≤ Y ∧ Y < 4294967296 ^ lb) (hlb : 2 ≤ lb) (hl : ss.length = lb + 1) (f : (∀ x ∈ ss, x < 4294967296) ∧ val 4294967296 ss = Y) (t1 : n6 ≤ ss.length)
    (t2 : n6 = 0 ∨ ∃ x, ss[n6 - 1]? = some x ∧ x ≠ 0) (t3 : ∀ (j x : Nat), n6 ≤ j → ss[j]? = some x → x = 0) (t5 : (n6 = 0 ∧ v6 = .slice none 0 0) ∨ v6 = .slice (some ⟨gs, 0, none⟩) n6 n6) :
    v6 = .slice (some ⟨gs, 0, none⟩) lb lb ∧ val 4294967296 (ss.take lb) = Y ∧ Can 4294967296 (ss.take lb) := by
  have hv := (val_take_zeros (B := 4294967296) t1 t3).trans f.2
  have hc := Can.take f.1 t1 t2
  have hlen : (ss.take n6).length = n6 := by simp; omega
  have h1 := hc.len_le (n := lb) (by omega) (by rw [hv]; exact hY.2)
  have h2 := hc.lt_len (n := lb - 1) (by omega) (by rw [hv]; exact hY.1)
  rw [hlen] at h1 h2
  obtain rfl : n6 = lb := by omega
  refine ⟨?_, hv, hc⟩
  rcases t5 with ⟨h, _⟩ | h
  · omega
  · exact h

/-- Between two rounds of the long division: the k last digits of how often are there. -/
def LongI (w : World) (Bl gl gs go n ll lb : Nat) (ss : List Nat) (V T : Nat) (k : Nat) (W : World) : Prop :=
  ∃ (ls os : List Nat), (ls.length = ll ∧ (∀ x ∈ ls, x < 4294967296) ∧ os.length = n ∧ (∀ x ∈ os, x < 4294967296) ∧ (∀ j z, j + k < n → os[j]? = some z → z = 0) ∧
      (∀ m, k + m = n → val 4294967296 ls < 4294967296 ^ m * V ∧ val 4294967296 (os.drop m) * (4294967296 ^ m * V) + val 4294967296 ls = T)) ∧
    Own .u32 85 W gl ls ∧ Own .u32 85 W gs ss ∧ Own .u32 85 W go os ∧ Boxed W w.heap.size 23 (.slice (some ⟨gs, 0, none⟩) lb lb) ∧ Boxed W Bl 23 (.slice (some ⟨gl, 0, none⟩) ll ll) ∧
    Boxed W (go + 1) 23 (.slice (some ⟨go, 0, none⟩) n n) ∧ Boxed W (go + 2) 23 (.slice (some ⟨go, 0, none⟩) n n) ∧ Below w.heap.size w W
/-- The round's own division. -/
theorem long_take {W : World} {gl gs i la lb V : Nat} {ls ss : List Nat} (hv : val 4294967296 ls < 4294967296 ^ (i + 1) * V) (hl : ls.length = la + 1) (hd : ∀ x ∈ ls, x < 4294967296) (h1 : Own .u32 85 W gl ls) (h2 : Own .u32 85 W gs ss)
    (hne : gl < gs) (hs : ss.length = lb + 1) (hlb : 2 ≤ lb) (hin : i + lb ≤ la) (hla : la ≤ 100000) (hsv : val 4294967296 (ss.take lb) = V) (hsc : Can 4294967296 (ss.take lb)) (hV : V < 4294967296 ^ lb) :
    Calls Tryz.prog 107 #[.slice (some ⟨gl, i, none⟩) (lb + 1) (la + 1 - i), .slice (some ⟨gs, 0, none⟩) lb lb] W.drew fun e w' =>
      ∃ (o : Nat) (ls' : List Nat), e = .returned (.int .u32 o) ∧ Only gl W.drew w' ∧ Hid (o < 4294967296 ∧ ls'.length = la + 1 ∧ (∀ x ∈ ls', x < 4294967296) ∧ Own .u32 85 w' gl ls' ∧ val 4294967296 ls' < 4294967296 ^ i * V ∧
        ∀ Q T : Nat, Q * (4294967296 ^ (i + 1) * V) + val 4294967296 ls = T → (o + 4294967296 * Q) * (4294967296 ^ i * V) + val 4294967296 ls' = T) := by
  have hsp := three_split ls i (lb + 1)
  have hp : (ls.take i).length = i := by simp; omega
  have hm : ((ls.drop i).take (lb + 1)).length = lb + 1 := by simp; omega
  have hbl : (ss.take lb).length = lb := by simp; omega
  have hv3 := val_three 4294967296 (ls.take i) ((ls.drop i).take (lb + 1)) (ls.drop (i + (lb + 1)))
  rw [hsp, hp, hm] at hv3
  have hhigh := long_high (lb := lb) hV (by rw [← hv3]; exact hv)
  have hR : Rd .u32 W.drew (.slice (some ⟨gs, 0, none⟩) (ss.take lb).length lb) (ss.take lb) := by
    have h := Own.rd (w := W.drew) (g := gs) h2 (off := 0) (n := lb) (cap := lb) (by omega) (Nat.le_refl _) (by omega)
    rw [List.drop_zero] at h
    rw [hbl]
    exact h
  have h := takeOut_c W.drew gl (la + 1 - i) (ls.take i) ((ls.drop i).take (lb + 1)) (ls.drop (i + (lb + 1))) (ss.take lb) gs 0 lb (by rw [hsp]; exact h1) (fun x hx => hd x (List.mem_of_mem_drop (List.mem_of_mem_take hx))) hR hsc (by omega) (by rw [Hid, hm, hbl]) (by omega) (by omega) (by omega) (by omega) (by rw [Hid, hsv]; exact hhigh.2)
  rw [hp, hbl, hsv] at h
  refine h.mono ?_
  rintro e w' ⟨o, m', rfl, ho, hml, hmb, hmv, hmlt, hO, hG⟩
  have hv4 := val_three 4294967296 (ls.take i) m' (ls.drop (i + (lb + 1)))
  rw [hp, hml, hm, hhigh.1, Nat.mul_zero, Nat.add_zero] at hv4
  rw [hhigh.1, Nat.mul_zero, Nat.add_zero] at hv3
  have hpl : val 4294967296 (ls.take i) < 4294967296 ^ i := by
    have := val_lt (B := 4294967296) (xs := ls.take i) fun x hx => hd x (List.mem_of_mem_take hx)
    rwa [hp] at this
  refine ⟨o, ls.take i ++ m' ++ ls.drop (i + (lb + 1)), rfl, hG, ho, by simp [hml, hm, hp]; omega, ?_, hO, by rw [hv4]; exact long_low hpl hmlt, fun Q T h => ?_⟩
  · intro x hx
    rcases List.mem_append.1 hx with hx | hx
    · rcases List.mem_append.1 hx with hx | hx
      · exact hd x (List.mem_of_mem_take hx)
      · exact hmb x hx
    · exact hd x (List.mem_of_mem_drop hx)
  · rw [hv4]
    exact long_round (by rw [← hv3]; exact h) hmv
theorem wrap_i64_nat' {z : Int} {n : Nat} (h : z = (n : Int)) (hn : n < 9223372036854775808) : IntKind.i64.wrap z = (n : Int) := by
  subst h
  simp [IntKind.wrap, IntKind.bits, IntKind.signed]
  omega
theorem boxed_only {w w' : World} {g B : Nat} {t : TypeId} {v : Value} (h : Boxed w B t v) (hg : Only g w.drew w') (hne : B ≠ g) : Boxed w' B t v := (hg.block B h.lt (fun e => hne (by injection e))).trans h
theorem only_keeps {k : IntKind} {t : TypeId} {w w' : World} {g : Nat} {zs : List Nat} (h : Own k t w g zs) (hg : Only g w w') : KeepsOthers w w' := KeepsOthers.of_grownBy hg fun j o e ho => by
  injection e with e
  subst e
  have := (show w.heap[g]? = _ from h).symm.trans ho
  injection this with this
  subst this
  rfl
theorem own_ne_own {k : IntKind} {t : TypeId} {w : World} {g g' : Nat} {zs ys : List Nat} (_ : Own k t w g zs) (_ : Own k t w g' ys) (h : g ≠ g') : g ≠ g' := h

set_option maxRecDepth 100000 in
set_option maxHeartbeats 16000000 in
theorem divideLong_c : LongC := by
  intro w va vb xs ys ha hb hxc hyc hla hlb hll
  obtain ⟨A, cap, rfl, hcap⟩ := ha.form
  obtain ⟨A2, cap2, rfl, hcap2⟩ := hb.form
  obtain ⟨bk, off, rfl, hbk⟩ := hb.addr (by omega)
  obtain ⟨q, hq⟩ : ∃ q, ys.length = q + 1 := ⟨ys.length - 1, by omega⟩
  obtain ⟨d, hd⟩ : ∃ d, ys[q]? = some d := ⟨_, List.getElem?_eq_getElem (by omega)⟩
  have hdb := get_lt hyc.1 hd
  have hd0 : d ≠ 0 := by
    intro e
    subst e
    apply hyc.2
    rw [List.getLast?_eq_getElem?, hq]
    exact hd
  obtain ⟨s, hs⟩ : ∃ s, s + Lib.bitLen d = 32 := ⟨32 - Lib.bitLen d, by
    have h := isBits_len (x := d) (by omega)
    have := bits_len_32 h hdb
    omega⟩
  have hs32 : s < 32 := by
    rcases Nat.eq_zero_or_pos (Lib.bitLen d) with h | h
    · have := (isBits_len (x := d) (by omega)).1
      rw [h] at this
      simp at this
      omega
    · omega
  have hcd : (w.alloc (.cells #[.slice (some ⟨bk, off, none⟩) ys.length cap2] 23)).cell? ⟨bk, off + q, none⟩ = some (.int .u32 (d : Int)) := (hb.below ((Below.refl _ w).alloc (Nat.le_refl _) _)).cell hd
  have hbox := (Boxed.new w 23 (.slice (some ⟨bk, off, none⟩) ys.length cap2)).cell
  have eq1 : (ys.length : Int) - 1 = (q : Int) := by omega
  have hql : (q : Int) < (ys.length : Int) := by omega
  have HLZ := Lib.hid (fun W => lz_nat W d s hdb hs)
  have hs0 : s / 32 = 0 := by omega
  have HS1 := Lib.hid (fun (W' : World) (hB : Below w.heap.size w W') => by
    have h := shifted_c W' _ xs s (ha.below hB) hxc.1 (by omega) (by omega)
    unfold Shifted at h
    rw [hs0] at h
    simp only [Nat.add_zero] at h
    exact h)
  have HS2 := Lib.hid (fun (W' : World) (hB : Below w.heap.size w W') => by
    have h := shifted_c W' _ ys s (hb.below hB) hyc.1 (by omega) (by omega)
    unfold Shifted at h
    rw [hs0] at h
    simp only [Nat.add_zero] at h
    exact h)
  have HT := Lib.hid (fun (W' : World) (gs : Nat) (ss : List Nat) (hO : Own .u32 85 W' gs ss) (hl : ss.length = ys.length + 1) (_ : ∀ x ∈ ss, x < 4294967296) => by
    have h := trim_at W' (some ⟨gs, 0, none⟩) ss.length ss (hO.whole (by omega))
    rw [hl] at h
    exact h)
  have hlb2 := hlb
  have HYs := Lib.hid (show 4294967296 ^ (ys.length - 1) ≤ val 4294967296 ys * 2 ^ s ∧ val 4294967296 ys * 2 ^ s < 4294967296 ^ ys.length from
    ⟨Nat.le_trans (hyc.ge (by intro e; rw [e] at hlb; simp at hlb)) (Nat.le_mul_of_pos_right _ (Nat.pow_pos (by omega))), lead_fits hyc.1 hq hd hs⟩)
  clear hs0
  have HX := Lib.hid (And.intro ha (And.intro hb (And.intro hxc (And.intro hyc (And.intro hd (And.intro hs hq))))))
  clear ha hb hxc hyc hd hs hq hd0
  refine (callsIn_wide (n := 6)).1 ?_
  refine callsIn_of_wp_marks Tryz.func94 rfl trivial ?_ rfl
  simp only [Tryz.ntmps94, List.size_toArray, List.length_cons, List.length_nil, Nat.reduceAdd, Nat.reduceSub, Array.replicate_succ, Array.replicate_zero, List.push_toArray, List.append_toArray, List.nil_append, List.cons_append]
  gi_wp2_with (refine ⟨trivial, ?_⟩; gi_at_call 106; refine (callsIn_wide.2 (HLZ.out _)).mono ?_; rintro e w' ⟨rfl, rfl⟩)
  clear hcd hbox
  have hmix : Tryz.prog.follows .mixedOrders = true := by kernel_rfl
  refine via (LongJ w (.slice A xs.length cap) (.slice (some ⟨bk, off, none⟩) ys.length cap2) (.pointer (some ⟨bk, off + q, none⟩)) d s q xs.length ys.length (val 4294967296 xs * 2 ^ s) (val 4294967296 ys * 2 ^ s)) ?_ ?_
  · refine region_wide (fun _ => True) hmix trivial (fun hHeld => ?_)
    have HB := Lib.hid (Below.drew ((Below.refl w.heap.size w).alloc (Nat.le_refl _) (.cells #[.slice (some ⟨bk, off, none⟩) ys.length cap2] 23)))
    have HX3 : Hid (Boxed (w.alloc (.cells #[.slice (some ⟨bk, off, none⟩) ys.length cap2] 23)).drew w.heap.size 23 (.slice (some ⟨bk, off, none⟩) ys.length cap2)) := Boxed.new w 23 (.slice (some ⟨bk, off, none⟩) ys.length cap2)
    generalize (w.alloc (.cells #[.slice (some ⟨bk, off, none⟩) ys.length cap2] 23)).drew = W0 at *
    refine wpAnyH_take (i := 0) (oi := _) (v := ?_) rfl (by kernel_rfl) (by kernel_rfl) (by kernel_rfl) (fun _ _ _ h => h) (Or.inl ⟨by rfl, ?_⟩) (by assumption) ?_
    rotate_left
    · (intro w hSw; (try dsimp only at hSw); go_simp <;> with_reducible rfl)
    try simp only [List.getElem_toArray, List.getElem_cons_zero, Act.put, List.setIfInBounds_toArray, List.set_cons_zero, List.set_cons_succ]
    refine wpAnyH_take (i := 1) (oi := _) (v := ?_) rfl (by kernel_rfl) (by kernel_rfl) (by kernel_rfl) (fun _ _ _ h => h) (Or.inl ⟨by rfl, ?_⟩) (by assumption) ?_
    rotate_left
    · (intro w hSw; (try dsimp only at hSw); go_simp <;> with_reducible rfl)
    try simp only [List.getElem_toArray, List.getElem_cons_zero, List.getElem_cons_succ, Act.put, List.setIfInBounds_toArray, List.set_cons_zero, List.set_cons_succ]
    refine wpAnyH_take (i := 4) (oi := _) (v := ?_) rfl (by kernel_rfl) (by kernel_rfl) (by kernel_rfl) (fun _ _ _ h => h) (Or.inl ⟨by rfl, ?_⟩) (by assumption) ?_
    rotate_left
    · (intro w hSw; (try dsimp only at hSw); go_simp <;> with_reducible rfl)
    try simp only [List.getElem_toArray, List.getElem_cons_zero, List.getElem_cons_succ, Act.put, List.setIfInBounds_toArray, List.set_cons_zero, List.set_cons_succ]
    refine wpAnyH_ready (rs := [2, 3, 7]) (by kernel_rfl) (by simp) (AllReadyH.cons rfl (fun K hK => ?_) (AllReadyH.cons rfl (fun K hK => ?_) (AllReadyH.cons rfl (fun K hK => ?_) AllReadyH.nil)))
    · go_simp
      refine (HS1.out _ HB.out).mono ?_
      rintro e W2 ⟨hb, gl, ls, rfl, hgl0, l1, l2, l3, ho⟩
      have hgl := Nat.le_trans (Below.size HB.out) hgl0
      clear hgl0
      have HB := Lib.hid (HB.out.trans (hb.mono (Below.size HB.out)))
      have HX3 := Lib.hid (boxed_below HX3.out hb)
      have HO1 := Lib.hid ho
      have H2 := Lib.hid (And.intro hgl (And.intro l1 (And.intro l2 l3)))
      clear hgl l1 l2 l3 ho
      dsimp only
      refine hK.out _ _ trivial (fun _ => ?_)
      clear hK K hb
      try simp only [List.getElem_toArray, List.getElem_cons_zero, List.getElem_cons_succ, Act.put, List.setIfInBounds_toArray, List.set_cons_zero, List.set_cons_succ]
      refine wpAnyH_ready (rs := [3, 7]) (by kernel_rfl) (by simp) (AllReadyH.cons rfl (fun K hK => ?_) (AllReadyH.cons rfl (fun K hK => ?_) AllReadyH.nil))
      · have hc3 := HX3.out.cell
        go_simp
        refine hK.out _ _ trivial (fun _ => ?_)
        clear hK K hc3
        try simp only [List.getElem_toArray, List.getElem_cons_zero, List.getElem_cons_succ, Act.put, List.setIfInBounds_toArray, List.set_cons_zero, List.set_cons_succ]
        refine wpAnyH_ready (rs := [5, 7]) (by kernel_rfl) (by simp) (AllReadyH.cons rfl (fun K hK => ?_) (AllReadyH.cons rfl (fun K hK => ?_) AllReadyH.nil))
        · go_simp
          refine (HS2.out _ HB.out).mono ?_
          rintro e W5 ⟨hb, gs, ss, rfl, hgs, l1, l2, l3, ho⟩
          have hgne := Nat.lt_of_lt_of_le HO1.out.lt hgs
          have HB := Lib.hid (HB.out.trans (hb.mono (Below.size HB.out)))
          have HX3 := Lib.hid (boxed_below HX3.out hb)
          have HO1 := Lib.hid (HO1.out.below hb HO1.out.lt)
          have HO2 := Lib.hid ho
          have H5 := Lib.hid (And.intro hgne (And.intro l1 (And.intro l2 l3)))
          clear hgs hgne l1 l2 l3 ho
          dsimp only
          refine hK.out _ _ trivial (fun _ => ?_)
          clear hK K hb
          try simp only [List.getElem_toArray, List.getElem_cons_zero, List.getElem_cons_succ, Act.put, List.setIfInBounds_toArray, List.set_cons_zero, List.set_cons_succ]
          refine wpAnyH_ready (rs := [6, 7]) (by kernel_rfl) (by simp) (AllReadyH.cons rfl (fun K hK => ?_) (AllReadyH.cons rfl (fun K hK => ?_) AllReadyH.nil))
          · go_simp
            refine (HT.out _ gs ss HO2.out H5.out.2.1 H5.out.2.2.1).mono ?_
            rintro e W6 ⟨v6, n6, rfl, t1, t2, t3, t4, hb, t5⟩
            obtain ⟨rfl, hval, hcan⟩ := long_trim HYs.out hlb2 H5.out.2.1 H5.out.2.2 t1 t2 t3 t5
            have HB := Lib.hid (HB.out.trans (hb.mono (Below.size HB.out)))
            have HX3 := Lib.hid (boxed_below HX3.out hb)
            have HO1 := Lib.hid (HO1.out.below hb HO1.out.lt)
            have HO2 := Lib.hid (HO2.out.below hb HO2.out.lt)
            have H6 := Lib.hid (And.intro hval hcan)
            clear t1 t2 t3 t4 t5 hval hcan
            dsimp only
            refine hK.out _ _ trivial (fun _ => ?_)
            clear hK K hb
            try simp only [List.getElem_toArray, List.getElem_cons_zero, List.getElem_cons_succ, Act.put, List.setIfInBounds_toArray, List.set_cons_zero, List.set_cons_succ]
            refine wpAnyH_ready (rs := [7]) (by kernel_rfl) (by simp) (AllReadyH.cons rfl (fun K hK => ?_) AllReadyH.nil)
            go_simp
            have hb := (Below.refl W6.heap.size W6).alloc (Nat.le_refl _) (.cells #[.slice none 0 0] 23)
            have h7 := Boxed.new W6 23 (.slice none 0 0)
            have HB7 := Lib.hid HX3.out.lt
            have HB := Lib.hid (HB.out.trans (hb.mono (Below.size HB.out)))
            have HX3 := Lib.hid (boxed_below HX3.out hb)
            have HO1 := Lib.hid (HO1.out.below hb HO1.out.lt)
            have HO2 := Lib.hid (HO2.out.below hb HO2.out.lt)
            have H7 := Lib.hid h7
            clear h7
            obtain ⟨Bl, hBl⟩ : ∃ Bl, Bl = W6.heap.size := ⟨_, rfl⟩
            rw [← hBl] at HB7 H7 ⊢
            generalize W6.alloc (.cells #[.slice none 0 0] 23) = W7 at *
            clear hBl
            refine hK.out _ _ trivial (fun _ => ?_)
            clear hK K hb
            try simp only [List.getElem_toArray, List.getElem_cons_zero, List.getElem_cons_succ, Act.put, List.setIfInBounds_toArray, List.set_cons_zero, List.set_cons_succ]
            refine wpAnyH_ready (rs := [8]) (by kernel_rfl) (by simp) (AllReadyH.cons rfl (fun K hK => ?_) AllReadyH.nil)
            have hf8 := H7.out.frozen
            have hc8 := H7.out.cell
            go_simp
            refine hK.out _ _ trivial (fun _ => ?_)
            clear hK K hf8 hc8
            try simp only [List.getElem_toArray, List.getElem_cons_zero, List.getElem_cons_succ, Act.put, List.setIfInBounds_toArray, List.set_cons_zero, List.set_cons_succ]
            refine wpAnyH_ready (rs := [9]) (by kernel_rfl) (by simp) (AllReadyH.cons rfl (fun K hK => ?_) AllReadyH.nil)
            have hf9 := HX3.out.frozen
            have hc9 := HX3.out.cell
            have hn9 : ¬ Bl = w.heap.size := by have := HB7.out; omega
            have hn9b : ¬ w.heap.size = Bl := by have := HB7.out; omega
            go_simp
            refine hK.out _ _ trivial (fun _ => ?_)
            clear hK K hf9 hc9 hn9 hn9b
            try simp only [List.getElem_toArray, List.getElem_cons_zero, List.getElem_cons_succ, Act.put, List.setIfInBounds_toArray, List.set_cons_zero, List.set_cons_succ]
            refine wpAnyH_done (by kernel_rfl) ?_ _
            simp only [onlyNormal]
            exact ⟨Bl, gl, gs, ls, ss, rfl, long_fin HB.out HX3.out HO1.out HO2.out H7.out HB7.out H2.out H5.out H6.out⟩
          · go_simp
            have hb := (Below.refl W5.heap.size W5).alloc (Nat.le_refl _) (.cells #[.slice none 0 0] 23)
            have h7 := Boxed.new W5 23 (.slice none 0 0)
            have HB7 := Lib.hid HX3.out.lt
            have HB := Lib.hid (HB.out.trans (hb.mono (Below.size HB.out)))
            have HX3 := Lib.hid (boxed_below HX3.out hb)
            have HO1 := Lib.hid (HO1.out.below hb HO1.out.lt)
            have HO2 := Lib.hid (HO2.out.below hb HO2.out.lt)
            have H7 := Lib.hid h7
            clear h7
            obtain ⟨Bl, hBl⟩ : ∃ Bl, Bl = W5.heap.size := ⟨_, rfl⟩
            rw [← hBl] at HB7 H7 ⊢
            generalize W5.alloc (.cells #[.slice none 0 0] 23) = W7 at *
            clear hBl
            refine hK.out _ _ trivial (fun _ => ?_)
            clear hK K hb
            try simp only [List.getElem_toArray, List.getElem_cons_zero, List.getElem_cons_succ, Act.put, List.setIfInBounds_toArray, List.set_cons_zero, List.set_cons_succ]
            refine wpAnyH_ready (rs := [6]) (by kernel_rfl) (by simp) (AllReadyH.cons rfl (fun K hK => ?_) AllReadyH.nil)
            go_simp
            refine (HT.out _ gs ss HO2.out H5.out.2.1 H5.out.2.2.1).mono ?_
            rintro e W6 ⟨v6, n6, rfl, t1, t2, t3, t4, hb, t5⟩
            obtain ⟨rfl, hval, hcan⟩ := long_trim HYs.out hlb2 H5.out.2.1 H5.out.2.2 t1 t2 t3 t5
            have HB := Lib.hid (HB.out.trans (hb.mono (Below.size HB.out)))
            have HX3 := Lib.hid (boxed_below HX3.out hb)
            have HO1 := Lib.hid (HO1.out.below hb HO1.out.lt)
            have HO2 := Lib.hid (HO2.out.below hb HO2.out.lt)
            have H7 := Lib.hid (boxed_below H7.out hb)
            have H6 := Lib.hid (And.intro hval hcan)
            clear t1 t2 t3 t4 t5 hval hcan
            dsimp only
            refine hK.out _ _ trivial (fun _ => ?_)
            clear hK K hb
            try simp only [List.getElem_toArray, List.getElem_cons_zero, List.getElem_cons_succ, Act.put, List.setIfInBounds_toArray, List.set_cons_zero, List.set_cons_succ]
            refine wpAnyH_ready (rs := [8]) (by kernel_rfl) (by simp) (AllReadyH.cons rfl (fun K hK => ?_) AllReadyH.nil)
            have hf8 := H7.out.frozen
            have hc8 := H7.out.cell
            go_simp
            refine hK.out _ _ trivial (fun _ => ?_)
            clear hK K hf8 hc8
            try simp only [List.getElem_toArray, List.getElem_cons_zero, List.getElem_cons_succ, Act.put, List.setIfInBounds_toArray, List.set_cons_zero, List.set_cons_succ]
            refine wpAnyH_ready (rs := [9]) (by kernel_rfl) (by simp) (AllReadyH.cons rfl (fun K hK => ?_) AllReadyH.nil)
            have hf9 := HX3.out.frozen
            have hc9 := HX3.out.cell
            have hn9 : ¬ Bl = w.heap.size := by have := HB7.out; omega
            have hn9b : ¬ w.heap.size = Bl := by have := HB7.out; omega
            go_simp
            refine hK.out _ _ trivial (fun _ => ?_)
            clear hK K hf9 hc9 hn9 hn9b
            try simp only [List.getElem_toArray, List.getElem_cons_zero, List.getElem_cons_succ, Act.put, List.setIfInBounds_toArray, List.set_cons_zero, List.set_cons_succ]
            refine wpAnyH_done (by kernel_rfl) ?_ _
            simp only [onlyNormal]
            exact ⟨Bl, gl, gs, ls, ss, rfl, long_fin HB.out HX3.out HO1.out HO2.out H7.out HB7.out H2.out H5.out H6.out⟩
        · go_simp
          have hb := (Below.refl W2.heap.size W2).alloc (Nat.le_refl _) (.cells #[.slice none 0 0] 23)
          have h7 := Boxed.new W2 23 (.slice none 0 0)
          have HB7 := Lib.hid HX3.out.lt
          have HB := Lib.hid (HB.out.trans (hb.mono (Below.size HB.out)))
          have HX3 := Lib.hid (boxed_below HX3.out hb)
          have HO1 := Lib.hid (HO1.out.below hb HO1.out.lt)
          have H7 := Lib.hid h7
          clear h7
          obtain ⟨Bl, hBl⟩ : ∃ Bl, Bl = W2.heap.size := ⟨_, rfl⟩
          rw [← hBl] at HB7 H7 ⊢
          generalize W2.alloc (.cells #[.slice none 0 0] 23) = W7 at *
          clear hBl
          refine hK.out _ _ trivial (fun _ => ?_)
          clear hK K hb
          try simp only [List.getElem_toArray, List.getElem_cons_zero, List.getElem_cons_succ, Act.put, List.setIfInBounds_toArray, List.set_cons_zero, List.set_cons_succ]
          refine wpAnyH_ready (rs := [5]) (by kernel_rfl) (by simp) (AllReadyH.cons rfl (fun K hK => ?_) AllReadyH.nil)
          go_simp
          refine (HS2.out _ HB.out).mono ?_
          rintro e W5 ⟨hb, gs, ss, rfl, hgs, l1, l2, l3, ho⟩
          have hgne := Nat.lt_of_lt_of_le HO1.out.lt hgs
          have HB := Lib.hid (HB.out.trans (hb.mono (Below.size HB.out)))
          have HX3 := Lib.hid (boxed_below HX3.out hb)
          have HO1 := Lib.hid (HO1.out.below hb HO1.out.lt)
          have H7 := Lib.hid (boxed_below H7.out hb)
          have HO2 := Lib.hid ho
          have H5 := Lib.hid (And.intro hgne (And.intro l1 (And.intro l2 l3)))
          clear hgs hgne l1 l2 l3 ho
          dsimp only
          refine hK.out _ _ trivial (fun _ => ?_)
          clear hK K hb
          try simp only [List.getElem_toArray, List.getElem_cons_zero, List.getElem_cons_succ, Act.put, List.setIfInBounds_toArray, List.set_cons_zero, List.set_cons_succ]
          refine wpAnyH_ready (rs := [6]) (by kernel_rfl) (by simp) (AllReadyH.cons rfl (fun K hK => ?_) AllReadyH.nil)
          go_simp
          refine (HT.out _ gs ss HO2.out H5.out.2.1 H5.out.2.2.1).mono ?_
          rintro e W6 ⟨v6, n6, rfl, t1, t2, t3, t4, hb, t5⟩
          obtain ⟨rfl, hval, hcan⟩ := long_trim HYs.out hlb2 H5.out.2.1 H5.out.2.2 t1 t2 t3 t5
          have HB := Lib.hid (HB.out.trans (hb.mono (Below.size HB.out)))
          have HX3 := Lib.hid (boxed_below HX3.out hb)
          have HO1 := Lib.hid (HO1.out.below hb HO1.out.lt)
          have HO2 := Lib.hid (HO2.out.below hb HO2.out.lt)
          have H7 := Lib.hid (boxed_below H7.out hb)
          have H6 := Lib.hid (And.intro hval hcan)
          clear t1 t2 t3 t4 t5 hval hcan
          dsimp only
          refine hK.out _ _ trivial (fun _ => ?_)
          clear hK K hb
          try simp only [List.getElem_toArray, List.getElem_cons_zero, List.getElem_cons_succ, Act.put, List.setIfInBounds_toArray, List.set_cons_zero, List.set_cons_succ]
          refine wpAnyH_ready (rs := [8]) (by kernel_rfl) (by simp) (AllReadyH.cons rfl (fun K hK => ?_) AllReadyH.nil)
          have hf8 := H7.out.frozen
          have hc8 := H7.out.cell
          go_simp
          refine hK.out _ _ trivial (fun _ => ?_)
          clear hK K hf8 hc8
          try simp only [List.getElem_toArray, List.getElem_cons_zero, List.getElem_cons_succ, Act.put, List.setIfInBounds_toArray, List.set_cons_zero, List.set_cons_succ]
          refine wpAnyH_ready (rs := [9]) (by kernel_rfl) (by simp) (AllReadyH.cons rfl (fun K hK => ?_) AllReadyH.nil)
          have hf9 := HX3.out.frozen
          have hc9 := HX3.out.cell
          have hn9 : ¬ Bl = w.heap.size := by have := HB7.out; omega
          have hn9b : ¬ w.heap.size = Bl := by have := HB7.out; omega
          go_simp
          refine hK.out _ _ trivial (fun _ => ?_)
          clear hK K hf9 hc9 hn9 hn9b
          try simp only [List.getElem_toArray, List.getElem_cons_zero, List.getElem_cons_succ, Act.put, List.setIfInBounds_toArray, List.set_cons_zero, List.set_cons_succ]
          refine wpAnyH_done (by kernel_rfl) ?_ _
          simp only [onlyNormal]
          exact ⟨Bl, gl, gs, ls, ss, rfl, long_fin HB.out HX3.out HO1.out HO2.out H7.out HB7.out H2.out H5.out H6.out⟩
      · go_simp
        have hb := (Below.refl W2.heap.size W2).alloc (Nat.le_refl _) (.cells #[.slice none 0 0] 23)
        have h7 := Boxed.new W2 23 (.slice none 0 0)
        have HB7 := Lib.hid HX3.out.lt
        have HB := Lib.hid (HB.out.trans (hb.mono (Below.size HB.out)))
        have HX3 := Lib.hid (boxed_below HX3.out hb)
        have HO1 := Lib.hid (HO1.out.below hb HO1.out.lt)
        have H7 := Lib.hid h7
        clear h7
        obtain ⟨Bl, hBl⟩ : ∃ Bl, Bl = W2.heap.size := ⟨_, rfl⟩
        rw [← hBl] at HB7 H7 ⊢
        generalize W2.alloc (.cells #[.slice none 0 0] 23) = W7 at *
        clear hBl
        refine hK.out _ _ trivial (fun _ => ?_)
        clear hK K hb
        try simp only [List.getElem_toArray, List.getElem_cons_zero, List.getElem_cons_succ, Act.put, List.setIfInBounds_toArray, List.set_cons_zero, List.set_cons_succ]
        refine wpAnyH_ready (rs := [3]) (by kernel_rfl) (by simp) (AllReadyH.cons rfl (fun K hK => ?_) AllReadyH.nil)
        have hc3 := HX3.out.cell
        go_simp
        refine hK.out _ _ trivial (fun _ => ?_)
        clear hK K hc3
        try simp only [List.getElem_toArray, List.getElem_cons_zero, List.getElem_cons_succ, Act.put, List.setIfInBounds_toArray, List.set_cons_zero, List.set_cons_succ]
        refine wpAnyH_ready (rs := [5]) (by kernel_rfl) (by simp) (AllReadyH.cons rfl (fun K hK => ?_) AllReadyH.nil)
        go_simp
        refine (HS2.out _ HB.out).mono ?_
        rintro e W5 ⟨hb, gs, ss, rfl, hgs, l1, l2, l3, ho⟩
        have hgne := Nat.lt_of_lt_of_le HO1.out.lt hgs
        have HB := Lib.hid (HB.out.trans (hb.mono (Below.size HB.out)))
        have HX3 := Lib.hid (boxed_below HX3.out hb)
        have HO1 := Lib.hid (HO1.out.below hb HO1.out.lt)
        have H7 := Lib.hid (boxed_below H7.out hb)
        have HO2 := Lib.hid ho
        have H5 := Lib.hid (And.intro hgne (And.intro l1 (And.intro l2 l3)))
        clear hgs hgne l1 l2 l3 ho
        dsimp only
        refine hK.out _ _ trivial (fun _ => ?_)
        clear hK K hb
        try simp only [List.getElem_toArray, List.getElem_cons_zero, List.getElem_cons_succ, Act.put, List.setIfInBounds_toArray, List.set_cons_zero, List.set_cons_succ]
        refine wpAnyH_ready (rs := [6]) (by kernel_rfl) (by simp) (AllReadyH.cons rfl (fun K hK => ?_) AllReadyH.nil)
        go_simp
        refine (HT.out _ gs ss HO2.out H5.out.2.1 H5.out.2.2.1).mono ?_
        rintro e W6 ⟨v6, n6, rfl, t1, t2, t3, t4, hb, t5⟩
        obtain ⟨rfl, hval, hcan⟩ := long_trim HYs.out hlb2 H5.out.2.1 H5.out.2.2 t1 t2 t3 t5
        have HB := Lib.hid (HB.out.trans (hb.mono (Below.size HB.out)))
        have HX3 := Lib.hid (boxed_below HX3.out hb)
        have HO1 := Lib.hid (HO1.out.below hb HO1.out.lt)
        have HO2 := Lib.hid (HO2.out.below hb HO2.out.lt)
        have H7 := Lib.hid (boxed_below H7.out hb)
        have H6 := Lib.hid (And.intro hval hcan)
        clear t1 t2 t3 t4 t5 hval hcan
        dsimp only
        refine hK.out _ _ trivial (fun _ => ?_)
        clear hK K hb
        try simp only [List.getElem_toArray, List.getElem_cons_zero, List.getElem_cons_succ, Act.put, List.setIfInBounds_toArray, List.set_cons_zero, List.set_cons_succ]
        refine wpAnyH_ready (rs := [8]) (by kernel_rfl) (by simp) (AllReadyH.cons rfl (fun K hK => ?_) AllReadyH.nil)
        have hf8 := H7.out.frozen
        have hc8 := H7.out.cell
        go_simp
        refine hK.out _ _ trivial (fun _ => ?_)
        clear hK K hf8 hc8
        try simp only [List.getElem_toArray, List.getElem_cons_zero, List.getElem_cons_succ, Act.put, List.setIfInBounds_toArray, List.set_cons_zero, List.set_cons_succ]
        refine wpAnyH_ready (rs := [9]) (by kernel_rfl) (by simp) (AllReadyH.cons rfl (fun K hK => ?_) AllReadyH.nil)
        have hf9 := HX3.out.frozen
        have hc9 := HX3.out.cell
        have hn9 : ¬ Bl = w.heap.size := by have := HB7.out; omega
        have hn9b : ¬ w.heap.size = Bl := by have := HB7.out; omega
        go_simp
        refine hK.out _ _ trivial (fun _ => ?_)
        clear hK K hf9 hc9 hn9 hn9b
        try simp only [List.getElem_toArray, List.getElem_cons_zero, List.getElem_cons_succ, Act.put, List.setIfInBounds_toArray, List.set_cons_zero, List.set_cons_succ]
        refine wpAnyH_done (by kernel_rfl) ?_ _
        simp only [onlyNormal]
        exact ⟨Bl, gl, gs, ls, ss, rfl, long_fin HB.out HX3.out HO1.out HO2.out H7.out HB7.out H2.out H5.out H6.out⟩
    · have hc3 := HX3.out.cell
      go_simp
      refine hK.out _ _ trivial (fun _ => ?_)
      clear hK K hc3
      try simp only [List.getElem_toArray, List.getElem_cons_zero, List.getElem_cons_succ, Act.put, List.setIfInBounds_toArray, List.set_cons_zero, List.set_cons_succ]
      refine wpAnyH_ready (rs := [2, 7]) (by kernel_rfl) (by simp) (AllReadyH.cons rfl (fun K hK => ?_) (AllReadyH.cons rfl (fun K hK => ?_) AllReadyH.nil))
      · go_simp
        refine (HS1.out _ HB.out).mono ?_
        rintro e W2 ⟨hb, gl, ls, rfl, hgl0, l1, l2, l3, ho⟩
        have hgl := Nat.le_trans (Below.size HB.out) hgl0
        clear hgl0
        have HB := Lib.hid (HB.out.trans (hb.mono (Below.size HB.out)))
        have HX3 := Lib.hid (boxed_below HX3.out hb)
        have HO1 := Lib.hid ho
        have H2 := Lib.hid (And.intro hgl (And.intro l1 (And.intro l2 l3)))
        clear hgl l1 l2 l3 ho
        dsimp only
        refine hK.out _ _ trivial (fun _ => ?_)
        clear hK K hb
        try simp only [List.getElem_toArray, List.getElem_cons_zero, List.getElem_cons_succ, Act.put, List.setIfInBounds_toArray, List.set_cons_zero, List.set_cons_succ]
        refine wpAnyH_ready (rs := [5, 7]) (by kernel_rfl) (by simp) (AllReadyH.cons rfl (fun K hK => ?_) (AllReadyH.cons rfl (fun K hK => ?_) AllReadyH.nil))
        · go_simp
          refine (HS2.out _ HB.out).mono ?_
          rintro e W5 ⟨hb, gs, ss, rfl, hgs, l1, l2, l3, ho⟩
          have hgne := Nat.lt_of_lt_of_le HO1.out.lt hgs
          have HB := Lib.hid (HB.out.trans (hb.mono (Below.size HB.out)))
          have HX3 := Lib.hid (boxed_below HX3.out hb)
          have HO1 := Lib.hid (HO1.out.below hb HO1.out.lt)
          have HO2 := Lib.hid ho
          have H5 := Lib.hid (And.intro hgne (And.intro l1 (And.intro l2 l3)))
          clear hgs hgne l1 l2 l3 ho
          dsimp only
          refine hK.out _ _ trivial (fun _ => ?_)
          clear hK K hb
          try simp only [List.getElem_toArray, List.getElem_cons_zero, List.getElem_cons_succ, Act.put, List.setIfInBounds_toArray, List.set_cons_zero, List.set_cons_succ]
          refine wpAnyH_ready (rs := [6, 7]) (by kernel_rfl) (by simp) (AllReadyH.cons rfl (fun K hK => ?_) (AllReadyH.cons rfl (fun K hK => ?_) AllReadyH.nil))
          · go_simp
            refine (HT.out _ gs ss HO2.out H5.out.2.1 H5.out.2.2.1).mono ?_
            rintro e W6 ⟨v6, n6, rfl, t1, t2, t3, t4, hb, t5⟩
            obtain ⟨rfl, hval, hcan⟩ := long_trim HYs.out hlb2 H5.out.2.1 H5.out.2.2 t1 t2 t3 t5
            have HB := Lib.hid (HB.out.trans (hb.mono (Below.size HB.out)))
            have HX3 := Lib.hid (boxed_below HX3.out hb)
            have HO1 := Lib.hid (HO1.out.below hb HO1.out.lt)
            have HO2 := Lib.hid (HO2.out.below hb HO2.out.lt)
            have H6 := Lib.hid (And.intro hval hcan)
            clear t1 t2 t3 t4 t5 hval hcan
            dsimp only
            refine hK.out _ _ trivial (fun _ => ?_)
            clear hK K hb
            try simp only [List.getElem_toArray, List.getElem_cons_zero, List.getElem_cons_succ, Act.put, List.setIfInBounds_toArray, List.set_cons_zero, List.set_cons_succ]
            refine wpAnyH_ready (rs := [7]) (by kernel_rfl) (by simp) (AllReadyH.cons rfl (fun K hK => ?_) AllReadyH.nil)
            go_simp
            have hb := (Below.refl W6.heap.size W6).alloc (Nat.le_refl _) (.cells #[.slice none 0 0] 23)
            have h7 := Boxed.new W6 23 (.slice none 0 0)
            have HB7 := Lib.hid HX3.out.lt
            have HB := Lib.hid (HB.out.trans (hb.mono (Below.size HB.out)))
            have HX3 := Lib.hid (boxed_below HX3.out hb)
            have HO1 := Lib.hid (HO1.out.below hb HO1.out.lt)
            have HO2 := Lib.hid (HO2.out.below hb HO2.out.lt)
            have H7 := Lib.hid h7
            clear h7
            obtain ⟨Bl, hBl⟩ : ∃ Bl, Bl = W6.heap.size := ⟨_, rfl⟩
            rw [← hBl] at HB7 H7 ⊢
            generalize W6.alloc (.cells #[.slice none 0 0] 23) = W7 at *
            clear hBl
            refine hK.out _ _ trivial (fun _ => ?_)
            clear hK K hb
            try simp only [List.getElem_toArray, List.getElem_cons_zero, List.getElem_cons_succ, Act.put, List.setIfInBounds_toArray, List.set_cons_zero, List.set_cons_succ]
            refine wpAnyH_ready (rs := [8]) (by kernel_rfl) (by simp) (AllReadyH.cons rfl (fun K hK => ?_) AllReadyH.nil)
            have hf8 := H7.out.frozen
            have hc8 := H7.out.cell
            go_simp
            refine hK.out _ _ trivial (fun _ => ?_)
            clear hK K hf8 hc8
            try simp only [List.getElem_toArray, List.getElem_cons_zero, List.getElem_cons_succ, Act.put, List.setIfInBounds_toArray, List.set_cons_zero, List.set_cons_succ]
            refine wpAnyH_ready (rs := [9]) (by kernel_rfl) (by simp) (AllReadyH.cons rfl (fun K hK => ?_) AllReadyH.nil)
            have hf9 := HX3.out.frozen
            have hc9 := HX3.out.cell
            have hn9 : ¬ Bl = w.heap.size := by have := HB7.out; omega
            have hn9b : ¬ w.heap.size = Bl := by have := HB7.out; omega
            go_simp
            refine hK.out _ _ trivial (fun _ => ?_)
            clear hK K hf9 hc9 hn9 hn9b
            try simp only [List.getElem_toArray, List.getElem_cons_zero, List.getElem_cons_succ, Act.put, List.setIfInBounds_toArray, List.set_cons_zero, List.set_cons_succ]
            refine wpAnyH_done (by kernel_rfl) ?_ _
            simp only [onlyNormal]
            exact ⟨Bl, gl, gs, ls, ss, rfl, long_fin HB.out HX3.out HO1.out HO2.out H7.out HB7.out H2.out H5.out H6.out⟩
          · go_simp
            have hb := (Below.refl W5.heap.size W5).alloc (Nat.le_refl _) (.cells #[.slice none 0 0] 23)
            have h7 := Boxed.new W5 23 (.slice none 0 0)
            have HB7 := Lib.hid HX3.out.lt
            have HB := Lib.hid (HB.out.trans (hb.mono (Below.size HB.out)))
            have HX3 := Lib.hid (boxed_below HX3.out hb)
            have HO1 := Lib.hid (HO1.out.below hb HO1.out.lt)
            have HO2 := Lib.hid (HO2.out.below hb HO2.out.lt)
            have H7 := Lib.hid h7
            clear h7
            obtain ⟨Bl, hBl⟩ : ∃ Bl, Bl = W5.heap.size := ⟨_, rfl⟩
            rw [← hBl] at HB7 H7 ⊢
            generalize W5.alloc (.cells #[.slice none 0 0] 23) = W7 at *
            clear hBl
            refine hK.out _ _ trivial (fun _ => ?_)
            clear hK K hb
            try simp only [List.getElem_toArray, List.getElem_cons_zero, List.getElem_cons_succ, Act.put, List.setIfInBounds_toArray, List.set_cons_zero, List.set_cons_succ]
            refine wpAnyH_ready (rs := [6]) (by kernel_rfl) (by simp) (AllReadyH.cons rfl (fun K hK => ?_) AllReadyH.nil)
            go_simp
            refine (HT.out _ gs ss HO2.out H5.out.2.1 H5.out.2.2.1).mono ?_
            rintro e W6 ⟨v6, n6, rfl, t1, t2, t3, t4, hb, t5⟩
            obtain ⟨rfl, hval, hcan⟩ := long_trim HYs.out hlb2 H5.out.2.1 H5.out.2.2 t1 t2 t3 t5
            have HB := Lib.hid (HB.out.trans (hb.mono (Below.size HB.out)))
            have HX3 := Lib.hid (boxed_below HX3.out hb)
            have HO1 := Lib.hid (HO1.out.below hb HO1.out.lt)
            have HO2 := Lib.hid (HO2.out.below hb HO2.out.lt)
            have H7 := Lib.hid (boxed_below H7.out hb)
            have H6 := Lib.hid (And.intro hval hcan)
            clear t1 t2 t3 t4 t5 hval hcan
            dsimp only
            refine hK.out _ _ trivial (fun _ => ?_)
            clear hK K hb
            try simp only [List.getElem_toArray, List.getElem_cons_zero, List.getElem_cons_succ, Act.put, List.setIfInBounds_toArray, List.set_cons_zero, List.set_cons_succ]
            refine wpAnyH_ready (rs := [8]) (by kernel_rfl) (by simp) (AllReadyH.cons rfl (fun K hK => ?_) AllReadyH.nil)
            have hf8 := H7.out.frozen
            have hc8 := H7.out.cell
            go_simp
            refine hK.out _ _ trivial (fun _ => ?_)
            clear hK K hf8 hc8
            try simp only [List.getElem_toArray, List.getElem_cons_zero, List.getElem_cons_succ, Act.put, List.setIfInBounds_toArray, List.set_cons_zero, List.set_cons_succ]
            refine wpAnyH_ready (rs := [9]) (by kernel_rfl) (by simp) (AllReadyH.cons rfl (fun K hK => ?_) AllReadyH.nil)
            have hf9 := HX3.out.frozen
            have hc9 := HX3.out.cell
            have hn9 : ¬ Bl = w.heap.size := by have := HB7.out; omega
            have hn9b : ¬ w.heap.size = Bl := by have := HB7.out; omega
            go_simp
            refine hK.out _ _ trivial (fun _ => ?_)
            clear hK K hf9 hc9 hn9 hn9b
            try simp only [List.getElem_toArray, List.getElem_cons_zero, List.getElem_cons_succ, Act.put, List.setIfInBounds_toArray, List.set_cons_zero, List.set_cons_succ]
            refine wpAnyH_done (by kernel_rfl) ?_ _
            simp only [onlyNormal]
            exact ⟨Bl, gl, gs, ls, ss, rfl, long_fin HB.out HX3.out HO1.out HO2.out H7.out HB7.out H2.out H5.out H6.out⟩
        · go_simp
          have hb := (Below.refl W2.heap.size W2).alloc (Nat.le_refl _) (.cells #[.slice none 0 0] 23)
          have h7 := Boxed.new W2 23 (.slice none 0 0)
          have HB7 := Lib.hid HX3.out.lt
          have HB := Lib.hid (HB.out.trans (hb.mono (Below.size HB.out)))
          have HX3 := Lib.hid (boxed_below HX3.out hb)
          have HO1 := Lib.hid (HO1.out.below hb HO1.out.lt)
          have H7 := Lib.hid h7
          clear h7
          obtain ⟨Bl, hBl⟩ : ∃ Bl, Bl = W2.heap.size := ⟨_, rfl⟩
          rw [← hBl] at HB7 H7 ⊢
          generalize W2.alloc (.cells #[.slice none 0 0] 23) = W7 at *
          clear hBl
          refine hK.out _ _ trivial (fun _ => ?_)
          clear hK K hb
          try simp only [List.getElem_toArray, List.getElem_cons_zero, List.getElem_cons_succ, Act.put, List.setIfInBounds_toArray, List.set_cons_zero, List.set_cons_succ]
          refine wpAnyH_ready (rs := [5]) (by kernel_rfl) (by simp) (AllReadyH.cons rfl (fun K hK => ?_) AllReadyH.nil)
          go_simp
          refine (HS2.out _ HB.out).mono ?_
          rintro e W5 ⟨hb, gs, ss, rfl, hgs, l1, l2, l3, ho⟩
          have hgne := Nat.lt_of_lt_of_le HO1.out.lt hgs
          have HB := Lib.hid (HB.out.trans (hb.mono (Below.size HB.out)))
          have HX3 := Lib.hid (boxed_below HX3.out hb)
          have HO1 := Lib.hid (HO1.out.below hb HO1.out.lt)
          have H7 := Lib.hid (boxed_below H7.out hb)
          have HO2 := Lib.hid ho
          have H5 := Lib.hid (And.intro hgne (And.intro l1 (And.intro l2 l3)))
          clear hgs hgne l1 l2 l3 ho
          dsimp only
          refine hK.out _ _ trivial (fun _ => ?_)
          clear hK K hb
          try simp only [List.getElem_toArray, List.getElem_cons_zero, List.getElem_cons_succ, Act.put, List.setIfInBounds_toArray, List.set_cons_zero, List.set_cons_succ]
          refine wpAnyH_ready (rs := [6]) (by kernel_rfl) (by simp) (AllReadyH.cons rfl (fun K hK => ?_) AllReadyH.nil)
          go_simp
          refine (HT.out _ gs ss HO2.out H5.out.2.1 H5.out.2.2.1).mono ?_
          rintro e W6 ⟨v6, n6, rfl, t1, t2, t3, t4, hb, t5⟩
          obtain ⟨rfl, hval, hcan⟩ := long_trim HYs.out hlb2 H5.out.2.1 H5.out.2.2 t1 t2 t3 t5
          have HB := Lib.hid (HB.out.trans (hb.mono (Below.size HB.out)))
          have HX3 := Lib.hid (boxed_below HX3.out hb)
          have HO1 := Lib.hid (HO1.out.below hb HO1.out.lt)
          have HO2 := Lib.hid (HO2.out.below hb HO2.out.lt)
          have H7 := Lib.hid (boxed_below H7.out hb)
          have H6 := Lib.hid (And.intro hval hcan)
          clear t1 t2 t3 t4 t5 hval hcan
          dsimp only
          refine hK.out _ _ trivial (fun _ => ?_)
          clear hK K hb
          try simp only [List.getElem_toArray, List.getElem_cons_zero, List.getElem_cons_succ, Act.put, List.setIfInBounds_toArray, List.set_cons_zero, List.set_cons_succ]
          refine wpAnyH_ready (rs := [8]) (by kernel_rfl) (by simp) (AllReadyH.cons rfl (fun K hK => ?_) AllReadyH.nil)
          have hf8 := H7.out.frozen
          have hc8 := H7.out.cell
          go_simp
          refine hK.out _ _ trivial (fun _ => ?_)
          clear hK K hf8 hc8
          try simp only [List.getElem_toArray, List.getElem_cons_zero, List.getElem_cons_succ, Act.put, List.setIfInBounds_toArray, List.set_cons_zero, List.set_cons_succ]
          refine wpAnyH_ready (rs := [9]) (by kernel_rfl) (by simp) (AllReadyH.cons rfl (fun K hK => ?_) AllReadyH.nil)
          have hf9 := HX3.out.frozen
          have hc9 := HX3.out.cell
          have hn9 : ¬ Bl = w.heap.size := by have := HB7.out; omega
          have hn9b : ¬ w.heap.size = Bl := by have := HB7.out; omega
          go_simp
          refine hK.out _ _ trivial (fun _ => ?_)
          clear hK K hf9 hc9 hn9 hn9b
          try simp only [List.getElem_toArray, List.getElem_cons_zero, List.getElem_cons_succ, Act.put, List.setIfInBounds_toArray, List.set_cons_zero, List.set_cons_succ]
          refine wpAnyH_done (by kernel_rfl) ?_ _
          simp only [onlyNormal]
          exact ⟨Bl, gl, gs, ls, ss, rfl, long_fin HB.out HX3.out HO1.out HO2.out H7.out HB7.out H2.out H5.out H6.out⟩
      · go_simp
        have hb := (Below.refl W0.heap.size W0).alloc (Nat.le_refl _) (.cells #[.slice none 0 0] 23)
        have h7 := Boxed.new W0 23 (.slice none 0 0)
        have HB7 := Lib.hid HX3.out.lt
        have HB := Lib.hid (HB.out.trans (hb.mono (Below.size HB.out)))
        have HX3 := Lib.hid (boxed_below HX3.out hb)
        have H7 := Lib.hid h7
        clear h7
        obtain ⟨Bl, hBl⟩ : ∃ Bl, Bl = W0.heap.size := ⟨_, rfl⟩
        rw [← hBl] at HB7 H7 ⊢
        generalize W0.alloc (.cells #[.slice none 0 0] 23) = W7 at *
        clear hBl
        refine hK.out _ _ trivial (fun _ => ?_)
        clear hK K hb
        try simp only [List.getElem_toArray, List.getElem_cons_zero, List.getElem_cons_succ, Act.put, List.setIfInBounds_toArray, List.set_cons_zero, List.set_cons_succ]
        refine wpAnyH_ready (rs := [2]) (by kernel_rfl) (by simp) (AllReadyH.cons rfl (fun K hK => ?_) AllReadyH.nil)
        go_simp
        refine (HS1.out _ HB.out).mono ?_
        rintro e W2 ⟨hb, gl, ls, rfl, hgl0, l1, l2, l3, ho⟩
        have hgl := Nat.le_trans (Below.size HB.out) hgl0
        clear hgl0
        have HB := Lib.hid (HB.out.trans (hb.mono (Below.size HB.out)))
        have HX3 := Lib.hid (boxed_below HX3.out hb)
        have H7 := Lib.hid (boxed_below H7.out hb)
        have HO1 := Lib.hid ho
        have H2 := Lib.hid (And.intro hgl (And.intro l1 (And.intro l2 l3)))
        clear hgl l1 l2 l3 ho
        dsimp only
        refine hK.out _ _ trivial (fun _ => ?_)
        clear hK K hb
        try simp only [List.getElem_toArray, List.getElem_cons_zero, List.getElem_cons_succ, Act.put, List.setIfInBounds_toArray, List.set_cons_zero, List.set_cons_succ]
        refine wpAnyH_ready (rs := [5]) (by kernel_rfl) (by simp) (AllReadyH.cons rfl (fun K hK => ?_) AllReadyH.nil)
        go_simp
        refine (HS2.out _ HB.out).mono ?_
        rintro e W5 ⟨hb, gs, ss, rfl, hgs, l1, l2, l3, ho⟩
        have hgne := Nat.lt_of_lt_of_le HO1.out.lt hgs
        have HB := Lib.hid (HB.out.trans (hb.mono (Below.size HB.out)))
        have HX3 := Lib.hid (boxed_below HX3.out hb)
        have HO1 := Lib.hid (HO1.out.below hb HO1.out.lt)
        have H7 := Lib.hid (boxed_below H7.out hb)
        have HO2 := Lib.hid ho
        have H5 := Lib.hid (And.intro hgne (And.intro l1 (And.intro l2 l3)))
        clear hgs hgne l1 l2 l3 ho
        dsimp only
        refine hK.out _ _ trivial (fun _ => ?_)
        clear hK K hb
        try simp only [List.getElem_toArray, List.getElem_cons_zero, List.getElem_cons_succ, Act.put, List.setIfInBounds_toArray, List.set_cons_zero, List.set_cons_succ]
        refine wpAnyH_ready (rs := [6]) (by kernel_rfl) (by simp) (AllReadyH.cons rfl (fun K hK => ?_) AllReadyH.nil)
        go_simp
        refine (HT.out _ gs ss HO2.out H5.out.2.1 H5.out.2.2.1).mono ?_
        rintro e W6 ⟨v6, n6, rfl, t1, t2, t3, t4, hb, t5⟩
        obtain ⟨rfl, hval, hcan⟩ := long_trim HYs.out hlb2 H5.out.2.1 H5.out.2.2 t1 t2 t3 t5
        have HB := Lib.hid (HB.out.trans (hb.mono (Below.size HB.out)))
        have HX3 := Lib.hid (boxed_below HX3.out hb)
        have HO1 := Lib.hid (HO1.out.below hb HO1.out.lt)
        have HO2 := Lib.hid (HO2.out.below hb HO2.out.lt)
        have H7 := Lib.hid (boxed_below H7.out hb)
        have H6 := Lib.hid (And.intro hval hcan)
        clear t1 t2 t3 t4 t5 hval hcan
        dsimp only
        refine hK.out _ _ trivial (fun _ => ?_)
        clear hK K hb
        try simp only [List.getElem_toArray, List.getElem_cons_zero, List.getElem_cons_succ, Act.put, List.setIfInBounds_toArray, List.set_cons_zero, List.set_cons_succ]
        refine wpAnyH_ready (rs := [8]) (by kernel_rfl) (by simp) (AllReadyH.cons rfl (fun K hK => ?_) AllReadyH.nil)
        have hf8 := H7.out.frozen
        have hc8 := H7.out.cell
        go_simp
        refine hK.out _ _ trivial (fun _ => ?_)
        clear hK K hf8 hc8
        try simp only [List.getElem_toArray, List.getElem_cons_zero, List.getElem_cons_succ, Act.put, List.setIfInBounds_toArray, List.set_cons_zero, List.set_cons_succ]
        refine wpAnyH_ready (rs := [9]) (by kernel_rfl) (by simp) (AllReadyH.cons rfl (fun K hK => ?_) AllReadyH.nil)
        have hf9 := HX3.out.frozen
        have hc9 := HX3.out.cell
        have hn9 : ¬ Bl = w.heap.size := by have := HB7.out; omega
        have hn9b : ¬ w.heap.size = Bl := by have := HB7.out; omega
        go_simp
        refine hK.out _ _ trivial (fun _ => ?_)
        clear hK K hf9 hc9 hn9 hn9b
        try simp only [List.getElem_toArray, List.getElem_cons_zero, List.getElem_cons_succ, Act.put, List.setIfInBounds_toArray, List.set_cons_zero, List.set_cons_succ]
        refine wpAnyH_done (by kernel_rfl) ?_ _
        simp only [onlyNormal]
        exact ⟨Bl, gl, gs, ls, ss, rfl, long_fin HB.out HX3.out HO1.out HO2.out H7.out HB7.out H2.out H5.out H6.out⟩
    · go_simp
      have hb := (Below.refl W0.heap.size W0).alloc (Nat.le_refl _) (.cells #[.slice none 0 0] 23)
      have h7 := Boxed.new W0 23 (.slice none 0 0)
      have HB7 := Lib.hid HX3.out.lt
      have HB := Lib.hid (HB.out.trans (hb.mono (Below.size HB.out)))
      have HX3 := Lib.hid (boxed_below HX3.out hb)
      have H7 := Lib.hid h7
      clear h7
      obtain ⟨Bl, hBl⟩ : ∃ Bl, Bl = W0.heap.size := ⟨_, rfl⟩
      rw [← hBl] at HB7 H7 ⊢
      generalize W0.alloc (.cells #[.slice none 0 0] 23) = W7 at *
      clear hBl
      refine hK.out _ _ trivial (fun _ => ?_)
      clear hK K hb
      try simp only [List.getElem_toArray, List.getElem_cons_zero, List.getElem_cons_succ, Act.put, List.setIfInBounds_toArray, List.set_cons_zero, List.set_cons_succ]
      refine wpAnyH_ready (rs := [2, 3]) (by kernel_rfl) (by simp) (AllReadyH.cons rfl (fun K hK => ?_) (AllReadyH.cons rfl (fun K hK => ?_) AllReadyH.nil))
      · go_simp
        refine (HS1.out _ HB.out).mono ?_
        rintro e W2 ⟨hb, gl, ls, rfl, hgl0, l1, l2, l3, ho⟩
        have hgl := Nat.le_trans (Below.size HB.out) hgl0
        clear hgl0
        have HB := Lib.hid (HB.out.trans (hb.mono (Below.size HB.out)))
        have HX3 := Lib.hid (boxed_below HX3.out hb)
        have H7 := Lib.hid (boxed_below H7.out hb)
        have HO1 := Lib.hid ho
        have H2 := Lib.hid (And.intro hgl (And.intro l1 (And.intro l2 l3)))
        clear hgl l1 l2 l3 ho
        dsimp only
        refine hK.out _ _ trivial (fun _ => ?_)
        clear hK K hb
        try simp only [List.getElem_toArray, List.getElem_cons_zero, List.getElem_cons_succ, Act.put, List.setIfInBounds_toArray, List.set_cons_zero, List.set_cons_succ]
        refine wpAnyH_ready (rs := [3]) (by kernel_rfl) (by simp) (AllReadyH.cons rfl (fun K hK => ?_) AllReadyH.nil)
        have hc3 := HX3.out.cell
        go_simp
        refine hK.out _ _ trivial (fun _ => ?_)
        clear hK K hc3
        try simp only [List.getElem_toArray, List.getElem_cons_zero, List.getElem_cons_succ, Act.put, List.setIfInBounds_toArray, List.set_cons_zero, List.set_cons_succ]
        refine wpAnyH_ready (rs := [5]) (by kernel_rfl) (by simp) (AllReadyH.cons rfl (fun K hK => ?_) AllReadyH.nil)
        go_simp
        refine (HS2.out _ HB.out).mono ?_
        rintro e W5 ⟨hb, gs, ss, rfl, hgs, l1, l2, l3, ho⟩
        have hgne := Nat.lt_of_lt_of_le HO1.out.lt hgs
        have HB := Lib.hid (HB.out.trans (hb.mono (Below.size HB.out)))
        have HX3 := Lib.hid (boxed_below HX3.out hb)
        have HO1 := Lib.hid (HO1.out.below hb HO1.out.lt)
        have H7 := Lib.hid (boxed_below H7.out hb)
        have HO2 := Lib.hid ho
        have H5 := Lib.hid (And.intro hgne (And.intro l1 (And.intro l2 l3)))
        clear hgs hgne l1 l2 l3 ho
        dsimp only
        refine hK.out _ _ trivial (fun _ => ?_)
        clear hK K hb
        try simp only [List.getElem_toArray, List.getElem_cons_zero, List.getElem_cons_succ, Act.put, List.setIfInBounds_toArray, List.set_cons_zero, List.set_cons_succ]
        refine wpAnyH_ready (rs := [6]) (by kernel_rfl) (by simp) (AllReadyH.cons rfl (fun K hK => ?_) AllReadyH.nil)
        go_simp
        refine (HT.out _ gs ss HO2.out H5.out.2.1 H5.out.2.2.1).mono ?_
        rintro e W6 ⟨v6, n6, rfl, t1, t2, t3, t4, hb, t5⟩
        obtain ⟨rfl, hval, hcan⟩ := long_trim HYs.out hlb2 H5.out.2.1 H5.out.2.2 t1 t2 t3 t5
        have HB := Lib.hid (HB.out.trans (hb.mono (Below.size HB.out)))
        have HX3 := Lib.hid (boxed_below HX3.out hb)
        have HO1 := Lib.hid (HO1.out.below hb HO1.out.lt)
        have HO2 := Lib.hid (HO2.out.below hb HO2.out.lt)
        have H7 := Lib.hid (boxed_below H7.out hb)
        have H6 := Lib.hid (And.intro hval hcan)
        clear t1 t2 t3 t4 t5 hval hcan
        dsimp only
        refine hK.out _ _ trivial (fun _ => ?_)
        clear hK K hb
        try simp only [List.getElem_toArray, List.getElem_cons_zero, List.getElem_cons_succ, Act.put, List.setIfInBounds_toArray, List.set_cons_zero, List.set_cons_succ]
        refine wpAnyH_ready (rs := [8]) (by kernel_rfl) (by simp) (AllReadyH.cons rfl (fun K hK => ?_) AllReadyH.nil)
        have hf8 := H7.out.frozen
        have hc8 := H7.out.cell
        go_simp
        refine hK.out _ _ trivial (fun _ => ?_)
        clear hK K hf8 hc8
        try simp only [List.getElem_toArray, List.getElem_cons_zero, List.getElem_cons_succ, Act.put, List.setIfInBounds_toArray, List.set_cons_zero, List.set_cons_succ]
        refine wpAnyH_ready (rs := [9]) (by kernel_rfl) (by simp) (AllReadyH.cons rfl (fun K hK => ?_) AllReadyH.nil)
        have hf9 := HX3.out.frozen
        have hc9 := HX3.out.cell
        have hn9 : ¬ Bl = w.heap.size := by have := HB7.out; omega
        have hn9b : ¬ w.heap.size = Bl := by have := HB7.out; omega
        go_simp
        refine hK.out _ _ trivial (fun _ => ?_)
        clear hK K hf9 hc9 hn9 hn9b
        try simp only [List.getElem_toArray, List.getElem_cons_zero, List.getElem_cons_succ, Act.put, List.setIfInBounds_toArray, List.set_cons_zero, List.set_cons_succ]
        refine wpAnyH_done (by kernel_rfl) ?_ _
        simp only [onlyNormal]
        exact ⟨Bl, gl, gs, ls, ss, rfl, long_fin HB.out HX3.out HO1.out HO2.out H7.out HB7.out H2.out H5.out H6.out⟩
      · have hc3 := HX3.out.cell
        go_simp
        refine hK.out _ _ trivial (fun _ => ?_)
        clear hK K hc3
        try simp only [List.getElem_toArray, List.getElem_cons_zero, List.getElem_cons_succ, Act.put, List.setIfInBounds_toArray, List.set_cons_zero, List.set_cons_succ]
        refine wpAnyH_ready (rs := [2]) (by kernel_rfl) (by simp) (AllReadyH.cons rfl (fun K hK => ?_) AllReadyH.nil)
        go_simp
        refine (HS1.out _ HB.out).mono ?_
        rintro e W2 ⟨hb, gl, ls, rfl, hgl0, l1, l2, l3, ho⟩
        have hgl := Nat.le_trans (Below.size HB.out) hgl0
        clear hgl0
        have HB := Lib.hid (HB.out.trans (hb.mono (Below.size HB.out)))
        have HX3 := Lib.hid (boxed_below HX3.out hb)
        have H7 := Lib.hid (boxed_below H7.out hb)
        have HO1 := Lib.hid ho
        have H2 := Lib.hid (And.intro hgl (And.intro l1 (And.intro l2 l3)))
        clear hgl l1 l2 l3 ho
        dsimp only
        refine hK.out _ _ trivial (fun _ => ?_)
        clear hK K hb
        try simp only [List.getElem_toArray, List.getElem_cons_zero, List.getElem_cons_succ, Act.put, List.setIfInBounds_toArray, List.set_cons_zero, List.set_cons_succ]
        refine wpAnyH_ready (rs := [5]) (by kernel_rfl) (by simp) (AllReadyH.cons rfl (fun K hK => ?_) AllReadyH.nil)
        go_simp
        refine (HS2.out _ HB.out).mono ?_
        rintro e W5 ⟨hb, gs, ss, rfl, hgs, l1, l2, l3, ho⟩
        have hgne := Nat.lt_of_lt_of_le HO1.out.lt hgs
        have HB := Lib.hid (HB.out.trans (hb.mono (Below.size HB.out)))
        have HX3 := Lib.hid (boxed_below HX3.out hb)
        have HO1 := Lib.hid (HO1.out.below hb HO1.out.lt)
        have H7 := Lib.hid (boxed_below H7.out hb)
        have HO2 := Lib.hid ho
        have H5 := Lib.hid (And.intro hgne (And.intro l1 (And.intro l2 l3)))
        clear hgs hgne l1 l2 l3 ho
        dsimp only
        refine hK.out _ _ trivial (fun _ => ?_)
        clear hK K hb
        try simp only [List.getElem_toArray, List.getElem_cons_zero, List.getElem_cons_succ, Act.put, List.setIfInBounds_toArray, List.set_cons_zero, List.set_cons_succ]
        refine wpAnyH_ready (rs := [6]) (by kernel_rfl) (by simp) (AllReadyH.cons rfl (fun K hK => ?_) AllReadyH.nil)
        go_simp
        refine (HT.out _ gs ss HO2.out H5.out.2.1 H5.out.2.2.1).mono ?_
        rintro e W6 ⟨v6, n6, rfl, t1, t2, t3, t4, hb, t5⟩
        obtain ⟨rfl, hval, hcan⟩ := long_trim HYs.out hlb2 H5.out.2.1 H5.out.2.2 t1 t2 t3 t5
        have HB := Lib.hid (HB.out.trans (hb.mono (Below.size HB.out)))
        have HX3 := Lib.hid (boxed_below HX3.out hb)
        have HO1 := Lib.hid (HO1.out.below hb HO1.out.lt)
        have HO2 := Lib.hid (HO2.out.below hb HO2.out.lt)
        have H7 := Lib.hid (boxed_below H7.out hb)
        have H6 := Lib.hid (And.intro hval hcan)
        clear t1 t2 t3 t4 t5 hval hcan
        dsimp only
        refine hK.out _ _ trivial (fun _ => ?_)
        clear hK K hb
        try simp only [List.getElem_toArray, List.getElem_cons_zero, List.getElem_cons_succ, Act.put, List.setIfInBounds_toArray, List.set_cons_zero, List.set_cons_succ]
        refine wpAnyH_ready (rs := [8]) (by kernel_rfl) (by simp) (AllReadyH.cons rfl (fun K hK => ?_) AllReadyH.nil)
        have hf8 := H7.out.frozen
        have hc8 := H7.out.cell
        go_simp
        refine hK.out _ _ trivial (fun _ => ?_)
        clear hK K hf8 hc8
        try simp only [List.getElem_toArray, List.getElem_cons_zero, List.getElem_cons_succ, Act.put, List.setIfInBounds_toArray, List.set_cons_zero, List.set_cons_succ]
        refine wpAnyH_ready (rs := [9]) (by kernel_rfl) (by simp) (AllReadyH.cons rfl (fun K hK => ?_) AllReadyH.nil)
        have hf9 := HX3.out.frozen
        have hc9 := HX3.out.cell
        have hn9 : ¬ Bl = w.heap.size := by have := HB7.out; omega
        have hn9b : ¬ w.heap.size = Bl := by have := HB7.out; omega
        go_simp
        refine hK.out _ _ trivial (fun _ => ?_)
        clear hK K hf9 hc9 hn9 hn9b
        try simp only [List.getElem_toArray, List.getElem_cons_zero, List.getElem_cons_succ, Act.put, List.setIfInBounds_toArray, List.set_cons_zero, List.set_cons_succ]
        refine wpAnyH_done (by kernel_rfl) ?_ _
        simp only [onlyNormal]
        exact ⟨Bl, gl, gs, ls, ss, rfl, long_fin HB.out HX3.out HO1.out HO2.out H7.out HB7.out H2.out H5.out H6.out⟩
  rintro a' V ⟨Bl, gl, gs, ls, ss, rfl, HV⟩
  obtain ⟨n, hn⟩ : ∃ n, n + (ys.length - 1) = xs.length := ⟨xs.length - (ys.length - 1), by omega⟩
  have hmk := make_nat n ((xs.length : Int) - (ys.length : Int) + 1) (by omega) (by omega)
  have hc3 := HV.out.2.1.cell
  gi_wp2_with (refine ⟨trivial, ?_⟩; gi_at_call 91; refine (down_in _ _ _ _ _).mono ?_; rintro e w' ⟨rfl, rfl⟩)
  clear hmk hc3
  have hst : LongI w Bl gl gs V.heap.size n (xs.length + 1) ys.length ss (val 4294967296 ys * 2 ^ s) (val 4294967296 xs * 2 ^ s) 0 (((V.alloc (.cells (nums .u32 (List.replicate n 0)) 85)).alloc (.cells #[.slice (some ⟨V.heap.size, 0, none⟩) n n] 23)).alloc (.cells #[.slice (some ⟨V.heap.size, 0, none⟩) n n] 23)) := by
    obtain ⟨hB, h3, hl, h1, h2, g1, g2, g3, l1, l2, l3, s1, s2, s3⟩ := HV.out
    refine ⟨ls, List.replicate n 0, ⟨l1, l2, by simp, fun x hx => by have := List.eq_of_mem_replicate hx; omega, fun j z _ hz => List.eq_of_mem_replicate (List.mem_of_getElem? hz), fun m hm => ?_⟩, ((h1.alloc _).alloc _).alloc _, ((h2.alloc _).alloc _).alloc _, ((Own.new V _ _ _).alloc _).alloc _, ((h3.alloc _).alloc _).alloc _, ((hl.alloc _).alloc _).alloc _, ?_, ?_, ?_⟩
    · obtain rfl : m = n := by omega
      rw [l3, List.drop_of_length_le (by simp)]
      refine ⟨long_init (lb := ys.length) (val_lt HX.out.2.2.1.1) (HX.out.2.2.2.1.ge (by intro e; rw [e] at hlb; simp at hlb)) hn, ?_⟩
      rw [val_nil, Nat.zero_mul, Nat.zero_add]
    · have h := (Boxed.new (V.alloc (.cells (nums .u32 (List.replicate n 0)) 85)) 23 (.slice (some ⟨V.heap.size, 0, none⟩) n n)).alloc (.cells #[.slice (some ⟨V.heap.size, 0, none⟩) n n] 23)
      rw [World.size_alloc] at h
      exact h
    · have h := Boxed.new ((V.alloc (.cells (nums .u32 (List.replicate n 0)) 85)).alloc (.cells #[.slice (some ⟨V.heap.size, 0, none⟩) n n] 23)) 23 (.slice (some ⟨V.heap.size, 0, none⟩) n n)
      rw [World.size_alloc, World.size_alloc] at h
      exact h
    · exact ((hB.alloc hB.size _).alloc (by rw [World.size_alloc]; exact Nat.le_succ_of_le hB.size) _).alloc (by rw [World.size_alloc, World.size_alloc]; exact Nat.le_succ_of_le (Nat.le_succ_of_le hB.size)) _
  have hsz : (((V.alloc (.cells (nums .u32 (List.replicate n 0)) 85)).alloc (.cells #[.slice (some ⟨V.heap.size, 0, none⟩) n n] 23)).alloc (.cells #[.slice (some ⟨V.heap.size, 0, none⟩) n n] 23)).heap.size = V.heap.size + 3 := by simp
  have hVs := Below.size HV.out.1
  have hglV := HV.out.2.2.2.1.lt
  have hgsV := HV.out.2.2.2.2.1.lt
  have HG := Lib.hid HV.out.2.2.2.2.2
  generalize ((V.alloc (.cells (nums .u32 (List.replicate n 0)) 85)).alloc (.cells #[.slice (some ⟨V.heap.size, 0, none⟩) n n] 23)).alloc (.cells #[.slice (some ⟨V.heap.size, 0, none⟩) n n] 23) = W0 at *
  clear HV
  refine range_down_at (n := 6) (by omega) (Bs := V.heap.size + 2) (A := some ⟨V.heap.size, 0, none⟩) (cap := n) (zs := List.replicate n 0) (by simp; omega) rfl rfl (LongI w Bl gl gs V.heap.size n (xs.length + 1) ys.length ss (val 4294967296 ys * 2 ^ s) (val 4294967296 xs * 2 ^ s)) (fun _ _ => False) ?hI ?hIx hst ?hbox ?hcell
    (fun i x => { tmps := #[.slice A xs.length cap, .slice (some ⟨bk, off, none⟩) ys.length cap2, undef, .pointer (some ⟨w.heap.size, 0, none⟩), .slice none 0 0, .slice none 0 0, .int .i64 (s : Int), .pointer (some ⟨Bl, 0, none⟩), .pointer (some ⟨V.heap.size + 1, 0, none⟩), .int .i64 (i : Int), undef, undef,
          .slice (some ⟨bk, off, none⟩) ys.length cap2, .slice (some ⟨bk, off, none⟩) ys.length cap2, .int .i64 (ys.length : Int), .int .i64 (q : Int), .pointer (some ⟨bk, off + q, none⟩), .int .u32 (d : Int), .int .i64 (s : Int), .slice A xs.length cap, .int .i64 (s : Int), .slice (some ⟨gl, 0, none⟩) (xs.length + 1) (xs.length + 1), .slice (some ⟨bk, off, none⟩) ys.length cap2, .int .i64 (s : Int), .slice (some ⟨gs, 0, none⟩) (ys.length + 1) (ys.length + 1), .slice (some ⟨gs, 0, none⟩) ys.length ys.length,
          .slice A xs.length cap, .int .i64 (xs.length : Int), .slice (some ⟨gs, 0, none⟩) ys.length ys.length, .int .i64 (ys.length : Int), .int .i64 ((xs.length : Int) - (ys.length : Int)), .int .i64 ((xs.length : Int) - (ys.length : Int) + 1), .slice (some ⟨V.heap.size, 0, none⟩) n n, .slice (some ⟨V.heap.size, 0, none⟩) n n, .func (.func 104) #[] #[.pointer (some ⟨V.heap.size + 1 + 1, 0, none⟩)], .int .i64 (i : Int), .int .u32 (x : Int), undef, undef, undef, undef, undef, undef, undef, undef, undef, undef, undef, undef, undef, undef, undef, undef, undef, undef, undef, undef, undef, undef], defers := [] }) ?assign ?body ?done ?stop
  case hI =>
    rintro k X Y row ⟨ls', os, hF, h1, h2, h3, h4, h5, h6, h7, h8⟩ hg hr
    have hr' := fun r e => (hr r e).2
    exact ⟨ls', os, hF, (grownBy_keeps_cells hg hr' h1 rfl).trans h1, (grownBy_keeps_cells hg hr' h2 rfl).trans h2, (grownBy_keeps_cells hg hr' h3 rfl).trans h3, boxed_step h4 hg hr', boxed_step h5 hg hr', boxed_step h6 hg hr', boxed_step h7 hg hr', h8.grown hg h8.size (fun r e => by have := (hr r e).1; omega)⟩
  case hIx => exact fun _ _ _ _ h _ _ => h
  case hbox =>
    intro k W h
    obtain ⟨_, _, _, _, _, _, _, _, _, h, _⟩ := h
    rw [List.length_replicate]; exact h.cell
  case hcell =>
    intro hz
    refine ⟨V.heap.size, 0, rfl, fun k W i x hI hki hx => ?_⟩
    obtain ⟨ls', os, hF, _, _, h3, _⟩ := hI
    rw [List.length_replicate] at hki
    have hos : os[i]? = some os[i] := List.getElem?_eq_getElem (by have := hF.2.2.1; omega)
    have h0 := hF.2.2.2.2.1 i _ (by omega) hos
    have hx0 := List.eq_of_mem_replicate (List.mem_of_getElem? hx)
    rw [h0] at hos
    rw [hx0, Nat.zero_add]
    exact h3.cell hos
  case assign =>
    intro l i x W K hx hK
    gi_wp2
    exact hK
  case body =>
    rintro l k i x W hki hx ⟨ls', os, hF, h1, h2, h3, h4, h5, h6, h7, h8⟩
    rw [List.length_replicate] at hki
    have hmix : Tryz.prog.follows .mixedOrders = true := by kernel_rfl
    have hin : i + ys.length ≤ xs.length := by omega
    have HTK := Lib.hid (long_take (W := W) (gl := gl) (gs := gs) (i := i) (hF.2.2.2.2.2 (i + 1) (by omega)).1 hF.1 hF.2.1 h1 h2 HG.out.2.2.1 HG.out.2.2.2.2.2.2.1 hlb hin (by omega) HG.out.2.2.2.2.2.2.2.1 HG.out.2.2.2.2.2.2.2.2 (HYs.out.2))
    have hc3 := h4.cell
    have hcl := h5.cell
    have hc8 := h6.cell
    obtain ⟨z0, hos⟩ : ∃ z, os[i]? = some z := ⟨_, List.getElem?_eq_getElem (by have := hF.2.2.1; omega)⟩
    have hcg := h3.cell hos
    have hfg := h3.frozen i
    have n1 := own_ne_box h1 h4 u32_ne_nat
    have n2 := own_ne_box h1 h5 u32_ne_nat
    have n3 := own_ne_box h1 h6 u32_ne_nat
    have n4 := own_ne_box h3 h4 u32_ne_nat
    have n5 := own_ne_box h3 h5 u32_ne_nat
    have n6 := own_ne_box h3 h6 u32_ne_nat
    have n7 := own_ne_box h1 h7 u32_ne_nat
    have n8 := own_ne_box h3 h7 u32_ne_nat
    have ngo := own_ne_own h1 h3 (Nat.ne_of_lt hglV)
    have HP := Lib.hid (And.intro hF (And.intro h1 (And.intro h2 (And.intro h3 (And.intro h4 (And.intro h5 (And.intro h6 (And.intro h7 (And.intro h8 hos)))))))))
    have Hki := Lib.hid hki
    obtain ⟨c1, hc1⟩ : ∃ c1, c1 = i + ys.length := ⟨_, rfl⟩
    obtain ⟨c2, hc2⟩ : ∃ c2, c2 = i + ys.length + 1 := ⟨_, rfl⟩
    have hw7 : IntKind.i64.wrap ((i : Int) + (ys.length : Int)) = (c1 : Int) := wrap_i64_nat' (by omega) (by omega)
    have hw8 : IntKind.i64.wrap ((c1 : Int) + 1) = (c2 : Int) := wrap_i64_nat' (by omega) (by omega)
    have hs1 : (i : Int) ≤ (c2 : Int) := by omega
    have hs2 : (c2 : Int) ≤ (xs.length : Int) + 1 := by omega
    have hs3 : c2 - i = ys.length + 1 := by omega
    have hs4 : i ≤ c2 := by omega
    have hs5 : c2 ≤ xs.length + 1 := by omega
    have hix : (i : Int) < (n : Int) := by omega
    have hni : ¬ (xs.length + 1 = i) := by omega
    have Hc2 := Lib.hid hc2
    clear hF h1 h2 h3 h4 h5 h6 h7 h8 hos hki hx hc1 hc2 hsz hVs
    gi_wp2_with fail
    refine region_round (fun W' => W'.cell? ⟨w.heap.size, 0, none⟩ = some (.slice (some ⟨gs, 0, none⟩) ys.length ys.length) ∧ W'.cell? ⟨Bl, 0, none⟩ = some (.slice (some ⟨gl, 0, none⟩) (xs.length + 1) (xs.length + 1)) ∧ W'.cell? ⟨V.heap.size + 1, 0, none⟩ = some (.slice (some ⟨V.heap.size, 0, none⟩) n n)) hmix (by kernel_rfl) ⟨hc3, hcl, hc8⟩ (fun hHeld => ?_)
    refine wpAnyH_take (i := 0) (oi := _) (v := ?_) rfl (by kernel_rfl) (by kernel_rfl) (by kernel_rfl) (fun _ _ _ h => h) (Or.inl ⟨by rfl, ?_⟩) (by assumption) ?_
    rotate_left
    · (intro w hSw; (try dsimp only at hSw); go_simp <;> with_reducible rfl)
    try simp only [List.getElem_toArray, List.getElem_cons_zero, Act.put, List.setIfInBounds_toArray, List.set_cons_zero, List.set_cons_succ]
    refine wpAnyH_take (i := 1) (oi := _) (v := ?_) rfl (by kernel_rfl) (by kernel_rfl) (by kernel_rfl) (fun _ _ _ h => h) (Or.inl ⟨by rfl, ?_⟩) (by assumption) ?_
    rotate_left
    · (intro w hSw; (try dsimp only at hSw); go_simp <;> with_reducible rfl)
    try simp only [List.getElem_toArray, List.getElem_cons_zero, List.getElem_cons_succ, Act.put, List.setIfInBounds_toArray, List.set_cons_zero, List.set_cons_succ]
    refine wpAnyH_take (i := 2) (oi := _) (v := ?_) rfl (by kernel_rfl) (by kernel_rfl) (by kernel_rfl) (fun _ _ _ h => h) (Or.inl ⟨by rfl, ?_⟩) (by assumption) ?_
    rotate_left
    · (intro w hSw; (try dsimp only at hSw); go_simp <;> with_reducible rfl)
    try simp only [List.getElem_toArray, List.getElem_cons_zero, List.getElem_cons_succ, Act.put, List.setIfInBounds_toArray, List.set_cons_zero, List.set_cons_succ]
    refine wpAnyH_take (i := 3) (oi := _) (v := ?_) rfl (by kernel_rfl) (by kernel_rfl) (by kernel_rfl) (fun _ _ _ h => h) (Or.inl ⟨by rfl, ?_⟩) (by assumption) ?_
    rotate_left
    · (intro w hSw; (try dsimp only at hSw); go_simp <;> with_reducible rfl)
    try simp only [List.getElem_toArray, List.getElem_cons_zero, List.getElem_cons_succ, Act.put, List.setIfInBounds_toArray, List.set_cons_zero, List.set_cons_succ]
    refine wpAnyH_take (i := 4) (oi := _) (v := ?_) rfl (by kernel_rfl) (by kernel_rfl) (by kernel_rfl) (fun _ _ _ h => h) (Or.inl ⟨by rfl, ?_⟩) (by assumption) ?_
    rotate_left
    · (intro w hSw; (try dsimp only at hSw); go_simp <;> with_reducible rfl)
    try simp only [List.getElem_toArray, List.getElem_cons_zero, List.getElem_cons_succ, Act.put, List.setIfInBounds_toArray, List.set_cons_zero, List.set_cons_succ]
    refine wpAnyH_take (i := 5) (oi := _) (v := ?_) rfl (by kernel_rfl) (by kernel_rfl) (by kernel_rfl) (fun _ _ _ h => h) (Or.inl ⟨by rfl, ?_⟩) (by assumption) ?_
    rotate_left
    · (intro w hSw; (try dsimp only at hSw); go_simp <;> with_reducible rfl)
    try simp only [List.getElem_toArray, List.getElem_cons_zero, List.getElem_cons_succ, Act.put, List.setIfInBounds_toArray, List.set_cons_zero, List.set_cons_succ]
    refine wpAnyH_take (i := 6) (oi := _) (v := ?_) rfl (by kernel_rfl) (by kernel_rfl) (by kernel_rfl) (fun _ _ _ h => h) (Or.inl ⟨by rfl, ?_⟩) (by assumption) ?_
    rotate_left
    · (intro w hSw; (try dsimp only at hSw); go_simp <;> with_reducible rfl)
    try simp only [List.getElem_toArray, List.getElem_cons_zero, List.getElem_cons_succ, Act.put, List.setIfInBounds_toArray, List.set_cons_zero, List.set_cons_succ]
    refine wpAnyH_take (i := 7) (oi := _) (v := ?_) rfl (by kernel_rfl) (by kernel_rfl) (by kernel_rfl) (fun _ _ _ h => h) (Or.inl ⟨by rfl, ?_⟩) (by assumption) ?_
    rotate_left
    · (intro w hSw; (try dsimp only at hSw); go_simp <;> with_reducible rfl)
    try simp only [List.getElem_toArray, List.getElem_cons_zero, List.getElem_cons_succ, Act.put, List.setIfInBounds_toArray, List.set_cons_zero, List.set_cons_succ]
    refine wpAnyH_take (i := 8) (oi := _) (v := ?_) rfl (by kernel_rfl) (by kernel_rfl) (by kernel_rfl) (fun _ _ _ h => h) (Or.inl ⟨by rfl, ?_⟩) (by assumption) ?_
    rotate_left
    · (intro w hSw; (try dsimp only at hSw); go_simp <;> with_reducible rfl)
    try simp only [List.getElem_toArray, List.getElem_cons_zero, List.getElem_cons_succ, Act.put, List.setIfInBounds_toArray, List.set_cons_zero, List.set_cons_succ]
    refine wpAnyH_take (i := 9) (oi := _) (v := ?_) rfl (by kernel_rfl) (by kernel_rfl) (by kernel_rfl) (fun _ _ _ h => h) (Or.inl ⟨by rfl, ?_⟩) (by assumption) ?_
    rotate_left
    · (intro w hSw; (try dsimp only at hSw); go_simp <;> with_reducible rfl)
    try simp only [List.getElem_toArray, List.getElem_cons_zero, List.getElem_cons_succ, Act.put, List.setIfInBounds_toArray, List.set_cons_zero, List.set_cons_succ]
    refine wpAnyH_take (i := 10) (oi := _) (v := ?_) rfl (by kernel_rfl) (by kernel_rfl) (by kernel_rfl) (fun _ _ _ h => h) (Or.inl ⟨by rfl, ?_⟩) (by assumption) ?_
    rotate_left
    · (intro w hSw; (try dsimp only at hSw); go_simp <;> with_reducible rfl)
    try simp only [List.getElem_toArray, List.getElem_cons_zero, List.getElem_cons_succ, Act.put, List.setIfInBounds_toArray, List.set_cons_zero, List.set_cons_succ]
    refine wpAnyH_ready (rs := [11]) (by kernel_rfl) (by simp) (AllReadyH.cons rfl (fun K hK => ?_) AllReadyH.nil)
    go_simp
    refine HTK.out.mono ?_
    rintro e W2 ⟨o, ls2, rfl, hG, HT2⟩
    have HGo := Lib.hid hG
    have b4 := boxed_only HP.out.2.2.2.2.1 hG (fun e => n1 e.symm)
    have b5 := boxed_only HP.out.2.2.2.2.2.1 hG (fun e => n2 e.symm)
    have b6 := boxed_only HP.out.2.2.2.2.2.2.1 hG (fun e => n3 e.symm)
    have b7 := boxed_only HP.out.2.2.2.2.2.2.2.1 hG (fun e => n7 e.symm)
    have o3 : Own .u32 85 W2 V.heap.size os := (hG.block _ HP.out.2.2.2.1.lt (fun e => ngo (by injection e with e; exact e.symm))).trans HP.out.2.2.2.1
    have hcg2 := o3.cell HP.out.2.2.2.2.2.2.2.2.2
    have hfg2 := o3.frozen i
    have HQ := Lib.hid (And.intro b4 (And.intro b5 (And.intro b6 (And.intro b7 o3))))
    dsimp only
    refine hK.out _ _ ⟨b4.cell, b5.cell, b6.cell⟩ (fun hHeld => ?_)
    clear hK K hG hcg hfg b7 o3
    try simp only [List.getElem_toArray, List.getElem_cons_zero, List.getElem_cons_succ, Act.put, List.setIfInBounds_toArray, List.set_cons_zero, List.set_cons_succ]
    refine wpAnyH_take (i := 12) (oi := _) (v := ?_) rfl (by kernel_rfl) (by kernel_rfl) (by kernel_rfl) (fun _ _ _ h => h) (Or.inl ⟨by rfl, ?_⟩) (by assumption) ?_
    rotate_left
    · (intro w hSw; (try dsimp only at hSw); go_simp <;> with_reducible rfl)
    try simp only [List.getElem_toArray, List.getElem_cons_zero, List.getElem_cons_succ, Act.put, List.setIfInBounds_toArray, List.set_cons_zero, List.set_cons_succ]
    refine wpAnyH_ready (rs := [13]) (by kernel_rfl) (by simp) (AllReadyH.cons rfl (fun K hK => ?_) AllReadyH.nil)
    go_simp
    refine hK.out _ _ ⟨(Boxed.far b4 (fun e => n4 e.symm) _).cell, (Boxed.far b5 (fun e => n5 e.symm) _).cell, (Boxed.far b6 (fun e => n6 e.symm) _).cell⟩ (fun _ => ?_)
    clear hK K
    refine wpAnyH_done (by kernel_rfl) ?_ _
    simp only [onlyNormal]
    clear hHeld hc3 hcl hc8 hcg2 hfg2 b4 b5 b6
    gi_wp2
    obtain ⟨⟨f1, f2, f3, f4, f5, f6⟩, h1, h2, h3, h4, h5, h6, h7, h8, hos⟩ := HP.out
    obtain ⟨g1, g2, g3, g4, g5, g6⟩ := HT2.out
    obtain ⟨b4, b5, b6, b7, o3⟩ := HQ.out
    have hki := Hki.out
    have hil : i < os.length := (List.getElem?_eq_some_iff.1 hos).1
    refine ⟨(((KeepsOthers.drew W).trans (only_keeps (w := W.drew) h1 HGo.out)).trans (KeepsOthers.setCell _ _ _)).from _, ls2, os.set i o, ⟨g2, g3, by rw [List.length_set]; exact f3, mem_set_lt f4 g1, ?_, ?_⟩, g4.far (fun e => ngo e) _, ?_, o3.set _ _, Boxed.far b4 (fun e => n4 e.symm) _, Boxed.far b5 (fun e => n5 e.symm) _, Boxed.far b6 (fun e => n6 e.symm) _, Boxed.far b7 (fun e => n8 e.symm) _, ?_⟩
    · intro j z hj hz
      rw [List.getElem?_set_ne (by omega)] at hz
      exact f5 j z (by omega) hz
    · intro m hm
      obtain rfl : m = i := by omega
      refine ⟨g5, ?_⟩
      rw [drop_of_get (x := o) (List.getElem?_set_self hil), List.drop_set_of_lt (by omega), val_cons]
      exact g6 _ _ (f6 (m + 1) (by omega)).2
    · have o2 : Own .u32 85 W2 gs ss := (HGo.out.block gs h2.lt (fun e => by injection e with e; have := HG.out.2.2.1; omega)).trans h2
      exact o2.far (fun e => by dsimp only at e; omega) _
    · exact (Only.below (Below.drew h8) HGo.out HG.out.2.1).setCell (by dsimp only; have := HG.out; omega) _
  case done =>
    rintro D W hD ⟨ls', os, hF, h1, h2, h3, h4, h5, h6, h7, h8⟩ hKD
    rw [List.length_replicate] at hF
    obtain ⟨f1, f2, f3, f4, f5, f6⟩ := hF
    obtain ⟨v1, v2⟩ := f6 0 rfl
    rw [Nat.pow_zero, Nat.one_mul] at v1 v2
    rw [List.drop_zero] at v2
    have hend := long_end v2 v1
    have hcl := h5.cell
    have hc8 := h6.cell
    have hDlt : D < W.heap.size := (Array.getElem?_eq_some_iff.1 hKD).1
    have hwl := h1.whole (by omega)
    rw [f1] at hwl
    have hwo := h3.whole (by omega)
    rw [f3] at hwo
    have hXl : val 4294967296 xs < Lim := lim_of_len HX.out.2.2.1.1 hla
    have hq2 : val 4294967296 ls' / 2 ^ s < Lim := by rw [← hend.2]; exact Nat.lt_of_le_of_lt (Nat.mod_le _ _) hXl
    have HRt := Lib.hid (show Calls Tryz.prog 90 #[.slice (some ⟨gl, 0, none⟩) (xs.length + 1) (xs.length + 1), .int .i64 (s : Int)] W fun e w' => ∃ v, e = .returned (.tuple #[v, .int .i64 0]) ∧ Hid (NumV w' v (val 4294967296 xs % val 4294967296 ys) ∧ Below W.heap.size W w') from by
      refine (right_c W _ ls' (s : Int) hwl f2 (by omega) (by omega) (by omega) (by rw [Hid, Int.toNat_natCast]; exact hq2)).mono ?_
      rintro e w' (⟨h, _⟩ | ⟨_, hb, v, rfl, hN⟩)
      · omega
      · rw [Int.toNat_natCast, ← hend.2] at hN
        exact ⟨v, rfl, hN, hb⟩)
    have HTr := Lib.hid (fun (W' : World) (hb' : Below W.heap.size W W') => (trim_num W' _ os (hwo.below hb') f4))
    have HP := Lib.hid (And.intro hend.1 (And.intro hKD h8))
    have hwD : w.heap.size ≤ D := by omega
    have hc8b := fun (W' : World) (hb' : Below W.heap.size W W') => (boxed_below h6 hb').cell
    have HC8 := Lib.hid hc8b
    clear f1 f2 f3 f4 f5 f6 v1 v2 hend h1 h2 h3 h4 h5 h6 h7 h8 hwl hwo hXl hq2 hc8b hKD hsz hVs
    gi_wp2_with (refine ⟨trivial, ?_⟩; gi_at_call 90; refine (callsIn_wide.2 HRt.out).mono ?_; rintro e w2 ⟨vr, rfl, HR2⟩; have hc82 := HC8.out w2 HR2.out.2)
    refine ⟨trivial, ?_⟩
    refine (callsIn_wide.2 (HTr.out w2 HR2.out.2)).mono ?_
    rintro e w3 ⟨vq, zq, rfl, hRq, hCq, hvq, hlq, hBq⟩
    have HQ := Lib.hid (And.intro hRq (And.intro hCq (And.intro hvq hBq)))
    clear hRq hCq hvq hlq hBq hc82
    dsimp only
    gi_wp2
    obtain ⟨hRq, hCq, hvq, hBq⟩ := HQ.out
    obtain ⟨hend, hKD, hB⟩ := HP.out
    have hW2 := Below.size HR2.out.2
    have hKD2 : w3.heap[D]? = some (.deferred (some [])) := (hBq.block D (Nat.lt_of_lt_of_le hDlt hW2)).trans ((HR2.out.2.block D hDlt).trans hKD)
    refine ⟨by simp, .inl ⟨_, _, rfl, run_takeDeferred hKD2, ?_⟩⟩
    exact ⟨.tuple #[vq, vr], by simp [results, Tryz.f94, go_sem], below_deferred hwD hKD2 ((hB.trans (HR2.out.2.mono hB.size)).trans (hBq.mono (Nat.le_trans hB.size hW2))), vq, vr, rfl, NumV.put hKD2 ⟨zq, hRq, hCq, hvq.trans hend.symm⟩, NumV.put hKD2 (HR2.out.1.below hBq)⟩
  case stop => exact fun _ _ _ _ _ h _ => h.elim

end Go.Proofs.YtnncfbmddpijcaaGreatDoor
