/- SpanHolds. -/
import Derived.Test.YtnnnmhjcnkipbaaGreatDoorSpAt
namespace Go.Proofs.YtnnnmhjcnkipbaaGreatDoor
open Go Go.RowKit Go.Shelf AM
section
variable {x y u v : Dy} {i j b : Nat}
theorem hold_add1 (h : dv x ≤ dv y) (h' : dv u ≤ dv v) : dv (rdD b (addD x u)) ≤ atQ x y i + atQ u v j := by
  have := rd_le b (addD x u)
  rw [addD_dv] at this
  have := at_ge (k := i) h
  have := at_ge (k := j) h'
  grind
theorem hold_add2 (h : dv x ≤ dv y) (h' : dv u ≤ dv v) (hi : i ≤ 100) (hj : j ≤ 100) : atQ x y i + atQ u v j ≤ dv (ruD b (addD y v)) := by
  have := ru_ge b (addD y v)
  rw [addD_dv] at this
  have := at_le h hi
  have := at_le h' hj
  grind
theorem hold_sub1 (h : dv x ≤ dv y) (h' : dv u ≤ dv v) (hj : j ≤ 100) : dv (rdD b (addD x (negD v))) ≤ atQ x y i - atQ u v j := by
  have := rd_le b (addD x (negD v))
  rw [addD_dv, negD_dv] at this
  have := at_ge (k := i) h
  have := at_le h' hj
  grind
theorem hold_sub2 (h : dv x ≤ dv y) (h' : dv u ≤ dv v) (hi : i ≤ 100) : atQ x y i - atQ u v j ≤ dv (ruD b (addD y (negD u))) := by
  have := ru_ge b (addD y (negD u))
  rw [addD_dv, negD_dv] at this
  have := at_le h hi
  have := at_ge (k := j) h'
  grind
theorem hold_sum1 (h : dv x ≤ dv y) (h' : dv u ≤ dv v) : dv (s3 b x u x) ≤ atQ x y i + atQ u v j + atQ x y i := by
  unfold s3
  have h1 := rd_le b (addD (s2 b x u) x)
  rw [addD_dv] at h1
  unfold s2 at *
  have h2 := rd_le b (addD (rdD b x) u)
  rw [addD_dv] at h2
  have h3 := rd_le b x
  have := at_ge (k := i) h
  have := at_ge (k := j) h'
  grind
theorem hold_sum2 (h : dv x ≤ dv y) (h' : dv u ≤ dv v) (hi : i ≤ 100) (hj : j ≤ 100) : atQ x y i + atQ u v j + atQ x y i ≤ dv (t3 b y v y) := by
  unfold t3
  have h1 := ru_ge b (addD (t2 b y v) y)
  rw [addD_dv] at h1
  unfold t2 at *
  have h2 := ru_ge b (addD (ruD b y) v)
  rw [addD_dv] at h2
  have h3 := ru_ge b y
  have := at_le h hi
  have := at_le h' hj
  grind
end

set_option maxRecDepth 100000 in
theorem SpanHolds_go {x y u v : Dy} {i j b : Nat} {p0 p1 : Int} (ha : FitS x y) (hb : FitS u v) (hi : i ≤ 100) (hj : j ≤ 100) (h0 : partW p0 = (i : Int)) (h1 : partW p1 = (j : Int)) (hw : 2 ≤ b) (hw2 : b ≤ 500) : FitsP 3 [spS x y, spS u v, .agg [.raw (.int .i64 p0), .raw (.int .i64 p1), .raw (.int .i64 (b : Int))]] [] (.one (boolS true)) := by
  have hT : AllOk Tryz.prog Glob [
    Tr.call 14 [] [] (Av.one (Sv.cel (Cv.raw (Value.bool true)))),
    Tr.call 15 [Sv.cel (Cv.row (nat_lit 11) (nat_lit 0) (nat_lit 2) (nat_lit 2))] [(nat_lit 11, { t := 29, cs := [Cv.raw (Value.bool (decide (Dy.m x < (0 : Int)))), Cv.ent (nat (Int.natAbs (Dy.m x))), Cv.raw (Value.int IntKind.i64 (Dy.e x)), Cv.raw (Value.bool (decide (Dy.m y < (0 : Int)))), Cv.ent (nat (Int.natAbs (Dy.m y))), Cv.raw (Value.int IntKind.i64 (Dy.e y)), Cv.raw (Value.bool (decide (Dy.m u < (0 : Int)))), Cv.ent (nat (Int.natAbs (Dy.m u))), Cv.raw (Value.int IntKind.i64 (Dy.e u)), Cv.raw (Value.bool (decide (Dy.m v < (0 : Int)))), Cv.ent (nat (Int.natAbs (Dy.m v))), Cv.raw (Value.int IntKind.i64 (Dy.e v))], own := true })] (Av.one (Sv.cel (Cv.raw (Value.bool true)))),
    Tr.norm (nat_lit 18) (Av.one (Sv.cel (Cv.raw (Value.bool (decide ((↑b : Int) < (2 : Int))))))) (Av.one (Sv.cel (Cv.raw (Value.bool false)))),
    Tr.norm (nat_lit 21) (Av.one (Sv.cel (Cv.raw (Value.bool (decide ((↑b : Int) > (500 : Int))))))) (Av.one (Sv.cel (Cv.raw (Value.bool false)))),
    Tr.call 16 [Sv.agg [Cv.raw (Value.bool (decide (Dy.m x < (0 : Int)))), Cv.ent (nat (Int.natAbs (Dy.m x))), Cv.raw (Value.int IntKind.i64 (Dy.e x)), Cv.raw (Value.bool (decide (Dy.m y < (0 : Int)))), Cv.ent (nat (Int.natAbs (Dy.m y))), Cv.raw (Value.int IntKind.i64 (Dy.e y))], Sv.cel (Cv.raw (Value.int IntKind.i64 p0))] [] (Av.one (Sv.agg [Cv.raw (Value.bool (decide (Rat.num (atQ x y i) < (0 : Int)))), Cv.ent (nat (Int.natAbs (Rat.num (atQ x y i)))), Cv.ent (nat (Rat.den (atQ x y i)))])),
    Tr.call 16 [Sv.agg [Cv.raw (Value.bool (decide (Dy.m u < (0 : Int)))), Cv.ent (nat (Int.natAbs (Dy.m u))), Cv.raw (Value.int IntKind.i64 (Dy.e u)), Cv.raw (Value.bool (decide (Dy.m v < (0 : Int)))), Cv.ent (nat (Int.natAbs (Dy.m v))), Cv.raw (Value.int IntKind.i64 (Dy.e v))], Sv.cel (Cv.raw (Value.int IntKind.i64 p1))] [] (Av.one (Sv.agg [Cv.raw (Value.bool (decide (Rat.num (atQ u v j) < (0 : Int)))), Cv.ent (nat (Int.natAbs (Rat.num (atQ u v j)))), Cv.ent (nat (Rat.den (atQ u v j)))])),
    Tr.call 17 [Sv.agg [Cv.raw (Value.bool (decide (Dy.m x < (0 : Int)))), Cv.ent (nat (Int.natAbs (Dy.m x))), Cv.raw (Value.int IntKind.i64 (Dy.e x)), Cv.raw (Value.bool (decide (Dy.m y < (0 : Int)))), Cv.ent (nat (Int.natAbs (Dy.m y))), Cv.raw (Value.int IntKind.i64 (Dy.e y))], Sv.agg [Cv.raw (Value.bool (decide (Dy.m u < (0 : Int)))), Cv.ent (nat (Int.natAbs (Dy.m u))), Cv.raw (Value.int IntKind.i64 (Dy.e u)), Cv.raw (Value.bool (decide (Dy.m v < (0 : Int)))), Cv.ent (nat (Int.natAbs (Dy.m v))), Cv.raw (Value.int IntKind.i64 (Dy.e v))], Sv.cel (Cv.raw (Value.int IntKind.i64 (↑b : Int)))] [] (Av.tup [Sv.agg [Cv.raw (Value.bool (decide (Dy.m (rdD b (addD x u)) < (0 : Int)))), Cv.ent (nat (Int.natAbs (Dy.m (rdD b (addD x u))))), Cv.raw (Value.int IntKind.i64 (Dy.e (rdD b (addD x u)))), Cv.raw (Value.bool (decide (Dy.m (ruD b (addD y v)) < (0 : Int)))), Cv.ent (nat (Int.natAbs (Dy.m (ruD b (addD y v))))), Cv.raw (Value.int IntKind.i64 (Dy.e (ruD b (addD y v))))], Sv.cel (Cv.raw (Value.int IntKind.i64 (Int.ofNat (nat_lit 0))))]),
    Tr.call 18 [Sv.agg [Cv.raw (Value.bool (decide (Dy.m x < (0 : Int)))), Cv.ent (nat (Int.natAbs (Dy.m x))), Cv.raw (Value.int IntKind.i64 (Dy.e x)), Cv.raw (Value.bool (decide (Dy.m y < (0 : Int)))), Cv.ent (nat (Int.natAbs (Dy.m y))), Cv.raw (Value.int IntKind.i64 (Dy.e y))], Sv.agg [Cv.raw (Value.bool (decide (Dy.m u < (0 : Int)))), Cv.ent (nat (Int.natAbs (Dy.m u))), Cv.raw (Value.int IntKind.i64 (Dy.e u)), Cv.raw (Value.bool (decide (Dy.m v < (0 : Int)))), Cv.ent (nat (Int.natAbs (Dy.m v))), Cv.raw (Value.int IntKind.i64 (Dy.e v))], Sv.cel (Cv.raw (Value.int IntKind.i64 (↑b : Int)))] [] (Av.tup [Sv.agg [Cv.raw (Value.bool (decide (Dy.m (rdD b (addD x (negD v))) < (0 : Int)))), Cv.ent (nat (Int.natAbs (Dy.m (rdD b (addD x (negD v)))))), Cv.raw (Value.int IntKind.i64 (Dy.e (rdD b (addD x (negD v))))), Cv.raw (Value.bool (decide (Dy.m (ruD b (addD y (negD u))) < (0 : Int)))), Cv.ent (nat (Int.natAbs (Dy.m (ruD b (addD y (negD u)))))), Cv.raw (Value.int IntKind.i64 (Dy.e (ruD b (addD y (negD u)))))], Sv.cel (Cv.raw (Value.int IntKind.i64 (Int.ofNat (nat_lit 0))))]),
    Tr.call 19 [Sv.agg [Cv.raw (Value.bool (decide (Dy.m x < (0 : Int)))), Cv.ent (nat (Int.natAbs (Dy.m x))), Cv.raw (Value.int IntKind.i64 (Dy.e x)), Cv.raw (Value.bool (decide (Dy.m y < (0 : Int)))), Cv.ent (nat (Int.natAbs (Dy.m y))), Cv.raw (Value.int IntKind.i64 (Dy.e y))], Sv.agg [Cv.raw (Value.bool (decide (Dy.m u < (0 : Int)))), Cv.ent (nat (Int.natAbs (Dy.m u))), Cv.raw (Value.int IntKind.i64 (Dy.e u)), Cv.raw (Value.bool (decide (Dy.m v < (0 : Int)))), Cv.ent (nat (Int.natAbs (Dy.m v))), Cv.raw (Value.int IntKind.i64 (Dy.e v))], Sv.cel (Cv.raw (Value.int IntKind.i64 (↑b : Int)))] [] (Av.tup [Sv.agg [Cv.raw (Value.bool (decide (Dy.m (rdD b (loM x y u v)) < (0 : Int)))), Cv.ent (nat (Int.natAbs (Dy.m (rdD b (loM x y u v))))), Cv.raw (Value.int IntKind.i64 (Dy.e (rdD b (loM x y u v)))), Cv.raw (Value.bool (decide (Dy.m (ruD b (hiM x y u v)) < (0 : Int)))), Cv.ent (nat (Int.natAbs (Dy.m (ruD b (hiM x y u v))))), Cv.raw (Value.int IntKind.i64 (Dy.e (ruD b (hiM x y u v))))], Sv.cel (Cv.raw (Value.int IntKind.i64 (Int.ofNat (nat_lit 0))))]),
    Tr.call 20 [Sv.agg [Cv.raw (Value.bool (decide (Dy.m x < (0 : Int)))), Cv.ent (nat (Int.natAbs (Dy.m x))), Cv.raw (Value.int IntKind.i64 (Dy.e x)), Cv.raw (Value.bool (decide (Dy.m y < (0 : Int)))), Cv.ent (nat (Int.natAbs (Dy.m y))), Cv.raw (Value.int IntKind.i64 (Dy.e y))], Sv.cel (Cv.raw (Value.int IntKind.i64 (↑b : Int)))] [] (Av.tup [Sv.agg [Cv.raw (Value.bool (decide (Dy.m (rdD b x) < (0 : Int)))), Cv.ent (nat (Int.natAbs (Dy.m (rdD b x)))), Cv.raw (Value.int IntKind.i64 (Dy.e (rdD b x))), Cv.raw (Value.bool (decide (Dy.m (ruD b y) < (0 : Int)))), Cv.ent (nat (Int.natAbs (Dy.m (ruD b y)))), Cv.raw (Value.int IntKind.i64 (Dy.e (ruD b y)))], Sv.cel (Cv.raw (Value.int IntKind.i64 (Int.ofNat (nat_lit 0))))]),
    Tr.call 21 [Sv.agg [Cv.raw (Value.bool (decide (Rat.num (atQ x y i) < (0 : Int)))), Cv.ent (nat (Int.natAbs (Rat.num (atQ x y i)))), Cv.ent (nat (Rat.den (atQ x y i)))], Sv.agg [Cv.raw (Value.bool (decide (Rat.num (atQ u v j) < (0 : Int)))), Cv.ent (nat (Int.natAbs (Rat.num (atQ u v j)))), Cv.ent (nat (Rat.den (atQ u v j)))]] [] (Av.tup [Sv.agg [Cv.raw (Value.bool (decide (Rat.num (atQ x y i + atQ u v j) < (0 : Int)))), Cv.ent (nat (Int.natAbs (Rat.num (atQ x y i + atQ u v j)))), Cv.ent (nat (Rat.den (atQ x y i + atQ u v j)))], Sv.cel (Cv.raw (Value.int IntKind.i64 (Int.ofNat (nat_lit 0))))]),
    Tr.call 22 [Sv.agg [Cv.raw (Value.bool (decide (Rat.num (atQ x y i) < (0 : Int)))), Cv.ent (nat (Int.natAbs (Rat.num (atQ x y i)))), Cv.ent (nat (Rat.den (atQ x y i)))], Sv.agg [Cv.raw (Value.bool (decide (Rat.num (atQ u v j) < (0 : Int)))), Cv.ent (nat (Int.natAbs (Rat.num (atQ u v j)))), Cv.ent (nat (Rat.den (atQ u v j)))]] [] (Av.tup [Sv.agg [Cv.raw (Value.bool (decide (Rat.num (atQ x y i - atQ u v j) < (0 : Int)))), Cv.ent (nat (Int.natAbs (Rat.num (atQ x y i - atQ u v j)))), Cv.ent (nat (Rat.den (atQ x y i - atQ u v j)))], Sv.cel (Cv.raw (Value.int IntKind.i64 (Int.ofNat (nat_lit 0))))]),
    Tr.call 23 [Sv.agg [Cv.raw (Value.bool (decide (Rat.num (atQ x y i) < (0 : Int)))), Cv.ent (nat (Int.natAbs (Rat.num (atQ x y i)))), Cv.ent (nat (Rat.den (atQ x y i)))], Sv.agg [Cv.raw (Value.bool (decide (Rat.num (atQ u v j) < (0 : Int)))), Cv.ent (nat (Int.natAbs (Rat.num (atQ u v j)))), Cv.ent (nat (Rat.den (atQ u v j)))]] [] (Av.tup [Sv.agg [Cv.raw (Value.bool (decide (Rat.num (atQ x y i * atQ u v j) < (0 : Int)))), Cv.ent (nat (Int.natAbs (Rat.num (atQ x y i * atQ u v j)))), Cv.ent (nat (Rat.den (atQ x y i * atQ u v j)))], Sv.cel (Cv.raw (Value.int IntKind.i64 (Int.ofNat (nat_lit 0))))]),
    Tr.call 24 [Sv.cel (Cv.row (nat_lit 103) (nat_lit 0) (nat_lit 3) (nat_lit 3))] [(nat_lit 103, { t := 34, cs := [Cv.raw (Value.bool (decide (Rat.num (atQ x y i) < (0 : Int)))), Cv.ent (nat (Int.natAbs (Rat.num (atQ x y i)))), Cv.ent (nat (Rat.den (atQ x y i))), Cv.raw (Value.bool (decide (Rat.num (atQ u v j) < (0 : Int)))), Cv.ent (nat (Int.natAbs (Rat.num (atQ u v j)))), Cv.ent (nat (Rat.den (atQ u v j))), Cv.raw (Value.bool (decide (Rat.num (atQ x y i) < (0 : Int)))), Cv.ent (nat (Int.natAbs (Rat.num (atQ x y i)))), Cv.ent (nat (Rat.den (atQ x y i)))], own := true })] (Av.tup [Sv.agg [Cv.raw (Value.bool (decide (Rat.num (atQ x y i + atQ u v j + atQ x y i) < (0 : Int)))), Cv.ent (nat (Int.natAbs (Rat.num (atQ x y i + atQ u v j + atQ x y i)))), Cv.ent (nat (Rat.den (atQ x y i + atQ u v j + atQ x y i)))], Sv.cel (Cv.raw (Value.int IntKind.i64 (Int.ofNat (nat_lit 0))))]),
    Tr.call 25 [Sv.cel (Cv.raw (Value.int IntKind.i64 (↑b : Int))), Sv.cel (Cv.row (nat_lit 115) (nat_lit 0) (nat_lit 3) (nat_lit 3))] [(nat_lit 115, { t := 29, cs := [Cv.raw (Value.bool (decide (Dy.m x < (0 : Int)))), Cv.ent (nat (Int.natAbs (Dy.m x))), Cv.raw (Value.int IntKind.i64 (Dy.e x)), Cv.raw (Value.bool (decide (Dy.m y < (0 : Int)))), Cv.ent (nat (Int.natAbs (Dy.m y))), Cv.raw (Value.int IntKind.i64 (Dy.e y)), Cv.raw (Value.bool (decide (Dy.m u < (0 : Int)))), Cv.ent (nat (Int.natAbs (Dy.m u))), Cv.raw (Value.int IntKind.i64 (Dy.e u)), Cv.raw (Value.bool (decide (Dy.m v < (0 : Int)))), Cv.ent (nat (Int.natAbs (Dy.m v))), Cv.raw (Value.int IntKind.i64 (Dy.e v)), Cv.raw (Value.bool (decide (Dy.m x < (0 : Int)))), Cv.ent (nat (Int.natAbs (Dy.m x))), Cv.raw (Value.int IntKind.i64 (Dy.e x)), Cv.raw (Value.bool (decide (Dy.m y < (0 : Int)))), Cv.ent (nat (Int.natAbs (Dy.m y))), Cv.raw (Value.int IntKind.i64 (Dy.e y))], own := true })] (Av.tup [Sv.agg [Cv.raw (Value.bool (decide (Dy.m (s3 b x u x) < (0 : Int)))), Cv.ent (nat (Int.natAbs (Dy.m (s3 b x u x)))), Cv.raw (Value.int IntKind.i64 (Dy.e (s3 b x u x))), Cv.raw (Value.bool (decide (Dy.m (t3 b y v y) < (0 : Int)))), Cv.ent (nat (Int.natAbs (Dy.m (t3 b y v y)))), Cv.raw (Value.int IntKind.i64 (Dy.e (t3 b y v y)))], Sv.cel (Cv.raw (Value.int IntKind.i64 (Int.ofNat (nat_lit 0))))]),
    Tr.call 26 [Sv.agg [Cv.raw (Value.bool (decide (Dy.m (rdD b (addD x u)) < (0 : Int)))), Cv.ent (nat (Int.natAbs (Dy.m (rdD b (addD x u))))), Cv.raw (Value.int IntKind.i64 (Dy.e (rdD b (addD x u)))), Cv.raw (Value.bool (decide (Dy.m (ruD b (addD y v)) < (0 : Int)))), Cv.ent (nat (Int.natAbs (Dy.m (ruD b (addD y v))))), Cv.raw (Value.int IntKind.i64 (Dy.e (ruD b (addD y v))))], Sv.cel (Cv.raw (Value.int IntKind.i64 (Int.ofNat (nat_lit 0)))), Sv.agg [Cv.raw (Value.bool (decide (Rat.num (atQ x y i + atQ u v j) < (0 : Int)))), Cv.ent (nat (Int.natAbs (Rat.num (atQ x y i + atQ u v j)))), Cv.ent (nat (Rat.den (atQ x y i + atQ u v j)))], Sv.cel (Cv.raw (Value.int IntKind.i64 (↑b : Int)))] [] (Av.one (Sv.cel (Cv.raw (Value.bool true)))),
    Tr.call 26 [Sv.agg [Cv.raw (Value.bool (decide (Dy.m (rdD b (addD x (negD v))) < (0 : Int)))), Cv.ent (nat (Int.natAbs (Dy.m (rdD b (addD x (negD v)))))), Cv.raw (Value.int IntKind.i64 (Dy.e (rdD b (addD x (negD v))))), Cv.raw (Value.bool (decide (Dy.m (ruD b (addD y (negD u))) < (0 : Int)))), Cv.ent (nat (Int.natAbs (Dy.m (ruD b (addD y (negD u)))))), Cv.raw (Value.int IntKind.i64 (Dy.e (ruD b (addD y (negD u)))))], Sv.cel (Cv.raw (Value.int IntKind.i64 (Int.ofNat (nat_lit 0)))), Sv.agg [Cv.raw (Value.bool (decide (Rat.num (atQ x y i - atQ u v j) < (0 : Int)))), Cv.ent (nat (Int.natAbs (Rat.num (atQ x y i - atQ u v j)))), Cv.ent (nat (Rat.den (atQ x y i - atQ u v j)))], Sv.cel (Cv.raw (Value.int IntKind.i64 (↑b : Int)))] [] (Av.one (Sv.cel (Cv.raw (Value.bool true)))),
    Tr.call 26 [Sv.agg [Cv.raw (Value.bool (decide (Dy.m (rdD b (loM x y u v)) < (0 : Int)))), Cv.ent (nat (Int.natAbs (Dy.m (rdD b (loM x y u v))))), Cv.raw (Value.int IntKind.i64 (Dy.e (rdD b (loM x y u v)))), Cv.raw (Value.bool (decide (Dy.m (ruD b (hiM x y u v)) < (0 : Int)))), Cv.ent (nat (Int.natAbs (Dy.m (ruD b (hiM x y u v))))), Cv.raw (Value.int IntKind.i64 (Dy.e (ruD b (hiM x y u v))))], Sv.cel (Cv.raw (Value.int IntKind.i64 (Int.ofNat (nat_lit 0)))), Sv.agg [Cv.raw (Value.bool (decide (Rat.num (atQ x y i * atQ u v j) < (0 : Int)))), Cv.ent (nat (Int.natAbs (Rat.num (atQ x y i * atQ u v j)))), Cv.ent (nat (Rat.den (atQ x y i * atQ u v j)))], Sv.cel (Cv.raw (Value.int IntKind.i64 (↑b : Int)))] [] (Av.one (Sv.cel (Cv.raw (Value.bool true)))),
    Tr.call 26 [Sv.agg [Cv.raw (Value.bool (decide (Dy.m (rdD b x) < (0 : Int)))), Cv.ent (nat (Int.natAbs (Dy.m (rdD b x)))), Cv.raw (Value.int IntKind.i64 (Dy.e (rdD b x))), Cv.raw (Value.bool (decide (Dy.m (ruD b y) < (0 : Int)))), Cv.ent (nat (Int.natAbs (Dy.m (ruD b y)))), Cv.raw (Value.int IntKind.i64 (Dy.e (ruD b y)))], Sv.cel (Cv.raw (Value.int IntKind.i64 (Int.ofNat (nat_lit 0)))), Sv.agg [Cv.raw (Value.bool (decide (Rat.num (atQ x y i) < (0 : Int)))), Cv.ent (nat (Int.natAbs (Rat.num (atQ x y i)))), Cv.ent (nat (Rat.den (atQ x y i)))], Sv.cel (Cv.raw (Value.int IntKind.i64 (↑b : Int)))] [] (Av.one (Sv.cel (Cv.raw (Value.bool true)))),
    Tr.call 26 [Sv.agg [Cv.raw (Value.bool (decide (Dy.m (s3 b x u x) < (0 : Int)))), Cv.ent (nat (Int.natAbs (Dy.m (s3 b x u x)))), Cv.raw (Value.int IntKind.i64 (Dy.e (s3 b x u x))), Cv.raw (Value.bool (decide (Dy.m (t3 b y v y) < (0 : Int)))), Cv.ent (nat (Int.natAbs (Dy.m (t3 b y v y)))), Cv.raw (Value.int IntKind.i64 (Dy.e (t3 b y v y)))], Sv.cel (Cv.raw (Value.int IntKind.i64 (Int.ofNat (nat_lit 0)))), Sv.agg [Cv.raw (Value.bool (decide (Rat.num (atQ x y i + atQ u v j + atQ x y i) < (0 : Int)))), Cv.ent (nat (Int.natAbs (Rat.num (atQ x y i + atQ u v j + atQ x y i)))), Cv.ent (nat (Rat.den (atQ x y i + atQ u v j + atQ x y i)))], Sv.cel (Cv.raw (Value.int IntKind.i64 (↑b : Int)))] [] (Av.one (Sv.cel (Cv.raw (Value.bool true))))] := ⟨
    between_f,
    sfitTwo_f ha hb _ _,
    norm_bool (decide_eq_false (show ¬ (b : Int) < 2 by omega)),
    norm_bool (decide_eq_false (show ¬ (b : Int) > 500 by omega)),
    at_f ha hi h0,
    at_f hb hj h1,
    addS_f ha.a.bd ha.b.bd hb.a.bd hb.b.bd (by omega) hw (by omega),
    subS_f ha.a.bd ha.b.bd hb.a.bd hb.b.bd (by omega) hw (by omega),
    mulS_f ha.a.bd ha.b.bd hb.a.bd hb.b.bd (by omega) hw (by omega),
    roundS_f ha.a.bd ha.b.bd (by omega) hw (by omega),
    addQ_f (at_bq ha hi) (at_bq hb hj) (by omega),
    subQ_f (at_bq ha hi) (at_bq hb hj) (by omega),
    mulQ_f (at_bq ha hi) (at_bq hb hj) (by omega),
    sum3_f (at_bq ha hi) (at_bq hb hj) (at_bq ha hi) (by omega) rfl _ _,
    sumS_f ha.a.bd ha.b.bd hb.a.bd hb.b.bd ha.a.bd ha.b.bd (by omega) hw (by omega) _ _,
    hasR_f ((ha.a.bd.add hb.a.bd).rd (by omega)) ((ha.b.bd.add hb.b.bd).ru (by omega)) ((at_bq ha hi).add (at_bq hb hj)) (by omega) rfl rfl (hold_add1 ha.le hb.le) (hold_add2 ha.le hb.le hi hj) (rd_few (by omega)) (ru_few (by omega)) ,
    hasR_f ((ha.a.bd.add hb.b.bd.neg).rd (by omega)) ((ha.b.bd.add hb.a.bd.neg).ru (by omega)) ((at_bq ha hi).sub (at_bq hb hj)) (by omega) rfl rfl (hold_sub1 ha.le hb.le hj) (hold_sub2 ha.le hb.le hi) (rd_few (by omega)) (ru_few (by omega)) ,
    hasR_f ((loM_bd ha.a.bd ha.b.bd hb.a.bd hb.b.bd).rd (by omega)) ((hiM_bd ha.a.bd ha.b.bd hb.a.bd hb.b.bd).ru (by omega)) ((at_bq ha hi).mul (at_bq hb hj)) (by omega) rfl rfl (Rat.le_trans (rd_le _ _) (loM_le (at_ge ha.le) (at_le ha.le hi) (at_ge hb.le) (at_le hb.le hj))) (Rat.le_trans (hiM_ge (at_ge ha.le) (at_le ha.le hi) (at_ge hb.le) (at_le hb.le hj)) (ru_ge _ _)) (rd_few (by omega)) (ru_few (by omega)) ,
    hasR_f (ha.a.bd.rd (by omega)) (ha.b.bd.ru (by omega)) (at_bq ha hi) (by omega) rfl rfl (Rat.le_trans (rd_le _ _) (at_ge ha.le)) (Rat.le_trans (at_le ha.le hi) (ru_ge _ _)) (rd_few (by omega)) (ru_few (by omega)) ,
    hasR_f (s3_bd (by omega) ha.a.bd hb.a.bd ha.a.bd) (t3_bd (by omega) ha.b.bd hb.b.bd ha.b.bd) (((at_bq ha hi).add (at_bq hb hj)).add (at_bq ha hi)) (by omega) rfl rfl (hold_sum1 ha.le hb.le) (hold_sum2 ha.le hb.le hi hj) (rd_few (by omega)) (ru_few (by omega)) , trivial⟩
  exact fits_of_trace (n := 500) (k0 := 0) hT Tryz.func3 (by kernel_rfl) (by kernel_rfl) (by kernel_rfl)

set_option maxRecDepth 100000 in
theorem SpanHolds_b1 {x y u v : Dy} {p0 p1 w : Int} (ha : FitS x y) (hb : FitS u v) (h : w < 2) : FitsP 3 [spS x y, spS u v, .agg [.raw (.int .i64 p0), .raw (.int .i64 p1), .raw (.int .i64 w)]] [] (.one (boolS true)) := by
  have hT : AllOk Tryz.prog Glob [
    Tr.call 14 [] [] (Av.one (Sv.cel (Cv.raw (Value.bool true)))),
    Tr.call 15 [Sv.cel (Cv.row (nat_lit 11) (nat_lit 0) (nat_lit 2) (nat_lit 2))] [(nat_lit 11, { t := 29, cs := [Cv.raw (Value.bool (decide (Dy.m x < (0 : Int)))), Cv.ent (nat (Int.natAbs (Dy.m x))), Cv.raw (Value.int IntKind.i64 (Dy.e x)), Cv.raw (Value.bool (decide (Dy.m y < (0 : Int)))), Cv.ent (nat (Int.natAbs (Dy.m y))), Cv.raw (Value.int IntKind.i64 (Dy.e y)), Cv.raw (Value.bool (decide (Dy.m u < (0 : Int)))), Cv.ent (nat (Int.natAbs (Dy.m u))), Cv.raw (Value.int IntKind.i64 (Dy.e u)), Cv.raw (Value.bool (decide (Dy.m v < (0 : Int)))), Cv.ent (nat (Int.natAbs (Dy.m v))), Cv.raw (Value.int IntKind.i64 (Dy.e v))], own := true })] (Av.one (Sv.cel (Cv.raw (Value.bool true)))),
    Tr.norm (nat_lit 18) (Av.one (Sv.cel (Cv.raw (Value.bool (decide (w < (2 : Int))))))) (Av.one (Sv.cel (Cv.raw (Value.bool true))))] := ⟨
    between_f,
    sfitTwo_f ha hb _ _,
    norm_bool (decide_eq_true h), trivial⟩
  exact fits_of_trace (n := 300) (k0 := 0) hT Tryz.func3 (by kernel_rfl) (by kernel_rfl) (by kernel_rfl)

set_option maxRecDepth 100000 in
theorem SpanHolds_b2 {x y u v : Dy} {p0 p1 w : Int} (ha : FitS x y) (hb : FitS u v) (h1 : ¬ w < 2) (h : w > 500) : FitsP 3 [spS x y, spS u v, .agg [.raw (.int .i64 p0), .raw (.int .i64 p1), .raw (.int .i64 w)]] [] (.one (boolS true)) := by
  have hT : AllOk Tryz.prog Glob [
    Tr.call 14 [] [] (Av.one (Sv.cel (Cv.raw (Value.bool true)))),
    Tr.call 15 [Sv.cel (Cv.row (nat_lit 11) (nat_lit 0) (nat_lit 2) (nat_lit 2))] [(nat_lit 11, { t := 29, cs := [Cv.raw (Value.bool (decide (Dy.m x < (0 : Int)))), Cv.ent (nat (Int.natAbs (Dy.m x))), Cv.raw (Value.int IntKind.i64 (Dy.e x)), Cv.raw (Value.bool (decide (Dy.m y < (0 : Int)))), Cv.ent (nat (Int.natAbs (Dy.m y))), Cv.raw (Value.int IntKind.i64 (Dy.e y)), Cv.raw (Value.bool (decide (Dy.m u < (0 : Int)))), Cv.ent (nat (Int.natAbs (Dy.m u))), Cv.raw (Value.int IntKind.i64 (Dy.e u)), Cv.raw (Value.bool (decide (Dy.m v < (0 : Int)))), Cv.ent (nat (Int.natAbs (Dy.m v))), Cv.raw (Value.int IntKind.i64 (Dy.e v))], own := true })] (Av.one (Sv.cel (Cv.raw (Value.bool true)))),
    Tr.norm (nat_lit 18) (Av.one (Sv.cel (Cv.raw (Value.bool (decide (w < (2 : Int))))))) (Av.one (Sv.cel (Cv.raw (Value.bool false)))),
    Tr.norm (nat_lit 21) (Av.one (Sv.cel (Cv.raw (Value.bool (decide (w > (500 : Int))))))) (Av.one (Sv.cel (Cv.raw (Value.bool true))))] := ⟨
    between_f,
    sfitTwo_f ha hb _ _,
    norm_bool (decide_eq_false h1),
    norm_bool (decide_eq_true h), trivial⟩
  exact fits_of_trace (n := 300) (k0 := 0) hT Tryz.func3 (by kernel_rfl) (by kernel_rfl) (by kernel_rfl)

theorem SpanHolds_fit {x y u v : Dy} (ha : FitS x y) (hb : FitS u v) (p0 p1 w : Int) : FitsP 3 [spS x y, spS u v, .agg [.raw (.int .i64 p0), .raw (.int .i64 p1), .raw (.int .i64 w)]] [] (.one (boolS true)) := by
  by_cases h1 : w < 2
  · exact SpanHolds_b1 ha hb h1
  by_cases h2 : w > 500
  · exact SpanHolds_b2 ha hb h1 h2
  obtain ⟨b, rfl⟩ : ∃ b : Nat, w = b := ⟨w.toNat, by omega⟩
  obtain ⟨i, hi, h0⟩ := partW_in p0
  obtain ⟨j, hj, h3⟩ := partW_in p1
  exact SpanHolds_go ha hb hi hj h0 h3 (by omega) (by omega)

set_option maxRecDepth 100000 in
theorem SpanHolds_unfit (m0 : Bool) (g0 : Ent) (x0 : Int) (n0 : Bool) (h0 : Ent) (y0 : Int) (m1 : Bool) (g1 : Ent) (x1 : Int) (n1 : Bool) (h1 : Ent) (y1 : Int) (p0 : Int) (p1 : Int) (w : Int) (hu : ∀ (z : Nat) (o : Bool), FitsP 15 [Sv.cel (Cv.row z 0 2 2)] [(z, ⟨29, [.raw (.bool m0), .ent g0, .raw (.int .i64 x0), .raw (.bool n0), .ent h0, .raw (.int .i64 y0), .raw (.bool m1), .ent g1, .raw (.int .i64 x1), .raw (.bool n1), .ent h1, .raw (.int .i64 y1)], o⟩)] (.one (boolS false))) : FitsP 3 [.agg [.raw (.bool m0), .ent g0, .raw (.int .i64 x0), .raw (.bool n0), .ent h0, .raw (.int .i64 y0)], .agg [.raw (.bool m1), .ent g1, .raw (.int .i64 x1), .raw (.bool n1), .ent h1, .raw (.int .i64 y1)], .agg [.raw (.int .i64 p0), .raw (.int .i64 p1), .raw (.int .i64 w)]] [] (.one (boolS true)) := by
  have hT : AllOk Tryz.prog Glob [
    Tr.call 14 [] [] (Av.one (Sv.cel (Cv.raw (Value.bool true)))),
    Tr.call 15 [Sv.cel (Cv.row (nat_lit 11) (nat_lit 0) (nat_lit 2) (nat_lit 2))] [(nat_lit 11, { t := 29, cs := [Cv.raw (Value.bool m0), Cv.ent g0, Cv.raw (Value.int IntKind.i64 x0), Cv.raw (Value.bool n0), Cv.ent h0, Cv.raw (Value.int IntKind.i64 y0), Cv.raw (Value.bool m1), Cv.ent g1, Cv.raw (Value.int IntKind.i64 x1), Cv.raw (Value.bool n1), Cv.ent h1, Cv.raw (Value.int IntKind.i64 y1)], own := true })] (Av.one (Sv.cel (Cv.raw (Value.bool false))))] := ⟨
    between_f,
    hu _ _, trivial⟩
  exact fits_of_trace (n := 300) (k0 := 0) hT Tryz.func3 (by kernel_rfl) (by kernel_rfl) (by kernel_rfl)

theorem SpanHolds_un0 {m : Bool} {xs : List Nat} {e : Int} {m' : Bool} {ys : List Nat} {e' : Int} (hu : UnfitS m xs e m' ys e') (m1 : Bool) (a1 : List Nat) (e1 : Int) (n1 : Bool) (b1 : List Nat) (f1 : Int) (p0 : Int) (p1 : Int) (w : Int) : FitsP 3 [spA m xs e m' ys e', spA m1 a1 e1 n1 b1 f1, .agg [.raw (.int .i64 p0), .raw (.int .i64 p1), .raw (.int .i64 w)]] [] (.one (boolS true)) := SpanHolds_unfit _ _ _ _ _ _ _ _ _ _ _ _ _ _ _ fun z o => sunfit2_0 hu m1 a1 e1 n1 b1 f1 z o

theorem SpanHolds_un1 {x0 y0 : Dy} (h0 : FitS x0 y0) {m : Bool} {xs : List Nat} {e : Int} {m' : Bool} {ys : List Nat} {e' : Int} (hu : UnfitS m xs e m' ys e') (p0 : Int) (p1 : Int) (w : Int) : FitsP 3 [spS x0 y0, spA m xs e m' ys e', .agg [.raw (.int .i64 p0), .raw (.int .i64 p1), .raw (.int .i64 w)]] [] (.one (boolS true)) := SpanHolds_unfit _ _ _ _ _ _ _ _ _ _ _ _ _ _ _ fun z o => sunfit2_1 h0 hu z o
end Go.Proofs.YtnnnmhjcnkipbaaGreatDoor
