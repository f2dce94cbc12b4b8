import PyProof.Rows.All
import Wide.All
import OpenK.AllK
import Wide.FinOn
import HandS.ForMost
import HandS.Wide
import HandS.WideBits
import HandS.IsInst
import HandS.SortInts
import HandS.RaiseMore
import HandS.Style
import HandS.Zip
import HandS.Evl
import KE.KTupSum
import HandS.TupAny
import HandS.SortKw
import HandS.Conv
import HandS.SetFor
import KE.GoesMore
import HandS.ForExc
import HandS.ExcInit
import HandS.ExcField
import KE.KExcIs
import HandS.ExcIs
import HandS.Star
import HandS.SlotsOwn
import HandS.FStr
import KE.KCallOwn
import KE.KFmtOwn
import HandS.TupMul
import HandS.More
import HandS.WrittenGet
import HandS.Walk
import HandS.Text
import PyProof.InstNe
import HandS.ExcOwn
import HandS.HeadHook3
import PyProof.EqAt
import HandS.Gcd
import HandS.Strs
import HandS.Codes
import HandS.Defaults
import PySem.Challenge.RW_everybase_k09_rows_refused
set_option Elab.async false
set_option linter.all false
set_option maxRecDepth 100000
set_option maxHeartbeats 4000000
namespace My
open PySem PySem.Spec PyProof.Rows L2 Evl

/-! ### one more rule: sum of a tuple of ints -/
section
variable {X : Cx}
def rSumT (K : PySem.W.Frag) : List V → Hp → VK → Prop := fun vs H Q => ∃ (a : Addr) (ns : List Int), vs = [V.ref a] ∧ SqT K H a (ns.map V.int) ∧ Q (.int ns.sum) H
theorem cr_sumT (hc : X.calm = true) : CallR X (.builtin "sum") (rSumT X.K) := by
  intro pins s σ H vs us Q I r h
  obtain ⟨a, ns, rfl, hs, q⟩ := h
  obtain ⟨its, rv, hl, _⟩ := I.tuple hs
  rw [Vals.ref1 r]
  have hi : IntsAre its ns := rv.ints
  obtain ⟨xs, e⟩ := hi.allInts.items
  have hn : numsOf (intItems xs).toList = ns := by rw [← e]; exact hi.numsOf
  rw [nums_intItems] at hn
  have hl' : s.heap.IsTuple a (intItems xs) := by
    rw [← e]
    exact hl
  refine PySem.W.ktm_sumG (I.ok.hd hc) hl' fun h' tk t' hk => ?_
  refine ⟨.int ns.sum, H, I.kept hk, ⟨t', ?_⟩, q⟩
  rw [preSum_eq, List.take_of_length_le (by simp), hn]
end

/-! ### isinstance of built-in values -/
def vty (H : Hp) : V → Option String
  | .non => some "NoneType"
  | .bl _ => some "bool"
  | .int _ => some "int"
  | .str _ => some "str"
  | .ref a => match H a with
    | some (.lst _) => some "list"
    | some (.tup _) => some "tuple"
    | _ => none
  | _ => none
theorem tyX_of {K : PySem.W.Frag} {H : Hp} {x : V} {t : String} (h : vty H x = some t) : TyX K H x (.type t) := by
  unfold vty at h
  split at h
  · cases h; exact .base .non
  · cases h; exact .base (.bl _)
  · cases h; exact .base (.int _)
  · cases h; exact .base (.str _)
  · split at h
    · cases h; rename_i e; exact .base (.lst e)
    · cases h; rename_i e; exact .base (.tup e)
    · cases h
  · cases h
section
variable {X : Cx}
def rIsiV : List V → Hp → VK → Prop
  | [x, .ty n], H, Q => ∃ t b, vty H x = some t ∧ kitB t n = some b ∧ Q (.bl b) H
  | _, _, _ => False
theorem call_isiV : CallR X (.builtin "isinstance") rIsiV := by
  intro pins s σ H xs us Q I r h
  unfold rIsiV at h
  split at h
  · obtain ⟨t, b, h1, h2, q⟩ := h
    exact call_isi pins s σ H _ us Q I r ⟨_, _, _, _, b, rfl, .ty _, tyX_of h1, kit_ty h2, q⟩
  · exact h.elim
end
theorem kb1 : kitB "int" "int" = some true := by decide +kernel
theorem kb2 : kitB "int" "bool" = some false := by decide +kernel
theorem kb3 : kitB "bool" "int" = some true := by decide +kernel
theorem kb4 : kitB "bool" "bool" = some true := by decide +kernel
theorem kb5 : kitB "NoneType" "int" = some false := by decide +kernel
theorem kb6 : kitB "str" "int" = some false := by decide +kernel
theorem kb7 : kitB "list" "int" = some false := by decide +kernel
theorem kb8 : kitB "tuple" "int" = some false := by decide +kernel
theorem kb9 : kitB "list" "list" = some true := by decide +kernel

/-! ### heaps that grow -/
theorem _root_.Evl.Ex.free {H H' : Hp} {p : Addr} (e : Ex H H') (h : H' p = none) : H p = none := fresh_back e h
theorem _root_.Evl.Ex.sql {K : PySem.W.Frag} {H H' : Hp} {a : Addr} {xs : List V} (e : Ex H H') (h : SqL K H a xs) : SqL K H' a xs := ex_l e h
theorem _root_.Evl.Ex.sqt {K : PySem.W.Frag} {H H' : Hp} {a : Addr} {xs : List V} (e : Ex H H') (h : SqT K H a xs) : SqT K H' a xs := ex_t e h
/-- a new object: what it is told by, and that nothing else changed -/
theorem new_of {H : Hp} {o : HO} {Q : VK} (h : ∀ p H1, H p = none → Ex H H1 → H1 p = some o → Q (.ref p) H1) : ∀ p, H p = none → Q (.ref p) (upd H p o) :=
  fun p hp => h p _ hp (Ex.new hp) upd_same
theorem sz_le {n : Nat} (h : n ≤ 100000) : n ≤ sizeLine := Nat.le_trans h (by decide)

/-! ### bounds of wide ints -/
theorem nab {i : Int} {n : Nat} (h0 : -(2 ^ n) < i) (h1 : i < 2 ^ n) : i.natAbs < 2 ^ n := by
  have e : ((2 ^ n : Nat) : Int) = 2 ^ n := by simp
  omega
theorem mulOk {i j : Int} (a0 : -(2 ^ 250) < i) (a1 : i < 2 ^ 250) (b0 : -(2 ^ 250) < j) (b1 : j < 2 ^ 250) : CMulX i j :=
  mulx_ok (nab a0 a1) (nab b0 b1) (by decide)
theorem divOk {i j : Int} (a0 : 0 < j) (a1 : j < 2 ^ 250) : CDivW i j :=
  wide_div a0 (nab (n := 250) (by omega) a1) (by decide) (by decide)
theorem powOk {i j : Int} (h0 : 0 ≤ j) (h1 : j ≤ 1000) (a0 : -1000 < i) (a1 : i < 1000) : CPow i j := ⟨h0, by omega, by omega⟩
theorem reprOk {i : Int} (a0 : -(2 ^ 250) < i) (a1 : i < 2 ^ 250) : i.natAbs.log2 < 1920 :=
  Nat.lt_of_lt_of_le (PySem.Flt.log2_lt_of (by decide) (nab a0 a1)) (by decide)

/-! ### rules with readings by cases -/
section
variable {X : Cx}
def rInt1 : List V → Hp → VK → Prop
  | [.int i], H, Q => Q (.int i) H
  | [.bl k], H, Q => Q (.int (if k then 1 else 0)) H
  | _, _, _ => False
theorem call_intM : CallR X (.type "int") rInt1 := by
  intro pins s σ H xs us Q I r h
  unfold rInt1 at h
  split at h
  · exact call_int1 pins s σ H _ us Q I r (.inl ⟨_, rfl, h⟩)
  · exact call_int1 pins s σ H _ us Q I r (.inr ⟨_, rfl, h⟩)
  · exact h.elim
def rMin2 : List V → Hp → VK → Prop
  | [.int i, .int j], H, Q => Q (.int (if j < i then j else i)) H
  | _, _, _ => False
def rMax2 : List V → Hp → VK → Prop
  | [.int i, .int j], H, Q => Q (.int (if j > i then j else i)) H
  | _, _, _ => False
theorem call_minM (hc : X.calm = true) : CallR X (.builtin "min") rMin2 := by
  intro pins s σ H xs us Q I r h
  unfold rMin2 at h
  split at h
  · exact call_min2 hc pins s σ H _ us Q I r ⟨_, _, rfl, h⟩
  · exact h.elim
theorem call_maxM (hc : X.calm = true) : CallR X (.builtin "max") rMax2 := by
  intro pins s σ H xs us Q I r h
  unfold rMax2 at h
  split at h
  · exact call_max2 hc pins s σ H _ us Q I r ⟨_, _, rfl, h⟩
  · exact h.elim
def rRepr1 : List V → Hp → VK → Prop
  | [.int i], H, Q => i.natAbs.log2 < 1920 ∧ Q (.str (toString i)) H
  | _, _, _ => False
theorem call_reprM : CallR X (.builtin "repr") rRepr1 := by
  intro pins s σ H xs us Q I r h
  unfold rRepr1 at h
  split at h
  · exact SkE.call_repr_int pins s σ H _ us Q I r ⟨_, rfl, h⟩
  · exact h.elim
/-- xs[i] of a tracked list -/
def rIx1 (K : PySem.W.Frag) : R2
  | .ref p, .int i, H, Q => ∃ xs v, SqL K H p xs ∧ atI xs i = some v ∧ Q v H
  | _, _, _, _ => False
theorem ix_listM : IxR X (rIx1 X.K) := by
  intro value slice pins s σ H x y v u Q I rx ry h hs
  unfold rIx1 at h
  split at h
  · obtain ⟨xs, z, h1, h2, q⟩ := h
    exact ix_list value slice pins s σ H _ _ v u Q I rx ry ⟨_, _, _, _, rfl, rfl, h1, h2, q⟩ hs
  · exact h.elim
/-- xs[lo:hi] of a list -/
def rSlM (K : PySem.W.Frag) : V → Option Int → Option Int → Hp → VK → Prop
  | .ref a, lo, hi, H, Q => ∃ xs, SqL K H a xs ∧ ∀ p, H p = none → Q (.ref p) (upd H p (.lst (cutV xs lo hi)))
  | _, _, _, _, _ => False
theorem sl_listM : SlR X (rSlM X.K) := by
  intro pins s σ H x v vl vu lo hi sl Q I rx hs pl pu h
  unfold rSlM at h
  split at h
  · obtain ⟨xs, h1, q⟩ := h
    exact sl_list pins s σ H _ v vl vu _ _ sl Q I rx hs pl pu ⟨_, _, rfl, h1, q⟩
  · exact h.elim
/-- xs.append(y), xs.pop() of a tracked list -/
def rAppM : V → List V → Hp → VK → Prop
  | .ref l, [y], H, Q => ∃ xs, H l = some (.lst xs) ∧ xs.length < sizeLine ∧ Q .non (upd H l (.lst (xs ++ [y])))
  | _, _, _, _ => False
def rPopM : V → List V → Hp → VK → Prop
  | .ref l, [], H, Q => ∃ xs y, H l = some (.lst xs) ∧ xs[xs.length - 1]? = some y ∧ Q y (upd H l (.lst xs.dropLast))
  | _, _, _, _ => False
theorem mt_appendM : MtR X "list.append" rAppM := by
  intro pins s σ H x vs v us Q I rx r h
  unfold rAppM at h
  split at h
  · obtain ⟨xs, h1, h2, q⟩ := h
    exact mt_append pins s σ H _ _ v us Q I rx r ⟨_, _, _, rfl, rfl, h1, h2, q⟩
  · exact h.elim
theorem mt_popM : MtR X "list.pop" rPopM := by
  intro pins s σ H x vs v us Q I rx r h
  unfold rPopM at h
  split at h
  · obtain ⟨xs, y, h1, h2, q⟩ := h
    exact mt_pop pins s σ H _ _ v us Q I rx r ⟨_, _, _, rfl, rfl, h1, h2, q⟩
  · exact h.elim
end

/-! ### == of a list of ints and [] -/
theorem canLayInts : ∀ cs : List Int, PyData.canLayAll0 (cs.map PyData.int) = true
  | [] => rfl
  | c :: cs => by
    rw [List.map_cons, PyData.canLayAll0, canLayInts cs, PyData.canLay0]
    rfl
theorem depthInts : ∀ cs : List Int, PyData.depthAll (cs.map PyData.int) = 0
  | [] => rfl
  | c :: cs => by
    rw [List.map_cons, PyData.depthAll, depthInts cs, PyData.depth]
    rfl
theorem shapedInts (cs : List Int) : SeqAt.shaped (.list (cs.map PyData.int)) = true := by
  unfold SeqAt.shaped
  rw [PyData.canLay0, PyData.depth, canLayInts, depthInts]
  rfl
theorem shapedIntsT (cs : List Int) : SeqAt.shaped (.tuple (cs.map PyData.int)) = true := by
  unfold SeqAt.shaped
  rw [PyData.canLay0, PyData.depth, canLayInts, depthInts]
  rfl
theorem eqvAllInts : ∀ xs ys : List Int, PyData.eqvAll (xs.map PyData.int) (ys.map PyData.int) = decide (xs = ys)
  | [], [] => rfl
  | [], y :: ys => rfl
  | x :: xs, [] => rfl
  | x :: xs, y :: ys => by
    rw [List.map_cons, List.map_cons, PyData.eqvAll, eqvAllInts xs ys, PyData.eqv]
    by_cases h1 : x = y <;> by_cases h2 : xs = ys <;> simp [h1, h2]
theorem eqvLists (xs ys : List Int) : PyData.eqv (.list (xs.map PyData.int)) (.list (ys.map PyData.int)) = decide (xs = ys) := by
  rw [PyData.eqv, eqvAllInts]
theorem eqvTups (xs ys : List Int) : PyData.eqv (.tuple (xs.map PyData.int)) (.tuple (ys.map PyData.int)) = decide (xs = ys) := by
  rw [PyData.eqv, eqvAllInts]
/-- == and != of two lists of ints, two tuples of ints -/
theorem dpInts {K : PySem.W.Frag} {H : Hp} : ∀ cs : List Int, DpAll K H (cs.map V.int) (cs.map PyData.int)
  | [] => .nil
  | c :: cs => .cons (.int c) (dpInts cs)
theorem neLists {K : PySem.W.Frag} {H : Hp} {a b : Addr} {xs ys : List Int} {Q : VK} (ha : SqL K H a (xs.map V.int)) (hb : SqL K H b (ys.map V.int)) (h : Q (.bl (!decide (xs = ys))) H) : rNeD K (.ref a) (.ref b) H Q :=
  ⟨_, _, .lst ha (dpInts xs), .lst hb (dpInts ys), shapedInts xs, shapedInts ys, by rw [eqvLists]; exact h⟩
theorem eqLists {K : PySem.W.Frag} {H : Hp} {a b : Addr} {xs ys : List Int} {Q : VK} (ha : SqL K H a (xs.map V.int)) (hb : SqL K H b (ys.map V.int)) (h : Q (.bl (decide (xs = ys))) H) : rEqD K (.ref a) (.ref b) H Q :=
  ⟨_, _, .lst ha (dpInts xs), .lst hb (dpInts ys), shapedInts xs, shapedInts ys, by rw [eqvLists]; exact h⟩
theorem neTups {K : PySem.W.Frag} {H : Hp} {a b : Addr} {xs ys : List Int} {Q : VK} (ha : SqT K H a (xs.map V.int)) (hb : SqT K H b (ys.map V.int)) (h : Q (.bl (!decide (xs = ys))) H) : rNeD K (.ref a) (.ref b) H Q :=
  ⟨_, _, .tup ha (dpInts xs), .tup hb (dpInts ys), shapedIntsT xs, shapedIntsT ys, by rw [eqvTups]; exact h⟩
theorem eqTups {K : PySem.W.Frag} {H : Hp} {a b : Addr} {xs ys : List Int} {Q : VK} (ha : SqT K H a (xs.map V.int)) (hb : SqT K H b (ys.map V.int)) (h : Q (.bl (decide (xs = ys))) H) : rEqD K (.ref a) (.ref b) H Q :=
  ⟨_, _, .tup ha (dpInts xs), .tup hb (dpInts ys), shapedIntsT xs, shapedIntsT ys, by rw [eqvTups]; exact h⟩
/-! ### the readings' equations, for a walk by simp -/
section
variable {K : PySem.W.Frag} {H : Hp} {Q : VK} {i j : Int} {p : Addr} {x y : V} {k k' : Bool} {a b : Str} {lo hi : Option Int}
theorem q_isi {n : String} : rIsiV [x, .ty n] H Q = ∃ t b, vty H x = some t ∧ kitB t n = some b ∧ Q (.bl b) H := rfl
theorem q_vn : vty H .non = some "NoneType" := rfl
theorem q_vb : vty H (.bl k) = some "bool" := rfl
theorem q_vi : vty H (.int i) = some "int" := rfl
theorem q_vs : vty H (.str a) = some "str" := rfl
theorem q_int1 : rInt1 [.int i] H Q = Q (.int i) H := rfl
theorem q_int2 : rInt1 [.bl k] H Q = Q (.int (if k then 1 else 0)) H := rfl
theorem q_min : rMin2 [.int i, .int j] H Q = Q (.int (if j < i then j else i)) H := rfl
theorem q_max : rMax2 [.int i, .int j] H Q = Q (.int (if j > i then j else i)) H := rfl
theorem q_repr : rRepr1 [.int i] H Q = (i.natAbs.log2 < 1920 ∧ Q (.str (toString i)) H) := rfl
theorem q_ix : rIx1 K (.ref p) (.int i) H Q = ∃ xs v, SqL K H p xs ∧ atI xs i = some v ∧ Q v H := rfl
theorem q_sl : rSlM K (.ref p) lo hi H Q = ∃ xs, SqL K H p xs ∧ ∀ r, H r = none → Q (.ref r) (upd H r (.lst (cutV xs lo hi))) := rfl
theorem q_app : rAppM (.ref p) [y] H Q = ∃ xs, H p = some (.lst xs) ∧ xs.length < sizeLine ∧ Q .non (upd H p (.lst (xs ++ [y]))) := rfl
theorem q_pop : rPopM (.ref p) [] H Q = ∃ xs y, H p = some (.lst xs) ∧ xs[xs.length - 1]? = some y ∧ Q y (upd H p (.lst xs.dropLast)) := rfl
theorem q_sii : scal (.int i) (.int j) = true := rfl
theorem q_sss : scal (.str a) (.str b) = true := rfl
theorem q_sbb : scal (.bl k) (.bl k') = true := rfl
theorem q_snn : scal .non .non = true := rfl
theorem q_sns : scal .non (.str a) = true := rfl
theorem q_ssn : scal (.str a) .non = true := rfl
theorem dec_iff {A B : Prop} [Decidable A] [Decidable B] (h : A ↔ B) : decide A = decide B := by simp [h]
end

/-! ### the source of draws: d the pair, L its list, cs the great cells, z the blend -/
structure DealC (d L : Addr) (cs : List Int) (z : Int) (H : Hp) : Prop where
  d : H d = some (.lst [.ref L, .int z])
  l : H L = some (.lst (cs.map V.int))
  nn : ∀ c ∈ cs, 0 ≤ c
  z0 : 0 ≤ z
  z1 : z < 2147483647
  len : cs.length ≤ 63
def Deal (d L : Addr) (H : Hp) : Prop := ∃ cs z, DealC d L cs z H
/-- all but the source of draws is as it was, and this stands -/
structure Mv (d L : Addr) (H H' : Hp) : Prop where
  kp : ∀ b o, b ≠ d → b ≠ L → H b = some o → H' b = some o
  dl : Deal d L H'
theorem DealC.ne {d L : Addr} {cs : List Int} {z : Int} {H : Hp} (D : DealC d L cs z H) : d ≠ L := fun e => by
  have a := D.d
  rw [e, D.l] at a
  cases cs with
  | nil => cases a
  | cons c cs =>
    have b := List.cons.inj (HO.lst.inj (Option.some.inj a))
    cases b.1
theorem Deal.ne {d L : Addr} {H : Hp} (D : Deal d L H) : d ≠ L := D.elim fun _ h => h.elim fun _ D => D.ne
theorem DealC.ex {d L : Addr} {cs : List Int} {z : Int} {H H' : Hp} (D : DealC d L cs z H) (e : Ex H H') : DealC d L cs z H' := ⟨e _ _ D.d, e _ _ D.l, D.nn, D.z0, D.z1, D.len⟩
theorem Deal.ex {d L : Addr} {H H' : Hp} (D : Deal d L H) (e : Ex H H') : Deal d L H' := by
  obtain ⟨cs, z, D⟩ := D
  exact ⟨cs, z, D.ex e⟩
theorem Mv.of_ex {d L : Addr} {H H' : Hp} (D : Deal d L H) (e : Ex H H') : Mv d L H H' := ⟨fun _ _ _ _ h => e _ _ h, D.ex e⟩
theorem Mv.refl {d L : Addr} {H : Hp} (D : Deal d L H) : Mv d L H H := .of_ex D (Ex.refl H)
theorem Mv.trans {d L : Addr} {H H1 H2 : Hp} (a : Mv d L H H1) (b : Mv d L H1 H2) : Mv d L H H2 := ⟨fun x o h1 h2 h => b.kp x o h1 h2 (a.kp x o h1 h2 h), b.dl⟩
theorem Mv.tex {d L : Addr} {H H1 H2 : Hp} (a : Mv d L H H1) (e : Ex H1 H2) : Mv d L H H2 := a.trans (.of_ex a.dl e)
theorem Mv.new {d L : Addr} {H H1 : Hp} {p : Addr} {o : HO} (a : Mv d L H H1) (h : H1 p = none) : Mv d L H (upd H1 p o) := a.tex (Ex.new h)
/-- a new place is not the source's -/
theorem Deal.off {d L : Addr} {H : Hp} {p : Addr} (D : Deal d L H) (h : H p = none) : p ≠ d ∧ p ≠ L := by
  obtain ⟨cs, z, D⟩ := D
  exact ⟨fun e => (by rw [e, D.d] at h; cases h), fun e => (by rw [e, D.l] at h; cases h)⟩
theorem Deal.offL {d L : Addr} {H : Hp} {p : Addr} {xs : List Int} (D : Deal d L H) (h : H p = some (.lst (xs.map V.int))) : p ≠ d := fun e => by
  obtain ⟨cs, z, D⟩ := D
  rw [e, D.d] at h
  cases xs with
  | nil => cases h
  | cons c cs =>
    have b := List.cons.inj (HO.lst.inj (Option.some.inj h))
    cases b.1
theorem Mv.free {d L : Addr} {H H' : Hp} {p : Addr} (a : Mv d L H H') (h : H' p = none) : H p = none := by
  have o := a.dl.off h
  cases h1 : H p with
  | none => rfl
  | some u => rw [a.kp p u o.1 o.2 h1] at h; cases h
theorem Mv.mut {d L : Addr} {H H' : Hp} {D : Addr} {o : HO} (a : Mv d L H H') (h : H D = none) (h1 : D ≠ d) (h2 : D ≠ L) : Mv d L H (upd H' D o) := by
  obtain ⟨kp, cs, z, D'⟩ := a
  exact ⟨fun b u x1 x2 e => by rw [upd_ne (ne_of_none e h)]; exact kp b u x1 x2 e, cs, z, ⟨by rw [upd_ne h1.symm]; exact D'.d, by rw [upd_ne h2.symm]; exact D'.l, D'.nn, D'.z0, D'.z1, D'.len⟩⟩
/-- a slice of a list of ints -/
theorem cut_ints (ns : List Int) (lo hi : Option Int) : ∃ ms : List Int, cutV (ns.map V.int) lo hi = ms.map V.int ∧ (∀ x ∈ ms, x ∈ ns) ∧ ms.length ≤ ns.length := by
  refine ⟨(ns.drop (HT.sIx ns.length 0 lo)).take (HT.sIx ns.length ns.length hi - HT.sIx ns.length 0 lo), ?_, fun x hx => List.mem_of_mem_drop (List.mem_of_mem_take hx), ?_⟩
  · unfold cutV
    rw [List.length_map, ← List.map_drop, ← List.map_take]
  · rw [List.length_take, List.length_drop]; omega
theorem cut_hi (ns : List Int) (k : Nat) : cutV (ns.map V.int) none (some (k : Int)) = (ns.take k).map V.int := by
  unfold cutV
  rw [List.length_map, HT.sIx_none, HT.sIx_nat, List.drop_zero, Nat.sub_zero, ← List.map_take]
  congr 1
  by_cases h : k ≤ ns.length
  · rw [Nat.min_eq_left h]
  · rw [Nat.min_eq_right (by omega), List.take_of_length_le (by omega), List.take_of_length_le (by omega)]
end My
set_option maxRecDepth 10000
set_option exponentiation.threshold 5000
/-! the mathematics of figures -/
namespace My
theorem div_lt {n b : Int} (hb : 2 ≤ b) (hn : 0 < n) : n / b < n := by
  refine Int.ediv_lt_of_lt_mul (by omega) ?_
  have h := Int.mul_le_mul_of_nonneg_left hb (Int.le_of_lt hn)
  omega
theorem div_nn {n b : Int} (hb : 2 ≤ b) (hn : 0 ≤ n) : 0 ≤ n / b := Int.ediv_nonneg hn (by omega)
theorem mod_nn {n b : Int} (hb : 2 ≤ b) : 0 ≤ n % b := Int.emod_nonneg n (by omega)
theorem mod_lt {n b : Int} (hb : 2 ≤ b) : n % b < b := Int.emod_lt_of_pos n (by omega)
theorem div_pos_iff {n b : Int} (hb : 2 ≤ b) (hn : 0 ≤ n) : 0 < n / b ↔ b ≤ n := by
  constructor
  · intro h
    by_cases hlt : n < b
    · rw [Int.ediv_eq_zero_of_lt hn hlt] at h; omega
    · omega
  · intro h
    have h1 : 1 ≤ n / b := (Int.le_ediv_iff_mul_le (by omega)).mpr (by omega)
    omega
/-- the figures, the last one first -/
def digs (b n : Int) : List Int :=
  if h : 2 ≤ b ∧ b ≤ n then n % b :: digs b (n / b) else [n]
termination_by n.toNat
decreasing_by
  have := div_lt h.1 (show 0 < n by omega)
  have := div_nn h.1 (show 0 ≤ n by omega)
  omega
theorem digs_ge {b n : Int} (hb : 2 ≤ b) (h : b ≤ n) : digs b n = n % b :: digs b (n / b) := by
  rw [digs]; rw [dif_pos ⟨hb, h⟩]
theorem digs_lt {b n : Int} (h : n < b) : digs b n = [n] := by
  rw [digs]; rw [dif_neg (by omega)]
/-- an induction over the figures -/
theorem digs_ind {b : Int} (hb : 2 ≤ b) {P : Int → Prop} (h0 : ∀ n, 0 ≤ n → n < b → P n) (h1 : ∀ n, b ≤ n → P (n / b) → P n) : ∀ n, 0 ≤ n → P n := by
  have key : ∀ k : Nat, ∀ n : Int, 0 ≤ n → n.toNat ≤ k → P n := by
    intro k
    induction k with
    | zero => intro n hn hk; exact h0 n hn (by omega)
    | succ k ih =>
      intro n hn hk
      by_cases h : b ≤ n
      · have a1 := div_lt hb (show 0 < n by omega)
        have a2 := div_nn hb hn
        exact h1 n h (ih _ a2 (by omega))
      · exact h0 n hn (by omega)
  exact fun n hn => key n.toNat n hn (Nat.le_refl _)
def figs (b n : Int) : List Int := (digs b n).reverse
theorem digs_mem {b : Int} (hb : 2 ≤ b) : ∀ n, 0 ≤ n → ∀ x ∈ digs b n, 0 ≤ x ∧ x < b :=
  digs_ind hb (fun n h0 h x hx => by
    rw [digs_lt h] at hx
    have := List.mem_singleton.mp hx
    omega) (fun n h ih x hx => by
    rw [digs_ge hb h] at hx
    rcases List.mem_cons.mp hx with e | hx
    · subst e; exact ⟨mod_nn hb, mod_lt hb⟩
    · exact ih x hx)
theorem figs_mem {b : Int} (hb : 2 ≤ b) {n : Int} (hn : 0 ≤ n) : ∀ x ∈ figs b n, 0 ≤ x ∧ x < b := fun x hx =>
  digs_mem hb n hn x (List.mem_reverse.mp hx)
theorem digs_sum {b : Int} (hb : 2 ≤ b) : ∀ n, 0 ≤ n → 0 ≤ (digs b n).sum ∧ (digs b n).sum ≤ n :=
  digs_ind hb (fun n h0 h => by rw [digs_lt h]; simp; omega) (fun n h ih => by
    rw [digs_ge hb h, List.sum_cons]
    have e := Int.emod_add_mul_ediv n b
    have q0 := div_nn hb (show 0 ≤ n by omega)
    have m := Int.mul_le_mul_of_nonneg_right hb q0
    have r0 := mod_nn (n := n) hb
    omega)
theorem sum_rev (l : List Int) : l.reverse.sum = l.sum := by
  induction l with
  | nil => rfl
  | cons a l ih => rw [List.reverse_cons, List.sum_append, List.sum_cons, ih]; simp; omega
theorem figs_sum {b : Int} (hb : 2 ≤ b) {n : Int} (hn : 0 ≤ n) : 0 ≤ (figs b n).sum ∧ (figs b n).sum ≤ n := by
  unfold figs; rw [sum_rev]; exact digs_sum hb n hn
theorem figs_sum_lt {b : Int} (hb : 2 ≤ b) {n : Int} (h : b ≤ n) : (figs b n).sum < n := by
  unfold figs; rw [sum_rev, digs_ge hb h, List.sum_cons]
  have e := Int.emod_add_mul_ediv n b
  have q0 := (div_pos_iff hb (show 0 ≤ n by omega)).mpr h
  have m := Int.mul_le_mul_of_nonneg_right hb (Int.le_of_lt q0)
  have s := (digs_sum hb (n / b) (by omega)).2
  omega
theorem figs_one {b n : Int} (h : n < b) : (figs b n).sum = n := by
  unfold figs; rw [digs_lt h]; simp
theorem digs_len {b : Int} (hb : 2 ≤ b) : ∀ n, 0 ≤ n → ∀ k : Nat, n < 2 ^ k → (digs b n).length ≤ k + 1 := by
  refine digs_ind hb (fun n h0 h k hk => ?_) (fun n h ih k hk => ?_)
  · rw [digs_lt h]; simp
  · rw [digs_ge hb h, List.length_cons]
    cases k with
    | zero => simp at hk; omega
    | succ k =>
      have : n / b < 2 ^ k := by
        refine Int.ediv_lt_of_lt_mul (by omega) ?_
        have m := Int.mul_le_mul_of_nonneg_left hb (show (0 : Int) ≤ 2 ^ k from Int.le_of_lt (Int.pow_pos (by decide)))
        rw [Int.pow_succ] at hk
        omega
      have := ih k this
      omega
theorem figs_len {b : Int} (hb : 2 ≤ b) {n : Int} (hn : 0 ≤ n) {k : Nat} (h : n < 2 ^ k) : (figs b n).length ≤ k + 1 := by
  unfold figs; rw [List.length_reverse]; exact digs_len hb n hn k h
/-- the number with these figures -/
def written (b : Int) (l : List Int) : Int := l.foldl (fun a x => a * b + x) 0
end My
namespace My
/-- the root: sums of figures until there is one -/
def rootN (b n : Int) : Int := if h : 2 ≤ b ∧ b ≤ n then rootN b (figs b n).sum else n
termination_by n.toNat
decreasing_by
  have := figs_sum_lt h.1 h.2
  have := (figs_sum h.1 (show 0 ≤ n by omega)).1
  omega
theorem rootN_ge {b n : Int} (hb : 2 ≤ b) (h : b ≤ n) : rootN b n = rootN b (figs b n).sum := by
  rw [rootN, dif_pos ⟨hb, h⟩]
theorem rootN_lt {b n : Int} (h : n < b) : rootN b n = n := by
  rw [rootN, dif_neg (by omega)]
theorem rootN_sum {b n : Int} (hb : 2 ≤ b) : rootN b (figs b n).sum = rootN b n := by
  by_cases h : b ≤ n
  · exact (rootN_ge hb h).symm
  · rw [figs_one (by omega)]
theorem rootN_bd {b : Int} (hb : 2 ≤ b) : ∀ k : Nat, ∀ n : Int, n.toNat ≤ k → 0 ≤ n → 0 ≤ rootN b n ∧ rootN b n ≤ n
  | 0, n, hk, hn => by
    rw [rootN_lt (by omega)]; omega
  | k + 1, n, hk, hn => by
    by_cases h : b ≤ n
    · have a := figs_sum_lt hb h
      have c := (figs_sum hb hn).1
      have d := rootN_bd hb k (figs b n).sum (by omega) c
      rw [rootN_ge hb h]; omega
    · rw [rootN_lt (by omega)]; omega
theorem rootN_le {b n : Int} (hb : 2 ≤ b) (hn : 0 ≤ n) : 0 ≤ rootN b n ∧ rootN b n ≤ n := rootN_bd hb n.toNat n (Nat.le_refl _) hn
end My
namespace My
theorem written_snoc (b : Int) (l : List Int) (x : Int) : written b (l ++ [x]) = written b l * b + x := by
  unfold written; rw [List.foldl_append]; rfl
theorem written_bd {b : Int} (hb : 1 ≤ b) (l : List Int) : (∀ x ∈ l, 0 ≤ x ∧ x < b) → 0 ≤ written b l ∧ written b l < b ^ l.length := by
  intro h
  have key : ∀ k : Nat, k ≤ l.length → 0 ≤ written b (l.take k) ∧ written b (l.take k) < b ^ k := by
    intro k
    induction k with
    | zero => intro _; simp [written]
    | succ k ih =>
      intro hk
      have hx : k < l.length := by omega
      have e : l.take (k + 1) = l.take k ++ [l[k]] := by rw [List.take_add_one, List.getElem?_eq_getElem hx]; rfl
      have i := ih (by omega)
      have m := h l[k] (List.getElem_mem hx)
      rw [e, written_snoc, Int.pow_succ]
      have a1 := Int.mul_nonneg i.1 (show 0 ≤ b by omega)
      have a2 := Int.mul_le_mul_of_nonneg_right (show written b (l.take k) + 1 ≤ b ^ k by omega) (show 0 ≤ b by omega)
      rw [Int.add_mul] at a2
      omega
  have := key l.length (Nat.le_refl _)
  rw [List.take_length] at this
  exact this
theorem take_snoc {l : List Int} {i : Nat} {x : Int} (h : l[i]? = some x) : l.take (i + 1) = l.take i ++ [x] := by
  rw [List.take_add_one, h]; rfl
theorem pow_le_of {b : Int} (hb : 2 ≤ b) (k : Nat) : (2 : Int) ^ k ≤ b ^ k := by
  induction k with
  | zero => simp
  | succ k ih =>
    rw [Int.pow_succ, Int.pow_succ]
    have p : (0 : Int) ≤ 2 ^ k := Int.le_of_lt (Int.pow_pos (by decide))
    have a := Int.mul_le_mul_of_nonneg_left hb p
    have c := Int.mul_le_mul_of_nonneg_right ih (show 0 ≤ b by omega)
    omega
theorem pow_mono {b : Int} (hb : 1 ≤ b) {i j : Nat} (h : i ≤ j) : b ^ i ≤ b ^ j := by
  induction j with
  | zero => have : i = 0 := by omega
            subst this; exact Int.le_refl _
  | succ j ih =>
    by_cases e : i = j + 1
    · subst e; exact Int.le_refl _
    · have a := ih (by omega)
      have p : (0 : Int) < b ^ j := Int.pow_pos (by omega)
      rw [Int.pow_succ]
      have c := Int.mul_le_mul_of_nonneg_left hb (Int.le_of_lt p)
      omega
theorem pow_small {k n : Nat} (h : (2 : Int) ^ k < 2 ^ n) : k < n := by
  by_cases e : k < n
  · exact e
  · have := pow_mono (b := 2) (by decide) (show n ≤ k by omega)
    omega
end My
namespace My
theorem figs27 : (figs 2 7).sum = 3 := by
  unfold figs; rw [sum_rev, digs_ge (by decide) (by decide), digs_ge (by decide) (by decide), digs_lt (by decide)]; decide
theorem figs23 : (figs 2 3).sum = 2 := by
  unfold figs; rw [sum_rev, digs_ge (by decide) (by decide), digs_lt (by decide)]; decide
theorem figs22 : (figs 2 2).sum = 1 := by
  unfold figs; rw [sum_rev, digs_ge (by decide) (by decide), digs_lt (by decide)]; decide
theorem root27 : rootN 2 7 = 1 := by
  rw [rootN_ge (by decide) (by decide), figs27, rootN_ge (by decide) (by decide), figs23, rootN_ge (by decide) (by decide), figs22, rootN_lt (by decide)]
end My
namespace My
theorem digs_ne (b n : Int) : digs b n ≠ [] := by
  rw [digs]; split <;> simp
theorem figs_ne (b n : Int) : figs b n ≠ [] := by
  unfold figs; intro h; exact digs_ne b n (List.reverse_eq_nil_iff.mp h)
theorem figs_pos (b n : Int) : 0 < (figs b n).length := List.length_pos_iff.mpr (figs_ne b n)
/-- b to the number of figures is at most b times the number, or b -/
theorem digs_pow {b : Int} (hb : 2 ≤ b) : ∀ n, 0 ≤ n → b ^ (digs b n).length ≤ b * n ∨ ((digs b n).length = 1 ∧ n < b) := by
  refine digs_ind hb (fun n h0 h => .inr ⟨by rw [digs_lt h]; rfl, h⟩) (fun n h ih => .inl ?_)
  rw [digs_ge hb h, List.length_cons, Int.pow_succ]
  have q1 := (div_pos_iff hb (show 0 ≤ n by omega)).mpr h
  have e := Int.emod_add_mul_ediv n b
  have r0 := mod_nn (n := n) hb
  have key : b ^ (digs b (n / b)).length ≤ b * (n / b) := by
    rcases ih with h1 | ⟨h1, _⟩
    · exact h1
    · rw [h1, Int.pow_succ, Int.pow_zero, Int.one_mul]
      have := Int.mul_le_mul_of_nonneg_left (show 1 ≤ n / b by omega) (show 0 ≤ b by omega)
      omega
  have a := Int.mul_le_mul_of_nonneg_right key (show 0 ≤ b by omega)
  have c := Int.mul_le_mul_of_nonneg_left (show b * (n / b) ≤ n by omega) (show 0 ≤ b by omega)
  rw [Int.mul_comm b (b * (n / b))] at c
  omega
theorem figs_pow {b n : Int} (hb : 2 ≤ b) (hn : 0 ≤ n) : b ^ (figs b n).length ≤ b * n ∨ ((figs b n).length = 1 ∧ n < b) := by
  unfold figs; rw [List.length_reverse]; exact digs_pow hb n hn
theorem figs_bound {b n B : Int} (hb : 2 ≤ b) (hn : 0 ≤ n) (h1 : b * n ≤ B) (h2 : b ≤ B) : b ^ (figs b n).length ≤ B := by
  rcases figs_pow hb hn with h | ⟨h, _⟩
  · omega
  · rw [h, Int.pow_succ, Int.pow_zero, Int.one_mul]; exact h2
/-- the k-th figure from behind -/
def figAt (b n : Int) (k : Nat) : Int := if k < (figs b n).length then (figs b n).getD ((figs b n).length - 1 - k) 0 else 0
end My
namespace My
theorem figs_small {b n : Int} (h : n < b) : figs b n = [n] := by unfold figs; rw [digs_lt h]; rfl
end My
namespace My
theorem fig_lens {b n : Int} (n0 : 0 ≤ n) (n1 : n < 2 ^ 240) (b0 : 2 ≤ b) (b1 : b < 2 ^ 110) : (figs b n).length ≤ 241 ∧ b ^ (figs b n).length ≤ 2 ^ 350 := by
  refine ⟨figs_len b0 n0 (k := 240) n1, figs_bound b0 n0 ?_ (by omega)⟩
  have a := Int.mul_le_mul (show b ≤ 2 ^ 110 by omega) (show n ≤ 2 ^ 240 by omega) n0 (by decide)
  exact Int.le_trans a (by decide)
theorem part_ok {b n : Int} (n0 : 0 ≤ n) (n1 : n < 2 ^ 240) (b0 : 2 ≤ b) (b1 : b < 2 ^ 110) {xs : List Int} (hm : ∀ x ∈ xs, x ∈ figs b n) (hl : xs.length ≤ (figs b n).length) :
    (∀ x ∈ xs, 0 ≤ x ∧ x < b) ∧ xs.length ≤ 1000 ∧ b ^ xs.length ≤ 2 ^ 800 := by
  obtain ⟨a, c⟩ := fig_lens n0 n1 b0 b1
  have d := pow_mono (b := b) (by omega) hl
  exact ⟨fun x hx => figs_mem b0 n0 x (hm x hx), by omega, by omega⟩
theorem two_ok {b n o : Int} (n0 : 0 ≤ n) (n1 : n < 2 ^ 240) (o0 : 0 ≤ o) (o1 : o < 2 ^ 240) (b0 : 2 ≤ b) (b1 : b < 2 ^ 110) :
    (∀ x ∈ figs b n ++ figs b o, 0 ≤ x ∧ x < b) ∧ (figs b n ++ figs b o).length ≤ 1000 ∧ b ^ (figs b n ++ figs b o).length ≤ 2 ^ 800 := by
  obtain ⟨a1, a2⟩ := fig_lens n0 n1 b0 b1
  obtain ⟨c1, c2⟩ := fig_lens o0 o1 b0 b1
  refine ⟨fun x hx => ?_, by rw [List.length_append]; omega, ?_⟩
  · rcases List.mem_append.mp hx with hx | hx
    · exact figs_mem b0 n0 x hx
    · exact figs_mem b0 o0 x hx
  · rw [List.length_append, Int.pow_add]
    have p : (0 : Int) < b ^ (figs b o).length := Int.pow_pos (by omega)
    exact Int.le_trans (Int.mul_le_mul a2 c2 (Int.le_of_lt p) (by decide)) (by decide)
/-- the list in ascending order -/
def asc (l : List Int) : List Int := l.mergeSort
theorem asc_perm (l : List Int) : (asc l).Perm l := List.mergeSort_perm l _
theorem asc_sorted (l : List Int) : (asc l).Pairwise (· ≤ ·) := by
  have h := List.pairwise_mergeSort (le := fun a b : Int => decide (a ≤ b)) (fun a b c h1 h2 => decide_eq_true (Int.le_trans (of_decide_eq_true h1) (of_decide_eq_true h2)))
    (fun a b => by rcases Int.le_total a b with h | h <;> simp [h]) l
  exact h.imp fun h => of_decide_eq_true h
theorem sorted_eq : ∀ {l m : List Int}, l.Perm m → l.Pairwise (· ≤ ·) → m.Pairwise (· ≤ ·) → l = m := fun h a b =>
  h.eq_of_pairwise (fun _ _ _ _ => Int.le_antisymm) a b
theorem eq_asc {l m : List Int} (h : l.Perm m) (s : l.Pairwise (· ≤ ·)) : l = asc m :=
  sorted_eq (h.trans (asc_perm m).symm) s (asc_sorted m)
theorem eq_desc {l m : List Int} (h : l.Perm m) (s : l.Pairwise (· ≥ ·)) : l = (asc m).reverse := by
  have h2 : l.reverse = asc m := eq_asc ((List.reverse_perm l).trans h) (List.pairwise_reverse.mpr s)
  rw [← h2, List.reverse_reverse]
theorem asc_mem {l : List Int} {x : Int} (h : x ∈ asc l) : x ∈ l := (asc_perm l).mem_iff.mp h
theorem asc_len (l : List Int) : (asc l).length = l.length := (asc_perm l).length_eq
/-- as many unlike things as things: all are unlike -/
theorem nodup_of_len {α : Type} [DecidableEq α] : ∀ (K ns : List α), K.Nodup → (∀ k ∈ K, k ∈ ns) → K.length = ns.length → (∀ x ∈ ns, x ∈ K) ∧ ns.Nodup
  | [], ns, _, _, h => by
    have : ns = [] := List.length_eq_zero_iff.mp h.symm
    subst this
    exact ⟨fun x hx => (by cases hx), List.nodup_nil⟩
  | k :: K, ns, nd, hs, h => by
    have hk := hs k (List.mem_cons_self ..)
    have nd2 := List.nodup_cons.mp nd
    have ih := nodup_of_len K (ns.erase k) nd2.2 (fun x hx => (List.mem_erase_of_ne (fun (e : x = k) => nd2.1 (e ▸ hx))).mpr (hs x (List.mem_cons_of_mem _ hx))) (by
      rw [List.length_erase_of_mem hk]
      rw [List.length_cons] at h
      omega)
    have p := List.perm_cons_erase hk
    have hnot : k ∉ ns.erase k := fun hh => nd2.1 (ih.1 k hh)
    refine ⟨fun x hx => ?_, p.nodup_iff.mpr (List.nodup_cons.mpr ⟨hnot, ih.2⟩)⟩
    rcases List.mem_cons.mp (p.mem_iff.mp hx) with e | hx
    · exact e ▸ List.mem_cons_self ..
    · exact List.mem_cons_of_mem _ (ih.1 x hx)
theorem nodup_le {α : Type} [DecidableEq α] : ∀ (K ns : List α), K.Nodup → (∀ k ∈ K, k ∈ ns) → K.length ≤ ns.length
  | [], _, _, _ => Nat.zero_le _
  | k :: K, ns, nd, hs => by
    have hk := hs k (List.mem_cons_self ..)
    have nd2 := List.nodup_cons.mp nd
    have ih := nodup_le K (ns.erase k) nd2.2 (fun x hx => (List.mem_erase_of_ne (fun (e : x = k) => nd2.1 (e ▸ hx))).mpr (hs x (List.mem_cons_of_mem _ hx)))
    rw [List.length_erase_of_mem hk] at ih
    have := List.length_pos_of_mem hk
    rw [List.length_cons]
    omega
end My
namespace My
theorem pow_left {b c : Int} (h0 : 0 ≤ b) (h : b ≤ c) (k : Nat) : b ^ k ≤ c ^ k := by
  induction k with
  | zero => simp
  | succ k ih =>
    rw [Int.pow_succ, Int.pow_succ]
    have p : (0 : Int) ≤ b ^ k := Int.pow_nonneg h0
    exact Int.mul_le_mul ih h h0 (Int.le_trans p ih)
theorem digs_eq_rev (b n : Int) : (figs b n).reverse = digs b n := by unfold figs; rw [List.reverse_reverse]
end My
namespace My
theorem nodup_snoc {α : Type} {l : List α} {x : α} : (l ++ [x]).Nodup ↔ l.Nodup ∧ x ∉ l := by
  rw [(List.perm_append_comm (l₁ := l) (l₂ := [x])).nodup_iff, List.singleton_append, List.nodup_cons]
  exact And.comm
end My
set_option Elab.async false
set_option linter.all false
set_option maxRecDepth 100000
set_option maxHeartbeats 4000000
/-! defs that are called while no repr is under way: the promise of a def, its body, its call, the law's end -/
namespace My
open PySem PySem.Spec PyProof.Rows L2 Evl
structure FnG (P : Program) (w : World) (K : PySem.W.Frag) (mg : Str → Option Value) (base : Heap) (CX : CXT) (k : Nat) (f : Addr) (fd : FuncData) (ps : List Str) (sp : Sp) : Prop where
  len : ∀ xs G R W, sp xs G R W → xs.length = ps.length
  run : ∀ (B : Around) (out : List Env) (z : Shared) (G : Hp) (ar : Args) (us : List Value) (xs : List V) (R : VK) (W : XK), B.guards = some [] → Room k B →
    Env0 P w K mg base B out z G → BindsTo z fd ar (ps.zip us) → Vals xs us → sp xs G R W → codeAny (model P w) B (.call (.ref f) ar) (CR CX out P w G z R W) z
section
variable {P : Program} {w : World} {K : PySem.W.Frag} {mg : Str → Option Value} {base : Heap} {CX : CXT}
theorem FnG.of_ok {k : Nat} {f : Addr} {fd : FuncData} {ps : List Str} {sp : Sp} (F : FnOk P w K mg base CX k f fd ps sp) : FnG P w K mg base CX k f fd ps sp :=
  ⟨F.len, fun B out z G ar us xs R W _ => F.run B out z G ar us xs R W⟩
/-- a def by its body, as Fun.ok; hgd is handed to the body -/
theorem okG {x qual : Str} {st : Stmt} {f : Addr} {fd : FuncData} {N ps : List Str} {k : Nat} {sp : Sp} (F : Fun K x qual st f fd) (S : FnScope N ps (defScope st))
    (len : ∀ xs G R W, sp xs G R W → xs.length = ps.length)
    (body : ∀ (cdv : Value) (B : Around) (out : List Env) (z : Shared) (G : Hp) (xs : List V) (R : VK) (W : XK), B.guards = some [] →
      Room k (B.deeper (envOfC qual (defScope st) z.heap.objs.size f cdv)) → sp xs G R W →
      ∃ t, PSs (cxOf CX P w K mg base N qual (defScope st) f cdv B out z G W).nox (defBody st) t ∧ t { nx := fun _ G' => R .non G', rt := R } (L2.start N xs) G) :
    FnG P w K mg base CX (k + 1) f fd ps sp := by
  obtain ⟨oc, od, kV, doc, pm, an, cdv, ct, osl, rfl, lk, hcd⟩ := F.ex
  refine ⟨len, fun B out z G ar us xs R W hgd hr env hb rv hsp => ?_⟩
  have hin : K.In z.heap := env.mod.kin.keeps fun b o e => (env.bs b o e).1
  have hlim : z.heap.NoLimit := env.mod.nolimit.keeps fun b o e => (env.bs b o e).1
  refine codeAny_call_function hr.depth (hin _ _ lk) rfl S.co S.gen rfl (PySem.W.codeRec_of hin hcd) (hb _ _ _ _ ?_)
  refine wpAny_newFunctionEnv_cells S.kind (fun ⟨n, v⟩ hy => ?_) fun e2 he z1 ic => ?_
  · rcases S.par n (List.of_mem_zip hy).1 with h | h
    · exact .inl h
    · exact .inr ⟨h, PySem.W.cellsFrom_some _ _ _ (.inl h)⟩
  subst he
  refine ⟨hlim.keeps ic.toInCall.keep, codeAny_func ?_⟩
  obtain ⟨t, ht, hq⟩ := body cdv B out z G xs R W hgd (hr.deeper _) hsp
  have inv := inv_start (CX := CX) (P := P) (w := w) (K := K) (mg := mg) (base := base) (E := W) S hr.hd env (len _ _ _ _ hsp) rv ic
  refine wpAny_mono (ht.nox.run [] z1 (L2.start N xs) G _ inv hq) (fun fl z' hz => ?_) fun _ _ hz => hz
  cases fl with
  | ret u => obtain ⟨v, σ', G', J, r2, q⟩ := hz; exact ⟨v, G', J.os, J.bare, J.base, J.hok, r2, q⟩
  | next => obtain ⟨σ', G', J, q⟩ := hz; exact ⟨V.non, G', J.os, J.bare, J.base, J.hok, rfl, q⟩
  | brk => obtain ⟨_, _, _, q⟩ := hz; exact q.elim
  | cont => obtain ⟨_, _, _, q⟩ := hz; exact q.elim
end
section
variable {X : Cx} {CX : CXT} {k : Nat} {f : Addr} {fd : FuncData} {ps : List Str} {sp : Sp} {dvs : List V} {ds : List Value} {E : XK} {x : Str} {p pos : Pos} {e : Expr} {es : List Expr} {t : TA}
/-- its call by its name -/
theorem pe_callG (F : FnG X.prog X.w X.K X.mg X.base CX k f fd ps sp) (hgd : X.A.guards = some []) (hr : Room k X.A) (hg : Gl X x) (hm : X.mg x = some (.ref f)) (hk : PySem.W.keepIn X.K (.ref f) = true)
    (hb : Binds X.K fd ps ds) (hd : Vals dvs ds) (hx : Passes CX X E) (ha : PA X (e :: es) t) (hdb : (x == ("__debug__" : Str)) = false := by decide)
    (he : starEach (e :: es) X.env = (false, eval e X.env) :: starEach es X.env := by rfl) (hpl : (backTo pos (starEach es X.env)).any (·.1) = false := by rfl) :
    PE X (.Call (.Name x p) (e :: es) [] pos) (tCall sp dvs E t) := by
  refine ⟨fun pins s σ H Q I h => wpAny_Call_Name_kw (ld_glob I hg hm ?_ hdb)⟩
  refine PySem.W.callWith_K (h₀ := X.base) I.ok.mod.kin hk (thn (ha.run pos pins s σ H _ I h) fun us s1 ⟨vs, H1, I1, r, q⟩ => ⟨I1.kIn, ?_⟩) he hpl
  have r2 := r.append hd
  have hl : (us ++ ds).length = ps.length := by rw [← r2.length]; exact F.len _ _ _ _ q
  refine wpAny_call (codeAny_mono (F.run X.A X.stack s1 H1 ⟨us, []⟩ _ _ Q E hgd hr I1.env0 (hb s1 us I1.kIn hl) r2 q) fun r s' hq => ?_)
  cases r with
  | error e => exact hx pins σ H1 s1 e s' I1 hq
  | ok fl =>
    cases fl with
    | ret u => exact I1.after hq
    | next => exact hq.elim
    | brk => exact hq.elim
    | cont => exact hq.elim
end
theorem huD {k : Nat} {A : Around} (hr : Room k A) : A.units + 200 < cLine := Nat.lt_of_le_of_lt (by omega) hr.un
section
variable {X : Cx}
/-- repr of data of any depth, while no repr is under way -/
def rReprD (K : PySem.W.Frag) : List V → Hp → VK → Prop := fun vs H Q => ∃ v d, vs = [v] ∧ Dp K H v d ∧ d.showable = true ∧ d.hasDict = false ∧ d.depth ≤ 100 ∧ d.shown.length ≤ sizeLine ∧ Q (.str d.shown) H
theorem call_reprD (hgd : X.A.guards = some []) (hu : X.A.units + 200 < cLine) : CallR X (.builtin "repr") (rReprD X.K) := by
  intro pins s σ H vs us Q I r h
  obtain ⟨v, d, rfl, hd, h1, h2, h3, h4, q⟩ := h
  obtain ⟨u, rfl, ru⟩ := vals1 r
  obtain ⟨as, rd⟩ := Dp.reads I d v u hd ru
  cases hd with
  | non => cases ru; exact PySem.P.repr_of_none ⟨.str _, H, I.tok _, ⟨_, rfl⟩, q⟩
  | bl b => cases ru; exact PySem.P.repr_of_bool ⟨.str _, H, I.tok _, ⟨_, rfl⟩, q⟩
  | int i => obtain ⟨t, rfl⟩ := ru; exact PySem.P.repr_of_int (of_decide_eq_true h1) ⟨.str _, H, I.tok _, ⟨_, rfl⟩, q⟩
  | str x => obtain ⟨t, rfl⟩ := ru; exact PySem.P.repr_of_str ⟨.str _, H, I.tok _, ⟨_, rfl⟩, q⟩ h4
  | lst _ _ =>
    cases ru
    exact repr_of_reads' rd h1 (PyData.noDict_hsm h2) hgd (by omega) (fun _ _ e => e) (fun h' u tk hk => ⟨.str _, H, I.kept hk, ⟨_, rfl⟩, q⟩) h4
  | tup _ _ =>
    cases ru
    exact repr_of_reads' rd h1 (PyData.noDict_hsm h2) hgd (by omega) (fun _ _ e => e) (fun h' u tk hk => ⟨.str _, H, I.kept hk, ⟨_, rfl⟩, q⟩) h4
end

/-! ### the law's end, with a promise that knows that no repr is under way -/
section
variable {P : Program} {w : World} {K : PySem.W.Frag} {mg mb : Str → Option Value} {CX : CXT}
theorem lawG {k : Nat} {fa a : Addr} {fd : FuncData} {x : Str} {sp : Sp} {z : Shared} {us : List Value} {ns : List Int} (hin : K.In z.heap) (hns : z.heap.Ns mainGlobals mg) (hb : z.heap.Ns builtinsNs mb)
    (hbb : ∀ y : Str, y ≠ "__name__" → mb y = bootBuiltins y) (hlim : z.heap.NoLimit) (hg : z.gens = #[]) (ha : z.heap.get? a = some { cls := .type "list", data := .seq us.toArray }) (hi : IntsAre us ns) (hl : ns.length ≤ sizeLine)
    (hr : Room k callerA) (F : ∀ bs : Heap, K.In bs → bs.Ns mainGlobals mg → FnG P w K mg bs CX k fa fd [x] sp) (hbind : ∀ (t : Shared) (u : Value), BindsTo t fd ⟨[u], []⟩ [(x, u)])
    (hsp : ∀ G : Hp, Only G → SqL K G a (ns.map V.int) → sp [.ref a] G (fun v _ => v = .bl true) fun _ _ _ => False) (hCX : ∀ G e t, CX [] G z (fun _ _ _ => False) e t → False) :
    codeAny (model P w) callerA (.call (.ref fa) ⟨[.ref a], []⟩) (fun r t => r = .ok (.ret (.bool true)) ∧ OldK z.heap t.heap ∧ t.os = z.os ∧ AllBare t.gens) z := by
  have rv := vals_ints hi
  have hlen : us.toArray.size ≤ sizeLine := by rw [List.size_toArray, hi.length]; exact hl
  -- the abstract heap: the script, locked, unless it is an object of the text's own
  obtain ⟨G, hG1, hG2, hG3, hG4⟩ : ∃ G : Hp, (∀ b u, G b = some u → b = a ∧ u = .frz { cls := .type "list", data := .seq us.toArray } (.lst (ns.map V.int))) ∧ (G a ≠ none → K.lookup a = none) ∧ Only G ∧ SqL K G a (ns.map V.int) := by
    cases hk : K.lookup a with
    | none =>
      refine ⟨fun b => if b = a then some (.frz { cls := .type "list", data := .seq us.toArray } (.lst (ns.map V.int))) else none, fun b u h => ?_, fun _ => rfl, fun b => ?_, .inl (.inr ⟨{ cls := .type "list", data := .seq us.toArray }, if_pos rfl⟩)⟩
      · by_cases e : b = a
        · dsimp only at h; rw [if_pos e] at h; exact ⟨e, (Option.some.inj h).symm⟩
        · dsimp only at h; rw [if_neg e] at h; cases h
      · by_cases e : b = a
        · exact .inr ⟨_, _, if_pos e⟩
        · exact .inl (if_neg e)
    | some o =>
      have e := hin a o hk
      rw [ha] at e
      cases e
      exact ⟨fun _ => none, fun b u h => (by cases h), fun h => absurd rfl h, fun _ => .inl rfl, .inr ⟨_, us.toArray, _, hk, rfl, rfl, rfl, hlen, by simpa using rv⟩⟩
  have keep : ∀ {b : Addr} {o : Obj}, z.heap.get? b = some o → G b = none → (hidT z.heap G).get? b = some o := fun e n => hidT_get e n
  have isA : ∀ {b : Addr}, G b ≠ none → b = a := fun {b} h => by
    cases q : G b with
    | none => exact absurd q h
    | some u => exact (hG1 b u q).1
  have dicts : ∀ {b : Addr} {m : Str → Option Value}, z.heap.Ns b m → (hidT z.heap G).Ns b m := fun {b m} ⟨o, es, ep, e, d, r⟩ => by
    refine ⟨o, es, ep, keep e ?_, d, r⟩
    cases q : G b with
    | none => rfl
    | some u =>
      have := isA (b := b) (by rw [q]; simp)
      subst this
      rw [ha] at e; cases e
      cases (show Data.seq us.toArray _ = Data.dict es ep from d)
  have inG : K.In (hidT z.heap G) := fun b o e => keep (hin b o e) (by
    cases q : G b with
    | none => rfl
    | some u =>
      have := isA (b := b) (by rw [q]; simp)
      subst this
      rw [hG2 (by rw [q]; simp)] at e; cases e)
  have lim : (hidT z.heap G).NoLimit := by
    obtain ⟨mc, h1, h2⟩ := hlim
    exact ⟨mc, dicts h1, h2⟩
  have hok : HOk P w G z.heap := fun b u h => by
    obtain ⟨rfl, rfl⟩ := hG1 b u h
    exact ⟨ha, by rw [List.length_map]; exact hl, us, _, rv, ha⟩
  have env : Env0 P w K mg (hidT z.heap G) callerA [] z G :=
    ⟨rfl, ⟨inG, dicts hns, ⟨mb, dicts hb, hbb⟩, lim⟩, fun b o e => of_hidT e, Nat.le_of_eq (hidT_size _ _), trivial, fun b hb => (by cases hb), hok, .of_eq hg⟩
  refine codeAny_mono ((F _ inG (dicts hns)).run callerA [] z G ⟨[.ref a], []⟩ [.ref a] [.ref a] _ _ rfl hr env (hbind z (.ref a)) (.cons rfl .nil) (hsp G hG3 hG4)) fun r t h => ?_
  cases r with
  | error e => exact (hCX G e t h).elim
  | ok fl =>
    cases fl with
    | next => exact h.elim
    | brk => exact h.elim
    | cont => exact h.elim
    | ret u =>
      obtain ⟨v, G', os, bare, un, hok', r', q⟩ := h
      cases (show v = .bl true from q)
      cases (show u = Value.bool true from r')
      refine ⟨rfl, OldK.of_keep fun b o e => ?_, os, bare⟩
      cases q : G b with
      | none => exact un.keep b o e q (fun hh => by cases hh) (by simp)
      | some u =>
        obtain ⟨rfl, rfl⟩ := hG1 b u q
        obtain ⟨e2, _⟩ := hok' b _ (un.frzs b _ _ q)
        rw [ha] at e
        rw [← e]
        exact e2
end
theorem walkG {l : PySem.W.OpenLaw} {n k : Nat} {q : Program} {loose : List Str} {XP : (Str → Option Value) → Heap → Prop} {YP : World → Heap → Prop} {d : DefRec} {K : Params → PySem.W.Frag} {CX : World → CXT} {sp : World → Sp} {x : Str}
    (hn : l.most = some n) (h2 : n ≤ sizeLine) (hdf : d.params.defaults = []) (hr : Room k callerA) (hY : ∀ (w : World) (h : Heap), YP w h → (K w.params).In h)
    (F : ∀ (w : World) (mg : Str → Option Value) (fa : Addr) (h : Heap), (K w.params).In h → h.Ns mainGlobals mg → mg d.name = some (.ref fa) →
      ∃ fd : FuncData, (∀ (s : Shared) (u : Value), BindsTo s fd ⟨[u], []⟩ [(x, u)]) ∧ ∀ bs : Heap, (K w.params).In bs → bs.Ns mainGlobals mg → FnG l.prog w (K w.params) mg bs (CX w) k fa fd [x] (sp w))
    (hsp : ∀ (w : World) (G : Hp) (a : Addr) (ns : List Int), ns.length ≤ n → Only G → SqL (K w.params) G a (ns.map V.int) → sp w [.ref a] G (fun v _ => v = .bl true) fun _ _ _ => False)
    (hCX : ∀ (w : World) (G : Hp) (s : Shared) (e : Value) (t : Shared), CX w [] G s (fun _ _ _ => False) e t → False) : PySem.W.WalkO q loose XP YP l.row.toRowW d [] (fun f vs => PySem.call f vs) := by
  refine Att.attach_call hn hdf fun w s₀ s₁ mg mb fa o pm cd doc a vs ns G Y ho hd hcd hmg hobj hints hlen hg => ?_
  have hin := hY w _ Y
  obtain ⟨fd, hb, hF⟩ := F w mg fa _ hin G.T.g hmg
  exact lawG hin G.T.g G.T.b G.T.builtins G.T.nolimit hg hobj hints (Nat.le_trans hlen h2) hr hF hb (fun G' o s => hsp w G' a ns hlen o s) fun G' e t => hCX w G' s₁ e t
end My
set_option Elab.async false
set_option linter.all false
set_option maxRecDepth 100000
set_option maxHeartbeats 4000000
set_option exponentiation.threshold 5000
/-! more rules: a tuple backwards, a list or a tuple walked, great powers -/
namespace My
open PySem PySem.Spec PyProof.Rows L2 Evl
section
variable {prog : Program} {w : World} {A : Around} {E : Value → Shared → Prop} {s : Shared}
theorem slParts {sl : Addr} {vl vu vs : Value} {lo hi st : Option Int} {c : Int} {n : Nat} {R : Int × Int × Nat → Shared → Prop} (hs : s.heap.IsSliceOf sl vl vu vs) (pl : IsPart vl lo) (pu : IsPart vu hi) (ps : IsPart vs st) (hc : st.getD 1 = c) (h0 : (c == 0) = false)
    (h : R ((Builtin.Slice.sliceAdjust lo hi c (n : Int)).1, c, Builtin.Slice.slicePlaces (Builtin.Slice.sliceAdjust lo hi c (n : Int)).1 (Builtin.Slice.sliceAdjust lo hi c (n : Int)).2 c) s) :
    wpAny (model prog w) A (Builtin.Slice.sliceApplied (.ref sl) (pure (n : Int))) R E s := by
  obtain ⟨ob, h1, h2, h3⟩ := hs
  unfold Builtin.Slice.sliceApplied Builtin.Slice.sliceFields
  refine wpAny_bind (wpAny_bind (wpAny_field h1 h3 (x := vl) rfl (wpAny_bind (wpAny_field h1 h3 (x := vu) rfl (wpAny_bind (wpAny_field h1 h3 (x := vs) rfl (wpAny_pure ?_)))))))
  refine wpAny_bind (HT.slicePart_ ps ?_)
  show wpAny _ _ (if (st.getD 1 == 0) = true then _ else _) _ _ s
  rw [hc, if_neg (by rw [h0]; exact Bool.false_ne_true)]
  refine wpAny_bind (HT.slicePart_ pl (wpAny_bind (HT.slicePart_ pu (wpAny_bind (wpAny_pure (wpAny_pure h))))))
theorem revPick (xs : Array Value) (n : Nat) (hn : xs.size = n) : ((List.range n).filterMap fun (k : Nat) => xs[((n : Int) - 1 + (k : Int) * (-1)).toNat]?).toArray = xs.toList.reverse.toArray := by
  subst hn
  congr 1
  have e : ∀ k : Nat, ((xs.size : Int) - 1 + (k : Int) * (-1)).toNat = xs.size - 1 - k := fun k => by omega
  have e2 : (fun (k : Nat) => xs[((xs.size : Int) - 1 + (k : Int) * (-1)).toNat]?) = fun k => xs[xs.size - 1 - k]? := by
    funext k
    rw [e k]
  rw [e2]
  have e3 : (List.range xs.size).filterMap (fun k => xs[xs.size - 1 - k]?) = ((List.range xs.size).map fun k => xs.size - 1 - k).filterMap (xs[·]?) := by
    rw [List.filterMap_map]; rfl
  rw [e3, PySem.W.krv_range, List.filterMap_reverse, PySem.W.krv_all]
/-- t[::-1] of a tuple, by the machine -/
theorem tupBack {t sl : Addr} {items : Array Value} {vl vu vs : Value} {R : Value → Shared → Prop} (ht : IsTup s.heap t items) (hs : s.heap.IsSliceOf sl vl vu vs) (pl : IsPart vl none) (pu : IsPart vu none) (ps : IsPart vs (some (-1))) (hz : items.size ≤ sizeLine)
    (h : R (.ref s.heap.objs.size) { s with heap := s.heap.push { cls := .type "tuple", data := .seq items.toList.reverse.toArray } }) : wpAny (model prog w) A (getItem (.ref t) (.ref sl)) R E s := by
  have hT : s.TypeIs (.ref sl) "slice" := by
    obtain ⟨ob, h1, h2, _⟩ := hs
    exact ⟨ob, h1, h2⟩
  have ok : sizeOk (.seq items.toList.reverse.toArray) := by
    show items.toList.reverse.toArray.size ≤ sizeLine
    rw [List.size_toArray, List.length_reverse, Array.length_toList]
    exact hz
  unfold getItem
  try with_reducible refine wpAny_holding ?_
  first | refine wpAny_bind (wpAny_pure ?_) | skip
  refine wpAny_bind (wpAny_sequenceKey ht.typeIs (by decide) ?_)
  refine wpAny_bind (wpAny_callSpecial?_slot (name := Str.ofString "__getitem__") ht.typeIs slot_tuple_getitem (wpAny_call_entry slot_tuple_getitem ht.typeIs entry_tuple_getitem ?_ (args_tuple_getitem _ _)))
  show wpAny _ _ (Builtin.Tuple.tupleItemsOf (.ref t) >>= _) _ _ s
  refine wpAny_bind (tupleItemsOf_ ht (wpAny_bind (wpAny_typeOf hT ?_)))
  rw [if_pos (by decide)]
  refine wpAny_bind (slParts (c := -1) hs pl pu ps rfl (by decide) ?_)
  have e1 : Builtin.Slice.sliceAdjust none none (-1) (items.size : Int) = ((items.size : Int) - 1, -1) := by
    unfold Builtin.Slice.sliceAdjust; rfl
  have e2 : Builtin.Slice.slicePlaces ((items.size : Int) - 1) (-1) (-1) = items.size := by
    unfold Builtin.Slice.slicePlaces
    rw [if_neg (by decide)]
    by_cases h0 : (items.size : Int) - 1 > -1
    · rw [if_pos h0]
      have : ((items.size : Int) - 1 - -1 - 1) / (- -1) = (items.size : Int) - 1 := by
        rw [show (- -1 : Int) = 1 by decide, Int.ediv_one]; omega
      rw [this]; omega
    · rw [if_neg h0]; omega
  rw [e1]
  show wpAny _ _ (if ((((items.size : Int) - 1 == 0) && ((-1 : Int) == 1)) && (Builtin.Slice.slicePlaces ((items.size : Int) - 1) (-1) (-1) == items.size)) = true then _ else _) _ _ s
  have no : ¬ (((((items.size : Int) - 1 == 0) && ((-1 : Int) == 1)) && (Builtin.Slice.slicePlaces ((items.size : Int) - 1) (-1) (-1) == items.size)) = true) := by
    rw [show ((-1 : Int) == 1) = false by decide]; simp
  rw [if_neg no, e2, revPick items items.size rfl]
  first
    | exact wpAny_bind (m := Builtin.Tuple.tupleExact _) (wpAny_newObj_type (wpAny_pure ⟨_, rfl, wpAny_pure h⟩) ok)
    | exact wpAny_bind (m := Builtin.Tuple.tupleExact _) (wpAny_newObj_type (wpAny_bind (wpAny_pure (wpAny_pure ⟨_, rfl, wpAny_pure h⟩))) ok)
    | exact wpAny_bind (wpAny_bind (m := Builtin.Tuple.tupleExact _) (wpAny_newObj_type (wpAny_pure (wpAny_pure ⟨_, rfl, wpAny_pure h⟩)) ok))
    | exact wpAny_bind (wpAny_bind (m := Builtin.Tuple.tupleExact _) (wpAny_newObj_type (wpAny_pure ⟨_, rfl, wpAny_pure h⟩) ok))
end
section
variable {X : Cx}
/-- t[::-1] of a tuple -/
def tRevT (K : PySem.W.Frag) (te : TE) : TE := fun σ H Q => te σ H fun x H1 => ∃ a xs, x = .ref a ∧ SqT K H1 a xs ∧ ∀ p, H1 p = none → Q (.ref p) (upd H1 p (.tup xs.reverse))
theorem pe_revT {e : Expr} {te : TE} {k : Nat} {p1 p2 p3 pos : Pos} (he : PE X e te) : PE X (.Subscript e (.Slice none none (some (.UnaryOp .USub (.Constant (.int 1) k p1) p2)) p3) pos) (tRevT X.K te) := by
  refine ⟨fun pins s σ H Q I h => Subscript_ (thn (he.run pins s σ H _ I h) fun v s1 ⟨x, H1, I1, r1, a, xs, ex, hx, q⟩ => ?_)⟩
  subst ex
  cases r1
  have step : PO X (some (.UnaryOp .USub (.Constant (.int 1) k p1) p2)) (tPart (tUn (rU fun i => .int (-i)) (tC (.int 1)))) := po_some (pe_un un_neg pe_int)
  refine wpAny_Slice (thn (po_none.run pins s1 σ H1 (fun o G => o = none ∧ G = H1) I1 ⟨rfl, rfl⟩) fun vl s2 ⟨o2, H2, I2, pl, e2, g2⟩ => ?_)
  subst e2 g2
  refine thn (po_none.run pins s2 σ H2 (fun o G => o = none ∧ G = H2) I2 ⟨rfl, rfl⟩) fun vu s3 ⟨o3, H3, I3, pu, e3, g3⟩ => ?_
  subst e3 g3
  refine thn (step.run pins s3 σ H3 (fun o G => o = some (-1) ∧ G = H3) I3 ⟨1, rfl, -1, rfl, rfl, rfl⟩) fun vs s4 ⟨o4, H4, I4, ps, e4, g4⟩ => ?_
  subst e4 g4
  generalize hs5 : ({ s4 with heap := s4.heap.push { cls := .type "slice", data := .fields #[vl, vu, vs] } } : Shared) = s5
  have I5 : Inv X pins σ H4 s5 := by rw [← hs5]; exact I4.kept (t' := s4.toks) fun b ob q => Heap.get?_push_of_some _ q
  have hsl : s5.heap.IsSliceOf s4.heap.objs.size vl vu vs := by rw [← hs5]; exact Heap.IsSliceOf.new _ vl vu vs
  obtain ⟨its, r, ht, hz⟩ := I5.tuple hx
  have hlen := r.length
  show wpAny (model X.prog X.w) X.A (subscriptTail e (.Slice none none (some (.UnaryOp .USub (.Constant (.int 1) k p1) p2)) p3) (.ref a) (.ref s4.heap.objs.size)) (EP X pins σ Q) X.xe _
  refine tail_any (ops := [.ref a, .ref s4.heap.objs.size]) ht.typeIs slot_tuple_getitem.lookup (tupBack ht hsl pl pu ps (by rw [List.size_toArray]; omega) ?_) (by with_unfolding_all rfl)
  refine ⟨.ref _, _, I5.laid (t' := s5.toks) (o := .tup xs.reverse) (fun b ob q => Heap.get?_push_of_some _ q) (Nat.le_refl _) ?_, rfl, q _ (I5.hok.fresh (Nat.le_refl _))⟩
  exact ⟨by rw [List.length_reverse]; exact hz, _, r.reverse, IsTup.new _ _⟩
/-- a list or a tuple, walked -/
def iLT (K : PySem.W.Frag) (tl : TE) : TI := fun σ H R => tl σ H fun x H1 => ∃ a, x = .ref a ∧ (((∃ xs, SqL K H1 a xs) ∧ R (Itl K a) H1) ∨ ((∃ xs, SqT K H1 a xs) ∧ R (Itt K a) H1))
theorem pi_lt {tg l : Expr} {tl : TE} (hl : PE X l tl) : PI X tg l (iLT X.K tl) := by
  refine ⟨fun pins s σ H R I h => thn (hl.run pins s σ H _ I h) fun v s1 ⟨x, H1, I1, r1, a, ex, q⟩ => ?_⟩
  subst ex
  cases r1
  have fresh : ∀ b ∈ [s1.heap.objs.size], FpOk X pins H1 b := fun b hb => by
    rw [List.mem_singleton.mp hb]
    exact I1.fpOk (Nat.le_refl _) (I1.hok.fresh (Nat.le_refl _))
  rcases q with ⟨⟨xs, hq⟩, q⟩ | ⟨⟨xs, hq⟩, q⟩
  · obtain ⟨its, rv, p, hz⟩ := I1.list hq
    exact wpAny_pyIter_list p.isList ⟨s1.heap.objs.size, _, _, _, H1, rfl, I1.kept (t' := s1.toks) fun b o e => Heap.get?_push_of_some _ e, turn_list a _, ⟨_, Heap.get?_push_size _ rfl, rfl, rfl⟩, fresh, q⟩
  · obtain ⟨its, rv, p, hz⟩ := I1.tuple hq
    exact wpAny_pyIter_tuple (show s1.heap.IsTuple a its.toArray from p) ⟨s1.heap.objs.size, _, _, _, H1, rfl, I1.kept (t' := s1.toks) fun b o e => Heap.get?_push_of_some _ e, turn_tuple a _, ⟨_, Heap.get?_push_size _ rfl, rfl, rfl⟩, fresh, q⟩
/-- powers of great ints -/
def CPowX (i j : Int) : Prop := 0 ≤ j ∧ (Builtin.Int.intBits i : Int) * j ≤ 2 ^ 27
theorem op_powX : OpR X (binaryOp .Pow) (rI CPowX fun i j => .int (i ^ j.toNat)) := opI fun _ _ _ _ _ _ _ hc q => pow_int hc.1 hc.2 q
theorem powXOk {i j : Int} {n : Nat} (h0 : 0 ≤ j) (h1 : j ≤ 1000) (hi : i.natAbs < 2 ^ n) (hn : n ≤ 1000) : CPowX i j := by
  refine ⟨h0, ?_⟩
  have hb : Builtin.Int.intBits i ≤ 1001 := by
    unfold Builtin.Int.intBits
    split
    · omega
    · have := PySem.Flt.log2_lt_of (k := n + 1) (by omega) (Nat.lt_of_lt_of_le hi (Nat.pow_le_pow_right (by decide) (by omega)))
      omega
  have a1 : (Builtin.Int.intBits i : Int) * j ≤ 1001 * 1000 := Int.mul_le_mul (by omega) h1 h0 (by decide)
  omega
end

/-! ### texts of lists and tuples of ints -/
theorem shInts : ∀ xs : List Int, (∀ x ∈ xs, x.natAbs.log2 < 1920) → PyData.showableAll (xs.map PyData.int) = true ∧ PyData.leavesShortAll 1921 (xs.map PyData.int) = true ∧ PyData.hasDictAll (xs.map PyData.int) = false ∧ PyData.bulkAll (xs.map PyData.int) = xs.length
  | [], _ => ⟨rfl, rfl, rfl, rfl⟩
  | x :: xs, h => by
    obtain ⟨a, b, c, d⟩ := shInts xs fun y hy => h y (List.mem_cons_of_mem _ hy)
    have hx := h x (List.mem_cons_self ..)
    refine ⟨?_, ?_, ?_, ?_⟩
    · rw [List.map_cons, PyData.showableAll, a, PyData.showable, decide_eq_true hx]; rfl
    · rw [List.map_cons, PyData.leavesShortAll, b, PyData.leavesShort, decide_eq_true (show (PyData.shown (.int x)).length ≤ 1921 from int_text_len_1921 hx)]; rfl
    · rw [List.map_cons, PyData.hasDictAll, c, PyData.hasDict]; rfl
    · rw [List.map_cons, PyData.bulkAll, d, PyData.bulk, List.length_cons]; omega
theorem reprIntsL {K : PySem.W.Frag} {H : Hp} {a : Addr} {xs : List Int} {Q : VK} (ha : SqL K H a (xs.map V.int)) (hl : xs.length ≤ 4000) (hx : ∀ x ∈ xs, x.natAbs.log2 < 1920) (q : Q (.str (PyData.list (xs.map PyData.int)).shown) H) : rReprD K [.ref a] H Q := by
  obtain ⟨h1, h2, h3, h4⟩ := shInts xs hx
  refine ⟨_, _, rfl, .lst ha (dpInts xs), by rw [PyData.showable]; exact h1, by rw [PyData.hasDict]; exact h3, by rw [PyData.depth, depthInts]; omega, ?_, q⟩
  have := PyData.shown_le_bulk 1921 (by decide) (.list (xs.map PyData.int)) (by rw [PyData.leavesShort]; exact h2)
  rw [PyData.bulk, h4] at this
  exact Nat.le_trans this (by rw [sizeLine_eq]; omega)
theorem reprIntsT {K : PySem.W.Frag} {H : Hp} {a : Addr} {xs : List Int} {Q : VK} (ha : SqT K H a (xs.map V.int)) (hl : xs.length ≤ 4000) (hx : ∀ x ∈ xs, x.natAbs.log2 < 1920) (q : Q (.str (PyData.tuple (xs.map PyData.int)).shown) H) : rReprD K [.ref a] H Q := by
  obtain ⟨h1, h2, h3, h4⟩ := shInts xs hx
  refine ⟨_, _, rfl, .tup ha (dpInts xs), by rw [PyData.showable]; exact h1, by rw [PyData.hasDict]; exact h3, by rw [PyData.depth, depthInts]; omega, ?_, q⟩
  have := PyData.shown_le_bulk 1921 (by decide) (.tuple (xs.map PyData.int)) (by rw [PyData.leavesShort]; exact h2)
  rw [PyData.bulk, h4] at this
  exact Nat.le_trans this (by rw [sizeLine_eq]; omega)
theorem reprIntD {K : PySem.W.Frag} {H : Hp} {x : Int} {Q : VK} (hx : x.natAbs.log2 < 1920) (q : Q (.str (PyData.int x).shown) H) : rReprD K [.int x] H Q :=
  ⟨_, _, rfl, .int x, by rw [PyData.showable, decide_eq_true hx], by rw [PyData.hasDict], by rw [PyData.depth]; omega, Nat.le_trans (int_text_len_1921 hx) (by decide), q⟩
theorem reprBlD {K : PySem.W.Frag} {H : Hp} {b : Bool} {Q : VK} (q : Q (.str (PyData.bool b).shown) H) : rReprD K [.bl b] H Q :=
  ⟨_, _, rfl, .bl b, by rw [PyData.showable], by rw [PyData.hasDict], by rw [PyData.depth]; omega, by cases b <;> exact sz_le (by decide), q⟩
/-! ### slices -/
theorem cut_lo (ns : List Int) (k : Nat) : cutV (ns.map V.int) (some (k : Int)) none = (ns.drop k).map V.int := by
  unfold cutV
  rw [List.length_map, HT.sIx_nat, HT.sIx_none, ← List.map_drop, ← List.map_take]
  congr 1
  by_cases h : k ≤ ns.length
  · rw [Nat.min_eq_left h, List.take_of_length_le (by rw [List.length_drop]; omega)]
  · rw [Nat.min_eq_right (by omega), List.drop_of_length_le (Nat.le_refl _), List.drop_of_length_le (by omega), List.take_nil]
/-- a slice of a tuple of ints: by what it holds, the tuple itself or a new one -/
theorem slTup {K : PySem.W.Frag} {H : Hp} {a : Addr} {ns : List Int} {lo hi : Option Int} {Q : VK} (ha : H a = some (.tup (ns.map V.int)))
    (q : ∀ p H1, Ex H H1 → H1 p = some (.tup (cutV (ns.map V.int) lo hi)) → Q (.ref p) H1) : rSlA K (.ref a) lo hi H Q := by
  refine ⟨a, _, rfl, st_of ha, fun h => q a H (Ex.refl H) ?_, fun _ p hp => q p _ (Ex.new hp) upd_same⟩
  have e : cutV (ns.map V.int) lo hi = ns.map V.int := by
    unfold cutV
    rw [h.1, h.2, List.drop_zero, Nat.sub_zero, List.take_length]
  rw [e]
  exact ha
theorem mulOk8 {i j : Int} (a0 : -(2 ^ 900) < i) (a1 : i < 2 ^ 900) (b0 : -(2 ^ 900) < j) (b1 : j < 2 ^ 900) : CMulX i j :=
  mulx_ok (nab a0 a1) (nab b0 b1) (by decide)
theorem reprOk8 {i : Int} (a0 : -(2 ^ 900) < i) (a1 : i < 2 ^ 900) : i.natAbs.log2 < 1920 :=
  Nat.lt_of_lt_of_le (PySem.Flt.log2_lt_of (by decide) (nab a0 a1)) (by decide)
theorem divOk8 {i j : Int} (a0 : 0 < j) (a1 : j < 2 ^ 900) : CDivW i j :=
  wide_div a0 (nab (n := 900) (Int.lt_trans (by rw [Int.neg_lt_zero_iff]; exact Int.pow_pos (by decide)) a0) a1) (by decide) (by decide)
/-- a comprehension that copies ints: so far -/
def CP (D : Addr) (ns : List Int) (H : Hp) : Nat → Hp → Prop := fun i H' => H' D = some (.lst ((ns.take i).map V.int)) ∧ Ex H H'
theorem CP.start {D : Addr} {ns : List Int} {H : Hp} (h : H D = none) : CP D ns H 0 (upd H D (.lst [])) := ⟨upd_same, Ex.new h⟩
theorem CP.turn {D : Addr} {ns : List Int} {H H' : Hp} {i : Nat} {n : Int} (h : H D = none) (c : CP D ns H i H') (hn : ns[i]? = some n) (hl : ns.length ≤ 4000) :
    ∃ acc, H' D = some (.lst acc) ∧ acc.length < sizeLine ∧ CP D ns H (i + 1) (upd H' D (.lst (acc ++ [V.int n]))) := by
  refine ⟨_, c.1, sz_lt (by simp; omega), ?_, c.2.mut h⟩
  rw [upd_same, List.take_add_one, hn, List.map_append]
  rfl
theorem CP.done {D : Addr} {ns : List Int} {H H' : Hp} (c : CP D ns H (ns.map V.int).length H') : H' D = some (.lst (ns.map V.int)) ∧ Ex H H' := by
  have := c.1
  rw [List.length_map, List.take_length] at this
  exact ⟨this, c.2⟩

/-! ### the same rules with the written part named: within a comprehension's block -/
section
variable {X : Cx} {K : PySem.W.Frag}
theorem sl_listK (h : X.K = K := by rfl) : SlR X (rSlM K) := by subst h; exact sl_listM
theorem ix_listK (h : X.K = K := by rfl) : IxR X (rIx1 K) := by subst h; exact ix_listM
theorem ix_tupK (h : X.K = K := by rfl) : IxR X (rIxT K) := by subst h; exact ix_tup
theorem sl_tupK (h : X.K = K := by rfl) : SlR X (rSlA K) := by subst h; exact sl_tupA
theorem op_inK (h : X.K = K := by rfl) : OpR X (compareOp .In) (rIn K false) := by subst h; exact op_in_seq
theorem op_notInK (h : X.K = K := by rfl) : OpR X (compareOp .NotIn) (rIn K true) := by subst h; exact op_notIn_seq
theorem op_eqK (hu : X.A.units + 64 < cLine) (h : X.K = K := by rfl) : OpR X (compareOp .Eq) (rEqD K) := by subst h; exact op_eqD hu
theorem op_neK (hu : X.A.units + 64 < cLine) (h : X.K = K := by rfl) : OpR X (compareOp .NotEq) (rNeD K) := by subst h; exact op_neD hu
def rLenK (K : PySem.W.Frag) : List V → Hp → VK → Prop := fun xs H Q => ∃ p ys, xs = [.ref p] ∧ (SqL K H p ys ∨ SqT K H p ys) ∧ Q (.int ys.length) H
theorem call_lenK (h : X.K = K := by rfl) : CallR X (.builtin "len") (rLenK K) := by subst h; exact call_len_seq
end
theorem inInts {z : Int} : ∀ {ms : List Int}, inV (.int z) (ms.map V.int) = decide (z ∈ ms)
  | [] => rfl
  | m :: ms => by
    unfold inV
    rw [List.map_cons, List.any_cons]
    have ih : (List.map V.int ms).any (fun y => eqV y (.int z)) = decide (z ∈ ms) := inInts
    rw [ih]
    show ((m == z) || decide (z ∈ ms)) = decide (z ∈ m :: ms)
    by_cases h1 : m = z
    · subst h1; simp
    · have h2 : ¬ z = m := fun e => h1 e.symm
      simp [h1, h2]
theorem flatInts : ∀ ms : List Int, (ms.map V.int).all flatV = true
  | [] => rfl
  | m :: ms => by rw [List.map_cons, List.all_cons, flatInts ms]; rfl
end My
set_option Elab.async false
set_option linter.all false
set_option maxRecDepth 100000
set_option maxHeartbeats 4000000
/-! len(set(t)) of a tuple of ints -/
namespace My
open PySem PySem.Spec PyProof.Rows L2 Evl
section
variable {X : Cx}
/-- c is how many unlike ones there are: all that is said of it is whether all are unlike -/
def tUnl (K : PySem.W.Frag) (ta : TE) : TE := fun σ H Q => ta σ H fun x H1 => ∃ (a : Addr) (ns : List Int), x = .ref a ∧ SqT K H1 a (ns.map V.int) ∧ ns.length ≤ 4000 ∧ ∀ c : Nat, c ≤ ns.length → (c = ns.length ↔ ns.Nodup) → Q (.int (c : Int)) H1
theorem pe_lenSetT {a : Expr} {ta : TE} {p p2 q pos : Pos} (hg : Gl X "len") (hm : X.mg "len" = none) (hg2 : Gl X "set") (hm2 : X.mg "set" = none) (ha : PE X a ta) (hc : X.calm = true := by rfl)
    (na : starEach [a] X.env = (false, eval a X.env) :: starEach [] X.env := by rfl) : PE X (.Call (.Name "len" p) [.Call (.Name "set" p2) [a] [] q] [] pos) (tUnl X.K ta) := by
  refine ⟨fun pins s σ H Q I h => Call_ (ld_blt I hg hm boot_len (callWith_builtin1 (args_cons (Call_ (ld_blt I hg2 hm2 boot_set ?_)) rfl) rfl rfl))⟩
  refine callWith_type1 (args_cons (thn (ha.run pins s σ H _ I h) fun v s1 ⟨x, H1, I1, r1, q1⟩ => args_nil ?_) na) na rfl
  obtain ⟨t, ns, rfl, hq, hl, q1⟩ := q1
  cases r1
  obtain ⟨its, r, pl, hz⟩ := I1.tuple hq
  have hi : IntsAre its.toArray.toList ns := by simpa using RZ.intsAre_vals r
  refine call_set_tupI ns (I1.ok.hd hc) pl hi (by unfold scanBound; omega) fun h' tk c hS hcl hk => args_nil ?_
  have I2 : Inv X pins σ H1 { s1 with heap := h', toks := tk } := I1.kept hk
  obtain ⟨o, es, ep, t2, ho, hex, hd, hgood, nd, mem, hb, hf, hn, _⟩ := hS
  have hlen : (es.toList.map keyOf).length = c := by rw [List.length_map, Array.length_toList]; exact hn
  have sub : ∀ k ∈ es.toList.map keyOf, k ∈ ns := fun k hk => of_decide_eq_true ((mem k).mpr hk)
  refine call_len_set ho hex hd hf (by rw [hn]; omega) ⟨.int (c : Int), H1, I2.tok _, ⟨_, by rw [hn]⟩, q1 c hcl ⟨fun e => ?_, fun hnd => ?_⟩⟩
  · exact (nodup_of_len _ ns nd sub (hlen.trans e)).2
  · refine Nat.le_antisymm hcl ?_
    rw [← hlen]
    exact nodup_le ns _ hnd fun k hk => (mem k).mp (decide_eq_true hk)
end
end My
set_option Elab.async false
set_option linter.all false
set_option maxRecDepth 100000
set_option maxHeartbeats 4000000
/-! enumerate over a list or a tuple; isinstance by a tuple of types -/
namespace My
open PySem PySem.Spec PyProof.Rows L2 Evl
theorem enumNew1 {v : Value} {o : Obj} {J : Heap → Prop} (B : Begins v o J) :
    Meets (Builtin.«enumerate.__new__» ⟨[.type "enumerate", v], []⟩) (fun _ R s => J s.heap ∧
      R (.ok (.ret (.ref (s.heap.push o).objs.size))) { s with heap := (s.heap.push o).push { cls := .type "enumerate", data := .fields #[.none, .bool false, .ref s.heap.objs.size, rawInt 0, .none, .none] } }) :=
  .of_wp fun prog w A R s h => by
    obtain ⟨hp, g, d, tk, os⟩ := s; obtain ⟨h1, h⟩ := h
    have hsub := sub_enumerate
    have it1 : ∀ {A' : Around} {E : Value → Shared → Prop} {Q : Value → Shared → Prop}, Q (.ref hp.objs.size) ⟨hp.push o, g, d, tk, os⟩ → wpAny (model prog w) A' (pyIter v) Q E ⟨hp, g, d, tk, os⟩ :=
      fun q => B.iter prog w _ _ ⟨hp, g, d, tk, os⟩ _ h1 q
    wp_walk using it1
    refine wpAny_stack_any fun st => wpAny_pure ?_
    split
    · rename_i c _ _ _ _ _
      cases (c == Value.type "enumerate") <;> (wp_walk using it1; exact ⟨_, rfl, h⟩)
    · wp_walk using it1
      exact ⟨_, rfl, h⟩
section
variable {prog : Program} {w : World} {A : Around} {E : Value → Shared → Prop} {s : Shared}
theorem enumCall {v : Value} {o : Obj} {J : Heap → Prop} {Q : Value → Shared → Prop} (B : Begins v o J) (h1 : J s.heap)
    (h : ∀ h', IsEnum h' (s.heap.objs.size + 1) s.heap.objs.size 0 .none → h'.get? s.heap.objs.size = some o → h'.objs.size = s.heap.objs.size + 2 →
      (∀ b u, s.heap.get? b = some u → h'.get? b = some u) → Q (.ref (s.heap.objs.size + 1)) { s with heap := h' }) :
    wpAny (model prog w) A (call (.type "enumerate") [v]) Q E s := by
  refine callType_new F.called_enumerate (by decide) (F.typeCall_enumerate_1 _) (F.newCall_enumerate_1 _) (fun obj => F.args_object_init_2 obj _) F.entry_enumerate_new (enumNew1 B) ⟨h1, ?_⟩
  have hz : (s.heap.push o).objs.size = s.heap.objs.size + 1 := Heap.size_push ..
  show _ ∧ _
  rw [hz]
  have he : IsEnum ((s.heap.push o).push { cls := .type "enumerate", data := .fields #[.none, .bool false, .ref s.heap.objs.size, rawInt 0, .none, .none] }) (s.heap.objs.size + 1) s.heap.objs.size 0 .none := by
    have q := Heap.get?_push_size (s.heap.push o) (o := { cls := .type "enumerate", data := .fields #[.none, .bool false, .ref s.heap.objs.size, rawInt 0, .none, .none] }) rfl
    rw [hz] at q; exact q
  exact ⟨⟨_, he, rfl⟩, h _ he (Heap.get?_push_of_some _ (Heap.get?_push_size _ B.free)) (by rw [Heap.size_push, hz]) fun b u x => Heap.get?_push_of_some _ (Heap.get?_push_of_some _ x)⟩
end
/-- the tuple at a, each item in a new pair -/
def IteT (K : PySem.W.Frag) (a : Addr) : It :=
  ⟨fun i H => ∃ (xs : List V) (x : V), SqT K H a xs ∧ xs[i]? = some x, fun i H v H' => ∃ T x, v = .ref T ∧ H T = none ∧ H' = upd H T (.tup [.int (i : Nat), x]) ∧ ∀ xs, SqT K H a xs → xs[i]? = some x, fun i H => ∃ xs : List V, SqT K H a xs ∧ xs.length ≤ i⟩
theorem turn_enumT {P : Program} {w : World} {K : PySem.W.Frag} {elts : List Expr} {kk : Nat} {tpos : Pos} (a e it : Addr) :
    Turn P w K (.Tuple elts kk tpos) (IteT K a) [e, it] e (fun i h => (∃ old, IsEnum h e it ((i : Nat) : Int) old) ∧ h.IsTupleIter it a i ∧ e ≠ it ∧ a ≠ it ∧ a ≠ e) where
  mem := by simp
  obj := fun i h at0 b hb => by
    obtain ⟨⟨old, hen⟩, ⟨o, ho, hc, hd⟩, _⟩ := at0
    have which : b = e ∨ b = it := by simpa using hb
    rcases which with z | z
    · rw [z]; exact ⟨_, hen, fun v q => nomatch q⟩
    · rw [z]; exact ⟨o, ho, fun v q => by rw [hd] at q; cases q⟩
  keep := fun i h h' at0 k => let ⟨⟨old, hen⟩, hi, hne⟩ := at0; ⟨⟨old, k e (by simp) _ hen⟩, hi.at fun o q => k it (by simp) o q, hne⟩
  item := by
    intro X hP hw hK hc i pins s σ H E I own at0 more
    subst hP hw hK
    obtain ⟨⟨old, hen⟩, hir, hne, hai, hae⟩ := at0
    obtain ⟨xs, x, seq, hx⟩ := more
    obtain ⟨us2, rels, p, hz⟩ := I.tuple seq
    obtain ⟨u, hu, ru⟩ := rels.get hx
    have enl : e < s.heap.objs.size := Heap.lt_size hen
    have irl : it < s.heap.objs.size := by obtain ⟨_, q, _⟩ := hir; exact Heap.lt_size q
    have ht : s.heap.IsTuple a us2.toArray := p
    have hi : i < us2.toArray.size := by
      have := (List.getElem?_eq_some_iff.mp hu).1
      simpa using this
    refine wpAny_pyNext_enum_itemD (Draws.tuple (A := X.A.in1) (I.ok.hd hc) it a hai us2.toArray) hen ⟨hir, ht⟩ hi hne (by simp [hne, Ne.symm hae]) fun y h' tk hP ho hS hT hsz kept => ?_
    have ey : y = u := by
      have h1 : us2.toArray[i]? = some y := hP
      have h2 : us2.toArray[i]? = some u := by simpa using hu
      rw [h1] at h2; exact Option.some.inj h2
    subst ey
    refine ⟨_, rfl, wpAny_letOwnedTupleGo_enum (s := { s with heap := h', toks := tk + 1 }) ho fun h'' he' same => ?_⟩
    have hT2 : h''.get? s.heap.objs.size = some { cls := .type "tuple", data := .seq #[.int i tk, y] } := (same.2 _ (Nat.ne_of_gt enl)).trans hT
    have new : ObjOk X.prog X.w (upd H s.heap.objs.size (.tup [.int (i : Nat), x])) h'' s.heap.objs.size (.tup [.int (i : Nat), x]) :=
      ⟨by show 2 ≤ sizeLine; decide, [.int i tk, y], .cons ⟨_, rfl⟩ (.cons ru .nil), ⟨_, hT2, rfl, _, rfl⟩⟩
    have J1 : Inv X pins σ (upd H s.heap.objs.size (.tup [.int (i : Nat), x])) { s with heap := h'', toks := tk + 1 } :=
      I.turnedNew (ch := [e, it]) (fun b ob hb q => (same.2 b (fun z => hb (by simp [z]))).trans (kept b ob (fun z => hb (by simp [z])) (fun z => hb (by simp [z])) q)) own (Nat.le_refl _) new
    refine ⟨.ref s.heap.objs.size, _, J1, rfl, ⟨_, x, rfl, I.hok.fresh (Nat.le_refl _), rfl, fun ys hy => by rw [I.tuple_inj hy seq]; exact hx⟩, ⟨⟨y, ?_⟩, hS.1.at fun o q => (same.2 it (Ne.symm hne)).trans q, hne, hai, hae⟩, fun b hb => ?_⟩
    · have e1 : ((i + 1 : Nat) : Int) = (i : Int) + 1 := by omega
      rw [e1]; exact he'
    · have hb' : b < s.heap.objs.size := by
        have which : b = e ∨ b = it := by simpa using hb
        rcases which with z | z
        · rw [z]; exact enl
        · rw [z]; exact irl
      rw [upd_ne (Nat.ne_of_lt hb')]
      exact (own b hb).1
  done := by
    intro X hP hw hK hc i pins s σ H E I own at0 more
    subst hP hw hK
    obtain ⟨⟨old, hen⟩, hir, hne, hai, hae⟩ := at0
    obtain ⟨xs, seq, hx⟩ := more
    obtain ⟨us2, rels, p, hz⟩ := I.tuple seq
    obtain ⟨f0, f1, f2, f3, f4, f5⟩ := own it (by simp)
    have hl := rels.length
    have hT : s.TypeIs (.ref e) "enumerate" := ⟨_, hen, rfl⟩
    unfold pyNext
    refine wpAny_bind (wpAny_attempt (wpAny_callSpecial?_slot (name := Str.ofString "__next__") hT F.slot_enumerate_next
      (wpAny_call_entry F.slot_enumerate_next hT F.entry_enumerate_next ?_ (F.args_enumerate_next_1 _))))
    show wpAny _ _ (field (.ref e) 2 >>= _) _ _ _
    refine wpAny_bind (wpAny_field hen rfl (x := .ref it) rfl ?_)
    refine wpAny_bind (wpAny_nextOf_tuple_end (I.ok.hd hc) hir (show s.heap.IsTuple a us2.toArray from p) (by simp; omega) fun h' x he' hx' => ?_)
    obtain ⟨o, ho, hc⟩ := hx'
    refine wpAny_bind (wpAny_isInstance (T := "StopIteration") (b := true) ⟨o, ho, hc⟩ isSubtype_stop ?_)
    exact wpAny_pure ⟨rfl, I.turned (t' := s.toks) (fun b o hb q => he' b o hb q) f0 f1 f3 f4 f5⟩
  self := fun A i s Q E at0 h => let ⟨⟨_, hen⟩, _⟩ := at0; wpAny_pyIter_enum hen h
/-- enumerate of a list or a tuple -/
def iEnumX (K : PySem.W.Frag) (ta : TA) : TI := fun σ H R => ta σ H fun vs H1 => ∃ a, vs = [.ref a] ∧ (((∃ xs, SqL K H1 a xs) ∧ R (Ite K a) H1) ∨ ((∃ xs, SqT K H1 a xs) ∧ R (IteT K a) H1))
theorem pi_enumX {X : Cx} {e : Expr} {ta : TA} {p pos tpos : Pos} {elts : List Expr} {kk : Nat} (more : Gl X "enumerate") (hm : X.mg "enumerate" = none) (ha : PA X [e] ta) (hs : starEach [e] X.env = [(false, eval e X.env)] := by rfl) :
    PI X (.Tuple elts kk tpos) (.Call (.Name "enumerate" p) [e] [] pos) (iEnumX X.K ta) := by
  refine ⟨fun pins s σ H R I h => ?_⟩
  refine Call_ (ld_blt I more hm boot_enumerate (PyProof.Rows.callWith_type1 (thn (ha.run pos pins s σ H _ I h) fun us s1 ⟨vs, H1, J1, r1, q1⟩ => ?_) hs rfl))
  obtain ⟨a, ex, q⟩ := q1
  subst ex
  cases r1 with
  | cons r rr =>
    cases rr
    cases r
    have fps : ∀ b ∈ [s1.heap.objs.size + 1, s1.heap.objs.size], FpOk X pins H1 b := fun b hb => by
      have which : b = s1.heap.objs.size + 1 ∨ b = s1.heap.objs.size := by simpa using hb
      have high : s1.heap.objs.size ≤ b := by
        rcases which with z | z
        · rw [z]; exact Nat.le_add_right _ _
        · rw [z]; exact Nat.le_refl _
      exact J1.fpOk high (J1.hok.fresh high)
    rcases q with ⟨⟨xs, seq⟩, q⟩ | ⟨⟨xs, seq⟩, q⟩
    · obtain ⟨us2, rels, p', hz⟩ := J1.list seq
      refine call_enumerate_list p'.isList fun h' hen hir hsz kept => wpAny_pyIter_enum hen ?_
      exact ⟨s1.heap.objs.size + 1, [s1.heap.objs.size + 1, s1.heap.objs.size], _, _, H1, rfl, J1.kept (t' := s1.toks) kept, turn_enum a (s1.heap.objs.size + 1) s1.heap.objs.size, ⟨⟨.none, hen⟩, hir, Nat.succ_ne_self _⟩, fps, q⟩
    · obtain ⟨us2, rels, p', hz⟩ := J1.tuple seq
      have ht : s1.heap.IsTuple a us2.toArray := p'
      have hal : a < s1.heap.objs.size := by obtain ⟨o, q1, _⟩ := ht; exact Heap.lt_size q1
      refine enumCall (begins_tuple a us2.toArray) ht fun h' hen hir hsz kept => wpAny_pyIter_enum hen ?_
      exact ⟨s1.heap.objs.size + 1, [s1.heap.objs.size + 1, s1.heap.objs.size], _, _, H1, rfl, J1.kept (t' := s1.toks) kept, turn_enumT a (s1.heap.objs.size + 1) s1.heap.objs.size, ⟨⟨.none, hen⟩, ⟨_, hir, rfl, rfl⟩, Nat.succ_ne_self _, Nat.ne_of_lt hal, Nat.ne_of_lt (Nat.lt_succ_of_lt hal)⟩, fps, q⟩
/-- isinstance(x, (t1, t2)): types that are built in -/
def rIsi2 : List V → Hp → VK → Prop
  | [x, .ref tp], H, Q => ∃ n m t b c, H tp = some (.tup [.ty n, .ty m]) ∧ vty H x = some t ∧ kitB t n = some b ∧ kitB t m = some c ∧ Q (.bl (b || c)) H
  | _, _, _ => False
theorem call_isi2 {X : Cx} : CallR X (.builtin "isinstance") rIsi2 := by
  intro pins s σ H xs us Q I r h
  unfold rIsi2 at h
  split at h
  · obtain ⟨n, m, t, b, c, h0, h1, h2, h3, q⟩ := h
    refine call_isiT pins s σ H _ us Q I r ⟨_, _, _, _, [.type n, .type m], b || c, rfl, h0, .cons (.ty _) (.cons (.ty _) .nil), tyX_of h1, ?_, q⟩
    refine kitAny_cons (kit_ty h2) (fun e => ?_) (fun e => by rw [e]; rfl)
    rw [e, Bool.false_or]
    exact kitAny_cons (kit_ty h3) (fun e => by rw [e]; exact kitAny_nil) fun e => e
  · exact h.elim
theorem kb10 : kitB "list" "tuple" = some false := by decide +kernel
theorem kb11 : kitB "tuple" "list" = some false := by decide +kernel
theorem kb12 : kitB "tuple" "tuple" = some true := by decide +kernel
theorem kb13 : kitB "int" "list" = some false := by decide +kernel
theorem kb14 : kitB "int" "tuple" = some false := by decide +kernel
theorem kb15 : kitB "NoneType" "list" = some false := by decide +kernel
theorem kb16 : kitB "NoneType" "tuple" = some false := by decide +kernel
theorem kb17 : kitB "str" "list" = some false := by decide +kernel
theorem kb18 : kitB "str" "tuple" = some false := by decide +kernel
theorem kb19 : kitB "bool" "list" = some false := by decide +kernel
theorem kb20 : kitB "bool" "tuple" = some false := by decide +kernel
theorem for_enumL {K : PySem.W.Frag} {a : Addr} {xs : List V} {g : TG} {tb : TS} {D : Ends} {σ : L2.St} {H : Hp} (Iv : Nat → L2.St → Hp → Prop) (h0 : Iv 0 σ H) (holds : ∀ i σ H, i ≤ xs.length → Iv i σ H → SqL K H a xs)
    (turns : ∀ i x σ H T, xs[i]? = some x → Iv i σ H → H T = none → g (.ref T) σ (upd H T (.tup [.int (i : Nat), x])) fun σ2 H2 => tb { D with nx := Iv (i + 1), ct := Iv (i + 1), bk := D.nx } σ2 H2) (fin0 : ∀ σ H, Iv xs.length σ H → D.nx σ H) :
    ∃ W : Nat → Nat → L2.St → Hp → Prop, (∃ m, W 0 m σ H) ∧ ∀ i m σ H, W i m σ H →
      ((Ite K a).stop i H ∧ D.nx σ H) ∨ ((Ite K a).go i H ∧ ∃ N : L2.St → Hp → Prop, (∀ σ' H', N σ' H' → ∃ m', m' < m ∧ W (i + 1) m' σ' H') ∧ ∀ x H', (Ite K a).yld i H x H' → g x σ H' fun σ2 H2 => tb { D with nx := N, ct := N, bk := D.nx } σ2 H2) := by
  refine ⟨fun i m σ H => m = xs.length - i ∧ i ≤ xs.length ∧ Iv i σ H, ⟨xs.length, by simp, Nat.zero_le _, h0⟩, ?_⟩
  rintro i m σ H ⟨rfl, ile, now⟩
  have seen := holds i σ H ile now
  by_cases lt : i < xs.length
  · refine .inr ⟨⟨xs, xs[i], seen, by simp [lt]⟩, Iv (i + 1), fun σ' H' now2 => ⟨xs.length - (i + 1), by omega, rfl, lt, now2⟩, fun x H' y => ?_⟩
    obtain ⟨T, z, e, hT, e2, y⟩ := y
    subst e e2
    exact turns i z σ _ T (y xs seen) now hT
  · have e : i = xs.length := by omega
    subst e
    exact .inl ⟨⟨xs, seen, Nat.le_refl _⟩, fin0 σ H now⟩
theorem for_enumT {K : PySem.W.Frag} {a : Addr} {xs : List V} {g : TG} {tb : TS} {D : Ends} {σ : L2.St} {H : Hp} (Iv : Nat → L2.St → Hp → Prop) (h0 : Iv 0 σ H) (holds : ∀ i σ H, i ≤ xs.length → Iv i σ H → SqT K H a xs)
    (turns : ∀ i x σ H T, xs[i]? = some x → Iv i σ H → H T = none → g (.ref T) σ (upd H T (.tup [.int (i : Nat), x])) fun σ2 H2 => tb { D with nx := Iv (i + 1), ct := Iv (i + 1), bk := D.nx } σ2 H2) (fin0 : ∀ σ H, Iv xs.length σ H → D.nx σ H) :
    ∃ W : Nat → Nat → L2.St → Hp → Prop, (∃ m, W 0 m σ H) ∧ ∀ i m σ H, W i m σ H →
      ((IteT K a).stop i H ∧ D.nx σ H) ∨ ((IteT K a).go i H ∧ ∃ N : L2.St → Hp → Prop, (∀ σ' H', N σ' H' → ∃ m', m' < m ∧ W (i + 1) m' σ' H') ∧ ∀ x H', (IteT K a).yld i H x H' → g x σ H' fun σ2 H2 => tb { D with nx := N, ct := N, bk := D.nx } σ2 H2) := by
  refine ⟨fun i m σ H => m = xs.length - i ∧ i ≤ xs.length ∧ Iv i σ H, ⟨xs.length, by simp, Nat.zero_le _, h0⟩, ?_⟩
  rintro i m σ H ⟨rfl, ile, now⟩
  have seen := holds i σ H ile now
  by_cases lt : i < xs.length
  · refine .inr ⟨⟨xs, xs[i], seen, by simp [lt]⟩, Iv (i + 1), fun σ' H' now2 => ⟨xs.length - (i + 1), by omega, rfl, lt, now2⟩, fun x H' y => ?_⟩
    obtain ⟨T, z, e, hT, e2, y⟩ := y
    subst e e2
    exact turns i z σ _ T (y xs seen) now hT
  · have e : i = xs.length := by omega
    subst e
    exact .inl ⟨⟨xs, seen, Nat.le_refl _⟩, fin0 σ H now⟩
end My
set_option Elab.async false
set_option linter.all false
set_option maxRecDepth 100000
set_option maxHeartbeats 4000000
/-! own errors with one field: made and raised, caught, asked for their classes -/
namespace My
open PySem PySem.Spec PyProof.Rows L2 Evl
/-- what the written part says of an own error class x at C whose __init__ at fI keeps the field f -/
structure ErrX (K : PySem.W.Frag) (mg : Str → Option Value) (x f : Str) (C fI : Addr) : Prop where
  g : mg x = some (.ref C)
  oex : OexC K C
  iC : PySem.W.findIn K (.ref C) "__init__" = some (some (.ref fI))
  tI : PySem.W.typeIn K (.ref fI) = some (.type "function")
  xf : XfC K C
  noF : PySem.W.findIn K (.ref C) f = some none
  te : PySem.W.exmOne K (.ref C) (.ref C) = some true
  isC : (PySem.W.clsIn K C).isSome = true
  ha : PySem.W.findIn K (.ref C) "__class__" = some (some (.builtin "object.__class__"))
  hn : PySem.W.specialIn K (.builtin "object.__class__") "__get__" = some (some (.builtin "getset_descriptor.__get__"))
  ht : PySem.W.takesIn K (.builtin "object.__class__") = some true
  hm : PySem.W.mroIn K C (.type "object") = some true
/-- self.f = v -/
def spInit (K : PySem.W.Frag) (f : Str) : Sp
  | [.ref a, v], H, Q, _ => ∃ C, OexC K C ∧ PySem.W.findIn K (.ref C) f = some none ∧ H a = some (exo a C none) ∧ ∀ dx, H dx = none → dx ≠ a → Q .non (upd (upd H dx (exd dx [(f, v)])) a (exo a C (some dx)))
  | _, _, _, _ => False
/-- the making of an error, by what its __init__ promises -/
theorem mkErr {K : PySem.W.Frag} {C : Addr} {f : Str} {v : V} {H : Hp} {Q : XK} (T : OexC K C) (hf : PySem.W.findIn K (.ref C) f = some none) (q : ∀ d, H d = none → Q (.ref C) (some d) (upd H d (.xd [(f, v)]))) :
    [v].length ≤ 1000 ∧ ∀ a, H a = none → spInit K f (.ref a :: ([v] ++ [])) (upd H a (exo a C none))
      (fun u H2 => u = .non ∧ ∃ (d : Addr) (fs : List (Str × V)), H2 a = some (exo a C (some d)) ∧ H2 d = some (exd d fs) ∧ H d = none ∧ Q (.ref C) (some d) (upd (del H2 a) d (.xd fs))) (fun _ _ _ => False) := by
  refine ⟨by simp, fun a ha => ⟨C, T, hf, upd_same, fun dx hd hne => ⟨rfl, dx, [(f, v)], upd_same, ?_, ?_, ?_⟩⟩⟩
  · rw [upd_ne hne, upd_same]
  · rw [upd_ne hne] at hd; exact hd
  · have hd0 : H dx = none := by rw [upd_ne hne] at hd; exact hd
    have e : upd (del (upd (upd (upd H a (exo a C none)) dx (exd dx [(f, v)])) a (exo a C (some dx))) a) dx (.xd [(f, v)]) = upd H dx (.xd [(f, v)]) := by
      funext b
      by_cases hb : b = dx
      · rw [hb, upd_same, upd_same]
      · rw [upd_ne hb, upd_ne hb]
        by_cases hba : b = a
        · rw [hba, del_same, ha]
        · rw [del_ne hba, upd_ne hba, upd_ne hb, upd_ne hba]
    rw [e]
    exact q dx hd0
section
variable {X : Cx} {C a : Addr} {oe : Obj} {cls : Value} {d : Option Addr} {pn : List (Addr × Obj)}
/-- isinstance(e, (c1, c2)), e the error that the suite holds -/
def rIsE2 (K : PySem.W.Frag) (C a : Addr) (cls : Value) (d : Option Addr) : List V → Hp → VK → Prop := fun xs H Q => ∃ (tp dd : Addr) (fs : List (Str × V)) (c1 c2 : Addr) (b : Bool),
  xs = [.ref a, .ref tp] ∧ cls = .ref C ∧ d = some dd ∧ H dd = some (.xd fs) ∧ H tp = some (.tup [.ref c1, .ref c2]) ∧ PySem.W.kitAny K (.ref C) [.ref c1, .ref c2] = some b ∧ Q (.bl b) H
theorem call_isE2 {x f : Str} {fI : Addr} (T : ErrX X.K X.mg x f C fI) (hz : Zc cls d oe) (hf : ∃ vs, oe.data = .fields vs) : CallR (X.suite a ((a, oe) :: pn)) (.builtin "isinstance") (rIsE2 X.K C a cls d) := by
  intro pins s σ H xs us Q I r h
  obtain ⟨tp, dd, fs, c1, c2, b, rfl, ec, ed, hdd, hT, e, q⟩ := h
  subst ec ed
  obtain ⟨u1, u2, rfl, r1, r2⟩ := vals2 r
  obtain rfl : u1 = Value.ref a := r1
  obtain rfl : u2 = Value.ref tp := r2
  obtain ⟨hget, _⟩ := I.pin (a, oe) (List.mem_append.mpr (.inl List.mem_cons_self))
  obtain ⟨vs, hv⟩ := hf
  obtain ⟨mA, hns, _⟩ := (show ObjOk X.prog X.w H s.heap dd (.xd fs) from I.hok dd _ hdd)
  obtain ⟨od, ho, _⟩ := lookIn_ns hns
  have J : PySem.W.InstAt s.heap a oe C (some od) := ⟨hget, hz.1, by unfold PySem.W.notCls; rw [hv] <;> rfl, by rw [hz.2]; exact ho⟩
  obtain ⟨_, its, rv, o, h1, h2, n, h3⟩ := (show ObjOk X.prog X.w H s.heap tp (.tup [.ref c1, .ref c2]) from I.hok tp _ hT)
  obtain ⟨oc, od', dt, sl⟩ := o
  simp only at h2 h3
  subst h2 h3
  obtain ⟨w1, w2, rfl, q1, q2⟩ := vals2 rv
  obtain rfl : w1 = Value.ref c1 := q1
  obtain rfl : w2 = Value.ref c2 := q2
  exact PySem.W.kia_tup (PySem.W.kitx_exc T.isC T.xf.ga T.xf.gg T.xf.exC T.ha T.hn T.ht T.hm) I.kIn J h1 e (fun z => nomatch z) fun tk => ⟨.bl b, H, I.tok tk, rfl, q⟩
end
end My
set_option Elab.async false
set_option linter.all false
set_option maxRecDepth 100000
set_option maxHeartbeats 4000000
/-! the source of draws of law_k08 and many behind it -/
namespace My
open PySem PySem.Spec PyProof.Rows L2 Evl
/-! ### the other source of draws: d its list of three, L its list of cells, c the cell under way, z the seed -/
structure Deal3C (d L : Addr) (cs : List Int) (c z : Int) (H : Hp) : Prop where
  d : H d = some (.lst [.ref L, .int c, .int z])
  c0 : 0 ≤ c
  l : H L = some (.lst (cs.map V.int))
  nn : ∀ c ∈ cs, 0 ≤ c
  z0 : 0 ≤ z
  z1 : z < 2147483647
  len : cs.length ≤ 63
def Deal3 (d L : Addr) (H : Hp) : Prop := ∃ cs c z, Deal3C d L cs c z H
/-- all but the source of draws is as it was, and this stands -/
structure Mv3 (d L : Addr) (H H' : Hp) : Prop where
  kp : ∀ b o, b ≠ d → b ≠ L → H b = some o → H' b = some o
  dl : Deal3 d L H'
theorem Deal3C.ne {d L : Addr} {cs : List Int} {c z : Int} {H : Hp} (D : Deal3C d L cs c z H) : d ≠ L := fun e => by
  have a := D.d
  rw [e, D.l] at a
  cases cs with
  | nil => cases a
  | cons c cs =>
    have b := List.cons.inj (HO.lst.inj (Option.some.inj a))
    cases b.1
theorem Deal3.ne {d L : Addr} {H : Hp} (D : Deal3 d L H) : d ≠ L := D.elim fun _ h => h.elim fun _ h => h.elim fun _ D => D.ne
theorem Deal3C.ex {d L : Addr} {cs : List Int} {c z : Int} {H H' : Hp} (D : Deal3C d L cs c z H) (e : Ex H H') : Deal3C d L cs c z H' := ⟨e _ _ D.d, D.c0, e _ _ D.l, D.nn, D.z0, D.z1, D.len⟩
theorem Deal3.ex {d L : Addr} {H H' : Hp} (D : Deal3 d L H) (e : Ex H H') : Deal3 d L H' := by
  obtain ⟨cs, c, z, D⟩ := D
  exact ⟨cs, c, z, D.ex e⟩
theorem Mv3.of_ex {d L : Addr} {H H' : Hp} (D : Deal3 d L H) (e : Ex H H') : Mv3 d L H H' := ⟨fun _ _ _ _ h => e _ _ h, D.ex e⟩
theorem Mv3.refl {d L : Addr} {H : Hp} (D : Deal3 d L H) : Mv3 d L H H := .of_ex D (Ex.refl H)
theorem Mv3.trans {d L : Addr} {H H1 H2 : Hp} (a : Mv3 d L H H1) (b : Mv3 d L H1 H2) : Mv3 d L H H2 := ⟨fun x o h1 h2 h => b.kp x o h1 h2 (a.kp x o h1 h2 h), b.dl⟩
theorem Mv3.tex {d L : Addr} {H H1 H2 : Hp} (a : Mv3 d L H H1) (e : Ex H1 H2) : Mv3 d L H H2 := a.trans (.of_ex a.dl e)
theorem Mv3.new {d L : Addr} {H H1 : Hp} {p : Addr} {o : HO} (a : Mv3 d L H H1) (h : H1 p = none) : Mv3 d L H (upd H1 p o) := a.tex (Ex.new h)
/-- a new place is not the source's -/
theorem Deal3.off {d L : Addr} {H : Hp} {p : Addr} (D : Deal3 d L H) (h : H p = none) : p ≠ d ∧ p ≠ L := by
  obtain ⟨cs, c, z, D⟩ := D
  exact ⟨fun e => (by rw [e, D.d] at h; cases h), fun e => (by rw [e, D.l] at h; cases h)⟩
theorem Deal3.offL {d L : Addr} {H : Hp} {p : Addr} {xs : List Int} (D : Deal3 d L H) (h : H p = some (.lst (xs.map V.int))) : p ≠ d := fun e => by
  obtain ⟨cs, c, z, D⟩ := D
  rw [e, D.d] at h
  cases xs with
  | nil => cases h
  | cons c cs =>
    have b := List.cons.inj (HO.lst.inj (Option.some.inj h))
    cases b.1
theorem Mv3.free {d L : Addr} {H H' : Hp} {p : Addr} (a : Mv3 d L H H') (h : H' p = none) : H p = none := by
  have o := a.dl.off h
  cases h1 : H p with
  | none => rfl
  | some u => rw [a.kp p u o.1 o.2 h1] at h; cases h
theorem Mv3.mut {d L : Addr} {H H' : Hp} {D : Addr} {o : HO} (a : Mv3 d L H H') (h : H D = none) (h1 : D ≠ d) (h2 : D ≠ L) : Mv3 d L H (upd H' D o) := by
  obtain ⟨kp, cs, c, z, D'⟩ := a
  exact ⟨fun b u x1 x2 e => by rw [upd_ne (ne_of_none e h)]; exact kp b u x1 x2 e, cs, c, z, ⟨by rw [upd_ne h1.symm]; exact D'.d, D'.c0, by rw [upd_ne h2.symm]; exact D'.l, D'.nn, D'.z0, D'.z1, D'.len⟩⟩
end My
set_option Elab.async false
set_option linter.all false
set_option maxRecDepth 100000
set_option maxHeartbeats 4000000
/-! own classes: str(o), f'{o}', o == x, o != x by the classes' own methods -/
namespace My
open PySem PySem.Spec PyProof.Rows L2 Evl
section
variable {X : Cx} {pins : List (Addr × Obj)} {σ : L2.St} {H : Hp} {s : Shared}
theorem ins_at {a C dx : Addr} {fs : List (Str × V)} (I : Inv X pins σ H s) (e : H a = some (.ins C dx fs)) : ∃ od, PySem.W.InstAt s.heap a (PySem.W.instObj C dx) C (some od) := by
  obtain ⟨mA, O, _⟩ := ins_get I.hok e
  obtain ⟨od, J, _⟩ := O.look
  exact ⟨od, J⟩
/-- the method m of the class at C stands at g -/
structure MethC (K : PySem.W.Frag) (m : Str) (C g : Addr) : Prop where
  at_ : PySem.W.findIn K (.ref C) m = some (some (.ref g))
  fn : PySem.W.isFn K (.ref g) = true
/-- what an own class says that isinstance and f'{o}' ask -/
structure OC (K : PySem.W.Frag) (C : Addr) : Prop where
  cl : Cls K C
  ha : PySem.W.findIn K (.ref C) "__class__" = some (some (.builtin "object.__class__"))
  hn : PySem.W.specialIn K (.builtin "object.__class__") "__get__" = some (some (.builtin "getset_descriptor.__get__"))
  ht : PySem.W.takesIn K (.builtin "object.__class__") = some true
  hm : PySem.W.mroIn K C (.type "object") = some true
  fm : PySem.W.findIn K (.ref C) "__format__" = some (some (.builtin "object.__format__"))
theorem OC.ty {K : PySem.W.Frag} {C a dx : Addr} {fs : List (Str × V)} {H : Hp} (o : OC K C) (e : H a = some (.ins C dx fs)) : TyX K H (.ref a) (.ref C) := .base (.ins e o.cl o.ha o.hn o.ht o.hm)
/-- a promise of a method, on instances of the class at C -/
def onC (C : Addr) (sp : Sp) : Sp := fun vs H Q E => (∃ a dx fs rest, vs = .ref a :: rest ∧ H a = some (.ins C dx fs)) ∧ sp vs H Q E
/-- str(o): SF tells which def serves which class -/
def rStrO (SF : Addr → Addr → Prop) (sp : Sp) (E : XK) : List V → Hp → VK → Prop := fun xs H Q => ∃ a C dx fs g, xs = [.ref a] ∧ H a = some (.ins C dx fs) ∧ SF C g ∧ sp [.ref a] H (fun z H' => ∃ y, z = .str y ∧ Q z H') E
theorem call_strO {CX : CXT} {n : Nat} {sp : Sp} {E : XK} {SF : Addr → Addr → Prop} (hS : ∀ C g, SF C g → MethC X.K "__str__" C g) (hF : ∀ C g, SF C g → FnR X.prog X.w X.K X.mg X.base CX n g (onC C sp)) (hr : Room (n + 2) X.A) (hx : Passes CX X E) : CallR X (.type "str") (rStrO SF sp E) := by
  intro pins s σ H xs us Q I r h
  obtain ⟨a, C, dx, fs, g, rfl, ha, hg, q⟩ := h
  obtain ⟨u, rfl, ru⟩ := r.one
  obtain rfl : u = Value.ref a := ru
  obtain ⟨od, J⟩ := ins_at I ha
  have h2 : Room n X.A.in1.in1 := (show Room (n + 1) X.A.in1 from Room.in1 hr).in1
  refine PySem.W.kso_call h2.units0 I.kIn J (hS C g hg).at_ (hS C g hg).fn (wpAny_mono (wpAny_call (SlX.run_at (us := [.ref a]) (ws := [.ref a]) (hF C g hg) h2 I.env0.in1.in1 hx I (.cons rfl .nil) ⟨⟨_, _, _, _, rfl, ha⟩, q⟩)) (fun w s' z => ?_) fun _ _ x => x)
  obtain ⟨z', H', I', rz, y, ey, qz⟩ := z
  subst ey
  obtain ⟨t, e⟩ := (show ∃ t, w = Value.str y t from rz)
  cases e
  exact ⟨.str y, H', I', ⟨t, rfl⟩, qz⟩
/-- str(x), x an int or a text -/
def rStrA : List V → Hp → VK → Prop
  | [.int i], H, Q => i.natAbs.log2 < 1920 ∧ Q (.str (toString i)) H
  | [.str y], H, Q => Q (.str y) H
  | _, _, _ => False
/-- what an own class must say that f'{o}' is its str -/
structure FmtC (K : PySem.W.Frag) (C : Addr) : Prop where
  fm : PySem.W.findIn K (.ref C) "__format__" = some (some (.builtin "object.__format__"))
  om : PySem.W.mroIn K C (.type "object") = some true
def tFmtO (SF : Addr → Addr → Prop) (sp : Sp) (E : XK) (te : TE) : TE := fun σ H Q => te σ H fun x H1 => ∃ a C dx fs g, x = .ref a ∧ H1 a = some (.ins C dx fs) ∧ SF C g ∧ sp [.ref a] H1 (fun z H' => ∃ y, z = .str y ∧ Q z H') E
theorem pe_fmtO {CX : CXT} {n : Nat} {sp : Sp} {E : XK} {SF : Addr → Addr → Prop} {e : Expr} {te : TE} {pos : Pos} (hS : ∀ C g, SF C g → MethC X.K "__str__" C g ∧ FmtC X.K C) (hF : ∀ C g, SF C g → FnR X.prog X.w X.K X.mg X.base CX n g (onC C sp)) (hr : Room (n + 1) X.A) (hx : Passes CX X E)
    (he : PE X e te) : PE X (.FormattedValue e (-1) none pos) (tFmtO SF sp E te) := by
  refine ⟨fun pins s σ H Q I h => ?_⟩
  refine wpAny_FormattedValue_plain (thn (he.run pins s σ H _ I h) fun v s1 hv => ?_)
  obtain ⟨x, H1, I1, r1, a, C, dx, fs, g, ex, ha, hg, q⟩ := hv
  subst ex
  obtain rfl : v = Value.ref a := r1
  obtain ⟨od, J⟩ := ins_at I1 ha
  obtain ⟨M, Fm⟩ := hS C g hg
  have h2 : Room n X.A.in1 := Room.in1 hr
  have I2 := I1.tok (s1.toks + 1)
  refine PySem.W.kfo_fieldS h2.units0 I1.kIn J Fm.fm Fm.om M.at_ M.fn (wpAny_mono (wpAny_call (SlX.run_at (us := [.ref a]) (ws := [.ref a]) (hF C g hg) h2 I2.env0.in1 hx I2 (.cons rfl .nil) ⟨⟨_, _, _, _, rfl, ha⟩, q⟩)) (fun w s' z => ?_) fun _ _ x => x)
  obtain ⟨z', H', I', rz, y, ey, qz⟩ := z
  subst ey
  obtain ⟨t, e⟩ := (show ∃ t, w = Value.str y t from rz)
  cases e
  exact ⟨.str y, H', I', ⟨t, rfl⟩, qz⟩
/-- o == y by the own __eq__ of o's class; y of any type that is no class below it -/
def rEqO (K : PySem.W.Frag) (SF : Addr → Addr → Prop) (sp : Sp) (E : XK) : R2 := fun x y H Q => ∃ a C dx fs g t, x = .ref a ∧ H a = some (.ins C dx fs) ∧ SF C g ∧ TyX K H y t ∧ PySem.W.notFirst K C t = true ∧ sp [x, y] H Q E
theorem op_eqO {CX : CXT} {n : Nat} {sp : Sp} {E : XK} {SF : Addr → Addr → Prop} (hS : ∀ C g, SF C g → MethC X.K "__eq__" C g) (hF : ∀ C g, SF C g → FnR X.prog X.w X.K X.mg X.base CX n g (onC C sp)) (hr : Room n X.A) (hx : Passes CX X E) : OpR X (compareOp .Eq) (rEqO X.K SF sp E) := by
  intro pins s σ H x y v u Q I rx ry h
  obtain ⟨a, C, dx, fs, g, t, rfl, ha, hg, ty, hn, q⟩ := h
  obtain rfl : v = Value.ref a := rx
  obtain ⟨od, J⟩ := ins_at I ha
  obtain ⟨m, hFr⟩ := I.fr
  obtain ⟨PP, KX, hp, _⟩ := kit_of I ry ty
  show wpAny _ _ (richCompare .Eq _ _) _ _ _
  refine PySem.W.cmp_K (op := .Eq) (tb := t) hr.units0 hFr I.ok.mod.kin J (KX.ty _ _ I.kIn hp) hn (hS C g hg).at_ (hS C g hg).fn ?_
  refine wpAny_mono (wpAny_call (run_fnR (us := [.ref a, u]) (vs := [.ref a, y]) (hF C g hg) hr hx I (.cons rfl (.cons ry .nil)) ⟨⟨_, _, _, _, rfl, ha⟩, q⟩)) (fun w s' z => ?_) fun _ _ x => x
  obtain ⟨z', H', I', rz, qz⟩ := z
  exact SlX.cmpback rz ⟨z', H', I', rz, qz⟩
/-- C(), C an own class without an __init__ -/
structure New0 (K : PySem.W.Frag) (C : Addr) : Prop where
  mks : PySem.W.makesIn K C = true
  it : PySem.W.findIn K (.ref C) "__init__" = some (some (.builtin "object.__init__"))
  kp : PySem.W.keepIn K (.ref C) = true
def tNew0 (C : Addr) : TE := fun _ H Q => ∀ x dx, H x = none → H dx = none → dx ≠ x → Q (.ref x) (upd (upd H dx (.own x)) x (.ins C dx []))
open PySem.W in
theorem pe_new0 {C : Addr} {x : Str} {p pos : Pos} (T : New0 X.K C) (hg : Gl X x) (hm : X.mg x = some (.ref C)) (hdb : (x == ("__debug__" : Str)) = false := by decide) : PE X (.Call (.Name x p) [] [] pos) (tNew0 C) := by
  refine ⟨fun pins s σ H Q I h => ?_⟩
  refine wpAny_Call_Name_kw (ld_glob I hg hm ?_ hdb)
  refine PySem.W.callWith_K0 I.kIn T.kp ?_
  show wpAny _ _ (call (.ref C) []) _ _ _
  have I2 := Inv.made (C := C) I
  have hq := h (s.heap.objs.size + 1) s.heap.objs.size (I.hok.fresh (Nat.le_succ _)) (I.hok.fresh (Nat.le_refl _)) (Nat.ne_of_lt (Nat.lt_succ_self _))
  have Y := makes_of (M := model X.prog X.w) I.kIn T.mks
  refine wpAny_call (make_map0 I.kIn T.mks T.it (fun self => Looks.of_pure (oi_bind self)) ?_)
  have e2 : ((s.heap.push emptyDict).push (instObj C s.heap.objs.size)).get? (s.heap.objs.size + 1) = some (instObj C s.heap.objs.size) := by heap_get
  have t1 : Looks (model X.prog X.w) ((s.heap.push emptyDict).push (instObj C s.heap.objs.size)) (typeOf (.ref (s.heap.objs.size + 1))) (.ref C) := (Looks.ld e2).andThen .now
  have t2 : Looks (model X.prog X.w) ((s.heap.push emptyDict).push (instObj C s.heap.objs.size)) (isInstance (.ref (s.heap.objs.size + 1)) (.type "object")) true := t1.andThen (Y.top.keeps fun b o e => Heap.get?_push_of_some _ (Heap.get?_push_of_some _ e))
  refine codeAny_call_builtin oi_plain entry_oi (@check_slot (model X.prog X.w) _ _ _ "object.__init__" "object" "__init__" (.ref (s.heap.objs.size + 1)) [] [] _ oi_kind oi_split t2 (oi_args (.ref (s.heap.objs.size + 1))) ?_)
  rw [oi_run]
  exact wpAny_pure ⟨rfl, .ref (s.heap.objs.size + 1), _, I2, rfl, hq⟩
/-- a name of the module or of what is built in, by what it holds -/
theorem pe_globE {x : Str} {p : Pos} {v : V} (hg : Gl X x) (hm : ∃ u, X.mg x = some u ∧ RelV v u) (hdb : (x == ("__debug__" : Str)) = false := by decide) : PE X (.Name x p) (tC v) := by
  obtain ⟨u, hm, r⟩ := hm
  exact pe_glob hg hm r (hd := hdb)
theorem call_strA : CallR X (.type "str") rStrA := by
  intro pins s σ H xs us Q I r h
  unfold rStrA at h
  split at h
  · exact call_str_int pins s σ H _ us Q I r ⟨_, rfl, h.1, h.2⟩
  · exact SkE.call_str_str pins s σ H _ us Q I r ⟨_, rfl, h⟩
  · exact h.elim
theorem call_isiK {K : PySem.W.Frag} (hK : X.K = K := by rfl) : CallR X (.builtin "isinstance") (rIsi K) := by
  subst hK
  exact call_isi
theorem pg_tupK {K : PySem.W.Frag} {es : List Expr} {k : Nat} {t : TGs} {n : Nat} {pos : Pos} (hK : X.K = K) (hc : X.calm = true) (h : PGs X es t)
    (hn : (assignEach es X.env).length = n := by rfl) (hst : (assignEach es X.env).findIdx? (·.1) = none := by rfl) : PG X (.Tuple es k pos) (gTup K n t) := by
  subst hK
  exact pg_tup hc h hn hst
end
end My
set_option Elab.async false
set_option linter.all false
set_option maxRecDepth 100000
set_option maxHeartbeats 4000000
/-! a tuple, times once and times more -/
namespace My
open PySem PySem.Spec PyProof.Rows L2 Evl
theorem tupMul1 (l : Addr) (items : Array Value) (n : Nat) (dd : Option Addr) (sl : Array (Option Value)) (u : Tok) :
    Meets (Builtin.«tuple.__mul__» ⟨[.ref l, .int 1 u], []⟩) (fun _ R s => s.heap.get? l = some { cls := .type "tuple", dict := dd, data := .seq items n, slots := sl } ∧ R (.ok (.ret (.ref l))) s) :=
  .of_wp fun prog w A R s h => by
    obtain ⟨hp, g, d, tk, os⟩ := s
    obtain ⟨hl, h⟩ := h
    have f1 := AutoSeq1.idx_int
    wp_walk using wpAny_loadPart' hl
    repeat (first
      | (refine wpAny_ite_false (decide_eq_false (by decide)) ?_; wp_walk using wpAny_loadPart' hl)
      | (refine wpAny_ite_true (decide_eq_true (by simp)) ?_; wp_walk using wpAny_loadPart' hl))
    exact ⟨_, rfl, h⟩
section
variable {X : Cx}
/-- a tuple times k: itself once, a new one more often -/
def rRepT1 (K : PySem.W.Frag) : R2 := fun x y H Q => ∃ l k xs, x = .ref l ∧ y = .int k ∧ SqT K H l xs ∧ ((k = 1 ∧ Q (.ref l) H) ∨ (xs ≠ [] ∧ 2 ≤ k ∧ k ≤ 1000 ∧ xs.length ≤ 1000 ∧ ∀ p, H p = none → Q (.ref p) (upd H p (.tup (List.replicate k.toNat xs).flatten))))
theorem op_repT1 : OpR X (binaryOp .Mult) (rRepT1 X.K) := by
  intro pins s σ H x y v u Q I rx ry h
  obtain ⟨l, k, xs, rfl, rfl, hT, h⟩ := h
  rcases h with ⟨rfl, q⟩ | ⟨h1, h2, h3, h4, q⟩
  · cases rx
    obtain ⟨t, rfl⟩ := ry
    obtain ⟨its, r, ⟨⟨cls, dd, data, sl⟩, ho, hc, n, hd⟩, hs⟩ := I.tuple hT
    simp only at hc hd
    subst hc hd
    exact wpAny_binaryOp_repeat_ref (T := "tuple") (U := "int") (by decide) ⟨_, ho, rfl⟩ (fun s' => typeIs_int s' 1 t) noFill_tuple_mul F.fills_int_mul F.slot_int_rmul repeat_tuple F.slot_int_index.lookup
      (call_meets F.slot_int_rmul (typeIs_int s 1 t) F.entry_int_rmul (F.args_int_rmul_2 _ _) (int_rmul_tuple 1 t l its.toArray n dd sl)
        ⟨ho, rfl, ⟨_, ho, rfl⟩, call_meets F.slot_tuple_mul ⟨_, ho, rfl⟩ F.entry_tuple_mul (F.args_tuple_mul_2 _ _) (tupMul1 l its.toArray n dd sl t) ⟨ho, .ref l, H, I, rfl, q⟩⟩)
  · exact op_repT pins s σ H _ _ v u Q I rx ry ⟨_, _, _, rfl, rfl, hT, h1, h2, h3, h4, q⟩
theorem op_in_kdE {d : Addr} (D : ∃ es n, KDict X.K X.w d es n) : OpR X (compareOp .In) (fun x y H Q => ∃ (z : Str) (r : Option Value), x = .str z ∧ y = .ref d ∧ PySem.W.nsIn X.K d z = some r ∧ Q (.bl r.isSome) H) := by
  obtain ⟨es, n, D⟩ := D
  exact op_in_kd D
theorem op_notIn_kdE {d : Addr} (D : ∃ es n, KDict X.K X.w d es n) : OpR X (compareOp .NotIn) (fun x y H Q => ∃ (z : Str) (r : Option Value), x = .str z ∧ y = .ref d ∧ PySem.W.nsIn X.K d z = some r ∧ Q (.bl (!r.isSome)) H) := by
  obtain ⟨es, n, D⟩ := D
  exact op_notIn_kd D
end
/-- two tuples side by side -/
theorem walk_zipT {K : PySem.W.Frag} {a b : Addr} {xs ys : List V} {n : Nat} (hn : n = min xs.length ys.length) : Walk (RZ.ItzT K a b) n (fun H => SqT K H a xs ∧ SqT K H b ys) (YPair (fun i => xs[i]?) (fun i => ys[i]?)) := by
  subst hn
  refine ⟨fun i H hi h => ?_, fun H h => ⟨xs, ys, h.1, h.2, by omega⟩, fun i H v H' hi h y => ?_⟩
  · have l1 : i < xs.length := by omega
    have l2 : i < ys.length := by omega
    exact ⟨xs, ys, xs[i], ys[i], h.1, h.2, List.getElem?_eq_getElem l1, List.getElem?_eq_getElem l2⟩
  · obtain ⟨T, x, z, e1, e2, e3, e4, e5⟩ := y
    exact ⟨T, x, z, e1, e2, e3, e4 xs h.1, e5 ys h.2⟩
end My
set_option Elab.async false
set_option linter.all false
set_option maxRecDepth 100000
set_option maxHeartbeats 4000000
/-! rows and tests as plain data: what stands in the heap for them, what they are told of by -/
namespace My
open PySem PySem.Spec PyProof.Rows L2 Evl
inductive TestM where
  | ask (word : Str) (names : List Str)
  | not (t : TestM)
  deriving DecidableEq
inductive RowM where
  | stop
  | put (name deed : Str) (given : List V)
  | times (n : Nat) (rows : List RowM)
  | ifr (t : TestM) (rows others : List RowM)
def All2T {α β : Type} (R : α → β → Prop) : List α → List β → Prop
  | [], [] => True
  | a :: as, b :: bs => R a b ∧ All2T R as bs
  | _, _ => False
theorem All2T.imp {α β : Type} {R S : α → β → Prop} (h : ∀ a b, R a b → S a b) : ∀ {as : List α} {bs : List β}, All2T R as bs → All2T S as bs
  | [], [], _ => trivial
  | _ :: _, _ :: _, ⟨x, y⟩ => ⟨h _ _ x, All2T.imp h y⟩
  | [], _ :: _, x => x.elim
  | _ :: _, [], x => x.elim
theorem All2T.len {α β : Type} {R : α → β → Prop} : ∀ {as : List α} {bs : List β}, All2T R as bs → bs.length = as.length
  | [], [], _ => rfl
  | _ :: _, _ :: _, ⟨_, y⟩ => by rw [List.length_cons, List.length_cons, All2T.len y]
  | [], _ :: _, x => x.elim
  | _ :: _, [], x => x.elim
theorem All2T.at_ {α β : Type} {R : α → β → Prop} : ∀ {as : List α} {bs : List β} {i : Nat} {b : β}, All2T R as bs → bs[i]? = some b → ∃ a, as[i]? = some a ∧ R a b
  | [], [], _, _, _, h => by simp at h
  | a :: _, b :: _, 0, _, ⟨x, _⟩, h => by
    rw [List.getElem?_cons_zero] at h
    cases h
    exact ⟨a, rfl, x⟩
  | _ :: _, _ :: _, i + 1, _, ⟨_, y⟩, h => by
    rw [List.getElem?_cons_succ] at h ⊢
    exact All2T.at_ y h
  | [], _ :: _, _, _, x, _ => x.elim
  | _ :: _, [], _, _, x, _ => x.elim
theorem All2T.snoc {α β : Type} {R : α → β → Prop} {a : α} {b : β} (r : R a b) : ∀ {as : List α} {bs : List β}, All2T R as bs → All2T R (as ++ [a]) (bs ++ [b])
  | [], [], _ => ⟨r, trivial⟩
  | _ :: _, _ :: _, ⟨x, y⟩ => ⟨x, All2T.snoc r y⟩
  | [], _ :: _, x => x.elim
  | _ :: _, [], x => x.elim
/-- an argument of a deed: a name or a number -/
def argV : V → Prop
  | .str _ => True
  | .int i => 0 ≤ i
  | _ => False
/-- the text of an argument -/
def argT : V → Str
  | .str x => x
  | .int i => toString i
  | _ => ""
def TestM.dep : TestM → Nat
  | .ask .. => 0
  | .not t => t.dep + 1
mutual
def RowM.dep : RowM → Nat
  | .stop | .put .. => 0
  | .times _ rs => RowM.deps rs + 1
  | .ifr _ rs os => max (RowM.deps rs) (RowM.deps os) + 1
def RowM.deps : List RowM → Nat
  | [] => 0
  | r :: rs => max r.dep (RowM.deps rs)
end
/-! ### the texts -/
def signs : List Str := ["+", "-", "*", "//", "**"]
def TestM.text : TestM → Str
  | .ask w ns => Txt.join " " (w :: ns)
  | .not t => Str.ofString "not " ++ t.text
def putText (n d : Str) (g : List V) : Str :=
  if d ∈ signs then (match g with
    | [a, b] => n ++ Str.ofString " = " ++ argT a ++ Str.ofString " " ++ d ++ Str.ofString " " ++ argT b
    | _ => "")
  else Txt.join " " (n :: "=" :: d :: g.map argT)
mutual
def RowM.lines : RowM → List Str
  | .stop => ["stop"]
  | .put n d g => [putText n d g]
  | .times c rs => (Str.ofString "times " ++ Str.ofString (toString (c : Int))) :: (RowM.liness rs ++ [("end" : Str)])
  | .ifr t rs os => (Str.ofString "if " ++ t.text) :: ((RowM.liness rs ++ RowM.elses os) ++ [("end" : Str)])
def RowM.liness : List RowM → List Str
  | [] => []
  | r :: rs => r.lines ++ RowM.liness rs
def RowM.elses : List RowM → List Str
  | [] => []
  | r :: rs => ("else" : Str) :: (r.lines ++ RowM.liness rs)
end
def RowM.text (r : RowM) : Str := Txt.join "\n" r.lines
/-! ### the package's objects -/
structure ClsA where
  put : Addr
  ifr : Addr
  times : Addr
  stop : Addr
  ask : Addr
  not : Addr
/-- which class is which: 0 to 5 the classes of rows and tests, 6 Row, 7 Test -/
def clsL (A : ClsA) (row test : Addr) : List Addr := [A.put, A.ifr, A.times, A.stop, A.ask, A.not, row, test]
def ansO (i j : Nat) : Bool := decide (i = j ∨ (j = 6 ∧ i < 4) ∨ (j = 7 ∧ 4 ≤ i))
def plainTs : List String := ["str", "tuple", "list", "int", "bool", "NoneType"]
def kitO (K : PySem.W.Frag) (A : ClsA) (row test : Addr) : Bool :=
  ((List.range 6).all fun i => (List.range 8).all fun j => PySem.W.kitOne K (.ref ((clsL A row test).getD i 0)) (.ref ((clsL A row test).getD j 0)) == some (ansO i j)) &&
  (((List.range 6).all fun i => plainTs.all fun t => PySem.W.kitOne K (.ref ((clsL A row test).getD i 0)) (.type t) == some false) &&
  ((List.range 8).all fun j => plainTs.all fun t => PySem.W.kitOne K (.type t) (.ref ((clsL A row test).getD j 0)) == some false))
section
variable {K : PySem.W.Frag} {A : ClsA} {row test : Addr}
theorem kitO1 (h : kitO K A row test = true) (i j : Nat) (hi : i < 6) (hj : j < 8) : PySem.W.kitOne K (.ref ((clsL A row test).getD i 0)) (.ref ((clsL A row test).getD j 0)) = some (ansO i j) := by
  have h1 := List.all_eq_true.mp (Bool.and_eq_true_iff.mp h).1 i (List.mem_range.mpr hi)
  exact eq_of_beq (List.all_eq_true.mp h1 j (List.mem_range.mpr hj))
theorem clsNe (h : kitO K A row test = true) (i j : Nat) (hi : i < 6) (hj : j < 6) (hne : i ≠ j) : (clsL A row test).getD i 0 ≠ (clsL A row test).getD j 0 := fun e => by
  have h1 := kitO1 h i j hi (by omega)
  have h2 := kitO1 h i i hi (by omega)
  rw [← e, h2] at h1
  have h3 : ansO i i = true := by unfold ansO; simp
  have h4 : ansO i j = false := by unfold ansO; simp; omega
  rw [h3, h4] at h1
  cases h1
theorem kitO2 (h : kitO K A row test = true) (i : Nat) (t : String) (hi : i < 6) (ht : t ∈ plainTs) : PySem.W.kitOne K (.ref ((clsL A row test).getD i 0)) (.type t) = some false := by
  have h1 := List.all_eq_true.mp (Bool.and_eq_true_iff.mp (Bool.and_eq_true_iff.mp h).2).1 i (List.mem_range.mpr hi)
  exact eq_of_beq (List.all_eq_true.mp h1 t ht)
theorem kitO3 (h : kitO K A row test = true) (j : Nat) (t : String) (hj : j < 8) (ht : t ∈ plainTs) : PySem.W.kitOne K (.type t) (.ref ((clsL A row test).getD j 0)) = some false := by
  have h1 := List.all_eq_true.mp (Bool.and_eq_true_iff.mp (Bool.and_eq_true_iff.mp h).2).2 j (List.mem_range.mpr hj)
  exact eq_of_beq (List.all_eq_true.mp h1 t ht)
end
section
variable (K : PySem.W.Frag) (A : ClsA) (H : Hp)
def TestO : TestM → V → Prop
  | .ask w ns, v => ∃ a dx q, v = .ref a ∧ H a = some (.ins A.ask dx [("word", .str w), ("names", .ref q)]) ∧ SqT K H q (ns.map V.str)
  | .not t, v => ∃ a dx u, v = .ref a ∧ H a = some (.ins A.not dx [("test", u)]) ∧ TestO t u
mutual
def RowO : RowM → V → Prop
  | .stop, v => ∃ a dx, v = .ref a ∧ H a = some (.ins A.stop dx [])
  | .put n d g, v => ∃ a dx q, v = .ref a ∧ H a = some (.ins A.put dx [("name", .str n), ("deed", .str d), ("given", .ref q)]) ∧ SqT K H q g
  | .times c rs, v => ∃ a dx q vs, v = .ref a ∧ H a = some (.ins A.times dx [("count", .int c), ("rows", .ref q)]) ∧ SqT K H q vs ∧ RowOs rs vs
  | .ifr t rs os, v => ∃ a dx u q r vs ws, v = .ref a ∧ H a = some (.ins A.ifr dx [("test", u), ("rows", .ref q), ("others", .ref r)]) ∧ TestO K A H t u ∧ SqT K H q vs ∧ RowOs rs vs ∧ SqT K H r ws ∧ RowOs os ws
def RowOs : List RowM → List V → Prop
  | [], vs => vs = []
  | r :: rs, vs => ∃ v ws, vs = v :: ws ∧ RowO r v ∧ RowOs rs ws
end
/-! ### the law's own tuples -/
def TestT : TestM → V → Prop
  | .ask w ns, v => ∃ a q, v = .ref a ∧ SqT K H a [.str "ask", .str w, .ref q] ∧ SqT K H q (ns.map V.str)
  | .not t, v => ∃ a u, v = .ref a ∧ SqT K H a [.str "not", u] ∧ TestT t u
mutual
def RowT : RowM → V → Prop
  | .stop, v => ∃ a, v = .ref a ∧ SqT K H a [.str "stop"]
  | .put n d g, v => ∃ a q, v = .ref a ∧ SqT K H a [.str "put", .str n, .str d, .ref q] ∧ SqT K H q g
  | .times c rs, v => ∃ a q vs, v = .ref a ∧ SqT K H a [.str "times", .int c, .ref q] ∧ SqT K H q vs ∧ RowTs rs vs
  | .ifr t rs os, v => ∃ a u q r vs ws, v = .ref a ∧ SqT K H a [.str "if", u, .ref q, .ref r] ∧ TestT K H t u ∧ SqT K H q vs ∧ RowTs rs vs ∧ SqT K H r ws ∧ RowTs os ws
def RowTs : List RowM → List V → Prop
  | [], vs => vs = []
  | r :: rs, vs => ∃ v ws, vs = v :: ws ∧ RowT r v ∧ RowTs rs ws
end
end
/-- all but lists stays -/
def Kp (H H' : Hp) : Prop := ∀ b o, (∀ xs, o ≠ .lst xs) → H b = some o → H' b = some o
theorem Kp.of_ex {H H' : Hp} (e : Ex H H') : Kp H H' := fun b o _ h => e b o h
theorem Kp.refl (H : Hp) : Kp H H := fun _ _ _ h => h
theorem Kp.trans {H H1 H2 : Hp} (a : Kp H H1) (b : Kp H1 H2) : Kp H H2 := fun c o n h => b c o n (a c o n h)
theorem Kp.tup {H H' : Hp} (e : Kp H H') {a : Addr} {xs : List V} (h : H a = some (.tup xs)) : H' a = some (.tup xs) := e _ _ (fun _ z => by cases z) h
theorem Kp.ins {H H' : Hp} (e : Kp H H') {a C dx : Addr} {fs : List (Str × V)} (h : H a = some (.ins C dx fs)) : H' a = some (.ins C dx fs) := e _ _ (fun _ z => by cases z) h
theorem Kp.sqt {K : PySem.W.Frag} {H H' : Hp} (e : Kp H H') {a : Addr} {xs : List V} (h : SqT K H a xs) : SqT K H' a xs := by
  rcases h with (h | ⟨o, h⟩) | h
  · exact .inl (.inl (e.tup h))
  · exact .inl (.inr ⟨o, e _ _ (fun _ z => by cases z) h⟩)
  · exact .inr h
section
variable {K : PySem.W.Frag} {A : ClsA} {H H' : Hp}
theorem TestO.kp (e : Kp H H') : ∀ {t : TestM} {v : V}, TestO K A H t v → TestO K A H' t v
  | .ask _ _, _, ⟨a, dx, q, h1, h2, h3⟩ => ⟨a, dx, q, h1, e.ins h2, e.sqt h3⟩
  | .not _, _, ⟨a, dx, u, h1, h2, h3⟩ => ⟨a, dx, u, h1, e.ins h2, h3.kp e⟩
theorem TestT.kp (e : Kp H H') : ∀ {t : TestM} {v : V}, TestT K H t v → TestT K H' t v
  | .ask _ _, _, ⟨a, q, h1, h2, h3⟩ => ⟨a, q, h1, e.sqt h2, e.sqt h3⟩
  | .not _, _, ⟨a, u, h1, h2, h3⟩ => ⟨a, u, h1, e.sqt h2, h3.kp e⟩
mutual
theorem RowO.kp (e : Kp H H') : ∀ {r : RowM} {v : V}, RowO K A H r v → RowO K A H' r v
  | .stop, _, h => by
    obtain ⟨a, dx, h1, h2⟩ := h
    exact ⟨a, dx, h1, e.ins h2⟩
  | .put _ _ _, _, h => by
    obtain ⟨a, dx, q, h1, h2, h3⟩ := h
    exact ⟨a, dx, q, h1, e.ins h2, e.sqt h3⟩
  | .times _ rs, _, h => by
    obtain ⟨a, dx, q, vs, h1, h2, h3, h4⟩ := h
    exact ⟨a, dx, q, vs, h1, e.ins h2, e.sqt h3, RowOs.kp e h4⟩
  | .ifr _ rs os, _, h => by
    obtain ⟨a, dx, u, q, r, vs, ws, h1, h2, h3, h4, h5, h6, h7⟩ := h
    exact ⟨a, dx, u, q, r, vs, ws, h1, e.ins h2, h3.kp e, e.sqt h4, RowOs.kp e h5, e.sqt h6, RowOs.kp e h7⟩
theorem RowOs.kp (e : Kp H H') : ∀ {rs : List RowM} {vs : List V}, RowOs K A H rs vs → RowOs K A H' rs vs
  | [], _, h => h
  | r :: rs, _, h => by
    obtain ⟨v, ws, h1, h2, h3⟩ := h
    exact ⟨v, ws, h1, RowO.kp e h2, RowOs.kp e h3⟩
end
mutual
theorem RowT.kp (e : Kp H H') : ∀ {r : RowM} {v : V}, RowT K H r v → RowT K H' r v
  | .stop, _, h => by
    obtain ⟨a, h1, h2⟩ := h
    exact ⟨a, h1, e.sqt h2⟩
  | .put _ _ _, _, h => by
    obtain ⟨a, q, h1, h2, h3⟩ := h
    exact ⟨a, q, h1, e.sqt h2, e.sqt h3⟩
  | .times _ rs, _, h => by
    obtain ⟨a, q, vs, h1, h2, h3, h4⟩ := h
    exact ⟨a, q, vs, h1, e.sqt h2, e.sqt h3, RowTs.kp e h4⟩
  | .ifr _ rs os, _, h => by
    obtain ⟨a, u, q, r, vs, ws, h1, h2, h3, h4, h5, h6, h7⟩ := h
    exact ⟨a, u, q, r, vs, ws, h1, e.sqt h2, h3.kp e, e.sqt h4, RowTs.kp e h5, e.sqt h6, RowTs.kp e h7⟩
theorem RowTs.kp (e : Kp H H') : ∀ {rs : List RowM} {vs : List V}, RowTs K H rs vs → RowTs K H' rs vs
  | [], _, h => h
  | r :: rs, _, h => by
    obtain ⟨v, ws, h1, h2, h3⟩ := h
    exact ⟨v, ws, h1, RowT.kp e h2, RowTs.kp e h3⟩
end
end
section
variable {K : PySem.W.Frag} {A : ClsA} {row test : Addr} {H : Hp} {a dx : Addr} {fs : List (Str × V)} {r : RowM}
theorem RowO.put_of (k : kitO K A row test = true) (hr : RowO K A H r (.ref a)) (h0 : H a = some (.ins A.put dx fs)) : ∃ (n d : Str) (g : List V) (q : Addr), r = .put n d g ∧ fs = ([("name", .str n), ("deed", .str d), ("given", .ref q)] : List (Str × V)) ∧ SqT K H q g := by
  cases r with
  | put n d g => unfold RowO at hr; obtain ⟨b, dx2, q, e, h2, h3⟩ := hr; cases e; rw [h0] at h2; exact ⟨n, d, g, q, rfl, (HO.ins.inj (Option.some.inj h2)).2.2, h3⟩
  | stop => unfold RowO at hr; obtain ⟨b, dx2, e, h2⟩ := hr; cases e; rw [h0] at h2; exact absurd (HO.ins.inj (Option.some.inj h2)).1 (clsNe k 0 3 (by decide) (by decide) (by decide))
  | times c rs => unfold RowO at hr; obtain ⟨b, dx2, q, vs, e, h2, _⟩ := hr; cases e; rw [h0] at h2; exact absurd (HO.ins.inj (Option.some.inj h2)).1 (clsNe k 0 2 (by decide) (by decide) (by decide))
  | ifr t rs os => unfold RowO at hr; obtain ⟨b, dx2, u, q, x, vs, ws, e, h2, _⟩ := hr; cases e; rw [h0] at h2; exact absurd (HO.ins.inj (Option.some.inj h2)).1 (clsNe k 0 1 (by decide) (by decide) (by decide))
theorem RowO.stop_of (k : kitO K A row test = true) (hr : RowO K A H r (.ref a)) (h0 : H a = some (.ins A.stop dx fs)) : r = .stop := by
  cases r with
  | stop => rfl
  | put n d g => unfold RowO at hr; obtain ⟨b, dx2, q, e, h2, h3⟩ := hr; cases e; rw [h0] at h2; exact absurd (HO.ins.inj (Option.some.inj h2)).1 (clsNe k 3 0 (by decide) (by decide) (by decide))
  | times c rs => unfold RowO at hr; obtain ⟨b, dx2, q, vs, e, h2, _⟩ := hr; cases e; rw [h0] at h2; exact absurd (HO.ins.inj (Option.some.inj h2)).1 (clsNe k 3 2 (by decide) (by decide) (by decide))
  | ifr t rs os => unfold RowO at hr; obtain ⟨b, dx2, u, q, x, vs, ws, e, h2, _⟩ := hr; cases e; rw [h0] at h2; exact absurd (HO.ins.inj (Option.some.inj h2)).1 (clsNe k 3 1 (by decide) (by decide) (by decide))
theorem RowO.times_of (k : kitO K A row test = true) (hr : RowO K A H r (.ref a)) (h0 : H a = some (.ins A.times dx fs)) : ∃ (c : Nat) (rs : List RowM) (q : Addr) (vs : List V), r = .times c rs ∧ fs = ([("count", .int (c : Nat)), ("rows", .ref q)] : List (Str × V)) ∧ SqT K H q vs ∧ RowOs K A H rs vs := by
  cases r with
  | times c rs => unfold RowO at hr; obtain ⟨b, dx2, q, vs, e, h2, h3, h4⟩ := hr; cases e; rw [h0] at h2; exact ⟨c, rs, q, vs, rfl, (HO.ins.inj (Option.some.inj h2)).2.2, h3, h4⟩
  | put n d g => unfold RowO at hr; obtain ⟨b, dx2, q, e, h2, h3⟩ := hr; cases e; rw [h0] at h2; exact absurd (HO.ins.inj (Option.some.inj h2)).1 (clsNe k 2 0 (by decide) (by decide) (by decide))
  | stop => unfold RowO at hr; obtain ⟨b, dx2, e, h2⟩ := hr; cases e; rw [h0] at h2; exact absurd (HO.ins.inj (Option.some.inj h2)).1 (clsNe k 2 3 (by decide) (by decide) (by decide))
  | ifr t rs os => unfold RowO at hr; obtain ⟨b, dx2, u, q, x, vs, ws, e, h2, _⟩ := hr; cases e; rw [h0] at h2; exact absurd (HO.ins.inj (Option.some.inj h2)).1 (clsNe k 2 1 (by decide) (by decide) (by decide))
theorem RowO.ifr_of (k : kitO K A row test = true) (hr : RowO K A H r (.ref a)) (h0 : H a = some (.ins A.ifr dx fs)) : ∃ (t : TestM) (rs os : List RowM) (u : V) (q x : Addr) (vs ws : List V), r = .ifr t rs os ∧ fs = ([("test", u), ("rows", .ref q), ("others", .ref x)] : List (Str × V)) ∧ TestO K A H t u ∧ SqT K H q vs ∧ RowOs K A H rs vs ∧ SqT K H x ws ∧ RowOs K A H os ws := by
  cases r with
  | ifr t rs os => unfold RowO at hr; obtain ⟨b, dx2, u, q, x, vs, ws, e, h2, h3⟩ := hr; cases e; rw [h0] at h2; exact ⟨t, rs, os, u, q, x, vs, ws, rfl, (HO.ins.inj (Option.some.inj h2)).2.2, h3⟩
  | put n d g => unfold RowO at hr; obtain ⟨b, dx2, q, e, h2, h3⟩ := hr; cases e; rw [h0] at h2; exact absurd (HO.ins.inj (Option.some.inj h2)).1 (clsNe k 1 0 (by decide) (by decide) (by decide))
  | stop => unfold RowO at hr; obtain ⟨b, dx2, e, h2⟩ := hr; cases e; rw [h0] at h2; exact absurd (HO.ins.inj (Option.some.inj h2)).1 (clsNe k 1 3 (by decide) (by decide) (by decide))
  | times c rs => unfold RowO at hr; obtain ⟨b, dx2, q, vs, e, h2, _⟩ := hr; cases e; rw [h0] at h2; exact absurd (HO.ins.inj (Option.some.inj h2)).1 (clsNe k 1 2 (by decide) (by decide) (by decide))
end
end My
set_option Elab.async false
set_option linter.all false
set_option maxRecDepth 100000
set_option maxHeartbeats 4000000
/-! texts of lines -/
namespace My
open PySem PySem.Spec PyProof.Rows L2 Evl
theorem str_assoc (a b c : Str) : a ++ b ++ c = a ++ (b ++ c) := PySem.Str.append_assoc a b c
theorem str_len (a b : Str) : (a ++ b).length = a.length + b.length := PySem.Str.length_append a b
theorem emp_app (a : Str) : Str.empty ++ a = a := PySem.Str.ext' (by show (#[] ++ a.cps : Array Nat) = a.cps; simp)
theorem emp_app' (a : Str) : (Str.ofString "") ++ a = a := PySem.Str.ext' (by show ((Str.ofString "").cps ++ a.cps : Array Nat) = a.cps; rw [show (Str.ofString "").cps = #[] from rfl]; simp)
theorem join_nil (s : Str) : Txt.join s [] = Str.empty := by rw [TL.join_eq]; rfl
theorem join_one (s x : Str) : Txt.join s [x] = x := by rw [TL.join_eq]; rfl
theorem join_cons (s x y : Str) (r : List Str) : Txt.join s (x :: y :: r) = x ++ s ++ Txt.join s (y :: r) := by rw [TL.join_eq, TL.join_eq]; rfl
theorem join_cons' (s x : Str) {r : List Str} (h : r ≠ []) : Txt.join s (x :: r) = x ++ s ++ Txt.join s r := by
  cases r with
  | nil => exact absurd rfl h
  | cons y r => exact join_cons s x y r
theorem join_app (s : Str) : ∀ {as bs : List Str}, as ≠ [] → bs ≠ [] → Txt.join s (as ++ bs) = Txt.join s as ++ s ++ Txt.join s bs
  | [], _, h, _ => absurd rfl h
  | [a], bs, _, h => by rw [List.singleton_append, join_cons' s a h, join_one]
  | a :: b :: r, bs, _, h => by
    have ih := join_app s (as := b :: r) (bs := bs) (by simp) h
    rw [List.cons_append, join_cons' s a (r := b :: r ++ bs) (by simp), ih, join_cons]
    simp only [str_assoc]
theorem join_flat (s : Str) : ∀ {ls : List (List Str)}, (∀ l ∈ ls, l ≠ []) → Txt.join s (ls.map (Txt.join s)) = Txt.join s ls.flatten
  | [], _ => rfl
  | [l], _ => by rw [List.map_cons, List.map_nil, join_one, List.flatten_cons, List.flatten_nil, List.append_nil]
  | l :: m :: r, h => by
    have ih := join_flat s (ls := m :: r) fun x hx => h x (List.mem_cons_of_mem _ hx)
    have hm : (m :: r).flatten ≠ [] := by
      rw [List.flatten_cons]
      intro z
      exact h m (by simp) (List.append_eq_nil_iff.mp z).1
    rw [List.map_cons, join_cons' s _ (by simp), ih, List.flatten_cons (l := l), join_app s (h l (by simp)) hm]
/-- how long lines are, each with its end -/
def wt (ls : List Str) : Nat := (ls.map fun x => x.length + 1).sum
theorem wt_app (as bs : List Str) : wt (as ++ bs) = wt as + wt bs := by unfold wt; rw [List.map_append, List.sum_append]
theorem wt_cons (a : Str) (bs : List Str) : wt (a :: bs) = a.length + 1 + wt bs := by unfold wt; rw [List.map_cons, List.sum_cons]
theorem wt_sum : ∀ ls : List Str, wt ls = (ls.map (·.length)).sum + ls.length * 1
  | [] => rfl
  | a :: r => by rw [wt_cons, wt_sum r, List.map_cons, List.sum_cons, List.length_cons]; omega
theorem join_wt {s : Str} (hs : s.length = 1) : ∀ {ls : List Str}, ls ≠ [] → (Txt.join s ls).length + 1 = wt ls
  | [], h => absurd rfl h
  | [a], _ => by rw [join_one, wt_cons]; rfl
  | a :: b :: r, _ => by
    have ih := join_wt hs (ls := b :: r) (by simp)
    rw [join_cons, str_len, str_len, hs, wt_cons]
    omega
theorem lines_ne (r : RowM) : r.lines ≠ [] := by cases r <;> simp [RowM.lines]
theorem liness_eq : ∀ rs : List RowM, RowM.liness rs = (rs.map RowM.lines).flatten
  | [] => by simp [RowM.liness]
  | r :: rs => by rw [RowM.liness, liness_eq rs, List.map_cons, List.flatten_cons]
theorem elses_eq (os : List RowM) : RowM.elses os = if os = [] then [] else ("else" : Str) :: RowM.liness os := by
  cases os with
  | nil => simp [RowM.elses]
  | cons o os => rw [if_neg (by simp), RowM.elses, RowM.liness]
theorem nl1 : (Str.ofString "\n").length = 1 := by decide
theorem sp1 : (Str.ofString " ").length = 1 := by decide
theorem text_wt (r : RowM) : r.text.length + 1 = wt r.lines := join_wt nl1 (lines_ne r)
theorem wt_liness : ∀ rs : List RowM, wt (RowM.liness rs) = (rs.map fun r => r.text.length + 1).sum
  | [] => by simp [RowM.liness, wt]
  | r :: rs => by rw [RowM.liness, wt_app, wt_liness rs, ← text_wt, List.map_cons, List.sum_cons]
/-- the text of a counted block, of a choice: by the texts of its rows -/
theorem text_times (c : Nat) (rs : List RowM) : (RowM.times c rs).text = Txt.join (Str.ofString "\n") ((Str.ofString "times " ++ Str.ofString (toString (c : Int))) :: (rs.map RowM.text ++ [("end" : Str)])) := by
  have e := join_flat (Str.ofString "\n") (ls := [Str.ofString "times " ++ Str.ofString (toString (c : Int))] :: (rs.map RowM.lines ++ [[("end" : Str)]])) (fun l hl => by
    simp only [List.mem_cons, List.mem_append, List.mem_map, List.not_mem_nil, or_false] at hl
    rcases hl with rfl | ⟨r, _, rfl⟩ | rfl
    · simp
    · exact lines_ne r
    · simp)
  rw [List.map_cons, join_one, List.map_append, List.map_map, List.map_cons, List.map_nil, join_one] at e
  rw [show (rs.map RowM.text) = rs.map (Txt.join (Str.ofString "\n") ∘ RowM.lines) from rfl, e]
  unfold RowM.text
  rw [RowM.lines, liness_eq]
  simp
theorem text_ifr (t : TestM) (rs os : List RowM) : (RowM.ifr t rs os).text = Txt.join (Str.ofString "\n") (((Str.ofString "if " ++ t.text) :: rs.map RowM.text ++ (if os = [] then [] else ("else" : Str) :: os.map RowM.text)) ++ [("end" : Str)]) := by
  have e := join_flat (Str.ofString "\n") (ls := (([Str.ofString "if " ++ t.text] :: rs.map RowM.lines) ++ (if os = [] then [] else [("else" : Str)] :: os.map RowM.lines)) ++ [[("end" : Str)]]) (fun l hl => by
    simp only [List.mem_cons, List.mem_append, List.mem_map, List.not_mem_nil, or_false] at hl
    rcases hl with ((rfl | ⟨r, _, rfl⟩) | hl) | rfl
    · simp
    · exact lines_ne r
    · split at hl
      · cases hl
      · rcases List.mem_cons.mp hl with rfl | hl
        · simp
        · obtain ⟨r, _, rfl⟩ := List.mem_map.mp hl
          exact lines_ne r
    · simp)
  rw [List.map_append, List.map_append, List.map_cons, join_one, List.map_map, List.map_cons, List.map_nil, join_one] at e
  have e2 : List.map (Txt.join (Str.ofString "\n")) (if os = [] then [] else [("else" : Str)] :: os.map RowM.lines) = (if os = [] then [] else ("else" : Str) :: os.map RowM.text) := by
    split
    · rfl
    · rw [List.map_cons, join_one, List.map_map]; rfl
  rw [e2] at e
  rw [show (rs.map RowM.text) = rs.map (Txt.join (Str.ofString "\n") ∘ RowM.lines) from rfl, e]
  unfold RowM.text
  rw [RowM.lines, liness_eq, elses_eq, liness_eq]
  split <;> simp
/-! ### words of signs -/
theorem em0 : (Str.ofString "").length = 0 := by decide
theorem word_of (P : Nat → Prop) : ∀ {xs : List Str}, (∀ x ∈ xs, ∃ c, x = ⟨#[c]⟩ ∧ P c) → (Txt.join (Str.ofString "") xs).length = xs.length ∧ ∀ c ∈ (Txt.join (Str.ofString "") xs).cps.toList, P c
  | [], _ => by rw [join_nil]; exact ⟨rfl, fun c hc => by cases hc⟩
  | [x], h => by
    obtain ⟨c, rfl, hc⟩ := h x (by simp)
    rw [join_one]
    exact ⟨rfl, fun z hz => by simp at hz; rw [hz]; exact hc⟩
  | x :: y :: r, h => by
    obtain ⟨c, rfl, hc⟩ := h x (by simp)
    obtain ⟨h1, h2⟩ := word_of P (xs := y :: r) fun z hz => h z (List.mem_cons_of_mem _ hz)
    rw [join_cons]
    refine ⟨by rw [str_len, str_len, em0, h1]; simp [PySem.Str.length]; omega, fun z hz => ?_⟩
    have e : ((⟨#[c]⟩ : Str) ++ Str.ofString "" ++ Txt.join (Str.ofString "") (y :: r)).cps.toList = c :: (Txt.join (Str.ofString "") (y :: r)).cps.toList := by
      show ((#[c] ++ (Str.ofString "").cps) ++ (Txt.join (Str.ofString "") (y :: r)).cps).toList = _
      rw [show (Str.ofString "").cps = #[] from rfl]
      simp
    rw [e] at hz
    rcases List.mem_cons.mp hz with rfl | hz
    · exact hc
    · exact h2 z hz
theorem nodup_len {α : Type} [DecidableEq α] : ∀ (as ns : List α), as.Nodup → (∀ a ∈ as, a ∈ ns) → as.length ≤ ns.length
  | [], _, _, _ => Nat.zero_le _
  | a :: as, ns, hn, h => by
    obtain ⟨h1, h2⟩ := List.nodup_cons.mp hn
    have ih := nodup_len as (ns.erase a) h2 fun b hb => (List.mem_erase_of_ne (fun e => h1 (by rw [← e]; exact hb))).mpr (h b (List.mem_cons_of_mem _ hb))
    have hm := h a (by simp)
    rw [List.length_erase_of_mem hm] at ih
    have := List.length_pos_of_mem hm
    rw [List.length_cons]
    omega
theorem one_free (w : Str) (ns : List Str) (h : ns.length ≤ 3) : ([w, "a", "b", "c", "d"].filter fun x => !(ns.contains x)) ≠ [] := by
  intro e
  have hall : ∀ x ∈ ([w, "a", "b", "c", "d"] : List Str), x ∈ ns := fun x hx => by
    have := List.filter_eq_nil_iff.mp e x hx
    simpa using this
  have := nodup_len (["a", "b", "c", "d"] : List Str) ns (by decide) fun x hx => hall x (List.mem_cons_of_mem _ hx)
  simp at this
  omega
theorem inV_strs (x : Str) (ns : List Str) : inV (.str x) (ns.map V.str) = ns.contains x := by
  unfold inV
  induction ns with
  | nil => rfl
  | cons n ns ih =>
    rw [List.map_cons, List.any_cons, ih, List.contains_cons]
    refine congrArg (· || _) ?_
    show (n == x) = (x == n)
    by_cases h : n = x
    · rw [h]
    · rw [beq_eq_false_iff_ne.mpr h, beq_eq_false_iff_ne.mpr (Ne.symm h)]
theorem flat_strs (ns : List Str) : (ns.map V.str).all flatV = true := by
  induction ns with
  | nil => rfl
  | cons n ns ih => rw [List.map_cons, List.all_cons, ih]; rfl
end My
set_option Elab.async false
set_option linter.all false
set_option maxRecDepth 100000
set_option maxHeartbeats 4000000
/-! o != y by object.__ne__ and the own __eq__ of o's class -/
namespace My
open PySem PySem.Spec PyProof.Rows L2 Evl
section
open PySem.W
variable {prog : Program} {w : World} {A : Around} {E : Value → Shared → Prop} {s : Shared} {K : Frag} {x C f : Addr} {ox : Obj} {od : Option Obj} {b tb : Value} {name : Str} {id : String}
theorem ifBound_B {M : Model} {args : List Value} {Q : Option Value → Shared → Prop} (X : K.In s.heap) (I : InstAt s.heap x ox C od) (hs : findIn K (.ref C) name = some (some (.builtin id))) (hb : ∀ self, bindSpecial (.builtin id) self = pure (.builtin id, [self]))
    (h : wpAny M A (call (.builtin id) (.ref x :: args)) (fun v => Q (some v)) E s) : wpAny M A (callSpecialIfBound? (.ref x) name args) Q E s := by
  simp only [callSpecialIfBound?, bindSpecialIfBound?]
  refine wpAny_holding (wpAny_bind (wpAny_bind (wpAny_bind (I.type.here ((looks_findIn X hs).here ?_)))))
  refine wpAny_bind (wpAny_askSetting (wpAny_ite ?_))
  have fin : wpAny M A (call (.builtin id) ([.ref x] ++ args) >>= fun v => pure (some v)) Q E s := wpAny_bind (wpAny_mono h (fun v s' h' => wpAny_pure h') fun _ _ h' => h')
  split
  · exact wpAny_bind ((Looks.of_pure (hb _)).here (wpAny_pure (by exact fin)))
  · exact wpAny_tryCatch (wpAny_bind ((Looks.of_pure (hb _)).here (wpAny_pure (by exact fin))))
theorem ne_bind (self : Value) : bindSpecial (.builtin "object.__ne__") self = pure (.builtin "object.__ne__", [self]) := PySem.F.cmp_object.ne.bind self
theorem objNe_K {Q : Fin → Shared → Prop} (X : K.In s.heap) (I : InstAt s.heap x ox C od) (hu : A.units < cLine) (hs : findIn K (.ref C) "__eq__" = some (some (.ref f))) (hf : isFn K (.ref f) = true)
    (hcall : wpAny (model prog w) A (call (.ref f) [.ref x, b]) (fun v s' => ∃ r, v = .bool r ∧ Q (.done (.ret (.bool (!r)))) s') E s) :
    wpAny (model prog w) A (Builtin.«object.__ne__» ⟨[.ref x, b], []⟩) Q E s := by
  unfold Builtin.«object.__ne__»
  repeat (first
    | with_reducible refine wpAny_cRoomFor hu ?_
    | (refine wpAny_bind (m := callSpecialIfBound? (.ref x) (Str.ofString "__eq__") [b])
        (ifBound_K X I hs hf (wpAny_mono hcall (fun v s' hr => by
          obtain ⟨r, rfl, hq⟩ := hr
          repeat (first | exact hq | exact wpAny_pure hq | exact wpAny_truthy_bool hq | (refine wpAny_bind (m := truthy (.bool _)) (wpAny_truthy_bool ?_)) | wp_step)) fun _ _ e => e)))
    | wp_step)
theorem cmpNe_K {Q : Value → Shared → Prop} (hu : A.units + 1 < cLine) (X : K.In s.heap) (I : InstAt s.heap x ox C od) (hb : Looks (model prog w) s.heap (typeOf b) tb) (hn : notFirst K C tb = true)
    (hne : findIn K (.ref C) "__ne__" = some (some (.builtin "object.__ne__"))) (hm : mroIn K C (.type "object") = some true)
    (hs : findIn K (.ref C) "__eq__" = some (some (.ref f))) (hf : isFn K (.ref f) = true)
    (h : wpAny (model prog w) A.in1 (call (.ref f) [.ref x, b]) (fun v s' => ∃ r, v = .bool r ∧ Q (.bool (!r)) s') E s) : wpAny (model prog w) A (richCompare .NotEq (.ref x) b) Q E s := by
  have one : wpAny (model prog w) A (tryCompare (.ref x) (cmpInfo .NotEq).2.1 b) (fun r s' => ∃ v, r = some v ∧ Q v s') E s := by
    simp only [tryCompare]
    refine wpAny_bind (ifBound_B X I hne ne_bind (wpAny_call (codeAny_call_builtin PySem.F.cmp_object.ne.plain F.cmpEntry_ne
      (check_slot (i := "object.__ne__") (owner := "object") (n := "__ne__") F.cmpKind_ne F.cmpSplit_ne (I.type.andThen (looks_mroIn X hm)) (F.cmpArgs_ne _ _) ?_))))
    refine objNe_K (A := A.in1) X I hu hs hf (wpAny_mono h (fun v s' hv => ?_) fun _ _ e => e)
    obtain ⟨r, rfl, hq⟩ := hv
    exact ⟨r, rfl, wpAny_pure ⟨_, rfl, hq⟩⟩
  unfold richCompare
  simp only [oneThing_ref]
  refine wpAny_holding (wpAny_bind (wpAny_cRoomFor (Nat.lt_of_succ_lt hu) ?_))
  refine wpAny_bind (I.type.here (wpAny_bind (hb.here ?_)))
  split
  · rename_i q
    have e : subIn K tb (.ref C) = some false := by
      rcases Bool.or_eq_true_iff.mp hn with e | e
      · rw [beq_iff_eq.mp e] at q; simp at q
      · exact beq_iff_eq.mp e
    refine wpAny_bind ((looks_subIn X e).here ?_)
    simp only [Bool.false_eq_true, if_false]
    refine wpAny_bind (wpAny_mono one (fun r s' z => ?_) fun _ _ e => e)
    obtain ⟨v, rfl, hq⟩ := z
    exact wpAny_pure hq
  · refine wpAny_bind (wpAny_pure ?_)
    simp only [Bool.false_eq_true, if_false]
    refine wpAny_bind (wpAny_mono one (fun r s' z => ?_) fun _ _ e => e)
    obtain ⟨v, rfl, hq⟩ := z
    exact wpAny_pure hq
end
/-- what an own class must say that != goes by its __eq__ -/
def NeC (K : PySem.W.Frag) (C : Addr) : Prop := PySem.W.findIn K (.ref C) "__ne__" = some (some (.builtin "object.__ne__")) ∧ PySem.W.mroIn K C (.type "object") = some true
def rNeO (K : PySem.W.Frag) (SF : Addr → Addr → Prop) (sp : Sp) (E : XK) : R2 := fun x y H Q => ∃ a C dx fs g t, x = .ref a ∧ H a = some (.ins C dx fs) ∧ SF C g ∧ TyX K H y t ∧ PySem.W.notFirst K C t = true ∧ sp [x, y] H (fun z H' => ∃ r, z = .bl r ∧ Q (.bl (!r)) H') E
theorem op_neO {X : Cx} {CX : CXT} {n : Nat} {sp : Sp} {E : XK} {SF : Addr → Addr → Prop} (hN : ∀ C g, SF C g → NeC X.K C) (hS : ∀ C g, SF C g → MethC X.K "__eq__" C g) (hF : ∀ C g, SF C g → FnR X.prog X.w X.K X.mg X.base CX n g (onC C sp)) (hr : Room (n + 1) X.A) (hx : Passes CX X E) : OpR X (compareOp .NotEq) (rNeO X.K SF sp E) := by
  intro pins s σ H x y v u Q I rx ry h
  obtain ⟨a, C, dx, fs, g, t, rfl, ha, hg, ty, hn, q⟩ := h
  obtain rfl : v = Value.ref a := rx
  obtain ⟨od, J⟩ := ins_at I ha
  obtain ⟨m, hFr⟩ := I.fr
  obtain ⟨PP, KX, hp, _⟩ := kit_of I ry ty
  have h2 : Room n X.A.in1 := Room.in1 hr
  have hu : X.A.units + 1 < cLine := by have := hr.units; omega
  show wpAny _ _ (richCompare .NotEq _ _) _ _ _
  refine cmpNe_K (tb := t) hu I.kIn J (KX.ty _ _ I.kIn hp) hn (hN C g hg).1 (hN C g hg).2 (hS C g hg).at_ (hS C g hg).fn ?_
  refine wpAny_mono (wpAny_call (SlX.run_at (us := [.ref a, u]) (ws := [.ref a, y]) (hF C g hg) h2 I.env0.in1 hx I (.cons rfl (.cons ry .nil)) ⟨⟨_, _, _, _, rfl, ha⟩, q⟩)) (fun w s' z => ?_) fun _ _ x => x
  obtain ⟨z', H', I', rz, r, ey, qz⟩ := z
  subst ey
  cases rz
  exact ⟨r, rfl, .bl (!r), H', I', rfl, qz⟩
end My
set_option Elab.async false
set_option linter.all false
set_option maxRecDepth 100000
set_option maxHeartbeats 4000000
/-! any values as far as isinstance looks at them; making an own object whose __init__ may raise; isinstance of a caught own error by one class -/
namespace My
open PySem PySem.Spec PyProof.Rows L2 Evl
/-- a value, as far as the package looks at it -/
inductive AM where
  | non
  | bl (b : Bool)
  | int (i : Int)
  | str (x : Str)
  | row
  | test
  | seq (l : Bool) (xs : List AM)
def seqO (l : Bool) (vs : List V) : HO := if l then .lst vs else .tup vs
mutual
def AO (A : ClsA) (bad : Addr → Prop) (H : Hp) : AM → V → Prop
  | .non, v => v = .non
  | .bl b, v => v = .bl b
  | .int i, v => v = .int i ∧ i.natAbs < 2 ^ 100
  | .str x, v => v = .str x ∧ x.length ≤ 100
  | .row, v => ∃ a C dx fs, v = .ref a ∧ ¬ bad a ∧ H a = some (.ins C dx fs) ∧ (C = A.put ∨ C = A.ifr ∨ C = A.times ∨ C = A.stop)
  | .test, v => ∃ a C dx fs, v = .ref a ∧ ¬ bad a ∧ H a = some (.ins C dx fs) ∧ (C = A.ask ∨ C = A.not)
  | .seq l ms, v => ∃ a vs, v = .ref a ∧ ¬ bad a ∧ H a = some (seqO l vs) ∧ vs.length ≤ 100 ∧ AOs A bad H ms vs
def AOs (A : ClsA) (bad : Addr → Prop) (H : Hp) : List AM → List V → Prop
  | [], vs => vs = []
  | m :: ms, vs => ∃ v ws, vs = v :: ws ∧ AO A bad H m v ∧ AOs A bad H ms ws
end
section
variable {A : ClsA} {bad bad' : Addr → Prop} {H H' : Hp}
mutual
theorem AO.keep (k : ∀ b o, ¬ bad b → H b = some o → H' b = some o) : ∀ {m : AM} {v : V}, AO A bad H m v → AO A bad H' m v
  | .non, _, h => by unfold AO at h ⊢; exact h
  | .bl _, _, h => by unfold AO at h ⊢; exact h
  | .int _, _, h => by unfold AO at h ⊢; exact h
  | .str _, _, h => by unfold AO at h ⊢; exact h
  | .row, _, h => by unfold AO at h ⊢; obtain ⟨a, C, dx, fs, e, b, o, c⟩ := h; exact ⟨a, C, dx, fs, e, b, k _ _ b o, c⟩
  | .test, _, h => by unfold AO at h ⊢; obtain ⟨a, C, dx, fs, e, b, o, c⟩ := h; exact ⟨a, C, dx, fs, e, b, k _ _ b o, c⟩
  | .seq l ms, _, h => by unfold AO at h ⊢; obtain ⟨a, vs, e, b, o, c, r⟩ := h; exact ⟨a, vs, e, b, k _ _ b o, c, AOs.keep k r⟩
theorem AOs.keep (k : ∀ b o, ¬ bad b → H b = some o → H' b = some o) : ∀ {ms : List AM} {vs : List V}, AOs A bad H ms vs → AOs A bad H' ms vs
  | [], _, h => by unfold AOs at h ⊢; exact h
  | m :: ms, _, h => by unfold AOs at h ⊢; obtain ⟨v, ws, e, x, y⟩ := h; exact ⟨v, ws, e, AO.keep k x, AOs.keep k y⟩
end
mutual
theorem AO.less (k : ∀ b, H b ≠ none → bad' b → bad b) : ∀ {m : AM} {v : V}, AO A bad H m v → AO A bad' H m v
  | .non, _, h => by unfold AO at h ⊢; exact h
  | .bl _, _, h => by unfold AO at h ⊢; exact h
  | .int _, _, h => by unfold AO at h ⊢; exact h
  | .str _, _, h => by unfold AO at h ⊢; exact h
  | .row, _, h => by unfold AO at h ⊢; obtain ⟨a, C, dx, fs, e, b, o, c⟩ := h; exact ⟨a, C, dx, fs, e, fun z => b (k _ (by rw [o]; simp) z), o, c⟩
  | .test, _, h => by unfold AO at h ⊢; obtain ⟨a, C, dx, fs, e, b, o, c⟩ := h; exact ⟨a, C, dx, fs, e, fun z => b (k _ (by rw [o]; simp) z), o, c⟩
  | .seq l ms, _, h => by unfold AO at h ⊢; obtain ⟨a, vs, e, b, o, c, r⟩ := h; exact ⟨a, vs, e, fun z => b (k _ (by rw [o]; simp) z), o, c, AOs.less k r⟩
theorem AOs.less (k : ∀ b, H b ≠ none → bad' b → bad b) : ∀ {ms : List AM} {vs : List V}, AOs A bad H ms vs → AOs A bad' H ms vs
  | [], _, h => by unfold AOs at h ⊢; exact h
  | m :: ms, _, h => by unfold AOs at h ⊢; obtain ⟨v, ws, e, x, y⟩ := h; exact ⟨v, ws, e, AO.less k x, AOs.less k y⟩
end
theorem AO.ex {m : AM} {v : V} (h : AO A bad H m v) (e : Ex H H') : AO A bad H' m v := h.keep fun b o _ hb => e b o hb
theorem AOs.ex {ms : List AM} {vs : List V} (h : AOs A bad H ms vs) (e : Ex H H') : AOs A bad H' ms vs := h.keep fun b o _ hb => e b o hb
theorem AOs.len : ∀ {ms : List AM} {vs : List V}, AOs A bad H ms vs → vs.length = ms.length
  | [], _, h => by unfold AOs at h; rw [h]; rfl
  | m :: ms, _, h => by unfold AOs at h; obtain ⟨v, ws, e, x, y⟩ := h; rw [e, List.length_cons, List.length_cons, AOs.len y]
theorem AOs.at_ : ∀ {ms : List AM} {vs : List V} {i : Nat} {v : V}, AOs A bad H ms vs → vs[i]? = some v → ∃ m, ms[i]? = some m ∧ AO A bad H m v
  | [], _, _, _, h, hi => by unfold AOs at h; rw [h] at hi; simp at hi
  | m :: ms, _, 0, _, h, hi => by
    unfold AOs at h; obtain ⟨v, ws, e, x, y⟩ := h
    rw [e, List.getElem?_cons_zero] at hi
    cases hi
    exact ⟨m, rfl, x⟩
  | m :: ms, _, i + 1, _, h, hi => by
    unfold AOs at h; obtain ⟨v, ws, e, x, y⟩ := h
    rw [e, List.getElem?_cons_succ] at hi
    rw [List.getElem?_cons_succ]
    exact AOs.at_ y hi
theorem AOs.nil : AOs A bad H [] [] := by unfold AOs; rfl
theorem AOs.cons {m : AM} {ms : List AM} {v : V} {vs : List V} (h : AO A bad H m v) (t : AOs A bad H ms vs) : AOs A bad H (m :: ms) (v :: vs) := by unfold AOs; exact ⟨v, vs, rfl, h, t⟩
theorem AOs.snoc {m : AM} {v : V} (h : AO A bad H m v) : ∀ {ms : List AM} {vs : List V}, AOs A bad H ms vs → AOs A bad H (ms ++ [m]) (vs ++ [v])
  | [], _, t => by unfold AOs at t; rw [t]; exact .cons h .nil
  | _ :: _, _, t => by unfold AOs at t; obtain ⟨v, ws, e, x, y⟩ := t; rw [e]; exact .cons x (AOs.snoc h y)
theorem AOs.drop : ∀ {ms : List AM} {vs : List V} (n : Nat), AOs A bad H ms vs → AOs A bad H (ms.drop n) (vs.drop n)
  | _, _, 0, h => h
  | [], _, n + 1, h => by unfold AOs at h; rw [h]; exact .nil
  | m :: ms, _, n + 1, h => by unfold AOs at h; obtain ⟨v, ws, e, x, y⟩ := h; rw [e]; exact AOs.drop n y
theorem AOs.cases1 {m : AM} {ms : List AM} {vs : List V} (h : AOs A bad H (m :: ms) vs) : ∃ v ws, vs = v :: ws ∧ AO A bad H m v ∧ AOs A bad H ms ws := by unfold AOs at h; exact h
theorem AOs.cases0 {vs : List V} (h : AOs A bad H [] vs) : vs = [] := by unfold AOs at h; exact h
end
/-! ### what isinstance says -/
def AM.is (m : AM) (c : String) : Bool := match m with
  | .non => decide (c = "NoneType")
  | .bl _ => decide (c = "bool" ∨ c = "int")
  | .int _ => decide (c = "int")
  | .str _ => decide (c = "str")
  | .row | .test => false
  | .seq l _ => decide (c = if l then "list" else "tuple")
def AM.isR : AM → Bool
  | .row => true
  | _ => false
def AM.isT : AM → Bool
  | .test => true
  | _ => false
/-- the classes of rows and tests, as isinstance asks for them -/
structure KT (K : PySem.W.Frag) (A : ClsA) (row test : Addr) : Prop where
  kit : kitO K A row test = true
  put : OC K A.put
  ifr : OC K A.ifr
  times : OC K A.times
  stop : OC K A.stop
  ask : OC K A.ask
  not : OC K A.not
def askTs : List String := ["str", "tuple", "list", "int", "bool"]
section
variable {K : PySem.W.Frag} {A : ClsA} {row test : Addr} {bad : Addr → Prop} {H : Hp}
theorem kb_ok : (["NoneType", "bool", "int", "str", "list", "tuple"].all fun t => askTs.all fun c => kitB t c == some (decide (t = c ∨ (t = "bool" ∧ c = "int")))) = true := by decide +kernel
theorem kb_at {t c : String} (ht : t ∈ ["NoneType", "bool", "int", "str", "list", "tuple"]) (hc : c ∈ askTs) : kitB t c = some (decide (t = c ∨ (t = "bool" ∧ c = "int"))) := eq_of_beq (List.all_eq_true.mp (List.all_eq_true.mp kb_ok t ht) c hc)
theorem AO.ty (k : KT K A row test) {m : AM} {v : V} (h : AO A bad H m v) : ∃ t, TyX K H v t ∧ (∀ c ∈ askTs, PySem.W.kitOne K t (.type c) = some (m.is c)) ∧ PySem.W.kitOne K t (.ref row) = some m.isR ∧ PySem.W.kitOne K t (.ref test) = some m.isT := by
  have plain : ∀ {v : V} {t : String}, TyX K H v (.type t) → t ∈ ["NoneType", "bool", "int", "str", "list", "tuple"] → (∀ c ∈ askTs, decide (t = c ∨ (t = "bool" ∧ c = "int")) = m.is c) → m.isR = false → m.isT = false →
      ∃ t, TyX K H v t ∧ (∀ c ∈ askTs, PySem.W.kitOne K t (.type c) = some (m.is c)) ∧ PySem.W.kitOne K t (.ref row) = some m.isR ∧ PySem.W.kitOne K t (.ref test) = some m.isT := by
    intro v t ty ht ha hr hs
    have hp : t ∈ plainTs := by
      simp only [List.mem_cons, List.not_mem_nil, or_false, plainTs] at ht ⊢
      rcases ht with rfl | rfl | rfl | rfl | rfl | rfl <;> simp
    refine ⟨.type t, ty, fun c hc => by rw [kit_ty (kb_at ht hc), ha c hc], ?_, ?_⟩
    · rw [hr]; exact kitO3 k.kit 6 t (by decide) hp
    · rw [hs]; exact kitO3 k.kit 7 t (by decide) hp
  have inst : ∀ {a C dx : Addr} {fs : List (Str × V)} (i : Nat), i < 6 → (clsL A row test).getD i 0 = C → OC K C → H a = some (.ins C dx fs) → (∀ c ∈ askTs, m.is c = false) → m.isR = ansO i 6 → m.isT = ansO i 7 →
      ∃ t, TyX K H (.ref a) t ∧ (∀ c ∈ askTs, PySem.W.kitOne K t (.type c) = some (m.is c)) ∧ PySem.W.kitOne K t (.ref row) = some m.isR ∧ PySem.W.kitOne K t (.ref test) = some m.isT := by
    intro a C dx fs i hi hC oc ha hm hr hs
    refine ⟨.ref C, oc.ty ha, fun c hc => ?_, ?_, ?_⟩
    · rw [hm c hc, ← hC]
      refine kitO2 k.kit i c hi ?_
      simp only [askTs, List.mem_cons, List.not_mem_nil, or_false, plainTs] at hc ⊢
      rcases hc with rfl | rfl | rfl | rfl | rfl <;> simp
    · rw [hr, ← hC]; exact kitO1 k.kit i 6 hi (by decide)
    · rw [hs, ← hC]; exact kitO1 k.kit i 7 hi (by decide)
  cases m with
  | non => unfold AO at h; subst h; exact plain (.base .non) (by simp) (fun c hc => by simp only [askTs, List.mem_cons, List.not_mem_nil, or_false] at hc; rcases hc with rfl | rfl | rfl | rfl | rfl <;> rfl) rfl rfl
  | bl b => unfold AO at h; subst h; exact plain (.base (.bl _)) (by simp) (fun c hc => by simp only [askTs, List.mem_cons, List.not_mem_nil, or_false] at hc; rcases hc with rfl | rfl | rfl | rfl | rfl <;> rfl) rfl rfl
  | int i => unfold AO at h; obtain ⟨rfl, _⟩ := h; exact plain (.base (.int _)) (by simp) (fun c hc => by simp only [askTs, List.mem_cons, List.not_mem_nil, or_false] at hc; rcases hc with rfl | rfl | rfl | rfl | rfl <;> rfl) rfl rfl
  | str i => unfold AO at h; obtain ⟨rfl, _⟩ := h; exact plain (.base (.str _)) (by simp) (fun c hc => by simp only [askTs, List.mem_cons, List.not_mem_nil, or_false] at hc; rcases hc with rfl | rfl | rfl | rfl | rfl <;> rfl) rfl rfl
  | seq l xs =>
    unfold AO at h
    obtain ⟨a, vs, rfl, _, o, _, _⟩ := h
    cases l with
    | true => exact plain (.base (.lst o)) (by simp) (fun c hc => by simp only [askTs, List.mem_cons, List.not_mem_nil, or_false] at hc; rcases hc with rfl | rfl | rfl | rfl | rfl <;> rfl) rfl rfl
    | false => exact plain (.base (.tup o)) (by simp) (fun c hc => by simp only [askTs, List.mem_cons, List.not_mem_nil, or_false] at hc; rcases hc with rfl | rfl | rfl | rfl | rfl <;> rfl) rfl rfl
  | row =>
    unfold AO at h
    obtain ⟨a, C, dx, fs, rfl, _, o, c⟩ := h
    rcases c with rfl | rfl | rfl | rfl
    · exact inst 0 (by decide) rfl k.put o (fun _ _ => rfl) rfl rfl
    · exact inst 1 (by decide) rfl k.ifr o (fun _ _ => rfl) rfl rfl
    · exact inst 2 (by decide) rfl k.times o (fun _ _ => rfl) rfl rfl
    · exact inst 3 (by decide) rfl k.stop o (fun _ _ => rfl) rfl rfl
  | test =>
    unfold AO at h
    obtain ⟨a, C, dx, fs, rfl, _, o, c⟩ := h
    rcases c with rfl | rfl
    · exact inst 4 (by decide) rfl k.ask o (fun _ _ => rfl) rfl rfl
    · exact inst 5 (by decide) rfl k.not o (fun _ _ => rfl) rfl rfl
theorem AO.isi (k : KT K A row test) {m : AM} {v : V} (h : AO A bad H m v) {c : String} {Q : VK} (hc : c ∈ askTs) (q : Q (.bl (m.is c)) H) : rIsi K [v, .ty c] H Q := by
  obtain ⟨t, ty, a, _, _⟩ := h.ty k
  exact ⟨_, _, _, _, _, rfl, .ty c, ty, a c hc, q⟩
theorem AO.isi_row (k : KT K A row test) {m : AM} {v : V} (h : AO A bad H m v) {Q : VK} (q : Q (.bl m.isR) H) : rIsi K [v, .ref row] H Q := by
  obtain ⟨t, ty, _, a, _⟩ := h.ty k
  exact ⟨_, _, _, _, _, rfl, .own _, ty, a, q⟩
theorem AO.isi_test (k : KT K A row test) {m : AM} {v : V} (h : AO A bad H m v) {Q : VK} (q : Q (.bl m.isT) H) : rIsi K [v, .ref test] H Q := by
  obtain ⟨t, ty, _, _, a⟩ := h.ty k
  exact ⟨_, _, _, _, _, rfl, .own _, ty, a, q⟩
/-- isinstance(v, (list, tuple)) -/
theorem AO.isi_lt (k : KT K A row test) {m : AM} {v : V} (h : AO A bad H m v) {Q : VK} {tp : Addr} (ht : H tp = some (.tup [.ty "list", .ty "tuple"])) (q : Q (.bl (m.is "list" || m.is "tuple")) H) : rIsiT K [v, .ref tp] H Q := by
  obtain ⟨t, ty, a, _, _⟩ := h.ty k
  refine ⟨v, tp, _, t, _, _, rfl, ht, .cons (.ty _) (.cons (.ty _) .nil), ty, kitAny_cons (a "list" (by simp [askTs])) (fun e => kitAny_cons (a "tuple" (by simp [askTs])) (fun e2 => ?_) (fun e2 => by rw [e, e2]; rfl)) (fun e => by rw [e]; rfl), q⟩
  rw [e, e2]
  exact kitAny_nil
end
/-! ### an own object whose __init__ may raise -/
def tMakeS (C : Addr) (sp : Sp) (E : L2.St → XK) (t : TA) : TE := fun σ H Q => t σ H fun vs H1 => ∀ x dx, H1 x = none → H1 dx = none → dx ≠ x →
  sp (V.ref x :: vs) (upd (upd H1 dx (.own x)) x (.ins C dx [])) (fun v H2 => v = .non ∧ Q (.ref x) H2) (E σ)
section
variable {X : Cx} {CX : CXT} {k : Nat} {f C : Addr} {sp : Sp} {E : L2.St → XK} {x : Str} {e : Expr} {es : List Expr} {t : TA} {p pos : Pos}
theorem pe_makeS (M : Mk X.K C f) (F : FnR X.prog X.w X.K X.mg X.base CX k f sp) (hr : Room (k + 1) X.A) (hg : Gl X x) (hm : X.mg x = some (.ref C)) (hx : ∀ σ, PassesAt CX X σ (E σ)) (ha : PA X (e :: es) t)
    (hdb : (x == ("__debug__" : Str)) = false := by decide) (he : starEach (e :: es) X.env = (false, eval e X.env) :: starEach es X.env := by rfl)
    (hpl : (backTo pos (starEach es X.env)).any (·.1) = false := by rfl) : PE X (.Call (.Name x p) (e :: es) [] pos) (tMakeS C sp E t) := by
  refine ⟨fun pins s σ H Q I h => wpAny_Call_Name_kw (ld_glob I hg hm ?_ hdb)⟩
  refine PySem.W.callWith_K (h₀ := X.base) I.ok.mod.kin M.kp (thn (ha.run pos pins s σ H _ I h) fun us s1 ⟨vs, H1, I1, r, q⟩ => ⟨I1.kIn, ?_⟩) he hpl
  have n1 := I1.hok.fresh (Nat.le_succ s1.heap.objs.size)
  have n2 := I1.hok.fresh (Nat.le_refl s1.heap.objs.size)
  have q1 := q _ _ n1 n2 (Nat.ne_of_lt (Nat.lt_succ_self _))
  have I2 := Inv.made (C := C) I1
  refine wpAny_call (make_map (f := f) I1.kIn M.makes M.init (beq_iff_eq.mp M.fn) (codeAny_mono (F _ X.stack _ _ _ _ _ (E σ) (hr.make C us []) (I2.env0.make C us []) (show Vals (V.ref (s1.heap.objs.size + 1) :: vs) (Value.ref (s1.heap.objs.size + 1) :: us) from .cons rfl r) q1) fun w s2 z => ?_))
  match w, z with
  | .error u, z => exact hx σ pins _ _ u s2 I2 z
  | .ok (.ret u), z =>
    obtain ⟨y, H3, I3, ry, rfl, q3⟩ := I2.after z
    exact ⟨ry, ⟨V.ref (s1.heap.objs.size + 1), H3, I3, rfl, q3⟩⟩
end
/-! ### isinstance of a caught own error, one class -/
section
variable {X : Cx} {C a : Addr} {oe : Obj} {cls : Value} {d : Option Addr} {pn : List (Addr × Obj)}
def rIsE1 (K : PySem.W.Frag) (C a : Addr) (cls : Value) (d : Option Addr) : List V → Hp → VK → Prop := fun xs H Q => ∃ (dd : Addr) (fs : List (Str × V)) (c1 : Addr) (b : Bool),
  xs = [.ref a, .ref c1] ∧ cls = .ref C ∧ d = some dd ∧ H dd = some (.xd fs) ∧ PySem.W.kitOne K (.ref C) (.ref c1) = some b ∧ Q (.bl b) H
theorem call_isE1 {x f : Str} {fI : Addr} (T : ErrX X.K X.mg x f C fI) (hz : Zc cls d oe) (hf : ∃ vs, oe.data = .fields vs) : CallR (X.suite a ((a, oe) :: pn)) (.builtin "isinstance") (rIsE1 X.K C a cls d) := by
  intro pins s σ H xs us Q I r h
  obtain ⟨dd, fs, c1, b, rfl, ec, ed, hdd, e, q⟩ := h
  subst ec ed
  obtain ⟨u1, u2, rfl, r1, r2⟩ := vals2 r
  obtain rfl : u1 = Value.ref a := r1
  obtain rfl : u2 = Value.ref c1 := r2
  obtain ⟨hget, _⟩ := I.pin (a, oe) (List.mem_append.mpr (.inl List.mem_cons_self))
  obtain ⟨vs, hv⟩ := hf
  obtain ⟨mA, hns, _⟩ := (show ObjOk X.prog X.w H s.heap dd (.xd fs) from I.hok dd _ hdd)
  obtain ⟨od, ho, _⟩ := lookIn_ns hns
  have J : PySem.W.InstAt s.heap a oe C (some od) := ⟨hget, hz.1, by unfold PySem.W.notCls; rw [hv] <;> rfl, by rw [hz.2]; exact ho⟩
  exact PySem.W.kia_one (PySem.W.kitx_exc T.isC T.xf.ga T.xf.gg T.xf.exC T.ha T.hn T.ht T.hm) I.kIn J e (fun z => nomatch z) fun tk => ⟨.bl b, H, I.tok tk, rfl, q⟩
end
/-! ### a table of the module: the keys that it has not -/
theorem keyOf_str {e : DictEntry} {k : Str} {hs : Int} (h : He.keyOf e = some (k, hs)) : ∃ t, e.key = .str k t := by
  unfold He.keyOf at h
  split at h
  · rename_i x t q
    have h1 := Option.some.inj h
    exact ⟨t, by rw [q, (Prod.mk.inj h1).1]⟩
  · cases h
theorem mem_keys {P : Params} : ∀ {l : List DictEntry} {ks : List Str}, l.map He.keyOf = He.keysIn P ks → ∀ e ∈ l, ∃ k ∈ ks, ∃ t, e.key = .str k t
  | [], _, _, e, he => by cases he
  | d :: l, [], h, e, he => by cases h
  | d :: l, k :: ks, h, e, he => by
    have h1 : He.keyOf d :: l.map He.keyOf = some (k, PyData.keyHash P k) :: He.keysIn P ks := h
    injection h1 with h2 h3
    cases he with
    | head => obtain ⟨t, ht⟩ := keyOf_str h2; exact ⟨k, List.mem_cons_self .., t, ht⟩
    | tail _ he =>
      obtain ⟨k2, hk, t, ht⟩ := mem_keys h3 e he
      exact ⟨k2, List.mem_cons_of_mem _ hk, t, ht⟩
theorem nsIn_none {K : PySem.W.Frag} {P : Params} {a : Addr} {ks : List Str} {z : Str} (h : He.dicW K a = some (He.keysIn P ks)) (hz : z ∉ ks) : PySem.W.nsIn K a z = some none := by
  have key : ∃ (c : Value) (od : Option Addr) (es : Array DictEntry) (n : Nat) (sl : Array (Option Value)), K.lookup a = some ⟨c, od, .dict es n, sl⟩ ∧ es.toList.map He.keyOf = He.keysIn P ks := by
    unfold He.dicW at h
    split at h
    · rename_i c es n sl q
      split at h
      · exact ⟨_, _, es, n, sl, q, Option.some.inj h⟩
      · cases h
    · cases h
  obtain ⟨c, od, es, n, sl, hl, hk⟩ := key
  unfold PySem.W.nsIn
  rw [hl]
  dsimp only
  have h1 : es.toList.find? (·.key.isStr z) = none := by
    refine List.find?_eq_none.mpr fun e he => ?_
    obtain ⟨k, hk2, t, ht⟩ := mem_keys hk e he
    rw [ht, PySem.W.isStr_of]
    unfold Value.isStrOf
    intro y
    exact hz (eq_of_beq y ▸ hk2)
  have h2 : (es.toList.any (·.refKey)) = false := by
    refine List.any_eq_false.mpr fun e he => ?_
    obtain ⟨k, hk2, t, ht⟩ := mem_keys hk e he
    unfold DictEntry.refKey
    rw [ht]
    simp
  rw [h1, h2]
  rfl
section
variable {X : Cx}
theorem call_isiTK {K : PySem.W.Frag} (hK : X.K = K := by rfl) : CallR X (.builtin "isinstance") (rIsiT K) := by
  subst hK
  exact call_isiT
end
end My
set_option Elab.async false
set_option linter.all false
set_option maxRecDepth 100000
set_option maxHeartbeats 4000000
/-! whether a list is the empty one, whatever it holds -/
namespace My
open PySem PySem.Spec PyProof.Rows L2 Evl
theorem op_eqNil {X : Cx} (hu : X.A.units + 64 < cLine) : OpR X (compareOp .Eq) (fun x y H Q => ∃ a b xs, x = .ref a ∧ y = .ref b ∧ H a = some (.lst xs) ∧ H b = some (.lst []) ∧ Q (.bl (decide (xs = []))) H) := by
  intro pins s σ H x y v u Q I rx ry h
  obtain ⟨a, b, xs, rfl, rfl, ha, hb, q⟩ := h
  obtain rfl : v = Value.ref a := rx
  obtain rfl : u = Value.ref b := ry
  obtain ⟨_, its, n, r1, g1⟩ := (show ObjOk X.prog X.w H s.heap a (.lst xs) from I.hok a _ ha)
  obtain ⟨_, its2, n2, r2, g2⟩ := (show ObjOk X.prog X.w H s.heap b (.lst []) from I.hok b _ hb)
  cases r2
  have l1 : s.heap.IsList a its.toArray := ⟨_, g1, rfl, n, rfl⟩
  have l2 : s.heap.IsList b (#[] : Array Value) := ⟨_, g2, rfl, n2, rfl⟩
  have hlen := r1.length
  show wpAny _ _ (richCompare .Eq _ _) _ _ _
  by_cases e : xs = []
  · subst e
    cases r1
    refine SeqAt.RcAt.lists (e := fun _ => true) l1 l2 rfl (by omega) (fun j h1 _ => absurd h1 (by simp)) X.prog X.w _ _ ?_
    exact ⟨.bl true, H, I, rfl, q⟩
  · refine SeqAt.RcAt.lists_lengths l1 l2 ?_ (by omega) X.prog X.w _ _ ?_
    · have : its.length ≠ 0 := by rw [← hlen]; exact fun z => e (List.length_eq_zero_iff.mp z)
      simp only [List.size_toArray, bne_iff_ne, ne_eq]
      simpa using this
    · rw [decide_eq_false e] at q
      exact ⟨.bl false, H, I, rfl, q⟩
end My
namespace My
open PySem PySem.Spec PyProof.Rows L2 Evl
/-- a choice as a test -/
def tIfT (tc ta tb : TT) : TT := fun σ H Q => tc σ H fun c H1 => if c = true then ta σ H1 Q else tb σ H1 Q
theorem pt_ifExp {X : Cx} {c a b : Expr} {tc ta tb : TT} {pos : Pos} (hc : PT X c tc) (ha : PT X a ta) (hb : PT X b tb) : PT X (.IfExp c a b pos) (tIfT tc ta tb) := by
  refine ⟨fun pins s σ H Q I h => ?_⟩
  show wpAny _ _ (PySem.isTrue c X.env (eval c X.env) >>= fun d => if d = true then PySem.isTrue a X.env (eval a X.env) else PySem.isTrue b X.env (eval b X.env)) _ _ _
  refine wpAny_bind (thn (hc.run pins s σ H _ I h) fun d s1 ⟨H1, I1, q1⟩ => ?_)
  cases d with
  | true => exact ha.run pins s1 σ H1 Q I1 q1
  | false => exact hb.run pins s1 σ H1 Q I1 q1
end My
namespace My
open PySem PySem.Spec PyProof.Rows L2 Evl
theorem op_notInDic {X : Cx} (hu : X.A.units + 1 < cLine) : OpR X (compareOp .NotIn) (fun x y H Q => ∃ a o, y = .ref a ∧ DGet H a x o ∧ Q (.bl (!o.isSome)) H) := by
  intro pins s σ H x y v u Q I rx ry h
  obtain ⟨a, o, rfl, g, q⟩ := h
  obtain rfl : u = Value.ref a := ry
  exact d_notIn hu I g rx fun s3 I3 => ⟨.bl (!o.isSome), H, I3, rfl, q⟩
theorem inV_str {x : Str} {ys : List Str} : inV (.str x) (ys.map V.str) = decide (x ∈ ys) := by
  unfold inV
  rw [List.any_map]
  by_cases h : x ∈ ys
  · rw [decide_eq_true h]
    exact List.any_eq_true.mpr ⟨x, h, by simp [eqV]⟩
  · rw [decide_eq_false h]
    refine List.any_eq_false.mpr fun z hz => ?_
    simp only [Function.comp, eqV]
    intro e
    have : z = x := by simpa using e
    exact h (this ▸ hz)
theorem flat_strsR {ys : List Str} : (ys.map V.str).all flatV = true := by
  rw [List.all_map]
  exact List.all_eq_true.mpr fun _ _ => rfl
end My
namespace My
open PySem PySem.Spec PyProof.Rows L2 Evl
theorem gives_gt_bi (p : Bool) (i : Int) (t : Tok) : Gives (Builtin.«int.__gt__» ⟨[.bool p, .int i t], []⟩) (.val (Value.bool (decide ((if p = true then (1 : Int) else 0) > i)))) :=
  .of_wp fun M A E s Q hq => by
    obtain ⟨hp, g, d, tk, os⟩ := s
    wp_walk
    exact ⟨_, rfl, hq⟩
/-- an int or a bool greater than an int (of a bool: whichever) -/
theorem op_gtIB {X : Cx} (hu : X.A.units + 64 < cLine) : OpR X (compareOp .Gt) (fun x y H Q => (∃ i j, x = .int i ∧ y = .int j ∧ Q (.bl (decide (j < i))) H) ∨ (∃ b j, x = .bl b ∧ y = .int j ∧ ∀ c, Q (.bl c) H)) := by
  intro pins s σ H x y v u Q I rx ry h
  rcases h with ⟨i, j, rfl, rfl, q⟩ | ⟨b, j, rfl, rfl, q⟩
  · exact op_gt pins s σ H _ _ v u Q I rx ry ⟨i, j, rfl, rfl, q⟩
  · obtain rfl : v = Value.bool b := rx
    obtain ⟨t, rfl⟩ := (show ∃ t, u = Value.int j t from ry)
    show wpAny _ _ (richCompare .Gt _ _) _ _ _
    refine SeqAt.rc_left_or (Ta := "bool") (Tb := "int") (PySem.typeIs_bool s b) (typeIs_int s j t) (by decide) F.sub_int_bool F.slot_bool_gt (call_meets F.slot_bool_gt (PySem.typeIs_bool s b) F.entry_int_gt (F.args_int_gt_2 _ _) (gives_gt_bi b j t).meets ?_) (.inl rfl)
    exact ⟨(fun z => nomatch z), ⟨.bl _, H, I, rfl, q _⟩⟩
end My
set_option Elab.async false
set_option linter.all false
set_option maxRecDepth 100000
set_option maxHeartbeats 4000000
set_option exponentiation.threshold 5000
namespace My
open PySem PySem.Spec PyProof.Rows L2 Evl
local macro_rules | `(tactic| walk_at "st") => `(tactic| simp only [L2.start, List.map_cons, List.map_nil, List.length_cons, List.length_nil, Nat.reduceAdd, Nat.reduceSub, List.replicate_succ, List.replicate_zero, List.cons_append, List.nil_append, cxOf, List.append_nil])
local macro_rules | `(tactic| walk_at "vc") => `(tactic| try simp only [tSeq, tAsg, tOp, tUn, tVar, tC, tNil, tCons, gName, rI, rI0, rU, tRet, tIfS, tNot, tAnd, tOr, tB, tTest, tCB, tCall, tAndV, tOrV, tNotV, tNext, tNever, tIf, tChain, tYes, tPart, tNoPart, tPar, tDrop, q_isi, q_vn, q_vb, q_vi, q_vs, kb1, kb2, kb3, kb4, kb5, kb6, kb7, kb8, q_int1, q_int2, q_min, q_max, q_repr, tLst, tTup, rEq, rNe, q_sii, q_sss, q_sbb, q_snn, q_sns, q_ssn, q_ix, q_sl, tSl, tBM, tBM0, q_app, q_pop, gSub, rSetL, L2.wipe, eq_self, decide_true, decide_false, tRevL,
  List.getElem?_cons_succ, List.getElem?_cons_zero, List.set_cons_succ, List.set_cons_zero, Option.some.injEq, exists_eq_left', exists_eq_left, V.int.injEq, V.bl.injEq, V.ref.injEq, V.str.injEq, List.cons.injEq, and_true, true_and, List.append_nil, List.nil_append, List.cons_append, exists_and_left, and_assoc, if_true, if_false, Bool.not_true, Bool.not_false, Bool.false_eq_true, Bool.true_eq_false, reduceIte, tRevL, tPar3, tRevT, tUnl, tCKw, forall_const, Bool.not_eq_true', decide_eq_true_eq, decide_eq_false_iff_not])
def inCls (s : Stmt) (j : Nat) : Stmt := match s with
  | .ClassDef (body := b) .. => b.getD j (.Pass ⟨0, 0, 0, 0⟩)
  | _ => s
def topS (i : Nat) : Stmt := PySem.Challenge.pw_everybase_k09_rows_refused.main.body.getD i (.Pass ⟨0, 0, 0, 0⟩)
abbrev s_is_integer : Stmt := topS 7
abbrev N_is_integer : List Str := ["value"]
theorem sc_is_integer : FnScope N_is_integer ["value"] (defScope s_is_integer) := ⟨rfl, rfl, rfl, by decide +kernel, rfl, by decide +kernel, by decide +kernel⟩
abbrev s_is_number : Stmt := topS 8
abbrev N_is_number : List Str := ["value"]
theorem sc_is_number : FnScope N_is_number ["value"] (defScope s_is_number) := ⟨rfl, rfl, rfl, by decide +kernel, rfl, by decide +kernel, by decide +kernel⟩
abbrev s_is_name : Stmt := topS 9
abbrev N_is_name : List Str := ["value", "one"]
theorem sc_is_name : FnScope N_is_name ["value"] (defScope s_is_name) := ⟨rfl, rfl, rfl, by decide +kernel, rfl, by decide +kernel, by decide +kernel⟩
abbrev s_are_rows : Stmt := topS 22
abbrev N_are_rows : List Str := ["value", "one"]
theorem sc_are_rows : FnScope N_are_rows ["value"] (defScope s_are_rows) := ⟨rfl, rfl, rfl, by decide +kernel, rfl, by decide +kernel, by decide +kernel⟩
abbrev s_needed : Stmt := topS 24
abbrev N_needed : List Str := ["deed", "many"]
theorem sc_needed : FnScope N_needed ["deed", "many"] (defScope s_needed) := ⟨rfl, rfl, rfl, by decide +kernel, rfl, by decide +kernel, by decide +kernel⟩
abbrev s_fits : Stmt := topS 25
abbrev N_fits : List Str := ["deed", "given", "kinds", "kind", "one"]
theorem sc_fits : FnScope N_fits ["deed", "given"] (defScope s_fits) := ⟨rfl, rfl, rfl, by decide +kernel, rfl, by decide +kernel, by decide +kernel⟩
abbrev s_is_of : Stmt := topS 26
abbrev N_is_of : List Str := ["kind", "value"]
theorem sc_is_of : FnScope N_is_of ["kind", "value"] (defScope s_is_of) := ⟨rfl, rfl, rfl, by decide +kernel, rfl, by decide +kernel, by decide +kernel⟩
abbrev s_law_deal : Stmt := topS 28
abbrev N_law_deal : List Str := ["_law_script", "_law_radix", "_law_cells", "_law_seed", "_law_cell"]
theorem sc_law_deal : FnScope N_law_deal ["_law_script", "_law_radix"] (defScope s_law_deal) := ⟨rfl, rfl, rfl, by decide +kernel, rfl, by decide +kernel, by decide +kernel⟩
abbrev s_law_draw : Stmt := topS 29
abbrev N_law_draw : List Str := ["_law_deal_here", "_law_amount", "_law_digit"]
theorem sc_law_draw : FnScope N_law_draw ["_law_deal_here", "_law_amount"] (defScope s_law_draw) := ⟨rfl, rfl, rfl, by decide +kernel, rfl, by decide +kernel, by decide +kernel⟩
abbrev s_law_pick : Stmt := topS 30
abbrev N_law_pick : List Str := ["_law_deal_here", "_law_some"]
theorem sc_law_pick : FnScope N_law_pick ["_law_deal_here", "_law_some"] (defScope s_law_pick) := ⟨rfl, rfl, rfl, by decide +kernel, rfl, by decide +kernel, by decide +kernel⟩
abbrev s_law_words : Stmt := topS 31
abbrev N_law_words : List Str := ["_law_deal_here", "_law_amount", "_law_letters", "_law_kept", "_law_found", "_law_k", "_law_word", "_law_at", "_law_one"]
theorem sc_law_words : FnScope N_law_words ["_law_deal_here", "_law_amount"] (defScope s_law_words) := ⟨rfl, rfl, rfl, by decide +kernel, rfl, by decide +kernel, by decide +kernel⟩
abbrev s_law_kinds : Stmt := topS 32
abbrev N_law_kinds : List Str := ["_law_found", "_law_deed"]
theorem sc_law_kinds : FnScope N_law_kinds [] (defScope s_law_kinds) := ⟨rfl, rfl, rfl, by decide +kernel, rfl, by decide +kernel, by decide +kernel⟩
abbrev s_law_put : Stmt := topS 33
abbrev N_law_put : List Str := ["_law_deal_here", "_law_names", "_law_most", "_law_kinds_here", "_law_deed", "_law_args", "_law_kind", "_law_number", "_law_one", "_law_k"]
theorem sc_law_put : FnScope N_law_put ["_law_deal_here", "_law_names", "_law_most"] (defScope s_law_put) := ⟨rfl, rfl, rfl, by decide +kernel, rfl, by decide +kernel, by decide +kernel⟩
abbrev s_law_any : Stmt := topS 35
abbrev N_law_any : List Str := ["_law_deal_here", "_law_down", "_law_form", "_law_odd", "_law_inner", "_law_k"]
theorem sc_law_any : FnScope N_law_any ["_law_deal_here", "_law_down"] (defScope s_law_any) := ⟨rfl, rfl, rfl, by decide +kernel, rfl, by decide +kernel, by decide +kernel⟩
abbrev s_law_is_name : Stmt := topS 36
abbrev N_law_is_name : List Str := ["_law_thing", "_law_one"]
theorem sc_law_is_name : FnScope N_law_is_name ["_law_thing"] (defScope s_law_is_name) := ⟨rfl, rfl, rfl, by decide +kernel, rfl, by decide +kernel, by decide +kernel⟩
abbrev s_law_is_number : Stmt := topS 37
abbrev N_law_is_number : List Str := ["_law_thing"]
theorem sc_law_is_number : FnScope N_law_is_number ["_law_thing"] (defScope s_law_is_number) := ⟨rfl, rfl, rfl, by decide +kernel, rfl, by decide +kernel, by decide +kernel⟩
abbrev s_law_are_rows : Stmt := topS 38
abbrev N_law_are_rows : List Str := ["_law_thing", "_law_one"]
theorem sc_law_are_rows : FnScope N_law_are_rows ["_law_thing"] (defScope s_law_are_rows) := ⟨rfl, rfl, rfl, by decide +kernel, rfl, by decide +kernel, by decide +kernel⟩
abbrev s_law_put_due : Stmt := topS 39
abbrev N_law_put_due : List Str := ["_law_name", "_law_deed", "_law_args", "_law_kinds_here", "_law_bad", "_law_one", "_law_k"]
theorem sc_law_put_due : FnScope N_law_put_due ["_law_name", "_law_deed", "_law_args"] (defScope s_law_put_due) := ⟨rfl, rfl, rfl, by decide +kernel, rfl, by decide +kernel, by decide +kernel⟩
abbrev s_law_ask_due : Stmt := topS 40
abbrev N_law_ask_due : List Str := ["_law_word", "_law_names", "_law_needs", "_law_one"]
theorem sc_law_ask_due : FnScope N_law_ask_due ["_law_word", "_law_names"] (defScope s_law_ask_due) := ⟨rfl, rfl, rfl, by decide +kernel, rfl, by decide +kernel, by decide +kernel⟩
abbrev s_law_made : Stmt := topS 41
abbrev N_law_made : List Str := ["_law_form", "_law_some"]
theorem sc_law_made : FnScope N_law_made ["_law_form", "_law_some"] (defScope s_law_made) := ⟨rfl, rfl, rfl, by decide +kernel, rfl, by decide +kernel, by decide +kernel⟩
abbrev s_law_due : Stmt := topS 42
abbrev N_law_due : List Str := ["_law_form", "_law_some", "_law_one"]
theorem sc_law_due : FnScope N_law_due ["_law_form", "_law_some"] (defScope s_law_due) := ⟨rfl, rfl, rfl, by decide +kernel, rfl, by decide +kernel, by decide +kernel⟩
abbrev s_law_told : Stmt := topS 43
abbrev N_law_told : List Str := ["_law_form", "_law_some", "_law_found", "_law_thing", "e"]
theorem sc_law_told : FnScope N_law_told ["_law_form", "_law_some"] (defScope s_law_told) := ⟨rfl, rfl, rfl, by decide +kernel, rfl, by decide +kernel, by decide +kernel⟩
abbrev s_law_is_beyond : Stmt := topS 44
abbrev N_law_is_beyond : List Str := ["_law_form", "_law_some", "_law_most", "_law_one"]
theorem sc_law_is_beyond : FnScope N_law_is_beyond ["_law_form", "_law_some"] (defScope s_law_is_beyond) := ⟨rfl, rfl, rfl, by decide +kernel, rfl, by decide +kernel, by decide +kernel⟩
abbrev s_law : Stmt := topS 45
abbrev N_law : List Str := ["_law_script", "_law_deal_here", "_law_names", "_law_turn", "_law_form", "_law_row", "_law_right", "_law_some", "_law_k", "_law_thing"]
theorem sc_law : FnScope N_law ["_law_script"] (defScope s_law) := ⟨rfl, rfl, rfl, by decide +kernel, rfl, by decide +kernel, by decide +kernel⟩
abbrev s_Put_init : Stmt := inCls (topS 16) 0
abbrev N_Put_init : List Str := ["self", "name", "deed", "given"]
theorem sc_Put_init : FnScope N_Put_init ["self", "name", "deed", "given"] (defScope s_Put_init) := ⟨rfl, rfl, rfl, by decide +kernel, rfl, by decide +kernel, by decide +kernel⟩
abbrev s_If_init : Stmt := inCls (topS 17) 0
abbrev N_If_init : List Str := ["self", "test", "rows", "others"]
theorem sc_If_init : FnScope N_If_init ["self", "test", "rows", "others"] (defScope s_If_init) := ⟨rfl, rfl, rfl, by decide +kernel, rfl, by decide +kernel, by decide +kernel⟩
abbrev s_Times_init : Stmt := inCls (topS 18) 0
abbrev N_Times_init : List Str := ["self", "count", "rows"]
theorem sc_Times_init : FnScope N_Times_init ["self", "count", "rows"] (defScope s_Times_init) := ⟨rfl, rfl, rfl, by decide +kernel, rfl, by decide +kernel, by decide +kernel⟩
abbrev s_Ask_init : Stmt := inCls (topS 20) 0
abbrev N_Ask_init : List Str := ["self", "word", "names", "one"]
theorem sc_Ask_init : FnScope N_Ask_init ["self", "word", "names"] (defScope s_Ask_init) := ⟨rfl, rfl, rfl, by decide +kernel, rfl, by decide +kernel, by decide +kernel⟩
abbrev s_Not_init : Stmt := inCls (topS 21) 0
abbrev N_Not_init : List Str := ["self", "test"]
theorem sc_Not_init : FnScope N_Not_init ["self", "test"] (defScope s_Not_init) := ⟨rfl, rfl, rfl, by decide +kernel, rfl, by decide +kernel, by decide +kernel⟩
abbrev s_InvalidRow_init : Stmt := inCls (topS 2) 0
abbrev N_InvalidRow_init : List Str := ["self", "word"]
theorem sc_InvalidRow_init : FnScope N_InvalidRow_init ["self", "word"] (defScope s_InvalidRow_init) := ⟨rfl, rfl, rfl, by decide +kernel, rfl, by decide +kernel, by decide +kernel⟩
structure Txt (w : World) (K : PySem.W.Frag) (mg : Str → Option Value) (a_is_integer a_is_number a_is_name a_are_rows a_needed a_fits a_is_of a_law_deal a_law_draw a_law_pick a_law_words a_law_kinds a_law_put a_law_any a_law_is_name a_law_is_number a_law_are_rows a_law_put_due a_law_ask_due a_law_made a_law_due a_law_told a_law_is_beyond a_law a_Put_init a_If_init a_Times_init a_Ask_init a_Not_init a_InvalidRow_init a_InvalidRow a_FigureError a_InvalidText a_Put a_If a_Times a_Stop a_Ask a_Not a_Row a_Test a_DEEDS a_WORDS a_If_init_d0 : Addr) (d_is_integer d_is_number d_is_name d_are_rows d_needed d_fits d_is_of d_law_deal d_law_draw d_law_pick d_law_words d_law_kinds d_law_put d_law_any d_law_is_name d_law_is_number d_law_are_rows d_law_put_due d_law_ask_due d_law_made d_law_due d_law_told d_law_is_beyond d_law d_Put_init d_If_init d_Times_init d_Ask_init d_Not_init d_InvalidRow_init : FuncData) : Prop where
  F_is_integer : Fun K "is_integer" "is_integer" s_is_integer a_is_integer d_is_integer
  b_is_integer : Binds K d_is_integer ["value"] []
  g_is_integer : mg "is_integer" = some (.ref a_is_integer)
  F_is_number : Fun K "is_number" "is_number" s_is_number a_is_number d_is_number
  b_is_number : Binds K d_is_number ["value"] []
  g_is_number : mg "is_number" = some (.ref a_is_number)
  F_is_name : Fun K "is_name" "is_name" s_is_name a_is_name d_is_name
  b_is_name : Binds K d_is_name ["value"] []
  g_is_name : mg "is_name" = some (.ref a_is_name)
  F_are_rows : Fun K "are_rows" "are_rows" s_are_rows a_are_rows d_are_rows
  b_are_rows : Binds K d_are_rows ["value"] []
  g_are_rows : mg "are_rows" = some (.ref a_are_rows)
  F_needed : Fun K "needed" "needed" s_needed a_needed d_needed
  b_needed : Binds K d_needed ["deed", "many"] []
  g_needed : mg "needed" = some (.ref a_needed)
  F_fits : Fun K "_fits" "_fits" s_fits a_fits d_fits
  b_fits : Binds K d_fits ["deed", "given"] []
  g_fits : mg "_fits" = some (.ref a_fits)
  F_is_of : Fun K "_is_of" "_is_of" s_is_of a_is_of d_is_of
  b_is_of : Binds K d_is_of ["kind", "value"] []
  g_is_of : mg "_is_of" = some (.ref a_is_of)
  F_law_deal : Fun K "_law_deal" "_law_deal" s_law_deal a_law_deal d_law_deal
  b_law_deal : Binds K d_law_deal ["_law_script", "_law_radix"] []
  g_law_deal : mg "_law_deal" = some (.ref a_law_deal)
  F_law_draw : Fun K "_law_draw" "_law_draw" s_law_draw a_law_draw d_law_draw
  b_law_draw : Binds K d_law_draw ["_law_deal_here", "_law_amount"] []
  g_law_draw : mg "_law_draw" = some (.ref a_law_draw)
  F_law_pick : Fun K "_law_pick" "_law_pick" s_law_pick a_law_pick d_law_pick
  b_law_pick : Binds K d_law_pick ["_law_deal_here", "_law_some"] []
  g_law_pick : mg "_law_pick" = some (.ref a_law_pick)
  F_law_words : Fun K "_law_words" "_law_words" s_law_words a_law_words d_law_words
  b_law_words : Binds K d_law_words ["_law_deal_here", "_law_amount"] []
  g_law_words : mg "_law_words" = some (.ref a_law_words)
  F_law_kinds : Fun K "_law_kinds" "_law_kinds" s_law_kinds a_law_kinds d_law_kinds
  b_law_kinds : Binds K d_law_kinds [] []
  g_law_kinds : mg "_law_kinds" = some (.ref a_law_kinds)
  F_law_put : Fun K "_law_put" "_law_put" s_law_put a_law_put d_law_put
  b_law_put : Binds K d_law_put ["_law_deal_here", "_law_names", "_law_most"] []
  g_law_put : mg "_law_put" = some (.ref a_law_put)
  F_law_any : Fun K "_law_any" "_law_any" s_law_any a_law_any d_law_any
  b_law_any : Binds K d_law_any ["_law_deal_here", "_law_down"] []
  g_law_any : mg "_law_any" = some (.ref a_law_any)
  F_law_is_name : Fun K "_law_is_name" "_law_is_name" s_law_is_name a_law_is_name d_law_is_name
  b_law_is_name : Binds K d_law_is_name ["_law_thing"] []
  g_law_is_name : mg "_law_is_name" = some (.ref a_law_is_name)
  F_law_is_number : Fun K "_law_is_number" "_law_is_number" s_law_is_number a_law_is_number d_law_is_number
  b_law_is_number : Binds K d_law_is_number ["_law_thing"] []
  g_law_is_number : mg "_law_is_number" = some (.ref a_law_is_number)
  F_law_are_rows : Fun K "_law_are_rows" "_law_are_rows" s_law_are_rows a_law_are_rows d_law_are_rows
  b_law_are_rows : Binds K d_law_are_rows ["_law_thing"] []
  g_law_are_rows : mg "_law_are_rows" = some (.ref a_law_are_rows)
  F_law_put_due : Fun K "_law_put_due" "_law_put_due" s_law_put_due a_law_put_due d_law_put_due
  b_law_put_due : Binds K d_law_put_due ["_law_name", "_law_deed", "_law_args"] []
  g_law_put_due : mg "_law_put_due" = some (.ref a_law_put_due)
  F_law_ask_due : Fun K "_law_ask_due" "_law_ask_due" s_law_ask_due a_law_ask_due d_law_ask_due
  b_law_ask_due : Binds K d_law_ask_due ["_law_word", "_law_names"] []
  g_law_ask_due : mg "_law_ask_due" = some (.ref a_law_ask_due)
  F_law_made : Fun K "_law_made" "_law_made" s_law_made a_law_made d_law_made
  b_law_made : Binds K d_law_made ["_law_form", "_law_some"] []
  g_law_made : mg "_law_made" = some (.ref a_law_made)
  F_law_due : Fun K "_law_due" "_law_due" s_law_due a_law_due d_law_due
  b_law_due : Binds K d_law_due ["_law_form", "_law_some"] []
  g_law_due : mg "_law_due" = some (.ref a_law_due)
  F_law_told : Fun K "_law_told" "_law_told" s_law_told a_law_told d_law_told
  b_law_told : Binds K d_law_told ["_law_form", "_law_some"] []
  g_law_told : mg "_law_told" = some (.ref a_law_told)
  F_law_is_beyond : Fun K "_law_is_beyond" "_law_is_beyond" s_law_is_beyond a_law_is_beyond d_law_is_beyond
  b_law_is_beyond : Binds K d_law_is_beyond ["_law_form", "_law_some"] []
  g_law_is_beyond : mg "_law_is_beyond" = some (.ref a_law_is_beyond)
  F_law : Fun K "law" "law" s_law a_law d_law
  b_law : Binds K d_law ["_law_script"] []
  g_law : mg "law" = some (.ref a_law)
  F_Put_init : Fun K "__init__" "Put.__init__" s_Put_init a_Put_init d_Put_init
  F_If_init : FunD K "__init__" "If.__init__" (defArgs s_If_init) (defBody s_If_init) (defScope s_If_init) [.ref a_If_init_d0] [] a_If_init d_If_init
  b_If_init : Binds K d_If_init ["self", "test", "rows", "others"] []
  bd_If_init : Binds K d_If_init ["self", "test", "rows", "others"] [.ref a_If_init_d0]
  S_If_init_d0 : ∀ H, SqT K H a_If_init_d0 []
  F_Times_init : Fun K "__init__" "Times.__init__" s_Times_init a_Times_init d_Times_init
  b_Times_init : Binds K d_Times_init ["self", "count", "rows"] []
  F_Ask_init : Fun K "__init__" "Ask.__init__" s_Ask_init a_Ask_init d_Ask_init
  F_Not_init : Fun K "__init__" "Not.__init__" s_Not_init a_Not_init d_Not_init
  b_Not_init : Binds K d_Not_init ["self", "test"] []
  F_InvalidRow_init : Fun K "__init__" "InvalidRow.__init__" s_InvalidRow_init a_InvalidRow_init d_InvalidRow_init
  b_InvalidRow_init : Binds K d_InvalidRow_init ["self", "word"] []
  E_InvalidRow : ErrX K mg "InvalidRow" "word" a_InvalidRow a_InvalidRow_init
  g_LETTERS : ∃ u, mg "LETTERS" = some u ∧ RelV (.str "abcdefghijklmnopqrstuvwxyz") u
  g_LONGEST_NAME : ∃ u, mg "LONGEST_NAME" = some u ∧ RelV (.int 4) u
  g_DEEDS : ∃ u, mg "DEEDS" = some u ∧ RelV (.ref a_DEEDS) u
  g_WORDS : ∃ u, mg "WORDS" = some u ∧ RelV (.ref a_WORDS) u
  D_DEEDS : ∃ es n, KDict K w a_DEEDS es n
  W_DEEDS : He.dicW K a_DEEDS = some (He.keysIn w.params ["figures", "number", "base", "let", "+", "-", "*", "//", "rest", "**", "turned", "least", "greatest", "sum", "many", "root", "figure", "first", "last", "joined", "common", "lesser"])
  I_DEEDS_0 : ∃ t, PySem.W.nsIn K a_DEEDS "figures" = some (some (.ref t)) ∧ ∀ H, SqT K H t [.str "number"]
  I_DEEDS_1 : ∃ t, PySem.W.nsIn K a_DEEDS "number" = some (some (.ref t)) ∧ ∀ H, SqT K H t [.str "number"]
  I_DEEDS_2 : ∃ t, PySem.W.nsIn K a_DEEDS "base" = some (some (.ref t)) ∧ ∀ H, SqT K H t []
  I_DEEDS_3 : ∃ t, PySem.W.nsIn K a_DEEDS "let" = some (some (.ref t)) ∧ ∀ H, SqT K H t [.str "name"]
  I_DEEDS_4 : ∃ t, PySem.W.nsIn K a_DEEDS "+" = some (some (.ref t)) ∧ ∀ H, SqT K H t [.str "name", .str "name"]
  I_DEEDS_5 : ∃ t, PySem.W.nsIn K a_DEEDS "-" = some (some (.ref t)) ∧ ∀ H, SqT K H t [.str "name", .str "name"]
  I_DEEDS_6 : ∃ t, PySem.W.nsIn K a_DEEDS "*" = some (some (.ref t)) ∧ ∀ H, SqT K H t [.str "name", .str "name"]
  I_DEEDS_7 : ∃ t, PySem.W.nsIn K a_DEEDS "//" = some (some (.ref t)) ∧ ∀ H, SqT K H t [.str "name", .str "name"]
  I_DEEDS_8 : ∃ t, PySem.W.nsIn K a_DEEDS "rest" = some (some (.ref t)) ∧ ∀ H, SqT K H t [.str "name", .str "name"]
  I_DEEDS_9 : ∃ t, PySem.W.nsIn K a_DEEDS "**" = some (some (.ref t)) ∧ ∀ H, SqT K H t [.str "name", .str "number"]
  I_DEEDS_10 : ∃ t, PySem.W.nsIn K a_DEEDS "turned" = some (some (.ref t)) ∧ ∀ H, SqT K H t [.str "name"]
  I_DEEDS_11 : ∃ t, PySem.W.nsIn K a_DEEDS "least" = some (some (.ref t)) ∧ ∀ H, SqT K H t [.str "name"]
  I_DEEDS_12 : ∃ t, PySem.W.nsIn K a_DEEDS "greatest" = some (some (.ref t)) ∧ ∀ H, SqT K H t [.str "name"]
  I_DEEDS_13 : ∃ t, PySem.W.nsIn K a_DEEDS "sum" = some (some (.ref t)) ∧ ∀ H, SqT K H t [.str "name"]
  I_DEEDS_14 : ∃ t, PySem.W.nsIn K a_DEEDS "many" = some (some (.ref t)) ∧ ∀ H, SqT K H t [.str "name"]
  I_DEEDS_15 : ∃ t, PySem.W.nsIn K a_DEEDS "root" = some (some (.ref t)) ∧ ∀ H, SqT K H t [.str "name"]
  I_DEEDS_16 : ∃ t, PySem.W.nsIn K a_DEEDS "figure" = some (some (.ref t)) ∧ ∀ H, SqT K H t [.str "number", .str "name"]
  I_DEEDS_17 : ∃ t, PySem.W.nsIn K a_DEEDS "first" = some (some (.ref t)) ∧ ∀ H, SqT K H t [.str "number", .str "name"]
  I_DEEDS_18 : ∃ t, PySem.W.nsIn K a_DEEDS "last" = some (some (.ref t)) ∧ ∀ H, SqT K H t [.str "number", .str "name"]
  I_DEEDS_19 : ∃ t, PySem.W.nsIn K a_DEEDS "joined" = some (some (.ref t)) ∧ ∀ H, SqT K H t [.str "name", .str "name"]
  I_DEEDS_20 : ∃ t, PySem.W.nsIn K a_DEEDS "common" = some (some (.ref t)) ∧ ∀ H, SqT K H t [.str "name", .str "name"]
  I_DEEDS_21 : ∃ t, PySem.W.nsIn K a_DEEDS "lesser" = some (some (.ref t)) ∧ ∀ H, SqT K H t [.str "name", .str "name"]
  D_WORDS : ∃ es n, KDict K w a_WORDS es n
  W_WORDS : He.dicW K a_WORDS = some (He.keysIn w.params ["same", "less", "divides", "mirrored", "unlike"])
  I_WORDS_0 : ∃ t, PySem.W.nsIn K a_WORDS "same" = some (some (.int 2 t))
  I_WORDS_1 : ∃ t, PySem.W.nsIn K a_WORDS "less" = some (some (.int 2 t))
  I_WORDS_2 : ∃ t, PySem.W.nsIn K a_WORDS "divides" = some (some (.int 2 t))
  I_WORDS_3 : ∃ t, PySem.W.nsIn K a_WORDS "mirrored" = some (some (.int 1 t))
  I_WORDS_4 : ∃ t, PySem.W.nsIn K a_WORDS "unlike" = some (some (.int 1 t))
  kits : kitO K ⟨a_Put, a_If, a_Times, a_Stop, a_Ask, a_Not⟩ a_Row a_Test = true
  oc_Put : OC K a_Put
  nF_Put_name : NoAttr K a_Put "name"
  nF_Put_deed : NoAttr K a_Put "deed"
  nF_Put_given : NoAttr K a_Put "given"
  M_Put : Mk K a_Put a_Put_init
  oc_If : OC K a_If
  nF_If_test : NoAttr K a_If "test"
  nF_If_rows : NoAttr K a_If "rows"
  nF_If_others : NoAttr K a_If "others"
  M_If : Mk K a_If a_If_init
  oc_Times : OC K a_Times
  nF_Times_count : NoAttr K a_Times "count"
  nF_Times_rows : NoAttr K a_Times "rows"
  M_Times : Mk K a_Times a_Times_init
  oc_Stop : OC K a_Stop
  N_Stop : New0 K a_Stop
  oc_Ask : OC K a_Ask
  nF_Ask_word : NoAttr K a_Ask "word"
  nF_Ask_names : NoAttr K a_Ask "names"
  M_Ask : Mk K a_Ask a_Ask_init
  oc_Not : OC K a_Not
  nF_Not_test : NoAttr K a_Not "test"
  M_Not : Mk K a_Not a_Not_init
  oc_Row : OC K a_Row
  oc_Test : OC K a_Test
  g_FigureError : mg "FigureError" = some (.ref a_FigureError)
  g_InvalidText : mg "InvalidText" = some (.ref a_InvalidText)
  g_Put : mg "Put" = some (.ref a_Put)
  g_If : mg "If" = some (.ref a_If)
  g_Times : mg "Times" = some (.ref a_Times)
  g_Stop : mg "Stop" = some (.ref a_Stop)
  g_Ask : mg "Ask" = some (.ref a_Ask)
  g_Not : mg "Not" = some (.ref a_Not)
  g_Row : mg "Row" = some (.ref a_Row)
  g_Test : mg "Test" = some (.ref a_Test)
  k_InvalidRow_FigureError : PySem.W.kitOne K (.ref a_InvalidRow) (.ref a_FigureError) = some true
  k_InvalidRow_InvalidText : PySem.W.kitOne K (.ref a_InvalidRow) (.ref a_InvalidText) = some false
  z_abs : mg "abs" = none
  z_all : mg "all" = none
  z_bool : mg "bool" = none
  z_enumerate : mg "enumerate" = none
  z_int : mg "int" = none
  z_isinstance : mg "isinstance" = none
  z_len : mg "len" = none
  z_list : mg "list" = none
  z_max : mg "max" = none
  z_range : mg "range" = none
  z_sorted : mg "sorted" = none
  z_str : mg "str" = none
  z_tuple : mg "tuple" = none
  z_zip : mg "zip" = none
section
variable {P : Program} {w : World} {K : PySem.W.Frag} {mg : Str → Option Value} {base : Heap}
variable {a_is_integer a_is_number a_is_name a_are_rows a_needed a_fits a_is_of a_law_deal a_law_draw a_law_pick a_law_words a_law_kinds a_law_put a_law_any a_law_is_name a_law_is_number a_law_are_rows a_law_put_due a_law_ask_due a_law_made a_law_due a_law_told a_law_is_beyond a_law a_Put_init a_If_init a_Times_init a_Ask_init a_Not_init a_InvalidRow_init a_InvalidRow a_FigureError a_InvalidText a_Put a_If a_Times a_Stop a_Ask a_Not a_Row a_Test a_DEEDS a_WORDS a_If_init_d0 : Addr} {d_is_integer d_is_number d_is_name d_are_rows d_needed d_fits d_is_of d_law_deal d_law_draw d_law_pick d_law_words d_law_kinds d_law_put d_law_any d_law_is_name d_law_is_number d_law_are_rows d_law_put_due d_law_ask_due d_law_made d_law_due d_law_told d_law_is_beyond d_law d_Put_init d_If_init d_Times_init d_Ask_init d_Not_init d_InvalidRow_init : FuncData}
def sp_law_deal : Sp
  | [.ref a, .int k], H, Q, _ => ∃ ns : List Int, SqL K H a (ns.map V.int) ∧ ns.length ≤ 63 ∧ 0 ≤ k ∧ k ≤ 63 ∧ ∀ d L H', Ex H H' → Deal3 d L H' → Q (.ref d) H'
  | _, _, _, _ => False
def C_d1 (p D : Addr) (ms : List Int) (H : Hp) : Nat → Hp → Prop := fun i H' => ∃ vs : List Int, H' D = some (.lst (vs.map V.int)) ∧ vs.length = i ∧ (∀ v ∈ vs, 0 ≤ v) ∧ Ex H H' ∧ H' p = some (.lst (ms.map V.int))
def C_d2 (c D : Addr) (ms : List Int) (H : Hp) : Nat → Hp → Prop := fun i H' => ∃ vs : List Int, H' D = some (.lst (vs.map V.int)) ∧ vs.length ≤ i ∧ (∀ v ∈ vs, 0 ≤ v) ∧ Ex H H' ∧ H' c = some (.lst (ms.map V.int))
def I_dl (a c : Addr) (k : Int) (H : Hp) : Nat → L2.St → Hp → Prop := fun i σ H' => H' = H ∧ ∃ z x, σ = [some (.ref a), some (.int k), some (.ref c), some (.int z), x] ∧ 0 ≤ z ∧ z < 2147483647
theorem ok_law_deal (T : Txt w K mg a_is_integer a_is_number a_is_name a_are_rows a_needed a_fits a_is_of a_law_deal a_law_draw a_law_pick a_law_words a_law_kinds a_law_put a_law_any a_law_is_name a_law_is_number a_law_are_rows a_law_put_due a_law_ask_due a_law_made a_law_due a_law_told a_law_is_beyond a_law a_Put_init a_If_init a_Times_init a_Ask_init a_Not_init a_InvalidRow_init a_InvalidRow a_FigureError a_InvalidText a_Put a_If a_Times a_Stop a_Ask a_Not a_Row a_Test a_DEEDS a_WORDS a_If_init_d0 d_is_integer d_is_number d_is_name d_are_rows d_needed d_fits d_is_of d_law_deal d_law_draw d_law_pick d_law_words d_law_kinds d_law_put d_law_any d_law_is_name d_law_is_number d_law_are_rows d_law_put_due d_law_ask_due d_law_made d_law_due d_law_told d_law_is_beyond d_law d_Put_init d_If_init d_Times_init d_Ask_init d_Not_init d_InvalidRow_init) : FnOk P w K mg base CX0 1 a_law_deal d_law_deal ["_law_script", "_law_radix"] (sp_law_deal (K := K)) := by
  refine T.F_law_deal.ok sc_law_deal (fun vs H Q E h => ?_) (fun cdv A outer s H vs Q E hr h => ?_)
  · unfold sp_law_deal at h; split at h; rfl; exact h.elim
  unfold sp_law_deal at h; split at h
  case h_2 => exact h.elim
  rename_i a k
  obtain ⟨ns, hS, hl, k0, k1, q⟩ := h
  obtain ⟨ms, em, hm1, hm2⟩ := cut_ints ns (some k) (some 63)
  refine ⟨_, (pss_cons (ps_setLc (i := 2) (own := [("_law_cell", 4)]) (g := gName 4) (by rfl) sc_law_deal.nd rfl rfl (sw_true rfl rfl rfl (by decide +kernel)) (pi_list (pe_slice sl_listM (pv 0) (po_some (pv 1)) (po_some pe_int))) (blkOk_by (own := [("_law_cell", 4)]) (N := N_law_deal) (sc := defScope s_law_deal) (by decide +kernel)) (fun _ _ _ _ _ => (pg_name (i := 4) sc_law_deal.nd rfl (by first | exact .inl rfl | exact .inr rfl))) (fun _ _ _ _ _ => pts_nil) (fun _ _ _ _ _ => (pe_callB call_abs (by rfl) T.z_abs (by decide +kernel) (pa_cons (pv 4) pa_nil))))
      (pss_cons (ps_set (i := 3) sc_law_deal.nd rfl (by first | exact .inl rfl | exact .inr rfl) (pe_op op_add pe_int (pe_op op_mulX pe_int (pv 1))))
      (Evl.pss_cut (ps_for PassesOwn.never rfl (pi_list (pv 2)) (pg_name (i := 4) sc_law_deal.nd rfl (by first | exact .inl rfl | exact .inr rfl))
      (pss_one (ps_set (i := 3) sc_law_deal.nd rfl (by first | exact .inl rfl | exact .inr rfl) (pe_op op_mod (pe_callTy call_intM (by rfl) T.z_int (by decide +kernel) (pa_cons (pe_op op_add (pe_op op_add (pe_op op_mulX (pv 3) pe_int) (pe_op op_mod (pe_callTy call_intM (by rfl) T.z_int (by decide +kernel) (pa_cons (pv 4) pa_nil)) pe_int)) pe_int) pa_nil)) pe_int))))
      (pss_one (ps_ret (pe_lst (pa_cons (pe_revL (pe_lc (own := [("_law_cell", 4)]) (g := gName 4) (by rfl) sc_law_deal.nd (pi_list (pv 2)) (blkOk_by (own := [("_law_cell", 4)]) (N := N_law_deal) (sc := defScope s_law_deal) (by decide +kernel)) (fun _ _ _ _ _ => (pg_name (i := 4) sc_law_deal.nd rfl (by first | exact .inl rfl | exact .inr rfl))) (fun _ _ _ _ _ => (pts_one (pt_cmpR op_ge (pv 4) (pe_op op_pow pe_int pe_int) (nomark _)))) (fun _ _ _ _ _ => (pv 4)))) (pa_cons pe_int (pa_cons (pv 3) pa_nil))))))))), ?_⟩
  walk_at "st"
  refine ⟨_, rfl, _, rfl, _, rfl, _, rfl, _, hS, fun p hp => ⟨p, rfl, ⟨_, sq_of upd_same⟩, fun D hD => lc_list (xs := ms.map V.int) (C_d1 p D ms H) ?_ ?_ ?_ ?_⟩⟩
  · rw [em] at hD ⊢
    exact ⟨[], upd_same, rfl, fun v hv => (by cases hv), (Ex.new hp).trans (Ex.new hD), by rw [upd_ne (ne_of_none upd_same hD), upd_same]⟩
  · intro i H' _ h
    obtain ⟨vs, h1, h2, h3, h4, h5⟩ := h
    exact sq_of h5
  · intro i x H' hx h
    obtain ⟨vs, h1, h2, h3, h4, h5⟩ := h
    rw [List.getElem?_map] at hx
    obtain ⟨n, hn, rfl⟩ := Option.map_eq_some_iff.mp hx
    have hi : i < ms.length := (List.getElem?_eq_some_iff.mp hn).1
    rw [em] at hD
    have hDH : H D = none := (Ex.new hp).free hD
    have hDp : p ≠ D := ne_of_none upd_same hD
    walk_at "vc"
    have fin : ∀ z : Int, 0 ≤ z → C_d1 p D ms H (i + 1) (upd H' D (.lst (vs.map V.int ++ [.int z]))) := fun z hz =>
      ⟨vs ++ [z], by rw [upd_same, List.map_append]; rfl, by simp [h2], fun v hv => by
        rcases List.mem_append.mp hv with hv | hv
        · exact h3 v hv
        · rw [List.mem_singleton.mp hv]; exact hz, h4.mut hDH, by rw [upd_ne hDp]; exact h5⟩
    exact ⟨_, h1, sz_lt (by simp; omega), fin _ (by split <;> omega)⟩
  · intro H1 h
    obtain ⟨cs, h1, h2, h3, h4, h5⟩ := h
    have hcl : cs.length ≤ 63 := by rw [List.length_map] at h2; omega
    walk_at "vc"
    refine ⟨mulOk (by decide) (by decide) (by omega) (by omega), fun σ H' => H' = H1 ∧ ∃ z x, σ = [some (.ref a), some (.int k), some (.ref D), some (.int z), x] ∧ 0 ≤ z ∧ z < 2147483647, ?_, fun σ H' hm => ?_⟩
    · refine ⟨_, rfl, D, rfl, ⟨_, sq_of h1⟩, for_list (xs := cs.map V.int) (I_dl a D k H1) ⟨rfl, _, _, rfl, by omega, by omega⟩ (fun i σ H' _ hw => by rw [hw.1]; exact sq_of h1) (fun i x σ H' hx' hw => ?_) (fun σ H' hw => ?_)⟩
      · obtain ⟨rfl, z, y, rfl, z0, z1⟩ := hw
        rw [List.getElem?_map] at hx'
        obtain ⟨n, hn, rfl⟩ := Option.map_eq_some_iff.mp hx'
        walk_at "vc"
        exact ⟨mulOk (by omega) (by omega) (by decide) (by decide), by decide, by decide, rfl, _, _, rfl, Int.emod_nonneg _ (by decide), Int.emod_lt_of_pos _ (by decide)⟩
      · exact hw
    obtain ⟨rfl, z, x, rfl, z0, z1⟩ := hm
    refine ⟨_, rfl, D, rfl, ⟨_, sq_of h1⟩, fun D2 hD2 => lc_list (xs := cs.map V.int) (C_d2 D D2 cs H') ?_ ?_ ?_ ?_⟩
    · exact ⟨[], upd_same, Nat.le_refl _, fun v hv => (by cases hv), Ex.new hD2, by rw [upd_ne (ne_of_none h1 hD2)]; exact h1⟩
    · intro i H2 _ h
      obtain ⟨vs, g1, g2, g3, g4, g5⟩ := h
      exact sq_of g5
    · intro i x H2 hx h
      obtain ⟨vs, g1, g2, g3, g4, g5⟩ := h
      rw [List.getElem?_map] at hx
      obtain ⟨n, hn, rfl⟩ := Option.map_eq_some_iff.mp hx
      have hi : i < cs.length := (List.getElem?_eq_some_iff.mp hn).1
      walk_at "vc"
      refine ⟨powOk (by decide) (by decide) (by decide) (by decide), ite2 (fun hc => ?_) (fun hc => ⟨vs, g1, by omega, g3, g4, g5⟩)⟩
      refine ⟨_, g1, sz_lt (by simp; omega), vs ++ [n], by rw [upd_same, List.map_append]; rfl, by simp; omega, fun v hv => ?_, g4.mut hD2, by rw [upd_ne (ne_of_none h1 hD2)]; exact g5⟩
      rcases List.mem_append.mp hv with hv | hv
      · exact g3 v hv
      · rw [List.mem_singleton.mp hv]
        exact h3 n (List.mem_of_getElem? hn)
    · intro H2 h
      obtain ⟨vs, g1, g2, g3, g4, g5⟩ := h
      rw [List.length_map] at g2
      walk_at "vc"
      refine ⟨_, sq_of g1, fun r hr2 => ⟨sz_le (by simp), fun d hd => q d r _ ((h4.trans g4).trans ((Ex.new hr2).trans (Ex.new hd))) ⟨vs.reverse, 0, z, upd_same, by decide, ?_, fun c hc => g3 c (List.mem_reverse.mp hc), z0, z1, by simp; omega⟩⟩⟩
      rw [upd_ne (ne_of_none upd_same hd), upd_same, List.map_reverse]
def sp_law_draw : Sp
  | [.ref d, .int n], H, Q, _ => ∃ L, Deal3 d L H ∧ 0 < n ∧ n < 2 ^ 240 ∧ ∀ v H', 0 ≤ v → v < n → Mv3 d L H H' → Q (.int v) H'
  | _, _, _, _ => False
def I_dr (d L : Addr) (n : Int) (H : Hp) : Nat → L2.St → Hp → Prop := fun m σ H' => ∃ (cs : List Int) (c z : Int), σ = [some (.ref d), some (.int n), none] ∧ m = cs.length ∧ Deal3C d L cs c z H' ∧ Mv3 d L H H'
theorem ok_law_draw (T : Txt w K mg a_is_integer a_is_number a_is_name a_are_rows a_needed a_fits a_is_of a_law_deal a_law_draw a_law_pick a_law_words a_law_kinds a_law_put a_law_any a_law_is_name a_law_is_number a_law_are_rows a_law_put_due a_law_ask_due a_law_made a_law_due a_law_told a_law_is_beyond a_law a_Put_init a_If_init a_Times_init a_Ask_init a_Not_init a_InvalidRow_init a_InvalidRow a_FigureError a_InvalidText a_Put a_If a_Times a_Stop a_Ask a_Not a_Row a_Test a_DEEDS a_WORDS a_If_init_d0 d_is_integer d_is_number d_is_name d_are_rows d_needed d_fits d_is_of d_law_deal d_law_draw d_law_pick d_law_words d_law_kinds d_law_put d_law_any d_law_is_name d_law_is_number d_law_are_rows d_law_put_due d_law_ask_due d_law_made d_law_due d_law_told d_law_is_beyond d_law d_Put_init d_If_init d_Times_init d_Ask_init d_Not_init d_InvalidRow_init) : FnOk P w K mg base CX0 1 a_law_draw d_law_draw ["_law_deal_here", "_law_amount"] sp_law_draw := by
  refine T.F_law_draw.ok sc_law_draw (fun vs H Q E h => ?_) (fun cdv A outer s H vs Q E hr h => ?_)
  · unfold sp_law_draw at h; split at h; rfl; exact h.elim
  unfold sp_law_draw at h; split at h
  case h_2 => exact h.elim
  rename_i d n
  obtain ⟨L, ⟨cs, c, z, D⟩, n0, n1, q⟩ := h
  refine ⟨_, (Evl.pss_cut (ps_while PassesOwn.never (PW.pt (pw_and (pt_cmpR op_eq (pe_ix ix_listM (pv 0) pe_int (fun _ _ => rfl)) pe_int (nomark _)) (pw_and1 (pt_cmpR op_gt (pe_callB call_len_seq (by rfl) T.z_len (by decide +kernel) (pa_cons (pe_ix ix_listM (pv 0) pe_int (fun _ _ => rfl)) pa_nil)) pe_int (nomark _)))))
      (pss_one (ps_asg (pe_bm0 PySem.F.plainAttrs_list PySem.F.slot_list_pop PySem.F.type_list_pop mt_popM (pe_ix ix_listM (pv 0) pe_int (fun _ _ => rfl))) (pg_sub (pv 0) pe_int set_list))))
      (pss_cons (ps_if (pt_cmpR op_gt (pe_ix ix_listM (pv 0) pe_int (fun _ _ => rfl)) pe_int (nomark _))
      (pss_cons (ps_set (i := 2) sc_law_draw.nd rfl (by first | exact .inl rfl | exact .inr rfl) (pe_op op_mod (pe_callTy call_intM (by rfl) T.z_int (by decide +kernel) (pa_cons (pe_ix ix_listM (pv 0) pe_int (fun _ _ => rfl)) pa_nil)) (pv 1)))
      (pss_cons (ps_asg (pe_op op_fdivW (pe_ix ix_listM (pv 0) pe_int (fun _ _ => rfl)) (pv 1)) (pg_sub (pv 0) pe_int set_list))
      (pss_one (ps_ret (pv 2)))))
      pss_nil)
      (pss_cons (ps_asg (pe_op op_mod (pe_callTy call_intM (by rfl) T.z_int (by decide +kernel) (pa_cons (pe_op op_add (pe_op op_mulX (pe_ix ix_listM (pv 0) pe_int (fun _ _ => rfl)) pe_int) pe_int) pa_nil)) pe_int) (pg_sub (pv 0) pe_int set_list))
      (pss_one (ps_ret (pe_op op_mod (pe_callTy call_intM (by rfl) T.z_int (by decide +kernel) (pa_cons (pe_op op_fdivW (pe_ix ix_listM (pv 0) pe_int (fun _ _ => rfl)) pe_int) pa_nil)) (pv 1))))))), ?_⟩
  walk_at "st"
  walk_at "vc"
  refine ⟨fun σ H' => ∃ cs c z, σ = [some (.ref d), some (.int n), none] ∧ Deal3C d L cs c z H' ∧ Mv3 d L H H', ⟨I_dr d L n H, ⟨_, cs, c, z, rfl, rfl, D, .refl ⟨_, _, _, D⟩⟩, fun m σ H' hw => ?_⟩, fun σ H' hm => ?_⟩
  · obtain ⟨cs, c, z, rfl, rfl, D, M⟩ := hw
    walk_at "vc"
    refine ⟨_, sq_of D.d, _, rfl, ?_⟩
    walk_at "vc"
    refine ite2 (fun h0 => ⟨_, sq_of D.d, _, rfl, L, rfl, _, .inl (sq_of D.l), ?_⟩) (fun h0 => ⟨_, _, _, D, M⟩)
    rw [List.length_map]
    refine ite2 (fun hc => ?_) (fun hc => ⟨_, _, _, D, M⟩)
    have hne : cs ≠ [] := List.length_pos_iff.mp (by omega)
    obtain ⟨ds, e, rfl⟩ : ∃ ds e, cs = ds ++ [e] := ⟨cs.dropLast, cs.getLast hne, (List.dropLast_concat_getLast hne).symm⟩
    have eL := D.l
    rw [List.map_append] at eL
    refine ⟨_, fun _ _ hN => hN, _, sq_of D.d, _, rfl, .inl ⟨rfl, _, sq_of eL⟩, ?_⟩
    have D2 : Deal3C d L ds e z (upd (upd H' L (.lst (ds.map V.int ++ List.map V.int [e]).dropLast)) d (.lst ([V.ref L, V.int c, V.int z].set 1 (.int e)))) :=
      ⟨by rw [upd_same]; rfl, D.nn e (by simp), by rw [upd_ne D.ne.symm, upd_same]; simp, fun x hx => D.nn x (List.mem_append_left _ hx), D.z0, D.z1, by have := D.len; simp at this; omega⟩
    have M2 : Mv3 d L H _ := M.trans ⟨fun b o h1 h2 h => by rw [upd_ne h1, upd_ne h2]; exact h, _, _, _, D2⟩
    walk_at "vc"
    exact ⟨_, eL, V.int e, by simp, _, by rw [upd_ne D.ne]; exact D.d, 1, rfl, ds.length, by simp, ds, e, z, rfl, rfl, D2, M2⟩
  · obtain ⟨cs, c, z, rfl, D, M⟩ := hm
    walk_at "vc"
    refine ⟨_, sq_of D.d, _, rfl, ?_⟩
    walk_at "vc"
    have c0 := D.c0
    have z0 := D.z0
    have z1 := D.z1
    refine ite2 (fun hc => ⟨_, sq_of D.d, _, rfl, ?_⟩) (fun hc => ⟨_, sq_of D.d, _, rfl, ?_⟩)
    · walk_at "vc"
      refine ⟨n0, _, sq_of D.d, _, rfl, ?_⟩
      walk_at "vc"
      have D2 : Deal3C d L cs (c / n) z (upd H' d (.lst ([V.ref L, V.int c, V.int z].set 1 (.int (c / n))))) :=
        ⟨by rw [upd_same]; rfl, Int.ediv_nonneg c0 (by omega), by rw [upd_ne D.ne.symm]; exact D.l, D.nn, D.z0, D.z1, D.len⟩
      exact ⟨divOk n0 (by omega), _, D.d, 1, rfl, q _ _ (Int.emod_nonneg _ (by omega)) (Int.emod_lt_of_pos _ n0) (M.trans ⟨fun b o h1 h2 h => by rw [upd_ne h1]; exact h, _, _, _, D2⟩)⟩
    · walk_at "vc"
      have w0 := Int.emod_nonneg (z * 48271 + 11) (show (2147483647 : Int) ≠ 0 by decide)
      have w1 := Int.emod_lt_of_pos (z * 48271 + 11) (show (0 : Int) < 2147483647 by decide)
      have D2 : Deal3C d L cs c ((z * 48271 + 11) % 2147483647) (upd H' d (.lst ([V.ref L, V.int c, V.int z].set 2 (.int ((z * 48271 + 11) % 2147483647))))) :=
        ⟨by rw [upd_same]; rfl, c0, by rw [upd_ne D.ne.symm]; exact D.l, D.nn, w0, w1, D.len⟩
      refine ⟨mulOk (by omega) (by omega) (by decide) (by decide), by decide, _, D.d, 2, rfl, _, sq_of D2.d, _, rfl, ?_⟩
      walk_at "vc"
      exact ⟨divOk (by decide) (by decide), n0, q _ _ (Int.emod_nonneg _ (by omega)) (Int.emod_lt_of_pos _ n0) (M.trans ⟨fun b o h1 h2 h => by rw [upd_ne h1]; exact h, _, _, _, D2⟩)⟩
/-- one of a tracked list of things, one sign of a text -/
def sp_law_pick : Sp
  | [.ref d, y], H, Q, _ => ∃ L, Deal3 d L H ∧ ((∃ a xs, y = .ref a ∧ H a = some (.lst xs) ∧ a ≠ d ∧ a ≠ L ∧ 0 < xs.length ∧ xs.length ≤ 1000 ∧ ∀ v H', v ∈ xs → Mv3 d L H H' → Q v H') ∨
      (∃ z : Str, y = .str z ∧ 0 < z.length ∧ z.length ≤ 1000 ∧ ∀ c H', c ∈ z.cps.toList → Mv3 d L H H' → Q (.str ⟨#[c]⟩) H'))
  | _, _, _, _ => False
theorem ok_law_pick (T : Txt w K mg a_is_integer a_is_number a_is_name a_are_rows a_needed a_fits a_is_of a_law_deal a_law_draw a_law_pick a_law_words a_law_kinds a_law_put a_law_any a_law_is_name a_law_is_number a_law_are_rows a_law_put_due a_law_ask_due a_law_made a_law_due a_law_told a_law_is_beyond a_law a_Put_init a_If_init a_Times_init a_Ask_init a_Not_init a_InvalidRow_init a_InvalidRow a_FigureError a_InvalidText a_Put a_If a_Times a_Stop a_Ask a_Not a_Row a_Test a_DEEDS a_WORDS a_If_init_d0 d_is_integer d_is_number d_is_name d_are_rows d_needed d_fits d_is_of d_law_deal d_law_draw d_law_pick d_law_words d_law_kinds d_law_put d_law_any d_law_is_name d_law_is_number d_law_are_rows d_law_put_due d_law_ask_due d_law_made d_law_due d_law_told d_law_is_beyond d_law d_Put_init d_If_init d_Times_init d_Ask_init d_Not_init d_InvalidRow_init) : FnOk P w K mg base CX0 2 a_law_pick d_law_pick ["_law_deal_here", "_law_some"] sp_law_pick := by
  have G_law_draw := ok_law_draw (P := P) (w := w) (base := base) T
  refine T.F_law_pick.ok sc_law_pick (fun vs H Q E h => ?_) (fun cdv A outer s H vs Q E hr h => ?_)
  · unfold sp_law_pick at h; split at h; rfl; exact h.elim
  · unfold sp_law_pick at h; split at h
    case h_2 => exact h.elim
    rename_i d y
    obtain ⟨L, D, h⟩ := h
    refine ⟨_, (pss_one (ps_ret (pe_ix ix_seq (pv 1) (pe_call G_law_draw (hr.mono (by decide)) (by rfl) T.g_law_draw T.F_law_draw.kp T.b_law_draw .nil pass0 (pa_cons (pv 0) (pa_cons (pe_callB call_len (by rfl) T.z_len (by decide +kernel) (pa_cons (pv 1) pa_nil)) pa_nil))) (fun _ _ => rfl)))), ?_⟩
    walk_at "st"
    walk_at "vc"
    rcases h with ⟨a, xs, rfl, hx, h1, h2, h3, h4, q⟩ | ⟨z, rfl, h3, h4, q⟩
    · refine ⟨xs.length, .inl ⟨_, sq_of hx, rfl⟩, L, D, by omega, by omega, fun v H1 v0 v1 M => ?_⟩
      obtain ⟨j, rfl⟩ : ∃ j : Nat, v = (j : Int) := ⟨v.toNat, by omega⟩
      have hj : j < xs.length := by omega
      exact .inl ⟨_, _, _, _, rfl, rfl, sq_of (M.kp _ _ h1 h2 hx), atI_nat (List.getElem?_eq_getElem hj), q _ _ (List.getElem_mem hj) M⟩
    · refine ⟨z.length, ⟨sz_le (by omega), rfl⟩, L, D, by omega, by omega, fun v H1 v0 v1 M => ?_⟩
      obtain ⟨j, rfl⟩ : ∃ j : Nat, v = (j : Int) := ⟨v.toNat, by omega⟩
      have hj : j < z.cps.toList.length := by rw [Array.length_toList]; unfold PySem.Str.length at v1; omega
      exact .inr (.inr ⟨_, _, _, rfl, rfl, sz_le (by omega), atI_nat (List.getElem?_eq_getElem hj), q _ _ (List.getElem_mem hj) M⟩)
def nmOk (x : Str) : Bool := decide (1 ≤ (x.length : Int)) && (decide ((x.length : Int) ≤ 4) && x.cps.toList.all fun c => decide (c ∈ (Str.ofString "abcdefghijklmnopqrstuvwxyz").cps.toList))
def nameOk (x : Str) : Prop := x.length ≤ 1000 ∧ nmOk x = true
theorem kt_of (T : Txt w K mg a_is_integer a_is_number a_is_name a_are_rows a_needed a_fits a_is_of a_law_deal a_law_draw a_law_pick a_law_words a_law_kinds a_law_put a_law_any a_law_is_name a_law_is_number a_law_are_rows a_law_put_due a_law_ask_due a_law_made a_law_due a_law_told a_law_is_beyond a_law a_Put_init a_If_init a_Times_init a_Ask_init a_Not_init a_InvalidRow_init a_InvalidRow a_FigureError a_InvalidText a_Put a_If a_Times a_Stop a_Ask a_Not a_Row a_Test a_DEEDS a_WORDS a_If_init_d0 d_is_integer d_is_number d_is_name d_are_rows d_needed d_fits d_is_of d_law_deal d_law_draw d_law_pick d_law_words d_law_kinds d_law_put d_law_any d_law_is_name d_law_is_number d_law_are_rows d_law_put_due d_law_ask_due d_law_made d_law_due d_law_told d_law_is_beyond d_law d_Put_init d_If_init d_Times_init d_Ask_init d_Not_init d_InvalidRow_init) : KT K ⟨a_Put, a_If, a_Times, a_Stop, a_Ask, a_Not⟩ a_Row a_Test := ⟨T.kits, T.oc_Put, T.oc_If, T.oc_Times, T.oc_Stop, T.oc_Ask, T.oc_Not⟩
/-- what is an integer, a number, a name -/
def AM.intM (m : AM) : Bool := m.is "int" && !m.is "bool"
def AM.num : AM → Bool
  | .int i => decide (0 ≤ i)
  | _ => false
def AM.nm : AM → Bool
  | .str x => nmOk x
  | _ => false
theorem AM.intM_of {m : AM} (h : m.intM = true) : ∃ i, m = .int i := by
  cases m <;> simp [AM.intM, AM.is] at h ⊢
  rename_i l xs
  cases l <;> simp at h
theorem AM.str_of {m : AM} (h : m.is "str" = true) : ∃ x, m = .str x := by
  cases m <;> simp [AM.is] at h ⊢
  rename_i l xs
  cases l <;> simp at h
def sp_is_integer (A : ClsA) : Sp
  | [v], H, Q, _ => ∃ m bad, AO A bad H m v ∧ Q (.bl m.intM) H
  | _, _, _, _ => False
theorem ok_is_integer (T : Txt w K mg a_is_integer a_is_number a_is_name a_are_rows a_needed a_fits a_is_of a_law_deal a_law_draw a_law_pick a_law_words a_law_kinds a_law_put a_law_any a_law_is_name a_law_is_number a_law_are_rows a_law_put_due a_law_ask_due a_law_made a_law_due a_law_told a_law_is_beyond a_law a_Put_init a_If_init a_Times_init a_Ask_init a_Not_init a_InvalidRow_init a_InvalidRow a_FigureError a_InvalidText a_Put a_If a_Times a_Stop a_Ask a_Not a_Row a_Test a_DEEDS a_WORDS a_If_init_d0 d_is_integer d_is_number d_is_name d_are_rows d_needed d_fits d_is_of d_law_deal d_law_draw d_law_pick d_law_words d_law_kinds d_law_put d_law_any d_law_is_name d_law_is_number d_law_are_rows d_law_put_due d_law_ask_due d_law_made d_law_due d_law_told d_law_is_beyond d_law d_Put_init d_If_init d_Times_init d_Ask_init d_Not_init d_InvalidRow_init) : FnOk P w K mg base CX0 1 a_is_integer d_is_integer ["value"] (sp_is_integer ⟨a_Put, a_If, a_Times, a_Stop, a_Ask, a_Not⟩) := by
  refine T.F_is_integer.ok sc_is_integer (fun vs H Q E h => ?_) (fun cdv A outer s H vs Q E hr h => ?_)
  · unfold sp_is_integer at h; split at h; rfl; exact h.elim
  unfold sp_is_integer at h; split at h
  case h_2 => exact h.elim
  rename_i v
  obtain ⟨m, bad, hm, q⟩ := h
  refine ⟨_, (pss_one (ps_ret (pe_and (pe_callB (call_isiK (K := K)) (by rfl) T.z_isinstance (by decide +kernel) (pa_cons (pv 0) (pa_cons (pe_bltn (v := .ty "int") (by rfl) T.z_int (by decide +kernel) rfl) pa_nil))) (pe_one (pe_not (pe_callB (call_isiK (K := K)) (by rfl) T.z_isinstance (by decide +kernel) (pa_cons (pv 0) (pa_cons (pe_bltn (v := .ty "bool") (by rfl) T.z_bool (by decide +kernel) rfl) pa_nil)))))))), ?_⟩
  walk_at "st"
  walk_at "vc"
  unfold AM.intM at q
  refine hm.isi (kt_of T) (by simp [askTs]) ⟨_, rfl, ite2 (fun h1 => ?_) (fun h1 => ?_)⟩
  · refine hm.isi (kt_of T) (by simp [askTs]) ⟨_, rfl, ?_⟩
    rw [h1, Bool.true_and] at q
    exact q
  · rw [Bool.eq_false_iff.mpr h1, Bool.false_and] at q
    exact q
def sp_is_number (A : ClsA) : Sp
  | [v], H, Q, _ => ∃ m bad, AO A bad H m v ∧ Q (.bl m.num) H
  | _, _, _, _ => False
theorem ok_is_number (T : Txt w K mg a_is_integer a_is_number a_is_name a_are_rows a_needed a_fits a_is_of a_law_deal a_law_draw a_law_pick a_law_words a_law_kinds a_law_put a_law_any a_law_is_name a_law_is_number a_law_are_rows a_law_put_due a_law_ask_due a_law_made a_law_due a_law_told a_law_is_beyond a_law a_Put_init a_If_init a_Times_init a_Ask_init a_Not_init a_InvalidRow_init a_InvalidRow a_FigureError a_InvalidText a_Put a_If a_Times a_Stop a_Ask a_Not a_Row a_Test a_DEEDS a_WORDS a_If_init_d0 d_is_integer d_is_number d_is_name d_are_rows d_needed d_fits d_is_of d_law_deal d_law_draw d_law_pick d_law_words d_law_kinds d_law_put d_law_any d_law_is_name d_law_is_number d_law_are_rows d_law_put_due d_law_ask_due d_law_made d_law_due d_law_told d_law_is_beyond d_law d_Put_init d_If_init d_Times_init d_Ask_init d_Not_init d_InvalidRow_init) : FnOk P w K mg base CX0 2 a_is_number d_is_number ["value"] (sp_is_number ⟨a_Put, a_If, a_Times, a_Stop, a_Ask, a_Not⟩) := by
  have G_is_integer := ok_is_integer (P := P) (w := w) (base := base) T
  refine T.F_is_number.ok sc_is_number (fun vs H Q E h => ?_) (fun cdv A outer s H vs Q E hr h => ?_)
  · unfold sp_is_number at h; split at h; rfl; exact h.elim
  unfold sp_is_number at h; split at h
  case h_2 => exact h.elim
  rename_i v
  obtain ⟨m, bad, hm, q⟩ := h
  refine ⟨_, (pss_one (ps_ret (pe_and (pe_call G_is_integer (hr.mono (by decide)) (by rfl) T.g_is_integer T.F_is_integer.kp T.b_is_integer .nil pass0 (pa_cons (pv 0) pa_nil)) (pe_one (pe_cmpR op_ge (pv 0) pe_int (nomark _)))))), ?_⟩
  walk_at "st"
  walk_at "vc"
  refine ⟨m, bad, hm, _, rfl, ite2 (fun h1 => ?_) (fun h1 => ?_)⟩
  · obtain ⟨i, rfl⟩ := AM.intM_of h1
    unfold AO at hm
    exact ⟨i, hm.1, q⟩
  · have e : m.num = false := by
      cases m <;> first | rfl | (exact absurd (by simp [AM.intM, AM.is]) h1)
    rw [e] at q
    exact q
def sp_is_name (A : ClsA) : Sp
  | [v], H, Q, _ => ∃ m bad, AO A bad H m v ∧ ∀ H', Ex H H' → Q (.bl m.nm) H'
  | _, _, _, _ => False
def C_nm (D : Addr) (x : Str) (H : Hp) : Nat → Hp → Prop := fun i H' => H' D = some (.lst (((x.cps.toList.take i).map fun c => decide (c ∈ (Str.ofString "abcdefghijklmnopqrstuvwxyz").cps.toList)).map V.bl)) ∧ Ex H H'
theorem ok_is_name (T : Txt w K mg a_is_integer a_is_number a_is_name a_are_rows a_needed a_fits a_is_of a_law_deal a_law_draw a_law_pick a_law_words a_law_kinds a_law_put a_law_any a_law_is_name a_law_is_number a_law_are_rows a_law_put_due a_law_ask_due a_law_made a_law_due a_law_told a_law_is_beyond a_law a_Put_init a_If_init a_Times_init a_Ask_init a_Not_init a_InvalidRow_init a_InvalidRow a_FigureError a_InvalidText a_Put a_If a_Times a_Stop a_Ask a_Not a_Row a_Test a_DEEDS a_WORDS a_If_init_d0 d_is_integer d_is_number d_is_name d_are_rows d_needed d_fits d_is_of d_law_deal d_law_draw d_law_pick d_law_words d_law_kinds d_law_put d_law_any d_law_is_name d_law_is_number d_law_are_rows d_law_put_due d_law_ask_due d_law_made d_law_due d_law_told d_law_is_beyond d_law d_Put_init d_If_init d_Times_init d_Ask_init d_Not_init d_InvalidRow_init) : FnOk P w K mg base CX0 1 a_is_name d_is_name ["value"] (sp_is_name ⟨a_Put, a_If, a_Times, a_Stop, a_Ask, a_Not⟩) := by
  refine T.F_is_name.ok sc_is_name (fun vs H Q E h => ?_) (fun cdv A outer s H vs Q E hr h => ?_)
  · unfold sp_is_name at h; split at h; rfl; exact h.elim
  unfold sp_is_name at h; split at h
  case h_2 => exact h.elim
  rename_i v
  obtain ⟨m, bad, hm, q⟩ := h
  refine ⟨_, (pss_cons (ps_if (pt_not (pt_val (pe_callB (call_isiK (K := K)) (by rfl) T.z_isinstance (by decide +kernel) (pa_cons (pv 0) (pa_cons (pe_bltn (v := .ty "str") (by rfl) T.z_str (by decide +kernel) rfl) pa_nil)))))
      (pss_one (ps_ret pe_bl))
      pss_nil)
      (pss_one (ps_ret (pe_and (pe_chain op_le op_le pe_int (pe_callB call_len_str (by rfl) T.z_len (by decide +kernel) (pa_cons (pv 0) pa_nil)) (pe_globE (by rfl) T.g_LONGEST_NAME)) (pe_one (pe_callB (cr_all rfl) (by rfl) T.z_all (by decide +kernel) (pa_cons (pe_lc (own := [("one", 1)]) (g := gName 1) (by rfl) sc_is_name.nd (pi_str (pv 0)) (blkOk_by (own := [("one", 1)]) (N := N_is_name) (sc := defScope s_is_name) (by decide +kernel)) (fun _ _ _ _ _ => (pg_name (i := 1) sc_is_name.nd rfl (by first | exact .inl rfl | exact .inr rfl))) (fun _ _ _ _ _ => pts_nil) (fun _ _ _ _ _ => (pe_cmpR op_in_sign (pv 1) (pe_globE (by rfl) T.g_LETTERS) (by rfl)))) pa_nil))))))), ?_⟩
  walk_at "st"
  walk_at "vc"
  refine hm.isi (kt_of T) (by simp [askTs]) ⟨_, rfl, ite2 (fun h1 => ?_) (fun h1 => ?_)⟩
  · have e : m.nm = false := by
      cases m <;> first | rfl | (exact absurd h1 (by simp [AM.is]))
    rw [e] at q
    exact q _ (Ex.refl _)
  · obtain ⟨x, rfl⟩ := AM.str_of (by simpa using h1)
    unfold AO at hm
    obtain ⟨rfl, hl⟩ := hm
    refine ⟨x, rfl, sz_le (by omega), ite2 (fun h1 => ite2 (fun h2 => ?_) (fun h2 => ?_)) (fun h1 => ?_)⟩
    · refine ⟨_, rfl, x, rfl, fun D hD => lc_it walk_str (C_nm D x H) ⟨upd_same, Ex.new hD⟩ (fun i H' _ _ => trivial) (fun i v H1 H' hi hP y => ?_) (fun H' hP => ?_)⟩
      · obtain ⟨rfl, c, hc, rfl⟩ := y
        walk_at "vc"
        have hc' : x.cps.toList[i]? = some c := by rw [Array.getElem?_toList]; exact hc
        refine ⟨c, rfl, _, hP.1, sz_lt (by simp [PySem.Str.length] at hl ⊢; omega), ?_, hP.2.mut hD⟩
        rw [upd_same, List.take_add_one, hc', List.map_append, List.map_append]
        rfl
      · refine ⟨D, _, rfl, sq_of hP.1, ?_⟩
        have e : x.cps.toList.take x.cps.size = x.cps.toList := by rw [← Array.length_toList, List.take_length]
        rw [e]
        have this : Q (.bl (nmOk x)) H' := q H' hP.2
        unfold nmOk at this
        rw [decide_eq_true h1, decide_eq_true h2, Bool.true_and, Bool.true_and] at this
        rw [List.all_map]
        exact this
    · have this : Q (.bl (nmOk x)) H := q H (Ex.refl H)
      unfold nmOk at this
      rw [decide_eq_false h2, Bool.false_and, Bool.and_false] at this
      exact this
    · have this : Q (.bl (nmOk x)) H := q H (Ex.refl H)
      unfold nmOk at this
      rw [decide_eq_false h1, Bool.false_and] at this
      exact this
def isOf (k : Str) (m : AM) : Bool := if k = "name" then m.nm else m.num
def sp_is_of (A : ClsA) : Sp
  | [.str k, v], H, Q, _ => ∃ m bad, AO A bad H m v ∧ ∀ H', Ex H H' → Q (.bl (isOf k m)) H'
  | _, _, _, _ => False
theorem ok_is_of (T : Txt w K mg a_is_integer a_is_number a_is_name a_are_rows a_needed a_fits a_is_of a_law_deal a_law_draw a_law_pick a_law_words a_law_kinds a_law_put a_law_any a_law_is_name a_law_is_number a_law_are_rows a_law_put_due a_law_ask_due a_law_made a_law_due a_law_told a_law_is_beyond a_law a_Put_init a_If_init a_Times_init a_Ask_init a_Not_init a_InvalidRow_init a_InvalidRow a_FigureError a_InvalidText a_Put a_If a_Times a_Stop a_Ask a_Not a_Row a_Test a_DEEDS a_WORDS a_If_init_d0 d_is_integer d_is_number d_is_name d_are_rows d_needed d_fits d_is_of d_law_deal d_law_draw d_law_pick d_law_words d_law_kinds d_law_put d_law_any d_law_is_name d_law_is_number d_law_are_rows d_law_put_due d_law_ask_due d_law_made d_law_due d_law_told d_law_is_beyond d_law d_Put_init d_If_init d_Times_init d_Ask_init d_Not_init d_InvalidRow_init) : FnOk P w K mg base CX0 3 a_is_of d_is_of ["kind", "value"] (sp_is_of ⟨a_Put, a_If, a_Times, a_Stop, a_Ask, a_Not⟩) := by
  have G_is_name := ok_is_name (P := P) (w := w) (base := base) T
  have G_is_number := ok_is_number (P := P) (w := w) (base := base) T
  refine T.F_is_of.ok sc_is_of (fun vs H Q E h => ?_) (fun cdv A outer s H vs Q E hr h => ?_)
  · unfold sp_is_of at h; split at h; rfl; exact h.elim
  unfold sp_is_of at h; split at h
  case h_2 => exact h.elim
  rename_i k v
  refine ⟨_, (pss_cons (ps_if (pt_cmpR op_eq (pv 0) pe_str (nomark _))
      (pss_one (ps_ret (pe_call G_is_name (hr.mono (by decide)) (by rfl) T.g_is_name T.F_is_name.kp T.b_is_name .nil pass0 (pa_cons (pv 1) pa_nil))))
      pss_nil)
      (pss_one (ps_ret (pe_call G_is_number (hr.mono (by decide)) (by rfl) T.g_is_number T.F_is_number.kp T.b_is_number .nil pass0 (pa_cons (pv 1) pa_nil))))), ?_⟩
  walk_at "st"
  walk_at "vc"
  obtain ⟨m, bad, hm, q⟩ := h
  unfold isOf at q
  refine ite2 (fun h1 => ?_) (fun h1 => ?_)
  · rw [if_pos h1] at q
    exact ⟨m, bad, hm, q⟩
  · rw [if_neg h1] at q
    exact ⟨m, bad, hm, q _ (Ex.refl _)⟩
/-- what stands behind each deed, as the package tells it -/
def deedTab : List (Str × List Str) := [("figures", ["number"]), ("number", ["number"]), ("base", []), ("let", ["name"]), ("+", ["name", "name"]), ("-", ["name", "name"]), ("*", ["name", "name"]), ("//", ["name", "name"]), ("rest", ["name", "name"]), ("**", ["name", "number"]), ("turned", ["name"]), ("least", ["name"]), ("greatest", ["name"]), ("sum", ["name"]), ("many", ["name"]), ("root", ["name"]), ("figure", ["number", "name"]), ("first", ["number", "name"]), ("last", ["number", "name"]), ("joined", ["name", "name"]), ("common", ["name", "name"]), ("lesser", ["name", "name"])]
theorem deedAt (T : Txt w K mg a_is_integer a_is_number a_is_name a_are_rows a_needed a_fits a_is_of a_law_deal a_law_draw a_law_pick a_law_words a_law_kinds a_law_put a_law_any a_law_is_name a_law_is_number a_law_are_rows a_law_put_due a_law_ask_due a_law_made a_law_due a_law_told a_law_is_beyond a_law a_Put_init a_If_init a_Times_init a_Ask_init a_Not_init a_InvalidRow_init a_InvalidRow a_FigureError a_InvalidText a_Put a_If a_Times a_Stop a_Ask a_Not a_Row a_Test a_DEEDS a_WORDS a_If_init_d0 d_is_integer d_is_number d_is_name d_are_rows d_needed d_fits d_is_of d_law_deal d_law_draw d_law_pick d_law_words d_law_kinds d_law_put d_law_any d_law_is_name d_law_is_number d_law_are_rows d_law_put_due d_law_ask_due d_law_made d_law_due d_law_told d_law_is_beyond d_law d_Put_init d_If_init d_Times_init d_Ask_init d_Not_init d_InvalidRow_init) : ∀ p ∈ deedTab, ∃ t, PySem.W.nsIn K a_DEEDS p.1 = some (some (.ref t)) ∧ ∀ H, SqT K H t (p.2.map V.str) := by
  intro p hp
  simp only [deedTab, List.mem_cons, List.not_mem_nil, or_false] at hp
  rcases hp with rfl | rfl | rfl | rfl | rfl | rfl | rfl | rfl | rfl | rfl | rfl | rfl | rfl | rfl | rfl | rfl | rfl | rfl | rfl | rfl | rfl | rfl
  · exact T.I_DEEDS_0
  · exact T.I_DEEDS_1
  · exact T.I_DEEDS_2
  · exact T.I_DEEDS_3
  · exact T.I_DEEDS_4
  · exact T.I_DEEDS_5
  · exact T.I_DEEDS_6
  · exact T.I_DEEDS_7
  · exact T.I_DEEDS_8
  · exact T.I_DEEDS_9
  · exact T.I_DEEDS_10
  · exact T.I_DEEDS_11
  · exact T.I_DEEDS_12
  · exact T.I_DEEDS_13
  · exact T.I_DEEDS_14
  · exact T.I_DEEDS_15
  · exact T.I_DEEDS_16
  · exact T.I_DEEDS_17
  · exact T.I_DEEDS_18
  · exact T.I_DEEDS_19
  · exact T.I_DEEDS_20
  · exact T.I_DEEDS_21
theorem lookup_mem {α : Type} {k : Str} {v : α} : ∀ {l : List (Str × α)}, l.lookup k = some v → (k, v) ∈ l
  | [], h => by cases h
  | (a, b) :: l, h => by
    rw [List.lookup_cons] at h
    split at h
    · rename_i e
      cases h
      rw [eq_of_beq e]
      exact List.mem_cons_self ..
    · exact List.mem_cons_of_mem _ (lookup_mem h)
theorem lookup_not {α : Type} {k : Str} : ∀ {l : List (Str × α)}, l.lookup k = none → k ∉ l.map (·.1)
  | [], _ => by simp
  | (a, b) :: l, h => by
    rw [List.lookup_cons] at h
    split at h
    · cases h
    · rename_i e
      simp only [List.map_cons, List.mem_cons, not_or]
      exact ⟨fun z => by rw [z] at e; simp at e, lookup_not h⟩
/-- the deed's kinds for n arguments -/
def kindsA (ks0 : List Str) (d : Str) (n : Nat) : List Str := if d = "figures" then List.replicate (max 1 n) "number" else ks0
theorem deedNo (T : Txt w K mg a_is_integer a_is_number a_is_name a_are_rows a_needed a_fits a_is_of a_law_deal a_law_draw a_law_pick a_law_words a_law_kinds a_law_put a_law_any a_law_is_name a_law_is_number a_law_are_rows a_law_put_due a_law_ask_due a_law_made a_law_due a_law_told a_law_is_beyond a_law a_Put_init a_If_init a_Times_init a_Ask_init a_Not_init a_InvalidRow_init a_InvalidRow a_FigureError a_InvalidText a_Put a_If a_Times a_Stop a_Ask a_Not a_Row a_Test a_DEEDS a_WORDS a_If_init_d0 d_is_integer d_is_number d_is_name d_are_rows d_needed d_fits d_is_of d_law_deal d_law_draw d_law_pick d_law_words d_law_kinds d_law_put d_law_any d_law_is_name d_law_is_number d_law_are_rows d_law_put_due d_law_ask_due d_law_made d_law_due d_law_told d_law_is_beyond d_law d_Put_init d_If_init d_Times_init d_Ask_init d_Not_init d_InvalidRow_init) {d : Str} (h : deedTab.lookup d = none) : PySem.W.nsIn K a_DEEDS d = some none :=
  nsIn_none T.W_DEEDS (lookup_not h)
def sp_needed (K : PySem.W.Frag) : Sp
  | [.str d, .int n], H, Q, _ => ∃ (m : Nat) (ks0 : List Str), n = m ∧ m ≤ 1000 ∧ deedTab.lookup d = some ks0 ∧ ∀ t H', Ex H H' → SqT K H' t ((kindsA ks0 d m).map V.str) → Q (.ref t) H'
  | _, _, _, _ => False
theorem ok_needed (T : Txt w K mg a_is_integer a_is_number a_is_name a_are_rows a_needed a_fits a_is_of a_law_deal a_law_draw a_law_pick a_law_words a_law_kinds a_law_put a_law_any a_law_is_name a_law_is_number a_law_are_rows a_law_put_due a_law_ask_due a_law_made a_law_due a_law_told a_law_is_beyond a_law a_Put_init a_If_init a_Times_init a_Ask_init a_Not_init a_InvalidRow_init a_InvalidRow a_FigureError a_InvalidText a_Put a_If a_Times a_Stop a_Ask a_Not a_Row a_Test a_DEEDS a_WORDS a_If_init_d0 d_is_integer d_is_number d_is_name d_are_rows d_needed d_fits d_is_of d_law_deal d_law_draw d_law_pick d_law_words d_law_kinds d_law_put d_law_any d_law_is_name d_law_is_number d_law_are_rows d_law_put_due d_law_ask_due d_law_made d_law_due d_law_told d_law_is_beyond d_law d_Put_init d_If_init d_Times_init d_Ask_init d_Not_init d_InvalidRow_init) : FnOk P w K mg base CX0 1 a_needed d_needed ["deed", "many"] (sp_needed K) := by
  refine T.F_needed.ok sc_needed (fun vs H Q E h => ?_) (fun cdv A outer s H vs Q E hr h => ?_)
  · unfold sp_needed at h; split at h; rfl; exact h.elim
  unfold sp_needed at h; split at h
  case h_2 => exact h.elim
  rename_i d n
  obtain ⟨m, ks0, rfl, hm, hk, q⟩ := h
  refine ⟨_, (pss_cons (ps_if (pt_cmpR op_eq (pv 0) pe_str (nomark _))
      (pss_one (ps_ret (pe_op op_repT1 (pe_ixDX rfl takes0 (pe_globE (by rfl) T.g_DEEDS) (pv 0) (fun _ _ => rfl)) (pe_callB (call_maxM rfl) (by rfl) T.z_max (by decide +kernel) (pa_cons pe_int (pa_cons (pv 1) pa_nil))))))
      pss_nil)
      (pss_one (ps_ret (pe_ixDX rfl takes0 (pe_globE (by rfl) T.g_DEEDS) (pv 0) (fun _ _ => rfl))))), ?_⟩
  walk_at "st"
  walk_at "vc"
  have kd : ∃ t, KDct K w a_DEEDS d (.ref t) ∧ ∀ H, SqT K H t (ks0.map V.str) := by
    obtain ⟨t, h1, h2⟩ := deedAt T _ (lookup_mem hk)
    obtain ⟨es, n, D⟩ := T.D_DEEDS
    exact ⟨t, ⟨es, n, .ref t, D.at_, D.lit, h1, rfl⟩, h2⟩
  obtain ⟨t, h1, h2⟩ := kd
  refine ite2 (fun hd => ?_) (fun hd => ?_)
  · have e0 : ks0 = ([("number" : Str)] : List Str) := by
      rw [hd] at hk
      have e9 : deedTab.lookup ("figures" : Str) = some ([("number" : Str)] : List Str) := by decide +kernel
      exact Option.some.inj (hk.symm.trans e9)
    unfold kindsA at q
    rw [if_pos hd] at q
    subst e0
    refine ⟨_, rfl, a_DEEDS, d, rfl, rfl, .inl ⟨_, h1, t, _, _, rfl, rfl, h2 H, ?_⟩⟩
    by_cases h1m : m ≤ 1
    · refine .inl ⟨?_, q t H (Ex.refl H) ?_⟩
      · rw [if_neg (by omega)]
      · rw [show max 1 m = 1 by omega]; exact h2 H
    · have e : (if (m : Int) > 1 then (m : Int) else 1) = m := if_pos (by omega)
      rw [e]
      refine .inr ⟨by simp, by omega, by omega, by simp, fun p hp => q p _ (Ex.new hp) (st_of ?_)⟩
      rw [upd_same, Int.toNat_natCast, show max 1 m = m by omega]
      refine congrArg some (congrArg HO.tup ?_)
      clear q
      induction m with
      | zero => rfl
      | succ k ih => rw [List.replicate_succ, List.replicate_succ, List.flatten_cons, List.map_cons]; by_cases hk0 : k = 0 <;> simp [hk0, List.map_replicate, List.flatten_replicate_singleton]
  · unfold kindsA at q
    rw [if_neg hd] at q
    exact ⟨_, rfl, a_DEEDS, d, rfl, rfl, .inl ⟨_, h1, q t H (Ex.refl H) (h2 H)⟩⟩
/-- whether the arguments are of these kinds -/
def fitsM (ks : List Str) (ms : List AM) : Bool := decide (ms.length = ks.length) && (List.zipWith isOf ks ms).all id
def sp_fits (K : PySem.W.Frag) (A : ClsA) : Sp
  | [.str d, .ref q], H, Q, _ => ∃ g ms bad ks0, SqT K H q g ∧ AOs A bad H ms g ∧ g.length ≤ 1000 ∧ deedTab.lookup d = some ks0 ∧ ∀ H', Ex H H' → Q (.bl (fitsM (kindsA ks0 d ms.length) ms)) H'
  | _, _, _, _ => False
def C_zf (bs : List Bool) (D : Addr) (H : Hp) : Nat → Hp → Prop := fun i H' => H' D = some (.lst ((bs.take i).map V.bl)) ∧ Ex H H'
theorem C_zf.next {bs : List Bool} {D : Addr} {H H' H4 : Hp} {i : Nat} {b : Bool} (h : C_zf bs D H i H') (hl : bs.length ≤ 1000) (hb : bs[i]? = some b) (e : Ex H' H4) (hD : H D = none) : ∃ acc, H4 D = some (.lst acc) ∧ acc.length < sizeLine ∧ C_zf bs D H (i + 1) (upd H4 D (.lst (acc ++ [.bl b]))) := by
  refine ⟨_, e _ _ h.1, sz_lt (by simp; omega), ?_, (h.2.trans e).mut hD⟩
  rw [upd_same, List.take_add_one, hb, List.map_append]
  rfl
theorem C_zf.fin {bs : List Bool} {D : Addr} {H H' : Hp} {n : Nat} {K : PySem.W.Frag} {Q : VK} (h : C_zf bs D H n H') (hn : bs.length ≤ n) (q : ∀ H', Ex H H' → Q (.bl (bs.all id)) H') : rAll K [.ref D] H' Q := by
  refine ⟨D, _, rfl, sq_of h.1, ?_⟩
  rw [List.take_of_length_le hn]
  exact q _ h.2
theorem ok_fits (T : Txt w K mg a_is_integer a_is_number a_is_name a_are_rows a_needed a_fits a_is_of a_law_deal a_law_draw a_law_pick a_law_words a_law_kinds a_law_put a_law_any a_law_is_name a_law_is_number a_law_are_rows a_law_put_due a_law_ask_due a_law_made a_law_due a_law_told a_law_is_beyond a_law a_Put_init a_If_init a_Times_init a_Ask_init a_Not_init a_InvalidRow_init a_InvalidRow a_FigureError a_InvalidText a_Put a_If a_Times a_Stop a_Ask a_Not a_Row a_Test a_DEEDS a_WORDS a_If_init_d0 d_is_integer d_is_number d_is_name d_are_rows d_needed d_fits d_is_of d_law_deal d_law_draw d_law_pick d_law_words d_law_kinds d_law_put d_law_any d_law_is_name d_law_is_number d_law_are_rows d_law_put_due d_law_ask_due d_law_made d_law_due d_law_told d_law_is_beyond d_law d_Put_init d_If_init d_Times_init d_Ask_init d_Not_init d_InvalidRow_init) : FnOk P w K mg base CX0 4 a_fits d_fits ["deed", "given"] (sp_fits K ⟨a_Put, a_If, a_Times, a_Stop, a_Ask, a_Not⟩) := by
  have G_needed := ok_needed (P := P) (w := w) (base := base) T
  have G_is_of := ok_is_of (P := P) (w := w) (base := base) T
  refine T.F_fits.ok sc_fits (fun vs H Q E h => ?_) (fun cdv A outer s H vs Q E hr h => ?_)
  · unfold sp_fits at h; split at h; rfl; exact h.elim
  unfold sp_fits at h; split at h
  case h_2 => exact h.elim
  rename_i d p
  obtain ⟨g, ms, bad, ks0, hg, hm, hl, hk, q⟩ := h
  refine ⟨_, (pss_cons (ps_set (i := 2) sc_fits.nd rfl (by first | exact .inl rfl | exact .inr rfl) (pe_call G_needed (hr.mono (by decide)) (by rfl) T.g_needed T.F_needed.kp T.b_needed .nil pass0 (pa_cons (pv 0) (pa_cons (pe_callB call_len_seq (by rfl) T.z_len (by decide +kernel) (pa_cons (pv 1) pa_nil)) pa_nil))))
      (pss_cons (ps_if (pt_cmpR op_ne (pe_callB call_len_seq (by rfl) T.z_len (by decide +kernel) (pa_cons (pv 1) pa_nil)) (pe_callB call_len_seq (by rfl) T.z_len (by decide +kernel) (pa_cons (pv 2) pa_nil)) (nomark _))
      (pss_one (ps_ret pe_bl))
      pss_nil)
      (pss_one (ps_ret (pe_callB (cr_all rfl) (by rfl) T.z_all (by decide +kernel) (pa_cons (pe_lc (own := [("kind", 3), ("one", 4)]) (g := gTup K 2 (gCons (gName 3) (gCons (gName 4) gNil))) (by rfl) sc_fits.nd (RZ.pi_zipA (by rfl) T.z_zip (pa_cons (pv 2) (pa_cons (pv 1) pa_nil))) (blkOk_by (own := [("kind", 3), ("one", 4)]) (N := N_fits) (sc := defScope s_fits) (by decide +kernel)) (fun _ _ _ _ _ => (pg_tupK (K := K) (n := 2) rfl rfl (pgs_cons (pg_name (i := 3) sc_fits.nd rfl (by first | exact .inl rfl | exact .inr rfl)) (pgs_cons (pg_name (i := 4) sc_fits.nd rfl (by first | exact .inl rfl | exact .inr rfl)) pgs_nil)))) (fun _ _ _ _ _ => pts_nil) (fun _ _ _ _ _ => (pe_call G_is_of (hr.mono (by decide)) (by rfl) T.g_is_of T.F_is_of.kp T.b_is_of .nil pass0 (pa_cons (pv 3) (pa_cons (pv 4) pa_nil))))) pa_nil)))))), ?_⟩
  walk_at "st"
  walk_at "vc"
  have hlen := hm.len
  refine ⟨g, .inr hg, ms.length, ks0, by rw [hlen], by omega, hk, fun t H1 e1 ht => ?_⟩
  walk_at "vc"
  generalize kindsA ks0 d ms.length = ks at *
  refine ⟨g, .inr (e1.sqt hg), _, .inr ht, ite2 (fun hne => ?_) (fun he => ?_)⟩
  · have e : fitsM ks ms = false := by
      unfold fitsM
      rw [decide_eq_false (by rw [List.length_map] at hne; omega), Bool.false_and]
    rw [e] at q
    exact q _ e1
  have he2 : ms.length = ks.length := by rw [List.length_map] at he; omega
  refine ⟨_, rfl, _, rfl, t, p, _, g, rfl, .inr ⟨ht, e1.sqt hg, fun D hD => ?_⟩⟩
  have zl : (List.zipWith isOf ks ms).length = ms.length := by rw [List.length_zipWith]; omega
  refine lc_it (walk_zipT (n := g.length) (by rw [List.length_map]; omega)) (C_zf (List.zipWith isOf ks ms) D H1) ⟨upd_same, Ex.new hD⟩ (fun i H' _ hP => ⟨hP.2.sqt ht, hP.2.sqt (e1.sqt hg)⟩) (fun i v H2 H' hi hP y => ?_) (fun H' hP => hP.fin (by omega) fun H5 e5 => ?_)
  · obtain ⟨T0, x, z, rfl, hT, rfl, hx, hz⟩ := y
    refine ⟨T0, _, rfl, st_of upd_same, rfl, ?_⟩
    simp only [gCons, gNil]
    walk_at "vc"
    obtain ⟨m, hm1, hm2⟩ := hm.at_ hz
    have hx2 : (ks.map V.str)[i]? = some x := hx
    rw [List.getElem?_map] at hx2
    obtain ⟨k, hk2, rfl⟩ := Option.map_eq_some_iff.mp hx2
    have eT := Ex.new (H := H2) hT (o := .tup [V.str k, z])
    refine ⟨m, bad, hm2.ex (e1.trans (hP.2.trans eT)), fun H4 e4 => ?_⟩
    refine C_zf.next hP (by omega) ?_ (eT.trans e4) hD
    rw [List.getElem?_zipWith, hk2, hm1]
  · have e : fitsM ks ms = (List.zipWith isOf ks ms).all id := by
      unfold fitsM
      rw [decide_eq_true he2, Bool.true_and]
    rw [← e]
    exact q _ (e1.trans e5)
/-- whether all are rows -/
def AM.rows : AM → Bool
  | .seq _ ms => (ms.map AM.isR).all id
  | _ => false
/-- a value as are_rows looks at it: any, or an empty tuple of the module -/
def RV (K : PySem.W.Frag) (A : ClsA) (H : Hp) (v : V) (b : Bool) : Prop := (∃ m bad, AO A bad H m v ∧ m.rows = b) ∨ (∃ a, v = .ref a ∧ b = true ∧ ∀ H', SqT K H' a [])
theorem RV.ex {K : PySem.W.Frag} {A : ClsA} {H H' : Hp} {v : V} {b : Bool} (h : RV K A H v b) (e : Ex H H') : RV K A H' v b := by
  rcases h with ⟨m, bad, h, r⟩ | h
  · exact .inl ⟨m, bad, h.ex e, r⟩
  · exact .inr h
theorem kTup {K : PySem.W.Frag} {a : Addr} {xs : List V} (h : ∀ H', SqT K H' a xs) (H : Hp) : TyX K H (.ref a) (.type "tuple") := by
  rcases h (fun _ => none) with z | ⟨o, its, n, l, c, _⟩
  · rcases z with z | ⟨o, z⟩ <;> cases z
  · exact .kTuple l c
def sp_are_rows (K : PySem.W.Frag) (A : ClsA) : Sp
  | [v], H, Q, _ => ∃ b, RV K A H v b ∧ ∀ H', Ex H H' → Q (.bl b) H'
  | _, _, _, _ => False
theorem ok_are_rows (T : Txt w K mg a_is_integer a_is_number a_is_name a_are_rows a_needed a_fits a_is_of a_law_deal a_law_draw a_law_pick a_law_words a_law_kinds a_law_put a_law_any a_law_is_name a_law_is_number a_law_are_rows a_law_put_due a_law_ask_due a_law_made a_law_due a_law_told a_law_is_beyond a_law a_Put_init a_If_init a_Times_init a_Ask_init a_Not_init a_InvalidRow_init a_InvalidRow a_FigureError a_InvalidText a_Put a_If a_Times a_Stop a_Ask a_Not a_Row a_Test a_DEEDS a_WORDS a_If_init_d0 d_is_integer d_is_number d_is_name d_are_rows d_needed d_fits d_is_of d_law_deal d_law_draw d_law_pick d_law_words d_law_kinds d_law_put d_law_any d_law_is_name d_law_is_number d_law_are_rows d_law_put_due d_law_ask_due d_law_made d_law_due d_law_told d_law_is_beyond d_law d_Put_init d_If_init d_Times_init d_Ask_init d_Not_init d_InvalidRow_init) : FnOk P w K mg base CX0 1 a_are_rows d_are_rows ["value"] (sp_are_rows K ⟨a_Put, a_If, a_Times, a_Stop, a_Ask, a_Not⟩) := by
  refine T.F_are_rows.ok sc_are_rows (fun vs H Q E h => ?_) (fun cdv A outer s H vs Q E hr h => ?_)
  · unfold sp_are_rows at h; split at h; rfl; exact h.elim
  unfold sp_are_rows at h; split at h
  case h_2 => exact h.elim
  rename_i v
  obtain ⟨bb, hv0, q⟩ := h
  refine ⟨_, (pss_one (ps_ret (pe_and (pe_callB (call_isiTK (K := K)) (by rfl) T.z_isinstance (by decide +kernel) (pa_cons (pv 0) (pa_cons (pe_tup (pa_cons (pe_bltn (v := .ty "list") (by rfl) T.z_list (by decide +kernel) rfl) (pa_cons (pe_bltn (v := .ty "tuple") (by rfl) T.z_tuple (by decide +kernel) rfl) pa_nil))) pa_nil))) (pe_one (pe_callB (cr_all rfl) (by rfl) T.z_all (by decide +kernel) (pa_cons (pe_lc (own := [("one", 1)]) (g := gName 1) (by rfl) sc_are_rows.nd (pi_lt (pv 0)) (blkOk_by (own := [("one", 1)]) (N := N_are_rows) (sc := defScope s_are_rows) (by decide +kernel)) (fun _ _ _ _ _ => (pg_name (i := 1) sc_are_rows.nd rfl (by first | exact .inl rfl | exact .inr rfl))) (fun _ _ _ _ _ => pts_nil) (fun _ _ _ _ _ => (pe_callB (call_isiK (K := K)) (by rfl) T.z_isinstance (by decide +kernel) (pa_cons (pv 1) (pa_cons (pe_glob (v := .ref a_Row) (by rfl) T.g_Row rfl) pa_nil))))) pa_nil)))))), ?_⟩
  walk_at "st"
  walk_at "vc"
  refine ⟨sz_le (by simp), fun p1 h1 => ?_⟩
  have e1 := Ex.new h1 (o := .tup [.ty "list", .ty "tuple"])
  have w1 : upd H p1 (.tup [.ty "list", .ty "tuple"]) p1 = some (.tup [.ty "list", .ty "tuple"]) := upd_same
  generalize upd H p1 (.tup [.ty "list", .ty "tuple"]) = H1 at *
  rcases hv0 with ⟨m, bad, hm, rfl⟩ | ⟨a, rfl, rfl, hK⟩
  rotate_left
  · refine ⟨_, p1, _, .type "tuple", _, true, rfl, w1, .cons (.ty _) (.cons (.ty _) .nil), kTup hK H1, ?_, _, rfl, ?_⟩
    · exact kitAny_cons (b := false) (kit_ty kb11) (fun _ => kitAny_cons (b := true) (kit_ty kb12) (fun z => by cases z) (fun _ => rfl)) (fun z => by cases z)
    rw [if_pos rfl]
    refine ⟨_, rfl, a, rfl, .inr ⟨⟨_, hK H1⟩, fun D hD => lc_it (walk_tup (xs := [])) (C_zf [] D H1) ⟨upd_same, Ex.new hD⟩ (fun i H' _ hP => hK _) (fun i v H2 H' hi hP y => by simp at hi) (fun H' hP => hP.fin (Nat.zero_le _) fun H5 e5 => q _ (e1.trans e5))⟩⟩
  have hm1 := hm.ex e1
  refine hm1.isi_lt (kt_of T) w1 ⟨_, rfl, ite2 (fun hs => ?_) (fun hs => ?_)⟩
  · obtain ⟨l, ms, rfl⟩ : ∃ l ms, m = .seq l ms := by
      cases m <;> first | exact ⟨_, _, rfl⟩ | (exact absurd hs (by simp [AM.is]))
    unfold AO at hm1
    obtain ⟨a, vs, rfl, _, ho, hl, hs2⟩ := hm1
    have body : ∀ (i : Nat) (v : V) (D : Addr) (H2 : Hp), H1 D = none → vs[i]? = some v → C_zf (ms.map AM.isR) D H1 i H2 → rIsi K [v, .ref a_Row] H2 fun y H4 => ∃ acc, H4 D = some (.lst acc) ∧ acc.length < sizeLine ∧ C_zf (ms.map AM.isR) D H1 (i + 1) (upd H4 D (.lst (acc ++ [y]))) := by
      intro i v D H2 hD hv hP
      obtain ⟨r, hr0, hr1⟩ := hs2.at_ hv
      refine (hr1.ex hP.2).isi_row (kt_of T) (C_zf.next hP (by rw [List.length_map, ← hs2.len]; omega) (by rw [List.getElem?_map, hr0]; rfl) (Ex.refl _) hD)
    have fin : ∀ (D : Addr) (H2 : Hp), C_zf (ms.map AM.isR) D H1 vs.length H2 → rAll K [.ref D] H2 Q := fun D H2 hP => hP.fin (by rw [List.length_map, ← hs2.len]; omega) fun H5 e5 => q _ (e1.trans e5)
    cases l with
    | true =>
      refine ⟨_, rfl, a, rfl, .inl ⟨⟨_, sq_of ho⟩, fun D hD => lc_it (walk_list (xs := vs)) (C_zf _ D H1) ⟨upd_same, Ex.new hD⟩ (fun i H' _ hP => hP.2.sql (sq_of ho)) (fun i v H2 H' hi hP y => ?_) (fun H' hP => fin D H' hP)⟩⟩
      obtain ⟨rfl, hv⟩ := y
      walk_at "vc"
      exact body i v D _ hD hv hP
    | false =>
      refine ⟨_, rfl, a, rfl, .inr ⟨⟨_, st_of ho⟩, fun D hD => lc_it (walk_tup (xs := vs)) (C_zf _ D H1) ⟨upd_same, Ex.new hD⟩ (fun i H' _ hP => hP.2.sqt (st_of ho)) (fun i v H2 H' hi hP y => ?_) (fun H' hP => fin D H' hP)⟩⟩
      obtain ⟨rfl, hv⟩ := y
      walk_at "vc"
      exact body i v D _ hD hv hP
  · have e : m.rows = false := by
      cases m <;> first | rfl | skip
      rename_i l ms
      exact absurd (by cases l <;> simp [AM.is]) hs
    rw [e] at q
    exact q _ e1
end
end My
set_option Elab.async false
set_option linter.all false
set_option maxRecDepth 100000
set_option maxHeartbeats 4000000
set_option exponentiation.threshold 5000
namespace My
open PySem PySem.Spec PyProof.Rows L2 Evl
local macro_rules | `(tactic| walk_at "st") => `(tactic| simp only [L2.start, List.map_cons, List.map_nil, List.length_cons, List.length_nil, Nat.reduceAdd, Nat.reduceSub, List.replicate_succ, List.replicate_zero, List.cons_append, List.nil_append, cxOf, List.append_nil])
local macro_rules | `(tactic| walk_at "vc") => `(tactic| try simp only [tSeq, tAsg, tOp, tUn, tVar, tC, tNil, tCons, gName, rI, rI0, rU, tRet, tIfS, tNot, tAnd, tOr, tB, tTest, tCB, tCall, tAndV, tOrV, tNotV, tNext, tNever, tIf, tChain, tYes, tPart, tNoPart, tPar, tDrop, q_isi, q_vn, q_vb, q_vi, q_vs, kb1, kb2, kb3, kb4, kb5, kb6, kb7, kb8, q_int1, q_int2, q_min, q_max, q_repr, tLst, tTup, rEq, rNe, q_sii, q_sss, q_sbb, q_snn, q_sns, q_ssn, q_ix, q_sl, tSl, tBM, tBM0, q_app, q_pop, gSub, rSetL, L2.wipe, eq_self, decide_true, decide_false, tRevL,
  List.getElem?_cons_succ, List.getElem?_cons_zero, List.set_cons_succ, List.set_cons_zero, Option.some.injEq, exists_eq_left', exists_eq_left, V.int.injEq, V.bl.injEq, V.ref.injEq, V.str.injEq, List.cons.injEq, and_true, true_and, List.append_nil, List.nil_append, List.cons_append, exists_and_left, and_assoc, if_true, if_false, Bool.not_true, Bool.not_false, Bool.false_eq_true, Bool.true_eq_false, reduceIte, tRevL, tPar3, tRevT, tUnl, tCKw, forall_const, Bool.not_eq_true', decide_eq_true_eq, decide_eq_false_iff_not])
section
variable {P : Program} {w : World} {K : PySem.W.Frag} {mg : Str → Option Value} {base : Heap}
variable {a_is_integer a_is_number a_is_name a_are_rows a_needed a_fits a_is_of a_law_deal a_law_draw a_law_pick a_law_words a_law_kinds a_law_put a_law_any a_law_is_name a_law_is_number a_law_are_rows a_law_put_due a_law_ask_due a_law_made a_law_due a_law_told a_law_is_beyond a_law a_Put_init a_If_init a_Times_init a_Ask_init a_Not_init a_InvalidRow_init a_InvalidRow a_FigureError a_InvalidText a_Put a_If a_Times a_Stop a_Ask a_Not a_Row a_Test a_DEEDS a_WORDS a_If_init_d0 : Addr} {d_is_integer d_is_number d_is_name d_are_rows d_needed d_fits d_is_of d_law_deal d_law_draw d_law_pick d_law_words d_law_kinds d_law_put d_law_any d_law_is_name d_law_is_number d_law_are_rows d_law_put_due d_law_ask_due d_law_made d_law_due d_law_told d_law_is_beyond d_law d_Put_init d_If_init d_Times_init d_Ask_init d_Not_init d_InvalidRow_init : FuncData}
/-! ### the rows and tests, made or refused -/
theorem ok_InvalidRow_init (T : Txt w K mg a_is_integer a_is_number a_is_name a_are_rows a_needed a_fits a_is_of a_law_deal a_law_draw a_law_pick a_law_words a_law_kinds a_law_put a_law_any a_law_is_name a_law_is_number a_law_are_rows a_law_put_due a_law_ask_due a_law_made a_law_due a_law_told a_law_is_beyond a_law a_Put_init a_If_init a_Times_init a_Ask_init a_Not_init a_InvalidRow_init a_InvalidRow a_FigureError a_InvalidText a_Put a_If a_Times a_Stop a_Ask a_Not a_Row a_Test a_DEEDS a_WORDS a_If_init_d0 d_is_integer d_is_number d_is_name d_are_rows d_needed d_fits d_is_of d_law_deal d_law_draw d_law_pick d_law_words d_law_kinds d_law_put d_law_any d_law_is_name d_law_is_number d_law_are_rows d_law_put_due d_law_ask_due d_law_made d_law_due d_law_told d_law_is_beyond d_law d_Put_init d_If_init d_Times_init d_Ask_init d_Not_init d_InvalidRow_init) : FnOk P w K mg base CX0 1 a_InvalidRow_init d_InvalidRow_init ["self", "word"] (spInit K "word") := by
  refine T.F_InvalidRow_init.ok sc_InvalidRow_init (fun vs H Q E h => ?_) (fun cdv A outer s H vs Q E hr h => ?_)
  · unfold spInit at h; split at h; rfl; exact h.elim
  unfold spInit at h; split at h
  case h_2 => exact h.elim
  rename_i a v
  obtain ⟨C, h1, h2, h3, q⟩ := h
  refine ⟨_, (pss_one (ps_ost (pv 0) (pv 1))), ?_⟩
  walk_at "st"
  walk_at "vc"
  exact ⟨_, rfl, _, rfl, a, C, rfl, h1, h2, .inl ⟨h3, q⟩⟩
/-- all but what stands at a is as it was -/
def Off (a : Addr) (H H1 : Hp) : Prop := ∀ b o, b ≠ a → H b = some o → H1 b = some o
theorem Off.upd {a : Addr} {H H1 : Hp} {o : HO} (e : Ex H H1) : Off a H (L2.upd H1 a o) := fun b u n h => by rw [upd_ne n]; exact e _ _ h
theorem Off.set {a : Addr} {H H1 : Hp} {o : HO} (e : Off a H H1) : Off a H (L2.upd H1 a o) := fun b u n h => by rw [upd_ne n]; exact e b u n h
theorem Off.tex {a : Addr} {H H1 H2 : Hp} (e : Off a H H1) (f : Ex H1 H2) : Off a H H2 := fun b u n h => f _ _ (e b u n h)
/-- what comes of a call: it goes on, or the error is told -/
def Res (CE : Addr) (E : XK) (H : Hp) (due : Option Str) (ok : Prop) : Prop := match due with
  | none => ok
  | some wd => ∀ H' d, Ex H H' → H' d = none → E (.ref CE) (some d) (L2.upd H' d (.xd [("word", .str wd)]))
theorem toldW (T : Txt w K mg a_is_integer a_is_number a_is_name a_are_rows a_needed a_fits a_is_of a_law_deal a_law_draw a_law_pick a_law_words a_law_kinds a_law_put a_law_any a_law_is_name a_law_is_number a_law_are_rows a_law_put_due a_law_ask_due a_law_made a_law_due a_law_told a_law_is_beyond a_law a_Put_init a_If_init a_Times_init a_Ask_init a_Not_init a_InvalidRow_init a_InvalidRow a_FigureError a_InvalidText a_Put a_If a_Times a_Stop a_Ask a_Not a_Row a_Test a_DEEDS a_WORDS a_If_init_d0 d_is_integer d_is_number d_is_name d_are_rows d_needed d_fits d_is_of d_law_deal d_law_draw d_law_pick d_law_words d_law_kinds d_law_put d_law_any d_law_is_name d_law_is_number d_law_are_rows d_law_put_due d_law_ask_due d_law_made d_law_due d_law_told d_law_is_beyond d_law d_Put_init d_If_init d_Times_init d_Ask_init d_Not_init d_InvalidRow_init) {E : XK} {H H1 : Hp} {wd : Str} {ok : Prop} (e : Ex H H1) (h : Res a_InvalidRow E H (some wd) ok) : [V.str wd].length ≤ 1000 ∧ ∀ a, H1 a = none → spInit K "word" (.ref a :: ([V.str wd] ++ [])) (L2.upd H1 a (exo a a_InvalidRow none))
    (fun u H2 => u = .non ∧ ∃ (d : Addr) (fs : List (Str × V)), H2 a = some (exo a a_InvalidRow (some d)) ∧ H2 d = some (exd d fs) ∧ H1 d = none ∧ E (.ref a_InvalidRow) (some d) (L2.upd (del H2 a) d (.xd fs))) (fun _ _ _ => False) :=
  mkErr T.E_InvalidRow.oex T.E_InvalidRow.noF fun d hd => h H1 d e hd
def putDue (mn md : AM) (ms : List AM) : Option Str := if mn.nm = true then (match md with
    | .str d => (match deedTab.lookup d with
      | none => some "deed"
      | some ks0 => if fitsM (kindsA ks0 d ms.length) ms = true then none else some "given")
    | _ => some "deed") else some "name"
def sp_Put_init (K : PySem.W.Frag) (A : ClsA) (CE : Addr) : Sp
  | [.ref a, n, d, .ref q], H, Q, E => ∃ dx bad mn md g ms, H a = some (.ins A.put dx []) ∧ AO A bad H mn n ∧ AO A bad H md d ∧ SqT K H q g ∧ AOs A bad H ms g ∧ g.length ≤ 1000 ∧
      Res CE E H (putDue mn md ms) (∀ H1 fs, Off a H H1 → H1 a = some (.ins A.put dx fs) → Q .non H1)
  | _, _, _, _ => False
def bs_Put_init : Prop := ∀ (kV doc pm : Value) (an : Option Addr) (cdv ct : Value) (us rest : List Value), us.length = ["self", "name", "deed"].length → bindArgs (PySem.W.fnOf "__init__" "Put.__init__" (defArgs s_Put_init) (defBody s_Put_init) (defScope s_Put_init) .none kV doc pm an cdv ct) ⟨us ++ rest, []⟩ = (newTuple rest >>= fun t => pure ((["self", "name", "deed"] : List Str).zip us ++ [(("given" : Str), t)]))
theorem bd_Put_init : bs_Put_init := fun kV doc pm an cdv ct us rest h => by
  match us, rest, h with
  | [a, b, c], [], _ => rfl
  | [a, b, c], r :: rs, _ => rfl
theorem ok_Put_init (T : Txt w K mg a_is_integer a_is_number a_is_name a_are_rows a_needed a_fits a_is_of a_law_deal a_law_draw a_law_pick a_law_words a_law_kinds a_law_put a_law_any a_law_is_name a_law_is_number a_law_are_rows a_law_put_due a_law_ask_due a_law_made a_law_due a_law_told a_law_is_beyond a_law a_Put_init a_If_init a_Times_init a_Ask_init a_Not_init a_InvalidRow_init a_InvalidRow a_FigureError a_InvalidText a_Put a_If a_Times a_Stop a_Ask a_Not a_Row a_Test a_DEEDS a_WORDS a_If_init_d0 d_is_integer d_is_number d_is_name d_are_rows d_needed d_fits d_is_of d_law_deal d_law_draw d_law_pick d_law_words d_law_kinds d_law_put d_law_any d_law_is_name d_law_is_number d_law_are_rows d_law_put_due d_law_ask_due d_law_made d_law_due d_law_told d_law_is_beyond d_law d_Put_init d_If_init d_Times_init d_Ask_init d_Not_init d_InvalidRow_init) : FnR P w K mg base (L2.CX P w) 6 a_Put_init (fun vs H Q E => ∃ ws rest, vs = ws ++ rest ∧ ws.length = 3 ∧ rest.length ≤ sizeLine ∧ ∀ p, H p = none → sp_Put_init K ⟨a_Put, a_If, a_Times, a_Stop, a_Ask, a_Not⟩ a_InvalidRow (ws ++ [V.ref p]) (L2.upd H p (.tup rest)) Q E) := by
  have G_InvalidRow_init := ok_InvalidRow_init (P := P) (w := w) (base := base) T
  have G_is_name := ok_is_name (P := P) (w := w) (base := base) T
  have G_fits := ok_fits (P := P) (w := w) (base := base) T
  obtain ⟨oc, od, kV, doc, pm, an, cdv, ct, osl, hfd, lk, hcd⟩ := T.F_Put_init.ex
  rw [hfd] at lk
  refine StX.fn_star (ps := ["self", "name", "deed"]) (pv := "given") lk hcd sc_Put_init StX.cxUp (bd_Put_init kV doc pm an cdv ct) fun A outer s H vs Q E hr h => ?_
  unfold sp_Put_init at h; split at h
  case h_2 => exact h.elim
  rename_i a n d q0
  obtain ⟨dx, bad, mn, md, g, ms, h1, h2, h3, h4, h5, h6, q⟩ := h
  refine ⟨_, (pss_cons (ps_if (pt_not (pt_val (pe_call G_is_name (hr.mono (by decide)) (by rfl) T.g_is_name T.F_is_name.kp T.b_is_name .nil pass0 (pa_cons (pv 1) pa_nil))))
      (pss_one (ps_raise rfl (takes_of rfl rfl rfl rfl) (pmk_oex T.E_InvalidRow.oex T.E_InvalidRow.iC T.E_InvalidRow.tI G_InvalidRow_init (hr.mono (by decide)) T.b_InvalidRow_init .nil pass0 (by rfl) T.E_InvalidRow.g (pa_cons pe_str pa_nil))))
      pss_nil)
      (pss_cons (ps_if (PW.pt (pw_or (pt_not (pt_val (pe_callB (call_isiK (K := K)) (by rfl) T.z_isinstance (by decide +kernel) (pa_cons (pv 2) (pa_cons (pe_bltn (v := .ty "str") (by rfl) T.z_str (by decide +kernel) rfl) pa_nil))))) (pw_or1 (pt_cmpR (op_notIn_kdE T.D_DEEDS) (pv 2) (pe_globE (by rfl) T.g_DEEDS) (by rfl)))))
      (pss_one (ps_raise rfl (takes_of rfl rfl rfl rfl) (pmk_oex T.E_InvalidRow.oex T.E_InvalidRow.iC T.E_InvalidRow.tI G_InvalidRow_init (hr.mono (by decide)) T.b_InvalidRow_init .nil pass0 (by rfl) T.E_InvalidRow.g (pa_cons pe_str pa_nil))))
      pss_nil)
      (pss_cons (ps_if (pt_not (pt_val (pe_call G_fits (hr.mono (by decide)) (by rfl) T.g_fits T.F_fits.kp T.b_fits .nil pass0 (pa_cons (pv 2) (pa_cons (pv 3) pa_nil)))))
      (pss_one (ps_raise rfl (takes_of rfl rfl rfl rfl) (pmk_oex T.E_InvalidRow.oex T.E_InvalidRow.iC T.E_InvalidRow.tI G_InvalidRow_init (hr.mono (by decide)) T.b_InvalidRow_init .nil pass0 (by rfl) T.E_InvalidRow.g (pa_cons pe_str pa_nil))))
      pss_nil)
      (pss_cons (ps_fld (pv 0) (pv 1) (by rfl))
      (pss_cons (ps_fld (pv 0) (pv 2) (by rfl))
      (pss_one (ps_fld (pv 0) (pv 3) (by rfl)))))))), ?_⟩
  walk_at "st"
  walk_at "vc"
  refine ⟨mn, bad, h2, fun H1 e1 => ⟨_, rfl, ?_⟩⟩
  unfold putDue at q
  refine ite2 (fun hb => ?_) (fun hb => ?_)
  · rw [if_neg (by rw [hb]; decide)] at q
    exact toldW T e1 q
  rw [if_pos (by simpa using hb)] at q
  have h3' := h3.ex e1
  refine h3'.isi (kt_of T) (by simp [askTs]) ⟨_, rfl, ite2 (fun hs => ?_) (fun hs => ?_)⟩
  · have q2 : Res a_InvalidRow E H (some "deed") True := by
      cases md <;> first | exact q | (exact absurd hs (by simp [AM.is]))
    exact toldW T e1 q2
  obtain ⟨x, rfl⟩ := AM.str_of (by simpa using hs)
  unfold AO at h3'
  obtain ⟨rfl, hxl⟩ := h3'
  dsimp only at q
  cases hk : deedTab.lookup x with
  | none =>
    rw [hk] at q
    refine ⟨x, rfl, none, deedNo T hk, ?_⟩
    rw [if_pos (by rfl)]
    exact toldW T e1 q
  | some ks0 =>
    rw [hk] at q
    dsimp only at q
    obtain ⟨t, ht, _⟩ := deedAt T _ (lookup_mem hk)
    refine ⟨x, rfl, _, ht, ?_⟩
    rw [if_neg (by simp)]
    refine ⟨g, ms, bad, ks0, e1.sqt h4, h5.ex e1, h6, hk, fun H2 e2 => ⟨_, rfl, ite2 (fun hf => ?_) (fun hf => ?_)⟩⟩
    · rw [if_neg (by rw [hf]; decide)] at q
      exact toldW T (e1.trans e2) q
    rw [if_pos (by simpa using hf)] at q
    have e12 := e1.trans e2
    refine ⟨_, rfl, _, rfl, a, a_Put, dx, [], rfl, e12 _ _ h1, T.oc_Put.cl, T.nF_Put_name, (show (0 : Nat) < 1000 by decide), ?_⟩
    refine ⟨_, rfl, _, rfl, a, a_Put, dx, _, rfl, upd_same, T.oc_Put.cl, T.nF_Put_deed, (show (1 : Nat) < 1000 by decide), ?_⟩
    refine ⟨_, rfl, _, rfl, a, a_Put, dx, _, rfl, upd_same, T.oc_Put.cl, T.nF_Put_given, (show (2 : Nat) < 1000 by decide), ?_⟩
    rw [upd_upd, upd_upd]
    exact q _ _ (Off.upd e12) upd_same
def wordTab : List (Str × Nat) := [("same", 2), ("less", 2), ("divides", 2), ("mirrored", 1), ("unlike", 1)]
theorem wordAt (T : Txt w K mg a_is_integer a_is_number a_is_name a_are_rows a_needed a_fits a_is_of a_law_deal a_law_draw a_law_pick a_law_words a_law_kinds a_law_put a_law_any a_law_is_name a_law_is_number a_law_are_rows a_law_put_due a_law_ask_due a_law_made a_law_due a_law_told a_law_is_beyond a_law a_Put_init a_If_init a_Times_init a_Ask_init a_Not_init a_InvalidRow_init a_InvalidRow a_FigureError a_InvalidText a_Put a_If a_Times a_Stop a_Ask a_Not a_Row a_Test a_DEEDS a_WORDS a_If_init_d0 d_is_integer d_is_number d_is_name d_are_rows d_needed d_fits d_is_of d_law_deal d_law_draw d_law_pick d_law_words d_law_kinds d_law_put d_law_any d_law_is_name d_law_is_number d_law_are_rows d_law_put_due d_law_ask_due d_law_made d_law_due d_law_told d_law_is_beyond d_law d_Put_init d_If_init d_Times_init d_Ask_init d_Not_init d_InvalidRow_init) : ∀ p ∈ wordTab, ∃ t, PySem.W.nsIn K a_WORDS p.1 = some (some (.int (p.2 : Int) t)) := by
  intro p hp
  simp only [wordTab, List.mem_cons, List.not_mem_nil, or_false] at hp
  rcases hp with rfl | rfl | rfl | rfl | rfl
  · exact T.I_WORDS_0
  · exact T.I_WORDS_1
  · exact T.I_WORDS_2
  · exact T.I_WORDS_3
  · exact T.I_WORDS_4
theorem wordNo (T : Txt w K mg a_is_integer a_is_number a_is_name a_are_rows a_needed a_fits a_is_of a_law_deal a_law_draw a_law_pick a_law_words a_law_kinds a_law_put a_law_any a_law_is_name a_law_is_number a_law_are_rows a_law_put_due a_law_ask_due a_law_made a_law_due a_law_told a_law_is_beyond a_law a_Put_init a_If_init a_Times_init a_Ask_init a_Not_init a_InvalidRow_init a_InvalidRow a_FigureError a_InvalidText a_Put a_If a_Times a_Stop a_Ask a_Not a_Row a_Test a_DEEDS a_WORDS a_If_init_d0 d_is_integer d_is_number d_is_name d_are_rows d_needed d_fits d_is_of d_law_deal d_law_draw d_law_pick d_law_words d_law_kinds d_law_put d_law_any d_law_is_name d_law_is_number d_law_are_rows d_law_put_due d_law_ask_due d_law_made d_law_due d_law_told d_law_is_beyond d_law d_Put_init d_If_init d_Times_init d_Ask_init d_Not_init d_InvalidRow_init) {d : Str} (h : wordTab.lookup d = none) : PySem.W.nsIn K a_WORDS d = some none :=
  nsIn_none T.W_WORDS (lookup_not h)
def askDue (mw : AM) (ms : List AM) : Option Str := match mw with
  | .str x => (match wordTab.lookup x with
    | none => some "word"
    | some n => if ms.length = n ∧ (ms.map AM.nm).all id = true then none else some "names")
  | _ => some "word"
def sp_Ask_init (K : PySem.W.Frag) (A : ClsA) (CE : Addr) : Sp
  | [.ref a, x, .ref q], H, Q, E => ∃ dx bad mw g ms, H a = some (.ins A.ask dx []) ∧ AO A bad H mw x ∧ SqT K H q g ∧ AOs A bad H ms g ∧ g.length ≤ 900 ∧ Res CE E H (askDue mw ms) (∀ H1 fs, Off a H H1 → H1 a = some (.ins A.ask dx fs) → Q .non H1)
  | _, _, _, _ => False
def bs_Ask_init : Prop := ∀ (kV doc pm : Value) (an : Option Addr) (cdv ct : Value) (us rest : List Value), us.length = ["self", "word"].length → bindArgs (PySem.W.fnOf "__init__" "Ask.__init__" (defArgs s_Ask_init) (defBody s_Ask_init) (defScope s_Ask_init) .none kV doc pm an cdv ct) ⟨us ++ rest, []⟩ = (newTuple rest >>= fun t => pure ((["self", "word"] : List Str).zip us ++ [(("names" : Str), t)]))
theorem bd_Ask_init : bs_Ask_init := fun kV doc pm an cdv ct us rest h => by
  match us, rest, h with
  | [a, b], [], _ => rfl
  | [a, b], r :: rs, _ => rfl
theorem ok_Ask_init (T : Txt w K mg a_is_integer a_is_number a_is_name a_are_rows a_needed a_fits a_is_of a_law_deal a_law_draw a_law_pick a_law_words a_law_kinds a_law_put a_law_any a_law_is_name a_law_is_number a_law_are_rows a_law_put_due a_law_ask_due a_law_made a_law_due a_law_told a_law_is_beyond a_law a_Put_init a_If_init a_Times_init a_Ask_init a_Not_init a_InvalidRow_init a_InvalidRow a_FigureError a_InvalidText a_Put a_If a_Times a_Stop a_Ask a_Not a_Row a_Test a_DEEDS a_WORDS a_If_init_d0 d_is_integer d_is_number d_is_name d_are_rows d_needed d_fits d_is_of d_law_deal d_law_draw d_law_pick d_law_words d_law_kinds d_law_put d_law_any d_law_is_name d_law_is_number d_law_are_rows d_law_put_due d_law_ask_due d_law_made d_law_due d_law_told d_law_is_beyond d_law d_Put_init d_If_init d_Times_init d_Ask_init d_Not_init d_InvalidRow_init) : FnR P w K mg base (L2.CX P w) 3 a_Ask_init (fun vs H Q E => ∃ ws rest, vs = ws ++ rest ∧ ws.length = 2 ∧ rest.length ≤ sizeLine ∧ ∀ p, H p = none → sp_Ask_init K ⟨a_Put, a_If, a_Times, a_Stop, a_Ask, a_Not⟩ a_InvalidRow (ws ++ [V.ref p]) (L2.upd H p (.tup rest)) Q E) := by
  have G_InvalidRow_init := ok_InvalidRow_init (P := P) (w := w) (base := base) T
  have G_is_name := ok_is_name (P := P) (w := w) (base := base) T
  obtain ⟨oc, od, kV, doc, pm, an, cdv, ct, osl, hfd, lk, hcd⟩ := T.F_Ask_init.ex
  rw [hfd] at lk
  refine StX.fn_star (ps := ["self", "word"]) (pv := "names") lk hcd sc_Ask_init StX.cxUp (bd_Ask_init kV doc pm an cdv ct) fun A outer s H vs Q E hr h => ?_
  unfold sp_Ask_init at h; split at h
  case h_2 => exact h.elim
  rename_i a x q0
  obtain ⟨dx, bad, mw, g, ms, h1, h2, h3, h4, h5, q⟩ := h
  refine ⟨_, (pss_cons (ps_if (PW.pt (pw_or (pt_not (pt_val (pe_callB (call_isiK (K := K)) (by rfl) T.z_isinstance (by decide +kernel) (pa_cons (pv 1) (pa_cons (pe_bltn (v := .ty "str") (by rfl) T.z_str (by decide +kernel) rfl) pa_nil))))) (pw_or1 (pt_cmpR (op_notIn_kdE T.D_WORDS) (pv 1) (pe_globE (by rfl) T.g_WORDS) (by rfl)))))
      (pss_one (ps_raise rfl (takes_of rfl rfl rfl rfl) (pmk_oex T.E_InvalidRow.oex T.E_InvalidRow.iC T.E_InvalidRow.tI G_InvalidRow_init (hr.mono (by decide)) T.b_InvalidRow_init .nil pass0 (by rfl) T.E_InvalidRow.g (pa_cons pe_str pa_nil))))
      pss_nil)
      (pss_cons (ps_if (PW.pt (pw_or (pt_cmpR op_ne (pe_callB call_len_seq (by rfl) T.z_len (by decide +kernel) (pa_cons (pv 2) pa_nil)) (pe_ixDX rfl takes0 (pe_globE (by rfl) T.g_WORDS) (pv 1) (fun _ _ => rfl)) (nomark _)) (pw_or1 (pt_not (pt_val (pe_callB (cr_all rfl) (by rfl) T.z_all (by decide +kernel) (pa_cons (pe_lc (own := [("one", 3)]) (g := gName 3) (by rfl) sc_Ask_init.nd (pi_tup (pv 2)) (blkOk_by (own := [("one", 3)]) (N := N_Ask_init) (sc := defScope s_Ask_init) (by decide +kernel)) (fun _ _ _ _ _ => (pg_name (i := 3) sc_Ask_init.nd rfl (by first | exact .inl rfl | exact .inr rfl))) (fun _ _ _ _ _ => pts_nil) (fun _ _ _ _ _ => (pe_call G_is_name (hr.mono (by decide)) (by rfl) T.g_is_name T.F_is_name.kp T.b_is_name .nil pass0 (pa_cons (pv 3) pa_nil)))) pa_nil)))))))
      (pss_one (ps_raise rfl (takes_of rfl rfl rfl rfl) (pmk_oex T.E_InvalidRow.oex T.E_InvalidRow.iC T.E_InvalidRow.tI G_InvalidRow_init (hr.mono (by decide)) T.b_InvalidRow_init .nil pass0 (by rfl) T.E_InvalidRow.g (pa_cons pe_str pa_nil))))
      pss_nil)
      (pss_cons (ps_fld (pv 0) (pv 1) (by rfl))
      (pss_one (ps_fld (pv 0) (pv 2) (by rfl)))))), ?_⟩
  walk_at "st"
  walk_at "vc"
  obtain ⟨es, n, D⟩ := T.D_WORDS
  refine h2.isi (kt_of T) (by simp [askTs]) ⟨_, rfl, ite2 (fun hs => ?_) (fun hs => ?_)⟩
  · have q2 : Res a_InvalidRow E H (some "word") True := by
      unfold askDue at q
      cases mw <;> first | exact q | (exact absurd hs (by simp [AM.is]))
    exact toldW T (Ex.refl _) q2
  obtain ⟨x, rfl⟩ := AM.str_of (by simpa using hs)
  unfold AO at h2
  obtain ⟨rfl, hxl⟩ := h2
  unfold askDue at q
  dsimp only at q
  cases hk : wordTab.lookup x with
  | none =>
    rw [hk] at q
    refine ⟨x, rfl, none, wordNo T hk, ?_⟩
    rw [if_pos (by rfl)]
    exact toldW T (Ex.refl _) q
  | some nn =>
    rw [hk] at q
    dsimp only at q
    obtain ⟨t, ht⟩ := wordAt T _ (lookup_mem hk)
    have hlen := h4.len
    refine ⟨x, rfl, _, ht, ?_⟩
    rw [if_neg (by simp)]
    refine ⟨_, .inr h3, _, rfl, a_WORDS, x, rfl, rfl, .inl ⟨.int (nn : Nat), ⟨es, n, .int (nn : Nat) t, D.at_, D.lit, ht, ⟨t, rfl⟩⟩, rfl, ite2 (fun hne => ?_) (fun he => ?_)⟩⟩
    · have hne2 : ¬ ms.length = nn := fun z => hne (by rw [hlen, z])
      rw [if_neg (fun z => hne2 z.1)] at q
      exact toldW T (Ex.refl _) q
    have he2 : ms.length = nn := by
      have := V.int.inj (Decidable.not_not.mp he)
      omega
    refine ⟨_, rfl, q0, rfl, ⟨_, h3⟩, fun D0 hD => lc_it (walk_tup (xs := g)) (C_zf (ms.map AM.nm) D0 H) ⟨upd_same, Ex.new hD⟩ (fun i H' _ hP => hP.2.sqt h3) (fun i v H2 H' hi hP y => ?_) (fun H' hP => hP.fin (by rw [List.length_map]; omega) fun H5 e5 => ⟨_, rfl, ite2 (fun hf => ?_) (fun hf => ?_)⟩)⟩
    · obtain ⟨rfl, hv⟩ := y
      obtain ⟨m, hm1, hm2⟩ := h4.at_ hv
      walk_at "vc"
      refine ⟨m, bad, hm2.ex hP.2, fun H4 e4 => ?_⟩
      exact C_zf.next hP (by rw [List.length_map]; omega) (by rw [List.getElem?_map, hm1]; rfl) e4 hD
    · rw [if_neg (by rw [hf]; simp)] at q
      exact toldW T e5 q
    rw [if_pos ⟨he2, by simpa using hf⟩] at q
    refine ⟨_, rfl, _, rfl, a, a_Ask, dx, [], rfl, e5 _ _ h1, T.oc_Ask.cl, T.nF_Ask_word, (show (0 : Nat) < 1000 by decide), ?_⟩
    refine ⟨_, rfl, _, rfl, a, a_Ask, dx, _, rfl, upd_same, T.oc_Ask.cl, T.nF_Ask_names, (show (1 : Nat) < 1000 by decide), ?_⟩
    rw [upd_upd]
    exact q _ _ (Off.upd e5) upd_same
def sp_Not_init (K : PySem.W.Frag) (A : ClsA) (CE : Addr) : Sp
  | [.ref a, u], H, Q, E => ∃ dx bad m, H a = some (.ins A.not dx []) ∧ AO A bad H m u ∧ Res CE E H (if m.isT = true then none else some "test") (∀ H1 fs, Off a H H1 → H1 a = some (.ins A.not dx fs) → Q .non H1)
  | _, _, _, _ => False
theorem ok_Not_init0 (T : Txt w K mg a_is_integer a_is_number a_is_name a_are_rows a_needed a_fits a_is_of a_law_deal a_law_draw a_law_pick a_law_words a_law_kinds a_law_put a_law_any a_law_is_name a_law_is_number a_law_are_rows a_law_put_due a_law_ask_due a_law_made a_law_due a_law_told a_law_is_beyond a_law a_Put_init a_If_init a_Times_init a_Ask_init a_Not_init a_InvalidRow_init a_InvalidRow a_FigureError a_InvalidText a_Put a_If a_Times a_Stop a_Ask a_Not a_Row a_Test a_DEEDS a_WORDS a_If_init_d0 d_is_integer d_is_number d_is_name d_are_rows d_needed d_fits d_is_of d_law_deal d_law_draw d_law_pick d_law_words d_law_kinds d_law_put d_law_any d_law_is_name d_law_is_number d_law_are_rows d_law_put_due d_law_ask_due d_law_made d_law_due d_law_told d_law_is_beyond d_law d_Put_init d_If_init d_Times_init d_Ask_init d_Not_init d_InvalidRow_init) : FnOk P w K mg base (L2.CX P w) 3 a_Not_init d_Not_init ["self", "test"] (sp_Not_init K ⟨a_Put, a_If, a_Times, a_Stop, a_Ask, a_Not⟩ a_InvalidRow) := by
  have G_InvalidRow_init := ok_InvalidRow_init (P := P) (w := w) (base := base) T
  refine T.F_Not_init.okX sc_Not_init (fun vs H Q E h => ?_) (fun cdv A outer s H vs Q E hr h => ?_)
  · unfold sp_Not_init at h; split at h; rfl; exact h.elim
  unfold sp_Not_init at h; split at h
  case h_2 => exact h.elim
  rename_i a u
  obtain ⟨dx, bad, m, h1, h2, q⟩ := h
  refine ⟨_, (pss_cons (ps_if (pt_not (pt_val (pe_callB (call_isiK (K := K)) (by rfl) T.z_isinstance (by decide +kernel) (pa_cons (pv 1) (pa_cons (pe_glob (v := .ref a_Test) (by rfl) T.g_Test rfl) pa_nil)))))
      (pss_one (ps_raise rfl (takes_of rfl rfl rfl rfl) (pmk_oex T.E_InvalidRow.oex T.E_InvalidRow.iC T.E_InvalidRow.tI G_InvalidRow_init (hr.mono (by decide)) T.b_InvalidRow_init .nil pass0 (by rfl) T.E_InvalidRow.g (pa_cons pe_str pa_nil))))
      pss_nil)
      (pss_one (ps_fld (pv 0) (pv 1) (by rfl)))), ?_⟩
  walk_at "st"
  walk_at "vc"
  refine h2.isi_test (kt_of T) ⟨_, rfl, ite2 (fun hs => ?_) (fun hs => ?_)⟩
  · rw [if_neg (by rw [hs]; decide)] at q
    exact toldW T (Ex.refl _) q
  rw [if_pos (by simpa using hs)] at q
  refine ⟨_, rfl, _, rfl, a, a_Not, dx, [], rfl, h1, T.oc_Not.cl, T.nF_Not_test, (show (0 : Nat) < 1000 by decide), q _ _ (Off.upd (Ex.refl H)) upd_same⟩
theorem ok_Not_init (T : Txt w K mg a_is_integer a_is_number a_is_name a_are_rows a_needed a_fits a_is_of a_law_deal a_law_draw a_law_pick a_law_words a_law_kinds a_law_put a_law_any a_law_is_name a_law_is_number a_law_are_rows a_law_put_due a_law_ask_due a_law_made a_law_due a_law_told a_law_is_beyond a_law a_Put_init a_If_init a_Times_init a_Ask_init a_Not_init a_InvalidRow_init a_InvalidRow a_FigureError a_InvalidText a_Put a_If a_Times a_Stop a_Ask a_Not a_Row a_Test a_DEEDS a_WORDS a_If_init_d0 d_is_integer d_is_number d_is_name d_are_rows d_needed d_fits d_is_of d_law_deal d_law_draw d_law_pick d_law_words d_law_kinds d_law_put d_law_any d_law_is_name d_law_is_number d_law_are_rows d_law_put_due d_law_ask_due d_law_made d_law_due d_law_told d_law_is_beyond d_law d_Put_init d_If_init d_Times_init d_Ask_init d_Not_init d_InvalidRow_init) : FnR P w K mg base (L2.CX P w) 3 a_Not_init (sp_Not_init K ⟨a_Put, a_If, a_Times, a_Stop, a_Ask, a_Not⟩ a_InvalidRow) :=
  ((ok_Not_init0 T).raw T.b_Not_init .nil).imp fun vs H Q E h => by rw [List.append_nil]; exact h
/-- what tuple(x) reads -/
def RdX (K : PySem.W.Frag) (H : Hp) (v : V) (vs : List V) : Prop := ∃ p, v = .ref p ∧ (H p = some (.lst vs) ∨ SqT K H p vs)
theorem RV.rd {K : PySem.W.Frag} {A : ClsA} {H : Hp} {v : V} (h : RV K A H v true) : ∃ vs, RdX K H v vs := by
  rcases h with ⟨m, bad, h, r⟩ | ⟨a, rfl, _, hK⟩
  · cases m with
    | seq l ms =>
      unfold AO at h
      obtain ⟨a, vs, rfl, _, ho, _, _⟩ := h
      cases l with
      | true => exact ⟨vs, a, rfl, .inl ho⟩
      | false => exact ⟨vs, a, rfl, .inr (st_of ho)⟩
    | _ => cases r
  · exact ⟨[], a, rfl, .inr (hK H)⟩
theorem RdX.off {K : PySem.W.Frag} {H H1 : Hp} {v : V} {vs : List V} {a C dx : Addr} {fs : List (Str × V)} (h : RdX K H v vs) (h1 : H a = some (.ins C dx fs)) (o : Off a H H1) : RdX K H1 v vs := by
  obtain ⟨p, rfl, h⟩ := h
  refine ⟨p, rfl, ?_⟩
  rcases h with h | (h | ⟨ob, h⟩) | h
  · exact .inl (o _ _ (fun e => by rw [e, h1] at h; cases h) h)
  · exact .inr (.inl (.inl (o _ _ (fun e => by rw [e, h1] at h; cases h) h)))
  · exact .inr (.inl (.inr ⟨ob, o _ _ (fun e => by rw [e, h1] at h; cases h) h⟩))
  · exact .inr (.inr h)
/-- self.f = tuple(x) -/
theorem fldX {K : PySem.W.Frag} {i : Nat} {σ : L2.St} {a C dx : Addr} {fs fs1 : List (Str × V)} {H H1 : Hp} {v : V} {vs : List V} {f : Str} {D : Ends} (h0 : σ[0]? = some (some (.ref a))) (hs : σ[i]? = some (some v)) (o : Off a H H1) (h1 : H a = some (.ins C dx fs)) (h3 : RdX K H v vs) (ha : H1 a = some (.ins C dx fs1)) (cl : Cls K C) (nf : NoAttr K C f) (hl : fs1.length < 1000)
    (q : ∀ r H2, Ex H1 H2 → D.nx σ (L2.upd H2 a (.ins C dx (putF f r fs1)))) : sFld K (tVar 0) (tCB (fun xs H Q => ∃ p, xs = [V.ref p] ∧ ∃ x, (SqL K H p x ∧ ∀ (l : Addr), H l = none → Q (V.ref l) (L2.upd H l (HO.tup x))) ∨ SqT K H p x ∧ Q (V.ref p) H) (tCons (tVar i) tNil)) f D σ H1 := by
  unfold sFld
  have h9 := h3.off h1 o
  obtain ⟨p, e9, h9⟩ := h9
  subst e9
  refine ⟨_, hs, p, rfl, vs, ?_⟩
  rcases h9 with z1 | z2
  · exact .inl ⟨sq_of z1, fun l hl2 => ⟨_, h0, a, C, dx, _, rfl, (Ex.new hl2) _ _ ha, cl, nf, hl, q _ _ (Ex.new hl2)⟩⟩
  · exact .inr ⟨z2, _, h0, a, C, dx, _, rfl, ha, cl, nf, hl, q _ _ (Ex.refl _)⟩
def sp_Times_init (K : PySem.W.Frag) (A : ClsA) (CE : Addr) : Sp
  | [.ref a, c, p], H, Q, E => ∃ dx bad m b, H a = some (.ins A.times dx []) ∧ AO A bad H m c ∧ RV K A H p b ∧ Res CE E H (if m.num = true then (if b = true then none else some "rows") else some "count") (∀ H1 fs, Off a H H1 → H1 a = some (.ins A.times dx fs) → Q .non H1)
  | _, _, _, _ => False
theorem ok_Times_init0 (T : Txt w K mg a_is_integer a_is_number a_is_name a_are_rows a_needed a_fits a_is_of a_law_deal a_law_draw a_law_pick a_law_words a_law_kinds a_law_put a_law_any a_law_is_name a_law_is_number a_law_are_rows a_law_put_due a_law_ask_due a_law_made a_law_due a_law_told a_law_is_beyond a_law a_Put_init a_If_init a_Times_init a_Ask_init a_Not_init a_InvalidRow_init a_InvalidRow a_FigureError a_InvalidText a_Put a_If a_Times a_Stop a_Ask a_Not a_Row a_Test a_DEEDS a_WORDS a_If_init_d0 d_is_integer d_is_number d_is_name d_are_rows d_needed d_fits d_is_of d_law_deal d_law_draw d_law_pick d_law_words d_law_kinds d_law_put d_law_any d_law_is_name d_law_is_number d_law_are_rows d_law_put_due d_law_ask_due d_law_made d_law_due d_law_told d_law_is_beyond d_law d_Put_init d_If_init d_Times_init d_Ask_init d_Not_init d_InvalidRow_init) : FnOk P w K mg base (L2.CX P w) 4 a_Times_init d_Times_init ["self", "count", "rows"] (sp_Times_init K ⟨a_Put, a_If, a_Times, a_Stop, a_Ask, a_Not⟩ a_InvalidRow) := by
  have G_InvalidRow_init := ok_InvalidRow_init (P := P) (w := w) (base := base) T
  have G_is_number := ok_is_number (P := P) (w := w) (base := base) T
  have G_are_rows := ok_are_rows (P := P) (w := w) (base := base) T
  refine T.F_Times_init.okX sc_Times_init (fun vs H Q E h => ?_) (fun cdv A outer s H vs Q E hr h => ?_)
  · unfold sp_Times_init at h; split at h; rfl; exact h.elim
  unfold sp_Times_init at h; split at h
  case h_2 => exact h.elim
  rename_i a c p
  obtain ⟨dx, bad, m, b, h1, h2, h3, q⟩ := h
  refine ⟨_, (pss_cons (ps_if (pt_not (pt_val (pe_call G_is_number (hr.mono (by decide)) (by rfl) T.g_is_number T.F_is_number.kp T.b_is_number .nil pass0 (pa_cons (pv 1) pa_nil))))
      (pss_one (ps_raise rfl (takes_of rfl rfl rfl rfl) (pmk_oex T.E_InvalidRow.oex T.E_InvalidRow.iC T.E_InvalidRow.tI G_InvalidRow_init (hr.mono (by decide)) T.b_InvalidRow_init .nil pass0 (by rfl) T.E_InvalidRow.g (pa_cons pe_str pa_nil))))
      pss_nil)
      (pss_cons (ps_if (pt_not (pt_val (pe_call G_are_rows (hr.mono (by decide)) (by rfl) T.g_are_rows T.F_are_rows.kp T.b_are_rows .nil pass0 (pa_cons (pv 2) pa_nil))))
      (pss_one (ps_raise rfl (takes_of rfl rfl rfl rfl) (pmk_oex T.E_InvalidRow.oex T.E_InvalidRow.iC T.E_InvalidRow.tI G_InvalidRow_init (hr.mono (by decide)) T.b_InvalidRow_init .nil pass0 (by rfl) T.E_InvalidRow.g (pa_cons pe_str pa_nil))))
      pss_nil)
      (pss_cons (ps_fld (pv 0) (pv 1) (by rfl))
      (pss_one (ps_fld (pv 0) (pe_callTy call_tuple_of (by rfl) T.z_tuple (by decide +kernel) (pa_cons (pv 2) pa_nil)) (by rfl)))))), ?_⟩
  walk_at "st"
  walk_at "vc"
  refine ⟨m, bad, h2, _, rfl, ite2 (fun hs => ?_) (fun hs => ?_)⟩
  · rw [if_neg (by rw [hs]; decide)] at q
    exact toldW T (Ex.refl _) q
  rw [if_pos (by simpa using hs)] at q
  refine ⟨b, h3, fun H1 e1 => ⟨_, rfl, ite2 (fun hb => ?_) (fun hb => ?_)⟩⟩
  · rw [if_neg (by rw [hb]; decide)] at q
    exact toldW T e1 q
  have hb2 : b = true := by simpa using hb
  subst hb2
  rw [if_pos rfl] at q
  obtain ⟨vs, hx⟩ := h3.rd
  refine ⟨_, rfl, _, rfl, a, a_Times, dx, [], rfl, e1 _ _ h1, T.oc_Times.cl, T.nF_Times_count, (show (0 : Nat) < 1000 by decide), ?_⟩
  have o1 : Off a H (L2.upd H1 a (.ins a_Times dx (putF "count" c []))) := Off.upd e1
  refine fldX rfl rfl o1 h1 hx upd_same T.oc_Times.cl T.nF_Times_rows (show (1 : Nat) < 1000 by decide) fun r H2 e2 => ?_
  exact q _ _ (o1.tex e2).set upd_same
theorem ok_Times_init (T : Txt w K mg a_is_integer a_is_number a_is_name a_are_rows a_needed a_fits a_is_of a_law_deal a_law_draw a_law_pick a_law_words a_law_kinds a_law_put a_law_any a_law_is_name a_law_is_number a_law_are_rows a_law_put_due a_law_ask_due a_law_made a_law_due a_law_told a_law_is_beyond a_law a_Put_init a_If_init a_Times_init a_Ask_init a_Not_init a_InvalidRow_init a_InvalidRow a_FigureError a_InvalidText a_Put a_If a_Times a_Stop a_Ask a_Not a_Row a_Test a_DEEDS a_WORDS a_If_init_d0 d_is_integer d_is_number d_is_name d_are_rows d_needed d_fits d_is_of d_law_deal d_law_draw d_law_pick d_law_words d_law_kinds d_law_put d_law_any d_law_is_name d_law_is_number d_law_are_rows d_law_put_due d_law_ask_due d_law_made d_law_due d_law_told d_law_is_beyond d_law d_Put_init d_If_init d_Times_init d_Ask_init d_Not_init d_InvalidRow_init) : FnR P w K mg base (L2.CX P w) 4 a_Times_init (sp_Times_init K ⟨a_Put, a_If, a_Times, a_Stop, a_Ask, a_Not⟩ a_InvalidRow) :=
  ((ok_Times_init0 T).raw T.b_Times_init .nil).imp fun vs H Q E h => by rw [List.append_nil]; exact h
def sp_If_init (K : PySem.W.Frag) (A : ClsA) (CE : Addr) : Sp
  | [.ref a, u, p, r], H, Q, E => ∃ dx bad m b b2, H a = some (.ins A.ifr dx []) ∧ AO A bad H m u ∧ RV K A H p b ∧ RV K A H r b2 ∧ Res CE E H (if m.isT = true then (if b = true ∧ b2 = true then none else some "rows") else some "test") (∀ H1 fs, Off a H H1 → H1 a = some (.ins A.ifr dx fs) → Q .non H1)
  | _, _, _, _ => False
theorem ok_If_init0 (T : Txt w K mg a_is_integer a_is_number a_is_name a_are_rows a_needed a_fits a_is_of a_law_deal a_law_draw a_law_pick a_law_words a_law_kinds a_law_put a_law_any a_law_is_name a_law_is_number a_law_are_rows a_law_put_due a_law_ask_due a_law_made a_law_due a_law_told a_law_is_beyond a_law a_Put_init a_If_init a_Times_init a_Ask_init a_Not_init a_InvalidRow_init a_InvalidRow a_FigureError a_InvalidText a_Put a_If a_Times a_Stop a_Ask a_Not a_Row a_Test a_DEEDS a_WORDS a_If_init_d0 d_is_integer d_is_number d_is_name d_are_rows d_needed d_fits d_is_of d_law_deal d_law_draw d_law_pick d_law_words d_law_kinds d_law_put d_law_any d_law_is_name d_law_is_number d_law_are_rows d_law_put_due d_law_ask_due d_law_made d_law_due d_law_told d_law_is_beyond d_law d_Put_init d_If_init d_Times_init d_Ask_init d_Not_init d_InvalidRow_init) : FnOk P w K mg base (L2.CX P w) 3 a_If_init d_If_init ["self", "test", "rows", "others"] (sp_If_init K ⟨a_Put, a_If, a_Times, a_Stop, a_Ask, a_Not⟩ a_InvalidRow) := by
  have G_InvalidRow_init := ok_InvalidRow_init (P := P) (w := w) (base := base) T
  have G_are_rows := ok_are_rows (P := P) (w := w) (base := base) T
  refine T.F_If_init.ok sc_If_init (fun vs H Q E h => ?_) (fun cdv A outer s H vs Q E hr h => ?_)
  · unfold sp_If_init at h; split at h; rfl; exact h.elim
  unfold sp_If_init at h; split at h
  case h_2 => exact h.elim
  rename_i a u p r
  obtain ⟨dx, bad, m, b, b2, h1, h2, h3, h4, q⟩ := h
  refine ⟨_, (pss_cons (ps_if (pt_not (pt_val (pe_callB (call_isiK (K := K)) (by rfl) T.z_isinstance (by decide +kernel) (pa_cons (pv 1) (pa_cons (pe_glob (v := .ref a_Test) (by rfl) T.g_Test rfl) pa_nil)))))
      (pss_one (ps_raise rfl (takes_of rfl rfl rfl rfl) (pmk_oex T.E_InvalidRow.oex T.E_InvalidRow.iC T.E_InvalidRow.tI G_InvalidRow_init (hr.mono (by decide)) T.b_InvalidRow_init .nil pass0 (by rfl) T.E_InvalidRow.g (pa_cons pe_str pa_nil))))
      pss_nil)
      (pss_cons (ps_if (PW.pt (pw_or (pt_not (pt_val (pe_call G_are_rows (hr.mono (by decide)) (by rfl) T.g_are_rows T.F_are_rows.kp T.b_are_rows .nil pass0 (pa_cons (pv 2) pa_nil)))) (pw_or1 (pt_not (pt_val (pe_call G_are_rows (hr.mono (by decide)) (by rfl) T.g_are_rows T.F_are_rows.kp T.b_are_rows .nil pass0 (pa_cons (pv 3) pa_nil)))))))
      (pss_one (ps_raise rfl (takes_of rfl rfl rfl rfl) (pmk_oex T.E_InvalidRow.oex T.E_InvalidRow.iC T.E_InvalidRow.tI G_InvalidRow_init (hr.mono (by decide)) T.b_InvalidRow_init .nil pass0 (by rfl) T.E_InvalidRow.g (pa_cons pe_str pa_nil))))
      pss_nil)
      (pss_cons (ps_fld (pv 0) (pv 1) (by rfl))
      (pss_cons (ps_fld (pv 0) (pe_callTy call_tuple_of (by rfl) T.z_tuple (by decide +kernel) (pa_cons (pv 2) pa_nil)) (by rfl))
      (pss_one (ps_fld (pv 0) (pe_callTy call_tuple_of (by rfl) T.z_tuple (by decide +kernel) (pa_cons (pv 3) pa_nil)) (by rfl))))))), ?_⟩
  walk_at "st"
  walk_at "vc"
  refine h2.isi_test (kt_of T) ⟨_, rfl, ite2 (fun hs => ?_) (fun hs => ?_)⟩
  · rw [if_neg (by rw [hs]; decide)] at q
    exact toldW T (Ex.refl _) q
  rw [if_pos (by simpa using hs)] at q
  refine ⟨b, h3, fun H1 e1 => ⟨_, rfl, ite2 (fun hb => ?_) (fun hb => ?_)⟩⟩
  · rw [if_neg (by rw [hb]; simp)] at q
    exact toldW T e1 q
  have hb1 : b = true := by simpa using hb
  subst hb1
  refine ⟨b2, h4.ex e1, fun H2 e2 => ⟨_, rfl, ite2 (fun hb => ?_) (fun hb => ?_)⟩⟩
  · rw [if_neg (by rw [hb]; simp)] at q
    exact toldW T (e1.trans e2) q
  have hb2 : b2 = true := by simpa using hb
  subst hb2
  rw [if_pos ⟨rfl, rfl⟩] at q
  have e12 := e1.trans e2
  obtain ⟨vs, hx⟩ := h3.rd
  obtain ⟨ws, hy⟩ := h4.rd
  refine ⟨_, rfl, _, rfl, a, a_If, dx, [], rfl, e12 _ _ h1, T.oc_If.cl, T.nF_If_test, (show (0 : Nat) < 1000 by decide), ?_⟩
  have o1 : Off a H (L2.upd H2 a (.ins a_If dx (putF "test" u []))) := Off.upd e12
  refine fldX rfl rfl o1 h1 hx upd_same T.oc_If.cl T.nF_If_rows (show (1 : Nat) < 1000 by decide) fun r1 H3 e3 => ?_
  have o2 := (o1.tex e3).set (o := .ins a_If dx (putF "rows" r1 (putF "test" u [])))
  refine fldX rfl rfl o2 h1 hy upd_same T.oc_If.cl T.nF_If_others (show (2 : Nat) < 1000 by decide) fun r2 H4 e4 => ?_
  exact q _ _ (o2.tex e4).set upd_same
/-- If(test, rows, others), If(test, rows) -/
def sp_If_made (K : PySem.W.Frag) (A : ClsA) (CE d0 : Addr) : Sp := fun vs H Q E => sp_If_init K A CE vs H Q E
theorem ok_If_init3 (T : Txt w K mg a_is_integer a_is_number a_is_name a_are_rows a_needed a_fits a_is_of a_law_deal a_law_draw a_law_pick a_law_words a_law_kinds a_law_put a_law_any a_law_is_name a_law_is_number a_law_are_rows a_law_put_due a_law_ask_due a_law_made a_law_due a_law_told a_law_is_beyond a_law a_Put_init a_If_init a_Times_init a_Ask_init a_Not_init a_InvalidRow_init a_InvalidRow a_FigureError a_InvalidText a_Put a_If a_Times a_Stop a_Ask a_Not a_Row a_Test a_DEEDS a_WORDS a_If_init_d0 d_is_integer d_is_number d_is_name d_are_rows d_needed d_fits d_is_of d_law_deal d_law_draw d_law_pick d_law_words d_law_kinds d_law_put d_law_any d_law_is_name d_law_is_number d_law_are_rows d_law_put_due d_law_ask_due d_law_made d_law_due d_law_told d_law_is_beyond d_law d_Put_init d_If_init d_Times_init d_Ask_init d_Not_init d_InvalidRow_init) : FnR P w K mg base (L2.CX P w) 3 a_If_init (sp_If_init K ⟨a_Put, a_If, a_Times, a_Stop, a_Ask, a_Not⟩ a_InvalidRow) :=
  ((ok_If_init0 T).raw T.b_If_init .nil).imp fun vs H Q E h => by rw [List.append_nil]; exact h
theorem ok_If_init2 (T : Txt w K mg a_is_integer a_is_number a_is_name a_are_rows a_needed a_fits a_is_of a_law_deal a_law_draw a_law_pick a_law_words a_law_kinds a_law_put a_law_any a_law_is_name a_law_is_number a_law_are_rows a_law_put_due a_law_ask_due a_law_made a_law_due a_law_told a_law_is_beyond a_law a_Put_init a_If_init a_Times_init a_Ask_init a_Not_init a_InvalidRow_init a_InvalidRow a_FigureError a_InvalidText a_Put a_If a_Times a_Stop a_Ask a_Not a_Row a_Test a_DEEDS a_WORDS a_If_init_d0 d_is_integer d_is_number d_is_name d_are_rows d_needed d_fits d_is_of d_law_deal d_law_draw d_law_pick d_law_words d_law_kinds d_law_put d_law_any d_law_is_name d_law_is_number d_law_are_rows d_law_put_due d_law_ask_due d_law_made d_law_due d_law_told d_law_is_beyond d_law d_Put_init d_If_init d_Times_init d_Ask_init d_Not_init d_InvalidRow_init) : FnR P w K mg base (L2.CX P w) 3 a_If_init (fun vs H Q E => sp_If_init K ⟨a_Put, a_If, a_Times, a_Stop, a_Ask, a_Not⟩ a_InvalidRow (vs ++ [.ref a_If_init_d0]) H Q E) :=
  (ok_If_init0 T).raw T.bd_If_init (.cons rfl .nil)
end
end My
set_option Elab.async false
set_option linter.all false
set_option maxRecDepth 100000
set_option maxHeartbeats 4000000
set_option exponentiation.threshold 5000
namespace My
open PySem PySem.Spec PyProof.Rows L2 Evl
local macro_rules | `(tactic| walk_at "st") => `(tactic| simp only [L2.start, List.map_cons, List.map_nil, List.length_cons, List.length_nil, Nat.reduceAdd, Nat.reduceSub, List.replicate_succ, List.replicate_zero, List.cons_append, List.nil_append, cxOf, List.append_nil])
local macro_rules | `(tactic| walk_at "vc") => `(tactic| try simp only [tSeq, tAsg, tOp, tUn, tVar, tC, tNil, tCons, gName, rI, rI0, rU, tRet, tIfS, tNot, tAnd, tOr, tB, tTest, tCB, tCall, tAndV, tOrV, tNotV, tNext, tNever, tIf, tChain, tYes, tPart, tNoPart, tPar, tDrop, q_isi, q_vn, q_vb, q_vi, q_vs, kb1, kb2, kb3, kb4, kb5, kb6, kb7, kb8, q_int1, q_int2, q_min, q_max, q_repr, tLst, tTup, rEq, rNe, q_sii, q_sss, q_sbb, q_snn, q_sns, q_ssn, q_ix, q_sl, tSl, tBM, tBM0, q_app, q_pop, gSub, rSetL, L2.wipe, eq_self, decide_true, decide_false, tRevL,
  List.getElem?_cons_succ, List.getElem?_cons_zero, List.set_cons_succ, List.set_cons_zero, Option.some.injEq, exists_eq_left', exists_eq_left, V.int.injEq, V.bl.injEq, V.ref.injEq, V.str.injEq, List.cons.injEq, and_true, true_and, List.append_nil, List.nil_append, List.cons_append, exists_and_left, and_assoc, if_true, if_false, Bool.not_true, Bool.not_false, Bool.false_eq_true, Bool.true_eq_false, reduceIte, tRevL, tPar3, tRevT, tUnl, tCKw, forall_const, Bool.not_eq_true', decide_eq_true_eq, decide_eq_false_iff_not])
section
variable {P : Program} {w : World} {K : PySem.W.Frag} {mg : Str → Option Value} {base : Heap}
variable {a_is_integer a_is_number a_is_name a_are_rows a_needed a_fits a_is_of a_law_deal a_law_draw a_law_pick a_law_words a_law_kinds a_law_put a_law_any a_law_is_name a_law_is_number a_law_are_rows a_law_put_due a_law_ask_due a_law_made a_law_due a_law_told a_law_is_beyond a_law a_Put_init a_If_init a_Times_init a_Ask_init a_Not_init a_InvalidRow_init a_InvalidRow a_FigureError a_InvalidText a_Put a_If a_Times a_Stop a_Ask a_Not a_Row a_Test a_DEEDS a_WORDS a_If_init_d0 : Addr} {d_is_integer d_is_number d_is_name d_are_rows d_needed d_fits d_is_of d_law_deal d_law_draw d_law_pick d_law_words d_law_kinds d_law_put d_law_any d_law_is_name d_law_is_number d_law_are_rows d_law_put_due d_law_ask_due d_law_made d_law_due d_law_told d_law_is_beyond d_law d_Put_init d_If_init d_Times_init d_Ask_init d_Not_init d_InvalidRow_init : FuncData}
def kindsFor (d : Str) (n : Nat) : Option (List Str) := if d = "figures" then (if n = 0 then none else some (List.replicate n "number")) else deedTab.lookup d
/-- an argument is as the deed needs it -/
def argOk (k : Str) (v : V) : Prop := (k = "name" ∧ ∃ x, v = .str x ∧ x.length ≤ 1000 ∧ nmOk x = true) ∨ (k = "number" ∧ ∃ i, v = .int i ∧ 0 ≤ i ∧ i.natAbs.log2 < 1920)
def TestM.ok : TestM → Prop
  | .ask x ns => (x, ns.length) ∈ wordTab ∧ ∀ n ∈ ns, nameOk n
  | .not t => t.ok
mutual
def RowM.ok : RowM → Prop
  | .stop => True
  | .put n d g => nameOk n ∧ (∃ ks, kindsFor d g.length = some ks ∧ All2T argOk ks g) ∧ g.length ≤ 1000
  | .times c rs => c ≤ 1000 ∧ RowM.oks rs ∧ rs.length ≤ 1000
  | .ifr t rs os => t.ok ∧ t.dep < 9 ∧ RowM.oks rs ∧ rs.length ≤ 1000 ∧ RowM.oks os ∧ os.length ≤ 1000
def RowM.oks : List RowM → Prop
  | [] => True
  | r :: rs => r.ok ∧ RowM.oks rs
end
/-! ### the law's own: names -/
def keptWords : List Str := ["if", "end", "else", "not", "base", "sum", "last", "many", "root", "let", "same", "stop"]
def wOk (x : Str) : Prop := x.length ≤ 4 ∧ nmOk x = true
theorem kept_ok : ∀ x ∈ keptWords, wOk x := by
  intro x hx
  simp only [keptWords, List.mem_cons, List.not_mem_nil, or_false] at hx
  rcases hx with rfl | rfl | rfl | rfl | rfl | rfl | rfl | rfl | rfl | rfl | rfl | rfl <;> exact ⟨by decide +kernel, by decide +kernel⟩
def I_wd (d L p p1 : Addr) (n : Int) (H : Hp) : Nat → L2.St → Hp → Prop := fun k σ H' => ∃ x5 x6 x7 x8, σ = [some (.ref d), some (.int n), some (.str "abcdefghijklmnopqrstuvwxyz"), some (.ref p), some (.ref p1), x5, x6, x7, x8] ∧ ∃ ns : List Str, H' p1 = some (.lst (ns.map V.str)) ∧ ns.length = k ∧ (∀ x ∈ ns, wOk x) ∧ H' p = some (.lst (keptWords.map V.str)) ∧ Mv3 d L H H'
def C_wd (d L D0 : Addr) (H0 : Hp) : Nat → Hp → Prop := fun i H' => ∃ xs : List Str, H' D0 = some (.lst (xs.map V.str)) ∧ xs.length = i ∧ (∀ x ∈ xs, ∃ c, x = ⟨#[c]⟩ ∧ c ∈ (Str.ofString "abcdefghijklmnopqrstuvwxyz").cps.toList) ∧ Mv3 d L H0 H'
def C_fl (D0 : Addr) (cs ns : List Str) (H0 : Hp) : Nat → Hp → Prop := fun i H' => H' D0 = some (.lst (((cs.take i).filter fun x => !(ns.contains x)).map V.str)) ∧ Ex H0 H'
def sp_law_words : Sp
  | [.ref d, .int n], H, Q, _ => ∃ L, Deal3 d L H ∧ 0 ≤ n ∧ n ≤ 4 ∧ ∀ (p : Addr) (ns : List Str) (H' : Hp), Mv3 d L H H' → H p = none → p ≠ d → p ≠ L → H' p = some (.lst (ns.map V.str)) → (ns.length : Int) = n → (∀ x ∈ ns, x.length ≤ 4 ∧ nmOk x = true) → Q (.ref p) H'
  | _, _, _, _ => False
theorem ok_law_words (T : Txt w K mg a_is_integer a_is_number a_is_name a_are_rows a_needed a_fits a_is_of a_law_deal a_law_draw a_law_pick a_law_words a_law_kinds a_law_put a_law_any a_law_is_name a_law_is_number a_law_are_rows a_law_put_due a_law_ask_due a_law_made a_law_due a_law_told a_law_is_beyond a_law a_Put_init a_If_init a_Times_init a_Ask_init a_Not_init a_InvalidRow_init a_InvalidRow a_FigureError a_InvalidText a_Put a_If a_Times a_Stop a_Ask a_Not a_Row a_Test a_DEEDS a_WORDS a_If_init_d0 d_is_integer d_is_number d_is_name d_are_rows d_needed d_fits d_is_of d_law_deal d_law_draw d_law_pick d_law_words d_law_kinds d_law_put d_law_any d_law_is_name d_law_is_number d_law_are_rows d_law_put_due d_law_ask_due d_law_made d_law_due d_law_told d_law_is_beyond d_law d_Put_init d_If_init d_Times_init d_Ask_init d_Not_init d_InvalidRow_init) : FnOk P w K mg base CX0 3 a_law_words d_law_words ["_law_deal_here", "_law_amount"] sp_law_words := by
  have G_law_draw := ok_law_draw (P := P) (w := w) (base := base) T
  have G_law_pick := ok_law_pick (P := P) (w := w) (base := base) T
  refine T.F_law_words.ok sc_law_words (fun vs H Q E h => ?_) (fun cdv A outer s H vs Q E hr h => ?_)
  · unfold sp_law_words at h; split at h; rfl; exact h.elim
  unfold sp_law_words at h; split at h
  case h_2 => exact h.elim
  rename_i d n
  obtain ⟨L, D, n0, n4, q⟩ := h
  refine ⟨_, (pss_cons (ps_set (i := 2) sc_law_words.nd rfl (by first | exact .inl rfl | exact .inr rfl) pe_str)
      (pss_cons (ps_set (i := 3) sc_law_words.nd rfl (by first | exact .inl rfl | exact .inr rfl) (pe_lst (pa_cons pe_str (pa_cons pe_str (pa_cons pe_str (pa_cons pe_str (pa_cons pe_str (pa_cons pe_str (pa_cons pe_str (pa_cons pe_str (pa_cons pe_str (pa_cons pe_str (pa_cons pe_str (pa_cons pe_str pa_nil))))))))))))))
      (pss_cons (ps_set (i := 4) sc_law_words.nd rfl (by first | exact .inl rfl | exact .inr rfl) (pe_lst pa_nil))
      (Evl.pss_cut (ps_for PassesOwn.never rfl (pi_range1 (by rfl) T.z_range (pa_cons (pv 1) pa_nil)) (pg_name (i := 5) sc_law_words.nd rfl (by first | exact .inl rfl | exact .inr rfl))
      (pss_cons (ps_set (i := 6) sc_law_words.nd rfl (by first | exact .inl rfl | exact .inr rfl) (pe_bm PySem.F.plainAttrs_str PySem.F.slot_str_join PySem.F.type_str_join mt_join pe_str (pa_cons (pe_lc (own := [("_law_at", 7)]) (g := gName 7) (by rfl) sc_law_words.nd (pi_range1 (by rfl) T.z_range (pa_cons (pe_op op_add pe_int (pe_call G_law_draw (hr.mono (by decide)) (by rfl) T.g_law_draw T.F_law_draw.kp T.b_law_draw .nil pass0 (pa_cons (pv 0) (pa_cons pe_int pa_nil)))) pa_nil)) (blkOk_by (own := [("_law_at", 7)]) (N := N_law_words) (sc := defScope s_law_words) (by decide +kernel)) (fun _ _ _ _ _ => (pg_name (i := 7) sc_law_words.nd rfl (by first | exact .inl rfl | exact .inr rfl))) (fun _ _ _ _ _ => pts_nil) (fun _ _ _ _ _ => (pe_call G_law_pick (hr.mono (by decide)) (by rfl) T.g_law_pick T.F_law_pick.kp T.b_law_pick .nil pass0 (pa_cons (pv 0) (pa_cons (pv 2) pa_nil))))) pa_nil)))
      (Evl.pss_cut (ps_if (pt_cmpR op_eq (pe_call G_law_draw (hr.mono (by decide)) (by rfl) T.g_law_draw T.F_law_draw.kp T.b_law_draw .nil pass0 (pa_cons (pv 0) (pa_cons pe_int pa_nil))) pe_int (nomark _))
      (pss_one (ps_set (i := 6) sc_law_words.nd rfl (by first | exact .inl rfl | exact .inr rfl) (pe_call G_law_pick (hr.mono (by decide)) (by rfl) T.g_law_pick T.F_law_pick.kp T.b_law_pick .nil pass0 (pa_cons (pv 0) (pa_cons (pv 3) pa_nil)))))
      pss_nil)
      (pss_one (ps_expr (pe_bm PySem.F.plainAttrs_list PySem.F.slot_list_append PySem.F.type_list_append mt_appendM (pv 4) (pa_cons (pe_ix ix_listM (pe_lc (own := [("_law_one", 8)]) (g := gName 8) (by rfl) sc_law_words.nd (pi_list (pe_lst (pa_cons (pv 6) (pa_cons pe_str (pa_cons pe_str (pa_cons pe_str (pa_cons pe_str pa_nil))))))) (blkOk_by (own := [("_law_one", 8)]) (N := N_law_words) (sc := defScope s_law_words) (by decide +kernel)) (fun _ _ _ _ _ => (pg_name (i := 8) sc_law_words.nd rfl (by first | exact .inl rfl | exact .inr rfl))) (fun _ _ _ _ _ => (pts_one (pt_cmpR (op_notInK (K := K)) (pv 8) (pv 4) (by rfl)))) (fun _ _ _ _ _ => (pv 8))) pe_int (fun _ _ => rfl)) pa_nil)))))))
      (pss_one (ps_ret (pv 4))))))), ?_⟩
  walk_at "st"
  walk_at "vc"
  refine ⟨sz_le (by simp), fun p hp => ⟨sz_le (by simp), fun p1 hp1 => ?_⟩⟩
  have op := D.off hp
  have M1 := (Mv3.of_ex D (Ex.new hp (o := .lst (keptWords.map V.str)))).new hp1 (o := .lst [])
  have wp : upd (upd H p (.lst (keptWords.map V.str))) p1 (.lst []) p = some (.lst (keptWords.map V.str)) := Ex.new hp1 _ _ upd_same
  have wp1 : upd (upd H p (.lst (keptWords.map V.str))) p1 (.lst []) p1 = some (.lst []) := upd_same
  have hp1H : H p1 = none := by
    by_cases e : p1 = p
    · rw [e]; exact hp
    · rw [upd_ne e] at hp1; exact hp1
  have op1 := D.off hp1H
  have npp : p ≠ p1 := fun e => by rw [← e, upd_same] at hp1; cases hp1
  refine ⟨fun σ H' => I_wd d L p p1 n H n.toNat σ H', ?_, fun σ H' hm => ?_⟩
  · refine ⟨_, rfl, _, rfl, by omega, by omega, for_range (lo := 0) (n := n.toNat) (I_wd d L p p1 n H) ⟨_, _, _, _, rfl, [], wp1, rfl, by simp, wp, M1⟩ (fun k σ H2 hk hw => ?_) (fun σ H2 hw => hw)⟩
    obtain ⟨x5, x6, x7, x8, rfl, ns, h1, h2, h3, h4, M⟩ := hw
    walk_at "vc"
    refine ⟨rfl, _, rfl, L, M.dl, by decide, by decide, fun v H3 v0 v1 M3 => ?_⟩
    refine ⟨_, _, rfl, rfl, _, rfl, by omega, by omega, fun D0 hD0 => ?_⟩
    obtain ⟨m, hm⟩ : ∃ m : Nat, 1 + v = (m : Int) := ⟨(1 + v).toNat, by omega⟩
    have oD0 := M3.dl.off hD0
    rw [hm]
    refine lc_range (lo := 0) (n := m) (C_wd d L D0 H3) ⟨[], upd_same, rfl, by simp, Mv3.of_ex M3.dl (Ex.new hD0)⟩ (fun t H4 ht hI => ?_) (fun H4 hI => ?_)
    · obtain ⟨xs, g1, g2, g3, M4⟩ := hI
      walk_at "vc"
      refine ⟨L, M4.dl, .inr ⟨_, rfl, by decide, by decide, fun c H5 hc M5 => ?_⟩⟩
      refine ⟨_, M5.kp _ _ oD0.1 oD0.2 g1, sz_lt (by simp; omega), xs ++ [⟨#[c]⟩], by rw [upd_same, List.map_append]; rfl, by simp; omega, fun x hx => ?_, (M4.trans M5).mut hD0 oD0.1 oD0.2⟩
      rcases List.mem_append.mp hx with hx | hx
      · exact g3 x hx
      · rw [List.mem_singleton.mp hx]; exact ⟨c, rfl, hc⟩
    obtain ⟨xs, g1, g2, g3, M4⟩ := hI
    obtain ⟨w1, w2⟩ := word_of (fun c => c ∈ (Str.ofString "abcdefghijklmnopqrstuvwxyz").cps.toList) g3
    have hsum : (xs.map fun x => x.length).sum = xs.length := by
      clear w1 w2 g1 g2
      induction xs with
      | nil => rfl
      | cons x xs ih =>
        obtain ⟨c, rfl, _⟩ := g3 x (by simp)
        rw [List.map_cons, List.sum_cons, ih (fun y hy => g3 y (List.mem_cons_of_mem _ hy)), List.length_cons]
        show 1 + _ = _
        omega
    have hw : wOk (Txt.join (Str.ofString "") xs) := by
      refine ⟨by omega, ?_⟩
      unfold nmOk
      rw [decide_eq_true (show (1 : Int) ≤ ((Txt.join (Str.ofString "") xs).length : Int) by omega), decide_eq_true (show ((Txt.join (Str.ofString "") xs).length : Int) ≤ 4 by omega), Bool.true_and, Bool.true_and]
      exact List.all_eq_true.mpr fun c hc => decide_eq_true (w2 c hc)
    refine ⟨D0, rfl, xs, .inl (sq_of g1), by rw [hsum, em0]; omega, ?_⟩
    have M4' := (M.trans M3).trans M4
    have h1' := M4.kp _ _ op1.1 op1.2 (M3.kp _ _ op1.1 op1.2 h1)
    have h4' := M4.kp _ _ op.1 op.2 (M3.kp _ _ op.1 op.2 h4)
    generalize Txt.join (Str.ofString "") xs = wd at *
    refine ⟨fun σ H' => ∃ wd, σ = [some (.ref d), some (.int n), some (.str "abcdefghijklmnopqrstuvwxyz"), some (.ref p), some (.ref p1), some (.int (0 + (k : Int))), some (.str wd), x7, x8] ∧ wOk wd ∧ H' p1 = some (.lst (ns.map V.str)) ∧ H' p = some (.lst (keptWords.map V.str)) ∧ Mv3 d L H H', ?_, fun σ H5 hm5 => ?_⟩
    · walk_at "vc"
      refine ⟨L, M4.dl, by decide, by decide, fun c H5 c0 c1 M5 => ?_⟩
      have h1'' := M5.kp _ _ op1.1 op1.2 h1'
      have h4'' := M5.kp _ _ op.1 op.2 h4'
      walk_at "vc"
      refine ite2 (fun _ => ?_) (fun _ => ⟨hw, h1'', h4'', M4'.trans M5⟩)
      refine ⟨L, M5.dl, .inl ⟨p, _, rfl, h4'', op.1, op.2, by decide, by decide, fun v H6 hv M6 => ?_⟩⟩
      obtain ⟨x, hx, rfl⟩ := List.mem_map.mp hv
      exact ⟨x, rfl, kept_ok x hx, M6.kp _ _ op1.1 op1.2 h1'', M6.kp _ _ op.1 op.2 h4'', (M4'.trans M5).trans M6⟩
    obtain ⟨wd2, rfl, hw2, k1, k2, M5⟩ := hm5
    walk_at "vc"
    refine ⟨.inl ⟨rfl, _, sq_of k1⟩, _, rfl, sz_le (by simp), fun p5 hp5 => ⟨p5, rfl, ⟨_, sq_of upd_same⟩, fun D2 hD2 => ?_⟩⟩
    have w5 : upd H5 p5 (.lst [.str wd2, .str "a", .str "b", .str "c", .str "d"]) p5 = some (.lst (([wd2, "a", "b", "c", "d"] : List Str).map V.str)) := upd_same
    have M6 := M5.new hp5 (o := .lst [.str wd2, .str "a", .str "b", .str "c", .str "d"])
    have k1' := Ex.new hp5 (o := .lst [.str wd2, .str "a", .str "b", .str "c", .str "d"]) _ _ k1
    have k2' := Ex.new hp5 (o := .lst [.str wd2, .str "a", .str "b", .str "c", .str "d"]) _ _ k2
    generalize upd H5 p5 (.lst [.str wd2, .str "a", .str "b", .str "c", .str "d"]) = H6 at *
    refine lc_it (walk_list (xs := ([wd2, "a", "b", "c", "d"] : List Str).map V.str)) (C_fl D2 [wd2, "a", "b", "c", "d"] ns H6) ⟨upd_same, Ex.new hD2⟩ (fun t H7 _ hP => hP.2.sql (sq_of w5)) (fun t v H7 H8 ht hP y => ?_) (fun H7 hP => ?_)
    · obtain ⟨rfl, hv⟩ := y
      rw [List.getElem?_map] at hv
      obtain ⟨x, hx, rfl⟩ := Option.map_eq_some_iff.mp hv
      walk_at "vc"
      refine ⟨p1, _, rfl, .inl (sq_of (hP.2 _ _ k1')), rfl, flat_strs ns, _, rfl, ?_⟩
      rw [if_pos rfl, inV_strs]
      have ht5 : t < 5 := by simpa using ht
      have hl : (([wd2, "a", "b", "c", "d"] : List Str).take t).length ≤ 5 := by rw [List.length_take]; omega
      have hfl := Nat.le_trans (List.length_filter_le (fun x => !(ns.contains x)) (([wd2, "a", "b", "c", "d"] : List Str).take t)) hl
      by_cases hc : ns.contains x = true
      · rw [hc]
        refine iteF ⟨?_, hP.2⟩
        rw [List.take_add_one, hx, List.filter_append]
        simp only [Option.toList, List.filter_cons, hc, Bool.not_true]
        simpa using hP.1
      · rw [Bool.not_eq_true] at hc
        rw [hc]
        refine iteT ⟨_, hP.1, sz_lt (by rw [List.length_map]; omega), ?_, hP.2.mut hD2⟩
        rw [upd_same, List.take_add_one, hx, List.filter_append]
        simp only [Option.toList, List.filter_cons, hc, Bool.not_false, if_true, List.filter_nil, List.map_append, List.map_cons, List.map_nil]
    · have g1 := hP.1
      rw [List.length_map, List.take_length] at g1
      have hne := one_free wd2 ns (by omega)
      obtain ⟨x, r, hxr⟩ := List.exists_cons_of_ne_nil hne
      rw [hxr] at g1
      have hxm : x ∈ ([wd2, "a", "b", "c", "d"] : List Str) := (List.mem_filter.mp (by rw [hxr]; exact List.mem_cons_self .. : x ∈ ([wd2, "a", "b", "c", "d"] : List Str).filter fun x => !(ns.contains x))).1
      have hxo : wOk x := by
        simp only [List.mem_cons, List.not_mem_nil, or_false] at hxm
        rcases hxm with rfl | rfl | rfl | rfl | rfl
        · exact hw2
        · exact ⟨by decide +kernel, by decide +kernel⟩
        · exact ⟨by decide +kernel, by decide +kernel⟩
        · exact ⟨by decide +kernel, by decide +kernel⟩
        · exact ⟨by decide +kernel, by decide +kernel⟩
      refine ⟨_, .str x, sq_of g1, atI_nat (j := 0) (xs := (x :: r).map V.str) rfl, _, hP.2 _ _ k1', sz_lt (by rw [List.length_map]; omega), ?_⟩
      refine ⟨_, _, _, _, rfl, ns ++ [x], by rw [upd_same, List.map_append]; rfl, by rw [List.length_append, h2]; rfl, fun y hy => ?_, by rw [upd_ne npp]; exact hP.2 _ _ k2', (M6.tex hP.2).mut hp1H op1.1 op1.2⟩
      rcases List.mem_append.mp hy with hy | hy
      · exact h3 y hy
      · rw [List.mem_singleton.mp hy]; exact hxo
  · obtain ⟨x5, x6, x7, x8, rfl, ns, h1, h2, h3, h4, M⟩ := hm
    walk_at "vc"
    exact q p1 ns H' M hp1H op1.1 op1.2 h1 (by omega) h3
end
end My
set_option Elab.async false
set_option linter.all false
set_option maxRecDepth 100000
set_option maxHeartbeats 4000000
set_option exponentiation.threshold 5000
namespace My
open PySem PySem.Spec PyProof.Rows L2 Evl
local macro_rules | `(tactic| walk_at "st") => `(tactic| simp only [L2.start, List.map_cons, List.map_nil, List.length_cons, List.length_nil, Nat.reduceAdd, Nat.reduceSub, List.replicate_succ, List.replicate_zero, List.cons_append, List.nil_append, cxOf, List.append_nil])
local macro_rules | `(tactic| walk_at "vc") => `(tactic| try simp only [tSeq, tAsg, tOp, tUn, tVar, tC, tNil, tCons, gName, rI, rI0, rU, tRet, tIfS, tNot, tAnd, tOr, tB, tTest, tCB, tCall, tAndV, tOrV, tNotV, tNext, tNever, tIf, tChain, tYes, tPart, tNoPart, tPar, tDrop, q_isi, q_vn, q_vb, q_vi, q_vs, kb1, kb2, kb3, kb4, kb5, kb6, kb7, kb8, q_int1, q_int2, q_min, q_max, q_repr, tLst, tTup, rEq, rNe, q_sii, q_sss, q_sbb, q_snn, q_sns, q_ssn, q_ix, q_sl, tSl, tBM, tBM0, q_app, q_pop, gSub, rSetL, L2.wipe, eq_self, decide_true, decide_false, tRevL,
  List.getElem?_cons_succ, List.getElem?_cons_zero, List.set_cons_succ, List.set_cons_zero, Option.some.injEq, exists_eq_left', exists_eq_left, V.int.injEq, V.bl.injEq, V.ref.injEq, V.str.injEq, List.cons.injEq, and_true, true_and, List.append_nil, List.nil_append, List.cons_append, exists_and_left, and_assoc, if_true, if_false, Bool.not_true, Bool.not_false, Bool.false_eq_true, Bool.true_eq_false, reduceIte, tRevL, tPar3, tRevT, tUnl, tCKw, forall_const, Bool.not_eq_true', decide_eq_true_eq, decide_eq_false_iff_not])
section
variable {P : Program} {w : World} {K : PySem.W.Frag} {mg : Str → Option Value} {base : Heap}
variable {a_is_integer a_is_number a_is_name a_are_rows a_needed a_fits a_is_of a_law_deal a_law_draw a_law_pick a_law_words a_law_kinds a_law_put a_law_any a_law_is_name a_law_is_number a_law_are_rows a_law_put_due a_law_ask_due a_law_made a_law_due a_law_told a_law_is_beyond a_law a_Put_init a_If_init a_Times_init a_Ask_init a_Not_init a_InvalidRow_init a_InvalidRow a_FigureError a_InvalidText a_Put a_If a_Times a_Stop a_Ask a_Not a_Row a_Test a_DEEDS a_WORDS a_If_init_d0 : Addr} {d_is_integer d_is_number d_is_name d_are_rows d_needed d_fits d_is_of d_law_deal d_law_draw d_law_pick d_law_words d_law_kinds d_law_put d_law_any d_law_is_name d_law_is_number d_law_are_rows d_law_put_due d_law_ask_due d_law_made d_law_due d_law_told d_law_is_beyond d_law d_Put_init d_If_init d_Times_init d_Ask_init d_Not_init d_InvalidRow_init : FuncData}
/-! ### the kinds of the deeds -/
def kOne : List Str := ["let", "turned", "least", "greatest", "sum", "many", "root"]
def kTwo : List Str := ["+", "-", "*", "//", "rest", "joined", "common", "lesser"]
theorem un1 {n : Nat} (h : n + 64 < cLine) : n + 1 < cLine := by omega
def kinds0 : List (Str × Str) := [("number", "k"), ("base", ""), ("**", "xk"), ("figure", "kx"), ("first", "kx"), ("last", "kx")]
def putAll (z : Str) (ps : List (Str × Str)) (xs : List Str) : List (Str × Str) := ps ++ xs.map fun x => (x, z)
def kindsS : List (Str × Str) := putAll "xy" (putAll "x" kinds0 kOne) kTwo
def asK (ps : List (Str × Str)) : List (Key × V) := ps.map fun p => (.inr p.1, .str p.2)
theorem putK_new {ps : List (Str × Str)} {x z : Str} (h : x ∉ ps.map (·.1)) : putK (asK ps) (.inr x) (.str z) = asK (ps ++ [(x, z)]) := by
  unfold putK
  rw [if_neg]
  · unfold asK; rw [List.map_append]; rfl
  · intro e
    obtain ⟨kv, h1, h2⟩ := List.any_eq_true.mp e
    obtain ⟨p, hp, rfl⟩ := List.mem_map.mp h1
    have e2 : p.1 = x := Sum.inr.inj (of_decide_eq_true h2)
    exact h (List.mem_map.mpr ⟨p, hp, e2⟩)
theorem kinds_nd : (kindsS.map (·.1)).Nodup := by decide +kernel
theorem fresh_at {ps : List (Str × Str)} {z x : Str} {xs : List Str} {i : Nat} (hnd : ((putAll z ps xs).map (·.1)).Nodup) (hx : xs[i]? = some x) : x ∉ (putAll z ps (xs.take i)).map (·.1) := by
  unfold putAll at hnd ⊢
  rw [List.map_append, List.map_map] at hnd ⊢
  have e : ((fun p : Str × Str => p.1) ∘ fun x => (x, z)) = id := rfl
  rw [e, List.map_id] at hnd
  rw [e, List.map_id]
  obtain ⟨_, h2, h3⟩ := List.nodup_append.mp hnd
  have hm : x ∈ xs := List.mem_of_getElem? hx
  intro hc
  rcases List.mem_append.mp hc with hc | hc
  · exact h3 x hc x hm rfl
  · obtain ⟨j, hj⟩ := List.mem_iff_getElem?.mp hc
    rw [List.getElem?_take] at hj
    split at hj
    · rename_i hji
      exact absurd ((List.getElem?_inj (List.getElem?_eq_some_iff.mp hj).1 h2).mp (hj.trans hx.symm)) (by omega)
    · cases hj
def sp_law_kinds : Sp
  | [], H, Q, _ => ∀ p H', Ex H H' → H p = none → H' p = some (.dK (asK kindsS)) → Q (.ref p) H'
  | _, _, _, _ => False
def I_kd (p g : Addr) (z : Str) (ps : List (Str × Str)) (xs : List Str) (H : Hp) : Nat → L2.St → Hp → Prop := fun i σ H' => ∃ x, σ = [some (.ref p), x] ∧ H' p = some (.dK (asK (putAll z ps (xs.take i)))) ∧ Ex H H' ∧ H' g = some (.tup (xs.map V.str))
def J_kd (p : Addr) (ps : List (Str × Str)) (H : Hp) : L2.St → Hp → Prop := fun σ H' => ∃ x, σ = [some (.ref p), x] ∧ H' p = some (.dK (asK ps)) ∧ Ex H H'
theorem asK_len (ps : List (Str × Str)) : (asK ps).length = ps.length := by unfold asK; rw [List.length_map]
theorem ok_law_kinds (T : Txt w K mg a_is_integer a_is_number a_is_name a_are_rows a_needed a_fits a_is_of a_law_deal a_law_draw a_law_pick a_law_words a_law_kinds a_law_put a_law_any a_law_is_name a_law_is_number a_law_are_rows a_law_put_due a_law_ask_due a_law_made a_law_due a_law_told a_law_is_beyond a_law a_Put_init a_If_init a_Times_init a_Ask_init a_Not_init a_InvalidRow_init a_InvalidRow a_FigureError a_InvalidText a_Put a_If a_Times a_Stop a_Ask a_Not a_Row a_Test a_DEEDS a_WORDS a_If_init_d0 d_is_integer d_is_number d_is_name d_are_rows d_needed d_fits d_is_of d_law_deal d_law_draw d_law_pick d_law_words d_law_kinds d_law_put d_law_any d_law_is_name d_law_is_number d_law_are_rows d_law_put_due d_law_ask_due d_law_made d_law_due d_law_told d_law_is_beyond d_law d_Put_init d_If_init d_Times_init d_Ask_init d_Not_init d_InvalidRow_init) : FnOk P w K mg base CX0 1 a_law_kinds d_law_kinds [] sp_law_kinds := by
  refine T.F_law_kinds.ok sc_law_kinds (fun vs H Q E h => ?_) (fun cdv A outer s H vs Q E hr h => ?_)
  · unfold sp_law_kinds at h; split at h; rfl; exact h.elim
  unfold sp_law_kinds at h; split at h
  case h_2 => exact h.elim

  refine ⟨_, (pss_cons (ps_set (i := 0) sc_law_kinds.nd rfl (by first | exact .inl rfl | exact .inr rfl) (pe_disp (pps_cons pe_str pe_str (pps_cons pe_str pe_str (pps_cons pe_str pe_str (pps_cons pe_str pe_str (pps_cons pe_str pe_str (pps_cons pe_str pe_str pps_nil)))))) (by rfl) (by rfl) (fun z => by cases z) (by decide)))
      (Evl.pss_cut (ps_for PassesOwn.never rfl (pi_tup (pe_tup (pa_cons pe_str (pa_cons pe_str (pa_cons pe_str (pa_cons pe_str (pa_cons pe_str (pa_cons pe_str (pa_cons pe_str pa_nil))))))))) (pg_name (i := 1) sc_law_kinds.nd rfl (by first | exact .inl rfl | exact .inr rfl))
      (pss_one (ps_dput (un1 hr.units) (pv 0) (pv 1) pe_str rfl)))
      (Evl.pss_cut (ps_for PassesOwn.never rfl (pi_tup (pe_tup (pa_cons pe_str (pa_cons pe_str (pa_cons pe_str (pa_cons pe_str (pa_cons pe_str (pa_cons pe_str (pa_cons pe_str (pa_cons pe_str pa_nil)))))))))) (pg_name (i := 1) sc_law_kinds.nd rfl (by first | exact .inl rfl | exact .inr rfl))
      (pss_one (ps_dput (un1 hr.units) (pv 0) (pv 1) pe_str rfl)))
      (pss_one (ps_ret (pv 0)))))), ?_⟩
  walk_at "st"
  walk_at "vc"
  refine fun p hp => ?_
  have M0 := Ex.new hp (o := .dK [])
  have w0 : upd H p (.dK []) p = some (.dK []) := upd_same
  generalize upd H p (.dK []) = H0 at *
  refine ⟨w0, kinds0.map (fun p => (.inr p.1, .str p.2)), rfl, by decide, ?_⟩
  have e0 : mergeK [] (kinds0.map (fun p => ((.inr p.1 : Key), V.str p.2))) = asK kinds0 := by rfl
  rw [e0]
  have M1 := M0.mut hp (o := .dK (asK kinds0))
  have w1 : upd H0 p (.dK (asK kinds0)) p = some (.dK (asK kinds0)) := upd_same
  generalize upd H0 p (.dK (asK kinds0)) = H1 at *
  walk_at "vc"
  have turn : ∀ (z : Str) (ps : List (Str × Str)) (xs : List Str) (_ : ((putAll z ps xs).map (·.1)).Nodup) (_ : ps.length + xs.length ≤ 100) (g : Addr) (_ : g ≠ p) (D : Ends) (i : Nat) (x : V) (σ : L2.St) (H3 : Hp), (xs.map V.str)[i]? = some x → I_kd p g z ps xs H i σ H3 → D.nx = I_kd p g z ps xs H (i + 1) → gName 1 x σ H3 fun σ2 H2 => sDPut (tVar 0) (tVar 1) (tC (.str z)) D σ2 H2 := by
    intro z ps xs hnd hlen g hgp D i x σ H3 hx hI hD
    obtain ⟨y, rfl, h1, h2, h3⟩ := hI
    rw [List.getElem?_map] at hx
    obtain ⟨u, hu, rfl⟩ := Option.map_eq_some_iff.mp hx
    have hi := (List.getElem?_eq_some_iff.mp hu).1
    unfold sDPut
    walk_at "vc"
    refine ⟨_, DPut.k (k := .inr u) h1 (by rw [asK_len]; unfold putAll; rw [List.length_append, List.length_map, List.length_take, sizeLine_eq]; omega), ?_⟩
    rw [hD]
    refine ⟨_, rfl, ?_, h2.mut hp, by rw [upd_ne hgp]; exact h3⟩
    rw [upd_same, putK_new (fresh_at hnd hu)]
    unfold putAll
    rw [List.take_add_one, hu, List.map_append, List.append_assoc]
    rfl
  have one : (((putAll "x" kinds0 kOne).map (·.1)).Nodup) := by decide +kernel
  refine ⟨J_kd p (putAll "x" kinds0 kOne) H, ?_, fun σ H' hm => ?_⟩
  · refine ⟨sz_le (by simp), fun g hg => ⟨g, rfl, ⟨_, st_of upd_same⟩, for_tup (xs := kOne.map V.str) (I_kd p g "x" kinds0 kOne H) ⟨_, rfl, by rw [upd_ne (ne_of_none w1 hg)]; unfold putAll; exact w1, M1.trans (Ex.new hg), upd_same⟩ (fun i σ H2 _ hv => st_of hv.choose_spec.2.2.2) (fun i x σ H2 hx hv => turn _ _ _ one (by decide) g (fun e => by rw [e, w1] at hg; cases hg) _ i x σ H2 hx hv rfl) (fun σ H2 hv => ?_)⟩⟩
    obtain ⟨y, rfl, h1, h2, h3⟩ := hv
    exact ⟨_, rfl, h1, h2⟩
  obtain ⟨y, rfl, h1, h2⟩ := hm
  walk_at "vc"
  refine ⟨J_kd p kindsS H, ?_, fun σ H' hm => ?_⟩
  · refine ⟨sz_le (by simp), fun g hg => ⟨g, rfl, ⟨_, st_of upd_same⟩, for_tup (xs := kTwo.map V.str) (I_kd p g "xy" (putAll "x" kinds0 kOne) kTwo H) ⟨_, rfl, by rw [upd_ne (ne_of_none h1 hg)]; exact h1.trans (by unfold putAll; rfl), h2.trans (Ex.new hg), upd_same⟩ (fun i σ H2 _ hv => st_of hv.choose_spec.2.2.2) (fun i x σ H2 hx hv => turn _ _ _ kinds_nd (by decide) g (fun e => by rw [e, h1] at hg; cases hg) _ i x σ H2 hx hv rfl) (fun σ H2 hv => ?_)⟩⟩
    obtain ⟨y, rfl, h1, h2, h3⟩ := hv
    exact ⟨_, rfl, h1, h2⟩
  obtain ⟨y, rfl, h1, h2⟩ := hm
  walk_at "vc"
  exact h p _ h2 hp h1
end
end My
set_option Elab.async false
set_option linter.all false
set_option maxRecDepth 100000
set_option maxHeartbeats 4000000
set_option exponentiation.threshold 5000
namespace My
open PySem PySem.Spec PyProof.Rows L2 Evl
local macro_rules | `(tactic| walk_at "st") => `(tactic| simp only [L2.start, List.map_cons, List.map_nil, List.length_cons, List.length_nil, Nat.reduceAdd, Nat.reduceSub, List.replicate_succ, List.replicate_zero, List.cons_append, List.nil_append, cxOf, List.append_nil])
local macro_rules | `(tactic| walk_at "vc") => `(tactic| try simp only [tSeq, tAsg, tOp, tUn, tVar, tC, tNil, tCons, gName, rI, rI0, rU, tRet, tIfS, tNot, tAnd, tOr, tB, tTest, tCB, tCall, tAndV, tOrV, tNotV, tNext, tNever, tIf, tChain, tYes, tPart, tNoPart, tPar, tDrop, q_isi, q_vn, q_vb, q_vi, q_vs, kb1, kb2, kb3, kb4, kb5, kb6, kb7, kb8, q_int1, q_int2, q_min, q_max, q_repr, tLst, tTup, rEq, rNe, q_sii, q_sss, q_sbb, q_snn, q_sns, q_ssn, q_ix, q_sl, tSl, tBM, tBM0, q_app, q_pop, gSub, rSetL, L2.wipe, eq_self, decide_true, decide_false, tRevL,
  List.getElem?_cons_succ, List.getElem?_cons_zero, List.set_cons_succ, List.set_cons_zero, Option.some.injEq, exists_eq_left', exists_eq_left, V.int.injEq, V.bl.injEq, V.ref.injEq, V.str.injEq, List.cons.injEq, and_true, true_and, List.append_nil, List.nil_append, List.cons_append, exists_and_left, and_assoc, if_true, if_false, Bool.not_true, Bool.not_false, Bool.false_eq_true, Bool.true_eq_false, reduceIte, tRevL, tPar3, tRevT, tUnl, tCKw, forall_const, Bool.not_eq_true', decide_eq_true_eq, decide_eq_false_iff_not])
section
variable {P : Program} {w : World} {K : PySem.W.Frag} {mg : Str → Option Value} {base : Heap}
variable {a_is_integer a_is_number a_is_name a_are_rows a_needed a_fits a_is_of a_law_deal a_law_draw a_law_pick a_law_words a_law_kinds a_law_put a_law_any a_law_is_name a_law_is_number a_law_are_rows a_law_put_due a_law_ask_due a_law_made a_law_due a_law_told a_law_is_beyond a_law a_Put_init a_If_init a_Times_init a_Ask_init a_Not_init a_InvalidRow_init a_InvalidRow a_FigureError a_InvalidText a_Put a_If a_Times a_Stop a_Ask a_Not a_Row a_Test a_DEEDS a_WORDS a_If_init_d0 : Addr} {d_is_integer d_is_number d_is_name d_are_rows d_needed d_fits d_is_of d_law_deal d_law_draw d_law_pick d_law_words d_law_kinds d_law_put d_law_any d_law_is_name d_law_is_number d_law_are_rows d_law_put_due d_law_ask_due d_law_made d_law_due d_law_told d_law_is_beyond d_law d_Put_init d_If_init d_Times_init d_Ask_init d_Not_init d_InvalidRow_init : FuncData}
/-! ### a row that sets a name -/
def Names (d L nm : Addr) (ns : List Str) (H : Hp) : Prop := H nm = some (.lst (ns.map V.str)) ∧ nm ≠ d ∧ nm ≠ L ∧ 0 < ns.length ∧ ns.length ≤ 1000 ∧ ∀ x ∈ ns, wOk x
theorem Names.mv {d L nm : Addr} {ns : List Str} {H H' : Hp} (N : Names d L nm ns H) (M : Mv3 d L H H') : Names d L nm ns H' := ⟨M.kp _ _ N.2.1 N.2.2.1 N.1, N.2⟩
theorem wOk.name {x : Str} (h : wOk x) : nameOk x := ⟨by have := h.1; omega, h.2⟩
theorem Mv3.kpx {d L : Addr} {H H' : Hp} (D : Deal3 d L H) (M : Mv3 d L H H') : Kp H H' := fun b o no h => by
  obtain ⟨cs, c, z, D⟩ := D
  exact M.kp b o (fun e => by rw [e, D.d] at h; cases h; exact no _ rfl) (fun e => by rw [e, D.l] at h; cases h; exact no _ rfl) h
theorem Ex.unlock {H H' : Hp} {p : Addr} {u x : HO} (h : H p = some u) (e : Ex (upd H p x) H') : Ex H (upd H' p u) := fun b o hb => by
  by_cases eb : b = p
  · rw [eb] at hb ⊢; rw [upd_same, ← h, hb]
  · rw [upd_ne eb]; exact e _ _ (by rw [upd_ne eb]; exact hb)
theorem e_none {H H' : Hp} {a : Addr} (e : Ex H H') (h : H' a = none) : H a = none := by
  cases h1 : H a with
  | none => rfl
  | some u => rw [e _ _ h1] at h; cases h
def deeds : List Str := kindsS.map (·.1)
def kOf (c : Nat) : Str := if (⟨#[c]⟩ : Str) = "k" then "number" else "name"
theorem kinds_tab : ∀ p ∈ kindsS, p.1 ≠ "**" → deedTab.lookup p.1 = some (p.2.cps.toList.map kOf) := by decide +kernel
theorem kinds_len : ∀ p ∈ kindsS, p.2.length ≤ 2 := by decide +kernel
theorem kinds_at : ∀ p ∈ kindsS, (kindsS.find? fun q => decide (q.1 = p.1)) = some p := by decide +kernel
theorem kinds_fig : ∀ p ∈ kindsS, p.1 ≠ "figures" := by decide +kernel
theorem valV_as {ps : List (Str × Str)} {p : Str × Str} (h : (ps.find? fun q => decide (q.1 = p.1)) = some p) : valV (asK ps) (.inr p.1) = some (.str p.2) := by
  unfold valV asK
  rw [List.find?_map]
  have e : ((fun kv : Key × V => decide (kv.1 = .inr p.1)) ∘ fun q : Str × Str => ((.inr q.1 : Key), V.str q.2)) = fun q => decide (q.1 = p.1) := by
    funext q
    simp
  rw [e, h]
  rfl
/-- what the law draws is short -/
def argSm : V → Prop
  | .str x => x.length ≤ 4
  | .int i => 0 ≤ i ∧ i < 2 ^ 100
  | _ => False
def TestM.sm : TestM → Prop
  | .ask w ns => w.length ≤ 8 ∧ ∀ n ∈ ns, n.length ≤ 4
  | .not t => t.sm
mutual
def RowM.sm : RowM → Prop
  | .stop => True
  | .put n d g => n.length ≤ 4 ∧ d.length ≤ 8 ∧ g.length ≤ 6 ∧ ∀ v ∈ g, argSm v
  | .times _ rs => RowM.sms rs
  | .ifr t rs os => t.sm ∧ RowM.sms rs ∧ RowM.sms os
def RowM.sms : List RowM → Prop
  | [] => True
  | r :: rs => r.sm ∧ RowM.sms rs
end
def argOk2 (k : Str) (v : V) : Prop := argOk k v ∧ argSm v
theorem deeds_len : ∀ p ∈ kindsS, p.1.length ≤ 8 := by decide +kernel
def sp_law_put (K : PySem.W.Frag) : Sp
  | [.ref d, .ref nm, .int most], H, Q, _ => ∃ L ns, Deal3 d L H ∧ Names d L nm ns H ∧ 0 ≤ most ∧ most < 2 ^ 100 ∧ ∀ n dd g v H', Mv3 d L H H' → RowT K H' (.put n dd g) v → RowM.ok (.put n dd g) → RowM.sm (.put n dd g) → Q v H'
  | _, _, _, _ => False
def C_kd (p D0 : Addr) (H : Hp) : Nat → Hp → Prop := fun i H' => H' D0 = some (.lst ((deeds.take i).map V.str)) ∧ Ex H H'
theorem ok_law_put (T : Txt w K mg a_is_integer a_is_number a_is_name a_are_rows a_needed a_fits a_is_of a_law_deal a_law_draw a_law_pick a_law_words a_law_kinds a_law_put a_law_any a_law_is_name a_law_is_number a_law_are_rows a_law_put_due a_law_ask_due a_law_made a_law_due a_law_told a_law_is_beyond a_law a_Put_init a_If_init a_Times_init a_Ask_init a_Not_init a_InvalidRow_init a_InvalidRow a_FigureError a_InvalidText a_Put a_If a_Times a_Stop a_Ask a_Not a_Row a_Test a_DEEDS a_WORDS a_If_init_d0 d_is_integer d_is_number d_is_name d_are_rows d_needed d_fits d_is_of d_law_deal d_law_draw d_law_pick d_law_words d_law_kinds d_law_put d_law_any d_law_is_name d_law_is_number d_law_are_rows d_law_put_due d_law_ask_due d_law_made d_law_due d_law_told d_law_is_beyond d_law d_Put_init d_If_init d_Times_init d_Ask_init d_Not_init d_InvalidRow_init) : FnOk P w K mg base CX0 3 a_law_put d_law_put ["_law_deal_here", "_law_names", "_law_most"] (sp_law_put K) := by
  have G_law_draw := ok_law_draw (P := P) (w := w) (base := base) T
  have G_law_pick := ok_law_pick (P := P) (w := w) (base := base) T
  have G_law_kinds := ok_law_kinds (P := P) (w := w) (base := base) T
  refine T.F_law_put.ok sc_law_put (fun vs H Q E h => ?_) (fun cdv A outer s H vs Q E hr h => ?_)
  · unfold sp_law_put at h; split at h; rfl; exact h.elim
  unfold sp_law_put at h; split at h
  case h_2 => exact h.elim
  rename_i d nm most
  obtain ⟨L, ns, D, N, m0, m1, q⟩ := h
  refine ⟨_, (pss_cons (ps_set (i := 3) sc_law_put.nd rfl (by first | exact .inl rfl | exact .inr rfl) (pe_call0 G_law_kinds (hr.mono (by decide)) (by rfl) T.g_law_kinds T.F_law_kinds.kp T.b_law_kinds .nil pass0))
      (pss_cons (ps_set (i := 4) sc_law_put.nd rfl (by first | exact .inl rfl | exact .inr rfl) (pe_call G_law_pick (hr.mono (by decide)) (by rfl) T.g_law_pick T.F_law_pick.kp T.b_law_pick .nil pass0 (pa_cons (pv 0) (pa_cons (pe_op op_cat (pe_callB L2.cr_sortedS (by rfl) T.z_sorted (by decide +kernel) (pa_cons (pe_lock (pe_lc (own := [("_law_one", 8)]) (g := gName 8) (by rfl) sc_law_put.nd (pi_keys (pv 3)) (blkOk_by (own := [("_law_one", 8)]) (N := N_law_put) (sc := defScope s_law_put) (by decide +kernel)) (fun _ _ _ _ _ => (pg_name (i := 8) sc_law_put.nd rfl (by first | exact .inl rfl | exact .inr rfl))) (fun _ _ _ _ _ => pts_nil) (fun _ _ _ _ _ => (pe_callTy call_strA (by rfl) T.z_str (by decide +kernel) (pa_cons (pv 8) pa_nil))))) pa_nil)) (pe_lst (pa_cons pe_str (pa_cons pe_str (pa_cons pe_str (pa_cons pe_str (pa_cons pe_str (pa_cons pe_str pa_nil)))))))) pa_nil))))
      (Evl.pss_cut (ps_if (pt_cmpR op_eq (pv 4) pe_str (nomark _))
      (pss_one (ps_setLc (i := 5) (own := [("_law_k", 9)]) (g := gName 9) (by rfl) sc_law_put.nd rfl rfl (sw_true rfl rfl rfl (by decide +kernel)) (pi_range1 (by rfl) T.z_range (pa_cons (pe_op op_add pe_int (pe_call G_law_draw (hr.mono (by decide)) (by rfl) T.g_law_draw T.F_law_draw.kp T.b_law_draw .nil pass0 (pa_cons (pv 0) (pa_cons pe_int pa_nil)))) pa_nil)) (blkOk_by (own := [("_law_k", 9)]) (N := N_law_put) (sc := defScope s_law_put) (by decide +kernel)) (fun _ _ _ _ _ => (pg_name (i := 9) sc_law_put.nd rfl (by first | exact .inl rfl | exact .inr rfl))) (fun _ _ _ _ _ => pts_nil) (fun _ _ _ _ _ => (pe_call G_law_draw (hr.mono (by decide)) (by rfl) T.g_law_draw T.F_law_draw.kp T.b_law_draw .nil pass0 (pa_cons (pv 0) (pa_cons (pe_ix (ix_listK (K := K)) (pe_lst (pa_cons pe_int (pa_cons pe_int (pa_cons pe_int pa_nil)))) (pe_call G_law_draw (hr.mono (by decide)) (by rfl) T.g_law_draw T.F_law_draw.kp T.b_law_draw .nil pass0 (pa_cons (pv 0) (pa_cons pe_int pa_nil))) (fun _ _ => rfl)) pa_nil))))))
      (pss_one (ps_if (pt_cmpR op_eq (pv 4) pe_str (nomark _))
      (pss_one (ps_set (i := 5) sc_law_put.nd rfl (by first | exact .inl rfl | exact .inr rfl) (pe_lst (pa_cons (pe_call G_law_pick (hr.mono (by decide)) (by rfl) T.g_law_pick T.F_law_pick.kp T.b_law_pick .nil pass0 (pa_cons (pv 0) (pa_cons (pv 1) pa_nil))) (pa_cons (pe_call G_law_draw (hr.mono (by decide)) (by rfl) T.g_law_draw T.F_law_draw.kp T.b_law_draw .nil pass0 (pa_cons (pv 0) (pa_cons pe_int pa_nil))) pa_nil)))))
      (pss_cons (ps_set (i := 5) sc_law_put.nd rfl (by first | exact .inl rfl | exact .inr rfl) (pe_lst pa_nil))
      (pss_one (ps_for PassesOwn.never rfl (pi_str (pe_dget (un1 hr.units) (pv 3) (pv 4) (fun _ _ => rfl))) (pg_name (i := 6) sc_law_put.nd rfl (by first | exact .inl rfl | exact .inr rfl))
      (pss_cons (ps_set (i := 7) sc_law_put.nd rfl (by first | exact .inl rfl | exact .inr rfl) (pe_call G_law_draw (hr.mono (by decide)) (by rfl) T.g_law_draw T.F_law_draw.kp T.b_law_draw .nil pass0 (pa_cons (pv 0) (pa_cons (pe_ifExp (pt_cmpR op_in_seq (pv 4) (pe_tup (pa_cons pe_str (pa_cons pe_str (pa_cons pe_str pa_nil)))) (by rfl)) pe_int (pe_op op_add (pv 2) pe_int)) pa_nil))))
      (pss_one (ps_expr (pe_bm PySem.F.plainAttrs_list PySem.F.slot_list_append PySem.F.type_list_append mt_appendM (pv 5) (pa_cons (pe_ifExp (pt_cmpR op_eq (pv 6) pe_str (nomark _)) (pv 7) (pe_call G_law_pick (hr.mono (by decide)) (by rfl) T.g_law_pick T.F_law_pick.kp T.b_law_pick .nil pass0 (pa_cons (pv 0) (pa_cons (pv 1) pa_nil)))) pa_nil)))))))))))
      (pss_one (ps_ret (pe_tup (pa_cons pe_str (pa_cons (pe_call G_law_pick (hr.mono (by decide)) (by rfl) T.g_law_pick T.F_law_pick.kp T.b_law_pick .nil pass0 (pa_cons (pv 0) (pa_cons (pv 1) pa_nil))) (pa_cons (pv 4) (pa_cons (pe_callTy call_tuple_of (by rfl) T.z_tuple (by decide +kernel) (pa_cons (pv 5) pa_nil)) pa_nil)))))))))), ?_⟩
  walk_at "st"
  walk_at "vc"
  refine fun p H1 e1 hp hk => ?_
  have M1 := Mv3.of_ex D e1
  have nd : p ≠ d ∧ p ≠ L := D.off hp
  refine ⟨p, _, hk, trivial, fun od => ?_⟩
  have eF : Ex H (upd H1 p (.frz od (.dK (asK kindsS)))) := e1.mut hp
  walk_at "vc"
  refine ⟨.ref p, rfl, p, od, rfl, .inl ⟨_, upd_same, fun D0 hD0 => ?_⟩⟩
  have hD0H : H D0 = none := e_none eF hD0
  have npD : p ≠ D0 := fun e => by rw [← e, upd_same] at hD0; cases hD0
  refine lc_it walk_keys (fun i H' => H' D0 = some (.lst ((deeds.take i).map V.str)) ∧ Ex H H' ∧ H' p = some (.frz od (.dK (asK kindsS)))) ⟨upd_same, eF.mut hD0H, by rw [upd_ne npD]; exact upd_same⟩ (fun i H' _ hP => hP.2.2) (fun t v H3 H4 ht hP y => ?_) (fun H3 hP => ?_)
  · obtain ⟨rfl, k, z, hkz, rfl⟩ := y
    unfold asK at hkz
    rw [List.getElem?_map] at hkz
    obtain ⟨⟨x, zz⟩, hx, e⟩ := Option.map_eq_some_iff.mp hkz
    cases e
    have hx2 : deeds[t]? = some x := by unfold deeds; rw [List.getElem?_map, hx]; rfl
    have htl : t < 21 := (List.getElem?_eq_some_iff.mp hx2).1
    walk_at "vc"
    show ∃ acc, H4 D0 = some (HO.lst acc) ∧ acc.length < sizeLine ∧ _ ∧ _ ∧ _
    refine ⟨_, hP.1, sz_lt (by rw [List.length_map, List.length_take]; omega), ?_, hP.2.1.mut hD0H, by rw [upd_ne npD]; exact hP.2.2⟩
    rw [upd_same, List.take_add_one, hx2, List.map_append]
    rfl
  obtain ⟨g1, e3, g3⟩ := hP
  refine ⟨g3, ?_⟩
  rw [show (asK kindsS).length = deeds.length by unfold asK deeds; rw [List.length_map, List.length_map], List.take_length] at g1
  have dl : deeds.length = 21 := rfl
  have e4 : Ex H (upd H3 p (.dK (asK kindsS))) := e3.mut hp
  have k4 : upd H3 p (.dK (asK kindsS)) p = some (.dK (asK kindsS)) := upd_same
  have g4 : upd H3 p (.dK (asK kindsS)) D0 = some (.lst (deeds.map V.str)) := by rw [upd_ne npD.symm]; exact g1
  generalize upd H3 p (.dK (asK kindsS)) = H4 at *
  refine ⟨D0, deeds, rfl, sq_of g4, by rw [dl]; decide, fun ys s1 perm _ hs1 => ?_⟩
  have e5 := e4.trans (Ex.new hs1 (o := .lst (ys.map V.str)))
  have w5 : upd H4 s1 (.lst (ys.map V.str)) s1 = some (.lst (ys.map V.str)) := upd_same
  have k5 := Ex.new hs1 (o := .lst (ys.map V.str)) _ _ k4
  generalize upd H4 s1 (.lst (ys.map V.str)) = H5 at *
  refine ⟨sz_le (by decide), fun s2 hs2 => ?_⟩
  have e6 := e5.trans (Ex.new hs2 (o := .lst [.str "figures", .str "figures", .str "+", .str "-", .str "*", .str "number"]))
  have w6 : upd H5 s2 (.lst [.str "figures", .str "figures", .str "+", .str "-", .str "*", .str "number"]) s2 = some (.lst [.str "figures", .str "figures", .str "+", .str "-", .str "*", .str "number"]) := upd_same
  have w5' := Ex.new hs2 (o := .lst [.str "figures", .str "figures", .str "+", .str "-", .str "*", .str "number"]) _ _ w5
  have k6 := Ex.new hs2 (o := .lst [.str "figures", .str "figures", .str "+", .str "-", .str "*", .str "number"]) _ _ k5
  generalize upd H5 s2 (.lst [.str "figures", .str "figures", .str "+", .str "-", .str "*", .str "number"]) = H6 at *
  have yl : ys.length = 21 := by rw [perm.length_eq, dl]
  refine ⟨s1, s2, _, _, rfl, rfl, w5', w6, sz_le (by rw [List.length_map, yl]; decide), fun s3 hs3 => ?_⟩
  have M7 := Mv3.of_ex D (e6.trans (Ex.new hs3 (o := .lst (ys.map V.str ++ [.str "figures", .str "figures", .str "+", .str "-", .str "*", .str "number"]))))
  have w7 : upd H6 s3 (.lst (ys.map V.str ++ [.str "figures", .str "figures", .str "+", .str "-", .str "*", .str "number"])) s3 = some (.lst (ys.map V.str ++ [.str "figures", .str "figures", .str "+", .str "-", .str "*", .str "number"])) := upd_same
  have k7 := Ex.new hs3 (o := .lst (ys.map V.str ++ [.str "figures", .str "figures", .str "+", .str "-", .str "*", .str "number"])) _ _ k6
  have os3 := D.off (e_none e6 hs3)
  generalize upd H6 s3 (.lst (ys.map V.str ++ [.str "figures", .str "figures", .str "+", .str "-", .str "*", .str "number"])) = H7 at *
  refine ⟨L, M7.dl, .inl ⟨s3, _, rfl, w7, os3.1, os3.2, by simp, by rw [List.length_append, List.length_map, yl]; decide, fun v H8 hv M8 => ?_⟩⟩
  obtain ⟨x, rfl, hx⟩ : ∃ x, v = .str x ∧ (x = "figures" ∨ ∃ z, (x, z) ∈ kindsS) := by
    have inD : ∀ x, x ∈ deeds → ∃ z, (x, z) ∈ kindsS := fun x hx => by
      obtain ⟨⟨a, z⟩, h1, h2⟩ := List.mem_map.mp hx
      cases h2
      exact ⟨z, h1⟩
    rcases List.mem_append.mp hv with hv | hv
    · obtain ⟨x, hx, rfl⟩ := List.mem_map.mp hv
      exact ⟨x, rfl, .inr (inD x (perm.mem_iff.mp hx))⟩
    · simp only [List.mem_cons, List.not_mem_nil, or_false] at hv
      rcases hv with rfl | rfl | rfl | rfl | rfl | rfl
      · exact ⟨_, rfl, .inl rfl⟩
      · exact ⟨_, rfl, .inl rfl⟩
      · exact ⟨_, rfl, .inr (inD _ (by decide +kernel))⟩
      · exact ⟨_, rfl, .inr (inD _ (by decide +kernel))⟩
      · exact ⟨_, rfl, .inr (inD _ (by decide +kernel))⟩
      · exact ⟨_, rfl, .inr (inD _ (by decide +kernel))⟩
  have k8 := M8.kp _ _ nd.1 nd.2 k7
  have M := M7.trans M8
  clear hv w7 w5' w6 k7 k6 k5 k4 w5 g4 g1 g3 e3 e4 e5 e6 M8 M7 hs3 hs2 hs1 perm yl
  have N8 := N.mv M
  refine ⟨fun σ H' => ∃ a g x6 x7 x8 x9, σ = [some (.ref d), some (.ref nm), some (.int most), some (.ref p), some (.str x), some (.ref a), x6, x7, x8, x9] ∧ H' a = some (.lst g) ∧ a ≠ d ∧ a ≠ L ∧ (∃ ks, kindsFor x g.length = some ks ∧ All2T argOk2 ks g) ∧ g.length ≤ 6 ∧ Mv3 d L H H', ?_, fun σ H9 hm => ?_⟩
  · walk_at "vc"
    refine ite2 (fun ex => ?_) (fun nf => ite2 (fun ex => ?_) (fun nx => ?_))
    · refine ⟨_, rfl, L, M.dl, by decide, by decide, fun v H9 v0 v1 M9 => ?_⟩
      obtain ⟨m, hm⟩ : ∃ m : Nat, 1 + v = (m : Int) := ⟨(1 + v).toNat, by omega⟩
      refine ⟨_, _, rfl, rfl, _, rfl, by omega, by omega, fun D1 hD1 => ?_⟩
      have oD := M9.dl.off hD1
      rw [hm]
      refine lc_range (lo := 0) (n := m) (fun i H' => ∃ g, H' D1 = some (.lst g) ∧ g.length = i ∧ All2T argOk2 (List.replicate i "number") g ∧ Mv3 d L H9 H') ⟨[], upd_same, rfl, trivial, Mv3.of_ex M9.dl (Ex.new hD1)⟩ (fun t H10 ht hI => ?_) (fun H10 hI => ?_)
      · obtain ⟨g, h1, h2, h3, M10⟩ := hI
        walk_at "vc"
        refine ⟨sz_le (by simp), fun q0 hq0 => ?_⟩
        have w0 : upd H10 q0 (.lst [.int 3, .int 10, .int 36]) q0 = some (.lst [.int 3, .int 10, .int 36]) := upd_same
        have h1' := Ex.new hq0 (o := .lst [.int 3, .int 10, .int 36]) _ _ h1
        have oq := M10.dl.off hq0
        have M11 := M10.new hq0 (o := .lst [.int 3, .int 10, .int 36])
        generalize upd H10 q0 (.lst [.int 3, .int 10, .int 36]) = H11 at *
        refine ⟨L, M11.dl, by decide, by decide, fun j H12 j0 j1 M12 => ?_⟩
        obtain ⟨k, rfl⟩ : ∃ k : Nat, j = (k : Int) := ⟨j.toNat, by omega⟩
        obtain ⟨b, hb, b0, b1⟩ : ∃ b : Int, ([.int 3, .int 10, .int 36] : List V)[k]? = some (.int b) ∧ 0 < b ∧ b ≤ 36 := by
          match k, (by omega : k < 3) with
          | 0, _ => exact ⟨3, rfl, by decide, by decide⟩
          | 1, _ => exact ⟨10, rfl, by decide, by decide⟩
          | 2, _ => exact ⟨36, rfl, by decide, by decide⟩
        refine ⟨_, _, sq_of (M12.kp _ _ oq.1 oq.2 w0), atI_nat hb, L, M12.dl, b0, by omega, fun f H13 f0 f1 M13 => ?_⟩
        refine ⟨g, M13.kp _ _ oD.1 oD.2 (M12.kp _ _ oD.1 oD.2 h1'), sz_lt (by omega), g ++ [.int f], upd_same, by rw [List.length_append, h2]; rfl, ?_, ((M11.trans M12).trans M13).mut hD1 oD.1 oD.2⟩
        rw [List.replicate_succ']
        exact h3.snoc ⟨.inr ⟨rfl, f, rfl, f0, reprOk (by omega) (by omega)⟩, f0, by omega⟩
      · obtain ⟨g, h1, h2, h3, M10⟩ := hI
        refine ⟨D1, rfl, g, h1, oD.1, oD.2, ⟨List.replicate m "number", ?_, h3⟩, by omega, (M.trans M9).trans M10⟩
        rw [ex, h2]
        unfold kindsFor
        rw [if_pos rfl, if_neg (by omega)]
    · refine ⟨L, M.dl, .inl ⟨nm, _, rfl, N8.1, N.2.1, N.2.2.1, by rw [List.length_map]; exact N.2.2.2.1, by rw [List.length_map]; exact N.2.2.2.2.1, fun v H9 hv M9 => ?_⟩⟩
      obtain ⟨y, hy, rfl⟩ := List.mem_map.mp hv
      refine ⟨L, M9.dl, by decide, by decide, fun f H10 f0 f1 M10 => ⟨sz_le (by simp), fun a ha => ?_⟩⟩
      have oa := M10.dl.off ha
      refine ⟨_, upd_same, oa.1, oa.2, ⟨["name", "number"], ?_, ⟨.inl ⟨rfl, y, rfl, (N.2.2.2.2.2 y hy).name⟩, (N.2.2.2.2.2 y hy).1⟩, ⟨.inr ⟨rfl, f, rfl, f0, reprOk (by omega) (by omega)⟩, f0, by omega⟩, trivial⟩, by simp, ((M.trans M9).trans M10).new ha⟩
      rw [ex]
      show deedTab.lookup ("**" : Str) = _
      decide +kernel
    · refine ⟨sz_le (by simp), fun a ha => ?_⟩
      have oa := M.dl.off ha
      obtain ⟨z, hz⟩ := hx.resolve_left nf
      have hks := kinds_tab _ hz nx
      have hzl := kinds_len _ hz
      have hn := kinds_fig _ hz
      have k9 := Ex.new ha (o := .lst []) _ _ k8
      have w9 : upd H8 a (.lst []) a = some (.lst []) := upd_same
      have M9 := M.new ha (o := .lst [])
      have haH := M.free ha
      generalize upd H8 a (.lst []) = H9 at *
      refine ⟨.ref p, rfl, .str x, rfl, p, .str z, rfl, ?_, z, rfl, ?_⟩
      · have := DGet.k (k := .inr x) k9
        rw [valV_as (kinds_at _ hz)] at this
        exact this
      refine for_it walk_str (fun i σ H' => ∃ x6 x7, σ = [some (.ref d), some (.ref nm), some (.int most), some (.ref p), some (.str x), some (.ref a), x6, x7, none, none] ∧ ∃ g, H' a = some (.lst g) ∧ g.length = i ∧ All2T argOk2 ((z.cps.toList.map kOf).take i) g ∧ Mv3 d L H H') ⟨_, _, rfl, [], w9, rfl, trivial, M9⟩ (fun _ _ _ _ _ => trivial) (fun t v σ H10 H11 ht hP y => ?_) (fun σ H10 hP => ?_)
      · obtain ⟨rfl, c, hc, rfl⟩ := y
        obtain ⟨x6, x7, rfl, g, h1, h2, h3, M10⟩ := hP
        walk_at "vc"
        refine ⟨sz_le (by simp), fun q0 hq0 => ?_⟩
        have w0 : upd H11 q0 (.tup [.str "figure", .str "first", .str "last"]) q0 = some (.tup [.str "figure", .str "first", .str "last"]) := upd_same
        have h1' := Ex.new hq0 (o := .tup [.str "figure", .str "first", .str "last"]) _ _ h1
        have M11 := M10.new hq0 (o := .tup [.str "figure", .str "first", .str "last"])
        generalize upd H11 q0 (.tup [.str "figure", .str "first", .str "last"]) = H12 at *
        have hk1 : (z.cps.toList.map kOf)[t]? = some (kOf c) := by
          rw [List.getElem?_map, Array.getElem?_toList, hc]; rfl
        have hg : g.length < 1000 := by
          have : z.cps.size ≤ 2 := hzl
          omega
        have add : ∀ v, argOk2 (kOf c) v → All2T argOk2 ((z.cps.toList.map kOf).take (t + 1)) (g ++ [v]) := fun v hv => by
          rw [List.take_add_one, hk1]
          exact h3.snoc hv
        refine ⟨q0, _, rfl, .inr (st_of w0), rfl, rfl, _, rfl, ite2 (fun _ => ?_) (fun _ => ?_)⟩
        all_goals
          refine ⟨L, M11.dl, by omega, by omega, fun f H13 f0 f1 M13 => ?_⟩
          have h1'' := M13.kp _ _ oa.1 oa.2 h1'
          refine ⟨.inl ⟨rfl, _, sq_of h1''⟩, ite2 (fun ek => ?_) (fun ek => ?_)⟩
          · refine ⟨g, h1'', sz_lt (by omega), g ++ [.int f], upd_same, by rw [List.length_append, h2]; rfl, add _ ?_, (M11.trans M13).mut haH oa.1 oa.2⟩
            unfold kOf
            rw [if_pos ek]
            exact ⟨.inr ⟨rfl, f, rfl, f0, reprOk (by omega) (by omega)⟩, f0, by omega⟩
          · have N13 := N.mv (M11.trans M13)
            refine ⟨L, M13.dl, .inl ⟨nm, _, rfl, N13.1, N.2.1, N.2.2.1, by rw [List.length_map]; exact N.2.2.2.1, by rw [List.length_map]; exact N.2.2.2.2.1, fun v H14 hv M14 => ?_⟩⟩
            obtain ⟨y, hy, rfl⟩ := List.mem_map.mp hv
            refine ⟨g, M14.kp _ _ oa.1 oa.2 h1'', sz_lt (by omega), g ++ [.str y], upd_same, by rw [List.length_append, h2]; rfl, add _ ?_, ((M11.trans M13).trans M14).mut haH oa.1 oa.2⟩
            unfold kOf
            rw [if_neg ek]
            exact ⟨.inl ⟨rfl, y, rfl, (N.2.2.2.2.2 y hy).name⟩, (N.2.2.2.2.2 y hy).1⟩
      · obtain ⟨x6, x7, rfl, g, h1, h2, h3, M10⟩ := hP
        refine ⟨a, g, _, _, _, _, rfl, h1, oa.1, oa.2, ⟨z.cps.toList.map kOf, ?_, ?_⟩, ?_, M10⟩
        · unfold kindsFor
          rw [if_neg nf]
          exact hks
        · rw [List.take_of_length_le (by rw [List.length_map]; simp)] at h3
          exact h3
        · have : z.cps.size ≤ 2 := hzl
          omega
  · obtain ⟨a, g, x6, x7, x8, x9, rfl, ha, ad, aL, hk, gl, M9⟩ := hm
    walk_at "vc"
    refine ⟨L, M9.dl, .inl ⟨nm, _, rfl, (N.mv M9).1, N.2.1, N.2.2.1, by rw [List.length_map]; exact N.2.2.2.1, by rw [List.length_map]; exact N.2.2.2.2.1, fun v H10 hv M10 => ?_⟩⟩
    obtain ⟨y, hy, rfl⟩ := List.mem_map.mp hv
    refine ⟨g, .inl ⟨sq_of (M10.kp _ _ ad aL ha), fun l hl => ⟨sz_le (by simp), fun r hr => q y x g _ _ (((M9.trans M10).new hl).new hr) ⟨r, l, rfl, st_of upd_same, st_of (Ex.new hr _ _ upd_same)⟩ ?_ ?_⟩⟩⟩
    · obtain ⟨ks, e1, e2⟩ := hk
      unfold RowM.ok
      exact ⟨(N.2.2.2.2.2 y hy).name, ⟨ks, e1, e2.imp fun _ _ z => z.1⟩, by omega⟩
    · obtain ⟨ks, e1, e2⟩ := hk
      unfold RowM.sm
      refine ⟨(N.2.2.2.2.2 y hy).1, ?_, gl, fun v hv => ?_⟩
      · rcases hx with rfl | ⟨z, hz⟩
        · decide
        · exact deeds_len _ hz
      · obtain ⟨i, hi⟩ := List.mem_iff_getElem?.mp hv
        obtain ⟨k, _, ok⟩ := e2.at_ hi
        exact ok.2
end
end My
set_option Elab.async false
set_option linter.all false
set_option maxRecDepth 100000
set_option maxHeartbeats 4000000
set_option exponentiation.threshold 5000
namespace My
open PySem PySem.Spec PyProof.Rows L2 Evl
local macro_rules | `(tactic| walk_at "st") => `(tactic| simp only [L2.start, List.map_cons, List.map_nil, List.length_cons, List.length_nil, Nat.reduceAdd, Nat.reduceSub, List.replicate_succ, List.replicate_zero, List.cons_append, List.nil_append, cxOf, List.append_nil])
local macro_rules | `(tactic| walk_at "vc") => `(tactic| try simp only [tSeq, tAsg, tOp, tUn, tVar, tC, tNil, tCons, gName, rI, rI0, rU, tRet, tIfS, tNot, tAnd, tOr, tB, tTest, tCB, tCall, tAndV, tOrV, tNotV, tNext, tNever, tIf, tChain, tYes, tPart, tNoPart, tPar, tDrop, q_isi, q_vn, q_vb, q_vi, q_vs, kb1, kb2, kb3, kb4, kb5, kb6, kb7, kb8, q_int1, q_int2, q_min, q_max, q_repr, tLst, tTup, rEq, rNe, q_sii, q_sss, q_sbb, q_snn, q_sns, q_ssn, q_ix, q_sl, tSl, tBM, tBM0, q_app, q_pop, gSub, rSetL, L2.wipe, eq_self, decide_true, decide_false, tRevL,
  List.getElem?_cons_succ, List.getElem?_cons_zero, List.set_cons_succ, List.set_cons_zero, Option.some.injEq, exists_eq_left', exists_eq_left, V.int.injEq, V.bl.injEq, V.ref.injEq, V.str.injEq, List.cons.injEq, and_true, true_and, List.append_nil, List.nil_append, List.cons_append, exists_and_left, and_assoc, if_true, if_false, Bool.not_true, Bool.not_false, Bool.false_eq_true, Bool.true_eq_false, reduceIte, tRevL, tPar3, tRevT, tUnl, tCKw, forall_const, Bool.not_eq_true', decide_eq_true_eq, decide_eq_false_iff_not])
section
variable {P : Program} {w : World} {K : PySem.W.Frag} {mg : Str → Option Value} {base : Heap}
variable {a_is_integer a_is_number a_is_name a_are_rows a_needed a_fits a_is_of a_law_deal a_law_draw a_law_pick a_law_words a_law_kinds a_law_put a_law_any a_law_is_name a_law_is_number a_law_are_rows a_law_put_due a_law_ask_due a_law_made a_law_due a_law_told a_law_is_beyond a_law a_Put_init a_If_init a_Times_init a_Ask_init a_Not_init a_InvalidRow_init a_InvalidRow a_FigureError a_InvalidText a_Put a_If a_Times a_Stop a_Ask a_Not a_Row a_Test a_DEEDS a_WORDS a_If_init_d0 : Addr} {d_is_integer d_is_number d_is_name d_are_rows d_needed d_fits d_is_of d_law_deal d_law_draw d_law_pick d_law_words d_law_kinds d_law_put d_law_any d_law_is_name d_law_is_number d_law_are_rows d_law_put_due d_law_ask_due d_law_made d_law_due d_law_told d_law_is_beyond d_law d_Put_init d_If_init d_Times_init d_Ask_init d_Not_init d_InvalidRow_init : FuncData}
/-! ### any values, drawn -/
def BdA (d L : Addr) (H : Hp) : Addr → Prop := fun b => (b = d ∨ b = L) ∨ H b ≠ none
theorem nbd {d L : Addr} {H : Hp} (D : Deal3 d L H) {l : Addr} (hl : H l = none) : ¬ BdA d L H l := fun z => by
  have ol := D.off hl
  rcases z with (z | z) | z
  · exact ol.1 z
  · exact ol.2 z
  · exact z hl
theorem AO.mv3 {A : ClsA} {d L : Addr} {H0 H H' : Hp} {m : AM} {v : V} (h : AO A (BdA d L H0) H m v) (M : Mv3 d L H H') : AO A (BdA d L H0) H' m v :=
  h.keep fun b o nb hb => M.kp b o (fun e => nb (.inl (.inl e))) (fun e => nb (.inl (.inr e))) hb
/-- an own object, made: what was there is there -/
theorem offEx {H H' : Hp} {x dx : Addr} {o1 o2 : HO} (hx : H x = none) (hdx : H dx = none) (hne : dx ≠ x) (o : Off x (L2.upd (L2.upd H dx o1) x o2) H') : Ex H H' := fun b u hb => by
  have h1 : b ≠ x := fun e => by rw [e, hx] at hb; cases hb
  have h2 : b ≠ dx := fun e => by rw [e, hdx] at hb; cases hb
  exact o b u h1 (by rw [upd_ne h1, upd_ne h2]; exact hb)
theorem offEx3 {H H' : Hp} {x dx p : Addr} {o1 o2 o3 : HO} (hx : H x = none) (hdx : H dx = none) (hne : dx ≠ x) (hp : L2.upd (L2.upd H dx o1) x o2 p = none) (o : Off x (L2.upd (L2.upd (L2.upd H dx o1) x o2) p o3) H') : Ex H H' :=
  offEx hx hdx hne fun b u n h => o b u n (by rw [upd_ne (fun e => by rw [e, hp] at h; cases h)]; exact h)
def spA (A : ClsA) (n : Nat) : Sp := fun vs H Q _ => ∃ d L, vs = [.ref d, .int n] ∧ Deal3 d L H ∧ n ≤ 2 ∧ ∀ m v H', Mv3 d L H H' → AO A (BdA d L H) H' m v → Q v H'
def spN (A : ClsA) : Nat → Sp
  | 0 => fun _ _ _ _ => False
  | n + 1 => spA A n
theorem AO.sr {A : ClsA} {bad : Addr → Prop} {H : Hp} {x : Str} (h : x.length ≤ 100) : AO A bad H (.str x) (.str x) := by unfold AO; exact ⟨rfl, h⟩
theorem AO.in {A : ClsA} {bad : Addr → Prop} {H : Hp} {i : Int} (h : i.natAbs < 2 ^ 100) : AO A bad H (.int i) (.int i) := by unfold AO; exact ⟨rfl, h⟩
theorem AO.nn {A : ClsA} {bad : Addr → Prop} {H : Hp} : AO A bad H .non .non := by unfold AO; rfl
theorem AO.bb {A : ClsA} {bad : Addr → Prop} {H : Hp} {b : Bool} : AO A bad H (.bl b) (.bl b) := by unfold AO; rfl
theorem AO.ls {A : ClsA} {bad : Addr → Prop} {H : Hp} {a : Addr} {ms : List AM} {vs : List V} (nb : ¬ bad a) (h : H a = some (.lst vs)) (hl : vs.length ≤ 100) (t : AOs A bad H ms vs) : AO A bad H (.seq true ms) (.ref a) := by unfold AO; exact ⟨a, vs, rfl, nb, h, hl, t⟩
theorem AO.tp {A : ClsA} {bad : Addr → Prop} {H : Hp} {a : Addr} {ms : List AM} {vs : List V} (nb : ¬ bad a) (h : H a = some (.tup vs)) (hl : vs.length ≤ 100) (t : AOs A bad H ms vs) : AO A bad H (.seq false ms) (.ref a) := by unfold AO; exact ⟨a, vs, rfl, nb, h, hl, t⟩
theorem newStop {C : Addr} {σ : L2.St} {H1 : Hp} {Q : VK} (q : ∀ x H2, Ex H1 H2 → H1 x = none → (∃ dx, H2 x = some (.ins C dx [])) → Q (.ref x) H2) : tNew0 C σ H1 Q := fun x dx h1 h2 h3 =>
  q x _ ((Ex.new h2).trans (Ex.new (by rw [upd_ne (Ne.symm h3)]; exact h1))) h1 ⟨dx, upd_same⟩
theorem exMade {H1 : Hp} {x dx : Addr} {o1 o2 : HO} (hx : H1 x = none) (hdx : H1 dx = none) (hne : dx ≠ x) : Ex H1 (L2.upd (L2.upd H1 dx o1) x o2) := (Ex.new hdx).trans (Ex.new (by rw [upd_ne (Ne.symm hne)]; exact hx))
/-- an own object is made of these arguments -/
def MakeP (C : Addr) (sp : Sp) (E : XK) (vs : List V) (H1 : Hp) (Q : VK) : Prop := ∀ x dx, H1 x = none → H1 dx = none → dx ≠ x → sp (V.ref x :: vs) (L2.upd (L2.upd H1 dx (.own x)) x (.ins C dx [])) (fun v H2 => v = .non ∧ Q (.ref x) H2) E
theorem tMakeS_of {C : Addr} {sp : Sp} {E : L2.St → XK} {t : TA} {σ : L2.St} {H : Hp} {Q : VK} (h : t σ H fun vs H1 => MakeP C sp (E σ) vs H1 Q) : tMakeS C sp E t σ H Q := h
/-- Put(n, d, ..), made or refused -/
theorem makePut (T : Txt w K mg a_is_integer a_is_number a_is_name a_are_rows a_needed a_fits a_is_of a_law_deal a_law_draw a_law_pick a_law_words a_law_kinds a_law_put a_law_any a_law_is_name a_law_is_number a_law_are_rows a_law_put_due a_law_ask_due a_law_made a_law_due a_law_told a_law_is_beyond a_law a_Put_init a_If_init a_Times_init a_Ask_init a_Not_init a_InvalidRow_init a_InvalidRow a_FigureError a_InvalidText a_Put a_If a_Times a_Stop a_Ask a_Not a_Row a_Test a_DEEDS a_WORDS a_If_init_d0 d_is_integer d_is_number d_is_name d_are_rows d_needed d_fits d_is_of d_law_deal d_law_draw d_law_pick d_law_words d_law_kinds d_law_put d_law_any d_law_is_name d_law_is_number d_law_are_rows d_law_put_due d_law_ask_due d_law_made d_law_due d_law_told d_law_is_beyond d_law d_Put_init d_If_init d_Times_init d_Ask_init d_Not_init d_InvalidRow_init) {H1 : Hp} {n d : V} {rest : List V} {mn md : AM} {ms : List AM} {bad : Addr → Prop} {Q : VK} {E : XK} (hn : AO ⟨a_Put, a_If, a_Times, a_Stop, a_Ask, a_Not⟩ bad H1 mn n) (hd : AO ⟨a_Put, a_If, a_Times, a_Stop, a_Ask, a_Not⟩ bad H1 md d) (hs : AOs ⟨a_Put, a_If, a_Times, a_Stop, a_Ask, a_Not⟩ bad H1 ms rest) (hl : rest.length ≤ 900)
    (q : Res a_InvalidRow E H1 (putDue mn md ms) (∀ x H2, Ex H1 H2 → H1 x = none → (∃ dx fs, H2 x = some (.ins a_Put dx fs)) → Q (.ref x) H2)) :
    MakeP a_Put (fun vs H Q E => ∃ ws rest, vs = ws ++ rest ∧ ws.length = 3 ∧ rest.length ≤ sizeLine ∧ ∀ p, H p = none → sp_Put_init K ⟨a_Put, a_If, a_Times, a_Stop, a_Ask, a_Not⟩ a_InvalidRow (ws ++ [V.ref p]) (L2.upd H p (.tup rest)) Q E) E (n :: d :: rest) H1 Q := by
  intro x dx hx hdx hne
  refine ⟨[V.ref x, n, d], rest, rfl, rfl, sz_le (by omega), fun p hp => ?_⟩
  have e1 := exMade (o1 := .own x) (o2 := .ins a_Put dx []) hx hdx hne
  have e := e1.trans (Ex.new hp (o := .tup rest))
  have hxp : x ≠ p := fun z => by rw [← z, upd_same] at hp; cases hp
  refine ⟨dx, bad, mn, md, rest, ms, by rw [upd_ne hxp, upd_same], hn.ex e, hd.ex e, st_of upd_same, hs.ex e, by omega, ?_⟩
  cases hdue : putDue mn md ms with
  | none =>
    rw [hdue] at q
    exact fun H3 fs o hi => ⟨rfl, q x H3 (offEx3 hx hdx hne hp o) hx ⟨dx, fs, hi⟩⟩
  | some wd =>
    rw [hdue] at q
    exact fun H' d' e' hd' => q H' d' (e.trans e') hd'
theorem makeAsk (T : Txt w K mg a_is_integer a_is_number a_is_name a_are_rows a_needed a_fits a_is_of a_law_deal a_law_draw a_law_pick a_law_words a_law_kinds a_law_put a_law_any a_law_is_name a_law_is_number a_law_are_rows a_law_put_due a_law_ask_due a_law_made a_law_due a_law_told a_law_is_beyond a_law a_Put_init a_If_init a_Times_init a_Ask_init a_Not_init a_InvalidRow_init a_InvalidRow a_FigureError a_InvalidText a_Put a_If a_Times a_Stop a_Ask a_Not a_Row a_Test a_DEEDS a_WORDS a_If_init_d0 d_is_integer d_is_number d_is_name d_are_rows d_needed d_fits d_is_of d_law_deal d_law_draw d_law_pick d_law_words d_law_kinds d_law_put d_law_any d_law_is_name d_law_is_number d_law_are_rows d_law_put_due d_law_ask_due d_law_made d_law_due d_law_told d_law_is_beyond d_law d_Put_init d_If_init d_Times_init d_Ask_init d_Not_init d_InvalidRow_init) {H1 : Hp} {u : V} {rest : List V} {mw : AM} {ms : List AM} {bad : Addr → Prop} {Q : VK} {E : XK} (hn : AO ⟨a_Put, a_If, a_Times, a_Stop, a_Ask, a_Not⟩ bad H1 mw u) (hs : AOs ⟨a_Put, a_If, a_Times, a_Stop, a_Ask, a_Not⟩ bad H1 ms rest) (hl : rest.length ≤ 900)
    (q : Res a_InvalidRow E H1 (askDue mw ms) (∀ x H2, Ex H1 H2 → H1 x = none → (∃ dx fs, H2 x = some (.ins a_Ask dx fs)) → Q (.ref x) H2)) :
    MakeP a_Ask (fun vs H Q E => ∃ ws rest, vs = ws ++ rest ∧ ws.length = 2 ∧ rest.length ≤ sizeLine ∧ ∀ p, H p = none → sp_Ask_init K ⟨a_Put, a_If, a_Times, a_Stop, a_Ask, a_Not⟩ a_InvalidRow (ws ++ [V.ref p]) (L2.upd H p (.tup rest)) Q E) E (u :: rest) H1 Q := by
  intro x dx hx hdx hne
  refine ⟨[V.ref x, u], rest, rfl, rfl, sz_le (by omega), fun p hp => ?_⟩
  have e1 := exMade (o1 := .own x) (o2 := .ins a_Ask dx []) hx hdx hne
  have e := e1.trans (Ex.new hp (o := .tup rest))
  have hxp : x ≠ p := fun z => by rw [← z, upd_same] at hp; cases hp
  refine ⟨dx, bad, mw, rest, ms, by rw [upd_ne hxp, upd_same], hn.ex e, st_of upd_same, hs.ex e, by omega, ?_⟩
  cases hdue : askDue mw ms with
  | none =>
    rw [hdue] at q
    exact fun H3 fs o hi => ⟨rfl, q x H3 (offEx3 hx hdx hne hp o) hx ⟨dx, fs, hi⟩⟩
  | some wd =>
    rw [hdue] at q
    exact fun H' d' e' hd' => q H' d' (e.trans e') hd'
theorem resMade {CE C x dx : Addr} {E : XK} {H1 : Hp} {due : Option Str} {Q : VK} (hx : H1 x = none) (hdx : H1 dx = none) (hne : dx ≠ x) (q : Res CE E H1 due (∀ x H2, Ex H1 H2 → H1 x = none → (∃ dx fs, H2 x = some (.ins C dx fs)) → Q (.ref x) H2)) :
    Res CE E (L2.upd (L2.upd H1 dx (.own x)) x (.ins C dx [])) due (∀ H3 fs, Off x (L2.upd (L2.upd H1 dx (.own x)) x (.ins C dx [])) H3 → H3 x = some (.ins C dx fs) → (V.non = V.non ∧ Q (.ref x) H3)) := by
  cases due with
  | none => exact fun H3 fs o hi => ⟨rfl, q x H3 (offEx hx hdx hne o) hx ⟨dx, fs, hi⟩⟩
  | some wd => exact fun H' d' e' hd' => q H' d' ((exMade hx hdx hne).trans e') hd'
theorem makeNot (T : Txt w K mg a_is_integer a_is_number a_is_name a_are_rows a_needed a_fits a_is_of a_law_deal a_law_draw a_law_pick a_law_words a_law_kinds a_law_put a_law_any a_law_is_name a_law_is_number a_law_are_rows a_law_put_due a_law_ask_due a_law_made a_law_due a_law_told a_law_is_beyond a_law a_Put_init a_If_init a_Times_init a_Ask_init a_Not_init a_InvalidRow_init a_InvalidRow a_FigureError a_InvalidText a_Put a_If a_Times a_Stop a_Ask a_Not a_Row a_Test a_DEEDS a_WORDS a_If_init_d0 d_is_integer d_is_number d_is_name d_are_rows d_needed d_fits d_is_of d_law_deal d_law_draw d_law_pick d_law_words d_law_kinds d_law_put d_law_any d_law_is_name d_law_is_number d_law_are_rows d_law_put_due d_law_ask_due d_law_made d_law_due d_law_told d_law_is_beyond d_law d_Put_init d_If_init d_Times_init d_Ask_init d_Not_init d_InvalidRow_init) {H1 : Hp} {u : V} {m : AM} {bad : Addr → Prop} {Q : VK} {E : XK} (hn : AO ⟨a_Put, a_If, a_Times, a_Stop, a_Ask, a_Not⟩ bad H1 m u)
    (q : Res a_InvalidRow E H1 (if m.isT = true then none else some "test") (∀ x H2, Ex H1 H2 → H1 x = none → (∃ dx fs, H2 x = some (.ins a_Not dx fs)) → Q (.ref x) H2)) :
    MakeP a_Not (sp_Not_init K ⟨a_Put, a_If, a_Times, a_Stop, a_Ask, a_Not⟩ a_InvalidRow) E [u] H1 Q := fun x dx hx hdx hne =>
  ⟨dx, bad, m, upd_same, hn.ex (exMade hx hdx hne), resMade hx hdx hne q⟩
theorem makeTimes (T : Txt w K mg a_is_integer a_is_number a_is_name a_are_rows a_needed a_fits a_is_of a_law_deal a_law_draw a_law_pick a_law_words a_law_kinds a_law_put a_law_any a_law_is_name a_law_is_number a_law_are_rows a_law_put_due a_law_ask_due a_law_made a_law_due a_law_told a_law_is_beyond a_law a_Put_init a_If_init a_Times_init a_Ask_init a_Not_init a_InvalidRow_init a_InvalidRow a_FigureError a_InvalidText a_Put a_If a_Times a_Stop a_Ask a_Not a_Row a_Test a_DEEDS a_WORDS a_If_init_d0 d_is_integer d_is_number d_is_name d_are_rows d_needed d_fits d_is_of d_law_deal d_law_draw d_law_pick d_law_words d_law_kinds d_law_put d_law_any d_law_is_name d_law_is_number d_law_are_rows d_law_put_due d_law_ask_due d_law_made d_law_due d_law_told d_law_is_beyond d_law d_Put_init d_If_init d_Times_init d_Ask_init d_Not_init d_InvalidRow_init) {H1 : Hp} {u v : V} {m : AM} {b : Bool} {bad : Addr → Prop} {Q : VK} {E : XK} (hn : AO ⟨a_Put, a_If, a_Times, a_Stop, a_Ask, a_Not⟩ bad H1 m u) (hv : RV K ⟨a_Put, a_If, a_Times, a_Stop, a_Ask, a_Not⟩ H1 v b)
    (q : Res a_InvalidRow E H1 (if m.num = true then (if b = true then none else some "rows") else some "count") (∀ x H2, Ex H1 H2 → H1 x = none → (∃ dx fs, H2 x = some (.ins a_Times dx fs)) → Q (.ref x) H2)) :
    MakeP a_Times (sp_Times_init K ⟨a_Put, a_If, a_Times, a_Stop, a_Ask, a_Not⟩ a_InvalidRow) E [u, v] H1 Q := fun x dx hx hdx hne =>
  ⟨dx, bad, m, b, upd_same, hn.ex (exMade hx hdx hne), hv.ex (exMade hx hdx hne), resMade hx hdx hne q⟩
theorem makeIf (T : Txt w K mg a_is_integer a_is_number a_is_name a_are_rows a_needed a_fits a_is_of a_law_deal a_law_draw a_law_pick a_law_words a_law_kinds a_law_put a_law_any a_law_is_name a_law_is_number a_law_are_rows a_law_put_due a_law_ask_due a_law_made a_law_due a_law_told a_law_is_beyond a_law a_Put_init a_If_init a_Times_init a_Ask_init a_Not_init a_InvalidRow_init a_InvalidRow a_FigureError a_InvalidText a_Put a_If a_Times a_Stop a_Ask a_Not a_Row a_Test a_DEEDS a_WORDS a_If_init_d0 d_is_integer d_is_number d_is_name d_are_rows d_needed d_fits d_is_of d_law_deal d_law_draw d_law_pick d_law_words d_law_kinds d_law_put d_law_any d_law_is_name d_law_is_number d_law_are_rows d_law_put_due d_law_ask_due d_law_made d_law_due d_law_told d_law_is_beyond d_law d_Put_init d_If_init d_Times_init d_Ask_init d_Not_init d_InvalidRow_init) {H1 : Hp} {u v z : V} {m : AM} {b b2 : Bool} {bad : Addr → Prop} {Q : VK} {E : XK} (hn : AO ⟨a_Put, a_If, a_Times, a_Stop, a_Ask, a_Not⟩ bad H1 m u) (hv : RV K ⟨a_Put, a_If, a_Times, a_Stop, a_Ask, a_Not⟩ H1 v b) (hz : RV K ⟨a_Put, a_If, a_Times, a_Stop, a_Ask, a_Not⟩ H1 z b2)
    (q : Res a_InvalidRow E H1 (if m.isT = true then (if b = true ∧ b2 = true then none else some "rows") else some "test") (∀ x H2, Ex H1 H2 → H1 x = none → (∃ dx fs, H2 x = some (.ins a_If dx fs)) → Q (.ref x) H2)) :
    MakeP a_If (sp_If_init K ⟨a_Put, a_If, a_Times, a_Stop, a_Ask, a_Not⟩ a_InvalidRow) E [u, v, z] H1 Q := fun x dx hx hdx hne =>
  ⟨dx, bad, m, b, b2, upd_same, hn.ex (exMade hx hdx hne), hv.ex (exMade hx hdx hne), hz.ex (exMade hx hdx hne), resMade hx hdx hne q⟩
theorem AO.rw {A : ClsA} {bad : Addr → Prop} {H : Hp} {a C dx : Addr} {fs : List (Str × V)} (nb : ¬ bad a) (h : H a = some (.ins C dx fs)) (hc : C = A.put ∨ C = A.ifr ∨ C = A.times ∨ C = A.stop) : AO A bad H .row (.ref a) := by unfold AO; exact ⟨a, C, dx, fs, rfl, nb, h, hc⟩
theorem AO.ts {A : ClsA} {bad : Addr → Prop} {H : Hp} {a C dx : Addr} {fs : List (Str × V)} (nb : ¬ bad a) (h : H a = some (.ins C dx fs)) (hc : C = A.ask ∨ C = A.not) : AO A bad H .test (.ref a) := by unfold AO; exact ⟨a, C, dx, fs, rfl, nb, h, hc⟩
/-- what any_step draws of its first number -/
theorem drawIf {c : Prop} [Decidable c] {d L : Addr} {H : Hp} {C : VK} {E : XK} (D : Deal3 d L H) (k : ∀ v H', 0 ≤ v → (v < 12 ∨ (v < 14 ∧ c)) → Mv3 d L H H' → C (.int v) H') : if c then sp_law_draw [.ref d, .int 14] H C E else sp_law_draw [.ref d, .int 12] H C E :=
  ite2 (fun hc => ⟨L, D, by decide, by decide, fun v H' v0 v1 M => k v H' v0 (.inr ⟨v1, hc⟩) M⟩) (fun _ => ⟨L, D, by decide, by decide, fun v H' v0 v1 M => k v H' v0 (.inl v1) M⟩)
/-- one of some texts that stand in a new list -/
theorem pickS {A : ClsA} {d L p : Addr} {H H1 : Hp} {xs : List V} {Q : VK} {E : XK} (M : Mv3 d L H H1) (hp : H1 p = none) (h0 : 0 < xs.length) (h1 : xs.length ≤ 1000) (hx : ∀ x ∈ xs, ∃ z : Str, x = .str z ∧ z.length ≤ 100) (q : ∀ m v H', Mv3 d L H H' → AO A (BdA d L H) H' m v → Q v H') : sp_law_pick [.ref d, .ref p] (L2.upd H1 p (.lst xs)) Q E := by
  have o := M.dl.off hp
  refine ⟨L, M.dl.ex (Ex.new hp), .inl ⟨p, xs, rfl, upd_same, o.1, o.2, h0, h1, fun v H' hv M2 => ?_⟩⟩
  obtain ⟨z, rfl, hz⟩ := hx v hv
  exact q _ _ H' ((M.new hp).trans M2) (.sr hz)
def C_any (A : ClsA) (d L D0 : Addr) (H H1 : Hp) : Nat → Hp → Prop := fun i H' => ∃ vs ms, H' D0 = some (.lst vs) ∧ vs.length = i ∧ AOs A (fun b => BdA d L H b ∨ b = D0) H' ms vs ∧ Mv3 d L H1 H'
theorem any_step (T : Txt w K mg a_is_integer a_is_number a_is_name a_are_rows a_needed a_fits a_is_of a_law_deal a_law_draw a_law_pick a_law_words a_law_kinds a_law_put a_law_any a_law_is_name a_law_is_number a_law_are_rows a_law_put_due a_law_ask_due a_law_made a_law_due a_law_told a_law_is_beyond a_law a_Put_init a_If_init a_Times_init a_Ask_init a_Not_init a_InvalidRow_init a_InvalidRow a_FigureError a_InvalidText a_Put a_If a_Times a_Stop a_Ask a_Not a_Row a_Test a_DEEDS a_WORDS a_If_init_d0 d_is_integer d_is_number d_is_name d_are_rows d_needed d_fits d_is_of d_law_deal d_law_draw d_law_pick d_law_words d_law_kinds d_law_put d_law_any d_law_is_name d_law_is_number d_law_are_rows d_law_put_due d_law_ask_due d_law_made d_law_due d_law_told d_law_is_beyond d_law d_Put_init d_If_init d_Times_init d_Ask_init d_Not_init d_InvalidRow_init) (n : Nat) (G_law_any : FnOk P w K mg base CX0 (n + 9) a_law_any d_law_any ["_law_deal_here", "_law_down"] (spN ⟨a_Put, a_If, a_Times, a_Stop, a_Ask, a_Not⟩ n)) : FnOk P w K mg base CX0 (n + 10) a_law_any d_law_any ["_law_deal_here", "_law_down"] (spN ⟨a_Put, a_If, a_Times, a_Stop, a_Ask, a_Not⟩ (n + 1)) := by
  have G_law_draw := ok_law_draw (P := P) (w := w) (base := base) T
  have G_law_pick := ok_law_pick (P := P) (w := w) (base := base) T
  have G_Put_init := ok_Put_init (P := P) (w := w) (base := base) T
  have G_Ask_init := ok_Ask_init (P := P) (w := w) (base := base) T
  show FnOk P w K mg base CX0 (n + 10) a_law_any d_law_any ["_law_deal_here", "_law_down"] (spA ⟨a_Put, a_If, a_Times, a_Stop, a_Ask, a_Not⟩ n)
  refine T.F_law_any.ok sc_law_any (fun vs H Q E h => ?_) (fun cdv A outer s H vs Q E hr h => ?_)
  · obtain ⟨d, L, rfl, _⟩ := h; rfl
  obtain ⟨d, L, rfl, D, hn, q⟩ := h
  refine ⟨_, (pss_cons (ps_set (i := 2) sc_law_any.nd rfl (by first | exact .inl rfl | exact .inr rfl) (pe_call G_law_draw (hr.mono (by omega)) (by rfl) T.g_law_draw T.F_law_draw.kp T.b_law_draw .nil pass0 (pa_cons (pv 0) (pa_cons (pe_ifExp (pt_cmpR op_gt (pv 1) pe_int (nomark _)) pe_int pe_int) pa_nil))))
      (pss_cons (ps_if (pt_cmpR op_lt (pv 2) pe_int (nomark _))
      (pss_one (ps_ret (pe_ix ix_listM (pe_lst (pa_cons pe_int (pa_cons pe_int (pa_cons pe_int (pa_cons pe_int (pa_cons (pe_op op_sub pe_int pe_int) (pa_cons (pe_op op_sub pe_int pe_int) pa_nil))))))) (pe_call G_law_draw (hr.mono (by omega)) (by rfl) T.g_law_draw T.F_law_draw.kp T.b_law_draw .nil pass0 (pa_cons (pv 0) (pa_cons pe_int pa_nil))) (fun _ _ => rfl))))
      pss_nil)
      (pss_cons (ps_if (pt_cmpR op_lt (pv 2) pe_int (nomark _))
      (pss_cons (ps_set (i := 3) sc_law_any.nd rfl (by first | exact .inl rfl | exact .inr rfl) (pe_lst (pa_cons pe_str (pa_cons pe_str (pa_cons pe_str (pa_cons pe_str (pa_cons pe_str (pa_cons pe_str (pa_cons pe_str (pa_cons pe_str (pa_cons pe_str (pa_cons pe_str (pa_cons pe_str (pa_cons pe_str (pa_cons pe_str (pa_cons pe_str (pa_cons pe_str pa_nil)))))))))))))))))
      (pss_one (ps_ret (pe_call G_law_pick (hr.mono (by omega)) (by rfl) T.g_law_pick T.F_law_pick.kp T.b_law_pick .nil pass0 (pa_cons (pv 0) (pa_cons (pe_op op_cat (pv 3) (pe_lst (pa_cons pe_str (pa_cons pe_str (pa_cons pe_str (pa_cons pe_str (pa_cons pe_str (pa_cons pe_str pa_nil)))))))) pa_nil))))))
      pss_nil)
      (pss_cons (ps_if (pt_cmpR op_lt (pv 2) pe_int (nomark _))
      (pss_one (ps_ret (pe_ix ix_listM (pe_lst (pa_cons pe_bl (pa_cons pe_bl (pa_cons pe_non pa_nil)))) (pe_op op_sub (pv 2) pe_int) (fun _ _ => rfl))))
      pss_nil)
      (pss_cons (ps_if (pt_cmpR op_eq (pv 2) pe_int (nomark _))
      (pss_one (ps_ret (pe_new0 T.N_Stop (by rfl) T.g_Stop)))
      pss_nil)
      (pss_cons (ps_if (pt_cmpR op_eq (pv 2) pe_int (nomark _))
      (pss_one (ps_ret (pe_makeS T.M_Ask G_Ask_init (hr.mono (by omega)) (by rfl) T.g_Ask (fun σ => passAt takes0 σ) (pa_cons pe_str (pa_cons pe_str (pa_cons pe_str pa_nil))))))
      pss_nil)
      (pss_cons (ps_if (pt_cmpR op_eq (pv 2) pe_int (nomark _))
      (pss_one (ps_ret (pe_ix ix_listM (pe_lst (pa_cons (pe_tup pa_nil) (pa_cons (pe_lst pa_nil) (pa_cons (pe_lst (pa_cons (pe_new0 T.N_Stop (by rfl) T.g_Stop) pa_nil)) (pa_cons (pe_tup (pa_cons (pe_new0 T.N_Stop (by rfl) T.g_Stop) (pa_cons (pe_makeS T.M_Put G_Put_init (hr.mono (by omega)) (by rfl) T.g_Put (fun σ => passAt takes0 σ) (pa_cons pe_str (pa_cons pe_str pa_nil))) pa_nil))) (pa_cons (pe_lst (pa_cons pe_str pa_nil)) (pa_cons (pe_tup (pa_cons pe_non pa_nil)) (pa_cons pe_str pa_nil)))))))) (pe_call G_law_draw (hr.mono (by omega)) (by rfl) T.g_law_draw T.F_law_draw.kp T.b_law_draw .nil pass0 (pa_cons (pv 0) (pa_cons pe_int pa_nil))) (fun _ _ => rfl))))
      pss_nil)
      (pss_cons (ps_setLc (i := 4) (own := [("_law_k", 5)]) (g := gName 5) (by rfl) sc_law_any.nd rfl rfl (sw_true rfl rfl rfl (by decide +kernel)) (pi_range1 (by rfl) T.z_range (pa_cons (pe_call G_law_draw (hr.mono (by omega)) (by rfl) T.g_law_draw T.F_law_draw.kp T.b_law_draw .nil pass0 (pa_cons (pv 0) (pa_cons pe_int pa_nil))) pa_nil)) (blkOk_by (own := [("_law_k", 5)]) (N := N_law_any) (sc := defScope s_law_any) (by decide +kernel)) (fun _ _ _ _ _ => (pg_name (i := 5) sc_law_any.nd rfl (by first | exact .inl rfl | exact .inr rfl))) (fun _ _ _ _ _ => pts_nil) (fun _ _ _ _ _ => (pe_call G_law_any (hr.mono (by omega)) (by rfl) T.g_law_any T.F_law_any.kp T.b_law_any .nil pass0 (pa_cons (pv 0) (pa_cons (pe_op op_sub (pv 1) pe_int) pa_nil)))))
      (pss_one (ps_ret (pe_ifExp (pt_cmpR op_eq (pv 2) pe_int (nomark _)) (pv 4) (pe_callTy call_tuple_of (by rfl) T.z_tuple (by decide +kernel) (pa_cons (pv 4) pa_nil))))))))))))), ?_⟩
  walk_at "st"
  walk_at "vc"
  refine drawIf D fun k H1 k0 k1 M => ?_
  walk_at "vc"
  refine ite2 (fun _ => ⟨sz_le (by simp), fun p hp => ?_⟩) fun n0 => ite2 (fun _ => ⟨sz_le (by simp), fun p hp => ⟨sz_le (by simp), fun p2 hp2 => ?_⟩⟩) fun n1 => ite2 (fun n2 => ⟨sz_le (by simp), fun p hp => ?_⟩) fun n2 => ite2 (fun _ => ?_) fun n3 => ite2 (fun _ => ?_) fun n4 => ite2 (fun _ => ?_) fun n5 => ?_
  · have oq := M.dl.off hp
    refine ⟨L, M.dl.ex (Ex.new hp), by decide, by decide, fun j H2 j0 j1 M2 => ?_⟩
    obtain ⟨t, rfl⟩ : ∃ t : Nat, j = (t : Int) := ⟨j.toNat, by omega⟩
    obtain ⟨b, hb, b1⟩ : ∃ b : Int, ([.int 0, .int 1, .int 2, .int 3, .int (0 - 1), .int (0 - 7)] : List V)[t]? = some (.int b) ∧ b.natAbs < 2 ^ 100 := by
      match t, (by omega : t < 6) with
      | 0, _ => exact ⟨0, rfl, by decide⟩
      | 1, _ => exact ⟨1, rfl, by decide⟩
      | 2, _ => exact ⟨2, rfl, by decide⟩
      | 3, _ => exact ⟨3, rfl, by decide⟩
      | 4, _ => exact ⟨0 - 1, rfl, by decide⟩
      | 5, _ => exact ⟨0 - 7, rfl, by decide⟩
    exact ⟨_, _, sq_of (M2.kp _ _ oq.1 oq.2 upd_same), atI_nat hb, q _ _ _ ((M.new hp).trans M2) (.in b1)⟩
  · refine ⟨p, p2, _, _, rfl, rfl, Ex.new hp2 _ _ upd_same, upd_same, sz_le (by simp), fun p3 hp3 => ?_⟩
    refine pickS ((M.new hp).new hp2) hp3 (by simp) (by simp) (fun x hx => ?_) q
    simp only [List.mem_append, List.mem_cons, List.not_mem_nil, or_false] at hx
    rcases hx with (rfl | rfl | rfl | rfl | rfl | rfl | rfl | rfl | rfl | rfl | rfl | rfl | rfl | rfl | rfl) | (rfl | rfl | rfl | rfl | rfl | rfl) <;> exact ⟨_, rfl, by decide +kernel⟩
  · refine ⟨_, sq_of upd_same, ?_⟩
    obtain ⟨t, ht⟩ : ∃ t : Nat, k - 6 = (t : Int) := ⟨(k - 6).toNat, by omega⟩
    rw [ht]
    match t, (by omega : t < 3) with
    | 0, _ => exact ⟨_, rfl, q _ _ _ (M.new hp) .bb⟩
    | 1, _ => exact ⟨_, rfl, q _ _ _ (M.new hp) .bb⟩
    | 2, _ => exact ⟨_, rfl, q _ _ _ (M.new hp) .nn⟩
  · exact newStop fun x H2 e hx ⟨dx, hi⟩ => q _ _ H2 (M.tex e) (.rw (nbd D (M.free hx)) hi (.inr (.inr (.inr rfl))))
  · refine tMakeS_of (makeAsk T (mw := .str "same") (ms := [.str "x", .str "y"]) (bad := BdA d L H) (.sr (by decide +kernel)) (.cons (.sr (by decide +kernel)) (.cons (.sr (by decide +kernel)) .nil)) (by simp) ?_)
    rw [show askDue (.str "same") [.str "x", .str "y"] = none by decide +kernel]
    exact fun x H2 e hx ⟨dx, fs, hi⟩ => q _ _ H2 (M.tex e) (.ts (nbd D (M.free hx)) hi (.inl rfl))
  · refine ⟨sz_le (by simp), fun p1 h1 => ⟨sz_le (by simp), fun p2 h2 => newStop fun x1 H2 e2 hx1 ⟨dx1, hi1⟩ => ⟨sz_le (by simp), fun p3 h3 => newStop fun x2 H3 e3 hx2 ⟨dx2, hi2⟩ => ?_⟩⟩⟩
    refine tMakeS_of ?_
    walk_at "vc"
    refine makePut T (mn := .str "x") (md := .str "base") (ms := []) (bad := BdA d L H) (.sr (by decide +kernel)) (.sr (by decide +kernel)) .nil (by simp) ?_
    rw [show putDue (.str "x") (.str "base") [] = none by decide +kernel]
    rintro x3 H4 e4 hx3 ⟨dx3, fs3, hi3⟩
    refine ⟨sz_le (by simp), fun p4 h4 => ⟨sz_le (by simp), fun p5 h5 => ⟨sz_le (by simp), fun p6 h6 => ⟨sz_le (by simp), fun p7 h7 => ?_⟩⟩⟩⟩
    have Ma := (M.new h1 (o := .tup [])).new h2 (o := .lst [])
    have Mb := (Ma.tex e2).new h3 (o := .lst [.ref x1])
    have Mc := (Mb.tex e3).tex e4
    have Md := Mc.new h4 (o := .tup [.ref x2, .ref x3])
    have Me := Md.new h5 (o := .lst [.str "x"])
    have Mf := Me.new h6 (o := .tup [.non])
    have b1 := nbd D (M.free h1)
    have b2 := nbd D ((M.new h1).free h2)
    have bx1 := nbd D (Ma.free hx1)
    have b3 := nbd D ((Ma.tex e2).free h3)
    have bx2 := nbd D (Mb.free hx2)
    have bx3 := nbd D ((Mb.tex e3).free hx3)
    have b4 := nbd D (Mc.free h4)
    have b5 := nbd D (Md.free h5)
    have b6 := nbd D (Me.free h6)
    have o7 := Mf.dl.off h7
    have f7 := Ex.new h7 (o := .lst [V.ref p1, V.ref p2, V.ref p3, V.ref p4, V.ref p5, V.ref p6, V.str (Str.ofString "x")])
    have f6 := (Ex.new h6 (o := .tup [V.non])).trans f7
    have f5 := (Ex.new h5 (o := .lst [V.str (Str.ofString "x")])).trans f6
    have f4 := (Ex.new h4 (o := .tup [V.ref x2, V.ref x3])).trans f5
    have f3 := (Ex.new h3 (o := .lst [V.ref x1])).trans (e3.trans (e4.trans f4))
    have f2 := (Ex.new h2 (o := .lst [])).trans (e2.trans f3)
    have w1 := f2 _ _ (upd_same (H := H1) (a := p1) (o := .tup []))
    have w2 := (e2.trans f3) _ _ (upd_same (a := p2) (o := .lst []))
    have wx1 := f3 _ _ hi1
    have w3 := (e3.trans (e4.trans f4)) _ _ (upd_same (H := H2) (a := p3) (o := .lst [V.ref x1]))
    have wx2 := (e4.trans f4) _ _ hi2
    have wx3 := f4 _ _ hi3
    have w4 := f5 _ _ (upd_same (H := H4) (a := p4) (o := .tup [V.ref x2, V.ref x3]))
    have w5 := f6 _ _ (upd_same (a := p5) (o := .lst [V.str (Str.ofString "x")]))
    have w6 := f7 _ _ (upd_same (a := p6) (o := .tup [V.non]))
    have M7 := Mf.new h7 (o := .lst [V.ref p1, V.ref p2, V.ref p3, V.ref p4, V.ref p5, V.ref p6, V.str (Str.ofString "x")])
    have w7 := upd_same (H := upd (upd (upd H4 p4 (.tup [V.ref x2, V.ref x3])) p5 (.lst [V.str (Str.ofString "x")])) p6 (.tup [V.non])) (a := p7) (o := .lst [V.ref p1, V.ref p2, V.ref p3, V.ref p4, V.ref p5, V.ref p6, V.str (Str.ofString "x")])
    generalize upd (upd (upd (upd H4 p4 (.tup [V.ref x2, V.ref x3])) p5 (.lst [V.str (Str.ofString "x")])) p6 (.tup [V.non])) p7 (.lst [V.ref p1, V.ref p2, V.ref p3, V.ref p4, V.ref p5, V.ref p6, V.str (Str.ofString "x")]) = H7 at *
    refine ⟨L, M7.dl, by decide, by decide, fun j H8 j0 j1 M8 => ?_⟩
    obtain ⟨t, rfl⟩ : ∃ t : Nat, j = (t : Int) := ⟨j.toNat, by omega⟩
    have fin : ∀ {m : AM} {v : V}, AO ⟨a_Put, a_If, a_Times, a_Stop, a_Ask, a_Not⟩ (BdA d L H) H7 m v → Q v H8 := fun hm => q _ _ H8 (M7.trans M8) (hm.mv3 M8)
    have L7 := sq_of (K := K) (M8.kp _ _ o7.1 o7.2 w7)
    have ax1 : AO ⟨a_Put, a_If, a_Times, a_Stop, a_Ask, a_Not⟩ (BdA d L H) H7 .row (.ref x1) := .rw bx1 wx1 (.inr (.inr (.inr rfl)))
    have ax2 : AO ⟨a_Put, a_If, a_Times, a_Stop, a_Ask, a_Not⟩ (BdA d L H) H7 .row (.ref x2) := .rw bx2 wx2 (.inr (.inr (.inr rfl)))
    have ax3 : AO ⟨a_Put, a_If, a_Times, a_Stop, a_Ask, a_Not⟩ (BdA d L H) H7 .row (.ref x3) := .rw bx3 wx3 (.inl rfl)
    match t, (by omega : t < 7) with
    | 0, _ => exact ⟨_, _, L7, rfl, fin (.tp b1 w1 (by simp) .nil)⟩
    | 1, _ => exact ⟨_, _, L7, rfl, fin (.ls b2 w2 (by simp) .nil)⟩
    | 2, _ => exact ⟨_, _, L7, rfl, fin (.ls b3 w3 (by simp) (.cons ax1 .nil))⟩
    | 3, _ => exact ⟨_, _, L7, rfl, fin (.tp b4 w4 (by simp) (.cons ax2 (.cons ax3 .nil)))⟩
    | 4, _ => exact ⟨_, _, L7, rfl, fin (.ls b5 w5 (by simp) (.cons (.sr (by decide +kernel)) .nil))⟩
    | 5, _ => exact ⟨_, _, L7, rfl, fin (.tp b6 w6 (by simp) (.cons .nn .nil))⟩
    | 6, _ => exact ⟨_, _, L7, rfl, fin (.sr (by decide +kernel))⟩
  · have kn : n ≠ 0 := by omega
    obtain ⟨m, rfl⟩ : ∃ m, n = m + 1 := ⟨n - 1, by omega⟩
    refine ⟨_, rfl, L, M.dl, by decide, by decide, fun c H2 c0 c1 M2 => ?_⟩
    obtain ⟨c, rfl⟩ : ∃ j : Nat, c = (j : Int) := ⟨c.toNat, by omega⟩
    refine ⟨_, rfl, by omega, by omega, fun D0 hD0 => lc_range (lo := 0) (n := c) (C_any ⟨a_Put, a_If, a_Times, a_Stop, a_Ask, a_Not⟩ d L D0 H H2) ⟨[], [], upd_same, rfl, .nil, Mv3.of_ex M2.dl (Ex.new hD0)⟩ (fun j H' hj hI => ?_) (fun H' hI => ?_)⟩
    · obtain ⟨vs, ms, h1, h2, h3, M5⟩ := hI
      have oD := M2.dl.off hD0
      have M6 := (M.trans M2).trans M5
      walk_at "vc"
      refine ⟨d, L, by simp, M5.dl, by omega, fun m1 v H4 M4 R => ?_⟩
      have h1' := M4.kp _ _ oD.1 oD.2 h1
      refine ⟨_, h1', sz_lt (by omega), vs ++ [v], ms ++ [m1], upd_same, by simp; omega, AOs.snoc ?_ (h3.keep fun b o nb hb => ?_), (M5.trans M4).mut hD0 oD.1 oD.2⟩
      · refine (R.less (bad' := fun b => BdA d L H b ∨ b = D0) fun b _ hb => ?_).keep fun b o nb hb => by rw [upd_ne (fun e => nb (.inr e))]; exact hb
        rcases hb with (hb | hb) | hb
        · exact .inl hb
        · exact .inr fun z => hb (M6.free z)
        · exact .inr fun z => by rw [hb, h1] at z; cases z
      · rw [upd_ne (fun e => nb (.inr e))]
        exact M4.kp b o (fun e => nb (.inl (.inl (.inl e)))) (fun e => nb (.inl (.inl (.inr e)))) hb
    · obtain ⟨vs, ms, h1, h2, h3, M5⟩ := hI
      have M6 := (M.trans M2).trans M5
      have nD := (M.trans M2).free hD0
      have h3' : AOs ⟨a_Put, a_If, a_Times, a_Stop, a_Ask, a_Not⟩ (BdA d L H) H' ms vs := h3.less fun _ _ w => .inl w
      refine ite2 (fun _ => ?_) (fun _ => ⟨D0, rfl, vs, .inl ⟨sq_of h1, fun l hl => ?_⟩⟩)
      · exact q _ _ _ M6 (.ls (nbd D nD) h1 (by omega) h3')
      · exact q _ _ _ (M6.new hl) (.tp (nbd D (M6.free hl)) upd_same (by omega) (h3'.ex (Ex.new hl)))
theorem ok_law_any (T : Txt w K mg a_is_integer a_is_number a_is_name a_are_rows a_needed a_fits a_is_of a_law_deal a_law_draw a_law_pick a_law_words a_law_kinds a_law_put a_law_any a_law_is_name a_law_is_number a_law_are_rows a_law_put_due a_law_ask_due a_law_made a_law_due a_law_told a_law_is_beyond a_law a_Put_init a_If_init a_Times_init a_Ask_init a_Not_init a_InvalidRow_init a_InvalidRow a_FigureError a_InvalidText a_Put a_If a_Times a_Stop a_Ask a_Not a_Row a_Test a_DEEDS a_WORDS a_If_init_d0 d_is_integer d_is_number d_is_name d_are_rows d_needed d_fits d_is_of d_law_deal d_law_draw d_law_pick d_law_words d_law_kinds d_law_put d_law_any d_law_is_name d_law_is_number d_law_are_rows d_law_put_due d_law_ask_due d_law_made d_law_due d_law_told d_law_is_beyond d_law d_Put_init d_If_init d_Times_init d_Ask_init d_Not_init d_InvalidRow_init) : ∀ n : Nat, FnOk P w K mg base CX0 (n + 9) a_law_any d_law_any ["_law_deal_here", "_law_down"] (spN ⟨a_Put, a_If, a_Times, a_Stop, a_Ask, a_Not⟩ n)
  | 0 => ⟨fun xs G R W h => h.elim, fun B out z G ar us xs R W _ _ _ _ h => h.elim⟩
  | n + 1 => any_step T n (ok_law_any T n)
end
end My
set_option Elab.async false
set_option linter.all false
set_option maxRecDepth 100000
set_option maxHeartbeats 4000000
set_option exponentiation.threshold 5000
namespace My
open PySem PySem.Spec PyProof.Rows L2 Evl
local macro_rules | `(tactic| walk_at "st") => `(tactic| simp only [L2.start, List.map_cons, List.map_nil, List.length_cons, List.length_nil, Nat.reduceAdd, Nat.reduceSub, List.replicate_succ, List.replicate_zero, List.cons_append, List.nil_append, cxOf, List.append_nil])
local macro_rules | `(tactic| walk_at "vc") => `(tactic| try simp only [tIfT, tSeq, tAsg, tOp, tUn, tVar, tC, tNil, tCons, gName, rI, rI0, rU, tRet, tIfS, tNot, tAnd, tOr, tB, tTest, tCB, tCall, tAndV, tOrV, tNotV, tNext, tNever, tIf, tChain, tYes, tPart, tNoPart, tPar, tDrop, q_isi, q_vn, q_vb, q_vi, q_vs, kb1, kb2, kb3, kb4, kb5, kb6, kb7, kb8, q_int1, q_int2, q_min, q_max, q_repr, tLst, tTup, rEq, rNe, q_sii, q_sss, q_sbb, q_snn, q_sns, q_ssn, q_ix, q_sl, tSl, tBM, tBM0, q_app, q_pop, gSub, rSetL, L2.wipe, eq_self, decide_true, decide_false, tRevL,
  List.getElem?_cons_succ, List.getElem?_cons_zero, List.set_cons_succ, List.set_cons_zero, Option.some.injEq, exists_eq_left', exists_eq_left, V.int.injEq, V.bl.injEq, V.ref.injEq, V.str.injEq, List.cons.injEq, and_true, true_and, List.append_nil, List.nil_append, List.cons_append, exists_and_left, and_assoc, if_true, if_false, Bool.not_true, Bool.not_false, Bool.false_eq_true, Bool.true_eq_false, reduceIte, tRevL, tPar3, tRevT, tUnl, tCKw, forall_const, Bool.not_eq_true', decide_eq_true_eq, decide_eq_false_iff_not])
section
variable {P : Program} {w : World} {K : PySem.W.Frag} {mg : Str → Option Value} {base : Heap}
variable {a_is_integer a_is_number a_is_name a_are_rows a_needed a_fits a_is_of a_law_deal a_law_draw a_law_pick a_law_words a_law_kinds a_law_put a_law_any a_law_is_name a_law_is_number a_law_are_rows a_law_put_due a_law_ask_due a_law_made a_law_due a_law_told a_law_is_beyond a_law a_Put_init a_If_init a_Times_init a_Ask_init a_Not_init a_InvalidRow_init a_InvalidRow a_FigureError a_InvalidText a_Put a_If a_Times a_Stop a_Ask a_Not a_Row a_Test a_DEEDS a_WORDS a_If_init_d0 : Addr} {d_is_integer d_is_number d_is_name d_are_rows d_needed d_fits d_is_of d_law_deal d_law_draw d_law_pick d_law_words d_law_kinds d_law_put d_law_any d_law_is_name d_law_is_number d_law_are_rows d_law_put_due d_law_ask_due d_law_made d_law_due d_law_told d_law_is_beyond d_law d_Put_init d_If_init d_Times_init d_Ask_init d_Not_init d_InvalidRow_init : FuncData}
/-! ### what is due -/
/-- those that are not good, one behind another; whether there are none -/
def F_nil (gs : List Bool) (D : Addr) (H : Hp) : Nat → Hp → Prop := fun i H' => ∃ acc, H' D = some (.lst acc) ∧ acc.length ≤ i ∧ decide (acc = []) = (gs.take i).all id ∧ Ex H H'
theorem F_nil.good {gs : List Bool} {D : Addr} {H H' H4 : Hp} {i : Nat} (h : F_nil gs D H i H') (hb : gs[i]? = some true) (e : Ex H' H4) : F_nil gs D H (i + 1) H4 := by
  obtain ⟨acc, h1, h2, h3, h4⟩ := h
  refine ⟨acc, e _ _ h1, by omega, ?_, h4.trans e⟩
  rw [h3, List.take_add_one, hb, List.all_append]
  simp
theorem F_nil.bad {gs : List Bool} {D : Addr} {H H' H4 : Hp} {i : Nat} {v : V} (h : F_nil gs D H i H') (hi : i ≤ 1000) (hb : gs[i]? = some false) (e : Ex H' H4) (hD : H D = none) : ∃ acc, H4 D = some (.lst acc) ∧ acc.length < sizeLine ∧ F_nil gs D H (i + 1) (upd H4 D (.lst (acc ++ [v]))) := by
  obtain ⟨acc, h1, h2, h3, h4⟩ := h
  refine ⟨acc, e _ _ h1, sz_lt (by omega), acc ++ [v], upd_same, by simp; omega, ?_, (h4.trans e).mut hD⟩
  rw [List.take_add_one, hb, List.all_append]
  simp
theorem F_nil.fin {gs : List Bool} {D : Addr} {H H' : Hp} {n : Nat} {Q : VK} (h : F_nil gs D H n H') (hn : gs.length ≤ n) (q : ∀ H', Ex H H' → Q (.bl (gs.all id)) H') (p : Addr) (hp : H' p = none) :
    ∃ a, V.ref D = V.ref a ∧ ∃ x, upd H' p (.lst []) a = some (.lst x) ∧ upd H' p (.lst []) p = some (.lst []) ∧ Q (.bl (decide (x = []))) (upd H' p (.lst [])) := by
  obtain ⟨acc, h1, h2, h3, h4⟩ := h
  refine ⟨D, rfl, acc, Ex.new hp _ _ h1, upd_same, ?_⟩
  rw [h3, List.take_of_length_le hn]
  exact q _ (h4.trans (Ex.new hp))
def sp_law_is_name (A : ClsA) : Sp
  | [v], H, Q, _ => ∃ m bad, AO A bad H m v ∧ ∀ H', Ex H H' → Q (.bl m.nm) H'
  | _, _, _, _ => False
theorem ok_law_is_name (T : Txt w K mg a_is_integer a_is_number a_is_name a_are_rows a_needed a_fits a_is_of a_law_deal a_law_draw a_law_pick a_law_words a_law_kinds a_law_put a_law_any a_law_is_name a_law_is_number a_law_are_rows a_law_put_due a_law_ask_due a_law_made a_law_due a_law_told a_law_is_beyond a_law a_Put_init a_If_init a_Times_init a_Ask_init a_Not_init a_InvalidRow_init a_InvalidRow a_FigureError a_InvalidText a_Put a_If a_Times a_Stop a_Ask a_Not a_Row a_Test a_DEEDS a_WORDS a_If_init_d0 d_is_integer d_is_number d_is_name d_are_rows d_needed d_fits d_is_of d_law_deal d_law_draw d_law_pick d_law_words d_law_kinds d_law_put d_law_any d_law_is_name d_law_is_number d_law_are_rows d_law_put_due d_law_ask_due d_law_made d_law_due d_law_told d_law_is_beyond d_law d_Put_init d_If_init d_Times_init d_Ask_init d_Not_init d_InvalidRow_init) : FnOk P w K mg base CX0 1 a_law_is_name d_law_is_name ["_law_thing"] (sp_law_is_name ⟨a_Put, a_If, a_Times, a_Stop, a_Ask, a_Not⟩) := by
  refine T.F_law_is_name.ok sc_law_is_name (fun vs H Q E h => ?_) (fun cdv A outer s H vs Q E hr h => ?_)
  · unfold sp_law_is_name at h; split at h; rfl; exact h.elim
  unfold sp_law_is_name at h; split at h
  case h_2 => exact h.elim
  rename_i v
  obtain ⟨m, bad, hm, q⟩ := h
  refine ⟨_, (pss_cons (ps_if (PW.pt (pw_or (pt_not (pt_val (pe_callB (call_isiK (K := K)) (by rfl) T.z_isinstance (by decide +kernel) (pa_cons (pv 0) (pa_cons (pe_bltn (v := .ty "str") (by rfl) T.z_str (by decide +kernel) rfl) pa_nil))))) (pw_or (pt_cmpR op_lt (pe_callB call_len_str (by rfl) T.z_len (by decide +kernel) (pa_cons (pv 0) pa_nil)) pe_int (nomark _)) (pw_or1 (pt_cmpR op_gt (pe_callB call_len_str (by rfl) T.z_len (by decide +kernel) (pa_cons (pv 0) pa_nil)) pe_int (nomark _))))))
      (pss_one (ps_ret pe_bl))
      pss_nil)
      (pss_one (ps_ret (pe_cmpR (op_eqNil hr.units) (pe_lc (own := [("_law_one", 1)]) (g := gName 1) (by rfl) sc_law_is_name.nd (pi_str (pv 0)) (blkOk_by (own := [("_law_one", 1)]) (N := N_law_is_name) (sc := defScope s_law_is_name) (by decide +kernel)) (fun _ _ _ _ _ => (pg_name (i := 1) sc_law_is_name.nd rfl (by first | exact .inl rfl | exact .inr rfl))) (fun _ _ _ _ _ => (pts_one (pt_cmpR op_notIn_sign (pv 1) pe_str (by rfl)))) (fun _ _ _ _ _ => (pv 1))) (pe_lst pa_nil) (nomark _))))), ?_⟩
  walk_at "st"
  walk_at "vc"
  refine hm.isi (kt_of T) (by simp [askTs]) ⟨_, rfl, ?_⟩
  refine ite2 (fun h1 => ?_) (fun h1 => ?_)
  · have e : m.nm = false := by
      cases m <;> first | rfl | (exact absurd h1 (by simp [AM.is]))
    rw [e] at q
    exact q _ (Ex.refl _)
  obtain ⟨x, rfl⟩ := AM.str_of (by simpa using h1)
  unfold AO at hm
  obtain ⟨rfl, hl⟩ := hm
  refine ⟨x, rfl, sz_le (by omega), ite2 (fun h2 => ?_) (fun h2 => ⟨x, rfl, sz_le (by omega), ite2 (fun h3 => ?_) (fun h3 => ?_)⟩)⟩
  · have this : Q (.bl (nmOk x)) H := q H (Ex.refl H)
    unfold nmOk at this
    rw [decide_eq_false (by omega), Bool.false_and] at this
    exact this
  · have this : Q (.bl (nmOk x)) H := q H (Ex.refl H)
    unfold nmOk at this
    rw [decide_eq_false (p := (x.length : Int) ≤ 4) (by omega), Bool.false_and, Bool.and_false] at this
    exact this
  · refine ⟨_, rfl, x, rfl, fun D hD => lc_it walk_str (F_nil (x.cps.toList.map fun c => decide (c ∈ (Str.ofString "abcdefghijklmnopqrstuvwxyz").cps.toList)) D H) ⟨[], upd_same, Nat.le_refl _, rfl, Ex.new hD⟩ (fun i H' _ _ => trivial) (fun i v H1 H' hi hP y => ?_) (fun H' hP => ⟨sz_le (by simp), hP.fin (by rw [List.length_map, Array.length_toList]; exact Nat.le_refl _) fun H5 e5 => ?_⟩)⟩
    · obtain ⟨rfl, c, hc, rfl⟩ := y
      walk_at "vc"
      have hc' : x.cps.toList[i]? = some c := by rw [Array.getElem?_toList]; exact hc
      have hcl : i < x.cps.toList.length := (List.getElem?_eq_some_iff.mp hc').1
      refine ⟨c, rfl, ite2 (fun hn => ?_) (fun hn => ?_)⟩
      · exact hP.bad (by simp [PySem.Str.length] at hl hcl; omega) (by rw [List.getElem?_map, hc']; exact congrArg some (decide_eq_false hn)) (Ex.refl _) hD
      · exact hP.good (by rw [List.getElem?_map, hc']; exact congrArg some (decide_eq_true (Decidable.not_not.mp hn))) (Ex.refl _)
    · have this : Q (.bl (nmOk x)) H5 := q H5 e5
      unfold nmOk at this
      rw [decide_eq_true (by omega), decide_eq_true (by omega), Bool.true_and, Bool.true_and] at this
      rw [List.all_map]
      exact this
def sp_law_is_number (A : ClsA) : Sp
  | [v], H, Q, _ => ∃ m bad, AO A bad H m v ∧ Q (.bl m.num) H
  | _, _, _, _ => False
theorem ok_law_is_number (T : Txt w K mg a_is_integer a_is_number a_is_name a_are_rows a_needed a_fits a_is_of a_law_deal a_law_draw a_law_pick a_law_words a_law_kinds a_law_put a_law_any a_law_is_name a_law_is_number a_law_are_rows a_law_put_due a_law_ask_due a_law_made a_law_due a_law_told a_law_is_beyond a_law a_Put_init a_If_init a_Times_init a_Ask_init a_Not_init a_InvalidRow_init a_InvalidRow a_FigureError a_InvalidText a_Put a_If a_Times a_Stop a_Ask a_Not a_Row a_Test a_DEEDS a_WORDS a_If_init_d0 d_is_integer d_is_number d_is_name d_are_rows d_needed d_fits d_is_of d_law_deal d_law_draw d_law_pick d_law_words d_law_kinds d_law_put d_law_any d_law_is_name d_law_is_number d_law_are_rows d_law_put_due d_law_ask_due d_law_made d_law_due d_law_told d_law_is_beyond d_law d_Put_init d_If_init d_Times_init d_Ask_init d_Not_init d_InvalidRow_init) : FnOk P w K mg base CX0 1 a_law_is_number d_law_is_number ["_law_thing"] (sp_law_is_number ⟨a_Put, a_If, a_Times, a_Stop, a_Ask, a_Not⟩) := by
  refine T.F_law_is_number.ok sc_law_is_number (fun vs H Q E h => ?_) (fun cdv A outer s H vs Q E hr h => ?_)
  · unfold sp_law_is_number at h; split at h; rfl; exact h.elim
  unfold sp_law_is_number at h; split at h
  case h_2 => exact h.elim
  rename_i v
  obtain ⟨m, bad, hm, q⟩ := h
  refine ⟨_, (pss_one (ps_ret (pe_and (pe_callB (call_isiK (K := K)) (by rfl) T.z_isinstance (by decide +kernel) (pa_cons (pv 0) (pa_cons (pe_bltn (v := .ty "int") (by rfl) T.z_int (by decide +kernel) rfl) pa_nil))) (pe_and (pe_not (pe_callB (call_isiK (K := K)) (by rfl) T.z_isinstance (by decide +kernel) (pa_cons (pv 0) (pa_cons (pe_bltn (v := .ty "bool") (by rfl) T.z_bool (by decide +kernel) rfl) pa_nil)))) (pe_one (pe_cmpR op_ge (pv 0) pe_int (nomark _))))))), ?_⟩
  walk_at "st"
  walk_at "vc"
  refine hm.isi (kt_of T) (by simp [askTs]) ⟨_, rfl, ?_⟩
  refine ite2 (fun h1 => ?_) (fun h1 => ?_)
  · refine hm.isi (kt_of T) (by simp [askTs]) ⟨_, rfl, ite2 (fun h2 => ?_) (fun h2 => ?_)⟩
    · obtain ⟨i, rfl⟩ := AM.intM_of (m := m) (by unfold AM.intM; rw [h1, h2]; rfl)
      unfold AO at hm
      exact ⟨i, hm.1, q⟩
    · have e : m.num = false := by
        cases m <;> first | rfl | (exact absurd (by simp [AM.is]) h2)
      rw [e] at q
      exact q
  · have e : m.num = false := by
      cases m <;> first | rfl | (exact absurd (by simp [AM.is]) h1)
    rw [e] at q
    exact q
def sp_law_are_rows (A : ClsA) : Sp
  | [v], H, Q, _ => ∃ m bad, AO A bad H m v ∧ ∀ H', Ex H H' → Q (.bl m.rows) H'
  | _, _, _, _ => False
theorem ok_law_are_rows (T : Txt w K mg a_is_integer a_is_number a_is_name a_are_rows a_needed a_fits a_is_of a_law_deal a_law_draw a_law_pick a_law_words a_law_kinds a_law_put a_law_any a_law_is_name a_law_is_number a_law_are_rows a_law_put_due a_law_ask_due a_law_made a_law_due a_law_told a_law_is_beyond a_law a_Put_init a_If_init a_Times_init a_Ask_init a_Not_init a_InvalidRow_init a_InvalidRow a_FigureError a_InvalidText a_Put a_If a_Times a_Stop a_Ask a_Not a_Row a_Test a_DEEDS a_WORDS a_If_init_d0 d_is_integer d_is_number d_is_name d_are_rows d_needed d_fits d_is_of d_law_deal d_law_draw d_law_pick d_law_words d_law_kinds d_law_put d_law_any d_law_is_name d_law_is_number d_law_are_rows d_law_put_due d_law_ask_due d_law_made d_law_due d_law_told d_law_is_beyond d_law d_Put_init d_If_init d_Times_init d_Ask_init d_Not_init d_InvalidRow_init) : FnOk P w K mg base CX0 1 a_law_are_rows d_law_are_rows ["_law_thing"] (sp_law_are_rows ⟨a_Put, a_If, a_Times, a_Stop, a_Ask, a_Not⟩) := by
  refine T.F_law_are_rows.ok sc_law_are_rows (fun vs H Q E h => ?_) (fun cdv A outer s H vs Q E hr h => ?_)
  · unfold sp_law_are_rows at h; split at h; rfl; exact h.elim
  unfold sp_law_are_rows at h; split at h
  case h_2 => exact h.elim
  rename_i v
  obtain ⟨m, bad, hm, q⟩ := h
  refine ⟨_, (pss_cons (ps_if (pt_not (pt_val (pe_callB (call_isiTK (K := K)) (by rfl) T.z_isinstance (by decide +kernel) (pa_cons (pv 0) (pa_cons (pe_tup (pa_cons (pe_bltn (v := .ty "list") (by rfl) T.z_list (by decide +kernel) rfl) (pa_cons (pe_bltn (v := .ty "tuple") (by rfl) T.z_tuple (by decide +kernel) rfl) pa_nil))) pa_nil)))))
      (pss_one (ps_ret pe_bl))
      pss_nil)
      (pss_one (ps_ret (pe_cmpR (op_eqNil hr.units) (pe_lc (own := [("_law_one", 1)]) (g := gName 1) (by rfl) sc_law_are_rows.nd (pi_lt (pv 0)) (blkOk_by (own := [("_law_one", 1)]) (N := N_law_are_rows) (sc := defScope s_law_are_rows) (by decide +kernel)) (fun _ _ _ _ _ => (pg_name (i := 1) sc_law_are_rows.nd rfl (by first | exact .inl rfl | exact .inr rfl))) (fun _ _ _ _ _ => (pts_one (pt_not (pt_val (pe_callB (call_isiK (K := K)) (by rfl) T.z_isinstance (by decide +kernel) (pa_cons (pv 1) (pa_cons (pe_glob (v := .ref a_Row) (by rfl) T.g_Row rfl) pa_nil))))))) (fun _ _ _ _ _ => (pv 1))) (pe_lst pa_nil) (nomark _))))), ?_⟩
  walk_at "st"
  walk_at "vc"
  refine ⟨sz_le (by simp), fun p1 h1 => ?_⟩
  have e1 := Ex.new h1 (o := .tup [.ty "list", .ty "tuple"])
  have w1 : upd H p1 (.tup [.ty "list", .ty "tuple"]) p1 = some (.tup [.ty "list", .ty "tuple"]) := upd_same
  generalize upd H p1 (.tup [.ty "list", .ty "tuple"]) = H1 at *
  have hm1 := hm.ex e1
  refine hm1.isi_lt (kt_of T) w1 ⟨_, rfl, ite2 (fun hs => ?_) (fun hs => ?_)⟩
  · have e : m.rows = false := by
      cases m <;> first | rfl | skip
      rename_i l ms
      exact absurd hs (by cases l <;> simp [AM.is])
    rw [e] at q
    exact q _ e1
  · obtain ⟨l, ms, rfl⟩ : ∃ l ms, m = .seq l ms := by
      cases m <;> first | exact ⟨_, _, rfl⟩ | (exact absurd (by simp [AM.is]) hs)
    unfold AO at hm1
    obtain ⟨a, vs, rfl, _, ho, hl, hs2⟩ := hm1
    have body : ∀ (i : Nat) (v : V) (D : Addr) (H2 : Hp), H1 D = none → vs[i]? = some v → F_nil (ms.map AM.isR) D H1 i H2 → rIsi K [v, .ref a_Row] H2 fun y H4 => ∃ c, y = .bl c ∧ if c = false then (∃ acc, H4 D = some (.lst acc) ∧ acc.length < sizeLine ∧ F_nil (ms.map AM.isR) D H1 (i + 1) (upd H4 D (.lst (acc ++ [v])))) else F_nil (ms.map AM.isR) D H1 (i + 1) H4 := by
      intro i v D H2 hD hv hP
      obtain ⟨r, hr0, hr1⟩ := hs2.at_ hv
      have hi := (List.getElem?_eq_some_iff.mp hv).1
      obtain ⟨_, _, _, _, e2⟩ := id hP
      refine (hr1.ex e2).isi_row (kt_of T) ⟨_, rfl, ite2 (fun hr => ?_) (fun hr => ?_)⟩
      · exact hP.bad (by omega) (by rw [List.getElem?_map, hr0]; exact congrArg some hr) (Ex.refl _) hD
      · exact hP.good (by rw [List.getElem?_map, hr0]; exact congrArg some (by simpa using hr)) (Ex.refl _)
    have fin : ∀ (D : Addr) (H2 : Hp), F_nil (ms.map AM.isR) D H1 vs.length H2 → ([] : List V).length ≤ sizeLine ∧ ∀ p, H2 p = none → ∃ a, V.ref D = V.ref a ∧ ∃ x, upd H2 p (.lst []) a = some (.lst x) ∧ upd H2 p (.lst []) p = some (.lst []) ∧ Q (.bl (decide (x = []))) (upd H2 p (.lst [])) :=
      fun D H2 hP => ⟨sz_le (by simp), hP.fin (by rw [List.length_map, ← hs2.len]; omega) fun H5 e5 => q _ (e1.trans e5)⟩
    cases l with
    | true =>
      refine ⟨_, rfl, a, rfl, .inl ⟨⟨_, sq_of ho⟩, fun D hD => lc_it (walk_list (xs := vs)) (F_nil _ D H1) ⟨[], upd_same, Nat.le_refl _, rfl, Ex.new hD⟩ (fun i H' _ hP => hP.elim fun _ z => z.2.2.2.sql (sq_of ho)) (fun i v H2 H' hi hP y => ?_) (fun H' hP => fin D H' hP)⟩⟩
      obtain ⟨rfl, hv⟩ := y
      walk_at "vc"
      exact body i v D _ hD hv hP
    | false =>
      refine ⟨_, rfl, a, rfl, .inr ⟨⟨_, st_of ho⟩, fun D hD => lc_it (walk_tup (xs := vs)) (F_nil _ D H1) ⟨[], upd_same, Nat.le_refl _, rfl, Ex.new hD⟩ (fun i H' _ hP => hP.elim fun _ z => z.2.2.2.sqt (st_of ho)) (fun i v H2 H' hi hP y => ?_) (fun H' hP => fin D H' hP)⟩⟩
      obtain ⟨rfl, hv⟩ := y
      walk_at "vc"
      exact body i v D _ hD hv hP
/-- the same, where the outcome is looked at -/
theorem fin_nil {gs : List Bool} {D : Addr} {H H' : Hp} {n : Nat} {A B : Hp → Prop} {p : Addr} (h : F_nil gs D H n H') (hn : gs.length ≤ n) (hp : H' p = none) (qa : ∀ H', Ex H H' → gs.all id = true → A H') (qb : ∀ H', Ex H H' → gs.all id = false → B H') :
    ∃ a, V.ref D = V.ref a ∧ ∃ x, upd H' p (.lst []) a = some (.lst x) ∧ upd H' p (.lst []) p = some (.lst []) ∧ if x = [] then A (upd H' p (.lst [])) else B (upd H' p (.lst [])) := by
  obtain ⟨acc, h1, h2, h3, h4⟩ := h
  rw [List.take_of_length_le hn] at h3
  refine ⟨D, rfl, acc, Ex.new hp _ _ h1, upd_same, ite2 (fun e => ?_) (fun e => ?_)⟩
  · exact qa _ (h4.trans (Ex.new hp)) (by rw [← h3, decide_eq_true e])
  · exact qb _ (h4.trans (Ex.new hp)) (by rw [← h3, decide_eq_false e])
def dueV : Option Str → V
  | none => .non
  | some x => .str x
def sp_law_put_due (A : ClsA) : Sp
  | [n, d, .ref p], H, Q, _ => ∃ bad mn md g ms, AO A bad H mn n ∧ AO A bad H md d ∧ H p = some (.lst g) ∧ AOs A bad H ms g ∧ g.length ≤ 900 ∧ ∀ H', Ex H H' → Q (dueV (putDue mn md ms)) H'
  | _, _, _, _ => False
theorem kinds_tab2 : ∀ p ∈ kindsS, deedTab.lookup p.1 = some (p.2.cps.toList.map kOf) := by decide +kernel
theorem deeds_all : ∀ p ∈ deedTab, p.1 ∈ deeds ++ [("figures" : Str)] := by decide +kernel
theorem deeds_has : ∀ x ∈ deeds ++ [("figures" : Str)], (deedTab.lookup x).isSome = true := by decide +kernel
theorem isOf_num {m : AM} : isOf "number" m = m.num := by unfold isOf; rw [if_neg (by decide +kernel)]
theorem isOf_nm {m : AM} : isOf "name" m = m.nm := by unfold isOf; rw [if_pos rfl]
theorem zip_rep {ms : List AM} : ∀ {n : Nat}, n = ms.length → List.zipWith isOf (List.replicate n "number") ms = ms.map AM.num := by
  induction ms with
  | nil => intro n hn; subst hn; rfl
  | cons m ms ih =>
    intro n hn
    subst hn
    rw [List.length_cons, List.replicate_succ, List.zipWith_cons_cons, List.map_cons, ih rfl, isOf_num]
theorem fits_fig {ks0 : List Str} {ms : List AM} : fitsM (kindsA ks0 "figures" ms.length) ms = (decide (0 < ms.length) && (ms.map AM.num).all id) := by
  unfold fitsM kindsA
  rw [if_pos rfl, List.length_replicate]
  by_cases h : 0 < ms.length
  · rw [decide_eq_true h, decide_eq_true (by omega), zip_rep (by omega)]
  · rw [decide_eq_false h, decide_eq_false (by omega), Bool.false_and, Bool.false_and]
theorem putDue_bad {mn md : AM} {ms : List AM} (h : mn.nm = true) (h2 : ∀ x, md = .str x → x ∉ deeds ++ [("figures" : Str)]) : putDue mn md ms = some ("deed" : Str) := by
  unfold putDue
  rw [if_pos h]
  cases md with
  | str x =>
    dsimp only
    cases e : deedTab.lookup x with
    | none => rfl
    | some ks => exact absurd (deeds_all _ (lookup_mem e)) (h2 x rfl)
  | _ => rfl
theorem putDue_of {mn : AM} {x : Str} {ks : List Str} {ms : List AM} (h : mn.nm = true) (h2 : deedTab.lookup x = some ks) : putDue mn (.str x) ms = if fitsM (kindsA ks x ms.length) ms = true then (none : Option Str) else some ("given" : Str) := by
  unfold putDue
  rw [if_pos h]
  dsimp only
  rw [h2]
theorem ok_law_put_due (T : Txt w K mg a_is_integer a_is_number a_is_name a_are_rows a_needed a_fits a_is_of a_law_deal a_law_draw a_law_pick a_law_words a_law_kinds a_law_put a_law_any a_law_is_name a_law_is_number a_law_are_rows a_law_put_due a_law_ask_due a_law_made a_law_due a_law_told a_law_is_beyond a_law a_Put_init a_If_init a_Times_init a_Ask_init a_Not_init a_InvalidRow_init a_InvalidRow a_FigureError a_InvalidText a_Put a_If a_Times a_Stop a_Ask a_Not a_Row a_Test a_DEEDS a_WORDS a_If_init_d0 d_is_integer d_is_number d_is_name d_are_rows d_needed d_fits d_is_of d_law_deal d_law_draw d_law_pick d_law_words d_law_kinds d_law_put d_law_any d_law_is_name d_law_is_number d_law_are_rows d_law_put_due d_law_ask_due d_law_made d_law_due d_law_told d_law_is_beyond d_law d_Put_init d_If_init d_Times_init d_Ask_init d_Not_init d_InvalidRow_init) : FnOk P w K mg base CX0 3 a_law_put_due d_law_put_due ["_law_name", "_law_deed", "_law_args"] (sp_law_put_due ⟨a_Put, a_If, a_Times, a_Stop, a_Ask, a_Not⟩) := by
  have G_law_is_name := ok_law_is_name (P := P) (w := w) (base := base) T
  have G_law_is_number := ok_law_is_number (P := P) (w := w) (base := base) T
  have G_law_kinds := ok_law_kinds (P := P) (w := w) (base := base) T
  refine T.F_law_put_due.ok sc_law_put_due (fun vs H Q E h => ?_) (fun cdv A outer s H vs Q E hr h => ?_)
  · unfold sp_law_put_due at h; split at h; rfl; exact h.elim
  unfold sp_law_put_due at h; split at h
  case h_2 => exact h.elim
  rename_i n d p
  obtain ⟨bad, mn, md, g, ms, hn, hd, hp, hms, hl, q⟩ := h
  refine ⟨_, (pss_cons (ps_if (pt_not (pt_val (pe_call G_law_is_name (hr.mono (by decide)) (by rfl) T.g_law_is_name T.F_law_is_name.kp T.b_law_is_name .nil pass0 (pa_cons (pv 0) pa_nil))))
      (pss_one (ps_ret pe_str))
      pss_nil)
      (pss_cons (ps_if (PW.pt (pw_or (pt_not (pt_val (pe_callB (call_isiK (K := K)) (by rfl) T.z_isinstance (by decide +kernel) (pa_cons (pv 1) (pa_cons (pe_bltn (v := .ty "str") (by rfl) T.z_str (by decide +kernel) rfl) pa_nil))))) (pw_or1 (pt_cmpR op_notIn_seq (pv 1) (pe_op op_cat (pe_callTy (L2.call_list_dK rfl) (by rfl) T.z_list (by decide +kernel) (pa_cons (pe_call0 G_law_kinds (hr.mono (by decide)) (by rfl) T.g_law_kinds T.F_law_kinds.kp T.b_law_kinds .nil pass0) pa_nil)) (pe_lst (pa_cons pe_str pa_nil))) (by rfl)))))
      (pss_one (ps_ret pe_str))
      pss_nil)
      (pss_cons (ps_if (pt_cmpR op_eq (pv 1) pe_str (nomark _))
      (pss_one (ps_ret (pe_ifExp (PW.pt (pw_and (pt_cmpR op_gt (pe_callB call_len_seq (by rfl) T.z_len (by decide +kernel) (pa_cons (pv 2) pa_nil)) pe_int (nomark _)) (pw_and1 (pt_cmpR (op_eqNil hr.units) (pe_lc (own := [("_law_one", 5)]) (g := gName 5) (by rfl) sc_law_put_due.nd (pi_list (pv 2)) (blkOk_by (own := [("_law_one", 5)]) (N := N_law_put_due) (sc := defScope s_law_put_due) (by decide +kernel)) (fun _ _ _ _ _ => (pg_name (i := 5) sc_law_put_due.nd rfl (by first | exact .inl rfl | exact .inr rfl))) (fun _ _ _ _ _ => (pts_one (pt_not (pt_val (pe_call G_law_is_number (hr.mono (by decide)) (by rfl) T.g_law_is_number T.F_law_is_number.kp T.b_law_is_number .nil pass0 (pa_cons (pv 5) pa_nil)))))) (fun _ _ _ _ _ => (pv 5))) (pe_lst pa_nil) (nomark _))))) pe_non pe_str)))
      pss_nil)
      (pss_cons (ps_set (i := 3) sc_law_put_due.nd rfl (by first | exact .inl rfl | exact .inr rfl) (pe_dget (un1 hr.units) (pe_call0 G_law_kinds (hr.mono (by decide)) (by rfl) T.g_law_kinds T.F_law_kinds.kp T.b_law_kinds .nil pass0) (pv 1) (fun _ _ => rfl)))
      (pss_cons (ps_if (pt_cmpR op_ne (pe_callB call_len_str (by rfl) T.z_len (by decide +kernel) (pa_cons (pv 3) pa_nil)) (pe_callB call_len_seq (by rfl) T.z_len (by decide +kernel) (pa_cons (pv 2) pa_nil)) (nomark _))
      (pss_one (ps_ret pe_str))
      pss_nil)
      (pss_cons (ps_setLc (i := 4) (own := [("_law_k", 6), ("_law_one", 5)]) (g := gTup K 2 (gCons (gName 6) (gCons (gName 5) gNil))) (by rfl) sc_law_put_due.nd rfl rfl (sw_true rfl rfl rfl (by decide +kernel)) (pi_enum (by rfl) T.z_enumerate (pa_cons (pv 2) pa_nil)) (blkOk_by (own := [("_law_k", 6), ("_law_one", 5)]) (N := N_law_put_due) (sc := defScope s_law_put_due) (by decide +kernel)) (fun _ _ _ _ _ => (pg_tupK (K := K) (n := 2) rfl rfl (pgs_cons (pg_name (i := 6) sc_law_put_due.nd rfl (by first | exact .inl rfl | exact .inr rfl)) (pgs_cons (pg_name (i := 5) sc_law_put_due.nd rfl (by first | exact .inl rfl | exact .inr rfl)) pgs_nil)))) (fun _ _ _ _ _ => (pts_one (pt_not (pt_ifExp (pt_cmpR op_eq (pe_ix ix_str (pv 3) (pv 6) (fun _ _ => rfl)) pe_str (nomark _)) (pt_val (pe_call G_law_is_number (hr.mono (by decide)) (by rfl) T.g_law_is_number T.F_law_is_number.kp T.b_law_is_number .nil pass0 (pa_cons (pv 5) pa_nil))) (pt_val (pe_call G_law_is_name (hr.mono (by decide)) (by rfl) T.g_law_is_name T.F_law_is_name.kp T.b_law_is_name .nil pass0 (pa_cons (pv 5) pa_nil))))))) (fun _ _ _ _ _ => (pv 6)))
      (pss_one (ps_ret (pe_ifExp (pt_cmpR (op_eqNil hr.units) (pv 4) (pe_lst pa_nil) (nomark _)) pe_non pe_str))))))))), ?_⟩
  walk_at "st"
  walk_at "vc"
  refine ⟨mn, bad, hn, fun H1 e1 => ⟨_, rfl, ite2 (fun h1 => ?_) (fun h1 => ?_)⟩⟩
  · have e : putDue mn md ms = some ("name" : Str) := by unfold putDue; rw [if_neg (by rw [h1]; decide)]
    rw [e] at q
    exact q _ e1
  have hnm : mn.nm = true := by simpa using h1
  refine (hd.ex e1).isi (kt_of T) (by simp [askTs]) ⟨_, rfl, ite2 (fun h2 => ?_) (fun h2 => ?_)⟩
  · have e : putDue mn md ms = some ("deed" : Str) := putDue_bad hnm fun x hx => by subst hx; exact absurd h2 (by simp [AM.is])
    rw [e] at q
    exact q _ e1
  obtain ⟨x, rfl⟩ := AM.str_of (by simpa using h2)
  unfold AO at hd
  obtain ⟨rfl, hxl⟩ := hd
  have kd : (asK kindsS).map (fun kv => kV kv.1) = deeds.map V.str := by unfold asK deeds; rw [List.map_map, List.map_map]; rfl
  intro pk H2 e2 hpk hk
  refine ⟨pk, _, rfl, hk, fun l hl0 => ?_⟩
  rw [kd]
  refine ⟨sz_le (by simp), fun p2 hp2 => ⟨l, p2, _, _, rfl, rfl, Ex.new hp2 _ _ upd_same, upd_same, sz_le (by rw [List.length_map]; decide), fun s1 hs1 => ?_⟩⟩
  have e3 := e1.trans (e2.trans ((Ex.new hl0 (o := .lst (deeds.map V.str))).trans ((Ex.new hp2 (o := .lst [.str "figures"])).trans (Ex.new hs1 (o := .lst (deeds.map V.str ++ [.str "figures"]))))))
  have w3 := upd_same (H := upd (upd H2 l (.lst (deeds.map V.str))) p2 (.lst [.str "figures"])) (a := s1) (o := .lst (deeds.map V.str ++ [.str "figures"]))
  generalize upd (upd (upd H2 l (.lst (deeds.map V.str))) p2 (.lst [.str "figures"])) s1 (.lst (deeds.map V.str ++ [.str "figures"])) = H3 at *
  have em : deeds.map V.str ++ [V.str "figures"] = (deeds ++ [("figures" : Str)]).map V.str := by rw [List.map_append]; rfl
  rw [em] at w3
  refine ⟨s1, _, rfl, .inl (sq_of w3), rfl, flat_strsR, ?_⟩
  rw [if_pos rfl, inV_str]
  refine ⟨_, rfl, ite2 (fun hin => ?_) (fun hin => ?_)⟩
  · have e : putDue mn (.str x) ms = some ("deed" : Str) := putDue_bad hnm fun y hy => by cases hy; simpa using hin
    rw [e] at q
    exact q _ e3
  have hx : x ∈ deeds ++ [("figures" : Str)] := Decidable.byContradiction fun z => hin (by rw [decide_eq_false z]; rfl)
  have hms3 := hms.ex e3
  have hp3 := e3 _ _ hp
  have hlen := hms.len
  refine ⟨rfl, ite2 (fun hf => ?_) (fun hf => ?_)⟩
  · have hf2 : x = "figures" := V.str.inj hf
    subst hf2
    have hk0 : deedTab.lookup ("figures" : Str) = some ([("number" : Str)] : List Str) := by decide +kernel
    rw [putDue_of hnm hk0, fits_fig] at q
    refine ⟨_, .inl (sq_of hp3), ite2 (fun h0 => ?_) (fun h0 => ?_)⟩
    · rw [decide_eq_true (by omega), Bool.true_and] at q
      refine ⟨_, rfl, p, rfl, ⟨_, sq_of hp3⟩, fun D hD => lc_it (walk_list (xs := g)) (F_nil (ms.map AM.num) D H3) ⟨[], upd_same, Nat.le_refl _, rfl, Ex.new hD⟩ (fun i H' _ hP => hP.elim fun _ z => z.2.2.2.sql (sq_of hp3)) (fun i v H2 H' hi hP y => ?_) (fun H' hP => ⟨sz_le (by simp), fun p5 hp5 => ?_⟩)⟩
      · obtain ⟨rfl, hv⟩ := y
        walk_at "vc"
        obtain ⟨m, hm0, hm1⟩ := hms3.at_ hv
        obtain ⟨_, _, _, _, e5⟩ := id hP
        refine ⟨m, bad, hm1.ex e5, _, rfl, ite2 (fun hb => ?_) (fun hb => ?_)⟩
        · exact hP.bad (by omega) (by rw [List.getElem?_map, hm0]; exact congrArg some hb) (Ex.refl _) hD
        · exact hP.good (by rw [List.getElem?_map, hm0]; exact congrArg some (by simpa using hb)) (Ex.refl _)
      · refine fin_nil hP (by rw [List.length_map]; omega) hp5 (fun H6 e6 hy => ?_) (fun H6 e6 hy => ?_)
        · rw [hy, if_pos rfl] at q; exact q _ (e3.trans e6)
        · rw [hy, if_neg (by decide)] at q; exact q _ (e3.trans e6)
    · rw [decide_eq_false (by omega), Bool.false_and, if_neg (by decide)] at q
      exact q _ e3
  · have hx2 : x ∈ deeds := by
      rcases List.mem_append.mp hx with h | h
      · exact h
      · exact absurd (congrArg V.str (List.mem_singleton.mp h)) hf
    obtain ⟨z, hz⟩ : ∃ z, (x, z) ∈ kindsS := by
      obtain ⟨⟨x0, z⟩, hz, e9⟩ := List.mem_map.mp hx2
      cases e9
      exact ⟨z, hz⟩
    have hne : x ≠ "figures" := fun e => hf (congrArg V.str e)
    rw [putDue_of hnm (kinds_tab2 _ hz)] at q
    have hzl := kinds_len _ hz
    have ek : kindsA (z.cps.toList.map kOf) x ms.length = z.cps.toList.map kOf := by unfold kindsA; rw [if_neg hne]
    dsimp only at q
    rw [ek] at q
    unfold tDGet
    walk_at "vc"
    intro pk2 H4 e4 _ hk4
    have e34 := e3.trans e4
    have zc : z.cps.toList.length = z.cps.size := Array.length_toList
    refine ⟨pk2, rfl, .str z, ?_, z, rfl, sz_le (by have : z.length ≤ 2 := hzl; omega), g, .inl (sq_of (e4 _ _ hp3)), ite2 (fun hne2 => ?_) (fun he => ?_)⟩
    · have := DGet.k (k := .inr x) hk4
      rw [valV_as (kinds_at _ hz)] at this
      exact this
    · have ef : fitsM (z.cps.toList.map kOf) ms = false := by
        unfold fitsM
        rw [decide_eq_false (by rw [List.length_map, zc]; intro h9; exact hne2 (by rw [hlen, h9]; rfl)), Bool.false_and]
      rw [ef, if_neg (by decide)] at q
      exact q _ e34
    have hzg : z.cps.size = g.length := by have h9 := Decidable.not_not.mp he; unfold PySem.Str.length at h9; omega
    have ef : fitsM (z.cps.toList.map kOf) ms = (List.zipWith isOf (z.cps.toList.map kOf) ms).all id := by
      unfold fitsM
      rw [decide_eq_true (by rw [List.length_map, zc]; omega), Bool.true_and]
    rw [ef] at q
    have hp4 := e4 _ _ hp3
    have zl : (List.zipWith isOf (z.cps.toList.map kOf) ms).length = ms.length := by rw [List.length_zipWith, List.length_map, zc]; omega
    refine ⟨_, rfl, p, g, rfl, sq_of hp4, fun D hD => lc_it (walk_enum (xs := g)) (F_nil (List.zipWith isOf (z.cps.toList.map kOf) ms) D H4) ⟨[], upd_same, Nat.le_refl _, rfl, Ex.new hD⟩ (fun i H' _ hP => hP.elim fun _ z => z.2.2.2.sql (sq_of hp4)) (fun i v H2 H' hi hP y => ?_) (fun H' hP => ⟨sz_le (by simp), fun p5 hp5 => ?_⟩)⟩
    · obtain ⟨T0, v0, v1, rfl, hT, rfl, hx0, hx1⟩ := y
      cases hx0
      refine ⟨T0, _, rfl, st_of upd_same, rfl, ?_⟩
      simp only [gCons, gNil]
      walk_at "vc"
      obtain ⟨m, hm0, hm1⟩ := hms3.at_ hx1
      obtain ⟨_, _, _, _, e5⟩ := id hP
      have eT := Ex.new hT (o := .tup [V.int (i : Nat), v1])
      obtain ⟨c, hc⟩ : ∃ c, z.cps.toList[i]? = some c := ⟨z.cps.toList[i]'(by rw [zc]; omega), List.getElem?_eq_getElem _⟩
      have gs : (List.zipWith isOf (z.cps.toList.map kOf) ms)[i]? = some (isOf (kOf c) m) := by
        rw [List.getElem?_zipWith, List.getElem?_map, hc, hm0]; rfl
      have e6 := e4.trans (e5.trans eT)
      refine ⟨_, _, _, rfl, rfl, sz_le (by have : z.length ≤ 2 := hzl; omega), atI_nat hc, rfl, ite2 (fun hk1 => ?_) (fun hk1 => ?_)⟩
      · have ko : kOf c = "number" := by unfold kOf; rw [if_pos (V.str.inj hk1)]
        rw [ko, isOf_num] at gs
        refine ⟨m, bad, hm1.ex e6, _, rfl, ite2 (fun hb => ?_) (fun hb => ?_)⟩
        · exact hP.bad (by omega) (by rw [gs, hb]) eT hD
        · exact hP.good (by rw [gs]; exact congrArg some (by simpa using hb)) eT
      · have ko : kOf c = "name" := by unfold kOf; rw [if_neg (fun z => hk1 (congrArg V.str z))]
        rw [ko, isOf_nm] at gs
        refine ⟨m, bad, hm1.ex e6, fun H7 e7 => ⟨_, rfl, ite2 (fun hb => ?_) (fun hb => ?_)⟩⟩
        · exact hP.bad (by omega) (by rw [gs, hb]) (eT.trans e7) hD
        · exact hP.good (by rw [gs]; exact congrArg some (by simpa using hb)) (eT.trans e7)
    · refine fin_nil hP (by omega) hp5 (fun H6 e6 hy => ?_) (fun H6 e6 hy => ?_)
      · rw [hy, if_pos rfl] at q; exact q _ (e34.trans e6)
      · rw [hy, if_neg (by decide)] at q; exact q _ (e34.trans e6)
theorem word_val {x : Str} : valV (wordTab.map (fun p => ((.inr p.1 : Key), V.int (p.2 : Int)))) (.inr x) = (wordTab.lookup x).map fun n => V.int (n : Nat) := by
  have gen : ∀ l : List (Str × Nat), valV (l.map (fun p => ((.inr p.1 : Key), V.int (p.2 : Int)))) (.inr x) = (l.lookup x).map fun n => V.int (n : Nat) := by
    intro l
    induction l with
    | nil => rfl
    | cons a l ih =>
      unfold valV at ih ⊢
      rw [List.map_cons, List.find?_cons, List.lookup_cons]
      by_cases h : a.1 = x
      · rw [h, decide_eq_true rfl, beq_self_eq_true]; rfl
      · rw [decide_eq_false (fun z => h (Sum.inr.inj z)), show (x == a.1) = false from beq_eq_false_iff_ne.mpr (fun z => h z.symm)]
        exact ih
  exact gen _
def sp_law_ask_due (A : ClsA) : Sp
  | [u, .ref p], H, Q, _ => ∃ bad mw g ms, AO A bad H mw u ∧ H p = some (.lst g) ∧ AOs A bad H ms g ∧ g.length ≤ 900 ∧ ∀ H', Ex H H' → Q (dueV (askDue mw ms)) H'
  | _, _, _, _ => False
theorem ok_law_ask_due (T : Txt w K mg a_is_integer a_is_number a_is_name a_are_rows a_needed a_fits a_is_of a_law_deal a_law_draw a_law_pick a_law_words a_law_kinds a_law_put a_law_any a_law_is_name a_law_is_number a_law_are_rows a_law_put_due a_law_ask_due a_law_made a_law_due a_law_told a_law_is_beyond a_law a_Put_init a_If_init a_Times_init a_Ask_init a_Not_init a_InvalidRow_init a_InvalidRow a_FigureError a_InvalidText a_Put a_If a_Times a_Stop a_Ask a_Not a_Row a_Test a_DEEDS a_WORDS a_If_init_d0 d_is_integer d_is_number d_is_name d_are_rows d_needed d_fits d_is_of d_law_deal d_law_draw d_law_pick d_law_words d_law_kinds d_law_put d_law_any d_law_is_name d_law_is_number d_law_are_rows d_law_put_due d_law_ask_due d_law_made d_law_due d_law_told d_law_is_beyond d_law d_Put_init d_If_init d_Times_init d_Ask_init d_Not_init d_InvalidRow_init) : FnOk P w K mg base CX0 3 a_law_ask_due d_law_ask_due ["_law_word", "_law_names"] (sp_law_ask_due ⟨a_Put, a_If, a_Times, a_Stop, a_Ask, a_Not⟩) := by
  have G_law_is_name := ok_law_is_name (P := P) (w := w) (base := base) T
  refine T.F_law_ask_due.ok sc_law_ask_due (fun vs H Q E h => ?_) (fun cdv A outer s H vs Q E hr h => ?_)
  · unfold sp_law_ask_due at h; split at h; rfl; exact h.elim
  unfold sp_law_ask_due at h; split at h
  case h_2 => exact h.elim
  rename_i u p
  obtain ⟨bad, mw, g, ms, hu, hp, hms, hl, q⟩ := h
  refine ⟨_, (pss_cons (ps_set (i := 2) sc_law_ask_due.nd rfl (by first | exact .inl rfl | exact .inr rfl) (pe_disp (pps_cons pe_str pe_int (pps_cons pe_str pe_int (pps_cons pe_str pe_int (pps_cons pe_str pe_int (pps_cons pe_str pe_int pps_nil))))) (by rfl) (by rfl) (fun z => by cases z) (by decide)))
      (pss_cons (ps_if (PW.pt (pw_or (pt_not (pt_val (pe_callB (call_isiK (K := K)) (by rfl) T.z_isinstance (by decide +kernel) (pa_cons (pv 0) (pa_cons (pe_bltn (v := .ty "str") (by rfl) T.z_str (by decide +kernel) rfl) pa_nil))))) (pw_or1 (pt_cmpR (op_notInDic (un1 hr.units)) (pv 0) (pv 2) (by rfl)))))
      (pss_one (ps_ret pe_str))
      pss_nil)
      (pss_one (ps_ret (pe_ifExp (PW.pt (pw_and (pt_cmpR op_eq (pe_callB call_len_seq (by rfl) T.z_len (by decide +kernel) (pa_cons (pv 1) pa_nil)) (pe_dget (un1 hr.units) (pv 2) (pv 0) (fun _ _ => rfl)) (nomark _)) (pw_and1 (pt_cmpR (op_eqNil hr.units) (pe_lc (own := [("_law_one", 3)]) (g := gName 3) (by rfl) sc_law_ask_due.nd (pi_list (pv 1)) (blkOk_by (own := [("_law_one", 3)]) (N := N_law_ask_due) (sc := defScope s_law_ask_due) (by decide +kernel)) (fun _ _ _ _ _ => (pg_name (i := 3) sc_law_ask_due.nd rfl (by first | exact .inl rfl | exact .inr rfl))) (fun _ _ _ _ _ => (pts_one (pt_not (pt_val (pe_call G_law_is_name (hr.mono (by decide)) (by rfl) T.g_law_is_name T.F_law_is_name.kp T.b_law_is_name .nil pass0 (pa_cons (pv 3) pa_nil)))))) (fun _ _ _ _ _ => (pv 3))) (pe_lst pa_nil) (nomark _))))) pe_non pe_str))))), ?_⟩
  walk_at "st"
  walk_at "vc"
  unfold tDisp
  walk_at "vc"
  intro p1 hp1
  refine ⟨upd_same, wordTab.map (fun p => (.inr p.1, .int (p.2 : Int))), rfl, by decide, ?_⟩
  have e0 : mergeK [] (wordTab.map (fun p => ((.inr p.1 : Key), V.int (p.2 : Int)))) = wordTab.map (fun p => ((.inr p.1 : Key), V.int (p.2 : Int))) := by rfl
  rw [e0]
  have e1 : Ex H (upd (upd H p1 (.dK [])) p1 (.dK (wordTab.map (fun p => ((.inr p.1 : Key), V.int (p.2 : Int)))))) := (Ex.new hp1).mut hp1
  have w1 : upd (upd H p1 (.dK [])) p1 (.dK (wordTab.map (fun p => ((.inr p.1 : Key), V.int (p.2 : Int))))) p1 = some (.dK (wordTab.map (fun p => ((.inr p.1 : Key), V.int (p.2 : Int))))) := upd_same
  generalize upd (upd H p1 (.dK [])) p1 (.dK (wordTab.map (fun p => ((.inr p.1 : Key), V.int (p.2 : Int))))) = H1 at *
  have hlen := hms.len
  have hms1 := hms.ex e1
  have hp' := e1 _ _ hp
  refine (hu.ex e1).isi (kt_of T) (by simp [askTs]) ⟨_, rfl, ite2 (fun h2 => ?_) (fun h2 => ?_)⟩
  · have e : askDue mw ms = some ("word" : Str) := by
      unfold askDue
      cases mw <;> first | rfl | (exact absurd h2 (by simp [AM.is]))
    rw [e] at q
    exact q _ e1
  obtain ⟨x, rfl⟩ := AM.str_of (by simpa using h2)
  unfold AO at hu
  obtain ⟨rfl, hxl⟩ := hu
  unfold askDue at q
  dsimp only at q
  have dg : DGet H1 p1 (.str x) (valV (wordTab.map (fun p => ((.inr p.1 : Key), V.int (p.2 : Int)))) (.inr x)) := DGet.k (k := .inr x) w1
  rw [word_val] at dg
  refine ⟨_, dg, ?_⟩
  cases hk : wordTab.lookup x with
  | none =>
    rw [hk] at q
    rw [if_pos (by rfl)]
    exact q _ e1
  | some nn =>
    rw [hk] at q dg
    dsimp only at q
    rw [if_neg (by simp)]
    refine ⟨g, .inl (sq_of hp'), ?_⟩
    unfold tDGet
    walk_at "vc"
    refine ⟨_, dg, rfl, ite2 (fun he => ?_) (fun hne => ?_)⟩
    · have he2 : ms.length = nn := by have := V.int.inj he; omega
      refine ⟨_, rfl, p, rfl, ⟨_, sq_of hp'⟩, fun D hD => lc_it (walk_list (xs := g)) (F_nil (ms.map AM.nm) D H1) ⟨[], upd_same, Nat.le_refl _, rfl, Ex.new hD⟩ (fun i H' _ hP => hP.elim fun _ z => z.2.2.2.sql (sq_of hp')) (fun i v H2 H' hi hP y => ?_) (fun H' hP => ⟨sz_le (by simp), fun p5 hp5 => ?_⟩)⟩
      · obtain ⟨rfl, hv⟩ := y
        walk_at "vc"
        obtain ⟨m, hm0, hm1⟩ := hms1.at_ hv
        obtain ⟨_, _, _, _, e5⟩ := id hP
        refine ⟨m, bad, hm1.ex e5, fun H6 e6 => ⟨_, rfl, ite2 (fun hb => ?_) (fun hb => ?_)⟩⟩
        · exact hP.bad (by omega) (by rw [List.getElem?_map, hm0]; exact congrArg some hb) e6 hD
        · exact hP.good (by rw [List.getElem?_map, hm0]; exact congrArg some (by simpa using hb)) e6
      · refine fin_nil hP (by rw [List.length_map]; omega) hp5 (fun H6 e6 hy => ?_) (fun H6 e6 hy => ?_)
        · rw [if_pos ⟨he2, hy⟩] at q; exact q _ (e1.trans e6)
        · rw [if_neg (fun z => by rw [hy] at z; exact absurd z.2 (by decide))] at q; exact q _ (e1.trans e6)
    · rw [if_neg (fun z => hne (by rw [hlen, z.1]))] at q
      exact q _ e1
end
end My
set_option Elab.async false
set_option linter.all false
set_option maxRecDepth 100000
set_option maxHeartbeats 4000000
set_option exponentiation.threshold 5000
namespace My
open PySem PySem.Spec PyProof.Rows L2 Evl
local macro_rules | `(tactic| walk_at "st") => `(tactic| simp only [L2.start, List.map_cons, List.map_nil, List.length_cons, List.length_nil, Nat.reduceAdd, Nat.reduceSub, List.replicate_succ, List.replicate_zero, List.cons_append, List.nil_append, cxOf, List.append_nil])
local macro_rules | `(tactic| walk_at "vc") => `(tactic| try simp only [tSeq, tAsg, tOp, tUn, tVar, tC, tNil, tCons, gName, rI, rI0, rU, tRet, tIfS, tNot, tAnd, tOr, tB, tTest, tCB, tCall, tAndV, tOrV, tNotV, tNext, tNever, tIf, tChain, tYes, tPart, tNoPart, tPar, tDrop, q_isi, q_vn, q_vb, q_vi, q_vs, kb1, kb2, kb3, kb4, kb5, kb6, kb7, kb8, q_int1, q_int2, q_min, q_max, q_repr, tLst, tTup, rEq, rNe, q_sii, q_sss, q_sbb, q_snn, q_sns, q_ssn, q_ix, q_sl, tSl, tBM, tBM0, q_app, q_pop, gSub, rSetL, L2.wipe, eq_self, decide_true, decide_false, tRevL,
  List.getElem?_cons_succ, List.getElem?_cons_zero, List.set_cons_succ, List.set_cons_zero, Option.some.injEq, exists_eq_left', exists_eq_left, V.int.injEq, V.bl.injEq, V.ref.injEq, V.str.injEq, List.cons.injEq, and_true, true_and, List.append_nil, List.nil_append, List.cons_append, exists_and_left, and_assoc, if_true, if_false, Bool.not_true, Bool.not_false, Bool.false_eq_true, Bool.true_eq_false, reduceIte, tRevL, tPar3, tRevT, tUnl, tCKw, forall_const, Bool.not_eq_true', decide_eq_true_eq, decide_eq_false_iff_not])
section
variable {P : Program} {w : World} {K : PySem.W.Frag} {mg : Str → Option Value} {base : Heap}
variable {a_is_integer a_is_number a_is_name a_are_rows a_needed a_fits a_is_of a_law_deal a_law_draw a_law_pick a_law_words a_law_kinds a_law_put a_law_any a_law_is_name a_law_is_number a_law_are_rows a_law_put_due a_law_ask_due a_law_made a_law_due a_law_told a_law_is_beyond a_law a_Put_init a_If_init a_Times_init a_Ask_init a_Not_init a_InvalidRow_init a_InvalidRow a_FigureError a_InvalidText a_Put a_If a_Times a_Stop a_Ask a_Not a_Row a_Test a_DEEDS a_WORDS a_If_init_d0 : Addr} {d_is_integer d_is_number d_is_name d_are_rows d_needed d_fits d_is_of d_law_deal d_law_draw d_law_pick d_law_words d_law_kinds d_law_put d_law_any d_law_is_name d_law_is_number d_law_are_rows d_law_put_due d_law_ask_due d_law_made d_law_due d_law_told d_law_is_beyond d_law d_Put_init d_If_init d_Times_init d_Ask_init d_Not_init d_InvalidRow_init : FuncData}
/-! ### made, due, told -/
theorem atI0 {a : V} {xs : List V} : atI (a :: xs) 0 = some a := atI_nat (j := 0) rfl
theorem atI1 {a b : V} {xs : List V} : atI (a :: b :: xs) 1 = some b := atI_nat (j := 1) rfl
theorem atI2 {a b c : V} {xs : List V} : atI (a :: b :: c :: xs) 2 = some c := atI_nat (j := 2) rfl
theorem atI3 {a b c d : V} {xs : List V} : atI (a :: b :: c :: d :: xs) 3 = some d := atI_nat (j := 3) rfl
theorem cutN (xs : List V) (k : Nat) : cutV xs (some (k : Int)) none = xs.drop k := by
  have e1 : HT.sIx xs.length 0 (some (k : Int)) = min k xs.length := by
    unfold HT.sIx
    simp only []
    rw [if_neg (by omega), Int.toNat_natCast]
  have e2 : HT.sIx xs.length xs.length none = xs.length := rfl
  unfold cutV
  rw [e1, e2]
  by_cases h : k ≤ xs.length
  · rw [Nat.min_eq_left h, List.take_of_length_le (by rw [List.length_drop]; exact Nat.le_refl _)]
  · rw [Nat.min_eq_right (by omega), Nat.sub_self, List.take_zero, List.drop_eq_nil_of_le (by omega)]
theorem cut1 (xs : List V) : cutV xs (some 1) none = xs.drop 1 := cutN xs 1
theorem cut2 (xs : List V) : cutV xs (some 2) none = xs.drop 2 := cutN xs 2
def dueM : Nat → List AM → Option Str
  | 0, n :: d :: g => putDue n d g
  | 1, x :: g => askDue x g
  | 4, c :: rs => if c.num = true then (if (rs.map AM.rows).all id = true then none else some "rows") else some "count"
  | 2, t :: rs => if t.isT = true then (if (rs.map AM.rows).all id = true then none else some "rows") else some "test"
  | 3, t :: rs => if t.isT = true then (if (rs.map AM.rows).all id = true then none else some "rows") else some "test"
  | _, _ => none
def shp : Nat → Nat → Prop
  | 0, n => 2 ≤ n ∧ n ≤ 4
  | 1, n => 1 ≤ n ∧ n ≤ 3
  | 2, n => n = 1
  | 3, n => n = 2 ∨ n = 3
  | 4, n => n = 2
  | _, _ => False
theorem shp_le : ∀ {k n : Nat}, shp k n → k ≤ 4
  | 0, _, _ => by omega
  | 1, _, _ => by omega
  | 2, _, _ => by omega
  | 3, _, _ => by omega
  | 4, _, _ => by omega
  | _ + 5, _, h => h.elim
def AOL (A : ClsA) (H : Hp) (k : Nat) (p : Addr) (ms : List AM) : Prop := ∃ bad vs, H p = some (.lst vs) ∧ AOs A bad H ms vs ∧ shp k ms.length
theorem tLc_sl {K : PySem.W.Frag} {g : TG} {tt : TT} {te : TE} {vs : List Nat} {σ : L2.St} {p : Addr} {H1 : Hp} {xs : List V} {Qd : VK} (hs : σ[1]? = some (some (.ref p))) (hp : H1 p = some (.lst xs)) (h : ∀ r, H1 r = none → tLc (fun _ H R => R (Itl K r) H) g tt te vs σ (upd H1 r (.lst (xs.drop 1))) Qd) :
    tLc (iList K (tSl (rSlM K) (tVar 1) (tPart (tC (V.int 1))) tNoPart)) g tt te vs σ H1 Qd := by
  unfold tLc at h ⊢
  unfold iList
  walk_at "vc"
  refine ⟨V.ref p, hs, ?_⟩
  walk_at "vc"
  refine ⟨_, sq_of hp, fun r hr => ?_⟩
  rw [cut1]
  exact ⟨⟨_, sq_of upd_same⟩, h r hr⟩
theorem rowsLeft {K : PySem.W.Frag} {A : ClsA} {kf : Int} {p : Addr} {H1 : Hp} {v0 : V} {w1 : List V} {rs : List AM} {bad : Addr → Prop} {Q : VK} (hp : H1 p = some (.lst (v0 :: w1))) (hl : (v0 :: w1).length ≤ 4) (hrs : AOs A bad H1 rs w1) (q : ∀ H6, Ex H1 H6 → Q (dueV (if (rs.map AM.rows).all id = true then (none : Option Str) else some ("rows" : Str))) H6) :
    tLc (iList K (tSl (rSlM K) (tVar 1) (tPart (tC (V.int 1))) tNoPart)) (gName 2) (tNot (tB (tCall (sp_law_are_rows A) [] E0 (tCons (tVar 2) tNil)))) (tVar 2) [2] [some (V.int kf), some (V.ref p), none] H1 fun x H1 => ([] : List V).length ≤ sizeLine ∧ ∀ (p : Addr), H1 p = none → ∃ a, x = V.ref a ∧ ∃ x, upd H1 p (HO.lst []) a = some (HO.lst x) ∧ upd H1 p (HO.lst []) p = some (HO.lst []) ∧ if x = [] then Q V.non (upd H1 p (HO.lst [])) else Q (V.str (Str.ofString "rows")) (upd H1 p (HO.lst [])) := by
  refine tLc_sl rfl hp fun r hr => ?_
  have e1 := Ex.new hr (o := .lst (List.drop 1 (v0 :: w1)))
  have w2 : upd H1 r (.lst (List.drop 1 (v0 :: w1))) r = some (.lst w1) := upd_same
  generalize upd H1 r (.lst (List.drop 1 (v0 :: w1))) = H2 at *
  have hl2 : w1.length ≤ 3 := by rw [List.length_cons] at hl; omega
  have hrs2 := hrs.ex e1
  have hlen := hrs.len
  refine fun D hD => lc_it (walk_list (xs := w1)) (F_nil (rs.map AM.rows) D H2) ⟨[], upd_same, Nat.le_refl _, rfl, Ex.new hD⟩ (fun i H' _ hP => hP.elim fun _ z => z.2.2.2.sql (sq_of w2)) (fun i v H3 H' hi hP y => ?_) (fun H' hP => ⟨sz_le (by simp), fun p5 hp5 => ?_⟩)
  · obtain ⟨rfl, hv⟩ := y
    walk_at "vc"
    obtain ⟨m, hm0, hm1⟩ := hrs2.at_ hv
    obtain ⟨_, _, _, _, e5⟩ := id hP
    refine ⟨m, bad, hm1.ex e5, fun H6 e6 => ⟨_, rfl, ite2 (fun hb => ?_) (fun hb => ?_)⟩⟩
    · exact hP.bad (by omega) (by rw [List.getElem?_map, hm0]; exact congrArg some hb) e6 hD
    · exact hP.good (by rw [List.getElem?_map, hm0]; exact congrArg some (by simpa using hb)) e6
  · refine fin_nil hP (by rw [List.length_map]; omega) hp5 (fun H6 e6 hy => ?_) (fun H6 e6 hy => ?_)
    · rw [hy, if_pos rfl] at q; exact q _ (e1.trans e6)
    · rw [hy, if_neg (by decide)] at q; exact q _ (e1.trans e6)
def sp_law_due (A : ClsA) : Sp
  | [.int f, .ref p], H, Q, _ => ∃ (k : Nat) (ms : List AM), f = k ∧ AOL A H k p ms ∧ ∀ H', Ex H H' → Q (dueV (dueM k ms)) H'
  | _, _, _, _ => False
theorem ok_law_due (T : Txt w K mg a_is_integer a_is_number a_is_name a_are_rows a_needed a_fits a_is_of a_law_deal a_law_draw a_law_pick a_law_words a_law_kinds a_law_put a_law_any a_law_is_name a_law_is_number a_law_are_rows a_law_put_due a_law_ask_due a_law_made a_law_due a_law_told a_law_is_beyond a_law a_Put_init a_If_init a_Times_init a_Ask_init a_Not_init a_InvalidRow_init a_InvalidRow a_FigureError a_InvalidText a_Put a_If a_Times a_Stop a_Ask a_Not a_Row a_Test a_DEEDS a_WORDS a_If_init_d0 d_is_integer d_is_number d_is_name d_are_rows d_needed d_fits d_is_of d_law_deal d_law_draw d_law_pick d_law_words d_law_kinds d_law_put d_law_any d_law_is_name d_law_is_number d_law_are_rows d_law_put_due d_law_ask_due d_law_made d_law_due d_law_told d_law_is_beyond d_law d_Put_init d_If_init d_Times_init d_Ask_init d_Not_init d_InvalidRow_init) : FnOk P w K mg base CX0 6 a_law_due d_law_due ["_law_form", "_law_some"] (sp_law_due ⟨a_Put, a_If, a_Times, a_Stop, a_Ask, a_Not⟩) := by
  have G_law_is_number := ok_law_is_number (P := P) (w := w) (base := base) T
  have G_law_are_rows := ok_law_are_rows (P := P) (w := w) (base := base) T
  have G_law_put_due := ok_law_put_due (P := P) (w := w) (base := base) T
  have G_law_ask_due := ok_law_ask_due (P := P) (w := w) (base := base) T
  refine T.F_law_due.ok sc_law_due (fun vs H Q E h => ?_) (fun cdv A outer s H vs Q E hr h => ?_)
  · unfold sp_law_due at h; split at h; rfl; exact h.elim
  unfold sp_law_due at h; split at h
  case h_2 => exact h.elim
  rename_i f p
  obtain ⟨k, ms, rfl, ⟨bad, vs, hp, hms, hs⟩, q⟩ := h
  refine ⟨_, (pss_cons (ps_if (pt_cmpR op_eq (pv 0) pe_int (nomark _))
      (pss_one (ps_ret (pe_call G_law_put_due (hr.mono (by decide)) (by rfl) T.g_law_put_due T.F_law_put_due.kp T.b_law_put_due .nil pass0 (pa_cons (pe_ix ix_listM (pv 1) pe_int (fun _ _ => rfl)) (pa_cons (pe_ix ix_listM (pv 1) pe_int (fun _ _ => rfl)) (pa_cons (pe_slice sl_listM (pv 1) (po_some pe_int) po_none) pa_nil))))))
      pss_nil)
      (pss_cons (ps_if (pt_cmpR op_eq (pv 0) pe_int (nomark _))
      (pss_one (ps_ret (pe_call G_law_ask_due (hr.mono (by decide)) (by rfl) T.g_law_ask_due T.F_law_ask_due.kp T.b_law_ask_due .nil pass0 (pa_cons (pe_ix ix_listM (pv 1) pe_int (fun _ _ => rfl)) (pa_cons (pe_slice sl_listM (pv 1) (po_some pe_int) po_none) pa_nil)))))
      pss_nil)
      (pss_cons (ps_if (PW.pt (pw_and (pt_cmpR op_in_seq (pv 0) (pe_tup (pa_cons pe_int (pa_cons pe_int pa_nil))) (by rfl)) (pw_and1 (pt_not (pt_val (pe_callB (call_isiK (K := K)) (by rfl) T.z_isinstance (by decide +kernel) (pa_cons (pe_ix ix_listM (pv 1) pe_int (fun _ _ => rfl)) (pa_cons (pe_glob (v := .ref a_Test) (by rfl) T.g_Test rfl) pa_nil))))))))
      (pss_one (ps_ret pe_str))
      pss_nil)
      (pss_cons (ps_if (PW.pt (pw_and (pt_cmpR op_eq (pv 0) pe_int (nomark _)) (pw_and1 (pt_not (pt_val (pe_call G_law_is_number (hr.mono (by decide)) (by rfl) T.g_law_is_number T.F_law_is_number.kp T.b_law_is_number .nil pass0 (pa_cons (pe_ix ix_listM (pv 1) pe_int (fun _ _ => rfl)) pa_nil)))))))
      (pss_one (ps_ret pe_str))
      pss_nil)
      (pss_one (ps_ret (pe_ifExp (pt_cmpR (op_eqNil hr.units) (pe_lc (own := [("_law_one", 2)]) (g := gName 2) (by rfl) sc_law_due.nd (pi_list (pe_slice sl_listM (pv 1) (po_some pe_int) po_none)) (blkOk_by (own := [("_law_one", 2)]) (N := N_law_due) (sc := defScope s_law_due) (by decide +kernel)) (fun _ _ _ _ _ => (pg_name (i := 2) sc_law_due.nd rfl (by first | exact .inl rfl | exact .inr rfl))) (fun _ _ _ _ _ => (pts_one (pt_not (pt_val (pe_call G_law_are_rows (hr.mono (by decide)) (by rfl) T.g_law_are_rows T.F_law_are_rows.kp T.b_law_are_rows .nil pass0 (pa_cons (pv 2) pa_nil)))))) (fun _ _ _ _ _ => (pv 2))) (pe_lst pa_nil) (nomark _)) pe_non pe_str))))))), ?_⟩
  walk_at "st"
  walk_at "vc"
  have c0 : ∀ {j : Nat} {v : V}, vs[j]? = some v → ∃ xs, SqL K H p xs ∧ atI xs (j : Int) = some v := fun hj => ⟨_, sq_of hp, atI_nat hj⟩
  have hlen := hms.len
  have len4 : vs.length ≤ 4 := by
    rw [hlen]
    match k, hs with
    | 0, hs => exact hs.2
    | 1, hs => exact Nat.le_trans hs.2 (by decide)
    | 2, hs => have : ms.length = 1 := hs; omega
    | 3, hs => have : ms.length = 2 ∨ ms.length = 3 := hs; omega
    | 4, hs => have : ms.length = 2 := hs; omega
  refine ite2 (fun hk => ?_) (fun hk0 => ite2 (fun hk => ?_) (fun hk1 => ⟨sz_le (by simp), fun p1 hp1 => ?_⟩))
  · obtain rfl : k = 0 := by omega
    obtain ⟨mn, md, g, rfl⟩ : ∃ mn md g, ms = mn :: md :: g := by
      match ms, hs.1 with
      | mn :: md :: g, _ => exact ⟨mn, md, g, rfl⟩
    obtain ⟨n, w1, rfl, hn, h2⟩ := hms.cases1
    obtain ⟨d, w2, rfl, hd, hg⟩ := h2.cases1
    refine ⟨_, sq_of hp, n, atI0, _, sq_of hp, d, atI1, _, sq_of hp, fun r hr2 => ?_⟩
    rw [cut2]
    have e := Ex.new hr2 (o := .lst (List.drop 2 (n :: d :: w2)))
    refine ⟨bad, mn, md, w2, g, hn.ex e, hd.ex e, ?_, hg.ex e, ?_, fun H6 e6 => q H6 (e.trans e6)⟩
    · rw [upd_same]; rfl
    · simp at len4; omega
  · obtain rfl : k = 1 := by omega
    obtain ⟨mn, g, rfl⟩ : ∃ mn g, ms = mn :: g := by
      match ms, hs.1 with
      | mn :: g, _ => exact ⟨mn, g, rfl⟩
    obtain ⟨n, w1, rfl, hn, hg⟩ := hms.cases1
    refine ⟨_, sq_of hp, n, atI0, _, sq_of hp, fun r hr2 => ?_⟩
    rw [cut1]
    have e := Ex.new hr2 (o := .lst (List.drop 1 (n :: w1)))
    refine ⟨bad, mn, w1, g, hn.ex e, ?_, hg.ex e, ?_, fun H6 e6 => q H6 (e.trans e6)⟩
    · rw [upd_same]; rfl
    · simp at len4; omega
  · have e1 := Ex.new hp1 (o := .tup [V.int 2, V.int 3])
    have hin : (if false = true then !inV (V.int k) [V.int 2, V.int 3] else inV (V.int k) [V.int 2, V.int 3]) = decide (k = 2 ∨ k = 3) := by
      rw [if_neg (by decide)]
      unfold inV
      simp only [List.any_cons, List.any_nil, eqV, Bool.or_false]
      by_cases h2 : k = 2
      · subst h2; rfl
      · by_cases h3 : k = 3
        · subst h3; rfl
        · rw [decide_eq_false (by omega)]
          simp
          omega
    refine ⟨p1, _, rfl, .inr (st_of upd_same), rfl, rfl, ?_⟩
    rw [hin]
    generalize upd H p1 (.tup [V.int 2, V.int 3]) = H1 at *
    have hp1' := e1 _ _ hp
    have hms1 := hms.ex e1
    refine ⟨_, rfl, ite2 (fun hk => ?_) (fun hk => ?_)⟩
    · have hk23 : k = 2 ∨ k = 3 := of_decide_eq_true hk
      obtain ⟨t, rs, rfl⟩ : ∃ t rs, ms = t :: rs := by
        match ms with
        | [] => rcases hk23 with rfl | rfl <;> simp [shp] at hs
        | t :: rs => exact ⟨t, rs, rfl⟩
      obtain ⟨v0, w1, rfl, ht, hrs⟩ := hms.cases1
      refine ⟨_, sq_of hp1', v0, atI0, (ht.ex e1).isi_test (kt_of T) ⟨_, rfl, ite2 (fun hb => ?_) (fun hb => ?_)⟩⟩
      · have e : dueM k (t :: rs) = some ("test" : Str) := by
          rcases hk23 with rfl | rfl
          · show (if t.isT = true then _ else _) = _; rw [if_neg (by rw [hb]; decide)]
          · show (if t.isT = true then _ else _) = _; rw [if_neg (by rw [hb]; decide)]
        rw [e] at q
        exact q _ e1
      have e : dueM k (t :: rs) = if (rs.map AM.rows).all id = true then (none : Option Str) else some ("rows" : Str) := by
        rcases hk23 with rfl | rfl
        · show (if t.isT = true then _ else _) = _; rw [if_pos (by simpa using hb)]
        · show (if t.isT = true then _ else _) = _; rw [if_pos (by simpa using hb)]
      rw [e] at q
      rw [if_neg (by rcases hk23 with rfl | rfl <;> decide)]
      exact rowsLeft hp1' len4 (hrs.ex e1) fun H6 e6 => q H6 (e1.trans e6)
    · have hk4 : k = 4 := by
        have h23 : ¬ (k = 2 ∨ k = 3) := of_decide_eq_false (by simpa using hk)
        match k, hs with
        | 0, _ => exact absurd rfl hk0
        | 1, _ => exact absurd rfl hk1
        | 2, _ => exact absurd (.inl rfl) h23
        | 3, _ => exact absurd (.inr rfl) h23
        | 4, _ => rfl
      subst hk4
      obtain ⟨t, rs, rfl⟩ : ∃ t rs, ms = t :: rs := by
        match ms with
        | [] => simp [shp] at hs
        | t :: rs => exact ⟨t, rs, rfl⟩
      obtain ⟨v0, w1, rfl, ht, hrs⟩ := hms.cases1
      rw [if_pos (by rfl)]
      refine ⟨_, sq_of hp1', v0, atI0, t, bad, ht.ex e1, _, rfl, ite2 (fun hb => ?_) (fun hb => ?_)⟩
      · have e : dueM 4 (t :: rs) = some ("count" : Str) := by
          show (if t.num = true then _ else _) = _; rw [if_neg (by rw [hb]; decide)]
        rw [e] at q
        exact q _ e1
      have e : dueM 4 (t :: rs) = if (rs.map AM.rows).all id = true then (none : Option Str) else some ("rows" : Str) := by
        show (if t.num = true then _ else _) = _; rw [if_pos (by simpa using hb)]
      rw [e] at q
      exact rowsLeft hp1' len4 (hrs.ex e1) fun H6 e6 => q H6 (e1.trans e6)
def sp_law_made (A : ClsA) (CE : Addr) : Sp
  | [.int f, .ref p], H, Q, E => ∃ (k : Nat) (ms : List AM), f = k ∧ AOL A H k p ms ∧ Res CE E H (dueM k ms) (∀ v H2, Ex H H2 → AO A (fun _ => False) H2 (if k = 1 ∨ k = 2 then .test else .row) v → Q v H2)
  | _, _, _, _ => False
theorem ok_law_made (T : Txt w K mg a_is_integer a_is_number a_is_name a_are_rows a_needed a_fits a_is_of a_law_deal a_law_draw a_law_pick a_law_words a_law_kinds a_law_put a_law_any a_law_is_name a_law_is_number a_law_are_rows a_law_put_due a_law_ask_due a_law_made a_law_due a_law_told a_law_is_beyond a_law a_Put_init a_If_init a_Times_init a_Ask_init a_Not_init a_InvalidRow_init a_InvalidRow a_FigureError a_InvalidText a_Put a_If a_Times a_Stop a_Ask a_Not a_Row a_Test a_DEEDS a_WORDS a_If_init_d0 d_is_integer d_is_number d_is_name d_are_rows d_needed d_fits d_is_of d_law_deal d_law_draw d_law_pick d_law_words d_law_kinds d_law_put d_law_any d_law_is_name d_law_is_number d_law_are_rows d_law_put_due d_law_ask_due d_law_made d_law_due d_law_told d_law_is_beyond d_law d_Put_init d_If_init d_Times_init d_Ask_init d_Not_init d_InvalidRow_init) : FnOk P w K mg base (L2.CX P w) 9 a_law_made d_law_made ["_law_form", "_law_some"] (sp_law_made ⟨a_Put, a_If, a_Times, a_Stop, a_Ask, a_Not⟩ a_InvalidRow) := by
  have G_Put_init := ok_Put_init (P := P) (w := w) (base := base) T
  have G_Ask_init := ok_Ask_init (P := P) (w := w) (base := base) T
  have G_Not_init := ok_Not_init (P := P) (w := w) (base := base) T
  have G_Times_init := ok_Times_init (P := P) (w := w) (base := base) T
  have G_If_init := ok_If_init3 (P := P) (w := w) (base := base) T
  have G_If_init2 := ok_If_init2 (P := P) (w := w) (base := base) T
  refine T.F_law_made.okX sc_law_made (fun vs H Q E h => ?_) (fun cdv A outer s H vs Q E hr h => ?_)
  · unfold sp_law_made at h; split at h; rfl; exact h.elim
  unfold sp_law_made at h; split at h
  case h_2 => exact h.elim
  rename_i f p
  obtain ⟨k, ms, rfl, ⟨bad, vs, hp, hms, hs⟩, q⟩ := h
  refine ⟨_, (pss_cons (ps_if (pt_cmpR op_eq (pv 0) pe_int (nomark _))
      (pss_cons (ps_if (pt_cmpR op_eq (pe_callB call_len_seq (by rfl) T.z_len (by decide +kernel) (pa_cons (pv 1) pa_nil)) pe_int (nomark _))
      (pss_one (ps_ret (pe_makeS T.M_Put G_Put_init (hr.mono (by omega)) (by rfl) T.g_Put (fun σ => passAt (takes_of rfl rfl rfl rfl) σ) (pa_cons (pe_ix ix_listM (pv 1) pe_int (fun _ _ => rfl)) (pa_cons (pe_ix ix_listM (pv 1) pe_int (fun _ _ => rfl)) pa_nil)))))
      pss_nil)
      (pss_cons (ps_if (pt_cmpR op_eq (pe_callB call_len_seq (by rfl) T.z_len (by decide +kernel) (pa_cons (pv 1) pa_nil)) pe_int (nomark _))
      (pss_one (ps_ret (pe_makeS T.M_Put G_Put_init (hr.mono (by omega)) (by rfl) T.g_Put (fun σ => passAt (takes_of rfl rfl rfl rfl) σ) (pa_cons (pe_ix ix_listM (pv 1) pe_int (fun _ _ => rfl)) (pa_cons (pe_ix ix_listM (pv 1) pe_int (fun _ _ => rfl)) (pa_cons (pe_ix ix_listM (pv 1) pe_int (fun _ _ => rfl)) pa_nil))))))
      pss_nil)
      (pss_one (ps_ret (pe_makeS T.M_Put G_Put_init (hr.mono (by omega)) (by rfl) T.g_Put (fun σ => passAt (takes_of rfl rfl rfl rfl) σ) (pa_cons (pe_ix ix_listM (pv 1) pe_int (fun _ _ => rfl)) (pa_cons (pe_ix ix_listM (pv 1) pe_int (fun _ _ => rfl)) (pa_cons (pe_ix ix_listM (pv 1) pe_int (fun _ _ => rfl)) (pa_cons (pe_ix ix_listM (pv 1) pe_int (fun _ _ => rfl)) pa_nil)))))))))
      pss_nil)
      (pss_cons (ps_if (pt_cmpR op_eq (pv 0) pe_int (nomark _))
      (pss_cons (ps_if (pt_cmpR op_eq (pe_callB call_len_seq (by rfl) T.z_len (by decide +kernel) (pa_cons (pv 1) pa_nil)) pe_int (nomark _))
      (pss_one (ps_ret (pe_makeS T.M_Ask G_Ask_init (hr.mono (by omega)) (by rfl) T.g_Ask (fun σ => passAt (takes_of rfl rfl rfl rfl) σ) (pa_cons (pe_ix ix_listM (pv 1) pe_int (fun _ _ => rfl)) pa_nil))))
      pss_nil)
      (pss_one (ps_ret (pe_ifExp (pt_cmpR op_eq (pe_callB call_len_seq (by rfl) T.z_len (by decide +kernel) (pa_cons (pv 1) pa_nil)) pe_int (nomark _)) (pe_makeS T.M_Ask G_Ask_init (hr.mono (by omega)) (by rfl) T.g_Ask (fun σ => passAt (takes_of rfl rfl rfl rfl) σ) (pa_cons (pe_ix ix_listM (pv 1) pe_int (fun _ _ => rfl)) (pa_cons (pe_ix ix_listM (pv 1) pe_int (fun _ _ => rfl)) pa_nil))) (pe_makeS T.M_Ask G_Ask_init (hr.mono (by omega)) (by rfl) T.g_Ask (fun σ => passAt (takes_of rfl rfl rfl rfl) σ) (pa_cons (pe_ix ix_listM (pv 1) pe_int (fun _ _ => rfl)) (pa_cons (pe_ix ix_listM (pv 1) pe_int (fun _ _ => rfl)) (pa_cons (pe_ix ix_listM (pv 1) pe_int (fun _ _ => rfl)) pa_nil))))))))
      pss_nil)
      (pss_cons (ps_if (pt_cmpR op_eq (pv 0) pe_int (nomark _))
      (pss_one (ps_ret (pe_makeS T.M_Not G_Not_init (hr.mono (by omega)) (by rfl) T.g_Not (fun σ => passAt (takes_of rfl rfl rfl rfl) σ) (pa_cons (pe_ix ix_listM (pv 1) pe_int (fun _ _ => rfl)) pa_nil))))
      pss_nil)
      (pss_cons (ps_if (pt_cmpR op_eq (pv 0) pe_int (nomark _))
      (pss_one (ps_ret (pe_ifExp (pt_cmpR op_eq (pe_callB call_len_seq (by rfl) T.z_len (by decide +kernel) (pa_cons (pv 1) pa_nil)) pe_int (nomark _)) (pe_makeS T.M_If G_If_init2 (hr.mono (by omega)) (by rfl) T.g_If (fun σ => passAt (takes_of rfl rfl rfl rfl) σ) (pa_cons (pe_ix ix_listM (pv 1) pe_int (fun _ _ => rfl)) (pa_cons (pe_ix ix_listM (pv 1) pe_int (fun _ _ => rfl)) pa_nil))) (pe_makeS T.M_If G_If_init (hr.mono (by omega)) (by rfl) T.g_If (fun σ => passAt (takes_of rfl rfl rfl rfl) σ) (pa_cons (pe_ix ix_listM (pv 1) pe_int (fun _ _ => rfl)) (pa_cons (pe_ix ix_listM (pv 1) pe_int (fun _ _ => rfl)) (pa_cons (pe_ix ix_listM (pv 1) pe_int (fun _ _ => rfl)) pa_nil)))))))
      pss_nil)
      (pss_one (ps_ret (pe_makeS T.M_Times G_Times_init (hr.mono (by omega)) (by rfl) T.g_Times (fun σ => passAt (takes_of rfl rfl rfl rfl) σ) (pa_cons (pe_ix ix_listM (pv 1) pe_int (fun _ _ => rfl)) (pa_cons (pe_ix ix_listM (pv 1) pe_int (fun _ _ => rfl)) pa_nil))))))))), ?_⟩
  walk_at "st"
  walk_at "vc"
  have mkR : ∀ {C : Addr}, (∀ x H2 dx fs, H2 x = some (.ins C dx fs) → AO ⟨a_Put, a_If, a_Times, a_Stop, a_Ask, a_Not⟩ (fun _ => False) H2 (if k = 1 ∨ k = 2 then .test else .row) (.ref x)) → Res a_InvalidRow E H (dueM k ms) (∀ x H2, Ex H H2 → H x = none → (∃ dx fs, H2 x = some (.ins C dx fs)) → Q (.ref x) H2) := by
    intro C hC
    cases hd : dueM k ms with
    | none => rw [hd] at q; exact fun x H2 e _ ⟨dx, fs, hi⟩ => q _ H2 e (hC x H2 dx fs hi)
    | some wd => rw [hd] at q; exact q
  refine ite2 (fun hk => ?_) (fun hk0 => ite2 (fun hk => ?_) (fun hk1 => ite2 (fun hk => ?_) (fun hk2 => ite2 (fun hk => ?_) (fun hk3 => ?_))))
  · obtain rfl : k = 0 := by omega
    obtain ⟨mn, md, g, rfl⟩ : ∃ mn md g, ms = mn :: md :: g := by
      match ms, hs.1 with
      | mn :: md :: g, _ => exact ⟨mn, md, g, rfl⟩
    obtain ⟨n, w1, rfl, hn, h2⟩ := hms.cases1
    obtain ⟨d, w2, rfl, hd, hg⟩ := h2.cases1
    have q2 := mkR (C := a_Put) fun x H2 dx fs hi => by rw [if_neg (by decide)]; exact .rw (fun z => z) hi (.inl rfl)
    have hl := hs.2
    have hlg := hg.len
    refine ⟨_, .inl (sq_of hp), ite2 (fun h => ?_) (fun h => ⟨_, .inl (sq_of hp), ite2 (fun h3 => ?_) (fun h3 => ?_)⟩)⟩
    · match w2, h with
      | [], _ =>
        refine tMakeS_of ?_
        walk_at "vc"
        exact ⟨_, sq_of hp, n, atI0, _, sq_of hp, d, atI1, makePut T hn hd hg (by simp) q2⟩
    · match w2, h3 with
      | [a], _ =>
        refine tMakeS_of ?_
        walk_at "vc"
        exact ⟨_, sq_of hp, n, atI0, _, sq_of hp, d, atI1, _, sq_of hp, a, atI2, makePut T hn hd hg (by simp) q2⟩
    · match w2, h, h3, hl, hlg with
      | [a, b], _, _, _, _ =>
        refine tMakeS_of ?_
        walk_at "vc"
        exact ⟨_, sq_of hp, n, atI0, _, sq_of hp, d, atI1, _, sq_of hp, a, atI2, _, sq_of hp, b, atI3, makePut T hn hd hg (by simp) q2⟩
      | [], h, _, _, _ => exact absurd rfl h
      | [a], _, h3, _, _ => exact absurd rfl h3
      | a :: b :: c :: r, _, _, hl, hlg => simp at hl hlg; omega
  · obtain rfl : k = 1 := by omega
    obtain ⟨mn, g, rfl⟩ : ∃ mn g, ms = mn :: g := by
      match ms, hs.1 with
      | mn :: g, _ => exact ⟨mn, g, rfl⟩
    obtain ⟨n, w2, rfl, hn, hg⟩ := hms.cases1
    have q2 := mkR (C := a_Ask) fun x H2 dx fs hi => by rw [if_pos (by decide)]; exact .ts (fun z => z) hi (.inl rfl)
    have hl := hs.2
    have hlg := hg.len
    refine ⟨_, .inl (sq_of hp), ite2 (fun h => ?_) (fun h => ⟨_, .inl (sq_of hp), ite2 (fun h3 => ?_) (fun h3 => ?_)⟩)⟩
    · match w2, h with
      | [], _ =>
        refine tMakeS_of ?_
        walk_at "vc"
        exact ⟨_, sq_of hp, n, atI0, makeAsk T hn hg (by simp) q2⟩
    · match w2, h3 with
      | [a], _ =>
        refine tMakeS_of ?_
        walk_at "vc"
        exact ⟨_, sq_of hp, n, atI0, _, sq_of hp, a, atI1, makeAsk T hn hg (by simp) q2⟩
    · match w2, h, h3, hl, hlg with
      | [a, b], _, _, _, _ =>
        refine tMakeS_of ?_
        walk_at "vc"
        exact ⟨_, sq_of hp, n, atI0, _, sq_of hp, a, atI1, _, sq_of hp, b, atI2, makeAsk T hn hg (by simp) q2⟩
      | [], h, _, _, _ => exact absurd rfl h
      | [a], _, h3, _, _ => exact absurd rfl h3
      | a :: b :: c :: r, _, _, hl, hlg => simp at hl hlg; omega
  · obtain rfl : k = 2 := by omega
    obtain ⟨mn, rfl⟩ : ∃ mn, ms = [mn] := by
      match ms, hs with
      | [mn], _ => exact ⟨mn, rfl⟩
    obtain ⟨n, w2, rfl, hn, hg⟩ := hms.cases1
    have q2 := mkR (C := a_Not) fun x H2 dx fs hi => by rw [if_pos (by decide)]; exact .ts (fun z => z) hi (.inr rfl)
    refine tMakeS_of ?_
    walk_at "vc"
    exact ⟨_, sq_of hp, n, atI0, makeNot T hn q2⟩
  · obtain rfl : k = 3 := by omega
    have h01 : ∃ t m1 g, ms = t :: m1 :: g := by
      match ms, hs with
      | t :: m1 :: g, _ => exact ⟨t, m1, g, rfl⟩
      | [], hs => simp [shp] at hs
      | [t], hs => simp [shp] at hs
    obtain ⟨t, m1, g, rfl⟩ := h01
    obtain ⟨n, w1, rfl, hn, h2⟩ := hms.cases1
    obtain ⟨d, w2, rfl, hd, hg⟩ := h2.cases1
    have q2 := mkR (C := a_If) fun x H2 dx fs hi => by rw [if_neg (by decide)]; exact .rw (fun z => z) hi (.inr (.inl rfl))
    have hlg := hg.len
    have rv : ∀ {m : AM} {v : V}, AO ⟨a_Put, a_If, a_Times, a_Stop, a_Ask, a_Not⟩ bad H m v → RV K ⟨a_Put, a_If, a_Times, a_Stop, a_Ask, a_Not⟩ H v m.rows := fun h => .inl ⟨_, bad, h, rfl⟩
    refine ⟨_, .inl (sq_of hp), ite2 (fun h => ?_) (fun h => ?_)⟩
    · have hg0 : g = [] := by
        cases g with
        | nil => rfl
        | cons x y => exfalso; simp only [List.length_cons] at h hlg; omega
      subst hg0
      obtain rfl := hg.cases0
      refine tMakeS_of ?_
      walk_at "vc"
      refine ⟨_, sq_of hp, n, atI0, _, sq_of hp, d, atI1, makeIf T hn (rv hd) (.inr ⟨_, rfl, rfl, T.S_If_init_d0⟩) ?_⟩
      have e : dueM 3 [t, m1] = if t.isT = true then (if m1.rows = true ∧ true = true then (none : Option Str) else some ("rows" : Str)) else some ("test" : Str) := by
        show (if t.isT = true then (if ([m1].map AM.rows).all id = true then _ else _) else _) = _
        simp
      rw [← e]
      exact q2
    · have hg1 : ∃ m2, g = [m2] := by
        match g, hs, hlg with
        | [m2], _, _ => exact ⟨m2, rfl⟩
        | [], _, hlg => exact absurd (by simp at hlg; rw [hlg]; rfl) h
        | x :: y :: z, hs, _ => simp [shp] at hs
      obtain ⟨m2, rfl⟩ := hg1
      obtain ⟨a, w3, rfl, ha, hz⟩ := hg.cases1
      refine tMakeS_of ?_
      walk_at "vc"
      refine ⟨_, sq_of hp, n, atI0, _, sq_of hp, d, atI1, _, sq_of hp, a, atI2, makeIf T hn (rv hd) (rv ha) ?_⟩
      have e : dueM 3 [t, m1, m2] = if t.isT = true then (if m1.rows = true ∧ m2.rows = true then (none : Option Str) else some ("rows" : Str)) else some ("test" : Str) := by
        show (if t.isT = true then (if ([m1, m2].map AM.rows).all id = true then _ else _) else _) = _
        simp
      rw [← e]
      exact q2
  · have hk4 : k = 4 := by have := shp_le hs; omega
    subst hk4
    have h01 : ∃ t m1, ms = [t, m1] := by
      match ms, hs with
      | [t, m1], _ => exact ⟨t, m1, rfl⟩
    obtain ⟨t, m1, rfl⟩ := h01
    obtain ⟨n, w1, rfl, hn, h2⟩ := hms.cases1
    obtain ⟨d, w2, rfl, hd, hg⟩ := h2.cases1
    have q2 := mkR (C := a_Times) fun x H2 dx fs hi => by rw [if_neg (by decide)]; exact .rw (fun z => z) hi (.inr (.inr (.inl rfl)))
    refine tMakeS_of ?_
    walk_at "vc"
    refine ⟨_, sq_of hp, n, atI0, _, sq_of hp, d, atI1, makeTimes T hn (.inl ⟨_, bad, hd, rfl⟩) ?_⟩
    have e : dueM 4 [t, m1] = if t.num = true then (if m1.rows = true then (none : Option Str) else some ("rows" : Str)) else some ("count" : Str) := by
      show (if t.num = true then (if ([m1].map AM.rows).all id = true then _ else _) else _) = _
      simp
    rw [← e]
    exact q2
end
end My
set_option Elab.async false
set_option linter.all false
set_option maxRecDepth 100000
set_option maxHeartbeats 4000000
set_option exponentiation.threshold 5000
namespace My
open PySem PySem.Spec PyProof.Rows L2 Evl
local macro_rules | `(tactic| walk_at "st") => `(tactic| simp only [L2.start, List.map_cons, List.map_nil, List.length_cons, List.length_nil, Nat.reduceAdd, Nat.reduceSub, List.replicate_succ, List.replicate_zero, List.cons_append, List.nil_append, cxOf, List.append_nil])
local macro_rules | `(tactic| walk_at "vc") => `(tactic| try simp only [tIfT, tSeq, tAsg, tOp, tUn, tVar, tC, tNil, tCons, gName, rI, rI0, rU, tRet, tIfS, tNot, tAnd, tOr, tB, tTest, tCB, tCall, tAndV, tOrV, tNotV, tNext, tNever, tIf, tChain, tYes, tPart, tNoPart, tPar, tDrop, q_isi, q_vn, q_vb, q_vi, q_vs, kb1, kb2, kb3, kb4, kb5, kb6, kb7, kb8, q_int1, q_int2, q_min, q_max, q_repr, tLst, tTup, rEq, rNe, q_sii, q_sss, q_sbb, q_snn, q_sns, q_ssn, q_ix, q_sl, tSl, tBM, tBM0, q_app, q_pop, gSub, rSetL, L2.wipe, eq_self, decide_true, decide_false, tRevL,
  List.getElem?_cons_succ, List.getElem?_cons_zero, List.set_cons_succ, List.set_cons_zero, Option.some.injEq, exists_eq_left', exists_eq_left, V.int.injEq, V.bl.injEq, V.ref.injEq, V.str.injEq, List.cons.injEq, and_true, true_and, List.append_nil, List.nil_append, List.cons_append, exists_and_left, and_assoc, if_true, if_false, Bool.not_true, Bool.not_false, Bool.false_eq_true, Bool.true_eq_false, reduceIte, tRevL, tPar3, tRevT, tUnl, tCKw, forall_const, Bool.not_eq_true', decide_eq_true_eq, decide_eq_false_iff_not])
section
variable {P : Program} {w : World} {K : PySem.W.Frag} {mg : Str → Option Value} {base : Heap}
variable {a_is_integer a_is_number a_is_name a_are_rows a_needed a_fits a_is_of a_law_deal a_law_draw a_law_pick a_law_words a_law_kinds a_law_put a_law_any a_law_is_name a_law_is_number a_law_are_rows a_law_put_due a_law_ask_due a_law_made a_law_due a_law_told a_law_is_beyond a_law a_Put_init a_If_init a_Times_init a_Ask_init a_Not_init a_InvalidRow_init a_InvalidRow a_FigureError a_InvalidText a_Put a_If a_Times a_Stop a_Ask a_Not a_Row a_Test a_DEEDS a_WORDS a_If_init_d0 : Addr} {d_is_integer d_is_number d_is_name d_are_rows d_needed d_fits d_is_of d_law_deal d_law_draw d_law_pick d_law_words d_law_kinds d_law_put d_law_any d_law_is_name d_law_is_number d_law_are_rows d_law_put_due d_law_ask_due d_law_made d_law_due d_law_told d_law_is_beyond d_law d_Put_init d_If_init d_Times_init d_Ask_init d_Not_init d_InvalidRow_init : FuncData}
/-! ### what a call tells; what goes beyond -/
def sp_law_told (A : ClsA) : Sp
  | [.int f, .ref p], H, Q, _ => ∃ (k : Nat) (ms : List AM), f = k ∧ AOL A H k p ms ∧ ∀ H', Ex H H' → Q (dueV (dueM k ms)) H'
  | _, _, _, _ => False
theorem ok_law_told (T : Txt w K mg a_is_integer a_is_number a_is_name a_are_rows a_needed a_fits a_is_of a_law_deal a_law_draw a_law_pick a_law_words a_law_kinds a_law_put a_law_any a_law_is_name a_law_is_number a_law_are_rows a_law_put_due a_law_ask_due a_law_made a_law_due a_law_told a_law_is_beyond a_law a_Put_init a_If_init a_Times_init a_Ask_init a_Not_init a_InvalidRow_init a_InvalidRow a_FigureError a_InvalidText a_Put a_If a_Times a_Stop a_Ask a_Not a_Row a_Test a_DEEDS a_WORDS a_If_init_d0 d_is_integer d_is_number d_is_name d_are_rows d_needed d_fits d_is_of d_law_deal d_law_draw d_law_pick d_law_words d_law_kinds d_law_put d_law_any d_law_is_name d_law_is_number d_law_are_rows d_law_put_due d_law_ask_due d_law_made d_law_due d_law_told d_law_is_beyond d_law d_Put_init d_If_init d_Times_init d_Ask_init d_Not_init d_InvalidRow_init) : FnOk P w K mg base CX0 11 a_law_told d_law_told ["_law_form", "_law_some"] (sp_law_told ⟨a_Put, a_If, a_Times, a_Stop, a_Ask, a_Not⟩) := by
  have G_law_made := ok_law_made (P := P) (w := w) (base := base) T
  refine T.F_law_told.ok sc_law_told (fun vs H Q E h => ?_) (fun cdv A outer s H vs Q E hr h => ?_)
  · unfold sp_law_told at h; split at h; rfl; exact h.elim
  unfold sp_law_told at h; split at h
  case h_2 => exact h.elim
  rename_i f p
  obtain ⟨k, ms, rfl, hL, q⟩ := h
  refine ⟨_, (pss_cons (ps_set (i := 2) sc_law_told.nd rfl (by first | exact .inl rfl | exact .inr rfl) pe_non)
      (pss_cons (ps_try_as (i := 4) rfl rfl sc_law_told.nd rfl rfl ⟨rfl, by decide, .inl T.E_InvalidRow.g⟩ takes0 (fun W pn xe tk _ => (pss_cons (ps_set (i := 3) sc_law_told.nd rfl (by first | exact .inl rfl | exact .inr rfl) (pe_callS G_law_made (hr.mono (by decide)) (by rfl) T.g_law_made T.F_law_made.kp T.b_law_made (fun σ => passAt tk σ) (pa_cons (pv 0) (pa_cons (pv 1) pa_nil))))
      (pss_one (ps_if (PW.pt (pw_or (pt_cmpR op_ne (pe_callB (call_isiK (K := K)) (by rfl) T.z_isinstance (by decide +kernel) (pa_cons (pv 3) (pa_cons (pe_glob (v := .ref a_Test) (by rfl) T.g_Test rfl) pa_nil))) (pe_cmpR (op_inK (K := K)) (pv 0) (pe_tup (pa_cons pe_int (pa_cons pe_int pa_nil))) (by rfl)) (nomark _)) (pw_or1 (pt_cmpR op_eq (pe_callB (call_isiK (K := K)) (by rfl) T.z_isinstance (by decide +kernel) (pa_cons (pv 3) (pa_cons (pe_glob (v := .ref a_Row) (by rfl) T.g_Row rfl) pa_nil))) (pe_cmpR (op_inK (K := K)) (pv 0) (pe_tup (pa_cons pe_int (pa_cons pe_int pa_nil))) (by rfl)) (nomark _)))))
      (pss_one (ps_set (i := 2) sc_law_told.nd rfl (by first | exact .inl rfl | exact .inr rfl) pe_str))
      pss_nil)))) (fun a oe cls d pn hz hf => (pss_cons (ps_set (i := 2) sc_law_told.nd rfl (by first | exact .inl rfl | exact .inr rfl) (pe_xf T.E_InvalidRow.xf T.E_InvalidRow.noF hz hf (pv 4)))
      (pss_one (ps_if (PW.pt (pw_or (pt_not (pt_val (pe_callB (call_isE1 T.E_InvalidRow hz hf) (by rfl) T.z_isinstance (by decide +kernel) (pa_cons (pv 4) (pa_cons (pe_glob (v := .ref a_FigureError) (by rfl) T.g_FigureError rfl) pa_nil))))) (pw_or1 (pt_val (pe_callB (call_isE1 T.E_InvalidRow hz hf) (by rfl) T.z_isinstance (by decide +kernel) (pa_cons (pv 4) (pa_cons (pe_glob (v := .ref a_InvalidText) (by rfl) T.g_InvalidText rfl) pa_nil)))))))
      (pss_one (ps_set (i := 2) sc_law_told.nd rfl (by first | exact .inl rfl | exact .inr rfl) pe_str))
      pss_nil)))))
      (pss_one (ps_ret (pv 2))))), ?_⟩
  walk_at "st"
  walk_at "vc"
  refine ⟨_, rfl, _, rfl, k, ms, rfl, hL, ?_⟩
  have hin : (if false = true then !inV (V.int k) [V.int 1, V.int 2] else inV (V.int k) [V.int 1, V.int 2]) = decide (k = 1 ∨ k = 2) := by
    rw [if_neg (by decide)]
    unfold inV
    simp only [List.any_cons, List.any_nil, eqV, Bool.or_false]
    by_cases h2 : k = 1
    · subst h2; rfl
    · by_cases h3 : k = 2
      · subst h3; rfl
      · rw [decide_eq_false (by omega)]
        simp
        omega
  cases hd : dueM k ms with
  | none =>
    rw [hd] at q
    intro v H2 e2 ao
    refine ao.isi_test (kt_of T) ⟨sz_le (by simp), fun p1 hp1 => ⟨p1, _, rfl, .inr (st_of upd_same), rfl, rfl, ?_⟩⟩
    rw [hin]
    have e3 := Ex.new hp1 (o := .tup [V.int 1, V.int 2])
    refine ⟨rfl, ?_⟩
    have eT : (if k = 1 ∨ k = 2 then AM.test else AM.row).isT = decide (k = 1 ∨ k = 2) := by
      by_cases h : k = 1 ∨ k = 2
      · rw [if_pos h, decide_eq_true h]; rfl
      · rw [if_neg h, decide_eq_false h]; rfl
    have eR : (if k = 1 ∨ k = 2 then AM.test else AM.row).isR = !decide (k = 1 ∨ k = 2) := by
      by_cases h : k = 1 ∨ k = 2
      · rw [if_pos h, decide_eq_true h]; rfl
      · rw [if_neg h, decide_eq_false h]; rfl
    rw [eT, if_neg (fun z => z rfl)]
    refine (ao.ex e3).isi_row (kt_of T) ⟨sz_le (by simp), fun p2 hp2 => ⟨p2, _, rfl, .inr (st_of upd_same), rfl, rfl, ?_⟩⟩
    rw [hin, eR]
    refine ⟨rfl, ?_⟩
    rw [if_neg (by cases decide (k = 1 ∨ k = 2) <;> decide)]
    exact q _ ((e2.trans e3).trans (Ex.new hp2))
  | some wd =>
    rw [hd] at q
    intro H1 d e hd1
    refine ⟨true, T.E_InvalidRow.te, fun _ a0 ha0 => ?_, fun q => Bool.noConfusion q⟩
    walk_at "vc"
    have hdd : upd H1 d (HO.xd [(Str.ofString "word", V.str wd)]) d = some (HO.xd [(Str.ofString "word", V.str wd)]) := upd_same
    refine ⟨_, rfl, rfl, rfl, d, _, _, rfl, hdd, rfl, ?_⟩
    refine ⟨d, _, a_FigureError, true, rfl, rfl, rfl, hdd, T.k_InvalidRow_FigureError, _, rfl, ?_⟩
    rw [if_neg (by decide)]
    refine ⟨d, _, a_InvalidText, false, rfl, rfl, rfl, hdd, T.k_InvalidRow_InvalidText, _, rfl, ?_⟩
    rw [if_neg (by decide)]
    exact q _ (e.trans (Ex.new hd1))
theorem tLc_sl2 {K : PySem.W.Frag} {g : TG} {tt : TT} {te : TE} {vs : List Nat} {σ : L2.St} {p : Addr} {H1 : Hp} {xs : List V} {Qd : VK} (hs : σ[1]? = some (some (.ref p))) (hp : H1 p = some (.lst xs)) (h : ∀ r, H1 r = none → tLc (fun _ H R => R (Itl K r) H) g tt te vs σ (upd H1 r (.lst (xs.drop 2))) Qd) :
    tLc (iList K (tSl (rSlM K) (tVar 1) (tPart (tC (V.int 2))) tNoPart)) g tt te vs σ H1 Qd := by
  unfold tLc at h ⊢
  unfold iList
  walk_at "vc"
  refine ⟨V.ref p, hs, ?_⟩
  walk_at "vc"
  refine ⟨_, sq_of hp, fun r hr => ?_⟩
  rw [cut2]
  exact ⟨⟨_, sq_of upd_same⟩, h r hr⟩
/-- data that no heap speaks of -/
def Fl : List V → List PyData → Prop
  | [], [] => True
  | v :: vs, d :: ds => (∀ K H, Dp K H v d) ∧ Fl vs ds
  | _, _ => False
theorem Fl.dp {K : PySem.W.Frag} {H : Hp} : ∀ {vs : List V} {ds : List PyData}, Fl vs ds → DpAll K H vs ds
  | [], [], _ => .nil
  | _ :: _, _ :: _, h => .cons (h.1 K H) h.2.dp
  | [], _ :: _, h => h.elim
  | _ :: _, [], h => h.elim
theorem fl_snoc {v : V} {d : PyData} (hd : ∀ K H, Dp K H v d) : ∀ {vs : List V} {ds : List PyData}, Fl vs ds → Fl (vs ++ [v]) (ds ++ [d])
  | [], [], _ => ⟨hd, trivial⟩
  | _ :: _, _ :: _, h => ⟨h.1, fl_snoc hd h.2⟩
  | [], _ :: _, h => h.elim
  | _ :: _, [], h => h.elim
def I_bd (D : Addr) (H : Hp) : Nat → Hp → Prop := fun i H' => ∃ acc ds, H' D = some (.lst acc) ∧ acc.length ≤ i ∧ Fl acc ds ∧ PyData.canLayAll0 ds = true ∧ PyData.depthAll ds = 0 ∧ Ex H H'
theorem lay_snoc {d : PyData} : ∀ {ds : List PyData}, PyData.canLayAll0 (ds ++ [d]) = (PyData.canLayAll0 ds && d.canLay0)
  | [] => by simp [PyData.canLayAll0]
  | x :: ds => by rw [List.cons_append, PyData.canLayAll0, PyData.canLayAll0, lay_snoc, Bool.and_assoc]
theorem dep_snoc {d : PyData} : ∀ {ds : List PyData}, PyData.depthAll (ds ++ [d]) = max (PyData.depthAll ds) d.depth
  | [] => by simp [PyData.depthAll]
  | x :: ds => by rw [List.cons_append, PyData.depthAll, PyData.depthAll, dep_snoc, Nat.max_assoc]
def sp_law_is_beyond (A : ClsA) : Sp
  | [.int f, .ref p], H, Q, _ => ∃ (k : Nat) (ms : List AM), f = k ∧ AOL A H k p ms ∧ ∀ b H', Ex H H' → Q (.bl b) H'
  | _, _, _, _ => False
theorem ok_law_is_beyond (T : Txt w K mg a_is_integer a_is_number a_is_name a_are_rows a_needed a_fits a_is_of a_law_deal a_law_draw a_law_pick a_law_words a_law_kinds a_law_put a_law_any a_law_is_name a_law_is_number a_law_are_rows a_law_put_due a_law_ask_due a_law_made a_law_due a_law_told a_law_is_beyond a_law a_Put_init a_If_init a_Times_init a_Ask_init a_Not_init a_InvalidRow_init a_InvalidRow a_FigureError a_InvalidText a_Put a_If a_Times a_Stop a_Ask a_Not a_Row a_Test a_DEEDS a_WORDS a_If_init_d0 d_is_integer d_is_number d_is_name d_are_rows d_needed d_fits d_is_of d_law_deal d_law_draw d_law_pick d_law_words d_law_kinds d_law_put d_law_any d_law_is_name d_law_is_number d_law_are_rows d_law_put_due d_law_ask_due d_law_made d_law_due d_law_told d_law_is_beyond d_law d_Put_init d_If_init d_Times_init d_Ask_init d_Not_init d_InvalidRow_init) : FnOk P w K mg base CX0 2 a_law_is_beyond d_law_is_beyond ["_law_form", "_law_some"] (sp_law_is_beyond ⟨a_Put, a_If, a_Times, a_Stop, a_Ask, a_Not⟩) := by
  refine T.F_law_is_beyond.ok sc_law_is_beyond (fun vs H Q E h => ?_) (fun cdv A outer s H vs Q E hr h => ?_)
  · unfold sp_law_is_beyond at h; split at h; rfl; exact h.elim
  unfold sp_law_is_beyond at h; split at h
  case h_2 => exact h.elim
  rename_i f p
  obtain ⟨k, ms, rfl, ⟨bad, vs, hp, hms, hs⟩, q⟩ := h
  refine ⟨_, (pss_cons (ps_if (PW.pt (pw_or (pt_cmpR op_ne (pv 0) pe_int (nomark _)) (pw_or (pt_not (pt_val (pe_callB (call_isiK (K := K)) (by rfl) T.z_isinstance (by decide +kernel) (pa_cons (pe_ix ix_listM (pv 1) pe_int (fun _ _ => rfl)) (pa_cons (pe_bltn (v := .ty "str") (by rfl) T.z_str (by decide +kernel) rfl) pa_nil))))) (pw_or1 (pt_cmpR op_notIn_seq (pe_ix ix_listM (pv 1) pe_int (fun _ _ => rfl)) (pe_tup (pa_cons pe_str (pa_cons pe_str pa_nil))) (by rfl))))))
      (pss_one (ps_ret pe_bl))
      pss_nil)
      (Evl.pss_cut (ps_set (i := 2) sc_law_is_beyond.nd rfl (by first | exact .inl rfl | exact .inr rfl) (pe_ifExp (pt_cmpR op_eq (pe_ix ix_listM (pv 1) pe_int (fun _ _ => rfl)) pe_str (nomark _)) pe_int pe_int))
      (pss_one (ps_ret (pe_cmpR (op_neD hr.units) (pe_lc (own := [("_law_one", 3)]) (g := gName 3) (by rfl) sc_law_is_beyond.nd (pi_list (pe_slice sl_listM (pv 1) (po_some pe_int) po_none)) (blkOk_by (own := [("_law_one", 3)]) (N := N_law_is_beyond) (sc := defScope s_law_is_beyond) (by decide +kernel)) (fun _ _ _ _ _ => (pg_name (i := 3) sc_law_is_beyond.nd rfl (by first | exact .inl rfl | exact .inr rfl))) (fun _ _ _ _ _ => (pts_one (PW.pt (pw_and (pt_val (pe_callB (call_isiK (K := K)) (by rfl) T.z_isinstance (by decide +kernel) (pa_cons (pv 3) (pa_cons (pe_bltn (v := .ty "int") (by rfl) T.z_int (by decide +kernel) rfl) pa_nil)))) (pw_and1 (pt_cmpR (op_gtIB hr.units) (pv 3) (pv 2) (nomark _))))))) (fun _ _ _ _ _ => (pv 3))) (pe_lst pa_nil) (nomark _)))))), ?_⟩
  walk_at "st"
  walk_at "vc"
  refine ite2 (fun hk => q _ _ (Ex.refl _)) (fun hk => ?_)
  have hk0 : k = 0 := by have := Decidable.not_not.mp hk; omega
  subst hk0
  obtain ⟨mn, md, g, rfl⟩ : ∃ mn md g, ms = mn :: md :: g := by
    match ms, hs.1 with
    | mn :: md :: g, _ => exact ⟨mn, md, g, rfl⟩
  obtain ⟨n, w1, rfl, hn, h2⟩ := hms.cases1
  obtain ⟨d, w2, rfl, hd, hg⟩ := h2.cases1
  refine ⟨_, sq_of hp, d, atI1, hd.isi (kt_of T) (by simp [askTs]) ⟨_, rfl, ite2 (fun h2 => q _ _ (Ex.refl _)) (fun h2 => ?_)⟩⟩
  obtain ⟨x, rfl⟩ := AM.str_of (by simpa using h2)
  unfold AO at hd
  obtain ⟨rfl, hxl⟩ := hd
  refine ⟨_, sq_of hp, _, atI1, sz_le (by simp), fun p1 hp1 => ⟨p1, _, rfl, .inr (st_of upd_same), rfl, rfl, _, rfl, ite2 (fun h3 => q _ _ (Ex.new hp1)) (fun h3 => ?_)⟩⟩
  have e1 := Ex.new hp1 (o := .tup [V.str (Str.ofString "figures"), V.str (Str.ofString "**")])
  generalize upd H p1 (.tup [V.str (Str.ofString "figures"), V.str (Str.ofString "**")]) = H1 at *
  have hp' := e1 _ _ hp
  have hg1 := hg.ex e1
  refine ⟨fun σ H' => ∃ most : Int, σ = [some (.int (0 : Nat)), some (.ref p), some (.int most), none] ∧ H' = H1, ?_, fun σ H' hm => ?_⟩
  · walk_at "vc"
    exact ⟨_, sq_of hp', _, atI1, rfl, ite2 (fun _ => trivial) (fun _ => trivial)⟩
  · obtain ⟨most, rfl, rfl⟩ := hm
    walk_at "vc"
    refine tLc_sl2 rfl hp' fun r hr2 => ?_
    have e2 := Ex.new hr2 (o := .lst (List.drop 2 (n :: V.str x :: w2)))
    have w3 : upd H' r (.lst (List.drop 2 (n :: V.str x :: w2))) r = some (.lst w2) := upd_same
    generalize upd H' r (.lst (List.drop 2 (n :: V.str x :: w2))) = H2 at *
    have hg2 := hg1.ex e2
    have hlg := hg.len
    have hl4 : w2.length ≤ 2 := by have h9 := hs.2; simp only [List.length_cons] at h9; omega
    refine fun D hD => lc_it (walk_list (xs := w2)) (I_bd D H2) ⟨[], [], upd_same, Nat.le_refl _, trivial, rfl, rfl, Ex.new hD⟩ (fun i H' _ hP => hP.elim fun _ z => z.elim fun _ z => z.2.2.2.2.2.sql (sq_of w3)) (fun i v H3 H' hi hP y => ?_) (fun H' hP => ⟨sz_le (by simp), fun p5 hp5 => ?_⟩)
    · obtain ⟨rfl, hv⟩ := y
      walk_at "vc"
      obtain ⟨m, hm0, hm1⟩ := hg2.at_ hv
      obtain ⟨acc, ds, h5, h6, h7, h8, h9, e5⟩ := hP
      have keep : I_bd D H2 (i + 1) H' := ⟨acc, ds, h5, by omega, h7, h8, h9, e5⟩
      have add : ∀ {y : PyData}, (∀ K H, Dp K H v y) → y.canLay0 = true → y.depth = 0 → ∃ acc, H' D = some (.lst acc) ∧ acc.length < sizeLine ∧ I_bd D H2 (i + 1) (upd H' D (.lst (acc ++ [v]))) := fun {y} hy hc hd => by
        refine ⟨acc, h5, sz_lt (by omega), acc ++ [v], ds ++ [y], upd_same, by simp; omega, ?_, ?_, ?_, e5.mut hD⟩
        · exact fl_snoc hy h7
        · rw [lay_snoc, h8, hc]; rfl
        · rw [dep_snoc, h9, hd]; rfl
      refine (hm1.ex e5).isi (kt_of T) (by simp [askTs]) ⟨_, rfl, ite2 (fun hb => ?_) (fun hb => keep)⟩
      cases m with
      | int j =>
        unfold AO at hm1
        obtain ⟨rfl, _⟩ := hm1
        refine .inl ⟨j, rfl, ite2 (fun _ => ?_) (fun _ => keep)⟩
        exact add (y := .int j) (fun K H => .int j) (by rw [PyData.canLay0]) (by rw [PyData.depth])
      | bl b =>
        unfold AO at hm1
        subst hm1
        refine .inr ⟨b, rfl, fun c => ite2 (fun _ => ?_) (fun _ => keep)⟩
        exact add (y := .bool b) (fun K H => .bl b) (by rw [PyData.canLay0]) (by rw [PyData.depth])
      | seq l xs => exact absurd hb (by cases l <;> simp [AM.is])
      | _ => exact absurd hb (by simp [AM.is])
    · obtain ⟨acc, ds, h5, h6, h7, h8, h9, e5⟩ := hP
      have e6 := Ex.new hp5 (o := .lst [])
      refine ⟨.list ds, .list [], .lst (sq_of (e6 _ _ h5)) h7.dp, .lst (sq_of upd_same) .nil, ?_, ?_, q _ _ (e1.trans (e2.trans (e5.trans e6)))⟩
      · unfold SeqAt.shaped
        rw [PyData.canLay0, PyData.depth, h8, h9]
        rfl
      · unfold SeqAt.shaped
        rw [PyData.canLay0, PyData.depth]
        rfl
end
end My
set_option Elab.async false
set_option linter.all false
set_option maxRecDepth 100000
set_option maxHeartbeats 4000000
set_option exponentiation.threshold 5000
namespace My
open PySem PySem.Spec PyProof.Rows L2 Evl
local macro_rules | `(tactic| walk_at "st") => `(tactic| simp only [L2.start, List.map_cons, List.map_nil, List.length_cons, List.length_nil, Nat.reduceAdd, Nat.reduceSub, List.replicate_succ, List.replicate_zero, List.cons_append, List.nil_append, cxOf, List.append_nil])
local macro_rules | `(tactic| walk_at "vc") => `(tactic| try simp only [tIfT, tSeq, tAsg, tOp, tUn, tVar, tC, tNil, tCons, gName, rI, rI0, rU, tRet, tIfS, tNot, tAnd, tOr, tB, tTest, tCB, tCall, tAndV, tOrV, tNotV, tNext, tNever, tIf, tChain, tYes, tPart, tNoPart, tPar, tDrop, q_isi, q_vn, q_vb, q_vi, q_vs, kb1, kb2, kb3, kb4, kb5, kb6, kb7, kb8, q_int1, q_int2, q_min, q_max, q_repr, tLst, tTup, rEq, rNe, q_sii, q_sss, q_sbb, q_snn, q_sns, q_ssn, q_ix, q_sl, tSl, tBM, tBM0, q_app, q_pop, gSub, rSetL, L2.wipe, eq_self, decide_true, decide_false, tRevL,
  List.getElem?_cons_succ, List.getElem?_cons_zero, List.set_cons_succ, List.set_cons_zero, Option.some.injEq, exists_eq_left', exists_eq_left, V.int.injEq, V.bl.injEq, V.ref.injEq, V.str.injEq, List.cons.injEq, and_true, true_and, List.append_nil, List.nil_append, List.cons_append, exists_and_left, and_assoc, if_true, if_false, Bool.not_true, Bool.not_false, Bool.false_eq_true, Bool.true_eq_false, reduceIte, tRevL, tPar3, tRevT, tUnl, tCKw, forall_const, Bool.not_eq_true', decide_eq_true_eq, decide_eq_false_iff_not])
section
variable {P : Program} {w : World} {K : PySem.W.Frag} {mg : Str → Option Value} {base : Heap}
variable {a_is_integer a_is_number a_is_name a_are_rows a_needed a_fits a_is_of a_law_deal a_law_draw a_law_pick a_law_words a_law_kinds a_law_put a_law_any a_law_is_name a_law_is_number a_law_are_rows a_law_put_due a_law_ask_due a_law_made a_law_due a_law_told a_law_is_beyond a_law a_Put_init a_If_init a_Times_init a_Ask_init a_Not_init a_InvalidRow_init a_InvalidRow a_FigureError a_InvalidText a_Put a_If a_Times a_Stop a_Ask a_Not a_Row a_Test a_DEEDS a_WORDS a_If_init_d0 : Addr} {d_is_integer d_is_number d_is_name d_are_rows d_needed d_fits d_is_of d_law_deal d_law_draw d_law_pick d_law_words d_law_kinds d_law_put d_law_any d_law_is_name d_law_is_number d_law_are_rows d_law_put_due d_law_ask_due d_law_made d_law_due d_law_told d_law_is_beyond d_law d_Put_init d_If_init d_Times_init d_Ask_init d_Not_init d_InvalidRow_init : FuncData}
/-! ### the law -/
/-- right or spoilt arguments, in a list -/
def GoodR (A : ClsA) (d L : Addr) (k : Nat) (r : V) (H : Hp) : Prop := ∃ p ms vs, r = .ref p ∧ p ≠ d ∧ p ≠ L ∧ H p = some (.lst vs) ∧ AOs A (fun b => b = d ∨ b = L) H ms vs ∧ shp k ms.length
theorem AOs.mvd {A : ClsA} {d L : Addr} {H H' : Hp} {ms : List AM} {vs : List V} (h : AOs A (fun b => b = d ∨ b = L) H ms vs) (M : Mv3 d L H H') : AOs A (fun b => b = d ∨ b = L) H' ms vs := h.keep fun b o nb hb => M.kp b o (fun e => nb (.inl e)) (fun e => nb (.inr e)) hb
theorem GoodR.mv {A : ClsA} {d L : Addr} {k : Nat} {r : V} {H H' : Hp} (h : GoodR A d L k r H) (M : Mv3 d L H H') : GoodR A d L k r H' := by
  obtain ⟨p, ms, vs, e, h1, h2, h3, h4, h5⟩ := h
  exact ⟨p, ms, vs, e, h1, h2, M.kp _ _ h1 h2 h3, h4.mvd M, h5⟩
theorem GoodR.aol {A : ClsA} {d L : Addr} {k : Nat} {r : V} {H : Hp} (h : GoodR A d L k r H) : ∃ p ms, r = .ref p ∧ AOL A H k p ms := by
  obtain ⟨p, ms, vs, e, h1, h2, h3, h4, h5⟩ := h
  exact ⟨p, ms, e, _, vs, h3, h4, h5⟩
/-- names and numbers -/
theorem smAO {A : ClsA} {bad : Addr → Prop} {H : Hp} : ∀ {g : List V}, (∀ v ∈ g, argSm v) → ∃ ms, AOs A bad H ms g
  | [], _ => ⟨[], .nil⟩
  | v :: g, h => by
    obtain ⟨ms, hm⟩ := smAO (g := g) fun v hv => h v (List.mem_cons_of_mem _ hv)
    have hv := h v (List.mem_cons_self ..)
    unfold argSm at hv
    split at hv
    · exact ⟨_, .cons (.sr (Nat.le_trans hv (by decide))) hm⟩
    · rename_i i
      exact ⟨_, .cons (.in (i := i) (by omega)) hm⟩
    · exact hv.elim
def I_law (a0 d L nm : Addr) (H1 : Hp) : Nat → L2.St → Hp → Prop := fun _ σ H' => ∃ x3 x4 x5 x6 x7, σ = [some (.ref a0), some (.ref d), some (.ref nm), x3, x4, x5, x6, x7, none, none] ∧ Mv3 d L H1 H'
def M_law (A : ClsA) (a0 d L nm : Addr) (H1 : Hp) (c : Nat → Prop) : L2.St → Hp → Prop := fun σ H' => ∃ (k : Nat) (r : V) (x3 x5 x7 : Option V), σ = [some (.ref a0), some (.ref d), some (.ref nm), x3, some (.int k), x5, some r, x7, none, none] ∧ k ≤ 4 ∧ (c k → GoodR A d L k r H') ∧ Mv3 d L H1 H'
theorem slTake2 {K : PySem.W.Frag} {H : Hp} {a : Addr} {g : List V} {Q : VK} (ha : SqT K H a g) (q : ∀ t H', Ex H H' → SqT K H' t (g.take 2) → Q (.ref t) H') : rSlA K (.ref a) none (some 2) H Q := by
  have e1 : HT.sIx g.length 0 none = 0 := rfl
  have e2 : HT.sIx g.length g.length (some 2) = min 2 g.length := HT.sIx_nat g.length g.length 2
  refine ⟨a, g, rfl, ha, fun h => q a H (Ex.refl _) ?_, fun _ p hp => q p _ (Ex.new hp) (st_of ?_)⟩
  · rw [e2] at h
    rw [List.take_of_length_le (by omega)]
    exact ha
  · rw [upd_same]
    unfold cutV
    rw [e1, e2, List.drop_zero, Nat.sub_zero]
    refine congrArg some (congrArg HO.tup ?_)
    by_cases h : 2 ≤ g.length
    · rw [Nat.min_eq_left h]
    · rw [Nat.min_eq_right (by omega), List.take_length, List.take_of_length_le (by omega)]
theorem ask_ok1 {x y : Str} (hx : wordTab.lookup x = some 1) (h : nmOk y = true) : askDue (.str x) [.str y] = none := by
  unfold askDue
  dsimp only
  rw [hx]
  dsimp only
  rw [if_pos ⟨rfl, by simp [AM.nm, h]⟩]
theorem ask_ok2 {x y z : Str} (hx : wordTab.lookup x = some 2) (h : nmOk y = true) (h2 : nmOk z = true) : askDue (.str x) [.str y, .str z] = none := by
  unfold askDue
  dsimp only
  rw [hx]
  dsimp only
  rw [if_pos ⟨rfl, by simp [AM.nm, h, h2]⟩]
theorem put_ok {y : Str} (h : nmOk y = true) : putDue (.str y) (.str "base") [] = none := by
  unfold putDue
  rw [if_pos (show (AM.str y).nm = true from h)]
  have e : deedTab.lookup ("base" : Str) = some ([] : List Str) := by decide +kernel
  dsimp only
  rw [e]
  rfl
def C_sm (A : ClsA) (d L D : Addr) (H : Hp) : Nat → Hp → Prop := fun i H3 => ∃ acc ms', H3 D = some (.lst acc) ∧ acc.length = i ∧ AOs A (fun b => (b = d ∨ b = L) ∨ b = D) H3 ms' acc ∧ Mv3 d L H H3
def sp_law (K : PySem.W.Frag) : Sp := fun vs H Q _ => ∃ (a : Addr) (ns : List Int), vs = [.ref a] ∧ SqL K H a (ns.map V.int) ∧ ns.length ≤ 63 ∧ ∀ H', Q (.bl true) H'
theorem ok_law (T : Txt w K mg a_is_integer a_is_number a_is_name a_are_rows a_needed a_fits a_is_of a_law_deal a_law_draw a_law_pick a_law_words a_law_kinds a_law_put a_law_any a_law_is_name a_law_is_number a_law_are_rows a_law_put_due a_law_ask_due a_law_made a_law_due a_law_told a_law_is_beyond a_law a_Put_init a_If_init a_Times_init a_Ask_init a_Not_init a_InvalidRow_init a_InvalidRow a_FigureError a_InvalidText a_Put a_If a_Times a_Stop a_Ask a_Not a_Row a_Test a_DEEDS a_WORDS a_If_init_d0 d_is_integer d_is_number d_is_name d_are_rows d_needed d_fits d_is_of d_law_deal d_law_draw d_law_pick d_law_words d_law_kinds d_law_put d_law_any d_law_is_name d_law_is_number d_law_are_rows d_law_put_due d_law_ask_due d_law_made d_law_due d_law_told d_law_is_beyond d_law d_Put_init d_If_init d_Times_init d_Ask_init d_Not_init d_InvalidRow_init) : FnOk P w K mg base CX0 30 a_law d_law ["_law_script"] (sp_law K) := by
  have G_law_deal := ok_law_deal (P := P) (w := w) (base := base) T
  have G_law_words := ok_law_words (P := P) (w := w) (base := base) T
  have G_law_draw := ok_law_draw (P := P) (w := w) (base := base) T
  have G_law_put := ok_law_put (P := P) (w := w) (base := base) T
  have G_law_pick := ok_law_pick (P := P) (w := w) (base := base) T
  have G_law_is_beyond := ok_law_is_beyond (P := P) (w := w) (base := base) T
  have G_law_told := ok_law_told (P := P) (w := w) (base := base) T
  have G_law_due := ok_law_due (P := P) (w := w) (base := base) T
  have G_Put_init := ok_Put_init (P := P) (w := w) (base := base) T
  have G_Ask_init := ok_Ask_init (P := P) (w := w) (base := base) T
  have G_Not_init := ok_Not_init (P := P) (w := w) (base := base) T
  have G_law_any := ok_law_any (P := P) (w := w) (base := base) T 3
  refine T.F_law.ok sc_law (fun vs H Q E h => ?_) (fun cdv A outer s H vs Q E hr h => ?_)
  · obtain ⟨a, ns, rfl, _⟩ := h; rfl
  obtain ⟨a0, ns, rfl, ha0, hl, q⟩ := h
  refine ⟨_, (pss_cons (ps_set (i := 1) sc_law.nd rfl (by first | exact .inl rfl | exact .inr rfl) (pe_call G_law_deal (hr.mono (by decide)) (by rfl) T.g_law_deal T.F_law_deal.kp T.b_law_deal .nil pass0 (pa_cons (pv 0) (pa_cons pe_int pa_nil))))
      (pss_cons (ps_set (i := 2) sc_law.nd rfl (by first | exact .inl rfl | exact .inr rfl) (pe_call G_law_words (hr.mono (by decide)) (by rfl) T.g_law_words T.F_law_words.kp T.b_law_words .nil pass0 (pa_cons (pv 1) (pa_cons pe_int pa_nil))))
      (Evl.pss_cut (ps_for PassesOwn.never rfl (pi_range1 (by rfl) T.z_range (pa_cons pe_int pa_nil)) (pg_name (i := 3) sc_law.nd rfl (by first | exact .inl rfl | exact .inr rfl))
      (pss_cons (ps_par (i := 4) (j := 5) (by rfl) sc_law.nd rfl rfl (by decide) rfl rfl (pa_cons (pe_call G_law_draw (hr.mono (by decide)) (by rfl) T.g_law_draw T.F_law_draw.kp T.b_law_draw .nil pass0 (pa_cons (pv 1) (pa_cons pe_int pa_nil))) (pa_cons (pe_call G_law_put (hr.mono (by decide)) (by rfl) T.g_law_put T.F_law_put.kp T.b_law_put .nil pass0 (pa_cons (pv 1) (pa_cons (pv 2) (pa_cons pe_int pa_nil)))) pa_nil)) (by rfl))
      (pss_cons (ps_set (i := 6) sc_law.nd rfl (by first | exact .inl rfl | exact .inr rfl) (pe_ix ix_listM (pe_lst (pa_cons (pe_op op_cat (pe_lst (pa_cons (pe_ix ix_tup (pv 5) pe_int (fun _ _ => rfl)) (pa_cons (pe_ix ix_tup (pv 5) pe_int (fun _ _ => rfl)) pa_nil))) (pe_callTy call_list_of (by rfl) T.z_list (by decide +kernel) (pa_cons (pe_slice sl_tupA (pe_ix ix_tup (pv 5) pe_int (fun _ _ => rfl)) po_none (po_some pe_int)) pa_nil))) (pa_cons pe_non (pa_cons (pe_lst (pa_cons (pe_makeS T.M_Ask G_Ask_init (hr.mono (by omega)) (by rfl) T.g_Ask (fun σ => passAt takes0 σ) (pa_cons pe_str (pa_cons (pe_ix ix_listM (pv 2) pe_int (fun _ _ => rfl)) pa_nil))) pa_nil)) (pa_cons pe_non (pa_cons (pe_lst (pa_cons pe_int (pa_cons (pe_lst (pa_cons (pe_new0 T.N_Stop (by rfl) T.g_Stop) pa_nil)) pa_nil))) pa_nil)))))) (pv 4) (fun _ _ => rfl)))
      (Evl.pss_cut (ps_if (pt_cmpR op_eq (pv 4) pe_int (nomark _))
      (pss_cons (ps_set (i := 6) sc_law.nd rfl (by first | exact .inl rfl | exact .inr rfl) (pe_lst (pa_cons (pe_call G_law_pick (hr.mono (by decide)) (by rfl) T.g_law_pick T.F_law_pick.kp T.b_law_pick .nil pass0 (pa_cons (pv 1) (pa_cons (pe_lst (pa_cons pe_str (pa_cons pe_str (pa_cons pe_str (pa_cons pe_str (pa_cons pe_str pa_nil)))))) pa_nil))) pa_nil)))
      (pss_one (ps_set (i := 6) sc_law.nd rfl (by first | exact .inl rfl | exact .inr rfl) (pe_op op_cat (pv 6) (pe_lc (own := [("_law_k", 8)]) (g := gName 8) (by rfl) sc_law.nd (pi_range1 (by rfl) T.z_range (pa_cons (pe_call G_law_draw (hr.mono (by decide)) (by rfl) T.g_law_draw T.F_law_draw.kp T.b_law_draw .nil pass0 (pa_cons (pv 1) (pa_cons pe_int pa_nil))) pa_nil)) (blkOk_by (own := [("_law_k", 8)]) (N := N_law) (sc := defScope s_law) (by decide +kernel)) (fun _ _ _ _ _ => (pg_name (i := 8) sc_law.nd rfl (by first | exact .inl rfl | exact .inr rfl))) (fun _ _ _ _ _ => pts_nil) (fun _ _ _ _ _ => (pe_call G_law_pick (hr.mono (by decide)) (by rfl) T.g_law_pick T.F_law_pick.kp T.b_law_pick .nil pass0 (pa_cons (pv 1) (pa_cons (pv 2) pa_nil)))))))))
      pss_nil)
      (Evl.pss_cut (ps_if (pt_cmpR op_eq (pv 4) pe_int (nomark _))
      (pss_one (ps_set (i := 6) sc_law.nd rfl (by first | exact .inl rfl | exact .inr rfl) (pe_slice sl_listM (pe_lst (pa_cons (pe_makeS T.M_Not G_Not_init (hr.mono (by omega)) (by rfl) T.g_Not (fun σ => passAt takes0 σ) (pa_cons (pe_makeS T.M_Ask G_Ask_init (hr.mono (by omega)) (by rfl) T.g_Ask (fun σ => passAt takes0 σ) (pa_cons pe_str (pa_cons (pe_ix ix_listM (pv 2) pe_int (fun _ _ => rfl)) (pa_cons (pe_ix ix_listM (pv 2) pe_int (fun _ _ => rfl)) pa_nil)))) pa_nil)) (pa_cons (pe_tup (pa_cons (pe_new0 T.N_Stop (by rfl) T.g_Stop) pa_nil)) (pa_cons (pe_lst (pa_cons (pe_makeS T.M_Put G_Put_init (hr.mono (by omega)) (by rfl) T.g_Put (fun σ => passAt takes0 σ) (pa_cons (pe_ix ix_listM (pv 2) pe_int (fun _ _ => rfl)) (pa_cons pe_str pa_nil))) pa_nil)) pa_nil)))) po_none (po_some (pe_op op_add pe_int (pe_call G_law_draw (hr.mono (by decide)) (by rfl) T.g_law_draw T.F_law_draw.kp T.b_law_draw .nil pass0 (pa_cons (pv 1) (pa_cons pe_int pa_nil))))))))
      pss_nil)
      (pss_cons (ps_setLc (i := 7) (own := [("_law_thing", 9)]) (g := gName 9) (by rfl) sc_law.nd rfl rfl (sw_true rfl rfl rfl (by decide +kernel)) (pi_list (pv 6)) (blkOk_by (own := [("_law_thing", 9)]) (N := N_law) (sc := defScope s_law) (by decide +kernel)) (fun _ _ _ _ _ => (pg_name (i := 9) sc_law.nd rfl (by first | exact .inl rfl | exact .inr rfl))) (fun _ _ _ _ _ => pts_nil) (fun _ _ _ _ _ => (pe_ifExp (pt_cmpR op_gt (pe_call G_law_draw (hr.mono (by decide)) (by rfl) T.g_law_draw T.F_law_draw.kp T.b_law_draw .nil pass0 (pa_cons (pv 1) (pa_cons pe_int pa_nil))) pe_int (nomark _)) (pv 9) (pe_call G_law_any (hr.mono (by decide)) (by rfl) T.g_law_any T.F_law_any.kp T.b_law_any .nil pass0 (pa_cons (pv 1) (pa_cons pe_int pa_nil))))))
      (Evl.pss_cut (ps_set (i := 7) sc_law.nd rfl (by first | exact .inl rfl | exact .inr rfl) (pe_ifExp (pt_val (pe_call G_law_is_beyond (hr.mono (by decide)) (by rfl) T.g_law_is_beyond T.F_law_is_beyond.kp T.b_law_is_beyond .nil pass0 (pa_cons (pv 4) (pa_cons (pv 7) pa_nil)))) (pv 6) (pv 7)))
      (pss_one (ps_if (PW.pt (pw_or (pt_cmpR op_ne (pe_call G_law_told (hr.mono (by decide)) (by rfl) T.g_law_told T.F_law_told.kp T.b_law_told .nil pass0 (pa_cons (pv 4) (pa_cons (pv 7) pa_nil))) (pe_call G_law_due (hr.mono (by decide)) (by rfl) T.g_law_due T.F_law_due.kp T.b_law_due .nil pass0 (pa_cons (pv 4) (pa_cons (pv 7) pa_nil))) (nomark _)) (pw_or1 (pt_cmpR op_ne (pe_call G_law_told (hr.mono (by decide)) (by rfl) T.g_law_told T.F_law_told.kp T.b_law_told .nil pass0 (pa_cons (pv 4) (pa_cons (pv 6) pa_nil))) (pe_call G_law_due (hr.mono (by decide)) (by rfl) T.g_law_due T.F_law_due.kp T.b_law_due .nil pass0 (pa_cons (pv 4) (pa_cons (pv 6) pa_nil))) (nomark _)))))
      (pss_one (ps_ret pe_bl))
      pss_nil)))))))))
      (pss_one (ps_ret pe_bl))))), ?_⟩
  walk_at "st"
  walk_at "vc"
  refine ⟨ns, ha0, hl, by decide, by decide, fun d L H1 e1 D1 => ⟨L, D1, by decide, by decide, fun nm nms H2 M2 _ nd nL hnm hn3 hnok => ?_⟩⟩
  have N : Names d L nm nms H2 := ⟨hnm, nd, nL, by omega, by omega, hnok⟩
  obtain ⟨y0, y1, y2, rfl⟩ : ∃ y0 y1 y2, nms = [y0, y1, y2] := by
    match nms, hn3 with
    | [y0, y1, y2], _ => exact ⟨y0, y1, y2, rfl⟩
  have Mr : Mv3 d L H2 H2 := .refl M2.dl
  refine ⟨fun σ H' => True, ?_, fun σ H' hm => q H'⟩
  walk_at "vc"
  refine ⟨12, rfl, by decide, by decide, for_range (lo := 0) (n := 12) (I_law a0 d L nm H2) ⟨_, _, _, _, _, rfl, Mr⟩ (fun t σ H' ht hw => ?_) (fun σ H' hw => trivial)⟩
  obtain ⟨x3, x4, x5, x6, x7, rfl, M⟩ := hw
  walk_at "vc"
  refine ⟨L, M.dl, by decide, by decide, fun f Ha f0 f1 Ma => ⟨L, [y0, y1, y2], Ma.dl, (N.mv M).mv Ma, by decide, by decide, fun n dd g rw Hb Mb hRT hok hsm => ?_⟩⟩
  obtain ⟨k, rfl⟩ : ∃ k : Nat, f = (k : Int) := ⟨f.toNat, by omega⟩
  have k4 : k ≤ 4 := by omega
  have Mc := M.trans (Ma.trans Mb)
  clear Ma Mb M
  unfold RowT at hRT
  obtain ⟨ra, gq, rfl, hra, hgq⟩ := hRT
  rw [RowM.sm] at hsm
  obtain ⟨hs1, hs2, hs3, hs4⟩ := hsm
  have Nb := (N.mv Mc)
  refine ⟨ra, _, 1, _, rfl, rfl, hra, atI1, ⟨ra, _, 2, _, rfl, rfl, hra, atI2, sz_le (by simp), fun p1 h1 => ?_⟩⟩
  have e1 := Ex.new h1 (o := .lst [V.str n, V.str dd])
  have w1 : upd Hb p1 (.lst [V.str n, V.str dd]) p1 = some (.lst [V.str n, V.str dd]) := upd_same
  have o1 := Mc.dl.off h1
  have M1 := Mc.new h1 (o := .lst [V.str n, V.str dd])
  generalize upd Hb p1 (.lst [V.str n, V.str dd]) = H3 at *
  refine ⟨ra, _, 3, _, rfl, rfl, e1.sqt hra, atI3, slTake2 (e1.sqt hgq) fun t2 H4 e2 ht2 => ⟨t2, rfl, _, .inr ht2, fun l1 hl1 => ?_⟩⟩
  have e3 := Ex.new hl1 (o := .lst (g.take 2))
  refine ⟨p1, l1, _, _, rfl, rfl, e3 _ _ (e2 _ _ w1), upd_same, sz_le (by simp; omega), fun p2 hp2 => ?_⟩
  have w2 : upd (upd H4 l1 (.lst (g.take 2))) p2 (.lst ([V.str n, V.str dd] ++ g.take 2)) p2 = some (.lst ([V.str n, V.str dd] ++ g.take 2)) := upd_same
  have M2' := (M1.tex (e2.trans e3))
  have o2 := M2'.dl.off hp2
  have M3 := M2'.new hp2 (o := .lst ([V.str n, V.str dd] ++ g.take 2))
  generalize upd (upd H4 l1 (.lst (g.take 2))) p2 (.lst ([V.str n, V.str dd] ++ g.take 2)) = H5 at *
  refine tMakeS_of ?_
  walk_at "vc"
  have hok0 := hnok y0 (by simp)
  have hok1 := hnok y1 (by simp)
  have hok2 := hnok y2 (by simp)
  have AS : ∀ {y : Str} {H : Hp} {bad : Addr → Prop}, y.length ≤ 4 → AO ⟨a_Put, a_If, a_Times, a_Stop, a_Ask, a_Not⟩ bad H (.str y) (.str y) := fun h => .sr (by omega)
  refine ⟨_, sq_of (N.mv M3).1, .str y0, atI0, makeAsk T (mw := .str "unlike") (ms := [.str y0]) (bad := fun _ => False) (.sr (by decide +kernel)) (.cons (AS hok0.1) .nil) (by simp) ?_⟩
  rw [ask_ok1 (by decide +kernel) hok0.2]
  rintro xa H6 e4 hxa ⟨dxa, fsa, hia⟩
  refine ⟨sz_le (by simp), fun p3 hp3 => newStop fun xs1 H7 e5 hxs ⟨dxs, his⟩ => ⟨sz_le (by simp), fun p4 hp4 => ⟨sz_le (by simp), fun p5 hp5 => ⟨sz_le (by simp), fun p6 hp6 => ?_⟩⟩⟩⟩
  have Ma := (M3.tex e4)
  have Mb := Ma.new hp3 (o := .lst [V.ref xa])
  have Md := Mb.tex e5
  have Me := Md.new hp4 (o := .lst [V.ref xs1])
  have Mf := Me.new hp5 (o := .lst [V.int 2, V.ref p4])
  have Mg := Mf.new hp6 (o := .lst [V.ref p2, V.non, V.ref p3, V.non, V.ref p5])
  have o3 := Ma.dl.off hp3
  have o4 := Md.dl.off hp4
  have o5 := Me.dl.off hp5
  have o6 := Mf.dl.off hp6
  have oa := M3.dl.off hxa
  have os := Mb.dl.off hxs
  have f6 := Ex.new hp6 (o := .lst [V.ref p2, V.non, V.ref p3, V.non, V.ref p5])
  have f5 := (Ex.new hp5 (o := .lst [V.int 2, V.ref p4])).trans f6
  have f4 := (Ex.new hp4 (o := .lst [V.ref xs1])).trans f5
  have f3 := e5.trans f4
  have v3 := f3 _ _ (upd_same (H := H6) (a := p3) (o := .lst [V.ref xa]))
  have vs1 := f4 _ _ his
  have v4 := f5 _ _ (upd_same (H := H7) (a := p4) (o := .lst [V.ref xs1]))
  have v5 := f6 _ _ (upd_same (a := p5) (o := .lst [V.int 2, V.ref p4]))
  have v2 := (e4.trans ((Ex.new hp3 (o := .lst [V.ref xa])).trans f3)) _ _ w2
  have va := ((Ex.new hp3 (o := .lst [V.ref xa])).trans f3) _ _ hia
  have v6 := upd_same (H := upd (upd H7 p4 (.lst [V.ref xs1])) p5 (.lst [V.int 2, V.ref p4])) (a := p6) (o := .lst [V.ref p2, V.non, V.ref p3, V.non, V.ref p5])
  generalize upd (upd (upd H7 p4 (.lst [V.ref xs1])) p5 (.lst [V.int 2, V.ref p4])) p6 (.lst [V.ref p2, V.non, V.ref p3, V.non, V.ref p5]) = H8 at *
  have hr : ∃ r, ([V.ref p2, V.non, V.ref p3, V.non, V.ref p5] : List V)[k]? = some r ∧ (k ≠ 1 ∧ k ≠ 3 → GoodR ⟨a_Put, a_If, a_Times, a_Stop, a_Ask, a_Not⟩ d L k r H8) := by
    have nb : ∀ {b : Addr}, b ≠ d ∧ b ≠ L → ¬ (b = d ∨ b = L) := fun h z => z.elim h.1 h.2
    match k, k4 with
    | 0, _ =>
      refine ⟨_, rfl, fun _ => ?_⟩
      obtain ⟨ms, hms⟩ := smAO (A := ⟨a_Put, a_If, a_Times, a_Stop, a_Ask, a_Not⟩) (bad := fun b => b = d ∨ b = L) (H := H8) (g := g.take 2) fun v hv => hs4 v (List.mem_of_mem_take hv)
      refine ⟨p2, .str n :: .str dd :: ms, _, rfl, o2.1, o2.2, v2, .cons (AS hs1) (.cons (.sr (by omega)) hms), ?_⟩
      have h9 := hms.len
      rw [List.length_take] at h9
      exact ⟨by simp, by simp only [List.length_cons]; omega⟩
    | 1, _ => exact ⟨_, rfl, fun h => absurd rfl h.1⟩
    | 2, _ => exact ⟨_, rfl, fun _ => ⟨p3, [.test], _, rfl, o3.1, o3.2, v3, .cons (.ts (nb oa) va (.inl rfl)) .nil, rfl⟩⟩
    | 3, _ => exact ⟨_, rfl, fun h => absurd rfl h.2⟩
    | 4, _ => exact ⟨_, rfl, fun _ => ⟨p5, [.int 2, .seq true [.row]], _, rfl, o5.1, o5.2, v5, .cons (.in (by decide)) (.cons (.ls (nb o4) v4 (by simp) (.cons (.rw (nb os) vs1 (.inr (.inr (.inr rfl)))) .nil)) .nil), rfl⟩⟩
  obtain ⟨r, hr0, hr1⟩ := hr
  refine ⟨_, sq_of v6, r, atI_nat hr0, ?_⟩
  have M8 := Mg
  clear v6 v5 v4 vs1 v3 v2 va f3 f4 f5 f6 Ma Mb Md Me Mf Mg w2 M3 M2' M1 w1
  clear hr0 o1 o2 o3 o4 o5 o6 oa os hia hxa hxs his hp3 hp4 hp5 hp6 hp2 hl1 e1 e2 e3 e4 e5 hra hgq ht2 Mc Nb
  refine ⟨M_law ⟨a_Put, a_If, a_Times, a_Stop, a_Ask, a_Not⟩ a0 d L nm H2 (fun k => k ≠ 3), ?_, fun σ H' hm => ?_⟩
  · walk_at "vc"
    refine ite2 (fun hk => ⟨sz_le (by simp), fun p7 hp7 => ?_⟩) (fun hk => ⟨k, r, _, _, _, rfl, k4, fun h3 => hr1 ⟨fun z => hk (by rw [z]; rfl), h3⟩, M8⟩)
    obtain rfl : k = 1 := by omega
    have o7 := M8.dl.off hp7
    refine ⟨L, M8.dl.ex (Ex.new hp7), .inl ⟨p7, _, rfl, upd_same, o7.1, o7.2, by simp, by simp, fun v H9 hv M9 => ⟨sz_le (by simp), fun p8 hp8 => ?_⟩⟩⟩
    obtain ⟨wv, rfl, hwv⟩ : ∃ wv : Str, v = .str wv ∧ wv.length ≤ 100 := by
      simp only [List.mem_cons, List.not_mem_nil, or_false] at hv
      rcases hv with rfl | rfl | rfl | rfl | rfl <;> exact ⟨_, rfl, by decide +kernel⟩
    have M10 := (M8.new hp7 (o := .lst [V.str (Str.ofString "same"), V.str (Str.ofString "less"), V.str (Str.ofString "divides"), V.str (Str.ofString "mirrored"), V.str (Str.ofString "unlike")])).trans M9
    have o8 := M10.dl.off hp8
    have M11 := M10.new hp8 (o := .lst [V.str wv])
    have w8 : upd H9 p8 (.lst [V.str wv]) p8 = some (.lst [V.str wv]) := upd_same
    generalize upd H9 p8 (.lst [V.str wv]) = H10 at *
    refine ⟨_, rfl, L, M11.dl, by decide, by decide, fun c H11 c0 c1 M12 => ?_⟩
    obtain ⟨c, rfl⟩ : ∃ j : Nat, c = (j : Int) := ⟨c.toNat, by omega⟩
    have w8' := M12.kp _ _ o8.1 o8.2 w8
    have M13 := M11.trans M12
    refine ⟨_, rfl, by omega, by omega, fun D0 hD0 => ?_⟩
    have oD := M13.dl.off hD0
    refine lc_range (lo := 0) (n := c) (fun i H' => ∃ xs : List Str, H' D0 = some (.lst (xs.map V.str)) ∧ xs.length = i ∧ (∀ x ∈ xs, x.length ≤ 4) ∧ Mv3 d L H11 H') ⟨[], upd_same, rfl, by simp, Mv3.of_ex M13.dl (Ex.new hD0)⟩ (fun j H' hj hI => ?_) (fun H' hI => ?_)
    · obtain ⟨xs, u1, u2, u3, M14⟩ := hI
      walk_at "vc"
      have Nn := N.mv (M13.trans M14)
      refine ⟨L, M14.dl, .inl ⟨nm, _, rfl, Nn.1, nd, nL, by simp, by simp, fun v H15 hv M15 => ?_⟩⟩
      obtain ⟨y, hy, rfl⟩ := List.mem_map.mp hv
      refine ⟨_, M15.kp _ _ oD.1 oD.2 u1, sz_lt (by simp; omega), xs ++ [y], by rw [upd_same, List.map_append]; rfl, by simp; omega, fun x hx => ?_, (M14.trans M15).mut hD0 oD.1 oD.2⟩
      rcases List.mem_append.mp hx with hx | hx
      · exact u3 x hx
      · rw [List.mem_singleton.mp hx]; exact (hnok y hy).1
    · obtain ⟨xs, u1, u2, u3, M14⟩ := hI
      have M15 := M13.trans M14
      refine ⟨p8, D0, _, _, rfl, rfl, M14.kp _ _ o8.1 o8.2 w8', u1, sz_le (by simp; omega), fun p9 hp9 => ?_⟩
      have o9 := M15.dl.off hp9
      obtain ⟨ms, hms⟩ := smAO (A := ⟨a_Put, a_If, a_Times, a_Stop, a_Ask, a_Not⟩) (bad := fun b => b = d ∨ b = L) (H := upd H' p9 (.lst ([V.str wv] ++ xs.map V.str))) (g := xs.map V.str) fun v hv => by
        obtain ⟨y, hy, rfl⟩ := List.mem_map.mp hv
        exact u3 y hy
      have hlm := hms.len
      rw [List.length_map] at hlm
      exact ⟨1, .ref p9, _, _, _, rfl, by decide, fun _ => ⟨p9, .str wv :: ms, _, rfl, o9.1, o9.2, upd_same, .cons (.sr hwv) hms, by simp only [List.length_cons]; omega, by simp only [List.length_cons]; omega⟩, M15.new hp9⟩
  obtain ⟨k, r, x3, x5, x7, rfl, k4, hg, M⟩ := hm
  walk_at "vc"
  refine ⟨M_law ⟨a_Put, a_If, a_Times, a_Stop, a_Ask, a_Not⟩ a0 d L nm H2 (fun _ => True), ?_, fun σ H' hm => ?_⟩
  · walk_at "vc"
    refine ite2 (fun hk => ?_) (fun hk => ⟨k, r, _, _, _, rfl, k4, fun _ => hg (fun z => hk (by rw [z]; rfl)), M⟩)
    obtain rfl : k = 3 := by omega
    have nb : ∀ {b : Addr}, b ≠ d ∧ b ≠ L → ¬ (b = d ∨ b = L) := fun h z => z.elim h.1 h.2
    refine tMakeS_of ?_
    walk_at "vc"
    refine tMakeS_of ?_
    walk_at "vc"
    refine ⟨_, sq_of (N.mv M).1, .str y0, atI0, _, sq_of (N.mv M).1, .str y1, atI1, makeAsk T (mw := .str "same") (ms := [.str y0, .str y1]) (bad := fun _ => False) (.sr (by decide +kernel)) (.cons (AS hok0.1) (.cons (AS hok1.1) .nil)) (by simp) ?_⟩
    rw [ask_ok2 (by decide +kernel) hok0.2 hok1.2]
    rintro xa H6 e4 hxa ⟨dxa, fsa, hia⟩
    have oa := M.dl.off hxa
    have Ma := M.tex e4
    refine makeNot T (m := .test) (bad := fun b => b = d ∨ b = L) (.ts (nb oa) hia (.inl rfl)) ?_
    rw [if_pos (by rfl)]
    rintro xn H7 e5 hxn ⟨dxn, fsn, hin⟩
    have on := Ma.dl.off hxn
    have Mb := Ma.tex e5
    refine newStop fun xs1 H8 e6 hxs ⟨dxs, his⟩ => ⟨sz_le (by simp), fun p1 hp1 => ?_⟩
    have os := Mb.dl.off hxs
    have Md := Mb.tex e6
    have o1 := Md.dl.off hp1
    have Me := Md.new hp1 (o := .tup [V.ref xs1])
    have g1 := Ex.new hp1 (o := .tup [V.ref xs1])
    have w1 : upd H8 p1 (.tup [V.ref xs1]) p1 = some (.tup [V.ref xs1]) := upd_same
    have ws := g1 _ _ his
    have wn := g1 _ _ (e6 _ _ hin)
    generalize upd H8 p1 (.tup [V.ref xs1]) = H9 at *
    refine tMakeS_of ?_
    walk_at "vc"
    refine ⟨_, sq_of (N.mv Me).1, .str y2, atI2, makePut T (mn := .str y2) (md := .str "base") (ms := []) (bad := fun _ => False) (AS hok2.1) (.sr (by decide +kernel)) .nil (by simp) ?_⟩
    rw [put_ok hok2.2]
    rintro xp H10 e7 hxp ⟨dxp, fsp, hip⟩
    have op := Me.dl.off hxp
    have Mf := Me.tex e7
    refine ⟨sz_le (by simp), fun p2 hp2 => ⟨sz_le (by simp), fun p3 hp3 => ?_⟩⟩
    have o2 := Mf.dl.off hp2
    have Mg := Mf.new hp2 (o := .lst [V.ref xp])
    have o3 := Mg.dl.off hp3
    have Mh := Mg.new hp3 (o := .lst [V.ref xn, V.ref p1, V.ref p2])
    have g3 := Ex.new hp3 (o := .lst [V.ref xn, V.ref p1, V.ref p2])
    have g2 := (Ex.new hp2 (o := .lst [V.ref xp])).trans g3
    have v1 := g2 _ _ (e7 _ _ w1)
    have vs1 := g2 _ _ (e7 _ _ ws)
    have vn := g2 _ _ (e7 _ _ wn)
    have vp := g2 _ _ hip
    have v2 := g3 _ _ (upd_same (H := H10) (a := p2) (o := .lst [V.ref xp]))
    have v3 := upd_same (H := upd H10 p2 (.lst [V.ref xp])) (a := p3) (o := .lst [V.ref xn, V.ref p1, V.ref p2])
    generalize upd (upd H10 p2 (.lst [V.ref xp])) p3 (.lst [V.ref xn, V.ref p1, V.ref p2]) = H11 at *
    refine ⟨L, Mh.dl, by decide, by decide, fun z Hd z0 z1 Mi => ⟨_, rfl, _, sq_of (Mi.kp _ _ o3.1 o3.2 v3), fun rr hrr => ?_⟩⟩
    have Mj := Mh.trans Mi
    have orr := Mj.dl.off hrr
    have an : AO ⟨a_Put, a_If, a_Times, a_Stop, a_Ask, a_Not⟩ (fun b => b = d ∨ b = L) H11 .test (.ref xn) := .ts (nb on) vn (.inr rfl)
    have a1 : AO ⟨a_Put, a_If, a_Times, a_Stop, a_Ask, a_Not⟩ (fun b => b = d ∨ b = L) H11 (.seq false [.row]) (.ref p1) := .tp (nb o1) v1 (by simp) (.cons (.rw (nb os) vs1 (.inr (.inr (.inr rfl)))) .nil)
    have a2 : AO ⟨a_Put, a_If, a_Times, a_Stop, a_Ask, a_Not⟩ (fun b => b = d ∨ b = L) H11 (.seq true [.row]) (.ref p2) := .ls (nb o2) v2 (by simp) (.cons (.rw (nb op) vp (.inl rfl)) .nil)
    have fin : ∀ {ms : List AM} {vs : List V}, AOs ⟨a_Put, a_If, a_Times, a_Stop, a_Ask, a_Not⟩ (fun b => b = d ∨ b = L) H11 ms vs → shp 3 ms.length → cutV [V.ref xn, V.ref p1, V.ref p2] none (some (2 + z)) = vs → M_law ⟨a_Put, a_If, a_Times, a_Stop, a_Ask, a_Not⟩ a0 d L nm H2 (fun _ => True) [some (V.ref a0), some (V.ref d), some (V.ref nm), x3, some (V.int (3 : Nat)), x5, some (V.ref rr), x7, none, none] (upd Hd rr (.lst (cutV [V.ref xn, V.ref p1, V.ref p2] none (some (2 + z))))) := fun {ms vs} hms hsh hcv => by
      rw [hcv]
      exact ⟨3, .ref rr, _, _, _, rfl, by decide, fun _ => ⟨rr, ms, vs, rfl, orr.1, orr.2, upd_same, ((hms.mvd Mi).ex (Ex.new hrr)), hsh⟩, Mj.new hrr⟩
    rcases (show z = 0 ∨ z = 1 by omega) with rfl | rfl
    · exact fin (.cons an (.cons a1 .nil)) (.inl rfl) rfl
    · exact fin (.cons an (.cons a1 (.cons a2 .nil))) (.inr rfl) rfl
  obtain ⟨k, r, x3, x5, x7, rfl, k4, hg, M⟩ := hm
  have hg := hg trivial
  obtain ⟨pr, ms, vs, rfl, or1, or2, hpr, hms, hsh⟩ := hg
  walk_at "vc"
  have hvl : vs.length ≤ 4 := by
    rw [hms.len]
    match k, hsh with
    | 0, h => exact h.2
    | 1, h => exact Nat.le_trans h.2 (by decide)
    | 2, h => have : ms.length = 1 := h; omega
    | 3, h => have : ms.length = 2 ∨ ms.length = 3 := h; omega
    | 4, h => have : ms.length = 2 := h; omega
  refine ⟨_, rfl, pr, rfl, ⟨_, sq_of hpr⟩, fun D hD => ?_⟩
  have oD := M.dl.off hD
  refine lc_it (walk_list (xs := vs)) (C_sm ⟨a_Put, a_If, a_Times, a_Stop, a_Ask, a_Not⟩ d L D H') ⟨[], [], upd_same, rfl, .nil, Mv3.of_ex M.dl (Ex.new hD)⟩ (fun i H3 _ hP => ?_) (fun i v H3 H4 hi hP y => ?_) (fun H3 hP => ?_)
  · obtain ⟨acc, ms', u1, u2, u3, u4⟩ := hP
    exact sq_of (u4.kp _ _ or1 or2 hpr)
  · obtain ⟨rfl, hv⟩ := y
    obtain ⟨acc, ms', u1, u2, u3, u4⟩ := hP
    walk_at "vc"
    obtain ⟨m, hm0, hm1⟩ := hms.at_ hv
    have a3 : AO ⟨a_Put, a_If, a_Times, a_Stop, a_Ask, a_Not⟩ (fun b => (b = d ∨ b = L) ∨ b = D) H' m v := hm1.less fun b hb z => z.elim id fun e => absurd (e ▸ hD) hb
    have put : ∀ {m : AM} {y : V} {H5 : Hp}, AO ⟨a_Put, a_If, a_Times, a_Stop, a_Ask, a_Not⟩ (fun b => (b = d ∨ b = L) ∨ b = D) H5 m y → Mv3 d L H4 H5 → ∃ acc, H5 D = some (.lst acc) ∧ acc.length < sizeLine ∧ C_sm ⟨a_Put, a_If, a_Times, a_Stop, a_Ask, a_Not⟩ d L D H' (i + 1) (upd H5 D (.lst (acc ++ [y]))) := by
      intro m y H5 hy M5
      have kp : ∀ b o, ¬ ((b = d ∨ b = L) ∨ b = D) → H5 b = some o → upd H5 D (.lst (acc ++ [y])) b = some o := fun b o nb hb => by rw [upd_ne (fun e => nb (.inr e))]; exact hb
      refine ⟨acc, M5.kp _ _ oD.1 oD.2 u1, sz_lt (by omega), acc ++ [y], ms' ++ [m], upd_same, by simp; omega, AOs.snoc (hy.keep kp) (((u3.keep fun b o nb hb => M5.kp b o (fun e => nb (.inl (.inl e))) (fun e => nb (.inl (.inr e))) hb)).keep kp), (u4.trans M5).mut hD oD.1 oD.2⟩
    refine ⟨L, u4.dl, by decide, by decide, fun z H5 z0 z1 M5 => ⟨_, rfl, ite2 (fun _ => ?_) (fun _ => ?_)⟩⟩
    · exact put (a3.keep fun b o nb hb => (u4.trans M5).kp b o (fun e => nb (.inl (.inl e))) (fun e => nb (.inl (.inr e))) hb) M5
    · refine ⟨d, L, rfl, M5.dl, by decide, fun m2 y H6 M6 R => ?_⟩
      have u1' := M5.kp _ _ oD.1 oD.2 u1
      refine put (R.less fun b _ z => ?_) (M5.trans M6)
      rcases z with z | z
      · exact .inl z
      · exact .inr fun e => by rw [z, u1'] at e; cases e
  obtain ⟨acc, ms', u1, u2, u3, u4⟩ := hP
  have hl3 := u3.len
  have GD : GoodR ⟨a_Put, a_If, a_Times, a_Stop, a_Ask, a_Not⟩ d L k (.ref D) H3 := ⟨D, ms', acc, rfl, oD.1, oD.2, u1, u3.less fun b _ z => .inl z, by rw [← hl3, u2, hms.len]; exact hsh⟩
  have GP : GoodR ⟨a_Put, a_If, a_Times, a_Stop, a_Ask, a_Not⟩ d L k (.ref pr) H3 := GoodR.mv ⟨pr, ms, vs, rfl, or1, or2, hpr, hms, hsh⟩ u4
  have M3 := M.trans u4
  clear u1 u3 u4 hpr hms hD M
  refine ⟨fun σ H4 => ∃ r7 : V, σ = [some (.ref a0), some (.ref d), some (.ref nm), x3, some (.int k), x5, some (.ref pr), some r7, none, none] ∧ GoodR ⟨a_Put, a_If, a_Times, a_Stop, a_Ask, a_Not⟩ d L k r7 H4 ∧ GoodR ⟨a_Put, a_If, a_Times, a_Stop, a_Ask, a_Not⟩ d L k (.ref pr) H4 ∧ Mv3 d L H2 H4, ?_, fun σ H4 hm => ?_⟩
  · walk_at "vc"
    obtain ⟨p5, ms5, e5, hA⟩ := GD.aol
    cases e5
    refine ⟨k, ms5, rfl, hA, fun b H5 e5 => ⟨_, rfl, ?_⟩⟩
    have M5 := Mv3.of_ex M3.dl e5
    refine ite2 (fun _ => ⟨GP.mv M5, GP.mv M5, M3.trans M5⟩) (fun _ => ⟨GD.mv M5, GP.mv M5, M3.trans M5⟩)
  · obtain ⟨r7, rfl, G7, G6, M4⟩ := hm
    walk_at "vc"
    have scD : ∀ x : Option Str, scal (dueV x) (dueV x) = true := fun x => by cases x <;> rfl
    have aolE : ∀ {p : Addr} {ms : List AM} {H H' : Hp}, AOL ⟨a_Put, a_If, a_Times, a_Stop, a_Ask, a_Not⟩ H k p ms → Ex H H' → AOL ⟨a_Put, a_If, a_Times, a_Stop, a_Ask, a_Not⟩ H' k p ms := fun ⟨bad, vs, h1, h2, h3⟩ e => ⟨bad, vs, e _ _ h1, h2.ex e, h3⟩
    obtain ⟨p7, ms7, e7, A7⟩ := G7.aol
    cases e7
    obtain ⟨p6, ms6, e6, A6⟩ := G6.aol
    cases e6
    refine ⟨k, ms7, rfl, A7, fun H5 e5 => ⟨k, ms7, rfl, aolE A7 e5, fun H6 e6 => ⟨scD _, ?_⟩⟩⟩
    rw [if_neg (fun z => z rfl)]
    have e56 := e5.trans e6
    refine ⟨k, ms6, rfl, aolE A6 e56, fun H7 e7 => ⟨k, ms6, rfl, aolE A6 (e56.trans e7), fun H8 e8 => ⟨scD _, ?_⟩⟩⟩
    rw [if_neg (fun z => z rfl)]
    exact ⟨_, _, _, _, _, rfl, M4.tex (e56.trans (e7.trans e8))⟩
end
end My
set_option Elab.async false
set_option linter.all false
set_option maxRecDepth 100000
set_option maxHeartbeats 4000000
set_option exponentiation.threshold 5000
namespace My
open PySem PySem.Spec PyProof.Rows L2 Evl
local macro_rules | `(tactic| walk_at "st") => `(tactic| simp only [L2.start, List.map_cons, List.map_nil, List.length_cons, List.length_nil, Nat.reduceAdd, Nat.reduceSub, List.replicate_succ, List.replicate_zero, List.cons_append, List.nil_append, cxOf, List.append_nil])
local macro_rules | `(tactic| walk_at "vc") => `(tactic| try simp only [tIfT, tSeq, tAsg, tOp, tUn, tVar, tC, tNil, tCons, gName, rI, rI0, rU, tRet, tIfS, tNot, tAnd, tOr, tB, tTest, tCB, tCall, tAndV, tOrV, tNotV, tNext, tNever, tIf, tChain, tYes, tPart, tNoPart, tPar, tDrop, q_isi, q_vn, q_vb, q_vi, q_vs, kb1, kb2, kb3, kb4, kb5, kb6, kb7, kb8, q_int1, q_int2, q_min, q_max, q_repr, tLst, tTup, rEq, rNe, q_sii, q_sss, q_sbb, q_snn, q_sns, q_ssn, q_ix, q_sl, tSl, tBM, tBM0, q_app, q_pop, gSub, rSetL, L2.wipe, eq_self, decide_true, decide_false, tRevL,
  List.getElem?_cons_succ, List.getElem?_cons_zero, List.set_cons_succ, List.set_cons_zero, Option.some.injEq, exists_eq_left', exists_eq_left, V.int.injEq, V.bl.injEq, V.ref.injEq, V.str.injEq, List.cons.injEq, and_true, true_and, List.append_nil, List.nil_append, List.cons_append, exists_and_left, and_assoc, if_true, if_false, Bool.not_true, Bool.not_false, Bool.false_eq_true, Bool.true_eq_false, reduceIte, tRevL, tPar3, tRevT, tUnl, tCKw, forall_const, Bool.not_eq_true', decide_eq_true_eq, decide_eq_false_iff_not])
theorem all_mk {l : PySem.W.OpenLaw} {w : World} {K : PySem.W.Frag} {h : Heap} {mg : Str → Option Value} {fa : Addr} {a_is_integer a_is_number a_is_name a_are_rows a_needed a_fits a_is_of a_law_deal a_law_draw a_law_pick a_law_words a_law_kinds a_law_put a_law_any a_law_is_name a_law_is_number a_law_are_rows a_law_put_due a_law_ask_due a_law_made a_law_due a_law_told a_law_is_beyond a_law a_Put_init a_If_init a_Times_init a_Ask_init a_Not_init a_InvalidRow_init a_InvalidRow a_FigureError a_InvalidText a_Put a_If a_Times a_Stop a_Ask a_Not a_Row a_Test a_DEEDS a_WORDS a_If_init_d0 : Addr} (X : K.In h) (G : h.Ns mainGlobals mg) (hfa : mg "law" = some (.ref fa))
    {nm_InvalidRow q_InvalidRow : Str} {N_InvalidRow : Addr} {bs_InvalidRow bm_InvalidRow : List Value} {sn_InvalidRow : List Str} {sub_InvalidRow : List Value} {ab_InvalidRow : Bool} {col_InvalidRow : Option Bool} {dd_InvalidRow : Option Addr} {m0_InvalidRow m1_InvalidRow m2_InvalidRow m3_InvalidRow m5_InvalidRow : Option Value}
    (aE_InvalidRow : PySem.W.nsIn K mainGlobals "InvalidRow" = some (some (.ref a_InvalidRow)))
    (xL_InvalidRow : K.lookup a_InvalidRow = some (excClassObj nm_InvalidRow q_InvalidRow a_InvalidRow N_InvalidRow bs_InvalidRow bm_InvalidRow true sn_InvalidRow sub_InvalidRow ab_InvalidRow col_InvalidRow dd_InvalidRow m0_InvalidRow m1_InvalidRow m2_InvalidRow m3_InvalidRow m5_InvalidRow "ValueError.__new__"))
    (hb_InvalidRow : PySem.HandSPX.refsVE bm_InvalidRow = true)
    (sa_InvalidRow : PySem.W.findIn K (.ref a_InvalidRow) "__setattr__" = some (some (.builtin "object.__setattr__")))
    (ga_InvalidRow : PySem.W.findIn K (.ref a_InvalidRow) "__getattribute__" = some (some (.builtin "BaseException.__getattribute__")))
    (gg_InvalidRow : PySem.W.findIn K (.ref a_InvalidRow) "__getattr__" = some none)
    (nf_InvalidRow : PySem.W.findIn K (.ref a_InvalidRow) "word" = some none)
    (iC_InvalidRow : PySem.W.findIn K (.ref a_InvalidRow) "__init__" = some (some (.ref a_InvalidRow_init)))
    (tI_InvalidRow : PySem.W.typeIn K (.ref a_InvalidRow_init) = some (.type "function"))
    (kC_InvalidRow : PySem.W.keepIn K (.ref a_InvalidRow) = true)
    (eC_InvalidRow : PySem.W.subIn K (.ref a_InvalidRow) (.type "BaseException") = some true)
    (tC_InvalidRow : PySem.W.typeIn K (.ref a_InvalidRow) = some (.type "type"))
    (hC_InvalidRow : PySem.W.hasDictIn K a_InvalidRow = true)
    (ic_InvalidRow : PySem.W.isClsIn K a_InvalidRow = true)
    (sC_InvalidRow : PySem.W.subIn K (.ref a_InvalidRow) (.ref a_InvalidRow) = some true)
    (hA_InvalidRow : PySem.W.findIn K (.ref a_InvalidRow) "__class__" = some (some (.builtin "object.__class__")))
    (hn_InvalidRow : PySem.W.specialIn K (.builtin "object.__class__") "__get__" = some (some (.builtin "getset_descriptor.__get__")))
    (ht_InvalidRow : PySem.W.takesIn K (.builtin "object.__class__") = some true)
    (hm_InvalidRow : PySem.W.mroIn K a_InvalidRow (.type "object") = some true)
    (aK_FigureError : PySem.W.nsIn K mainGlobals "FigureError" = some (some (.ref a_FigureError)))
    (aK_InvalidText : PySem.W.nsIn K mainGlobals "InvalidText" = some (some (.ref a_InvalidText)))
    (kn_InvalidRow_FigureError : PySem.W.kitOne K (.ref a_InvalidRow) (.ref a_FigureError) = some true)
    (kn_InvalidRow_InvalidText : PySem.W.kitOne K (.ref a_InvalidRow) (.ref a_InvalidText) = some false)
    (aC_Put : PySem.W.nsIn K mainGlobals "Put" = some (some (.ref a_Put)))
    (c1_Put : PySem.W.plainGet K a_Put Str.empty = true)
    (c2_Put : PySem.W.hasDictIn K a_Put = true)
    (c3_Put : PySem.W.plainOver K a_Put = true)
    (c4_Put : PySem.W.findIn K (.ref a_Put) "__setattr__" = some (some (.builtin "object.__setattr__")))
    (c5_Put : PySem.W.findIn K (.ref a_Put) "__class__" = some (some (.builtin "object.__class__")))
    (c6_Put : PySem.W.specialIn K (.builtin "object.__class__") "__get__" = some (some (.builtin "getset_descriptor.__get__")))
    (c7_Put : PySem.W.takesIn K (.builtin "object.__class__") = some true)
    (c8_Put : PySem.W.mroIn K a_Put (.type "object") = some true)
    (c9_Put : PySem.W.findIn K (.ref a_Put) "__format__" = some (some (.builtin "object.__format__")))
    (cF_Put_name : PySem.W.findIn K (.ref a_Put) "name" = some none)
    (cF_Put_deed : PySem.W.findIn K (.ref a_Put) "deed" = some none)
    (cF_Put_given : PySem.W.findIn K (.ref a_Put) "given" = some none)
    (cm_Put_init : PySem.W.findIn K (.ref a_Put) "__init__" = some (some (.ref a_Put_init)))
    (cf_Put_init : PySem.W.isFn K (.ref a_Put_init) = true)
    (ck_Put : PySem.W.makesIn K a_Put = true)
    (cp_Put : PySem.W.keepIn K (.ref a_Put) = true)
    (aC_If : PySem.W.nsIn K mainGlobals "If" = some (some (.ref a_If)))
    (c1_If : PySem.W.plainGet K a_If Str.empty = true)
    (c2_If : PySem.W.hasDictIn K a_If = true)
    (c3_If : PySem.W.plainOver K a_If = true)
    (c4_If : PySem.W.findIn K (.ref a_If) "__setattr__" = some (some (.builtin "object.__setattr__")))
    (c5_If : PySem.W.findIn K (.ref a_If) "__class__" = some (some (.builtin "object.__class__")))
    (c6_If : PySem.W.specialIn K (.builtin "object.__class__") "__get__" = some (some (.builtin "getset_descriptor.__get__")))
    (c7_If : PySem.W.takesIn K (.builtin "object.__class__") = some true)
    (c8_If : PySem.W.mroIn K a_If (.type "object") = some true)
    (c9_If : PySem.W.findIn K (.ref a_If) "__format__" = some (some (.builtin "object.__format__")))
    (cF_If_test : PySem.W.findIn K (.ref a_If) "test" = some none)
    (cF_If_rows : PySem.W.findIn K (.ref a_If) "rows" = some none)
    (cF_If_others : PySem.W.findIn K (.ref a_If) "others" = some none)
    (cm_If_init : PySem.W.findIn K (.ref a_If) "__init__" = some (some (.ref a_If_init)))
    (cf_If_init : PySem.W.isFn K (.ref a_If_init) = true)
    (ck_If : PySem.W.makesIn K a_If = true)
    (cp_If : PySem.W.keepIn K (.ref a_If) = true)
    (aC_Times : PySem.W.nsIn K mainGlobals "Times" = some (some (.ref a_Times)))
    (c1_Times : PySem.W.plainGet K a_Times Str.empty = true)
    (c2_Times : PySem.W.hasDictIn K a_Times = true)
    (c3_Times : PySem.W.plainOver K a_Times = true)
    (c4_Times : PySem.W.findIn K (.ref a_Times) "__setattr__" = some (some (.builtin "object.__setattr__")))
    (c5_Times : PySem.W.findIn K (.ref a_Times) "__class__" = some (some (.builtin "object.__class__")))
    (c6_Times : PySem.W.specialIn K (.builtin "object.__class__") "__get__" = some (some (.builtin "getset_descriptor.__get__")))
    (c7_Times : PySem.W.takesIn K (.builtin "object.__class__") = some true)
    (c8_Times : PySem.W.mroIn K a_Times (.type "object") = some true)
    (c9_Times : PySem.W.findIn K (.ref a_Times) "__format__" = some (some (.builtin "object.__format__")))
    (cF_Times_count : PySem.W.findIn K (.ref a_Times) "count" = some none)
    (cF_Times_rows : PySem.W.findIn K (.ref a_Times) "rows" = some none)
    (cm_Times_init : PySem.W.findIn K (.ref a_Times) "__init__" = some (some (.ref a_Times_init)))
    (cf_Times_init : PySem.W.isFn K (.ref a_Times_init) = true)
    (ck_Times : PySem.W.makesIn K a_Times = true)
    (cp_Times : PySem.W.keepIn K (.ref a_Times) = true)
    (aC_Stop : PySem.W.nsIn K mainGlobals "Stop" = some (some (.ref a_Stop)))
    (c1_Stop : PySem.W.plainGet K a_Stop Str.empty = true)
    (c2_Stop : PySem.W.hasDictIn K a_Stop = true)
    (c3_Stop : PySem.W.plainOver K a_Stop = true)
    (c4_Stop : PySem.W.findIn K (.ref a_Stop) "__setattr__" = some (some (.builtin "object.__setattr__")))
    (c5_Stop : PySem.W.findIn K (.ref a_Stop) "__class__" = some (some (.builtin "object.__class__")))
    (c6_Stop : PySem.W.specialIn K (.builtin "object.__class__") "__get__" = some (some (.builtin "getset_descriptor.__get__")))
    (c7_Stop : PySem.W.takesIn K (.builtin "object.__class__") = some true)
    (c8_Stop : PySem.W.mroIn K a_Stop (.type "object") = some true)
    (c9_Stop : PySem.W.findIn K (.ref a_Stop) "__format__" = some (some (.builtin "object.__format__")))
    (ck_Stop : PySem.W.makesIn K a_Stop = true)
    (cp_Stop : PySem.W.keepIn K (.ref a_Stop) = true)
    (ci_Stop : PySem.W.findIn K (.ref a_Stop) "__init__" = some (some (.builtin "object.__init__")))
    (aC_Ask : PySem.W.nsIn K mainGlobals "Ask" = some (some (.ref a_Ask)))
    (c1_Ask : PySem.W.plainGet K a_Ask Str.empty = true)
    (c2_Ask : PySem.W.hasDictIn K a_Ask = true)
    (c3_Ask : PySem.W.plainOver K a_Ask = true)
    (c4_Ask : PySem.W.findIn K (.ref a_Ask) "__setattr__" = some (some (.builtin "object.__setattr__")))
    (c5_Ask : PySem.W.findIn K (.ref a_Ask) "__class__" = some (some (.builtin "object.__class__")))
    (c6_Ask : PySem.W.specialIn K (.builtin "object.__class__") "__get__" = some (some (.builtin "getset_descriptor.__get__")))
    (c7_Ask : PySem.W.takesIn K (.builtin "object.__class__") = some true)
    (c8_Ask : PySem.W.mroIn K a_Ask (.type "object") = some true)
    (c9_Ask : PySem.W.findIn K (.ref a_Ask) "__format__" = some (some (.builtin "object.__format__")))
    (cF_Ask_word : PySem.W.findIn K (.ref a_Ask) "word" = some none)
    (cF_Ask_names : PySem.W.findIn K (.ref a_Ask) "names" = some none)
    (cm_Ask_init : PySem.W.findIn K (.ref a_Ask) "__init__" = some (some (.ref a_Ask_init)))
    (cf_Ask_init : PySem.W.isFn K (.ref a_Ask_init) = true)
    (ck_Ask : PySem.W.makesIn K a_Ask = true)
    (cp_Ask : PySem.W.keepIn K (.ref a_Ask) = true)
    (aC_Not : PySem.W.nsIn K mainGlobals "Not" = some (some (.ref a_Not)))
    (c1_Not : PySem.W.plainGet K a_Not Str.empty = true)
    (c2_Not : PySem.W.hasDictIn K a_Not = true)
    (c3_Not : PySem.W.plainOver K a_Not = true)
    (c4_Not : PySem.W.findIn K (.ref a_Not) "__setattr__" = some (some (.builtin "object.__setattr__")))
    (c5_Not : PySem.W.findIn K (.ref a_Not) "__class__" = some (some (.builtin "object.__class__")))
    (c6_Not : PySem.W.specialIn K (.builtin "object.__class__") "__get__" = some (some (.builtin "getset_descriptor.__get__")))
    (c7_Not : PySem.W.takesIn K (.builtin "object.__class__") = some true)
    (c8_Not : PySem.W.mroIn K a_Not (.type "object") = some true)
    (c9_Not : PySem.W.findIn K (.ref a_Not) "__format__" = some (some (.builtin "object.__format__")))
    (cF_Not_test : PySem.W.findIn K (.ref a_Not) "test" = some none)
    (cm_Not_init : PySem.W.findIn K (.ref a_Not) "__init__" = some (some (.ref a_Not_init)))
    (cf_Not_init : PySem.W.isFn K (.ref a_Not_init) = true)
    (ck_Not : PySem.W.makesIn K a_Not = true)
    (cp_Not : PySem.W.keepIn K (.ref a_Not) = true)
    (aC_Row : PySem.W.nsIn K mainGlobals "Row" = some (some (.ref a_Row)))
    (c1_Row : PySem.W.plainGet K a_Row Str.empty = true)
    (c2_Row : PySem.W.hasDictIn K a_Row = true)
    (c3_Row : PySem.W.plainOver K a_Row = true)
    (c4_Row : PySem.W.findIn K (.ref a_Row) "__setattr__" = some (some (.builtin "object.__setattr__")))
    (c5_Row : PySem.W.findIn K (.ref a_Row) "__class__" = some (some (.builtin "object.__class__")))
    (c6_Row : PySem.W.specialIn K (.builtin "object.__class__") "__get__" = some (some (.builtin "getset_descriptor.__get__")))
    (c7_Row : PySem.W.takesIn K (.builtin "object.__class__") = some true)
    (c8_Row : PySem.W.mroIn K a_Row (.type "object") = some true)
    (c9_Row : PySem.W.findIn K (.ref a_Row) "__format__" = some (some (.builtin "object.__format__")))
    (aC_Test : PySem.W.nsIn K mainGlobals "Test" = some (some (.ref a_Test)))
    (c1_Test : PySem.W.plainGet K a_Test Str.empty = true)
    (c2_Test : PySem.W.hasDictIn K a_Test = true)
    (c3_Test : PySem.W.plainOver K a_Test = true)
    (c4_Test : PySem.W.findIn K (.ref a_Test) "__setattr__" = some (some (.builtin "object.__setattr__")))
    (c5_Test : PySem.W.findIn K (.ref a_Test) "__class__" = some (some (.builtin "object.__class__")))
    (c6_Test : PySem.W.specialIn K (.builtin "object.__class__") "__get__" = some (some (.builtin "getset_descriptor.__get__")))
    (c7_Test : PySem.W.takesIn K (.builtin "object.__class__") = some true)
    (c8_Test : PySem.W.mroIn K a_Test (.type "object") = some true)
    (c9_Test : PySem.W.findIn K (.ref a_Test) "__format__" = some (some (.builtin "object.__format__")))
    {tv_LETTERS : Tok}
    (aV_LETTERS : PySem.W.nsIn K mainGlobals "LETTERS" = some (some (.str "abcdefghijklmnopqrstuvwxyz" tv_LETTERS)))
    {tv_LONGEST_NAME : Tok}
    (aV_LONGEST_NAME : PySem.W.nsIn K mainGlobals "LONGEST_NAME" = some (some (.int 4 tv_LONGEST_NAME)))
    (aV_DEEDS : PySem.W.nsIn K mainGlobals "DEEDS" = some (some (.ref a_DEEDS)))
    (aV_WORDS : PySem.W.nsIn K mainGlobals "WORDS" = some (some (.ref a_WORDS)))
    (dW_DEEDS : He.dicW K a_DEEDS = some (He.keysIn w.params ["figures", "number", "base", "let", "+", "-", "*", "//", "rest", "**", "turned", "least", "greatest", "sum", "many", "root", "figure", "first", "last", "joined", "common", "lesser"]))
    {tI_DEEDS_0 : Addr} {odI_DEEDS_0 : Option Addr} {nnI_DEEDS_0 : Nat} {slI_DEEDS_0 : Array (Option Value)} {tkI_DEEDS_0_0 : Tok}
    (nI_DEEDS_0 : PySem.W.nsIn K a_DEEDS "figures" = some (some (.ref tI_DEEDS_0)))
    (lI_DEEDS_0 : K.lookup tI_DEEDS_0 = some ⟨.type "tuple", odI_DEEDS_0, .seq #[.str "number" tkI_DEEDS_0_0] nnI_DEEDS_0, slI_DEEDS_0⟩)
    {tI_DEEDS_1 : Addr} {odI_DEEDS_1 : Option Addr} {nnI_DEEDS_1 : Nat} {slI_DEEDS_1 : Array (Option Value)} {tkI_DEEDS_1_0 : Tok}
    (nI_DEEDS_1 : PySem.W.nsIn K a_DEEDS "number" = some (some (.ref tI_DEEDS_1)))
    (lI_DEEDS_1 : K.lookup tI_DEEDS_1 = some ⟨.type "tuple", odI_DEEDS_1, .seq #[.str "number" tkI_DEEDS_1_0] nnI_DEEDS_1, slI_DEEDS_1⟩)
    {tI_DEEDS_2 : Addr} {odI_DEEDS_2 : Option Addr} {nnI_DEEDS_2 : Nat} {slI_DEEDS_2 : Array (Option Value)}
    (nI_DEEDS_2 : PySem.W.nsIn K a_DEEDS "base" = some (some (.ref tI_DEEDS_2)))
    (lI_DEEDS_2 : K.lookup tI_DEEDS_2 = some ⟨.type "tuple", odI_DEEDS_2, .seq #[] nnI_DEEDS_2, slI_DEEDS_2⟩)
    {tI_DEEDS_3 : Addr} {odI_DEEDS_3 : Option Addr} {nnI_DEEDS_3 : Nat} {slI_DEEDS_3 : Array (Option Value)} {tkI_DEEDS_3_0 : Tok}
    (nI_DEEDS_3 : PySem.W.nsIn K a_DEEDS "let" = some (some (.ref tI_DEEDS_3)))
    (lI_DEEDS_3 : K.lookup tI_DEEDS_3 = some ⟨.type "tuple", odI_DEEDS_3, .seq #[.str "name" tkI_DEEDS_3_0] nnI_DEEDS_3, slI_DEEDS_3⟩)
    {tI_DEEDS_4 : Addr} {odI_DEEDS_4 : Option Addr} {nnI_DEEDS_4 : Nat} {slI_DEEDS_4 : Array (Option Value)} {tkI_DEEDS_4_0 : Tok} {tkI_DEEDS_4_1 : Tok}
    (nI_DEEDS_4 : PySem.W.nsIn K a_DEEDS "+" = some (some (.ref tI_DEEDS_4)))
    (lI_DEEDS_4 : K.lookup tI_DEEDS_4 = some ⟨.type "tuple", odI_DEEDS_4, .seq #[.str "name" tkI_DEEDS_4_0, .str "name" tkI_DEEDS_4_1] nnI_DEEDS_4, slI_DEEDS_4⟩)
    {tI_DEEDS_5 : Addr} {odI_DEEDS_5 : Option Addr} {nnI_DEEDS_5 : Nat} {slI_DEEDS_5 : Array (Option Value)} {tkI_DEEDS_5_0 : Tok} {tkI_DEEDS_5_1 : Tok}
    (nI_DEEDS_5 : PySem.W.nsIn K a_DEEDS "-" = some (some (.ref tI_DEEDS_5)))
    (lI_DEEDS_5 : K.lookup tI_DEEDS_5 = some ⟨.type "tuple", odI_DEEDS_5, .seq #[.str "name" tkI_DEEDS_5_0, .str "name" tkI_DEEDS_5_1] nnI_DEEDS_5, slI_DEEDS_5⟩)
    {tI_DEEDS_6 : Addr} {odI_DEEDS_6 : Option Addr} {nnI_DEEDS_6 : Nat} {slI_DEEDS_6 : Array (Option Value)} {tkI_DEEDS_6_0 : Tok} {tkI_DEEDS_6_1 : Tok}
    (nI_DEEDS_6 : PySem.W.nsIn K a_DEEDS "*" = some (some (.ref tI_DEEDS_6)))
    (lI_DEEDS_6 : K.lookup tI_DEEDS_6 = some ⟨.type "tuple", odI_DEEDS_6, .seq #[.str "name" tkI_DEEDS_6_0, .str "name" tkI_DEEDS_6_1] nnI_DEEDS_6, slI_DEEDS_6⟩)
    {tI_DEEDS_7 : Addr} {odI_DEEDS_7 : Option Addr} {nnI_DEEDS_7 : Nat} {slI_DEEDS_7 : Array (Option Value)} {tkI_DEEDS_7_0 : Tok} {tkI_DEEDS_7_1 : Tok}
    (nI_DEEDS_7 : PySem.W.nsIn K a_DEEDS "//" = some (some (.ref tI_DEEDS_7)))
    (lI_DEEDS_7 : K.lookup tI_DEEDS_7 = some ⟨.type "tuple", odI_DEEDS_7, .seq #[.str "name" tkI_DEEDS_7_0, .str "name" tkI_DEEDS_7_1] nnI_DEEDS_7, slI_DEEDS_7⟩)
    {tI_DEEDS_8 : Addr} {odI_DEEDS_8 : Option Addr} {nnI_DEEDS_8 : Nat} {slI_DEEDS_8 : Array (Option Value)} {tkI_DEEDS_8_0 : Tok} {tkI_DEEDS_8_1 : Tok}
    (nI_DEEDS_8 : PySem.W.nsIn K a_DEEDS "rest" = some (some (.ref tI_DEEDS_8)))
    (lI_DEEDS_8 : K.lookup tI_DEEDS_8 = some ⟨.type "tuple", odI_DEEDS_8, .seq #[.str "name" tkI_DEEDS_8_0, .str "name" tkI_DEEDS_8_1] nnI_DEEDS_8, slI_DEEDS_8⟩)
    {tI_DEEDS_9 : Addr} {odI_DEEDS_9 : Option Addr} {nnI_DEEDS_9 : Nat} {slI_DEEDS_9 : Array (Option Value)} {tkI_DEEDS_9_0 : Tok} {tkI_DEEDS_9_1 : Tok}
    (nI_DEEDS_9 : PySem.W.nsIn K a_DEEDS "**" = some (some (.ref tI_DEEDS_9)))
    (lI_DEEDS_9 : K.lookup tI_DEEDS_9 = some ⟨.type "tuple", odI_DEEDS_9, .seq #[.str "name" tkI_DEEDS_9_0, .str "number" tkI_DEEDS_9_1] nnI_DEEDS_9, slI_DEEDS_9⟩)
    {tI_DEEDS_10 : Addr} {odI_DEEDS_10 : Option Addr} {nnI_DEEDS_10 : Nat} {slI_DEEDS_10 : Array (Option Value)} {tkI_DEEDS_10_0 : Tok}
    (nI_DEEDS_10 : PySem.W.nsIn K a_DEEDS "turned" = some (some (.ref tI_DEEDS_10)))
    (lI_DEEDS_10 : K.lookup tI_DEEDS_10 = some ⟨.type "tuple", odI_DEEDS_10, .seq #[.str "name" tkI_DEEDS_10_0] nnI_DEEDS_10, slI_DEEDS_10⟩)
    {tI_DEEDS_11 : Addr} {odI_DEEDS_11 : Option Addr} {nnI_DEEDS_11 : Nat} {slI_DEEDS_11 : Array (Option Value)} {tkI_DEEDS_11_0 : Tok}
    (nI_DEEDS_11 : PySem.W.nsIn K a_DEEDS "least" = some (some (.ref tI_DEEDS_11)))
    (lI_DEEDS_11 : K.lookup tI_DEEDS_11 = some ⟨.type "tuple", odI_DEEDS_11, .seq #[.str "name" tkI_DEEDS_11_0] nnI_DEEDS_11, slI_DEEDS_11⟩)
    {tI_DEEDS_12 : Addr} {odI_DEEDS_12 : Option Addr} {nnI_DEEDS_12 : Nat} {slI_DEEDS_12 : Array (Option Value)} {tkI_DEEDS_12_0 : Tok}
    (nI_DEEDS_12 : PySem.W.nsIn K a_DEEDS "greatest" = some (some (.ref tI_DEEDS_12)))
    (lI_DEEDS_12 : K.lookup tI_DEEDS_12 = some ⟨.type "tuple", odI_DEEDS_12, .seq #[.str "name" tkI_DEEDS_12_0] nnI_DEEDS_12, slI_DEEDS_12⟩)
    {tI_DEEDS_13 : Addr} {odI_DEEDS_13 : Option Addr} {nnI_DEEDS_13 : Nat} {slI_DEEDS_13 : Array (Option Value)} {tkI_DEEDS_13_0 : Tok}
    (nI_DEEDS_13 : PySem.W.nsIn K a_DEEDS "sum" = some (some (.ref tI_DEEDS_13)))
    (lI_DEEDS_13 : K.lookup tI_DEEDS_13 = some ⟨.type "tuple", odI_DEEDS_13, .seq #[.str "name" tkI_DEEDS_13_0] nnI_DEEDS_13, slI_DEEDS_13⟩)
    {tI_DEEDS_14 : Addr} {odI_DEEDS_14 : Option Addr} {nnI_DEEDS_14 : Nat} {slI_DEEDS_14 : Array (Option Value)} {tkI_DEEDS_14_0 : Tok}
    (nI_DEEDS_14 : PySem.W.nsIn K a_DEEDS "many" = some (some (.ref tI_DEEDS_14)))
    (lI_DEEDS_14 : K.lookup tI_DEEDS_14 = some ⟨.type "tuple", odI_DEEDS_14, .seq #[.str "name" tkI_DEEDS_14_0] nnI_DEEDS_14, slI_DEEDS_14⟩)
    {tI_DEEDS_15 : Addr} {odI_DEEDS_15 : Option Addr} {nnI_DEEDS_15 : Nat} {slI_DEEDS_15 : Array (Option Value)} {tkI_DEEDS_15_0 : Tok}
    (nI_DEEDS_15 : PySem.W.nsIn K a_DEEDS "root" = some (some (.ref tI_DEEDS_15)))
    (lI_DEEDS_15 : K.lookup tI_DEEDS_15 = some ⟨.type "tuple", odI_DEEDS_15, .seq #[.str "name" tkI_DEEDS_15_0] nnI_DEEDS_15, slI_DEEDS_15⟩)
    {tI_DEEDS_16 : Addr} {odI_DEEDS_16 : Option Addr} {nnI_DEEDS_16 : Nat} {slI_DEEDS_16 : Array (Option Value)} {tkI_DEEDS_16_0 : Tok} {tkI_DEEDS_16_1 : Tok}
    (nI_DEEDS_16 : PySem.W.nsIn K a_DEEDS "figure" = some (some (.ref tI_DEEDS_16)))
    (lI_DEEDS_16 : K.lookup tI_DEEDS_16 = some ⟨.type "tuple", odI_DEEDS_16, .seq #[.str "number" tkI_DEEDS_16_0, .str "name" tkI_DEEDS_16_1] nnI_DEEDS_16, slI_DEEDS_16⟩)
    {tI_DEEDS_17 : Addr} {odI_DEEDS_17 : Option Addr} {nnI_DEEDS_17 : Nat} {slI_DEEDS_17 : Array (Option Value)} {tkI_DEEDS_17_0 : Tok} {tkI_DEEDS_17_1 : Tok}
    (nI_DEEDS_17 : PySem.W.nsIn K a_DEEDS "first" = some (some (.ref tI_DEEDS_17)))
    (lI_DEEDS_17 : K.lookup tI_DEEDS_17 = some ⟨.type "tuple", odI_DEEDS_17, .seq #[.str "number" tkI_DEEDS_17_0, .str "name" tkI_DEEDS_17_1] nnI_DEEDS_17, slI_DEEDS_17⟩)
    {tI_DEEDS_18 : Addr} {odI_DEEDS_18 : Option Addr} {nnI_DEEDS_18 : Nat} {slI_DEEDS_18 : Array (Option Value)} {tkI_DEEDS_18_0 : Tok} {tkI_DEEDS_18_1 : Tok}
    (nI_DEEDS_18 : PySem.W.nsIn K a_DEEDS "last" = some (some (.ref tI_DEEDS_18)))
    (lI_DEEDS_18 : K.lookup tI_DEEDS_18 = some ⟨.type "tuple", odI_DEEDS_18, .seq #[.str "number" tkI_DEEDS_18_0, .str "name" tkI_DEEDS_18_1] nnI_DEEDS_18, slI_DEEDS_18⟩)
    {tI_DEEDS_19 : Addr} {odI_DEEDS_19 : Option Addr} {nnI_DEEDS_19 : Nat} {slI_DEEDS_19 : Array (Option Value)} {tkI_DEEDS_19_0 : Tok} {tkI_DEEDS_19_1 : Tok}
    (nI_DEEDS_19 : PySem.W.nsIn K a_DEEDS "joined" = some (some (.ref tI_DEEDS_19)))
    (lI_DEEDS_19 : K.lookup tI_DEEDS_19 = some ⟨.type "tuple", odI_DEEDS_19, .seq #[.str "name" tkI_DEEDS_19_0, .str "name" tkI_DEEDS_19_1] nnI_DEEDS_19, slI_DEEDS_19⟩)
    {tI_DEEDS_20 : Addr} {odI_DEEDS_20 : Option Addr} {nnI_DEEDS_20 : Nat} {slI_DEEDS_20 : Array (Option Value)} {tkI_DEEDS_20_0 : Tok} {tkI_DEEDS_20_1 : Tok}
    (nI_DEEDS_20 : PySem.W.nsIn K a_DEEDS "common" = some (some (.ref tI_DEEDS_20)))
    (lI_DEEDS_20 : K.lookup tI_DEEDS_20 = some ⟨.type "tuple", odI_DEEDS_20, .seq #[.str "name" tkI_DEEDS_20_0, .str "name" tkI_DEEDS_20_1] nnI_DEEDS_20, slI_DEEDS_20⟩)
    {tI_DEEDS_21 : Addr} {odI_DEEDS_21 : Option Addr} {nnI_DEEDS_21 : Nat} {slI_DEEDS_21 : Array (Option Value)} {tkI_DEEDS_21_0 : Tok} {tkI_DEEDS_21_1 : Tok}
    (nI_DEEDS_21 : PySem.W.nsIn K a_DEEDS "lesser" = some (some (.ref tI_DEEDS_21)))
    (lI_DEEDS_21 : K.lookup tI_DEEDS_21 = some ⟨.type "tuple", odI_DEEDS_21, .seq #[.str "name" tkI_DEEDS_21_0, .str "name" tkI_DEEDS_21_1] nnI_DEEDS_21, slI_DEEDS_21⟩)
    (dW_WORDS : He.dicW K a_WORDS = some (He.keysIn w.params ["same", "less", "divides", "mirrored", "unlike"]))
    {tI_WORDS_0 : Tok}
    (nI_WORDS_0 : PySem.W.nsIn K a_WORDS "same" = some (some (.int 2 tI_WORDS_0)))
    {tI_WORDS_1 : Tok}
    (nI_WORDS_1 : PySem.W.nsIn K a_WORDS "less" = some (some (.int 2 tI_WORDS_1)))
    {tI_WORDS_2 : Tok}
    (nI_WORDS_2 : PySem.W.nsIn K a_WORDS "divides" = some (some (.int 2 tI_WORDS_2)))
    {tI_WORDS_3 : Tok}
    (nI_WORDS_3 : PySem.W.nsIn K a_WORDS "mirrored" = some (some (.int 1 tI_WORDS_3)))
    {tI_WORDS_4 : Tok}
    (nI_WORDS_4 : PySem.W.nsIn K a_WORDS "unlike" = some (some (.int 1 tI_WORDS_4)))
    (kits : kitO K ⟨a_Put, a_If, a_Times, a_Stop, a_Ask, a_Not⟩ a_Row a_Test = true)
    {od_is_integer an_is_integer : Option Addr} {sl_is_integer : Array (Option Value)} {oc_is_integer kV_is_integer dc_is_integer pm_is_integer cd_is_integer ct_is_integer : Value}
    (ais_integer : PySem.W.nsIn K mainGlobals "is_integer" = some (some (.ref a_is_integer)))
    (lis_integer : K.lookup a_is_integer = some ⟨oc_is_integer, od_is_integer, .func (PySem.W.fnOf "is_integer" "is_integer" (defArgs s_is_integer) (defBody s_is_integer) (defScope s_is_integer) .none kV_is_integer dc_is_integer pm_is_integer an_is_integer cd_is_integer ct_is_integer), sl_is_integer⟩) (cis_integer : PySem.W.codeIn K cd_is_integer "is_integer" = true) (kis_integer : PySem.W.keepIn K (.ref a_is_integer) = true)
    {od_is_number an_is_number : Option Addr} {sl_is_number : Array (Option Value)} {oc_is_number kV_is_number dc_is_number pm_is_number cd_is_number ct_is_number : Value}
    (ais_number : PySem.W.nsIn K mainGlobals "is_number" = some (some (.ref a_is_number)))
    (lis_number : K.lookup a_is_number = some ⟨oc_is_number, od_is_number, .func (PySem.W.fnOf "is_number" "is_number" (defArgs s_is_number) (defBody s_is_number) (defScope s_is_number) .none kV_is_number dc_is_number pm_is_number an_is_number cd_is_number ct_is_number), sl_is_number⟩) (cis_number : PySem.W.codeIn K cd_is_number "is_number" = true) (kis_number : PySem.W.keepIn K (.ref a_is_number) = true)
    {od_is_name an_is_name : Option Addr} {sl_is_name : Array (Option Value)} {oc_is_name kV_is_name dc_is_name pm_is_name cd_is_name ct_is_name : Value}
    (ais_name : PySem.W.nsIn K mainGlobals "is_name" = some (some (.ref a_is_name)))
    (lis_name : K.lookup a_is_name = some ⟨oc_is_name, od_is_name, .func (PySem.W.fnOf "is_name" "is_name" (defArgs s_is_name) (defBody s_is_name) (defScope s_is_name) .none kV_is_name dc_is_name pm_is_name an_is_name cd_is_name ct_is_name), sl_is_name⟩) (cis_name : PySem.W.codeIn K cd_is_name "is_name" = true) (kis_name : PySem.W.keepIn K (.ref a_is_name) = true)
    {od_are_rows an_are_rows : Option Addr} {sl_are_rows : Array (Option Value)} {oc_are_rows kV_are_rows dc_are_rows pm_are_rows cd_are_rows ct_are_rows : Value}
    (aare_rows : PySem.W.nsIn K mainGlobals "are_rows" = some (some (.ref a_are_rows)))
    (lare_rows : K.lookup a_are_rows = some ⟨oc_are_rows, od_are_rows, .func (PySem.W.fnOf "are_rows" "are_rows" (defArgs s_are_rows) (defBody s_are_rows) (defScope s_are_rows) .none kV_are_rows dc_are_rows pm_are_rows an_are_rows cd_are_rows ct_are_rows), sl_are_rows⟩) (care_rows : PySem.W.codeIn K cd_are_rows "are_rows" = true) (kare_rows : PySem.W.keepIn K (.ref a_are_rows) = true)
    {od_needed an_needed : Option Addr} {sl_needed : Array (Option Value)} {oc_needed kV_needed dc_needed pm_needed cd_needed ct_needed : Value}
    (aneeded : PySem.W.nsIn K mainGlobals "needed" = some (some (.ref a_needed)))
    (lneeded : K.lookup a_needed = some ⟨oc_needed, od_needed, .func (PySem.W.fnOf "needed" "needed" (defArgs s_needed) (defBody s_needed) (defScope s_needed) .none kV_needed dc_needed pm_needed an_needed cd_needed ct_needed), sl_needed⟩) (cneeded : PySem.W.codeIn K cd_needed "needed" = true) (kneeded : PySem.W.keepIn K (.ref a_needed) = true)
    {od_fits an_fits : Option Addr} {sl_fits : Array (Option Value)} {oc_fits kV_fits dc_fits pm_fits cd_fits ct_fits : Value}
    (afits : PySem.W.nsIn K mainGlobals "_fits" = some (some (.ref a_fits)))
    (lfits : K.lookup a_fits = some ⟨oc_fits, od_fits, .func (PySem.W.fnOf "_fits" "_fits" (defArgs s_fits) (defBody s_fits) (defScope s_fits) .none kV_fits dc_fits pm_fits an_fits cd_fits ct_fits), sl_fits⟩) (cfits : PySem.W.codeIn K cd_fits "_fits" = true) (kfits : PySem.W.keepIn K (.ref a_fits) = true)
    {od_is_of an_is_of : Option Addr} {sl_is_of : Array (Option Value)} {oc_is_of kV_is_of dc_is_of pm_is_of cd_is_of ct_is_of : Value}
    (ais_of : PySem.W.nsIn K mainGlobals "_is_of" = some (some (.ref a_is_of)))
    (lis_of : K.lookup a_is_of = some ⟨oc_is_of, od_is_of, .func (PySem.W.fnOf "_is_of" "_is_of" (defArgs s_is_of) (defBody s_is_of) (defScope s_is_of) .none kV_is_of dc_is_of pm_is_of an_is_of cd_is_of ct_is_of), sl_is_of⟩) (cis_of : PySem.W.codeIn K cd_is_of "_is_of" = true) (kis_of : PySem.W.keepIn K (.ref a_is_of) = true)
    {od_law_deal an_law_deal : Option Addr} {sl_law_deal : Array (Option Value)} {oc_law_deal kV_law_deal dc_law_deal pm_law_deal cd_law_deal ct_law_deal : Value}
    (alaw_deal : PySem.W.nsIn K mainGlobals "_law_deal" = some (some (.ref a_law_deal)))
    (llaw_deal : K.lookup a_law_deal = some ⟨oc_law_deal, od_law_deal, .func (PySem.W.fnOf "_law_deal" "_law_deal" (defArgs s_law_deal) (defBody s_law_deal) (defScope s_law_deal) .none kV_law_deal dc_law_deal pm_law_deal an_law_deal cd_law_deal ct_law_deal), sl_law_deal⟩) (claw_deal : PySem.W.codeIn K cd_law_deal "_law_deal" = true) (klaw_deal : PySem.W.keepIn K (.ref a_law_deal) = true)
    {od_law_draw an_law_draw : Option Addr} {sl_law_draw : Array (Option Value)} {oc_law_draw kV_law_draw dc_law_draw pm_law_draw cd_law_draw ct_law_draw : Value}
    (alaw_draw : PySem.W.nsIn K mainGlobals "_law_draw" = some (some (.ref a_law_draw)))
    (llaw_draw : K.lookup a_law_draw = some ⟨oc_law_draw, od_law_draw, .func (PySem.W.fnOf "_law_draw" "_law_draw" (defArgs s_law_draw) (defBody s_law_draw) (defScope s_law_draw) .none kV_law_draw dc_law_draw pm_law_draw an_law_draw cd_law_draw ct_law_draw), sl_law_draw⟩) (claw_draw : PySem.W.codeIn K cd_law_draw "_law_draw" = true) (klaw_draw : PySem.W.keepIn K (.ref a_law_draw) = true)
    {od_law_pick an_law_pick : Option Addr} {sl_law_pick : Array (Option Value)} {oc_law_pick kV_law_pick dc_law_pick pm_law_pick cd_law_pick ct_law_pick : Value}
    (alaw_pick : PySem.W.nsIn K mainGlobals "_law_pick" = some (some (.ref a_law_pick)))
    (llaw_pick : K.lookup a_law_pick = some ⟨oc_law_pick, od_law_pick, .func (PySem.W.fnOf "_law_pick" "_law_pick" (defArgs s_law_pick) (defBody s_law_pick) (defScope s_law_pick) .none kV_law_pick dc_law_pick pm_law_pick an_law_pick cd_law_pick ct_law_pick), sl_law_pick⟩) (claw_pick : PySem.W.codeIn K cd_law_pick "_law_pick" = true) (klaw_pick : PySem.W.keepIn K (.ref a_law_pick) = true)
    {od_law_words an_law_words : Option Addr} {sl_law_words : Array (Option Value)} {oc_law_words kV_law_words dc_law_words pm_law_words cd_law_words ct_law_words : Value}
    (alaw_words : PySem.W.nsIn K mainGlobals "_law_words" = some (some (.ref a_law_words)))
    (llaw_words : K.lookup a_law_words = some ⟨oc_law_words, od_law_words, .func (PySem.W.fnOf "_law_words" "_law_words" (defArgs s_law_words) (defBody s_law_words) (defScope s_law_words) .none kV_law_words dc_law_words pm_law_words an_law_words cd_law_words ct_law_words), sl_law_words⟩) (claw_words : PySem.W.codeIn K cd_law_words "_law_words" = true) (klaw_words : PySem.W.keepIn K (.ref a_law_words) = true)
    {od_law_kinds an_law_kinds : Option Addr} {sl_law_kinds : Array (Option Value)} {oc_law_kinds kV_law_kinds dc_law_kinds pm_law_kinds cd_law_kinds ct_law_kinds : Value}
    (alaw_kinds : PySem.W.nsIn K mainGlobals "_law_kinds" = some (some (.ref a_law_kinds)))
    (llaw_kinds : K.lookup a_law_kinds = some ⟨oc_law_kinds, od_law_kinds, .func (PySem.W.fnOf "_law_kinds" "_law_kinds" (defArgs s_law_kinds) (defBody s_law_kinds) (defScope s_law_kinds) .none kV_law_kinds dc_law_kinds pm_law_kinds an_law_kinds cd_law_kinds ct_law_kinds), sl_law_kinds⟩) (claw_kinds : PySem.W.codeIn K cd_law_kinds "_law_kinds" = true) (klaw_kinds : PySem.W.keepIn K (.ref a_law_kinds) = true)
    {od_law_put an_law_put : Option Addr} {sl_law_put : Array (Option Value)} {oc_law_put kV_law_put dc_law_put pm_law_put cd_law_put ct_law_put : Value}
    (alaw_put : PySem.W.nsIn K mainGlobals "_law_put" = some (some (.ref a_law_put)))
    (llaw_put : K.lookup a_law_put = some ⟨oc_law_put, od_law_put, .func (PySem.W.fnOf "_law_put" "_law_put" (defArgs s_law_put) (defBody s_law_put) (defScope s_law_put) .none kV_law_put dc_law_put pm_law_put an_law_put cd_law_put ct_law_put), sl_law_put⟩) (claw_put : PySem.W.codeIn K cd_law_put "_law_put" = true) (klaw_put : PySem.W.keepIn K (.ref a_law_put) = true)
    {od_law_any an_law_any : Option Addr} {sl_law_any : Array (Option Value)} {oc_law_any kV_law_any dc_law_any pm_law_any cd_law_any ct_law_any : Value}
    (alaw_any : PySem.W.nsIn K mainGlobals "_law_any" = some (some (.ref a_law_any)))
    (llaw_any : K.lookup a_law_any = some ⟨oc_law_any, od_law_any, .func (PySem.W.fnOf "_law_any" "_law_any" (defArgs s_law_any) (defBody s_law_any) (defScope s_law_any) .none kV_law_any dc_law_any pm_law_any an_law_any cd_law_any ct_law_any), sl_law_any⟩) (claw_any : PySem.W.codeIn K cd_law_any "_law_any" = true) (klaw_any : PySem.W.keepIn K (.ref a_law_any) = true)
    {od_law_is_name an_law_is_name : Option Addr} {sl_law_is_name : Array (Option Value)} {oc_law_is_name kV_law_is_name dc_law_is_name pm_law_is_name cd_law_is_name ct_law_is_name : Value}
    (alaw_is_name : PySem.W.nsIn K mainGlobals "_law_is_name" = some (some (.ref a_law_is_name)))
    (llaw_is_name : K.lookup a_law_is_name = some ⟨oc_law_is_name, od_law_is_name, .func (PySem.W.fnOf "_law_is_name" "_law_is_name" (defArgs s_law_is_name) (defBody s_law_is_name) (defScope s_law_is_name) .none kV_law_is_name dc_law_is_name pm_law_is_name an_law_is_name cd_law_is_name ct_law_is_name), sl_law_is_name⟩) (claw_is_name : PySem.W.codeIn K cd_law_is_name "_law_is_name" = true) (klaw_is_name : PySem.W.keepIn K (.ref a_law_is_name) = true)
    {od_law_is_number an_law_is_number : Option Addr} {sl_law_is_number : Array (Option Value)} {oc_law_is_number kV_law_is_number dc_law_is_number pm_law_is_number cd_law_is_number ct_law_is_number : Value}
    (alaw_is_number : PySem.W.nsIn K mainGlobals "_law_is_number" = some (some (.ref a_law_is_number)))
    (llaw_is_number : K.lookup a_law_is_number = some ⟨oc_law_is_number, od_law_is_number, .func (PySem.W.fnOf "_law_is_number" "_law_is_number" (defArgs s_law_is_number) (defBody s_law_is_number) (defScope s_law_is_number) .none kV_law_is_number dc_law_is_number pm_law_is_number an_law_is_number cd_law_is_number ct_law_is_number), sl_law_is_number⟩) (claw_is_number : PySem.W.codeIn K cd_law_is_number "_law_is_number" = true) (klaw_is_number : PySem.W.keepIn K (.ref a_law_is_number) = true)
    {od_law_are_rows an_law_are_rows : Option Addr} {sl_law_are_rows : Array (Option Value)} {oc_law_are_rows kV_law_are_rows dc_law_are_rows pm_law_are_rows cd_law_are_rows ct_law_are_rows : Value}
    (alaw_are_rows : PySem.W.nsIn K mainGlobals "_law_are_rows" = some (some (.ref a_law_are_rows)))
    (llaw_are_rows : K.lookup a_law_are_rows = some ⟨oc_law_are_rows, od_law_are_rows, .func (PySem.W.fnOf "_law_are_rows" "_law_are_rows" (defArgs s_law_are_rows) (defBody s_law_are_rows) (defScope s_law_are_rows) .none kV_law_are_rows dc_law_are_rows pm_law_are_rows an_law_are_rows cd_law_are_rows ct_law_are_rows), sl_law_are_rows⟩) (claw_are_rows : PySem.W.codeIn K cd_law_are_rows "_law_are_rows" = true) (klaw_are_rows : PySem.W.keepIn K (.ref a_law_are_rows) = true)
    {od_law_put_due an_law_put_due : Option Addr} {sl_law_put_due : Array (Option Value)} {oc_law_put_due kV_law_put_due dc_law_put_due pm_law_put_due cd_law_put_due ct_law_put_due : Value}
    (alaw_put_due : PySem.W.nsIn K mainGlobals "_law_put_due" = some (some (.ref a_law_put_due)))
    (llaw_put_due : K.lookup a_law_put_due = some ⟨oc_law_put_due, od_law_put_due, .func (PySem.W.fnOf "_law_put_due" "_law_put_due" (defArgs s_law_put_due) (defBody s_law_put_due) (defScope s_law_put_due) .none kV_law_put_due dc_law_put_due pm_law_put_due an_law_put_due cd_law_put_due ct_law_put_due), sl_law_put_due⟩) (claw_put_due : PySem.W.codeIn K cd_law_put_due "_law_put_due" = true) (klaw_put_due : PySem.W.keepIn K (.ref a_law_put_due) = true)
    {od_law_ask_due an_law_ask_due : Option Addr} {sl_law_ask_due : Array (Option Value)} {oc_law_ask_due kV_law_ask_due dc_law_ask_due pm_law_ask_due cd_law_ask_due ct_law_ask_due : Value}
    (alaw_ask_due : PySem.W.nsIn K mainGlobals "_law_ask_due" = some (some (.ref a_law_ask_due)))
    (llaw_ask_due : K.lookup a_law_ask_due = some ⟨oc_law_ask_due, od_law_ask_due, .func (PySem.W.fnOf "_law_ask_due" "_law_ask_due" (defArgs s_law_ask_due) (defBody s_law_ask_due) (defScope s_law_ask_due) .none kV_law_ask_due dc_law_ask_due pm_law_ask_due an_law_ask_due cd_law_ask_due ct_law_ask_due), sl_law_ask_due⟩) (claw_ask_due : PySem.W.codeIn K cd_law_ask_due "_law_ask_due" = true) (klaw_ask_due : PySem.W.keepIn K (.ref a_law_ask_due) = true)
    {od_law_made an_law_made : Option Addr} {sl_law_made : Array (Option Value)} {oc_law_made kV_law_made dc_law_made pm_law_made cd_law_made ct_law_made : Value}
    (alaw_made : PySem.W.nsIn K mainGlobals "_law_made" = some (some (.ref a_law_made)))
    (llaw_made : K.lookup a_law_made = some ⟨oc_law_made, od_law_made, .func (PySem.W.fnOf "_law_made" "_law_made" (defArgs s_law_made) (defBody s_law_made) (defScope s_law_made) .none kV_law_made dc_law_made pm_law_made an_law_made cd_law_made ct_law_made), sl_law_made⟩) (claw_made : PySem.W.codeIn K cd_law_made "_law_made" = true) (klaw_made : PySem.W.keepIn K (.ref a_law_made) = true)
    {od_law_due an_law_due : Option Addr} {sl_law_due : Array (Option Value)} {oc_law_due kV_law_due dc_law_due pm_law_due cd_law_due ct_law_due : Value}
    (alaw_due : PySem.W.nsIn K mainGlobals "_law_due" = some (some (.ref a_law_due)))
    (llaw_due : K.lookup a_law_due = some ⟨oc_law_due, od_law_due, .func (PySem.W.fnOf "_law_due" "_law_due" (defArgs s_law_due) (defBody s_law_due) (defScope s_law_due) .none kV_law_due dc_law_due pm_law_due an_law_due cd_law_due ct_law_due), sl_law_due⟩) (claw_due : PySem.W.codeIn K cd_law_due "_law_due" = true) (klaw_due : PySem.W.keepIn K (.ref a_law_due) = true)
    {od_law_told an_law_told : Option Addr} {sl_law_told : Array (Option Value)} {oc_law_told kV_law_told dc_law_told pm_law_told cd_law_told ct_law_told : Value}
    (alaw_told : PySem.W.nsIn K mainGlobals "_law_told" = some (some (.ref a_law_told)))
    (llaw_told : K.lookup a_law_told = some ⟨oc_law_told, od_law_told, .func (PySem.W.fnOf "_law_told" "_law_told" (defArgs s_law_told) (defBody s_law_told) (defScope s_law_told) .none kV_law_told dc_law_told pm_law_told an_law_told cd_law_told ct_law_told), sl_law_told⟩) (claw_told : PySem.W.codeIn K cd_law_told "_law_told" = true) (klaw_told : PySem.W.keepIn K (.ref a_law_told) = true)
    {od_law_is_beyond an_law_is_beyond : Option Addr} {sl_law_is_beyond : Array (Option Value)} {oc_law_is_beyond kV_law_is_beyond dc_law_is_beyond pm_law_is_beyond cd_law_is_beyond ct_law_is_beyond : Value}
    (alaw_is_beyond : PySem.W.nsIn K mainGlobals "_law_is_beyond" = some (some (.ref a_law_is_beyond)))
    (llaw_is_beyond : K.lookup a_law_is_beyond = some ⟨oc_law_is_beyond, od_law_is_beyond, .func (PySem.W.fnOf "_law_is_beyond" "_law_is_beyond" (defArgs s_law_is_beyond) (defBody s_law_is_beyond) (defScope s_law_is_beyond) .none kV_law_is_beyond dc_law_is_beyond pm_law_is_beyond an_law_is_beyond cd_law_is_beyond ct_law_is_beyond), sl_law_is_beyond⟩) (claw_is_beyond : PySem.W.codeIn K cd_law_is_beyond "_law_is_beyond" = true) (klaw_is_beyond : PySem.W.keepIn K (.ref a_law_is_beyond) = true)
    {od_law an_law : Option Addr} {sl_law : Array (Option Value)} {oc_law kV_law dc_law pm_law cd_law ct_law : Value}
    (alaw : PySem.W.nsIn K mainGlobals "law" = some (some (.ref a_law)))
    (llaw : K.lookup a_law = some ⟨oc_law, od_law, .func (PySem.W.fnOf "law" "law" (defArgs s_law) (defBody s_law) (defScope s_law) .none kV_law dc_law pm_law an_law cd_law ct_law), sl_law⟩) (claw : PySem.W.codeIn K cd_law "law" = true) (klaw : PySem.W.keepIn K (.ref a_law) = true)
    {od_Put_init an_Put_init : Option Addr} {sl_Put_init : Array (Option Value)} {oc_Put_init kV_Put_init dc_Put_init pm_Put_init cd_Put_init ct_Put_init : Value}
    (lPut_init : K.lookup a_Put_init = some ⟨oc_Put_init, od_Put_init, .func (PySem.W.fnOf "__init__" "Put.__init__" (defArgs s_Put_init) (defBody s_Put_init) (defScope s_Put_init) .none kV_Put_init dc_Put_init pm_Put_init an_Put_init cd_Put_init ct_Put_init), sl_Put_init⟩) (cPut_init : PySem.W.codeIn K cd_Put_init "Put.__init__" = true) (kPut_init : PySem.W.keepIn K (.ref a_Put_init) = true)
    {T_If_init : Addr}
    {od_If_init an_If_init : Option Addr} {sl_If_init : Array (Option Value)} {oc_If_init kV_If_init dc_If_init pm_If_init cd_If_init ct_If_init : Value}
    (lIf_init : K.lookup a_If_init = some ⟨oc_If_init, od_If_init, .func (PySem.W.fnOf "__init__" "If.__init__" (defArgs s_If_init) (defBody s_If_init) (defScope s_If_init) (.ref T_If_init) kV_If_init dc_If_init pm_If_init an_If_init cd_If_init ct_If_init), sl_If_init⟩) (cIf_init : PySem.W.codeIn K cd_If_init "If.__init__" = true) (kIf_init : PySem.W.keepIn K (.ref a_If_init) = true)
    {tc_If_init : Value} {td_If_init : Option Addr} {tn_If_init : Nat} {ts_If_init : Array (Option Value)} (lT_If_init : K.lookup T_If_init = some ⟨tc_If_init, td_If_init, .seq #[.ref a_If_init_d0] tn_If_init, ts_If_init⟩) {ed_If_init : Option Addr} {en_If_init : Nat} {es_If_init : Array (Option Value)} (l0_If_init : K.lookup a_If_init_d0 = some ⟨.type "tuple", ed_If_init, .seq #[] en_If_init, es_If_init⟩)
    {od_Times_init an_Times_init : Option Addr} {sl_Times_init : Array (Option Value)} {oc_Times_init kV_Times_init dc_Times_init pm_Times_init cd_Times_init ct_Times_init : Value}
    (lTimes_init : K.lookup a_Times_init = some ⟨oc_Times_init, od_Times_init, .func (PySem.W.fnOf "__init__" "Times.__init__" (defArgs s_Times_init) (defBody s_Times_init) (defScope s_Times_init) .none kV_Times_init dc_Times_init pm_Times_init an_Times_init cd_Times_init ct_Times_init), sl_Times_init⟩) (cTimes_init : PySem.W.codeIn K cd_Times_init "Times.__init__" = true) (kTimes_init : PySem.W.keepIn K (.ref a_Times_init) = true)
    {od_Ask_init an_Ask_init : Option Addr} {sl_Ask_init : Array (Option Value)} {oc_Ask_init kV_Ask_init dc_Ask_init pm_Ask_init cd_Ask_init ct_Ask_init : Value}
    (lAsk_init : K.lookup a_Ask_init = some ⟨oc_Ask_init, od_Ask_init, .func (PySem.W.fnOf "__init__" "Ask.__init__" (defArgs s_Ask_init) (defBody s_Ask_init) (defScope s_Ask_init) .none kV_Ask_init dc_Ask_init pm_Ask_init an_Ask_init cd_Ask_init ct_Ask_init), sl_Ask_init⟩) (cAsk_init : PySem.W.codeIn K cd_Ask_init "Ask.__init__" = true) (kAsk_init : PySem.W.keepIn K (.ref a_Ask_init) = true)
    {od_Not_init an_Not_init : Option Addr} {sl_Not_init : Array (Option Value)} {oc_Not_init kV_Not_init dc_Not_init pm_Not_init cd_Not_init ct_Not_init : Value}
    (lNot_init : K.lookup a_Not_init = some ⟨oc_Not_init, od_Not_init, .func (PySem.W.fnOf "__init__" "Not.__init__" (defArgs s_Not_init) (defBody s_Not_init) (defScope s_Not_init) .none kV_Not_init dc_Not_init pm_Not_init an_Not_init cd_Not_init ct_Not_init), sl_Not_init⟩) (cNot_init : PySem.W.codeIn K cd_Not_init "Not.__init__" = true) (kNot_init : PySem.W.keepIn K (.ref a_Not_init) = true)
    {od_InvalidRow_init an_InvalidRow_init : Option Addr} {sl_InvalidRow_init : Array (Option Value)} {oc_InvalidRow_init kV_InvalidRow_init dc_InvalidRow_init pm_InvalidRow_init cd_InvalidRow_init ct_InvalidRow_init : Value}
    (lInvalidRow_init : K.lookup a_InvalidRow_init = some ⟨oc_InvalidRow_init, od_InvalidRow_init, .func (PySem.W.fnOf "__init__" "InvalidRow.__init__" (defArgs s_InvalidRow_init) (defBody s_InvalidRow_init) (defScope s_InvalidRow_init) .none kV_InvalidRow_init dc_InvalidRow_init pm_InvalidRow_init an_InvalidRow_init cd_InvalidRow_init ct_InvalidRow_init), sl_InvalidRow_init⟩) (cInvalidRow_init : PySem.W.codeIn K cd_InvalidRow_init "InvalidRow.__init__" = true) (kInvalidRow_init : PySem.W.keepIn K (.ref a_InvalidRow_init) = true)
    (zabs : PySem.W.nsIn K mainGlobals "abs" = some none)
    (zall : PySem.W.nsIn K mainGlobals "all" = some none)
    (zbool : PySem.W.nsIn K mainGlobals "bool" = some none)
    (zenumerate : PySem.W.nsIn K mainGlobals "enumerate" = some none)
    (zint : PySem.W.nsIn K mainGlobals "int" = some none)
    (zisinstance : PySem.W.nsIn K mainGlobals "isinstance" = some none)
    (zlen : PySem.W.nsIn K mainGlobals "len" = some none)
    (zlist : PySem.W.nsIn K mainGlobals "list" = some none)
    (zmax : PySem.W.nsIn K mainGlobals "max" = some none)
    (zrange : PySem.W.nsIn K mainGlobals "range" = some none)
    (zsorted : PySem.W.nsIn K mainGlobals "sorted" = some none)
    (zstr : PySem.W.nsIn K mainGlobals "str" = some none)
    (ztuple : PySem.W.nsIn K mainGlobals "tuple" = some none)
    (zzip : PySem.W.nsIn K mainGlobals "zip" = some none)
    : ∃ fd : FuncData, (∀ (s : Shared) (v : Value), BindsTo s fd ⟨[v], []⟩ [("_law_script", v)]) ∧ ∀ base : Heap, K.In base → base.Ns mainGlobals mg → FnOk l.prog w K mg base CX0 30 fa fd ["_law_script"] (sp_law K) := by
  have e := hfa.symm.trans (PySem.W.mg_of X G alaw)
  cases e
  have E_InvalidRow : ErrX K mg "InvalidRow" "word" a_InvalidRow a_InvalidRow_init := { g := PySem.W.mg_of X G aE_InvalidRow, oex := ⟨⟨nm_InvalidRow, q_InvalidRow, N_InvalidRow, bs_InvalidRow, bm_InvalidRow, sn_InvalidRow, sub_InvalidRow, ab_InvalidRow, col_InvalidRow, dd_InvalidRow, m0_InvalidRow, m1_InvalidRow, m2_InvalidRow, m3_InvalidRow, m5_InvalidRow, xL_InvalidRow, hb_InvalidRow⟩, sa_InvalidRow, eC_InvalidRow, tC_InvalidRow, kC_InvalidRow⟩, iC := iC_InvalidRow, tI := tI_InvalidRow, xf := ⟨ga_InvalidRow, gg_InvalidRow, eC_InvalidRow, hC_InvalidRow⟩, noF := nf_InvalidRow, te := PySem.W.exm_ref eC_InvalidRow hC_InvalidRow tC_InvalidRow sC_InvalidRow, isC := ic_InvalidRow, ha := hA_InvalidRow, hn := hn_InvalidRow, ht := ht_InvalidRow, hm := hm_InvalidRow }
  have F_is_integer := fun_mk (st := s_is_integer) lis_integer cis_integer kis_integer
  have b_is_integer := F_is_integer.binds (ps := ["value"]) fun _ _ _ _ _ _ us hl => match us, hl with | [_], _ => rfl
  have F_is_number := fun_mk (st := s_is_number) lis_number cis_number kis_number
  have b_is_number := F_is_number.binds (ps := ["value"]) fun _ _ _ _ _ _ us hl => match us, hl with | [_], _ => rfl
  have F_is_name := fun_mk (st := s_is_name) lis_name cis_name kis_name
  have b_is_name := F_is_name.binds (ps := ["value"]) fun _ _ _ _ _ _ us hl => match us, hl with | [_], _ => rfl
  have F_are_rows := fun_mk (st := s_are_rows) lare_rows care_rows kare_rows
  have b_are_rows := F_are_rows.binds (ps := ["value"]) fun _ _ _ _ _ _ us hl => match us, hl with | [_], _ => rfl
  have F_needed := fun_mk (st := s_needed) lneeded cneeded kneeded
  have b_needed := F_needed.binds (ps := ["deed", "many"]) fun _ _ _ _ _ _ us hl => match us, hl with | [_, _], _ => rfl
  have F_fits := fun_mk (st := s_fits) lfits cfits kfits
  have b_fits := F_fits.binds (ps := ["deed", "given"]) fun _ _ _ _ _ _ us hl => match us, hl with | [_, _], _ => rfl
  have F_is_of := fun_mk (st := s_is_of) lis_of cis_of kis_of
  have b_is_of := F_is_of.binds (ps := ["kind", "value"]) fun _ _ _ _ _ _ us hl => match us, hl with | [_, _], _ => rfl
  have F_law_deal := fun_mk (st := s_law_deal) llaw_deal claw_deal klaw_deal
  have b_law_deal := F_law_deal.binds (ps := ["_law_script", "_law_radix"]) fun _ _ _ _ _ _ us hl => match us, hl with | [_, _], _ => rfl
  have F_law_draw := fun_mk (st := s_law_draw) llaw_draw claw_draw klaw_draw
  have b_law_draw := F_law_draw.binds (ps := ["_law_deal_here", "_law_amount"]) fun _ _ _ _ _ _ us hl => match us, hl with | [_, _], _ => rfl
  have F_law_pick := fun_mk (st := s_law_pick) llaw_pick claw_pick klaw_pick
  have b_law_pick := F_law_pick.binds (ps := ["_law_deal_here", "_law_some"]) fun _ _ _ _ _ _ us hl => match us, hl with | [_, _], _ => rfl
  have F_law_words := fun_mk (st := s_law_words) llaw_words claw_words klaw_words
  have b_law_words := F_law_words.binds (ps := ["_law_deal_here", "_law_amount"]) fun _ _ _ _ _ _ us hl => match us, hl with | [_, _], _ => rfl
  have F_law_kinds := fun_mk (st := s_law_kinds) llaw_kinds claw_kinds klaw_kinds
  have b_law_kinds := F_law_kinds.binds (ps := []) fun _ _ _ _ _ _ us hl => match us, hl with | [], _ => rfl
  have F_law_put := fun_mk (st := s_law_put) llaw_put claw_put klaw_put
  have b_law_put := F_law_put.binds (ps := ["_law_deal_here", "_law_names", "_law_most"]) fun _ _ _ _ _ _ us hl => match us, hl with | [_, _, _], _ => rfl
  have F_law_any := fun_mk (st := s_law_any) llaw_any claw_any klaw_any
  have b_law_any := F_law_any.binds (ps := ["_law_deal_here", "_law_down"]) fun _ _ _ _ _ _ us hl => match us, hl with | [_, _], _ => rfl
  have F_law_is_name := fun_mk (st := s_law_is_name) llaw_is_name claw_is_name klaw_is_name
  have b_law_is_name := F_law_is_name.binds (ps := ["_law_thing"]) fun _ _ _ _ _ _ us hl => match us, hl with | [_], _ => rfl
  have F_law_is_number := fun_mk (st := s_law_is_number) llaw_is_number claw_is_number klaw_is_number
  have b_law_is_number := F_law_is_number.binds (ps := ["_law_thing"]) fun _ _ _ _ _ _ us hl => match us, hl with | [_], _ => rfl
  have F_law_are_rows := fun_mk (st := s_law_are_rows) llaw_are_rows claw_are_rows klaw_are_rows
  have b_law_are_rows := F_law_are_rows.binds (ps := ["_law_thing"]) fun _ _ _ _ _ _ us hl => match us, hl with | [_], _ => rfl
  have F_law_put_due := fun_mk (st := s_law_put_due) llaw_put_due claw_put_due klaw_put_due
  have b_law_put_due := F_law_put_due.binds (ps := ["_law_name", "_law_deed", "_law_args"]) fun _ _ _ _ _ _ us hl => match us, hl with | [_, _, _], _ => rfl
  have F_law_ask_due := fun_mk (st := s_law_ask_due) llaw_ask_due claw_ask_due klaw_ask_due
  have b_law_ask_due := F_law_ask_due.binds (ps := ["_law_word", "_law_names"]) fun _ _ _ _ _ _ us hl => match us, hl with | [_, _], _ => rfl
  have F_law_made := fun_mk (st := s_law_made) llaw_made claw_made klaw_made
  have b_law_made := F_law_made.binds (ps := ["_law_form", "_law_some"]) fun _ _ _ _ _ _ us hl => match us, hl with | [_, _], _ => rfl
  have F_law_due := fun_mk (st := s_law_due) llaw_due claw_due klaw_due
  have b_law_due := F_law_due.binds (ps := ["_law_form", "_law_some"]) fun _ _ _ _ _ _ us hl => match us, hl with | [_, _], _ => rfl
  have F_law_told := fun_mk (st := s_law_told) llaw_told claw_told klaw_told
  have b_law_told := F_law_told.binds (ps := ["_law_form", "_law_some"]) fun _ _ _ _ _ _ us hl => match us, hl with | [_, _], _ => rfl
  have F_law_is_beyond := fun_mk (st := s_law_is_beyond) llaw_is_beyond claw_is_beyond klaw_is_beyond
  have b_law_is_beyond := F_law_is_beyond.binds (ps := ["_law_form", "_law_some"]) fun _ _ _ _ _ _ us hl => match us, hl with | [_, _], _ => rfl
  have F_law := fun_mk (st := s_law) llaw claw klaw
  have b_law := F_law.binds (ps := ["_law_script"]) fun _ _ _ _ _ _ us hl => match us, hl with | [_], _ => rfl
  have F_Put_init := fun_mk (st := s_Put_init) lPut_init cPut_init kPut_init
  have F_If_init : FunD K "__init__" "If.__init__" (defArgs s_If_init) (defBody s_If_init) (defScope s_If_init) [.ref a_If_init_d0] [] a_If_init _ := ⟨⟨oc_If_init, od_If_init, .ref T_If_init, kV_If_init, dc_If_init, pm_If_init, an_If_init, cd_If_init, ct_If_init, sl_If_init, rfl, lIf_init, cIf_init, Or.inr ⟨by simp, T_If_init, _, [.ref a_If_init_d0], _, rfl, lT_If_init, rfl, .cons rfl .nil⟩, Or.inl rfl⟩, kIf_init⟩
  obtain ⟨ds0_If_init, r0_If_init, b_If_init⟩ := FunD.binds1 (ps := ["self", "test", "rows", "others"]) F_If_init 4 1 (by simp) rfl (fun T kV doc pm an cdv ct us its h1 h2 => match us, h1, its, h2 with | [_, _, _, _], _, [_], _ => ⟨_, rfl, rfl⟩)
  cases (show Vals [] ds0_If_init from r0_If_init)
  obtain ⟨ds1_If_init, r1_If_init, bd_If_init⟩ := FunD.binds1 (ps := ["self", "test", "rows", "others"]) F_If_init 3 0 (by simp) rfl (fun T kV doc pm an cdv ct us its h1 h2 => match us, h1, its, h2 with | [_, _, _], _, [_], _ => ⟨_, rfl, rfl⟩)
  obtain ⟨u1_If_init, q1_If_init, q2_If_init⟩ := r1_If_init.one
  subst q1_If_init; obtain rfl : u1_If_init = Value.ref a_If_init_d0 := q2_If_init
  have F_Times_init := fun_mk (st := s_Times_init) lTimes_init cTimes_init kTimes_init
  have b_Times_init := F_Times_init.binds (ps := ["self", "count", "rows"]) fun _ _ _ _ _ _ us hl => match us, hl with | [_, _, _], _ => rfl
  have F_Ask_init := fun_mk (st := s_Ask_init) lAsk_init cAsk_init kAsk_init
  have F_Not_init := fun_mk (st := s_Not_init) lNot_init cNot_init kNot_init
  have b_Not_init := F_Not_init.binds (ps := ["self", "test"]) fun _ _ _ _ _ _ us hl => match us, hl with | [_, _], _ => rfl
  have F_InvalidRow_init := fun_mk (st := s_InvalidRow_init) lInvalidRow_init cInvalidRow_init kInvalidRow_init
  have b_InvalidRow_init := F_InvalidRow_init.binds (ps := ["self", "word"]) fun _ _ _ _ _ _ us hl => match us, hl with | [_, _], _ => rfl
  have T : Txt w K mg _  _  _  _  _  _  _  _  _  _  _  _  _  _  _  _  _  _  _  _  _  _  _  _  _  _  _  _  _  _  _  _  _  _  _  _  _  _  _  _  _  _  _  _ _ _ _ _ _ _ _ _ _ _ _ _ _ _ _ _ _ _ _ _ _ _ _ _ _ _ _ _ _ _ := ⟨F_is_integer, b_is_integer, PySem.W.mg_of X G ais_integer, F_is_number, b_is_number, PySem.W.mg_of X G ais_number, F_is_name, b_is_name, PySem.W.mg_of X G ais_name, F_are_rows, b_are_rows, PySem.W.mg_of X G aare_rows, F_needed, b_needed, PySem.W.mg_of X G aneeded, F_fits, b_fits, PySem.W.mg_of X G afits, F_is_of, b_is_of, PySem.W.mg_of X G ais_of, F_law_deal, b_law_deal, PySem.W.mg_of X G alaw_deal, F_law_draw, b_law_draw, PySem.W.mg_of X G alaw_draw, F_law_pick, b_law_pick, PySem.W.mg_of X G alaw_pick, F_law_words, b_law_words, PySem.W.mg_of X G alaw_words, F_law_kinds, b_law_kinds, PySem.W.mg_of X G alaw_kinds, F_law_put, b_law_put, PySem.W.mg_of X G alaw_put, F_law_any, b_law_any, PySem.W.mg_of X G alaw_any, F_law_is_name, b_law_is_name, PySem.W.mg_of X G alaw_is_name, F_law_is_number, b_law_is_number, PySem.W.mg_of X G alaw_is_number, F_law_are_rows, b_law_are_rows, PySem.W.mg_of X G alaw_are_rows, F_law_put_due, b_law_put_due, PySem.W.mg_of X G alaw_put_due, F_law_ask_due, b_law_ask_due, PySem.W.mg_of X G alaw_ask_due, F_law_made, b_law_made, PySem.W.mg_of X G alaw_made, F_law_due, b_law_due, PySem.W.mg_of X G alaw_due, F_law_told, b_law_told, PySem.W.mg_of X G alaw_told, F_law_is_beyond, b_law_is_beyond, PySem.W.mg_of X G alaw_is_beyond, F_law, b_law, PySem.W.mg_of X G alaw, F_Put_init, F_If_init, b_If_init, bd_If_init, fun H => .inr ⟨_, _, _, l0_If_init, rfl, rfl, (show 0 ≤ sizeLine by decide), .nil⟩, F_Times_init, b_Times_init, F_Ask_init, F_Not_init, b_Not_init, F_InvalidRow_init, b_InvalidRow_init, E_InvalidRow, ⟨_, PySem.W.mg_of X G aV_LETTERS, ⟨_, rfl⟩⟩, ⟨_, PySem.W.mg_of X G aV_LONGEST_NAME, ⟨_, rfl⟩⟩, ⟨_, PySem.W.mg_of X G aV_DEEDS, rfl⟩, ⟨_, PySem.W.mg_of X G aV_WORDS, rfl⟩, He.dicW_ok dW_DEEDS, dW_DEEDS, ⟨_, nI_DEEDS_0, fun H => .inr ⟨_, _, _, lI_DEEDS_0, rfl, rfl, (show 1 ≤ sizeLine by decide), (.cons ⟨_, rfl⟩ .nil)⟩⟩, ⟨_, nI_DEEDS_1, fun H => .inr ⟨_, _, _, lI_DEEDS_1, rfl, rfl, (show 1 ≤ sizeLine by decide), (.cons ⟨_, rfl⟩ .nil)⟩⟩, ⟨_, nI_DEEDS_2, fun H => .inr ⟨_, _, _, lI_DEEDS_2, rfl, rfl, (show 0 ≤ sizeLine by decide), .nil⟩⟩, ⟨_, nI_DEEDS_3, fun H => .inr ⟨_, _, _, lI_DEEDS_3, rfl, rfl, (show 1 ≤ sizeLine by decide), (.cons ⟨_, rfl⟩ .nil)⟩⟩, ⟨_, nI_DEEDS_4, fun H => .inr ⟨_, _, _, lI_DEEDS_4, rfl, rfl, (show 2 ≤ sizeLine by decide), (.cons ⟨_, rfl⟩ (.cons ⟨_, rfl⟩ .nil))⟩⟩, ⟨_, nI_DEEDS_5, fun H => .inr ⟨_, _, _, lI_DEEDS_5, rfl, rfl, (show 2 ≤ sizeLine by decide), (.cons ⟨_, rfl⟩ (.cons ⟨_, rfl⟩ .nil))⟩⟩, ⟨_, nI_DEEDS_6, fun H => .inr ⟨_, _, _, lI_DEEDS_6, rfl, rfl, (show 2 ≤ sizeLine by decide), (.cons ⟨_, rfl⟩ (.cons ⟨_, rfl⟩ .nil))⟩⟩, ⟨_, nI_DEEDS_7, fun H => .inr ⟨_, _, _, lI_DEEDS_7, rfl, rfl, (show 2 ≤ sizeLine by decide), (.cons ⟨_, rfl⟩ (.cons ⟨_, rfl⟩ .nil))⟩⟩, ⟨_, nI_DEEDS_8, fun H => .inr ⟨_, _, _, lI_DEEDS_8, rfl, rfl, (show 2 ≤ sizeLine by decide), (.cons ⟨_, rfl⟩ (.cons ⟨_, rfl⟩ .nil))⟩⟩, ⟨_, nI_DEEDS_9, fun H => .inr ⟨_, _, _, lI_DEEDS_9, rfl, rfl, (show 2 ≤ sizeLine by decide), (.cons ⟨_, rfl⟩ (.cons ⟨_, rfl⟩ .nil))⟩⟩, ⟨_, nI_DEEDS_10, fun H => .inr ⟨_, _, _, lI_DEEDS_10, rfl, rfl, (show 1 ≤ sizeLine by decide), (.cons ⟨_, rfl⟩ .nil)⟩⟩, ⟨_, nI_DEEDS_11, fun H => .inr ⟨_, _, _, lI_DEEDS_11, rfl, rfl, (show 1 ≤ sizeLine by decide), (.cons ⟨_, rfl⟩ .nil)⟩⟩, ⟨_, nI_DEEDS_12, fun H => .inr ⟨_, _, _, lI_DEEDS_12, rfl, rfl, (show 1 ≤ sizeLine by decide), (.cons ⟨_, rfl⟩ .nil)⟩⟩, ⟨_, nI_DEEDS_13, fun H => .inr ⟨_, _, _, lI_DEEDS_13, rfl, rfl, (show 1 ≤ sizeLine by decide), (.cons ⟨_, rfl⟩ .nil)⟩⟩, ⟨_, nI_DEEDS_14, fun H => .inr ⟨_, _, _, lI_DEEDS_14, rfl, rfl, (show 1 ≤ sizeLine by decide), (.cons ⟨_, rfl⟩ .nil)⟩⟩, ⟨_, nI_DEEDS_15, fun H => .inr ⟨_, _, _, lI_DEEDS_15, rfl, rfl, (show 1 ≤ sizeLine by decide), (.cons ⟨_, rfl⟩ .nil)⟩⟩, ⟨_, nI_DEEDS_16, fun H => .inr ⟨_, _, _, lI_DEEDS_16, rfl, rfl, (show 2 ≤ sizeLine by decide), (.cons ⟨_, rfl⟩ (.cons ⟨_, rfl⟩ .nil))⟩⟩, ⟨_, nI_DEEDS_17, fun H => .inr ⟨_, _, _, lI_DEEDS_17, rfl, rfl, (show 2 ≤ sizeLine by decide), (.cons ⟨_, rfl⟩ (.cons ⟨_, rfl⟩ .nil))⟩⟩, ⟨_, nI_DEEDS_18, fun H => .inr ⟨_, _, _, lI_DEEDS_18, rfl, rfl, (show 2 ≤ sizeLine by decide), (.cons ⟨_, rfl⟩ (.cons ⟨_, rfl⟩ .nil))⟩⟩, ⟨_, nI_DEEDS_19, fun H => .inr ⟨_, _, _, lI_DEEDS_19, rfl, rfl, (show 2 ≤ sizeLine by decide), (.cons ⟨_, rfl⟩ (.cons ⟨_, rfl⟩ .nil))⟩⟩, ⟨_, nI_DEEDS_20, fun H => .inr ⟨_, _, _, lI_DEEDS_20, rfl, rfl, (show 2 ≤ sizeLine by decide), (.cons ⟨_, rfl⟩ (.cons ⟨_, rfl⟩ .nil))⟩⟩, ⟨_, nI_DEEDS_21, fun H => .inr ⟨_, _, _, lI_DEEDS_21, rfl, rfl, (show 2 ≤ sizeLine by decide), (.cons ⟨_, rfl⟩ (.cons ⟨_, rfl⟩ .nil))⟩⟩, He.dicW_ok dW_WORDS, dW_WORDS, ⟨_, nI_WORDS_0⟩, ⟨_, nI_WORDS_1⟩, ⟨_, nI_WORDS_2⟩, ⟨_, nI_WORDS_3⟩, ⟨_, nI_WORDS_4⟩, kits, ⟨⟨c1_Put, c2_Put, c3_Put, c4_Put⟩, c5_Put, c6_Put, c7_Put, c8_Put, c9_Put⟩, cF_Put_name, cF_Put_deed, cF_Put_given, ⟨ck_Put, cm_Put_init, cf_Put_init, cp_Put⟩, ⟨⟨c1_If, c2_If, c3_If, c4_If⟩, c5_If, c6_If, c7_If, c8_If, c9_If⟩, cF_If_test, cF_If_rows, cF_If_others, ⟨ck_If, cm_If_init, cf_If_init, cp_If⟩, ⟨⟨c1_Times, c2_Times, c3_Times, c4_Times⟩, c5_Times, c6_Times, c7_Times, c8_Times, c9_Times⟩, cF_Times_count, cF_Times_rows, ⟨ck_Times, cm_Times_init, cf_Times_init, cp_Times⟩, ⟨⟨c1_Stop, c2_Stop, c3_Stop, c4_Stop⟩, c5_Stop, c6_Stop, c7_Stop, c8_Stop, c9_Stop⟩, ⟨ck_Stop, ci_Stop, cp_Stop⟩, ⟨⟨c1_Ask, c2_Ask, c3_Ask, c4_Ask⟩, c5_Ask, c6_Ask, c7_Ask, c8_Ask, c9_Ask⟩, cF_Ask_word, cF_Ask_names, ⟨ck_Ask, cm_Ask_init, cf_Ask_init, cp_Ask⟩, ⟨⟨c1_Not, c2_Not, c3_Not, c4_Not⟩, c5_Not, c6_Not, c7_Not, c8_Not, c9_Not⟩, cF_Not_test, ⟨ck_Not, cm_Not_init, cf_Not_init, cp_Not⟩, ⟨⟨c1_Row, c2_Row, c3_Row, c4_Row⟩, c5_Row, c6_Row, c7_Row, c8_Row, c9_Row⟩, ⟨⟨c1_Test, c2_Test, c3_Test, c4_Test⟩, c5_Test, c6_Test, c7_Test, c8_Test, c9_Test⟩, PySem.W.mg_of X G aK_FigureError, PySem.W.mg_of X G aK_InvalidText, PySem.W.mg_of X G aC_Put, PySem.W.mg_of X G aC_If, PySem.W.mg_of X G aC_Times, PySem.W.mg_of X G aC_Stop, PySem.W.mg_of X G aC_Ask, PySem.W.mg_of X G aC_Not, PySem.W.mg_of X G aC_Row, PySem.W.mg_of X G aC_Test, kn_InvalidRow_FigureError, kn_InvalidRow_InvalidText, PySem.W.mg_none_of X G zabs, PySem.W.mg_none_of X G zall, PySem.W.mg_none_of X G zbool, PySem.W.mg_none_of X G zenumerate, PySem.W.mg_none_of X G zint, PySem.W.mg_none_of X G zisinstance, PySem.W.mg_none_of X G zlen, PySem.W.mg_none_of X G zlist, PySem.W.mg_none_of X G zmax, PySem.W.mg_none_of X G zrange, PySem.W.mg_none_of X G zsorted, PySem.W.mg_none_of X G zstr, PySem.W.mg_none_of X G ztuple, PySem.W.mg_none_of X G zzip⟩
  exact ⟨PySem.W.fnOf "law" "law" (defArgs s_law) (defBody s_law) (defScope s_law) .none kV_law dc_law pm_law an_law cd_law ct_law, fun s v => .of_eq rfl, fun base _ _ => ok_law T⟩
end My
open PySem PySem.W PyProof.Rows
set_option maxHeartbeats 0 in
theorem PySem.Challenge.cw_everybase_k09_rows_refused_holds : PySem.Challenge.rw_everybase_k09_rows_refused.Holds := by
  w_on; o_law; k_head; (case hw => w_witness2)
  k_fill
  refine L2.walk_of (l := PySem.Challenge.rw_everybase_k09_rows_refused) (n := 63) (k := 30) (x := "_law_script") (CX := fun _ => L2.CX0) (sp := fun w => My.sp_law _) rfl (by decide) rfl ⟨rfl, by decide, by decide⟩ (fun w h Y => PySem.W.kIn_of Y) ?F (fun _ _ a ns hl ho hS => ⟨a, ns, rfl, hS, hl, fun _ => rfl⟩) (fun _ _ _ _ _ h => h)
  case F =>
    intro w mg fa h KX G hmg
    refine' My.all_mk KX G hmg ?aE_InvalidRow ?xL_InvalidRow ?hb_InvalidRow ?sa_InvalidRow ?ga_InvalidRow ?gg_InvalidRow ?nf_InvalidRow ?iC_InvalidRow ?tI_InvalidRow ?kC_InvalidRow ?eC_InvalidRow ?tC_InvalidRow ?hC_InvalidRow ?ic_InvalidRow ?sC_InvalidRow ?hA_InvalidRow ?hn_InvalidRow ?ht_InvalidRow ?hm_InvalidRow ?aK_FigureError ?aK_InvalidText ?kn_InvalidRow_FigureError ?kn_InvalidRow_InvalidText ?aC_Put ?c1_Put ?c2_Put ?c3_Put ?c4_Put ?c5_Put ?c6_Put ?c7_Put ?c8_Put ?c9_Put ?cF_Put_name ?cF_Put_deed ?cF_Put_given ?cm_Put_init ?cf_Put_init ?ck_Put ?cp_Put ?aC_If ?c1_If ?c2_If ?c3_If ?c4_If ?c5_If ?c6_If ?c7_If ?c8_If ?c9_If ?cF_If_test ?cF_If_rows ?cF_If_others ?cm_If_init ?cf_If_init ?ck_If ?cp_If ?aC_Times ?c1_Times ?c2_Times ?c3_Times ?c4_Times ?c5_Times ?c6_Times ?c7_Times ?c8_Times ?c9_Times ?cF_Times_count ?cF_Times_rows ?cm_Times_init ?cf_Times_init ?ck_Times ?cp_Times ?aC_Stop ?c1_Stop ?c2_Stop ?c3_Stop ?c4_Stop ?c5_Stop ?c6_Stop ?c7_Stop ?c8_Stop ?c9_Stop ?ck_Stop ?cp_Stop ?ci_Stop ?aC_Ask ?c1_Ask ?c2_Ask ?c3_Ask ?c4_Ask ?c5_Ask ?c6_Ask ?c7_Ask ?c8_Ask ?c9_Ask ?cF_Ask_word ?cF_Ask_names ?cm_Ask_init ?cf_Ask_init ?ck_Ask ?cp_Ask ?aC_Not ?c1_Not ?c2_Not ?c3_Not ?c4_Not ?c5_Not ?c6_Not ?c7_Not ?c8_Not ?c9_Not ?cF_Not_test ?cm_Not_init ?cf_Not_init ?ck_Not ?cp_Not ?aC_Row ?c1_Row ?c2_Row ?c3_Row ?c4_Row ?c5_Row ?c6_Row ?c7_Row ?c8_Row ?c9_Row ?aC_Test ?c1_Test ?c2_Test ?c3_Test ?c4_Test ?c5_Test ?c6_Test ?c7_Test ?c8_Test ?c9_Test ?aV_LETTERS ?aV_LONGEST_NAME ?aV_DEEDS ?aV_WORDS ?dW_DEEDS ?nI_DEEDS_0 ?lI_DEEDS_0 ?nI_DEEDS_1 ?lI_DEEDS_1 ?nI_DEEDS_2 ?lI_DEEDS_2 ?nI_DEEDS_3 ?lI_DEEDS_3 ?nI_DEEDS_4 ?lI_DEEDS_4 ?nI_DEEDS_5 ?lI_DEEDS_5 ?nI_DEEDS_6 ?lI_DEEDS_6 ?nI_DEEDS_7 ?lI_DEEDS_7 ?nI_DEEDS_8 ?lI_DEEDS_8 ?nI_DEEDS_9 ?lI_DEEDS_9 ?nI_DEEDS_10 ?lI_DEEDS_10 ?nI_DEEDS_11 ?lI_DEEDS_11 ?nI_DEEDS_12 ?lI_DEEDS_12 ?nI_DEEDS_13 ?lI_DEEDS_13 ?nI_DEEDS_14 ?lI_DEEDS_14 ?nI_DEEDS_15 ?lI_DEEDS_15 ?nI_DEEDS_16 ?lI_DEEDS_16 ?nI_DEEDS_17 ?lI_DEEDS_17 ?nI_DEEDS_18 ?lI_DEEDS_18 ?nI_DEEDS_19 ?lI_DEEDS_19 ?nI_DEEDS_20 ?lI_DEEDS_20 ?nI_DEEDS_21 ?lI_DEEDS_21 ?dW_WORDS ?nI_WORDS_0 ?nI_WORDS_1 ?nI_WORDS_2 ?nI_WORDS_3 ?nI_WORDS_4 ?kits ?ais_integer ?lis_integer ?cis_integer ?kis_integer ?ais_number ?lis_number ?cis_number ?kis_number ?ais_name ?lis_name ?cis_name ?kis_name ?aare_rows ?lare_rows ?care_rows ?kare_rows ?aneeded ?lneeded ?cneeded ?kneeded ?afits ?lfits ?cfits ?kfits ?ais_of ?lis_of ?cis_of ?kis_of ?alaw_deal ?llaw_deal ?claw_deal ?klaw_deal ?alaw_draw ?llaw_draw ?claw_draw ?klaw_draw ?alaw_pick ?llaw_pick ?claw_pick ?klaw_pick ?alaw_words ?llaw_words ?claw_words ?klaw_words ?alaw_kinds ?llaw_kinds ?claw_kinds ?klaw_kinds ?alaw_put ?llaw_put ?claw_put ?klaw_put ?alaw_any ?llaw_any ?claw_any ?klaw_any ?alaw_is_name ?llaw_is_name ?claw_is_name ?klaw_is_name ?alaw_is_number ?llaw_is_number ?claw_is_number ?klaw_is_number ?alaw_are_rows ?llaw_are_rows ?claw_are_rows ?klaw_are_rows ?alaw_put_due ?llaw_put_due ?claw_put_due ?klaw_put_due ?alaw_ask_due ?llaw_ask_due ?claw_ask_due ?klaw_ask_due ?alaw_made ?llaw_made ?claw_made ?klaw_made ?alaw_due ?llaw_due ?claw_due ?klaw_due ?alaw_told ?llaw_told ?claw_told ?klaw_told ?alaw_is_beyond ?llaw_is_beyond ?claw_is_beyond ?klaw_is_beyond ?alaw ?llaw ?claw ?klaw ?lPut_init ?cPut_init ?kPut_init ?lIf_init ?cIf_init ?kIf_init ?lT_If_init ?l0_If_init ?lTimes_init ?cTimes_init ?kTimes_init ?lAsk_init ?cAsk_init ?kAsk_init ?lNot_init ?cNot_init ?kNot_init ?lInvalidRow_init ?cInvalidRow_init ?kInvalidRow_init ?zabs ?zall ?zbool ?zenumerate ?zint ?zisinstance ?zlen ?zlist ?zmax ?zrange ?zsorted ?zstr ?ztuple ?zzip
    (case aE_InvalidRow => k_is); (case xL_InvalidRow => k_is); (case hb_InvalidRow => first | rfl | decide +kernel); (case sa_InvalidRow => k_is); (case ga_InvalidRow => k_is); (case gg_InvalidRow => k_is); (case nf_InvalidRow => k_is); (case iC_InvalidRow => k_is); (case tI_InvalidRow => k_is); (case kC_InvalidRow => k_is); (case eC_InvalidRow => k_is); (case tC_InvalidRow => k_is); (case hC_InvalidRow => k_is); (case ic_InvalidRow => k_is); (case sC_InvalidRow => first | rfl | k_is); (case hA_InvalidRow => k_is); (case hn_InvalidRow => k_is); (case ht_InvalidRow => k_is); (case hm_InvalidRow => k_is); (case aK_FigureError => k_is); (case aK_InvalidText => k_is); (case kn_InvalidRow_FigureError => first | kit_is | k_is | kernel_rfl | decide +kernel); (case kn_InvalidRow_InvalidText => first | kit_is | k_is | kernel_rfl | decide +kernel); (case aC_Put => k_is); (case c1_Put => k_is); (case c2_Put => k_is); (case c3_Put => k_is); (case c4_Put => k_is); (case c5_Put => k_is); (case c6_Put => k_is); (case c7_Put => k_is); (case c8_Put => k_is); (case c9_Put => k_is); (case cF_Put_name => k_is); (case cF_Put_deed => k_is); (case cF_Put_given => k_is); (case cm_Put_init => k_is); (case cf_Put_init => k_is); (case ck_Put => k_is); (case cp_Put => k_is); (case aC_If => k_is); (case c1_If => k_is); (case c2_If => k_is); (case c3_If => k_is); (case c4_If => k_is); (case c5_If => k_is); (case c6_If => k_is); (case c7_If => k_is); (case c8_If => k_is); (case c9_If => k_is); (case cF_If_test => k_is); (case cF_If_rows => k_is); (case cF_If_others => k_is); (case cm_If_init => k_is); (case cf_If_init => k_is); (case ck_If => k_is); (case cp_If => k_is); (case aC_Times => k_is); (case c1_Times => k_is); (case c2_Times => k_is); (case c3_Times => k_is); (case c4_Times => k_is); (case c5_Times => k_is); (case c6_Times => k_is); (case c7_Times => k_is); (case c8_Times => k_is); (case c9_Times => k_is); (case cF_Times_count => k_is); (case cF_Times_rows => k_is); (case cm_Times_init => k_is); (case cf_Times_init => k_is); (case ck_Times => k_is); (case cp_Times => k_is); (case aC_Stop => k_is); (case c1_Stop => k_is); (case c2_Stop => k_is); (case c3_Stop => k_is); (case c4_Stop => k_is); (case c5_Stop => k_is); (case c6_Stop => k_is); (case c7_Stop => k_is); (case c8_Stop => k_is); (case c9_Stop => k_is); (case ck_Stop => k_is); (case cp_Stop => k_is); (case ci_Stop => k_is); (case aC_Ask => k_is); (case c1_Ask => k_is); (case c2_Ask => k_is); (case c3_Ask => k_is); (case c4_Ask => k_is); (case c5_Ask => k_is); (case c6_Ask => k_is); (case c7_Ask => k_is); (case c8_Ask => k_is); (case c9_Ask => k_is); (case cF_Ask_word => k_is); (case cF_Ask_names => k_is); (case cm_Ask_init => k_is); (case cf_Ask_init => k_is); (case ck_Ask => k_is); (case cp_Ask => k_is); (case aC_Not => k_is); (case c1_Not => k_is); (case c2_Not => k_is); (case c3_Not => k_is); (case c4_Not => k_is); (case c5_Not => k_is); (case c6_Not => k_is); (case c7_Not => k_is); (case c8_Not => k_is); (case c9_Not => k_is); (case cF_Not_test => k_is); (case cm_Not_init => k_is); (case cf_Not_init => k_is); (case ck_Not => k_is); (case cp_Not => k_is); (case aC_Row => k_is); (case c1_Row => k_is); (case c2_Row => k_is); (case c3_Row => k_is); (case c4_Row => k_is); (case c5_Row => k_is); (case c6_Row => k_is); (case c7_Row => k_is); (case c8_Row => k_is); (case c9_Row => k_is); (case aC_Test => k_is); (case c1_Test => k_is); (case c2_Test => k_is); (case c3_Test => k_is); (case c4_Test => k_is); (case c5_Test => k_is); (case c6_Test => k_is); (case c7_Test => k_is); (case c8_Test => k_is); (case c9_Test => k_is); (case aV_LETTERS => k_is); (case aV_LONGEST_NAME => k_is); (case aV_DEEDS => k_is); (case aV_WORDS => k_is); (case dW_DEEDS => kernel_rfl); (case nI_DEEDS_0 => k_is); (case lI_DEEDS_0 => k_is); (case nI_DEEDS_1 => k_is); (case lI_DEEDS_1 => k_is); (case nI_DEEDS_2 => k_is); (case lI_DEEDS_2 => k_is); (case nI_DEEDS_3 => k_is); (case lI_DEEDS_3 => k_is); (case nI_DEEDS_4 => k_is); (case lI_DEEDS_4 => k_is); (case nI_DEEDS_5 => k_is); (case lI_DEEDS_5 => k_is); (case nI_DEEDS_6 => k_is); (case lI_DEEDS_6 => k_is); (case nI_DEEDS_7 => k_is); (case lI_DEEDS_7 => k_is); (case nI_DEEDS_8 => k_is); (case lI_DEEDS_8 => k_is); (case nI_DEEDS_9 => k_is); (case lI_DEEDS_9 => k_is); (case nI_DEEDS_10 => k_is); (case lI_DEEDS_10 => k_is); (case nI_DEEDS_11 => k_is); (case lI_DEEDS_11 => k_is); (case nI_DEEDS_12 => k_is); (case lI_DEEDS_12 => k_is); (case nI_DEEDS_13 => k_is); (case lI_DEEDS_13 => k_is); (case nI_DEEDS_14 => k_is); (case lI_DEEDS_14 => k_is); (case nI_DEEDS_15 => k_is); (case lI_DEEDS_15 => k_is); (case nI_DEEDS_16 => k_is); (case lI_DEEDS_16 => k_is); (case nI_DEEDS_17 => k_is); (case lI_DEEDS_17 => k_is); (case nI_DEEDS_18 => k_is); (case lI_DEEDS_18 => k_is); (case nI_DEEDS_19 => k_is); (case lI_DEEDS_19 => k_is); (case nI_DEEDS_20 => k_is); (case lI_DEEDS_20 => k_is); (case nI_DEEDS_21 => k_is); (case lI_DEEDS_21 => k_is); (case dW_WORDS => kernel_rfl); (case nI_WORDS_0 => k_is); (case nI_WORDS_1 => k_is); (case nI_WORDS_2 => k_is); (case nI_WORDS_3 => k_is); (case nI_WORDS_4 => k_is); (case kits => kernel_rfl); (case ais_integer => k_is); (case lis_integer => k_is); (case cis_integer => k_is); (case kis_integer => k_is); (case ais_number => k_is); (case lis_number => k_is); (case cis_number => k_is); (case kis_number => k_is); (case ais_name => k_is); (case lis_name => k_is); (case cis_name => k_is); (case kis_name => k_is); (case aare_rows => k_is); (case lare_rows => k_is); (case care_rows => k_is); (case kare_rows => k_is); (case aneeded => k_is); (case lneeded => k_is); (case cneeded => k_is); (case kneeded => k_is); (case afits => k_is); (case lfits => k_is); (case cfits => k_is); (case kfits => k_is); (case ais_of => k_is); (case lis_of => k_is); (case cis_of => k_is); (case kis_of => k_is); (case alaw_deal => k_is); (case llaw_deal => k_is); (case claw_deal => k_is); (case klaw_deal => k_is); (case alaw_draw => k_is); (case llaw_draw => k_is); (case claw_draw => k_is); (case klaw_draw => k_is); (case alaw_pick => k_is); (case llaw_pick => k_is); (case claw_pick => k_is); (case klaw_pick => k_is); (case alaw_words => k_is); (case llaw_words => k_is); (case claw_words => k_is); (case klaw_words => k_is); (case alaw_kinds => k_is); (case llaw_kinds => k_is); (case claw_kinds => k_is); (case klaw_kinds => k_is); (case alaw_put => k_is); (case llaw_put => k_is); (case claw_put => k_is); (case klaw_put => k_is); (case alaw_any => k_is); (case llaw_any => k_is); (case claw_any => k_is); (case klaw_any => k_is); (case alaw_is_name => k_is); (case llaw_is_name => k_is); (case claw_is_name => k_is); (case klaw_is_name => k_is); (case alaw_is_number => k_is); (case llaw_is_number => k_is); (case claw_is_number => k_is); (case klaw_is_number => k_is); (case alaw_are_rows => k_is); (case llaw_are_rows => k_is); (case claw_are_rows => k_is); (case klaw_are_rows => k_is); (case alaw_put_due => k_is); (case llaw_put_due => k_is); (case claw_put_due => k_is); (case klaw_put_due => k_is); (case alaw_ask_due => k_is); (case llaw_ask_due => k_is); (case claw_ask_due => k_is); (case klaw_ask_due => k_is); (case alaw_made => k_is); (case llaw_made => k_is); (case claw_made => k_is); (case klaw_made => k_is); (case alaw_due => k_is); (case llaw_due => k_is); (case claw_due => k_is); (case klaw_due => k_is); (case alaw_told => k_is); (case llaw_told => k_is); (case claw_told => k_is); (case klaw_told => k_is); (case alaw_is_beyond => k_is); (case llaw_is_beyond => k_is); (case claw_is_beyond => k_is); (case klaw_is_beyond => k_is); (case alaw => k_is); (case llaw => k_is); (case claw => k_is); (case klaw => k_is); (case lPut_init => k_is); (case cPut_init => k_is); (case kPut_init => k_is); (case lIf_init => k_is); (case cIf_init => k_is); (case kIf_init => k_is); (case lT_If_init => k_is); (case l0_If_init => k_is); (case lTimes_init => k_is); (case cTimes_init => k_is); (case kTimes_init => k_is); (case lAsk_init => k_is); (case cAsk_init => k_is); (case kAsk_init => k_is); (case lNot_init => k_is); (case cNot_init => k_is); (case kNot_init => k_is); (case lInvalidRow_init => k_is); (case cInvalidRow_init => k_is); (case kInvalidRow_init => k_is); (case zabs => k_is); (case zall => k_is); (case zbool => k_is); (case zenumerate => k_is); (case zint => k_is); (case zisinstance => k_is); (case zlen => k_is); (case zlist => k_is); (case zmax => k_is); (case zrange => k_is); (case zsorted => k_is); (case zstr => k_is); (case ztuple => k_is); (case zzip => k_is)
