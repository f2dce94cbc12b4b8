import PyProof.Rows.All
import Wide.All
import OpenK.AllK
import Wide.FinOn
import HandS.ForMost
import HandS.Wide
import HandS.WideBits
import HandS.IsInst
import HandS.SortInts
import HandS.RaiseMore
import HandS.Style
import HandS.Zip
import HandS.Evl
import KE.KTupSum
import HandS.TupAny
import HandS.SortKw
import HandS.Conv
import HandS.SetFor
import KE.GoesMore
import PySem.Challenge.RW_everybase_k07_whole_figures_go_together
set_option Elab.async false
set_option linter.all false
set_option maxRecDepth 100000
set_option maxHeartbeats 4000000
namespace My
open PySem PySem.Spec PyProof.Rows L2 Evl

/-! ### one more rule: sum of a tuple of ints -/
section
variable {X : Cx}
def rSumT (K : PySem.W.Frag) : List V → Hp → VK → Prop := fun vs H Q => ∃ (a : Addr) (ns : List Int), vs = [V.ref a] ∧ SqT K H a (ns.map V.int) ∧ Q (.int ns.sum) H
theorem cr_sumT (hc : X.calm = true) : CallR X (.builtin "sum") (rSumT X.K) := by
  intro pins s σ H vs us Q I r h
  obtain ⟨a, ns, rfl, hs, q⟩ := h
  obtain ⟨its, rv, hl, _⟩ := I.tuple hs
  rw [Vals.ref1 r]
  have hi : IntsAre its ns := rv.ints
  obtain ⟨xs, e⟩ := hi.allInts.items
  have hn : numsOf (intItems xs).toList = ns := by rw [← e]; exact hi.numsOf
  rw [nums_intItems] at hn
  have hl' : s.heap.IsTuple a (intItems xs) := by
    rw [← e]
    exact hl
  refine PySem.W.ktm_sumG (I.ok.hd hc) hl' fun h' tk t' hk => ?_
  refine ⟨.int ns.sum, H, I.kept hk, ⟨t', ?_⟩, q⟩
  rw [preSum_eq, List.take_of_length_le (by simp), hn]
end

/-! ### isinstance of built-in values -/
def vty (H : Hp) : V → Option String
  | .non => some "NoneType"
  | .bl _ => some "bool"
  | .int _ => some "int"
  | .str _ => some "str"
  | .ref a => match H a with
    | some (.lst _) => some "list"
    | some (.tup _) => some "tuple"
    | _ => none
  | _ => none
theorem tyX_of {K : PySem.W.Frag} {H : Hp} {x : V} {t : String} (h : vty H x = some t) : TyX K H x (.type t) := by
  unfold vty at h
  split at h
  · cases h; exact .base .non
  · cases h; exact .base (.bl _)
  · cases h; exact .base (.int _)
  · cases h; exact .base (.str _)
  · split at h
    · cases h; rename_i e; exact .base (.lst e)
    · cases h; rename_i e; exact .base (.tup e)
    · cases h
  · cases h
section
variable {X : Cx}
def rIsiV : List V → Hp → VK → Prop
  | [x, .ty n], H, Q => ∃ t b, vty H x = some t ∧ kitB t n = some b ∧ Q (.bl b) H
  | _, _, _ => False
theorem call_isiV : CallR X (.builtin "isinstance") rIsiV := by
  intro pins s σ H xs us Q I r h
  unfold rIsiV at h
  split at h
  · obtain ⟨t, b, h1, h2, q⟩ := h
    exact call_isi pins s σ H _ us Q I r ⟨_, _, _, _, b, rfl, .ty _, tyX_of h1, kit_ty h2, q⟩
  · exact h.elim
end
theorem kb1 : kitB "int" "int" = some true := by decide +kernel
theorem kb2 : kitB "int" "bool" = some false := by decide +kernel
theorem kb3 : kitB "bool" "int" = some true := by decide +kernel
theorem kb4 : kitB "bool" "bool" = some true := by decide +kernel
theorem kb5 : kitB "NoneType" "int" = some false := by decide +kernel
theorem kb6 : kitB "str" "int" = some false := by decide +kernel
theorem kb7 : kitB "list" "int" = some false := by decide +kernel
theorem kb8 : kitB "tuple" "int" = some false := by decide +kernel
theorem kb9 : kitB "list" "list" = some true := by decide +kernel

/-! ### heaps that grow -/
theorem _root_.Evl.Ex.free {H H' : Hp} {p : Addr} (e : Ex H H') (h : H' p = none) : H p = none := fresh_back e h
theorem _root_.Evl.Ex.sql {K : PySem.W.Frag} {H H' : Hp} {a : Addr} {xs : List V} (e : Ex H H') (h : SqL K H a xs) : SqL K H' a xs := ex_l e h
theorem _root_.Evl.Ex.sqt {K : PySem.W.Frag} {H H' : Hp} {a : Addr} {xs : List V} (e : Ex H H') (h : SqT K H a xs) : SqT K H' a xs := ex_t e h
/-- a new object: what it is told by, and that nothing else changed -/
theorem new_of {H : Hp} {o : HO} {Q : VK} (h : ∀ p H1, H p = none → Ex H H1 → H1 p = some o → Q (.ref p) H1) : ∀ p, H p = none → Q (.ref p) (upd H p o) :=
  fun p hp => h p _ hp (Ex.new hp) upd_same
theorem sz_le {n : Nat} (h : n ≤ 100000) : n ≤ sizeLine := Nat.le_trans h (by decide)

/-! ### bounds of wide ints -/
theorem nab {i : Int} {n : Nat} (h0 : -(2 ^ n) < i) (h1 : i < 2 ^ n) : i.natAbs < 2 ^ n := by
  have e : ((2 ^ n : Nat) : Int) = 2 ^ n := by simp
  omega
theorem mulOk {i j : Int} (a0 : -(2 ^ 250) < i) (a1 : i < 2 ^ 250) (b0 : -(2 ^ 250) < j) (b1 : j < 2 ^ 250) : CMulX i j :=
  mulx_ok (nab a0 a1) (nab b0 b1) (by decide)
theorem divOk {i j : Int} (a0 : 0 < j) (a1 : j < 2 ^ 250) : CDivW i j :=
  wide_div a0 (nab (n := 250) (by omega) a1) (by decide) (by decide)
theorem powOk {i j : Int} (h0 : 0 ≤ j) (h1 : j ≤ 1000) (a0 : -1000 < i) (a1 : i < 1000) : CPow i j := ⟨h0, by omega, by omega⟩
theorem reprOk {i : Int} (a0 : -(2 ^ 250) < i) (a1 : i < 2 ^ 250) : i.natAbs.log2 < 1920 :=
  Nat.lt_of_lt_of_le (PySem.Flt.log2_lt_of (by decide) (nab a0 a1)) (by decide)

/-! ### rules with readings by cases -/
section
variable {X : Cx}
def rInt1 : List V → Hp → VK → Prop
  | [.int i], H, Q => Q (.int i) H
  | [.bl k], H, Q => Q (.int (if k then 1 else 0)) H
  | _, _, _ => False
theorem call_intM : CallR X (.type "int") rInt1 := by
  intro pins s σ H xs us Q I r h
  unfold rInt1 at h
  split at h
  · exact call_int1 pins s σ H _ us Q I r (.inl ⟨_, rfl, h⟩)
  · exact call_int1 pins s σ H _ us Q I r (.inr ⟨_, rfl, h⟩)
  · exact h.elim
def rMin2 : List V → Hp → VK → Prop
  | [.int i, .int j], H, Q => Q (.int (if j < i then j else i)) H
  | _, _, _ => False
def rMax2 : List V → Hp → VK → Prop
  | [.int i, .int j], H, Q => Q (.int (if j > i then j else i)) H
  | _, _, _ => False
theorem call_minM (hc : X.calm = true) : CallR X (.builtin "min") rMin2 := by
  intro pins s σ H xs us Q I r h
  unfold rMin2 at h
  split at h
  · exact call_min2 hc pins s σ H _ us Q I r ⟨_, _, rfl, h⟩
  · exact h.elim
theorem call_maxM (hc : X.calm = true) : CallR X (.builtin "max") rMax2 := by
  intro pins s σ H xs us Q I r h
  unfold rMax2 at h
  split at h
  · exact call_max2 hc pins s σ H _ us Q I r ⟨_, _, rfl, h⟩
  · exact h.elim
def rRepr1 : List V → Hp → VK → Prop
  | [.int i], H, Q => i.natAbs.log2 < 1920 ∧ Q (.str (toString i)) H
  | _, _, _ => False
theorem call_reprM : CallR X (.builtin "repr") rRepr1 := by
  intro pins s σ H xs us Q I r h
  unfold rRepr1 at h
  split at h
  · exact SkE.call_repr_int pins s σ H _ us Q I r ⟨_, rfl, h⟩
  · exact h.elim
/-- xs[i] of a tracked list -/
def rIx1 (K : PySem.W.Frag) : R2
  | .ref p, .int i, H, Q => ∃ xs v, SqL K H p xs ∧ atI xs i = some v ∧ Q v H
  | _, _, _, _ => False
theorem ix_listM : IxR X (rIx1 X.K) := by
  intro value slice pins s σ H x y v u Q I rx ry h hs
  unfold rIx1 at h
  split at h
  · obtain ⟨xs, z, h1, h2, q⟩ := h
    exact ix_list value slice pins s σ H _ _ v u Q I rx ry ⟨_, _, _, _, rfl, rfl, h1, h2, q⟩ hs
  · exact h.elim
/-- xs[lo:hi] of a list -/
def rSlM (K : PySem.W.Frag) : V → Option Int → Option Int → Hp → VK → Prop
  | .ref a, lo, hi, H, Q => ∃ xs, SqL K H a xs ∧ ∀ p, H p = none → Q (.ref p) (upd H p (.lst (cutV xs lo hi)))
  | _, _, _, _, _ => False
theorem sl_listM : SlR X (rSlM X.K) := by
  intro pins s σ H x v vl vu lo hi sl Q I rx hs pl pu h
  unfold rSlM at h
  split at h
  · obtain ⟨xs, h1, q⟩ := h
    exact sl_list pins s σ H _ v vl vu _ _ sl Q I rx hs pl pu ⟨_, _, rfl, h1, q⟩
  · exact h.elim
/-- xs.append(y), xs.pop() of a tracked list -/
def rAppM : V → List V → Hp → VK → Prop
  | .ref l, [y], H, Q => ∃ xs, H l = some (.lst xs) ∧ xs.length < sizeLine ∧ Q .non (upd H l (.lst (xs ++ [y])))
  | _, _, _, _ => False
def rPopM : V → List V → Hp → VK → Prop
  | .ref l, [], H, Q => ∃ xs y, H l = some (.lst xs) ∧ xs[xs.length - 1]? = some y ∧ Q y (upd H l (.lst xs.dropLast))
  | _, _, _, _ => False
theorem mt_appendM : MtR X "list.append" rAppM := by
  intro pins s σ H x vs v us Q I rx r h
  unfold rAppM at h
  split at h
  · obtain ⟨xs, h1, h2, q⟩ := h
    exact mt_append pins s σ H _ _ v us Q I rx r ⟨_, _, _, rfl, rfl, h1, h2, q⟩
  · exact h.elim
theorem mt_popM : MtR X "list.pop" rPopM := by
  intro pins s σ H x vs v us Q I rx r h
  unfold rPopM at h
  split at h
  · obtain ⟨xs, y, h1, h2, q⟩ := h
    exact mt_pop pins s σ H _ _ v us Q I rx r ⟨_, _, _, rfl, rfl, h1, h2, q⟩
  · exact h.elim
end

/-! ### == of a list of ints and [] -/
theorem canLayInts : ∀ cs : List Int, PyData.canLayAll0 (cs.map PyData.int) = true
  | [] => rfl
  | c :: cs => by
    rw [List.map_cons, PyData.canLayAll0, canLayInts cs, PyData.canLay0]
    rfl
theorem depthInts : ∀ cs : List Int, PyData.depthAll (cs.map PyData.int) = 0
  | [] => rfl
  | c :: cs => by
    rw [List.map_cons, PyData.depthAll, depthInts cs, PyData.depth]
    rfl
theorem shapedInts (cs : List Int) : SeqAt.shaped (.list (cs.map PyData.int)) = true := by
  unfold SeqAt.shaped
  rw [PyData.canLay0, PyData.depth, canLayInts, depthInts]
  rfl
theorem shapedIntsT (cs : List Int) : SeqAt.shaped (.tuple (cs.map PyData.int)) = true := by
  unfold SeqAt.shaped
  rw [PyData.canLay0, PyData.depth, canLayInts, depthInts]
  rfl
theorem eqvAllInts : ∀ xs ys : List Int, PyData.eqvAll (xs.map PyData.int) (ys.map PyData.int) = decide (xs = ys)
  | [], [] => rfl
  | [], y :: ys => rfl
  | x :: xs, [] => rfl
  | x :: xs, y :: ys => by
    rw [List.map_cons, List.map_cons, PyData.eqvAll, eqvAllInts xs ys, PyData.eqv]
    by_cases h1 : x = y <;> by_cases h2 : xs = ys <;> simp [h1, h2]
theorem eqvLists (xs ys : List Int) : PyData.eqv (.list (xs.map PyData.int)) (.list (ys.map PyData.int)) = decide (xs = ys) := by
  rw [PyData.eqv, eqvAllInts]
theorem eqvTups (xs ys : List Int) : PyData.eqv (.tuple (xs.map PyData.int)) (.tuple (ys.map PyData.int)) = decide (xs = ys) := by
  rw [PyData.eqv, eqvAllInts]
/-- == and != of two lists of ints, two tuples of ints -/
theorem dpInts {K : PySem.W.Frag} {H : Hp} : ∀ cs : List Int, DpAll K H (cs.map V.int) (cs.map PyData.int)
  | [] => .nil
  | c :: cs => .cons (.int c) (dpInts cs)
theorem neLists {K : PySem.W.Frag} {H : Hp} {a b : Addr} {xs ys : List Int} {Q : VK} (ha : SqL K H a (xs.map V.int)) (hb : SqL K H b (ys.map V.int)) (h : Q (.bl (!decide (xs = ys))) H) : rNeD K (.ref a) (.ref b) H Q :=
  ⟨_, _, .lst ha (dpInts xs), .lst hb (dpInts ys), shapedInts xs, shapedInts ys, by rw [eqvLists]; exact h⟩
theorem eqLists {K : PySem.W.Frag} {H : Hp} {a b : Addr} {xs ys : List Int} {Q : VK} (ha : SqL K H a (xs.map V.int)) (hb : SqL K H b (ys.map V.int)) (h : Q (.bl (decide (xs = ys))) H) : rEqD K (.ref a) (.ref b) H Q :=
  ⟨_, _, .lst ha (dpInts xs), .lst hb (dpInts ys), shapedInts xs, shapedInts ys, by rw [eqvLists]; exact h⟩
theorem neTups {K : PySem.W.Frag} {H : Hp} {a b : Addr} {xs ys : List Int} {Q : VK} (ha : SqT K H a (xs.map V.int)) (hb : SqT K H b (ys.map V.int)) (h : Q (.bl (!decide (xs = ys))) H) : rNeD K (.ref a) (.ref b) H Q :=
  ⟨_, _, .tup ha (dpInts xs), .tup hb (dpInts ys), shapedIntsT xs, shapedIntsT ys, by rw [eqvTups]; exact h⟩
theorem eqTups {K : PySem.W.Frag} {H : Hp} {a b : Addr} {xs ys : List Int} {Q : VK} (ha : SqT K H a (xs.map V.int)) (hb : SqT K H b (ys.map V.int)) (h : Q (.bl (decide (xs = ys))) H) : rEqD K (.ref a) (.ref b) H Q :=
  ⟨_, _, .tup ha (dpInts xs), .tup hb (dpInts ys), shapedIntsT xs, shapedIntsT ys, by rw [eqvTups]; exact h⟩
/-! ### the readings' equations, for a walk by simp -/
section
variable {K : PySem.W.Frag} {H : Hp} {Q : VK} {i j : Int} {p : Addr} {x y : V} {k k' : Bool} {a b : Str} {lo hi : Option Int}
theorem q_isi {n : String} : rIsiV [x, .ty n] H Q = ∃ t b, vty H x = some t ∧ kitB t n = some b ∧ Q (.bl b) H := rfl
theorem q_vn : vty H .non = some "NoneType" := rfl
theorem q_vb : vty H (.bl k) = some "bool" := rfl
theorem q_vi : vty H (.int i) = some "int" := rfl
theorem q_vs : vty H (.str a) = some "str" := rfl
theorem q_int1 : rInt1 [.int i] H Q = Q (.int i) H := rfl
theorem q_int2 : rInt1 [.bl k] H Q = Q (.int (if k then 1 else 0)) H := rfl
theorem q_min : rMin2 [.int i, .int j] H Q = Q (.int (if j < i then j else i)) H := rfl
theorem q_max : rMax2 [.int i, .int j] H Q = Q (.int (if j > i then j else i)) H := rfl
theorem q_repr : rRepr1 [.int i] H Q = (i.natAbs.log2 < 1920 ∧ Q (.str (toString i)) H) := rfl
theorem q_ix : rIx1 K (.ref p) (.int i) H Q = ∃ xs v, SqL K H p xs ∧ atI xs i = some v ∧ Q v H := rfl
theorem q_sl : rSlM K (.ref p) lo hi H Q = ∃ xs, SqL K H p xs ∧ ∀ r, H r = none → Q (.ref r) (upd H r (.lst (cutV xs lo hi))) := rfl
theorem q_app : rAppM (.ref p) [y] H Q = ∃ xs, H p = some (.lst xs) ∧ xs.length < sizeLine ∧ Q .non (upd H p (.lst (xs ++ [y]))) := rfl
theorem q_pop : rPopM (.ref p) [] H Q = ∃ xs y, H p = some (.lst xs) ∧ xs[xs.length - 1]? = some y ∧ Q y (upd H p (.lst xs.dropLast)) := rfl
theorem q_sii : scal (.int i) (.int j) = true := rfl
theorem q_sss : scal (.str a) (.str b) = true := rfl
theorem q_sbb : scal (.bl k) (.bl k') = true := rfl
theorem q_snn : scal .non .non = true := rfl
theorem q_sns : scal .non (.str a) = true := rfl
theorem q_ssn : scal (.str a) .non = true := rfl
theorem dec_iff {A B : Prop} [Decidable A] [Decidable B] (h : A ↔ B) : decide A = decide B := by simp [h]
end

/-! ### the source of draws: d the pair, L its list, cs the great cells, z the blend -/
structure DealC (d L : Addr) (cs : List Int) (z : Int) (H : Hp) : Prop where
  d : H d = some (.lst [.ref L, .int z])
  l : H L = some (.lst (cs.map V.int))
  nn : ∀ c ∈ cs, 0 ≤ c
  z0 : 0 ≤ z
  z1 : z < 2147483647
  len : cs.length ≤ 63
def Deal (d L : Addr) (H : Hp) : Prop := ∃ cs z, DealC d L cs z H
/-- all but the source of draws is as it was, and this stands -/
structure Mv (d L : Addr) (H H' : Hp) : Prop where
  kp : ∀ b o, b ≠ d → b ≠ L → H b = some o → H' b = some o
  dl : Deal d L H'
theorem DealC.ne {d L : Addr} {cs : List Int} {z : Int} {H : Hp} (D : DealC d L cs z H) : d ≠ L := fun e => by
  have a := D.d
  rw [e, D.l] at a
  cases cs with
  | nil => cases a
  | cons c cs =>
    have b := List.cons.inj (HO.lst.inj (Option.some.inj a))
    cases b.1
theorem Deal.ne {d L : Addr} {H : Hp} (D : Deal d L H) : d ≠ L := D.elim fun _ h => h.elim fun _ D => D.ne
theorem DealC.ex {d L : Addr} {cs : List Int} {z : Int} {H H' : Hp} (D : DealC d L cs z H) (e : Ex H H') : DealC d L cs z H' := ⟨e _ _ D.d, e _ _ D.l, D.nn, D.z0, D.z1, D.len⟩
theorem Deal.ex {d L : Addr} {H H' : Hp} (D : Deal d L H) (e : Ex H H') : Deal d L H' := by
  obtain ⟨cs, z, D⟩ := D
  exact ⟨cs, z, D.ex e⟩
theorem Mv.of_ex {d L : Addr} {H H' : Hp} (D : Deal d L H) (e : Ex H H') : Mv d L H H' := ⟨fun _ _ _ _ h => e _ _ h, D.ex e⟩
theorem Mv.refl {d L : Addr} {H : Hp} (D : Deal d L H) : Mv d L H H := .of_ex D (Ex.refl H)
theorem Mv.trans {d L : Addr} {H H1 H2 : Hp} (a : Mv d L H H1) (b : Mv d L H1 H2) : Mv d L H H2 := ⟨fun x o h1 h2 h => b.kp x o h1 h2 (a.kp x o h1 h2 h), b.dl⟩
theorem Mv.tex {d L : Addr} {H H1 H2 : Hp} (a : Mv d L H H1) (e : Ex H1 H2) : Mv d L H H2 := a.trans (.of_ex a.dl e)
theorem Mv.new {d L : Addr} {H H1 : Hp} {p : Addr} {o : HO} (a : Mv d L H H1) (h : H1 p = none) : Mv d L H (upd H1 p o) := a.tex (Ex.new h)
/-- a new place is not the source's -/
theorem Deal.off {d L : Addr} {H : Hp} {p : Addr} (D : Deal d L H) (h : H p = none) : p ≠ d ∧ p ≠ L := by
  obtain ⟨cs, z, D⟩ := D
  exact ⟨fun e => (by rw [e, D.d] at h; cases h), fun e => (by rw [e, D.l] at h; cases h)⟩
theorem Deal.offL {d L : Addr} {H : Hp} {p : Addr} {xs : List Int} (D : Deal d L H) (h : H p = some (.lst (xs.map V.int))) : p ≠ d := fun e => by
  obtain ⟨cs, z, D⟩ := D
  rw [e, D.d] at h
  cases xs with
  | nil => cases h
  | cons c cs =>
    have b := List.cons.inj (HO.lst.inj (Option.some.inj h))
    cases b.1
theorem Mv.free {d L : Addr} {H H' : Hp} {p : Addr} (a : Mv d L H H') (h : H' p = none) : H p = none := by
  have o := a.dl.off h
  cases h1 : H p with
  | none => rfl
  | some u => rw [a.kp p u o.1 o.2 h1] at h; cases h
theorem Mv.mut {d L : Addr} {H H' : Hp} {D : Addr} {o : HO} (a : Mv d L H H') (h : H D = none) (h1 : D ≠ d) (h2 : D ≠ L) : Mv d L H (upd H' D o) := by
  obtain ⟨kp, cs, z, D'⟩ := a
  exact ⟨fun b u x1 x2 e => by rw [upd_ne (ne_of_none e h)]; exact kp b u x1 x2 e, cs, z, ⟨by rw [upd_ne h1.symm]; exact D'.d, by rw [upd_ne h2.symm]; exact D'.l, D'.nn, D'.z0, D'.z1, D'.len⟩⟩
/-- a slice of a list of ints -/
theorem cut_ints (ns : List Int) (lo hi : Option Int) : ∃ ms : List Int, cutV (ns.map V.int) lo hi = ms.map V.int ∧ (∀ x ∈ ms, x ∈ ns) ∧ ms.length ≤ ns.length := by
  refine ⟨(ns.drop (HT.sIx ns.length 0 lo)).take (HT.sIx ns.length ns.length hi - HT.sIx ns.length 0 lo), ?_, fun x hx => List.mem_of_mem_drop (List.mem_of_mem_take hx), ?_⟩
  · unfold cutV
    rw [List.length_map, ← List.map_drop, ← List.map_take]
  · rw [List.length_take, List.length_drop]; omega
theorem cut_hi (ns : List Int) (k : Nat) : cutV (ns.map V.int) none (some (k : Int)) = (ns.take k).map V.int := by
  unfold cutV
  rw [List.length_map, HT.sIx_none, HT.sIx_nat, List.drop_zero, Nat.sub_zero, ← List.map_take]
  congr 1
  by_cases h : k ≤ ns.length
  · rw [Nat.min_eq_left h]
  · rw [Nat.min_eq_right (by omega), List.take_of_length_le (by omega), List.take_of_length_le (by omega)]
end My
set_option maxRecDepth 10000
set_option exponentiation.threshold 5000
/-! the mathematics of figures -/
namespace My
theorem div_lt {n b : Int} (hb : 2 ≤ b) (hn : 0 < n) : n / b < n := by
  refine Int.ediv_lt_of_lt_mul (by omega) ?_
  have h := Int.mul_le_mul_of_nonneg_left hb (Int.le_of_lt hn)
  omega
theorem div_nn {n b : Int} (hb : 2 ≤ b) (hn : 0 ≤ n) : 0 ≤ n / b := Int.ediv_nonneg hn (by omega)
theorem mod_nn {n b : Int} (hb : 2 ≤ b) : 0 ≤ n % b := Int.emod_nonneg n (by omega)
theorem mod_lt {n b : Int} (hb : 2 ≤ b) : n % b < b := Int.emod_lt_of_pos n (by omega)
theorem div_pos_iff {n b : Int} (hb : 2 ≤ b) (hn : 0 ≤ n) : 0 < n / b ↔ b ≤ n := by
  constructor
  · intro h
    by_cases hlt : n < b
    · rw [Int.ediv_eq_zero_of_lt hn hlt] at h; omega
    · omega
  · intro h
    have h1 : 1 ≤ n / b := (Int.le_ediv_iff_mul_le (by omega)).mpr (by omega)
    omega
/-- the figures, the last one first -/
def digs (b n : Int) : List Int :=
  if h : 2 ≤ b ∧ b ≤ n then n % b :: digs b (n / b) else [n]
termination_by n.toNat
decreasing_by
  have := div_lt h.1 (show 0 < n by omega)
  have := div_nn h.1 (show 0 ≤ n by omega)
  omega
theorem digs_ge {b n : Int} (hb : 2 ≤ b) (h : b ≤ n) : digs b n = n % b :: digs b (n / b) := by
  rw [digs]; rw [dif_pos ⟨hb, h⟩]
theorem digs_lt {b n : Int} (h : n < b) : digs b n = [n] := by
  rw [digs]; rw [dif_neg (by omega)]
/-- an induction over the figures -/
theorem digs_ind {b : Int} (hb : 2 ≤ b) {P : Int → Prop} (h0 : ∀ n, 0 ≤ n → n < b → P n) (h1 : ∀ n, b ≤ n → P (n / b) → P n) : ∀ n, 0 ≤ n → P n := by
  have key : ∀ k : Nat, ∀ n : Int, 0 ≤ n → n.toNat ≤ k → P n := by
    intro k
    induction k with
    | zero => intro n hn hk; exact h0 n hn (by omega)
    | succ k ih =>
      intro n hn hk
      by_cases h : b ≤ n
      · have a1 := div_lt hb (show 0 < n by omega)
        have a2 := div_nn hb hn
        exact h1 n h (ih _ a2 (by omega))
      · exact h0 n hn (by omega)
  exact fun n hn => key n.toNat n hn (Nat.le_refl _)
def figs (b n : Int) : List Int := (digs b n).reverse
theorem digs_mem {b : Int} (hb : 2 ≤ b) : ∀ n, 0 ≤ n → ∀ x ∈ digs b n, 0 ≤ x ∧ x < b :=
  digs_ind hb (fun n h0 h x hx => by
    rw [digs_lt h] at hx
    have := List.mem_singleton.mp hx
    omega) (fun n h ih x hx => by
    rw [digs_ge hb h] at hx
    rcases List.mem_cons.mp hx with e | hx
    · subst e; exact ⟨mod_nn hb, mod_lt hb⟩
    · exact ih x hx)
theorem figs_mem {b : Int} (hb : 2 ≤ b) {n : Int} (hn : 0 ≤ n) : ∀ x ∈ figs b n, 0 ≤ x ∧ x < b := fun x hx =>
  digs_mem hb n hn x (List.mem_reverse.mp hx)
theorem digs_sum {b : Int} (hb : 2 ≤ b) : ∀ n, 0 ≤ n → 0 ≤ (digs b n).sum ∧ (digs b n).sum ≤ n :=
  digs_ind hb (fun n h0 h => by rw [digs_lt h]; simp; omega) (fun n h ih => by
    rw [digs_ge hb h, List.sum_cons]
    have e := Int.emod_add_mul_ediv n b
    have q0 := div_nn hb (show 0 ≤ n by omega)
    have m := Int.mul_le_mul_of_nonneg_right hb q0
    have r0 := mod_nn (n := n) hb
    omega)
theorem sum_rev (l : List Int) : l.reverse.sum = l.sum := by
  induction l with
  | nil => rfl
  | cons a l ih => rw [List.reverse_cons, List.sum_append, List.sum_cons, ih]; simp; omega
theorem figs_sum {b : Int} (hb : 2 ≤ b) {n : Int} (hn : 0 ≤ n) : 0 ≤ (figs b n).sum ∧ (figs b n).sum ≤ n := by
  unfold figs; rw [sum_rev]; exact digs_sum hb n hn
theorem figs_sum_lt {b : Int} (hb : 2 ≤ b) {n : Int} (h : b ≤ n) : (figs b n).sum < n := by
  unfold figs; rw [sum_rev, digs_ge hb h, List.sum_cons]
  have e := Int.emod_add_mul_ediv n b
  have q0 := (div_pos_iff hb (show 0 ≤ n by omega)).mpr h
  have m := Int.mul_le_mul_of_nonneg_right hb (Int.le_of_lt q0)
  have s := (digs_sum hb (n / b) (by omega)).2
  omega
theorem figs_one {b n : Int} (h : n < b) : (figs b n).sum = n := by
  unfold figs; rw [digs_lt h]; simp
theorem digs_len {b : Int} (hb : 2 ≤ b) : ∀ n, 0 ≤ n → ∀ k : Nat, n < 2 ^ k → (digs b n).length ≤ k + 1 := by
  refine digs_ind hb (fun n h0 h k hk => ?_) (fun n h ih k hk => ?_)
  · rw [digs_lt h]; simp
  · rw [digs_ge hb h, List.length_cons]
    cases k with
    | zero => simp at hk; omega
    | succ k =>
      have : n / b < 2 ^ k := by
        refine Int.ediv_lt_of_lt_mul (by omega) ?_
        have m := Int.mul_le_mul_of_nonneg_left hb (show (0 : Int) ≤ 2 ^ k from Int.le_of_lt (Int.pow_pos (by decide)))
        rw [Int.pow_succ] at hk
        omega
      have := ih k this
      omega
theorem figs_len {b : Int} (hb : 2 ≤ b) {n : Int} (hn : 0 ≤ n) {k : Nat} (h : n < 2 ^ k) : (figs b n).length ≤ k + 1 := by
  unfold figs; rw [List.length_reverse]; exact digs_len hb n hn k h
/-- the number with these figures -/
def written (b : Int) (l : List Int) : Int := l.foldl (fun a x => a * b + x) 0
end My
namespace My
/-- the root: sums of figures until there is one -/
def rootN (b n : Int) : Int := if h : 2 ≤ b ∧ b ≤ n then rootN b (figs b n).sum else n
termination_by n.toNat
decreasing_by
  have := figs_sum_lt h.1 h.2
  have := (figs_sum h.1 (show 0 ≤ n by omega)).1
  omega
theorem rootN_ge {b n : Int} (hb : 2 ≤ b) (h : b ≤ n) : rootN b n = rootN b (figs b n).sum := by
  rw [rootN, dif_pos ⟨hb, h⟩]
theorem rootN_lt {b n : Int} (h : n < b) : rootN b n = n := by
  rw [rootN, dif_neg (by omega)]
theorem rootN_sum {b n : Int} (hb : 2 ≤ b) : rootN b (figs b n).sum = rootN b n := by
  by_cases h : b ≤ n
  · exact (rootN_ge hb h).symm
  · rw [figs_one (by omega)]
theorem rootN_bd {b : Int} (hb : 2 ≤ b) : ∀ k : Nat, ∀ n : Int, n.toNat ≤ k → 0 ≤ n → 0 ≤ rootN b n ∧ rootN b n ≤ n
  | 0, n, hk, hn => by
    rw [rootN_lt (by omega)]; omega
  | k + 1, n, hk, hn => by
    by_cases h : b ≤ n
    · have a := figs_sum_lt hb h
      have c := (figs_sum hb hn).1
      have d := rootN_bd hb k (figs b n).sum (by omega) c
      rw [rootN_ge hb h]; omega
    · rw [rootN_lt (by omega)]; omega
theorem rootN_le {b n : Int} (hb : 2 ≤ b) (hn : 0 ≤ n) : 0 ≤ rootN b n ∧ rootN b n ≤ n := rootN_bd hb n.toNat n (Nat.le_refl _) hn
end My
namespace My
theorem written_snoc (b : Int) (l : List Int) (x : Int) : written b (l ++ [x]) = written b l * b + x := by
  unfold written; rw [List.foldl_append]; rfl
theorem written_bd {b : Int} (hb : 1 ≤ b) (l : List Int) : (∀ x ∈ l, 0 ≤ x ∧ x < b) → 0 ≤ written b l ∧ written b l < b ^ l.length := by
  intro h
  have key : ∀ k : Nat, k ≤ l.length → 0 ≤ written b (l.take k) ∧ written b (l.take k) < b ^ k := by
    intro k
    induction k with
    | zero => intro _; simp [written]
    | succ k ih =>
      intro hk
      have hx : k < l.length := by omega
      have e : l.take (k + 1) = l.take k ++ [l[k]] := by rw [List.take_add_one, List.getElem?_eq_getElem hx]; rfl
      have i := ih (by omega)
      have m := h l[k] (List.getElem_mem hx)
      rw [e, written_snoc, Int.pow_succ]
      have a1 := Int.mul_nonneg i.1 (show 0 ≤ b by omega)
      have a2 := Int.mul_le_mul_of_nonneg_right (show written b (l.take k) + 1 ≤ b ^ k by omega) (show 0 ≤ b by omega)
      rw [Int.add_mul] at a2
      omega
  have := key l.length (Nat.le_refl _)
  rw [List.take_length] at this
  exact this
theorem take_snoc {l : List Int} {i : Nat} {x : Int} (h : l[i]? = some x) : l.take (i + 1) = l.take i ++ [x] := by
  rw [List.take_add_one, h]; rfl
theorem pow_le_of {b : Int} (hb : 2 ≤ b) (k : Nat) : (2 : Int) ^ k ≤ b ^ k := by
  induction k with
  | zero => simp
  | succ k ih =>
    rw [Int.pow_succ, Int.pow_succ]
    have p : (0 : Int) ≤ 2 ^ k := Int.le_of_lt (Int.pow_pos (by decide))
    have a := Int.mul_le_mul_of_nonneg_left hb p
    have c := Int.mul_le_mul_of_nonneg_right ih (show 0 ≤ b by omega)
    omega
theorem pow_mono {b : Int} (hb : 1 ≤ b) {i j : Nat} (h : i ≤ j) : b ^ i ≤ b ^ j := by
  induction j with
  | zero => have : i = 0 := by omega
            subst this; exact Int.le_refl _
  | succ j ih =>
    by_cases e : i = j + 1
    · subst e; exact Int.le_refl _
    · have a := ih (by omega)
      have p : (0 : Int) < b ^ j := Int.pow_pos (by omega)
      rw [Int.pow_succ]
      have c := Int.mul_le_mul_of_nonneg_left hb (Int.le_of_lt p)
      omega
theorem pow_small {k n : Nat} (h : (2 : Int) ^ k < 2 ^ n) : k < n := by
  by_cases e : k < n
  · exact e
  · have := pow_mono (b := 2) (by decide) (show n ≤ k by omega)
    omega
end My
namespace My
theorem figs27 : (figs 2 7).sum = 3 := by
  unfold figs; rw [sum_rev, digs_ge (by decide) (by decide), digs_ge (by decide) (by decide), digs_lt (by decide)]; decide
theorem figs23 : (figs 2 3).sum = 2 := by
  unfold figs; rw [sum_rev, digs_ge (by decide) (by decide), digs_lt (by decide)]; decide
theorem figs22 : (figs 2 2).sum = 1 := by
  unfold figs; rw [sum_rev, digs_ge (by decide) (by decide), digs_lt (by decide)]; decide
theorem root27 : rootN 2 7 = 1 := by
  rw [rootN_ge (by decide) (by decide), figs27, rootN_ge (by decide) (by decide), figs23, rootN_ge (by decide) (by decide), figs22, rootN_lt (by decide)]
end My
namespace My
theorem digs_ne (b n : Int) : digs b n ≠ [] := by
  rw [digs]; split <;> simp
theorem figs_ne (b n : Int) : figs b n ≠ [] := by
  unfold figs; intro h; exact digs_ne b n (List.reverse_eq_nil_iff.mp h)
theorem figs_pos (b n : Int) : 0 < (figs b n).length := List.length_pos_iff.mpr (figs_ne b n)
/-- b to the number of figures is at most b times the number, or b -/
theorem digs_pow {b : Int} (hb : 2 ≤ b) : ∀ n, 0 ≤ n → b ^ (digs b n).length ≤ b * n ∨ ((digs b n).length = 1 ∧ n < b) := by
  refine digs_ind hb (fun n h0 h => .inr ⟨by rw [digs_lt h]; rfl, h⟩) (fun n h ih => .inl ?_)
  rw [digs_ge hb h, List.length_cons, Int.pow_succ]
  have q1 := (div_pos_iff hb (show 0 ≤ n by omega)).mpr h
  have e := Int.emod_add_mul_ediv n b
  have r0 := mod_nn (n := n) hb
  have key : b ^ (digs b (n / b)).length ≤ b * (n / b) := by
    rcases ih with h1 | ⟨h1, _⟩
    · exact h1
    · rw [h1, Int.pow_succ, Int.pow_zero, Int.one_mul]
      have := Int.mul_le_mul_of_nonneg_left (show 1 ≤ n / b by omega) (show 0 ≤ b by omega)
      omega
  have a := Int.mul_le_mul_of_nonneg_right key (show 0 ≤ b by omega)
  have c := Int.mul_le_mul_of_nonneg_left (show b * (n / b) ≤ n by omega) (show 0 ≤ b by omega)
  rw [Int.mul_comm b (b * (n / b))] at c
  omega
theorem figs_pow {b n : Int} (hb : 2 ≤ b) (hn : 0 ≤ n) : b ^ (figs b n).length ≤ b * n ∨ ((figs b n).length = 1 ∧ n < b) := by
  unfold figs; rw [List.length_reverse]; exact digs_pow hb n hn
theorem figs_bound {b n B : Int} (hb : 2 ≤ b) (hn : 0 ≤ n) (h1 : b * n ≤ B) (h2 : b ≤ B) : b ^ (figs b n).length ≤ B := by
  rcases figs_pow hb hn with h | ⟨h, _⟩
  · omega
  · rw [h, Int.pow_succ, Int.pow_zero, Int.one_mul]; exact h2
/-- the k-th figure from behind -/
def figAt (b n : Int) (k : Nat) : Int := if k < (figs b n).length then (figs b n).getD ((figs b n).length - 1 - k) 0 else 0
end My
namespace My
theorem figs_small {b n : Int} (h : n < b) : figs b n = [n] := by unfold figs; rw [digs_lt h]; rfl
end My
namespace My
theorem fig_lens {b n : Int} (n0 : 0 ≤ n) (n1 : n < 2 ^ 240) (b0 : 2 ≤ b) (b1 : b < 2 ^ 110) : (figs b n).length ≤ 241 ∧ b ^ (figs b n).length ≤ 2 ^ 350 := by
  refine ⟨figs_len b0 n0 (k := 240) n1, figs_bound b0 n0 ?_ (by omega)⟩
  have a := Int.mul_le_mul (show b ≤ 2 ^ 110 by omega) (show n ≤ 2 ^ 240 by omega) n0 (by decide)
  exact Int.le_trans a (by decide)
theorem part_ok {b n : Int} (n0 : 0 ≤ n) (n1 : n < 2 ^ 240) (b0 : 2 ≤ b) (b1 : b < 2 ^ 110) {xs : List Int} (hm : ∀ x ∈ xs, x ∈ figs b n) (hl : xs.length ≤ (figs b n).length) :
    (∀ x ∈ xs, 0 ≤ x ∧ x < b) ∧ xs.length ≤ 1000 ∧ b ^ xs.length ≤ 2 ^ 800 := by
  obtain ⟨a, c⟩ := fig_lens n0 n1 b0 b1
  have d := pow_mono (b := b) (by omega) hl
  exact ⟨fun x hx => figs_mem b0 n0 x (hm x hx), by omega, by omega⟩
theorem two_ok {b n o : Int} (n0 : 0 ≤ n) (n1 : n < 2 ^ 240) (o0 : 0 ≤ o) (o1 : o < 2 ^ 240) (b0 : 2 ≤ b) (b1 : b < 2 ^ 110) :
    (∀ x ∈ figs b n ++ figs b o, 0 ≤ x ∧ x < b) ∧ (figs b n ++ figs b o).length ≤ 1000 ∧ b ^ (figs b n ++ figs b o).length ≤ 2 ^ 800 := by
  obtain ⟨a1, a2⟩ := fig_lens n0 n1 b0 b1
  obtain ⟨c1, c2⟩ := fig_lens o0 o1 b0 b1
  refine ⟨fun x hx => ?_, by rw [List.length_append]; omega, ?_⟩
  · rcases List.mem_append.mp hx with hx | hx
    · exact figs_mem b0 n0 x hx
    · exact figs_mem b0 o0 x hx
  · rw [List.length_append, Int.pow_add]
    have p : (0 : Int) < b ^ (figs b o).length := Int.pow_pos (by omega)
    exact Int.le_trans (Int.mul_le_mul a2 c2 (Int.le_of_lt p) (by decide)) (by decide)
/-- the list in ascending order -/
def asc (l : List Int) : List Int := l.mergeSort
theorem asc_perm (l : List Int) : (asc l).Perm l := List.mergeSort_perm l _
theorem asc_sorted (l : List Int) : (asc l).Pairwise (· ≤ ·) := by
  have h := List.pairwise_mergeSort (le := fun a b : Int => decide (a ≤ b)) (fun a b c h1 h2 => decide_eq_true (Int.le_trans (of_decide_eq_true h1) (of_decide_eq_true h2)))
    (fun a b => by rcases Int.le_total a b with h | h <;> simp [h]) l
  exact h.imp fun h => of_decide_eq_true h
theorem sorted_eq : ∀ {l m : List Int}, l.Perm m → l.Pairwise (· ≤ ·) → m.Pairwise (· ≤ ·) → l = m := fun h a b =>
  h.eq_of_pairwise (fun _ _ _ _ => Int.le_antisymm) a b
theorem eq_asc {l m : List Int} (h : l.Perm m) (s : l.Pairwise (· ≤ ·)) : l = asc m :=
  sorted_eq (h.trans (asc_perm m).symm) s (asc_sorted m)
theorem eq_desc {l m : List Int} (h : l.Perm m) (s : l.Pairwise (· ≥ ·)) : l = (asc m).reverse := by
  have h2 : l.reverse = asc m := eq_asc ((List.reverse_perm l).trans h) (List.pairwise_reverse.mpr s)
  rw [← h2, List.reverse_reverse]
theorem asc_mem {l : List Int} {x : Int} (h : x ∈ asc l) : x ∈ l := (asc_perm l).mem_iff.mp h
theorem asc_len (l : List Int) : (asc l).length = l.length := (asc_perm l).length_eq
/-- as many unlike things as things: all are unlike -/
theorem nodup_of_len {α : Type} [DecidableEq α] : ∀ (K ns : List α), K.Nodup → (∀ k ∈ K, k ∈ ns) → K.length = ns.length → (∀ x ∈ ns, x ∈ K) ∧ ns.Nodup
  | [], ns, _, _, h => by
    have : ns = [] := List.length_eq_zero_iff.mp h.symm
    subst this
    exact ⟨fun x hx => (by cases hx), List.nodup_nil⟩
  | k :: K, ns, nd, hs, h => by
    have hk := hs k (List.mem_cons_self ..)
    have nd2 := List.nodup_cons.mp nd
    have ih := nodup_of_len K (ns.erase k) nd2.2 (fun x hx => (List.mem_erase_of_ne (fun (e : x = k) => nd2.1 (e ▸ hx))).mpr (hs x (List.mem_cons_of_mem _ hx))) (by
      rw [List.length_erase_of_mem hk]
      rw [List.length_cons] at h
      omega)
    have p := List.perm_cons_erase hk
    have hnot : k ∉ ns.erase k := fun hh => nd2.1 (ih.1 k hh)
    refine ⟨fun x hx => ?_, p.nodup_iff.mpr (List.nodup_cons.mpr ⟨hnot, ih.2⟩)⟩
    rcases List.mem_cons.mp (p.mem_iff.mp hx) with e | hx
    · exact e ▸ List.mem_cons_self ..
    · exact List.mem_cons_of_mem _ (ih.1 x hx)
theorem nodup_le {α : Type} [DecidableEq α] : ∀ (K ns : List α), K.Nodup → (∀ k ∈ K, k ∈ ns) → K.length ≤ ns.length
  | [], _, _, _ => Nat.zero_le _
  | k :: K, ns, nd, hs => by
    have hk := hs k (List.mem_cons_self ..)
    have nd2 := List.nodup_cons.mp nd
    have ih := nodup_le K (ns.erase k) nd2.2 (fun x hx => (List.mem_erase_of_ne (fun (e : x = k) => nd2.1 (e ▸ hx))).mpr (hs x (List.mem_cons_of_mem _ hx)))
    rw [List.length_erase_of_mem hk] at ih
    have := List.length_pos_of_mem hk
    rw [List.length_cons]
    omega
end My
namespace My
theorem pow_left {b c : Int} (h0 : 0 ≤ b) (h : b ≤ c) (k : Nat) : b ^ k ≤ c ^ k := by
  induction k with
  | zero => simp
  | succ k ih =>
    rw [Int.pow_succ, Int.pow_succ]
    have p : (0 : Int) ≤ b ^ k := Int.pow_nonneg h0
    exact Int.mul_le_mul ih h h0 (Int.le_trans p ih)
theorem digs_eq_rev (b n : Int) : (figs b n).reverse = digs b n := by unfold figs; rw [List.reverse_reverse]
end My
namespace My
theorem nodup_snoc {α : Type} {l : List α} {x : α} : (l ++ [x]).Nodup ↔ l.Nodup ∧ x ∉ l := by
  rw [(List.perm_append_comm (l₁ := l) (l₂ := [x])).nodup_iff, List.singleton_append, List.nodup_cons]
  exact And.comm
end My
set_option Elab.async false
set_option linter.all false
set_option maxRecDepth 100000
set_option maxHeartbeats 4000000
/-! defs that are called while no repr is under way: the promise of a def, its body, its call, the law's end -/
namespace My
open PySem PySem.Spec PyProof.Rows L2 Evl
structure FnG (P : Program) (w : World) (K : PySem.W.Frag) (mg : Str → Option Value) (base : Heap) (CX : CXT) (k : Nat) (f : Addr) (fd : FuncData) (ps : List Str) (sp : Sp) : Prop where
  len : ∀ xs G R W, sp xs G R W → xs.length = ps.length
  run : ∀ (B : Around) (out : List Env) (z : Shared) (G : Hp) (ar : Args) (us : List Value) (xs : List V) (R : VK) (W : XK), B.guards = some [] → Room k B →
    Env0 P w K mg base B out z G → BindsTo z fd ar (ps.zip us) → Vals xs us → sp xs G R W → codeAny (model P w) B (.call (.ref f) ar) (CR CX out P w G z R W) z
section
variable {P : Program} {w : World} {K : PySem.W.Frag} {mg : Str → Option Value} {base : Heap} {CX : CXT}
theorem FnG.of_ok {k : Nat} {f : Addr} {fd : FuncData} {ps : List Str} {sp : Sp} (F : FnOk P w K mg base CX k f fd ps sp) : FnG P w K mg base CX k f fd ps sp :=
  ⟨F.len, fun B out z G ar us xs R W _ => F.run B out z G ar us xs R W⟩
/-- a def by its body, as Fun.ok; hgd is handed to the body -/
theorem okG {x qual : Str} {st : Stmt} {f : Addr} {fd : FuncData} {N ps : List Str} {k : Nat} {sp : Sp} (F : Fun K x qual st f fd) (S : FnScope N ps (defScope st))
    (len : ∀ xs G R W, sp xs G R W → xs.length = ps.length)
    (body : ∀ (cdv : Value) (B : Around) (out : List Env) (z : Shared) (G : Hp) (xs : List V) (R : VK) (W : XK), B.guards = some [] →
      Room k (B.deeper (envOfC qual (defScope st) z.heap.objs.size f cdv)) → sp xs G R W →
      ∃ t, PSs (cxOf CX P w K mg base N qual (defScope st) f cdv B out z G W).nox (defBody st) t ∧ t { nx := fun _ G' => R .non G', rt := R } (L2.start N xs) G) :
    FnG P w K mg base CX (k + 1) f fd ps sp := by
  obtain ⟨oc, od, kV, doc, pm, an, cdv, ct, osl, rfl, lk, hcd⟩ := F.ex
  refine ⟨len, fun B out z G ar us xs R W hgd hr env hb rv hsp => ?_⟩
  have hin : K.In z.heap := env.mod.kin.keeps fun b o e => (env.bs b o e).1
  have hlim : z.heap.NoLimit := env.mod.nolimit.keeps fun b o e => (env.bs b o e).1
  refine codeAny_call_function hr.depth (hin _ _ lk) rfl S.co S.gen rfl (PySem.W.codeRec_of hin hcd) (hb _ _ _ _ ?_)
  refine wpAny_newFunctionEnv_cells S.kind (fun ⟨n, v⟩ hy => ?_) fun e2 he z1 ic => ?_
  · rcases S.par n (List.of_mem_zip hy).1 with h | h
    · exact .inl h
    · exact .inr ⟨h, PySem.W.cellsFrom_some _ _ _ (.inl h)⟩
  subst he
  refine ⟨hlim.keeps ic.toInCall.keep, codeAny_func ?_⟩
  obtain ⟨t, ht, hq⟩ := body cdv B out z G xs R W hgd (hr.deeper _) hsp
  have inv := inv_start (CX := CX) (P := P) (w := w) (K := K) (mg := mg) (base := base) (E := W) S hr.hd env (len _ _ _ _ hsp) rv ic
  refine wpAny_mono (ht.nox.run [] z1 (L2.start N xs) G _ inv hq) (fun fl z' hz => ?_) fun _ _ hz => hz
  cases fl with
  | ret u => obtain ⟨v, σ', G', J, r2, q⟩ := hz; exact ⟨v, G', J.os, J.bare, J.base, J.hok, r2, q⟩
  | next => obtain ⟨σ', G', J, q⟩ := hz; exact ⟨V.non, G', J.os, J.bare, J.base, J.hok, rfl, q⟩
  | brk => obtain ⟨_, _, _, q⟩ := hz; exact q.elim
  | cont => obtain ⟨_, _, _, q⟩ := hz; exact q.elim
end
section
variable {X : Cx} {CX : CXT} {k : Nat} {f : Addr} {fd : FuncData} {ps : List Str} {sp : Sp} {dvs : List V} {ds : List Value} {E : XK} {x : Str} {p pos : Pos} {e : Expr} {es : List Expr} {t : TA}
/-- its call by its name -/
theorem pe_callG (F : FnG X.prog X.w X.K X.mg X.base CX k f fd ps sp) (hgd : X.A.guards = some []) (hr : Room k X.A) (hg : Gl X x) (hm : X.mg x = some (.ref f)) (hk : PySem.W.keepIn X.K (.ref f) = true)
    (hb : Binds X.K fd ps ds) (hd : Vals dvs ds) (hx : Passes CX X E) (ha : PA X (e :: es) t) (hdb : (x == ("__debug__" : Str)) = false := by decide)
    (he : starEach (e :: es) X.env = (false, eval e X.env) :: starEach es X.env := by rfl) (hpl : (backTo pos (starEach es X.env)).any (·.1) = false := by rfl) :
    PE X (.Call (.Name x p) (e :: es) [] pos) (tCall sp dvs E t) := by
  refine ⟨fun pins s σ H Q I h => wpAny_Call_Name_kw (ld_glob I hg hm ?_ hdb)⟩
  refine PySem.W.callWith_K (h₀ := X.base) I.ok.mod.kin hk (thn (ha.run pos pins s σ H _ I h) fun us s1 ⟨vs, H1, I1, r, q⟩ => ⟨I1.kIn, ?_⟩) he hpl
  have r2 := r.append hd
  have hl : (us ++ ds).length = ps.length := by rw [← r2.length]; exact F.len _ _ _ _ q
  refine wpAny_call (codeAny_mono (F.run X.A X.stack s1 H1 ⟨us, []⟩ _ _ Q E hgd hr I1.env0 (hb s1 us I1.kIn hl) r2 q) fun r s' hq => ?_)
  cases r with
  | error e => exact hx pins σ H1 s1 e s' I1 hq
  | ok fl =>
    cases fl with
    | ret u => exact I1.after hq
    | next => exact hq.elim
    | brk => exact hq.elim
    | cont => exact hq.elim
end
theorem huD {k : Nat} {A : Around} (hr : Room k A) : A.units + 200 < cLine := Nat.lt_of_le_of_lt (by omega) hr.un
section
variable {X : Cx}
/-- repr of data of any depth, while no repr is under way -/
def rReprD (K : PySem.W.Frag) : List V → Hp → VK → Prop := fun vs H Q => ∃ v d, vs = [v] ∧ Dp K H v d ∧ d.showable = true ∧ d.hasDict = false ∧ d.depth ≤ 100 ∧ d.shown.length ≤ sizeLine ∧ Q (.str d.shown) H
theorem call_reprD (hgd : X.A.guards = some []) (hu : X.A.units + 200 < cLine) : CallR X (.builtin "repr") (rReprD X.K) := by
  intro pins s σ H vs us Q I r h
  obtain ⟨v, d, rfl, hd, h1, h2, h3, h4, q⟩ := h
  obtain ⟨u, rfl, ru⟩ := vals1 r
  obtain ⟨as, rd⟩ := Dp.reads I d v u hd ru
  cases hd with
  | non => cases ru; exact PySem.P.repr_of_none ⟨.str _, H, I.tok _, ⟨_, rfl⟩, q⟩
  | bl b => cases ru; exact PySem.P.repr_of_bool ⟨.str _, H, I.tok _, ⟨_, rfl⟩, q⟩
  | int i => obtain ⟨t, rfl⟩ := ru; exact PySem.P.repr_of_int (of_decide_eq_true h1) ⟨.str _, H, I.tok _, ⟨_, rfl⟩, q⟩
  | str x => obtain ⟨t, rfl⟩ := ru; exact PySem.P.repr_of_str ⟨.str _, H, I.tok _, ⟨_, rfl⟩, q⟩ h4
  | lst _ _ =>
    cases ru
    exact repr_of_reads' rd h1 (PyData.noDict_hsm h2) hgd (by omega) (fun _ _ e => e) (fun h' u tk hk => ⟨.str _, H, I.kept hk, ⟨_, rfl⟩, q⟩) h4
  | tup _ _ =>
    cases ru
    exact repr_of_reads' rd h1 (PyData.noDict_hsm h2) hgd (by omega) (fun _ _ e => e) (fun h' u tk hk => ⟨.str _, H, I.kept hk, ⟨_, rfl⟩, q⟩) h4
end

/-! ### the law's end, with a promise that knows that no repr is under way -/
section
variable {P : Program} {w : World} {K : PySem.W.Frag} {mg mb : Str → Option Value} {CX : CXT}
theorem lawG {k : Nat} {fa a : Addr} {fd : FuncData} {x : Str} {sp : Sp} {z : Shared} {us : List Value} {ns : List Int} (hin : K.In z.heap) (hns : z.heap.Ns mainGlobals mg) (hb : z.heap.Ns builtinsNs mb)
    (hbb : ∀ y : Str, y ≠ "__name__" → mb y = bootBuiltins y) (hlim : z.heap.NoLimit) (hg : z.gens = #[]) (ha : z.heap.get? a = some { cls := .type "list", data := .seq us.toArray }) (hi : IntsAre us ns) (hl : ns.length ≤ sizeLine)
    (hr : Room k callerA) (F : ∀ bs : Heap, K.In bs → bs.Ns mainGlobals mg → FnG P w K mg bs CX k fa fd [x] sp) (hbind : ∀ (t : Shared) (u : Value), BindsTo t fd ⟨[u], []⟩ [(x, u)])
    (hsp : ∀ G : Hp, Only G → SqL K G a (ns.map V.int) → sp [.ref a] G (fun v _ => v = .bl true) fun _ _ _ => False) (hCX : ∀ G e t, CX [] G z (fun _ _ _ => False) e t → False) :
    codeAny (model P w) callerA (.call (.ref fa) ⟨[.ref a], []⟩) (fun r t => r = .ok (.ret (.bool true)) ∧ OldK z.heap t.heap ∧ t.os = z.os ∧ AllBare t.gens) z := by
  have rv := vals_ints hi
  have hlen : us.toArray.size ≤ sizeLine := by rw [List.size_toArray, hi.length]; exact hl
  -- the abstract heap: the script, locked, unless it is an object of the text's own
  obtain ⟨G, hG1, hG2, hG3, hG4⟩ : ∃ G : Hp, (∀ b u, G b = some u → b = a ∧ u = .frz { cls := .type "list", data := .seq us.toArray } (.lst (ns.map V.int))) ∧ (G a ≠ none → K.lookup a = none) ∧ Only G ∧ SqL K G a (ns.map V.int) := by
    cases hk : K.lookup a with
    | none =>
      refine ⟨fun b => if b = a then some (.frz { cls := .type "list", data := .seq us.toArray } (.lst (ns.map V.int))) else none, fun b u h => ?_, fun _ => rfl, fun b => ?_, .inl (.inr ⟨{ cls := .type "list", data := .seq us.toArray }, if_pos rfl⟩)⟩
      · by_cases e : b = a
        · dsimp only at h; rw [if_pos e] at h; exact ⟨e, (Option.some.inj h).symm⟩
        · dsimp only at h; rw [if_neg e] at h; cases h
      · by_cases e : b = a
        · exact .inr ⟨_, _, if_pos e⟩
        · exact .inl (if_neg e)
    | some o =>
      have e := hin a o hk
      rw [ha] at e
      cases e
      exact ⟨fun _ => none, fun b u h => (by cases h), fun h => absurd rfl h, fun _ => .inl rfl, .inr ⟨_, us.toArray, _, hk, rfl, rfl, rfl, hlen, by simpa using rv⟩⟩
  have keep : ∀ {b : Addr} {o : Obj}, z.heap.get? b = some o → G b = none → (hidT z.heap G).get? b = some o := fun e n => hidT_get e n
  have isA : ∀ {b : Addr}, G b ≠ none → b = a := fun {b} h => by
    cases q : G b with
    | none => exact absurd q h
    | some u => exact (hG1 b u q).1
  have dicts : ∀ {b : Addr} {m : Str → Option Value}, z.heap.Ns b m → (hidT z.heap G).Ns b m := fun {b m} ⟨o, es, ep, e, d, r⟩ => by
    refine ⟨o, es, ep, keep e ?_, d, r⟩
    cases q : G b with
    | none => rfl
    | some u =>
      have := isA (b := b) (by rw [q]; simp)
      subst this
      rw [ha] at e; cases e
      cases (show Data.seq us.toArray _ = Data.dict es ep from d)
  have inG : K.In (hidT z.heap G) := fun b o e => keep (hin b o e) (by
    cases q : G b with
    | none => rfl
    | some u =>
      have := isA (b := b) (by rw [q]; simp)
      subst this
      rw [hG2 (by rw [q]; simp)] at e; cases e)
  have lim : (hidT z.heap G).NoLimit := by
    obtain ⟨mc, h1, h2⟩ := hlim
    exact ⟨mc, dicts h1, h2⟩
  have hok : HOk P w G z.heap := fun b u h => by
    obtain ⟨rfl, rfl⟩ := hG1 b u h
    exact ⟨ha, by rw [List.length_map]; exact hl, us, _, rv, ha⟩
  have env : Env0 P w K mg (hidT z.heap G) callerA [] z G :=
    ⟨rfl, ⟨inG, dicts hns, ⟨mb, dicts hb, hbb⟩, lim⟩, fun b o e => of_hidT e, Nat.le_of_eq (hidT_size _ _), trivial, fun b hb => (by cases hb), hok, .of_eq hg⟩
  refine codeAny_mono ((F _ inG (dicts hns)).run callerA [] z G ⟨[.ref a], []⟩ [.ref a] [.ref a] _ _ rfl hr env (hbind z (.ref a)) (.cons rfl .nil) (hsp G hG3 hG4)) fun r t h => ?_
  cases r with
  | error e => exact (hCX G e t h).elim
  | ok fl =>
    cases fl with
    | next => exact h.elim
    | brk => exact h.elim
    | cont => exact h.elim
    | ret u =>
      obtain ⟨v, G', os, bare, un, hok', r', q⟩ := h
      cases (show v = .bl true from q)
      cases (show u = Value.bool true from r')
      refine ⟨rfl, OldK.of_keep fun b o e => ?_, os, bare⟩
      cases q : G b with
      | none => exact un.keep b o e q (fun hh => by cases hh) (by simp)
      | some u =>
        obtain ⟨rfl, rfl⟩ := hG1 b u q
        obtain ⟨e2, _⟩ := hok' b _ (un.frzs b _ _ q)
        rw [ha] at e
        rw [← e]
        exact e2
end
theorem walkG {l : PySem.W.OpenLaw} {n k : Nat} {q : Program} {loose : List Str} {XP : (Str → Option Value) → Heap → Prop} {YP : World → Heap → Prop} {d : DefRec} {K : Params → PySem.W.Frag} {CX : World → CXT} {sp : World → Sp} {x : Str}
    (hn : l.most = some n) (h2 : n ≤ sizeLine) (hdf : d.params.defaults = []) (hr : Room k callerA) (hY : ∀ (w : World) (h : Heap), YP w h → (K w.params).In h)
    (F : ∀ (w : World) (mg : Str → Option Value) (fa : Addr) (h : Heap), (K w.params).In h → h.Ns mainGlobals mg → mg d.name = some (.ref fa) →
      ∃ fd : FuncData, (∀ (s : Shared) (u : Value), BindsTo s fd ⟨[u], []⟩ [(x, u)]) ∧ ∀ bs : Heap, (K w.params).In bs → bs.Ns mainGlobals mg → FnG l.prog w (K w.params) mg bs (CX w) k fa fd [x] (sp w))
    (hsp : ∀ (w : World) (G : Hp) (a : Addr) (ns : List Int), ns.length ≤ n → Only G → SqL (K w.params) G a (ns.map V.int) → sp w [.ref a] G (fun v _ => v = .bl true) fun _ _ _ => False)
    (hCX : ∀ (w : World) (G : Hp) (s : Shared) (e : Value) (t : Shared), CX w [] G s (fun _ _ _ => False) e t → False) : PySem.W.WalkO q loose XP YP l.row.toRowW d [] (fun f vs => PySem.call f vs) := by
  refine Att.attach_call hn hdf fun w s₀ s₁ mg mb fa o pm cd doc a vs ns G Y ho hd hcd hmg hobj hints hlen hg => ?_
  have hin := hY w _ Y
  obtain ⟨fd, hb, hF⟩ := F w mg fa _ hin G.T.g hmg
  exact lawG hin G.T.g G.T.b G.T.builtins G.T.nolimit hg hobj hints (Nat.le_trans hlen h2) hr hF hb (fun G' o s => hsp w G' a ns hlen o s) fun G' e t => hCX w G' s₁ e t
end My
set_option Elab.async false
set_option linter.all false
set_option maxRecDepth 100000
set_option maxHeartbeats 4000000
set_option exponentiation.threshold 5000
/-! more rules: a tuple backwards, a list or a tuple walked, great powers -/
namespace My
open PySem PySem.Spec PyProof.Rows L2 Evl
section
variable {prog : Program} {w : World} {A : Around} {E : Value → Shared → Prop} {s : Shared}
theorem slParts {sl : Addr} {vl vu vs : Value} {lo hi st : Option Int} {c : Int} {n : Nat} {R : Int × Int × Nat → Shared → Prop} (hs : s.heap.IsSliceOf sl vl vu vs) (pl : IsPart vl lo) (pu : IsPart vu hi) (ps : IsPart vs st) (hc : st.getD 1 = c) (h0 : (c == 0) = false)
    (h : R ((Builtin.Slice.sliceAdjust lo hi c (n : Int)).1, c, Builtin.Slice.slicePlaces (Builtin.Slice.sliceAdjust lo hi c (n : Int)).1 (Builtin.Slice.sliceAdjust lo hi c (n : Int)).2 c) s) :
    wpAny (model prog w) A (Builtin.Slice.sliceApplied (.ref sl) (pure (n : Int))) R E s := by
  obtain ⟨ob, h1, h2, h3⟩ := hs
  unfold Builtin.Slice.sliceApplied Builtin.Slice.sliceFields
  refine wpAny_bind (wpAny_bind (wpAny_field h1 h3 (x := vl) rfl (wpAny_bind (wpAny_field h1 h3 (x := vu) rfl (wpAny_bind (wpAny_field h1 h3 (x := vs) rfl (wpAny_pure ?_)))))))
  refine wpAny_bind (HT.slicePart_ ps ?_)
  show wpAny _ _ (if (st.getD 1 == 0) = true then _ else _) _ _ s
  rw [hc, if_neg (by rw [h0]; exact Bool.false_ne_true)]
  refine wpAny_bind (HT.slicePart_ pl (wpAny_bind (HT.slicePart_ pu (wpAny_bind (wpAny_pure (wpAny_pure h))))))
theorem revPick (xs : Array Value) (n : Nat) (hn : xs.size = n) : ((List.range n).filterMap fun (k : Nat) => xs[((n : Int) - 1 + (k : Int) * (-1)).toNat]?).toArray = xs.toList.reverse.toArray := by
  subst hn
  congr 1
  have e : ∀ k : Nat, ((xs.size : Int) - 1 + (k : Int) * (-1)).toNat = xs.size - 1 - k := fun k => by omega
  have e2 : (fun (k : Nat) => xs[((xs.size : Int) - 1 + (k : Int) * (-1)).toNat]?) = fun k => xs[xs.size - 1 - k]? := by
    funext k
    rw [e k]
  rw [e2]
  have e3 : (List.range xs.size).filterMap (fun k => xs[xs.size - 1 - k]?) = ((List.range xs.size).map fun k => xs.size - 1 - k).filterMap (xs[·]?) := by
    rw [List.filterMap_map]; rfl
  rw [e3, PySem.W.krv_range, List.filterMap_reverse, PySem.W.krv_all]
/-- t[::-1] of a tuple, by the machine -/
theorem tupBack {t sl : Addr} {items : Array Value} {vl vu vs : Value} {R : Value → Shared → Prop} (ht : IsTup s.heap t items) (hs : s.heap.IsSliceOf sl vl vu vs) (pl : IsPart vl none) (pu : IsPart vu none) (ps : IsPart vs (some (-1))) (hz : items.size ≤ sizeLine)
    (h : R (.ref s.heap.objs.size) { s with heap := s.heap.push { cls := .type "tuple", data := .seq items.toList.reverse.toArray } }) : wpAny (model prog w) A (getItem (.ref t) (.ref sl)) R E s := by
  have hT : s.TypeIs (.ref sl) "slice" := by
    obtain ⟨ob, h1, h2, _⟩ := hs
    exact ⟨ob, h1, h2⟩
  have ok : sizeOk (.seq items.toList.reverse.toArray) := by
    show items.toList.reverse.toArray.size ≤ sizeLine
    rw [List.size_toArray, List.length_reverse, Array.length_toList]
    exact hz
  unfold getItem
  try with_reducible refine wpAny_holding ?_
  first | refine wpAny_bind (wpAny_pure ?_) | skip
  refine wpAny_bind (wpAny_sequenceKey ht.typeIs (by decide) ?_)
  refine wpAny_bind (wpAny_callSpecial?_slot (name := Str.ofString "__getitem__") ht.typeIs slot_tuple_getitem (wpAny_call_entry slot_tuple_getitem ht.typeIs entry_tuple_getitem ?_ (args_tuple_getitem _ _)))
  show wpAny _ _ (Builtin.Tuple.tupleItemsOf (.ref t) >>= _) _ _ s
  refine wpAny_bind (tupleItemsOf_ ht (wpAny_bind (wpAny_typeOf hT ?_)))
  rw [if_pos (by decide)]
  refine wpAny_bind (slParts (c := -1) hs pl pu ps rfl (by decide) ?_)
  have e1 : Builtin.Slice.sliceAdjust none none (-1) (items.size : Int) = ((items.size : Int) - 1, -1) := by
    unfold Builtin.Slice.sliceAdjust; rfl
  have e2 : Builtin.Slice.slicePlaces ((items.size : Int) - 1) (-1) (-1) = items.size := by
    unfold Builtin.Slice.slicePlaces
    rw [if_neg (by decide)]
    by_cases h0 : (items.size : Int) - 1 > -1
    · rw [if_pos h0]
      have : ((items.size : Int) - 1 - -1 - 1) / (- -1) = (items.size : Int) - 1 := by
        rw [show (- -1 : Int) = 1 by decide, Int.ediv_one]; omega
      rw [this]; omega
    · rw [if_neg h0]; omega
  rw [e1]
  show wpAny _ _ (if ((((items.size : Int) - 1 == 0) && ((-1 : Int) == 1)) && (Builtin.Slice.slicePlaces ((items.size : Int) - 1) (-1) (-1) == items.size)) = true then _ else _) _ _ s
  have no : ¬ (((((items.size : Int) - 1 == 0) && ((-1 : Int) == 1)) && (Builtin.Slice.slicePlaces ((items.size : Int) - 1) (-1) (-1) == items.size)) = true) := by
    rw [show ((-1 : Int) == 1) = false by decide]; simp
  rw [if_neg no, e2, revPick items items.size rfl]
  first
    | exact wpAny_bind (m := Builtin.Tuple.tupleExact _) (wpAny_newObj_type (wpAny_pure ⟨_, rfl, wpAny_pure h⟩) ok)
    | exact wpAny_bind (m := Builtin.Tuple.tupleExact _) (wpAny_newObj_type (wpAny_bind (wpAny_pure (wpAny_pure ⟨_, rfl, wpAny_pure h⟩))) ok)
    | exact wpAny_bind (wpAny_bind (m := Builtin.Tuple.tupleExact _) (wpAny_newObj_type (wpAny_pure (wpAny_pure ⟨_, rfl, wpAny_pure h⟩)) ok))
    | exact wpAny_bind (wpAny_bind (m := Builtin.Tuple.tupleExact _) (wpAny_newObj_type (wpAny_pure ⟨_, rfl, wpAny_pure h⟩) ok))
end
section
variable {X : Cx}
/-- t[::-1] of a tuple -/
def tRevT (K : PySem.W.Frag) (te : TE) : TE := fun σ H Q => te σ H fun x H1 => ∃ a xs, x = .ref a ∧ SqT K H1 a xs ∧ ∀ p, H1 p = none → Q (.ref p) (upd H1 p (.tup xs.reverse))
theorem pe_revT {e : Expr} {te : TE} {k : Nat} {p1 p2 p3 pos : Pos} (he : PE X e te) : PE X (.Subscript e (.Slice none none (some (.UnaryOp .USub (.Constant (.int 1) k p1) p2)) p3) pos) (tRevT X.K te) := by
  refine ⟨fun pins s σ H Q I h => Subscript_ (thn (he.run pins s σ H _ I h) fun v s1 ⟨x, H1, I1, r1, a, xs, ex, hx, q⟩ => ?_)⟩
  subst ex
  cases r1
  have step : PO X (some (.UnaryOp .USub (.Constant (.int 1) k p1) p2)) (tPart (tUn (rU fun i => .int (-i)) (tC (.int 1)))) := po_some (pe_un un_neg pe_int)
  refine wpAny_Slice (thn (po_none.run pins s1 σ H1 (fun o G => o = none ∧ G = H1) I1 ⟨rfl, rfl⟩) fun vl s2 ⟨o2, H2, I2, pl, e2, g2⟩ => ?_)
  subst e2 g2
  refine thn (po_none.run pins s2 σ H2 (fun o G => o = none ∧ G = H2) I2 ⟨rfl, rfl⟩) fun vu s3 ⟨o3, H3, I3, pu, e3, g3⟩ => ?_
  subst e3 g3
  refine thn (step.run pins s3 σ H3 (fun o G => o = some (-1) ∧ G = H3) I3 ⟨1, rfl, -1, rfl, rfl, rfl⟩) fun vs s4 ⟨o4, H4, I4, ps, e4, g4⟩ => ?_
  subst e4 g4
  generalize hs5 : ({ s4 with heap := s4.heap.push { cls := .type "slice", data := .fields #[vl, vu, vs] } } : Shared) = s5
  have I5 : Inv X pins σ H4 s5 := by rw [← hs5]; exact I4.kept (t' := s4.toks) fun b ob q => Heap.get?_push_of_some _ q
  have hsl : s5.heap.IsSliceOf s4.heap.objs.size vl vu vs := by rw [← hs5]; exact Heap.IsSliceOf.new _ vl vu vs
  obtain ⟨its, r, ht, hz⟩ := I5.tuple hx
  have hlen := r.length
  show wpAny (model X.prog X.w) X.A (subscriptTail e (.Slice none none (some (.UnaryOp .USub (.Constant (.int 1) k p1) p2)) p3) (.ref a) (.ref s4.heap.objs.size)) (EP X pins σ Q) X.xe _
  refine tail_any (ops := [.ref a, .ref s4.heap.objs.size]) ht.typeIs slot_tuple_getitem.lookup (tupBack ht hsl pl pu ps (by rw [List.size_toArray]; omega) ?_) (by with_unfolding_all rfl)
  refine ⟨.ref _, _, I5.laid (t' := s5.toks) (o := .tup xs.reverse) (fun b ob q => Heap.get?_push_of_some _ q) (Nat.le_refl _) ?_, rfl, q _ (I5.hok.fresh (Nat.le_refl _))⟩
  exact ⟨by rw [List.length_reverse]; exact hz, _, r.reverse, IsTup.new _ _⟩
/-- a list or a tuple, walked -/
def iLT (K : PySem.W.Frag) (tl : TE) : TI := fun σ H R => tl σ H fun x H1 => ∃ a, x = .ref a ∧ (((∃ xs, SqL K H1 a xs) ∧ R (Itl K a) H1) ∨ ((∃ xs, SqT K H1 a xs) ∧ R (Itt K a) H1))
theorem pi_lt {tg l : Expr} {tl : TE} (hl : PE X l tl) : PI X tg l (iLT X.K tl) := by
  refine ⟨fun pins s σ H R I h => thn (hl.run pins s σ H _ I h) fun v s1 ⟨x, H1, I1, r1, a, ex, q⟩ => ?_⟩
  subst ex
  cases r1
  have fresh : ∀ b ∈ [s1.heap.objs.size], FpOk X pins H1 b := fun b hb => by
    rw [List.mem_singleton.mp hb]
    exact I1.fpOk (Nat.le_refl _) (I1.hok.fresh (Nat.le_refl _))
  rcases q with ⟨⟨xs, hq⟩, q⟩ | ⟨⟨xs, hq⟩, q⟩
  · obtain ⟨its, rv, p, hz⟩ := I1.list hq
    exact wpAny_pyIter_list p.isList ⟨s1.heap.objs.size, _, _, _, H1, rfl, I1.kept (t' := s1.toks) fun b o e => Heap.get?_push_of_some _ e, turn_list a _, ⟨_, Heap.get?_push_size _ rfl, rfl, rfl⟩, fresh, q⟩
  · obtain ⟨its, rv, p, hz⟩ := I1.tuple hq
    exact wpAny_pyIter_tuple (show s1.heap.IsTuple a its.toArray from p) ⟨s1.heap.objs.size, _, _, _, H1, rfl, I1.kept (t' := s1.toks) fun b o e => Heap.get?_push_of_some _ e, turn_tuple a _, ⟨_, Heap.get?_push_size _ rfl, rfl, rfl⟩, fresh, q⟩
/-- powers of great ints -/
def CPowX (i j : Int) : Prop := 0 ≤ j ∧ (Builtin.Int.intBits i : Int) * j ≤ 2 ^ 27
theorem op_powX : OpR X (binaryOp .Pow) (rI CPowX fun i j => .int (i ^ j.toNat)) := opI fun _ _ _ _ _ _ _ hc q => pow_int hc.1 hc.2 q
theorem powXOk {i j : Int} {n : Nat} (h0 : 0 ≤ j) (h1 : j ≤ 1000) (hi : i.natAbs < 2 ^ n) (hn : n ≤ 1000) : CPowX i j := by
  refine ⟨h0, ?_⟩
  have hb : Builtin.Int.intBits i ≤ 1001 := by
    unfold Builtin.Int.intBits
    split
    · omega
    · have := PySem.Flt.log2_lt_of (k := n + 1) (by omega) (Nat.lt_of_lt_of_le hi (Nat.pow_le_pow_right (by decide) (by omega)))
      omega
  have a1 : (Builtin.Int.intBits i : Int) * j ≤ 1001 * 1000 := Int.mul_le_mul (by omega) h1 h0 (by decide)
  omega
end

/-! ### texts of lists and tuples of ints -/
theorem shInts : ∀ xs : List Int, (∀ x ∈ xs, x.natAbs.log2 < 1920) → PyData.showableAll (xs.map PyData.int) = true ∧ PyData.leavesShortAll 1921 (xs.map PyData.int) = true ∧ PyData.hasDictAll (xs.map PyData.int) = false ∧ PyData.bulkAll (xs.map PyData.int) = xs.length
  | [], _ => ⟨rfl, rfl, rfl, rfl⟩
  | x :: xs, h => by
    obtain ⟨a, b, c, d⟩ := shInts xs fun y hy => h y (List.mem_cons_of_mem _ hy)
    have hx := h x (List.mem_cons_self ..)
    refine ⟨?_, ?_, ?_, ?_⟩
    · rw [List.map_cons, PyData.showableAll, a, PyData.showable, decide_eq_true hx]; rfl
    · rw [List.map_cons, PyData.leavesShortAll, b, PyData.leavesShort, decide_eq_true (show (PyData.shown (.int x)).length ≤ 1921 from int_text_len_1921 hx)]; rfl
    · rw [List.map_cons, PyData.hasDictAll, c, PyData.hasDict]; rfl
    · rw [List.map_cons, PyData.bulkAll, d, PyData.bulk, List.length_cons]; omega
theorem reprIntsL {K : PySem.W.Frag} {H : Hp} {a : Addr} {xs : List Int} {Q : VK} (ha : SqL K H a (xs.map V.int)) (hl : xs.length ≤ 4000) (hx : ∀ x ∈ xs, x.natAbs.log2 < 1920) (q : Q (.str (PyData.list (xs.map PyData.int)).shown) H) : rReprD K [.ref a] H Q := by
  obtain ⟨h1, h2, h3, h4⟩ := shInts xs hx
  refine ⟨_, _, rfl, .lst ha (dpInts xs), by rw [PyData.showable]; exact h1, by rw [PyData.hasDict]; exact h3, by rw [PyData.depth, depthInts]; omega, ?_, q⟩
  have := PyData.shown_le_bulk 1921 (by decide) (.list (xs.map PyData.int)) (by rw [PyData.leavesShort]; exact h2)
  rw [PyData.bulk, h4] at this
  exact Nat.le_trans this (by rw [sizeLine_eq]; omega)
theorem reprIntsT {K : PySem.W.Frag} {H : Hp} {a : Addr} {xs : List Int} {Q : VK} (ha : SqT K H a (xs.map V.int)) (hl : xs.length ≤ 4000) (hx : ∀ x ∈ xs, x.natAbs.log2 < 1920) (q : Q (.str (PyData.tuple (xs.map PyData.int)).shown) H) : rReprD K [.ref a] H Q := by
  obtain ⟨h1, h2, h3, h4⟩ := shInts xs hx
  refine ⟨_, _, rfl, .tup ha (dpInts xs), by rw [PyData.showable]; exact h1, by rw [PyData.hasDict]; exact h3, by rw [PyData.depth, depthInts]; omega, ?_, q⟩
  have := PyData.shown_le_bulk 1921 (by decide) (.tuple (xs.map PyData.int)) (by rw [PyData.leavesShort]; exact h2)
  rw [PyData.bulk, h4] at this
  exact Nat.le_trans this (by rw [sizeLine_eq]; omega)
theorem reprIntD {K : PySem.W.Frag} {H : Hp} {x : Int} {Q : VK} (hx : x.natAbs.log2 < 1920) (q : Q (.str (PyData.int x).shown) H) : rReprD K [.int x] H Q :=
  ⟨_, _, rfl, .int x, by rw [PyData.showable, decide_eq_true hx], by rw [PyData.hasDict], by rw [PyData.depth]; omega, Nat.le_trans (int_text_len_1921 hx) (by decide), q⟩
theorem reprBlD {K : PySem.W.Frag} {H : Hp} {b : Bool} {Q : VK} (q : Q (.str (PyData.bool b).shown) H) : rReprD K [.bl b] H Q :=
  ⟨_, _, rfl, .bl b, by rw [PyData.showable], by rw [PyData.hasDict], by rw [PyData.depth]; omega, by cases b <;> exact sz_le (by decide), q⟩
/-! ### slices -/
theorem cut_lo (ns : List Int) (k : Nat) : cutV (ns.map V.int) (some (k : Int)) none = (ns.drop k).map V.int := by
  unfold cutV
  rw [List.length_map, HT.sIx_nat, HT.sIx_none, ← List.map_drop, ← List.map_take]
  congr 1
  by_cases h : k ≤ ns.length
  · rw [Nat.min_eq_left h, List.take_of_length_le (by rw [List.length_drop]; omega)]
  · rw [Nat.min_eq_right (by omega), List.drop_of_length_le (Nat.le_refl _), List.drop_of_length_le (by omega), List.take_nil]
/-- a slice of a tuple of ints: by what it holds, the tuple itself or a new one -/
theorem slTup {K : PySem.W.Frag} {H : Hp} {a : Addr} {ns : List Int} {lo hi : Option Int} {Q : VK} (ha : H a = some (.tup (ns.map V.int)))
    (q : ∀ p H1, Ex H H1 → H1 p = some (.tup (cutV (ns.map V.int) lo hi)) → Q (.ref p) H1) : rSlA K (.ref a) lo hi H Q := by
  refine ⟨a, _, rfl, st_of ha, fun h => q a H (Ex.refl H) ?_, fun _ p hp => q p _ (Ex.new hp) upd_same⟩
  have e : cutV (ns.map V.int) lo hi = ns.map V.int := by
    unfold cutV
    rw [h.1, h.2, List.drop_zero, Nat.sub_zero, List.take_length]
  rw [e]
  exact ha
theorem mulOk8 {i j : Int} (a0 : -(2 ^ 900) < i) (a1 : i < 2 ^ 900) (b0 : -(2 ^ 900) < j) (b1 : j < 2 ^ 900) : CMulX i j :=
  mulx_ok (nab a0 a1) (nab b0 b1) (by decide)
theorem reprOk8 {i : Int} (a0 : -(2 ^ 900) < i) (a1 : i < 2 ^ 900) : i.natAbs.log2 < 1920 :=
  Nat.lt_of_lt_of_le (PySem.Flt.log2_lt_of (by decide) (nab a0 a1)) (by decide)
theorem divOk8 {i j : Int} (a0 : 0 < j) (a1 : j < 2 ^ 900) : CDivW i j :=
  wide_div a0 (nab (n := 900) (Int.lt_trans (by rw [Int.neg_lt_zero_iff]; exact Int.pow_pos (by decide)) a0) a1) (by decide) (by decide)
/-- a comprehension that copies ints: so far -/
def CP (D : Addr) (ns : List Int) (H : Hp) : Nat → Hp → Prop := fun i H' => H' D = some (.lst ((ns.take i).map V.int)) ∧ Ex H H'
theorem CP.start {D : Addr} {ns : List Int} {H : Hp} (h : H D = none) : CP D ns H 0 (upd H D (.lst [])) := ⟨upd_same, Ex.new h⟩
theorem CP.turn {D : Addr} {ns : List Int} {H H' : Hp} {i : Nat} {n : Int} (h : H D = none) (c : CP D ns H i H') (hn : ns[i]? = some n) (hl : ns.length ≤ 4000) :
    ∃ acc, H' D = some (.lst acc) ∧ acc.length < sizeLine ∧ CP D ns H (i + 1) (upd H' D (.lst (acc ++ [V.int n]))) := by
  refine ⟨_, c.1, sz_lt (by simp; omega), ?_, c.2.mut h⟩
  rw [upd_same, List.take_add_one, hn, List.map_append]
  rfl
theorem CP.done {D : Addr} {ns : List Int} {H H' : Hp} (c : CP D ns H (ns.map V.int).length H') : H' D = some (.lst (ns.map V.int)) ∧ Ex H H' := by
  have := c.1
  rw [List.length_map, List.take_length] at this
  exact ⟨this, c.2⟩

/-! ### the same rules with the written part named: within a comprehension's block -/
section
variable {X : Cx} {K : PySem.W.Frag}
theorem sl_listK (h : X.K = K := by rfl) : SlR X (rSlM K) := by subst h; exact sl_listM
theorem ix_listK (h : X.K = K := by rfl) : IxR X (rIx1 K) := by subst h; exact ix_listM
theorem ix_tupK (h : X.K = K := by rfl) : IxR X (rIxT K) := by subst h; exact ix_tup
theorem sl_tupK (h : X.K = K := by rfl) : SlR X (rSlA K) := by subst h; exact sl_tupA
theorem op_inK (h : X.K = K := by rfl) : OpR X (compareOp .In) (rIn K false) := by subst h; exact op_in_seq
theorem op_notInK (h : X.K = K := by rfl) : OpR X (compareOp .NotIn) (rIn K true) := by subst h; exact op_notIn_seq
theorem op_eqK (hu : X.A.units + 64 < cLine) (h : X.K = K := by rfl) : OpR X (compareOp .Eq) (rEqD K) := by subst h; exact op_eqD hu
theorem op_neK (hu : X.A.units + 64 < cLine) (h : X.K = K := by rfl) : OpR X (compareOp .NotEq) (rNeD K) := by subst h; exact op_neD hu
def rLenK (K : PySem.W.Frag) : List V → Hp → VK → Prop := fun xs H Q => ∃ p ys, xs = [.ref p] ∧ (SqL K H p ys ∨ SqT K H p ys) ∧ Q (.int ys.length) H
theorem call_lenK (h : X.K = K := by rfl) : CallR X (.builtin "len") (rLenK K) := by subst h; exact call_len_seq
end
theorem inInts {z : Int} : ∀ {ms : List Int}, inV (.int z) (ms.map V.int) = decide (z ∈ ms)
  | [] => rfl
  | m :: ms => by
    unfold inV
    rw [List.map_cons, List.any_cons]
    have ih : (List.map V.int ms).any (fun y => eqV y (.int z)) = decide (z ∈ ms) := inInts
    rw [ih]
    show ((m == z) || decide (z ∈ ms)) = decide (z ∈ m :: ms)
    by_cases h1 : m = z
    · subst h1; simp
    · have h2 : ¬ z = m := fun e => h1 e.symm
      simp [h1, h2]
theorem flatInts : ∀ ms : List Int, (ms.map V.int).all flatV = true
  | [] => rfl
  | m :: ms => by rw [List.map_cons, List.all_cons, flatInts ms]; rfl
end My
set_option Elab.async false
set_option linter.all false
set_option maxRecDepth 100000
set_option maxHeartbeats 4000000
/-! len(set(t)) of a tuple of ints -/
namespace My
open PySem PySem.Spec PyProof.Rows L2 Evl
section
variable {X : Cx}
/-- c is how many unlike ones there are: all that is said of it is whether all are unlike -/
def tUnl (K : PySem.W.Frag) (ta : TE) : TE := fun σ H Q => ta σ H fun x H1 => ∃ (a : Addr) (ns : List Int), x = .ref a ∧ SqT K H1 a (ns.map V.int) ∧ ns.length ≤ 4000 ∧ ∀ c : Nat, c ≤ ns.length → (c = ns.length ↔ ns.Nodup) → Q (.int (c : Int)) H1
theorem pe_lenSetT {a : Expr} {ta : TE} {p p2 q pos : Pos} (hg : Gl X "len") (hm : X.mg "len" = none) (hg2 : Gl X "set") (hm2 : X.mg "set" = none) (ha : PE X a ta) (hc : X.calm = true := by rfl)
    (na : starEach [a] X.env = (false, eval a X.env) :: starEach [] X.env := by rfl) : PE X (.Call (.Name "len" p) [.Call (.Name "set" p2) [a] [] q] [] pos) (tUnl X.K ta) := by
  refine ⟨fun pins s σ H Q I h => Call_ (ld_blt I hg hm boot_len (callWith_builtin1 (args_cons (Call_ (ld_blt I hg2 hm2 boot_set ?_)) rfl) rfl rfl))⟩
  refine callWith_type1 (args_cons (thn (ha.run pins s σ H _ I h) fun v s1 ⟨x, H1, I1, r1, q1⟩ => args_nil ?_) na) na rfl
  obtain ⟨t, ns, rfl, hq, hl, q1⟩ := q1
  cases r1
  obtain ⟨its, r, pl, hz⟩ := I1.tuple hq
  have hi : IntsAre its.toArray.toList ns := by simpa using RZ.intsAre_vals r
  refine call_set_tupI ns (I1.ok.hd hc) pl hi (by unfold scanBound; omega) fun h' tk c hS hcl hk => args_nil ?_
  have I2 : Inv X pins σ H1 { s1 with heap := h', toks := tk } := I1.kept hk
  obtain ⟨o, es, ep, t2, ho, hex, hd, hgood, nd, mem, hb, hf, hn, _⟩ := hS
  have hlen : (es.toList.map keyOf).length = c := by rw [List.length_map, Array.length_toList]; exact hn
  have sub : ∀ k ∈ es.toList.map keyOf, k ∈ ns := fun k hk => of_decide_eq_true ((mem k).mpr hk)
  refine call_len_set ho hex hd hf (by rw [hn]; omega) ⟨.int (c : Int), H1, I2.tok _, ⟨_, by rw [hn]⟩, q1 c hcl ⟨fun e => ?_, fun hnd => ?_⟩⟩
  · exact (nodup_of_len _ ns nd sub (hlen.trans e)).2
  · refine Nat.le_antisymm hcl ?_
    rw [← hlen]
    exact nodup_le ns _ hnd fun k hk => (mem k).mp (decide_eq_true hk)
end
end My
set_option linter.all false
set_option maxRecDepth 10000
set_option exponentiation.threshold 5000
/-! figures go together -/
namespace My
theorem figs_ge {b n : Int} (hb : 2 ≤ b) (h : b ≤ n) : figs b n = figs b (n / b) ++ [n % b] := by
  unfold figs; rw [digs_ge hb h, List.reverse_cons]
theorem written_one (b x : Int) : written b [x] = x := by unfold written; simp
theorem written_app (b : Int) (l m : List Int) : written b (l ++ m) = written b l * b ^ m.length + written b m := by
  have key : ∀ r : List Int, written b (l ++ r.reverse) = written b l * b ^ r.length + written b r.reverse := by
    intro r
    induction r with
    | nil => simp [written]
    | cons x r ih =>
      rw [List.reverse_cons, ← List.append_assoc, written_snoc, written_snoc, ih, List.length_cons, Int.pow_succ, Int.add_mul, Int.mul_assoc]
      omega
  have := key m.reverse
  rw [List.reverse_reverse, List.length_reverse] at this
  exact this
theorem written_cons (b x : Int) (l : List Int) : written b (x :: l) = x * b ^ l.length + written b l := by
  have := written_app b [x] l
  rw [written_one] at this
  exact this
theorem written_figs {b : Int} (hb : 2 ≤ b) : ∀ n, 0 ≤ n → written b (figs b n) = n :=
  digs_ind hb (fun n h0 h => by rw [figs_small h, written_one]) (fun n h ih => by
    rw [figs_ge hb h, written_snoc, ih]
    have e := Int.emod_add_mul_ediv n b
    rw [Int.mul_comm]; omega)
theorem figs_head {b : Int} (hb : 2 ≤ b) : ∀ n, 0 ≤ n → 0 < n → ∃ x t, figs b n = x :: t ∧ 0 < x :=
  digs_ind hb (fun n h0 h hp => ⟨n, [], figs_small h, hp⟩) (fun n h ih _ => by
    obtain ⟨x, t, e, hx⟩ := ih ((div_pos_iff hb (show 0 ≤ n by omega)).mpr h)
    exact ⟨x, t ++ [n % b], by rw [figs_ge hb h, e]; rfl, hx⟩)
theorem figs_step {b w x : Int} (hb : 2 ≤ b) (hw : 0 < w) (x0 : 0 ≤ x) (x1 : x < b) : figs b (w * b + x) = figs b w ++ [x] := by
  have m := Int.mul_le_mul_of_nonneg_right (show 1 ≤ w by omega) (show 0 ≤ b by omega)
  rw [figs_ge hb (by omega)]
  have e1 : (w * b + x) / b = w := by
    rw [Int.add_comm, Int.add_mul_ediv_right _ _ (by omega), Int.ediv_eq_zero_of_lt x0 x1]; omega
  have e2 : (w * b + x) % b = x := by
    rw [Int.add_comm, Int.add_mul_emod_self_right, Int.emod_eq_of_lt x0 x1]
  rw [e1, e2]
theorem written_pos {b x : Int} {l : List Int} (hb : 2 ≤ b) (hx : 0 < x) (hm : ∀ y ∈ l, 0 ≤ y ∧ y < b) : 0 < written b (x :: l) := by
  rw [written_cons]
  have p : (0 : Int) < b ^ l.length := Int.pow_pos (by omega)
  have := Int.mul_pos hx p
  have := (written_bd (b := b) (by omega) l hm).1
  omega
theorem figs_written {b : Int} (hb : 2 ≤ b) : ∀ (x : Int) (l : List Int), 0 < x → (∀ y ∈ x :: l, 0 ≤ y ∧ y < b) → figs b (written b (x :: l)) = x :: l := by
  intro x l hx
  have key : ∀ r : List Int, (∀ y ∈ x :: r.reverse, 0 ≤ y ∧ y < b) → figs b (written b (x :: r.reverse)) = x :: r.reverse := by
    intro r
    induction r with
    | nil => intro h; rw [List.reverse_nil, written_one]; exact figs_small (h x (List.mem_cons_self ..)).2
    | cons z r ih =>
      intro h
      rw [List.reverse_cons] at h ⊢
      have h2 : ∀ y ∈ x :: r.reverse, 0 ≤ y ∧ y < b := fun y hy => h y (by
        rcases List.mem_cons.mp hy with e | hy
        · exact e ▸ List.mem_cons_self ..
        · exact List.mem_cons_of_mem _ (List.mem_append_left _ hy))
      have hz := h z (List.mem_cons_of_mem _ (List.mem_append_right _ (List.mem_singleton.mpr rfl)))
      rw [← List.cons_append, written_snoc, figs_step hb (written_pos hb hx (fun y hy => h2 y (List.mem_cons_of_mem _ hy))) hz.1 hz.2, ih h2]
  have := key l.reverse
  rw [List.reverse_reverse] at this
  exact this
/-- without the noughts in front -/
def strip : List Int → List Int
  | [] => []
  | x :: l => if x = 0 then strip l else x :: l
theorem strip_zero (l : List Int) : strip (0 :: l) = strip l := by rw [strip, if_pos rfl]
theorem strip_ne {x : Int} {l : List Int} (h : x ≠ 0) : strip (x :: l) = x :: l := by rw [strip, if_neg h]
theorem strip_rep : ∀ l : List Int, ∃ k : Nat, l = List.replicate k 0 ++ strip l
  | [] => ⟨0, rfl⟩
  | x :: l => by
    by_cases h : x = 0
    · subst h
      obtain ⟨k, e⟩ := strip_rep l
      exact ⟨k + 1, by rw [strip_zero, List.replicate_succ, List.cons_append, ← e]⟩
    · exact ⟨0, by rw [strip_ne h]; rfl⟩
theorem strip_nil : ∀ l : List Int, strip l = [] → ∀ x ∈ l, x = 0
  | [], _, x, hx => by cases hx
  | y :: l, h, x, hx => by
    by_cases e : y = 0
    · subst e
      rw [strip_zero] at h
      rcases List.mem_cons.mp hx with e | hx
      · exact e
      · exact strip_nil l h x hx
    · rw [strip_ne e] at h; cases h
theorem strip_hd : ∀ l : List Int, strip l ≠ [] → ∃ x t, strip l = x :: t ∧ x ≠ 0
  | [], h => absurd rfl h
  | y :: l, h => by
    by_cases e : y = 0
    · subst e
      rw [strip_zero] at h ⊢
      exact strip_hd l h
    · exact ⟨y, l, strip_ne e, e⟩
theorem strip_mem : ∀ {l : List Int} {x : Int}, x ∈ strip l → x ∈ l
  | [], x, h => h
  | y :: l, x, h => by
    by_cases e : y = 0
    · subst e
      rw [strip_zero] at h
      exact List.mem_cons_of_mem _ (strip_mem h)
    · rw [strip_ne e] at h; exact h
theorem written_strip (b : Int) : ∀ l : List Int, written b (strip l) = written b l
  | [] => rfl
  | x :: l => by
    by_cases e : x = 0
    · subst e
      rw [strip_zero, written_cons, written_strip b l]; omega
    · rw [strip_ne e]
theorem strip_sum : ∀ l : List Int, (strip l).sum = l.sum
  | [] => rfl
  | x :: l => by
    by_cases e : x = 0
    · subst e
      rw [strip_zero, List.sum_cons, strip_sum l]; omega
    · rw [strip_ne e]
theorem written_zero {b : Int} : ∀ {l : List Int}, (∀ x ∈ l, x = 0) → written b l = 0
  | [], _ => rfl
  | x :: l, h => by
    rw [written_cons, h x (List.mem_cons_self ..), written_zero fun y hy => h y (List.mem_cons_of_mem _ hy)]; omega
theorem sum_zero : ∀ {l : List Int}, (∀ x ∈ l, x = 0) → l.sum = 0
  | [], _ => rfl
  | x :: l, h => by
    rw [List.sum_cons, h x (List.mem_cons_self ..), sum_zero fun y hy => h y (List.mem_cons_of_mem _ hy)]; omega
theorem figs_strip {b : Int} (hb : 2 ≤ b) {l : List Int} (hm : ∀ y ∈ l, 0 ≤ y ∧ y < b) (hs : strip l ≠ []) : figs b (written b l) = strip l := by
  obtain ⟨x, t, e, hx⟩ := strip_hd l hs
  have h2 : ∀ y ∈ x :: t, 0 ≤ y ∧ y < b := fun y hy => hm y (strip_mem (e ▸ hy))
  have x0 := h2 x (List.mem_cons_self ..)
  rw [← written_strip, e]
  exact figs_written hb x t (by omega) h2
theorem figs_zero {b : Int} (hb : 2 ≤ b) : figs b 0 = [0] := figs_small (by omega)
theorem figs_strip0 {b : Int} (hb : 2 ≤ b) {l : List Int} (hs : strip l = []) : figs b (written b l) = [0] := by
  rw [written_zero (strip_nil l hs)]; exact figs_zero hb
theorem figs_written_sum {b : Int} (hb : 2 ≤ b) {l : List Int} (hm : ∀ y ∈ l, 0 ≤ y ∧ y < b) : (figs b (written b l)).sum = l.sum := by
  by_cases hs : strip l = []
  · rw [figs_strip0 hb hs, sum_zero (strip_nil l hs)]; rfl
  · rw [figs_strip hb hm hs, strip_sum]
theorem dvd_sum {b : Int} (hb : 2 ≤ b) : ∀ n, 0 ≤ n → (b - 1) ∣ n - (figs b n).sum :=
  digs_ind hb (fun n h0 h => by rw [figs_one h]; exact ⟨0, by omega⟩) (fun n h ih => by
    rw [figs_ge hb h, List.sum_append, List.sum_singleton]
    obtain ⟨c, hc⟩ := ih
    refine ⟨n / b + c, ?_⟩
    have e := Int.emod_add_mul_ediv n b
    rw [Int.mul_add, ← hc, Int.sub_mul]
    omega)
theorem sum_mod {b n : Int} (hb : 2 ≤ b) (hn : 0 ≤ n) : (figs b n).sum % (b - 1) = n % (b - 1) := by
  have := Int.emod_eq_emod_iff_emod_sub_eq_zero.mpr (Int.emod_eq_zero_of_dvd (dvd_sum hb n hn))
  exact this.symm
theorem sum_pos {b : Int} (hb : 2 ≤ b) {n : Int} (hn : 0 < n) : 0 < (figs b n).sum := by
  obtain ⟨x, t, e, hx⟩ := figs_head hb n (by omega) hn
  have h := figs_mem hb (show 0 ≤ n by omega)
  rw [e] at h ⊢
  have : ∀ l : List Int, (∀ y ∈ l, 0 ≤ y ∧ y < b) → 0 ≤ l.sum := by
    intro l
    induction l with
    | nil => intro _; simp
    | cons a l ih =>
      intro hl
      have := hl a (List.mem_cons_self ..)
      have := ih fun y hy => hl y (List.mem_cons_of_mem _ hy)
      rw [List.sum_cons]; omega
  have := this t fun y hy => h y (List.mem_cons_of_mem _ hy)
  rw [List.sum_cons]; omega
theorem root_all {b : Int} (hb : 2 ≤ b) : ∀ k : Nat, ∀ n : Int, n.toNat ≤ k → 0 ≤ n → rootN b n < b ∧ (0 < n → 0 < rootN b n) ∧ rootN b n % (b - 1) = n % (b - 1)
  | 0, n, hk, hn => by
    rw [rootN_lt (by omega)]; exact ⟨by omega, id, rfl⟩
  | k + 1, n, hk, hn => by
    by_cases h : b ≤ n
    · have a := figs_sum_lt hb h
      have c := (figs_sum hb hn).1
      obtain ⟨d1, d2, d3⟩ := root_all hb k (figs b n).sum (by omega) c
      rw [rootN_ge hb h]
      exact ⟨d1, fun _ => d2 (sum_pos hb (by omega)), d3.trans (sum_mod hb hn)⟩
    · rw [rootN_lt (by omega)]; exact ⟨by omega, id, rfl⟩
theorem root_ok {b n : Int} (hb : 2 ≤ b) (hn : 0 ≤ n) : rootN b n < b ∧ (0 < n → 0 < rootN b n) ∧ rootN b n % (b - 1) = n % (b - 1) := root_all hb n.toNat n (Nat.le_refl _) hn
end My
namespace My
/-- one list ahead of another by its first figure -/
theorem head_lt {b x y : Int} {l m : List Int} (hb : 2 ≤ b) (h : x < y) (hl : ∀ z ∈ l, 0 ≤ z ∧ z < b) (hm : ∀ z ∈ m, 0 ≤ z ∧ z < b) (e : l.length = m.length) : written b (x :: l) ≤ written b (y :: m) := by
  rw [written_cons, written_cons, e]
  have h1 := (written_bd (b := b) (by omega) l hl).2
  have h2 := (written_bd (b := b) (by omega) m hm).1
  rw [e] at h1
  have p : (0 : Int) ≤ b ^ m.length := Int.pow_nonneg (by omega)
  have := Int.mul_le_mul_of_nonneg_right (show x + 1 ≤ y by omega) p
  rw [Int.add_mul] at this
  omega
theorem asc_least {b : Int} (hb : 2 ≤ b) : ∀ (m l : List Int), l.Perm m → m.Pairwise (· ≤ ·) → (∀ x ∈ m, 0 ≤ x ∧ x < b) → written b m ≤ written b l
  | [], l, h, _, _ => by rw [List.Perm.eq_nil h]; exact Int.le_refl _
  | x :: m, l, h, hs, hv => by
    have hne : l ≠ [] := fun e => by have := h.length_eq; rw [e] at this; simp at this
    obtain ⟨y, l', rfl⟩ : ∃ y l', l = y :: l' := by
      cases l with
      | nil => exact absurd rfl hne
      | cons y l' => exact ⟨y, l', rfl⟩
    have hp := List.pairwise_cons.mp hs
    have ym : y ∈ x :: m := h.mem_iff.mp (List.mem_cons_self ..)
    have el : l'.length = m.length := by have := h.length_eq; simp at this; omega
    by_cases e : x = y
    · subst e
      have ih := asc_least hb m l' (List.Perm.cons_inv h) hp.2 fun z hz => hv z (List.mem_cons_of_mem _ hz)
      rw [written_cons, written_cons, el]; omega
    · have hlt : x < y := by
        rcases List.mem_cons.mp ym with e2 | hy
        · exact absurd e2.symm e
        · have := hp.1 y hy; omega
      exact head_lt hb hlt (fun z hz => hv z (List.mem_cons_of_mem _ hz)) (fun z hz => hv z (h.mem_iff.mp (List.mem_cons_of_mem _ hz))) el.symm
theorem desc_most {b : Int} (hb : 2 ≤ b) : ∀ (m l : List Int), l.Perm m → m.Pairwise (· ≥ ·) → (∀ x ∈ m, 0 ≤ x ∧ x < b) → written b l ≤ written b m
  | [], l, h, _, _ => by rw [List.Perm.eq_nil h]; exact Int.le_refl _
  | x :: m, l, h, hs, hv => by
    have hne : l ≠ [] := fun e => by have := h.length_eq; rw [e] at this; simp at this
    obtain ⟨y, l', rfl⟩ : ∃ y l', l = y :: l' := by
      cases l with
      | nil => exact absurd rfl hne
      | cons y l' => exact ⟨y, l', rfl⟩
    have hp := List.pairwise_cons.mp hs
    have ym : y ∈ x :: m := h.mem_iff.mp (List.mem_cons_self ..)
    have el : l'.length = m.length := by have := h.length_eq; simp at this; omega
    by_cases e : x = y
    · subst e
      have ih := desc_most hb m l' (List.Perm.cons_inv h) hp.2 fun z hz => hv z (List.mem_cons_of_mem _ hz)
      rw [written_cons, written_cons, el]; omega
    · have hlt : y < x := by
        rcases List.mem_cons.mp ym with e2 | hy
        · exact absurd e2.symm e
        · have := hp.1 y hy; omega
      exact head_lt hb hlt (fun z hz => hv z (h.mem_iff.mp (List.mem_cons_of_mem _ hz))) (fun z hz => hv z (List.mem_cons_of_mem _ hz)) el
theorem asc_rev_sorted (l : List Int) : (asc l).reverse.Pairwise (· ≥ ·) := List.pairwise_reverse.mpr (asc_sorted l)
theorem valid_asc {b n : Int} (hb : 2 ≤ b) (hn : 0 ≤ n) : ∀ x ∈ asc (figs b n), 0 ≤ x ∧ x < b := fun x hx => figs_mem hb hn x (asc_mem hx)
theorem valid_desc {b n : Int} (hb : 2 ≤ b) (hn : 0 ≤ n) : ∀ x ∈ (asc (figs b n)).reverse, 0 ≤ x ∧ x < b := fun x hx => valid_asc hb hn x (List.mem_reverse.mp hx)
theorem low_le {b n : Int} (hb : 2 ≤ b) (hn : 0 ≤ n) {l : List Int} (h : l.Perm (figs b n)) : written b (asc (figs b n)) ≤ written b l :=
  asc_least hb _ _ (h.trans (asc_perm _).symm) (asc_sorted _) (valid_asc hb hn)
theorem le_high {b n : Int} (hb : 2 ≤ b) (hn : 0 ≤ n) {l : List Int} (h : l.Perm (figs b n)) : written b l ≤ written b (asc (figs b n)).reverse :=
  desc_most hb _ _ (h.trans ((asc_perm _).symm.trans (List.reverse_perm _).symm)) (asc_rev_sorted _) (valid_desc hb hn)
theorem high_figs {b n : Int} (hb : 2 ≤ b) (hn : 0 < n) : figs b (written b (asc (figs b n)).reverse) = (asc (figs b n)).reverse := by
  obtain ⟨x, t, e, hx⟩ := figs_head hb n (by omega) hn
  have hv := valid_desc hb (show 0 ≤ n by omega)
  have hs := asc_rev_sorted (figs b n)
  have hm : x ∈ (asc (figs b n)).reverse := List.mem_reverse.mpr ((asc_perm _).mem_iff.mpr (by rw [e]; exact List.mem_cons_self ..))
  generalize (asc (figs b n)).reverse = A at *
  cases A with
  | nil => cases hm
  | cons y A =>
    have hy : 0 < y := by
      rcases List.mem_cons.mp hm with e2 | h2
      · omega
      · have := (List.pairwise_cons.mp hs).1 x h2; omega
    exact figs_written hb y A hy hv
theorem asc_one (x : Int) : asc [x] = [x] := (eq_asc (List.Perm.refl _) (List.pairwise_singleton _ _)).symm
theorem high_turned {b n : Int} (hb : 2 ≤ b) (hn : 0 ≤ n) : written b (digs b (written b (asc (figs b n)).reverse)) = written b (asc (figs b n)) := by
  by_cases h : 0 < n
  · rw [← digs_eq_rev, high_figs hb h, List.reverse_reverse]
  · have : n = 0 := by omega
    subst this
    rw [figs_zero hb, asc_one, List.reverse_singleton, written_one, digs_lt (by omega), written_one]
theorem high_unlike {b n : Int} (hb : 2 ≤ b) (hn : 0 ≤ n) : (figs b (written b (asc (figs b n)).reverse)).Nodup ↔ (figs b n).Nodup := by
  by_cases h : 0 < n
  · rw [high_figs hb h]
    exact ((List.reverse_perm _).trans (asc_perm _)).nodup_iff
  · have : n = 0 := by omega
    subst this
    rw [figs_zero hb, asc_one, List.reverse_singleton, written_one, figs_zero hb]
theorem asc_strip {b : Int} {l : List Int} (hm : ∀ y ∈ l, 0 ≤ y ∧ y < b) : written b (asc (strip l)) = written b (asc l) := by
  obtain ⟨k, e⟩ := strip_rep l
  have hp : (List.replicate k 0 ++ asc (strip l)).Perm l := by
    conv => rhs; rw [e]
    exact List.Perm.append_left _ (asc_perm _)
  have hs : (List.replicate k (0 : Int) ++ asc (strip l)).Pairwise (· ≤ ·) := by
    refine List.pairwise_append.mpr ⟨?_, asc_sorted _, ?_⟩
    · exact List.pairwise_replicate.mpr (Or.inr (Int.le_refl _))
    · intro a ha c hc
      rw [List.eq_of_mem_replicate ha]
      exact (hm c (strip_mem (asc_mem hc))).1
  rw [← eq_asc hp hs, written_app, written_zero (fun x hx => List.eq_of_mem_replicate hx)]
  omega
theorem asc_about {b : Int} (hb : 2 ≤ b) {l : List Int} (hm : ∀ y ∈ l, 0 ≤ y ∧ y < b) : written b (asc (figs b (written b l))) = written b (asc l) := by
  by_cases hs : strip l = []
  · rw [figs_strip0 hb hs, asc_one, written_one, written_zero]
    exact fun x hx => strip_nil l hs x (asc_mem hx)
  · rw [figs_strip hb hm hs, asc_strip hm]
theorem about_low {b n : Int} (hb : 2 ≤ b) (hn : 0 ≤ n) : written b (asc (figs b (written b (digs b n)))) = written b (asc (figs b n)) := by
  rw [asc_about hb (digs_mem hb n hn)]
  congr 1
  refine eq_asc ((asc_perm _).trans ?_) (asc_sorted _)
  rw [← digs_eq_rev]
  exact List.reverse_perm _
theorem low_high {b n : Int} (hb : 2 ≤ b) (hn : 0 ≤ n) : (figs b (written b (asc (figs b n)))).length ≤ (figs b n).length ∧ written b (asc (figs b (written b (asc (figs b n))))).reverse * b ^ ((figs b n).length - (figs b (written b (asc (figs b n)))).length) = written b (asc (figs b n)).reverse := by
  by_cases hs : strip (asc (figs b n)) = []
  · have hz := strip_nil _ hs
    rw [figs_strip0 hb hs, asc_one, List.reverse_singleton, written_one, written_zero (l := (asc (figs b n)).reverse) fun x hx => hz x (List.mem_reverse.mp hx)]
    exact ⟨figs_pos b n, by omega⟩
  · rw [figs_strip hb (valid_asc hb hn) hs]
    obtain ⟨k, e⟩ := strip_rep (asc (figs b n))
    have hl := asc_len (figs b n)
    have hs2 : (strip (asc (figs b n))).Pairwise (· ≤ ·) := by
      have h := asc_sorted (figs b n)
      rw [e] at h
      exact (List.pairwise_append.mp h).2.1
    rw [← eq_asc (List.Perm.refl _) hs2]
    have hl2 : k + (strip (asc (figs b n))).length = (figs b n).length := by
      rw [← hl]; conv => rhs; rw [e]
      rw [List.length_append, List.length_replicate]
    refine ⟨by omega, ?_⟩
    rw [show (figs b n).length - (strip (asc (figs b n))).length = k by omega]
    conv => rhs; rw [e]
    rw [List.reverse_append, List.reverse_replicate, written_app, List.length_replicate, written_zero (l := List.replicate k 0) fun x hx => List.eq_of_mem_replicate hx]
    omega
theorem written_inj {b : Int} (hb : 2 ≤ b) : ∀ (l m : List Int), (∀ y ∈ l, 0 ≤ y ∧ y < b) → (∀ y ∈ m, 0 ≤ y ∧ y < b) → l.length = m.length → written b l.reverse = written b m.reverse → l = m
  | [], [], _, _, _, _ => rfl
  | [], _ :: _, _, _, e, _ => by simp at e
  | _ :: _, [], _, _, e, _ => by simp at e
  | x :: l, y :: m, hl, hm, e, h => by
    rw [List.reverse_cons, List.reverse_cons, written_snoc, written_snoc] at h
    have hx := hl x (List.mem_cons_self ..)
    have hy := hm y (List.mem_cons_self ..)
    have e1 : (written b l.reverse * b + x) % b = x := by rw [Int.add_comm, Int.add_mul_emod_self_right, Int.emod_eq_of_lt hx.1 hx.2]
    have e2 : (written b m.reverse * b + y) % b = y := by rw [Int.add_comm, Int.add_mul_emod_self_right, Int.emod_eq_of_lt hy.1 hy.2]
    have e3 : x = y := by rw [← e1, ← e2, h]
    subst e3
    have e4 : written b l.reverse = written b m.reverse := Int.eq_of_mul_eq_mul_right (show b ≠ 0 by omega) (by omega)
    rw [written_inj hb l m (fun y hy => hl y (List.mem_cons_of_mem _ hy)) (fun y hy => hm y (List.mem_cons_of_mem _ hy)) (by simpa using e) e4]
theorem mirror_iff {b n : Int} (hb : 2 ≤ b) (hn : 0 ≤ n) : figs b n = (figs b n).reverse ↔ written b (digs b n) = n := by
  constructor
  · intro h
    rw [← digs_eq_rev, ← h, written_figs hb n hn]
  · intro h
    have hw := written_figs hb n hn
    refine written_inj hb _ _ (figs_mem hb hn) (fun y hy => figs_mem hb hn y (List.mem_reverse.mp hy)) (by rw [List.length_reverse]) ?_
    rw [List.reverse_reverse, digs_eq_rev, h, hw]
/-- without noughts at the end -/
def bareN (b n : Int) : Int := if h : 2 ≤ b ∧ 0 < n ∧ n % b = 0 then bareN b (n / b) else n
termination_by n.toNat
decreasing_by
  have := div_lt h.1 h.2.1
  have := div_nn h.1 (show 0 ≤ n by omega)
  omega
theorem bare_step {b n : Int} (hb : 2 ≤ b) (h0 : 0 < n) (h1 : n % b = 0) : bareN b n = bareN b (n / b) := by
  rw [bareN, dif_pos ⟨hb, h0, h1⟩]
theorem bare_end {b n : Int} (h : ¬ (0 < n ∧ n % b = 0)) : bareN b n = n := by
  rw [bareN, dif_neg (fun z => h z.2)]
theorem bare_strip {b : Int} (hb : 2 ≤ b) : ∀ n, 0 ≤ n → 0 < n → strip (digs b n) ≠ [] ∧ written b (strip (digs b n)).reverse = bareN b n :=
  digs_ind hb (fun n h0 h hp => by
    rw [digs_lt h, strip_ne (by omega), List.reverse_singleton, written_one, bare_end (by rw [Int.emod_eq_of_lt h0 h]; omega)]
    exact ⟨by simp, rfl⟩) (fun n h ih hp => by
    have hq := (div_pos_iff hb (show 0 ≤ n by omega)).mpr h
    rw [digs_ge hb h]
    by_cases e : n % b = 0
    · rw [e, strip_zero, bare_step hb hp e]
      exact ih hq
    · rw [strip_ne e, bare_end (fun z => e z.2)]
      refine ⟨by simp, ?_⟩
      rw [← digs_ge hb h]
      exact written_figs hb n (by omega))
theorem about_about {b n : Int} (hb : 2 ≤ b) (hn : 0 ≤ n) : written b (digs b (written b (digs b n))) = bareN b n := by
  by_cases h : 0 < n
  · obtain ⟨h1, h2⟩ := bare_strip hb n hn h
    rw [← digs_eq_rev b (written b (digs b n)), figs_strip hb (digs_mem hb n hn) h1, h2]
  · have : n = 0 := by omega
    subst this
    have e0 : digs b 0 = [0] := digs_lt (by omega)
    rw [e0, written_one, e0, written_one, bare_end (by omega)]
theorem join_figs {b n o : Int} (hb : 2 ≤ b) (hn : 0 < n) (ho : 0 ≤ o) : figs b (written b (figs b n ++ figs b o)) = figs b n ++ figs b o := by
  obtain ⟨x, t, e, hx⟩ := figs_head hb n (by omega) hn
  have hv : ∀ y ∈ x :: (t ++ figs b o), 0 ≤ y ∧ y < b := fun y hy => by
    rw [← List.cons_append, ← e] at hy
    rcases List.mem_append.mp hy with hy | hy
    · exact figs_mem hb (by omega) y hy
    · exact figs_mem hb ho y hy
  rw [e, List.cons_append]
  exact figs_written hb x _ hx hv
theorem join_zero {b o : Int} (hb : 2 ≤ b) (ho : 0 ≤ o) : written b (figs b 0 ++ figs b o) = o := by
  rw [written_app, figs_zero hb, written_one, written_figs hb o ho]; omega
theorem join_sum {b n o : Int} (hb : 2 ≤ b) (hn : 0 ≤ n) (ho : 0 ≤ o) : (figs b (written b (figs b n ++ figs b o))).sum = (figs b n).sum + (figs b o).sum := by
  rw [figs_written_sum hb, List.sum_append]
  intro y hy
  rcases List.mem_append.mp hy with hy | hy
  · exact figs_mem hb hn y hy
  · exact figs_mem hb ho y hy
theorem written_pow (b : Int) (k : Nat) : written b (1 :: List.replicate k 0) = b ^ k := by
  rw [written_cons, List.length_replicate, written_zero fun x hx => List.eq_of_mem_replicate hx]; omega
theorem part_figs {b n : Int} (hb : 2 ≤ b) (hn : 0 ≤ n) {k : Nat} (hk : k ≤ (figs b n).length) : written b ((figs b n).take ((figs b n).length - k)) * b ^ k + written b ((figs b n).drop ((figs b n).length - k)) = n := by
  have h := written_app b ((figs b n).take ((figs b n).length - k)) ((figs b n).drop ((figs b n).length - k))
  rw [List.take_append_drop, written_figs hb n hn, List.length_drop, show (figs b n).length - ((figs b n).length - k) = k by omega] at h
  exact h.symm
theorem fig_term {b n : Int} {k : Nat} (hk : k < (figs b n).length) : written b ((figs b n).drop ((figs b n).length - (k + 1))) = figAt b n k * b ^ k + written b ((figs b n).drop ((figs b n).length - k)) := by
  have h1 : (figs b n).length - (k + 1) < (figs b n).length := by omega
  rw [List.drop_eq_getElem_cons h1, written_cons, show (figs b n).length - (k + 1) + 1 = (figs b n).length - k by omega, List.length_drop, show (figs b n).length - ((figs b n).length - k) = k by omega]
  congr 2
  unfold figAt
  rw [if_pos hk, List.getD_eq_getElem?_getD, List.getElem?_eq_getElem (by omega), Option.getD_some]
  congr 1
  omega
theorem half_pow {b n : Int} (hb : 2 ≤ b) (hb1 : b < 2 ^ 100) (hn : 0 ≤ n) (hn1 : n < 2 ^ 200) {k : Nat} (hk : k ≤ 1 ∨ 2 * k ≤ (figs b n).length) : b ^ k ≤ 2 ^ 150 := by
  rcases hk with h | h
  · have := pow_mono (b := b) (by omega) h
    rw [Int.pow_succ, Int.pow_zero, Int.one_mul] at this
    omega
  · have h1 := pow_mono (b := b) (by omega) h
    have h2 : b ^ (figs b n).length ≤ 2 ^ 300 := by
      refine figs_bound hb hn ?_ (by omega)
      exact Int.le_trans (Int.mul_le_mul (show b ≤ 2 ^ 100 by omega) (show n ≤ 2 ^ 200 by omega) hn (by decide)) (by decide)
    have p : (0 : Int) ≤ b ^ k := Int.pow_nonneg (by omega)
    by_cases e : b ^ k ≤ 2 ^ 150
    · exact e
    · exfalso
      have m := Int.mul_le_mul (show 2 ^ 150 + 1 ≤ b ^ k by omega) (show 2 ^ 150 + 1 ≤ b ^ k by omega) (by decide) p
      rw [← Int.pow_add, show k + k = 2 * k by omega] at m
      omega
end My
namespace My
theorem fig_lens7 {b n : Int} (n0 : 0 ≤ n) (n1 : n < 2 ^ 300) (b0 : 2 ≤ b) (b1 : b < 2 ^ 100) : (figs b n).length ≤ 301 ∧ b ^ (figs b n).length ≤ 2 ^ 400 := by
  refine ⟨figs_len b0 n0 (k := 300) n1, figs_bound b0 n0 ?_ (by omega)⟩
  have a := Int.mul_le_mul (show b ≤ 2 ^ 100 by omega) (show n ≤ 2 ^ 300 by omega) n0 (by decide)
  exact Int.le_trans a (by decide)
theorem part_ok7 {b n : Int} (n0 : 0 ≤ n) (n1 : n < 2 ^ 300) (b0 : 2 ≤ b) (b1 : b < 2 ^ 100) {xs : List Int} (hm : ∀ x ∈ xs, x ∈ figs b n) (hl : xs.length ≤ (figs b n).length) :
    (∀ x ∈ xs, 0 ≤ x ∧ x < b) ∧ xs.length ≤ 1000 ∧ b ^ xs.length ≤ 2 ^ 800 := by
  obtain ⟨a, c⟩ := fig_lens7 n0 n1 b0 b1
  have d := pow_mono (b := b) (by omega) hl
  exact ⟨fun x hx => figs_mem b0 n0 x (hm x hx), by omega, by omega⟩
theorem two_ok7 {b n o : Int} (n0 : 0 ≤ n) (n1 : n < 2 ^ 300) (o0 : 0 ≤ o) (o1 : o < 2 ^ 300) (b0 : 2 ≤ b) (b1 : b < 2 ^ 100) :
    (∀ x ∈ figs b n ++ figs b o, 0 ≤ x ∧ x < b) ∧ (figs b n ++ figs b o).length ≤ 1000 ∧ b ^ (figs b n ++ figs b o).length ≤ 2 ^ 800 := by
  obtain ⟨a1, a2⟩ := fig_lens7 n0 n1 b0 b1
  obtain ⟨c1, c2⟩ := fig_lens7 o0 o1 b0 b1
  refine ⟨fun x hx => ?_, by rw [List.length_append]; omega, ?_⟩
  · rcases List.mem_append.mp hx with hx | hx
    · exact figs_mem b0 n0 x hx
    · exact figs_mem b0 o0 x hx
  · rw [List.length_append, Int.pow_add]
    have p : (0 : Int) < b ^ (figs b o).length := Int.pow_pos (by omega)
    exact Int.le_trans (Int.mul_le_mul a2 c2 (Int.le_of_lt p) (by decide)) (by decide)
end My
namespace My
theorem strip_len : ∀ l : List Int, (strip l).length ≤ l.length
  | [] => Nat.le_refl _
  | x :: l => by
    by_cases e : x = 0
    · subst e
      rw [strip_zero, List.length_cons]
      have := strip_len l
      omega
    · rw [strip_ne e]; exact Nat.le_refl _
theorem figs_written_len {b : Int} (hb : 2 ≤ b) {l : List Int} (hm : ∀ y ∈ l, 0 ≤ y ∧ y < b) (hl : 1 ≤ l.length) : (figs b (written b l)).length ≤ l.length := by
  by_cases hs : strip l = []
  · rw [figs_strip0 hb hs]; exact hl
  · rw [figs_strip hb hm hs]; exact strip_len l
theorem pow200 {b n : Int} (b0 : 2 ≤ b) (b1 : b < 2 ^ 100) (n0 : 0 ≤ n) (n1 : n < 2 ^ 200) : b ^ (figs b n).length ≤ 2 ^ 300 := by
  refine figs_bound b0 n0 ?_ (by omega)
  exact Int.le_trans (Int.mul_le_mul (show b ≤ 2 ^ 100 by omega) (show n ≤ 2 ^ 200 by omega) n0 (by decide)) (by decide)
theorem bd200 {b n : Int} (b0 : 2 ≤ b) (b1 : b < 2 ^ 100) (n0 : 0 ≤ n) (n1 : n < 2 ^ 200) {l : List Int} (hm : ∀ y ∈ l, 0 ≤ y ∧ y < b) (hl : l.length ≤ (figs b n).length) : 0 ≤ written b l ∧ written b l < 2 ^ 300 := by
  have h := written_bd (b := b) (by omega) l hm
  have p := pow_mono (b := b) (by omega) hl
  have q := pow200 b0 b1 n0 n1
  exact ⟨h.1, by omega⟩
theorem bd_about {b n : Int} (b0 : 2 ≤ b) (b1 : b < 2 ^ 100) (n0 : 0 ≤ n) (n1 : n < 2 ^ 200) : 0 ≤ written b (digs b n) ∧ written b (digs b n) < 2 ^ 300 :=
  bd200 b0 b1 n0 n1 (digs_mem b0 n n0) (by unfold figs; rw [List.length_reverse]; exact Nat.le_refl _)
theorem bd_high {b n : Int} (b0 : 2 ≤ b) (b1 : b < 2 ^ 100) (n0 : 0 ≤ n) (n1 : n < 2 ^ 200) : 0 ≤ written b (asc (figs b n)).reverse ∧ written b (asc (figs b n)).reverse < 2 ^ 300 :=
  bd200 b0 b1 n0 n1 (valid_desc b0 n0) (by rw [List.length_reverse, asc_len]; exact Nat.le_refl _)
theorem bd_low {b n : Int} (b0 : 2 ≤ b) (b1 : b < 2 ^ 100) (n0 : 0 ≤ n) (n1 : n < 2 ^ 200) : 0 ≤ written b (asc (figs b n)) ∧ written b (asc (figs b n)) < 2 ^ 300 :=
  bd200 b0 b1 n0 n1 (valid_asc b0 n0) (by rw [asc_len]; exact Nat.le_refl _)
theorem sum_about {b n : Int} (b0 : 2 ≤ b) (n0 : 0 ≤ n) : (figs b (written b (digs b n))).sum = (figs b n).sum := by
  rw [figs_written_sum b0 (digs_mem b0 n n0)]; unfold figs; rw [sum_rev]
theorem sum_perm {l m : List Int} (h : l.Perm m) : l.sum = m.sum := by
  induction h with
  | nil => rfl
  | cons x _ ih => rw [List.sum_cons, List.sum_cons, ih]
  | swap x y l => simp only [List.sum_cons]; omega
  | trans _ _ a c => exact a.trans c
theorem sum_high {b n : Int} (b0 : 2 ≤ b) (n0 : 0 ≤ n) : (figs b (written b (asc (figs b n)).reverse)).sum = (figs b n).sum := by
  rw [figs_written_sum b0 (valid_desc b0 n0), sum_rev]
  exact sum_perm (asc_perm _)
/-- the number of the first k figures: small if these are at most half of them -/
theorem half_bd {b n : Int} (b0 : 2 ≤ b) (b1 : b < 2 ^ 100) (n0 : 0 ≤ n) (n1 : n < 2 ^ 200) {k : Nat} (k1 : 1 ≤ k) (hk : k ≤ 1 ∨ 2 * k ≤ (figs b n).length) :
    0 ≤ written b ((figs b n).take k) ∧ written b ((figs b n).take k) < 2 ^ 150 ∧ b ^ (figs b (written b ((figs b n).take k))).length ≤ 2 ^ 150 := by
  have hm : ∀ y ∈ (figs b n).take k, 0 ≤ y ∧ y < b := fun y hy => figs_mem b0 n0 y (List.mem_of_mem_take hy)
  have h := written_bd (b := b) (by omega) _ hm
  have hp := half_pow b0 b1 n0 n1 hk
  have hl : ((figs b n).take k).length ≤ k := by rw [List.length_take]; omega
  have p1 := pow_mono (b := b) (by omega) hl
  have hl1 : 1 ≤ ((figs b n).take k).length := by
    have := figs_pos b n
    rw [List.length_take]; omega
  have p2 := pow_mono (b := b) (by omega) (figs_written_len b0 hm hl1)
  exact ⟨h.1, by omega, by omega⟩
theorem whole_bd {b n o : Int} (b0 : 2 ≤ b) (n0 : 0 ≤ n) (n1 : n < 2 ^ 150) (o0 : 0 ≤ o) (o1 : b ^ (figs b o).length ≤ 2 ^ 150) : 0 ≤ written b (figs b n ++ figs b o) ∧ written b (figs b n ++ figs b o) < 2 ^ 300 := by
  rw [written_app, written_figs b0 n n0, written_figs b0 o o0]
  have p : (0 : Int) ≤ b ^ (figs b o).length := Int.pow_nonneg (by omega)
  have ho := written_bd (b := b) (by omega) (figs b o) (figs_mem b0 o0)
  rw [written_figs b0 o o0] at ho
  have m0 := Int.mul_nonneg n0 p
  have m1 := Int.mul_le_mul (show n + 1 ≤ 2 ^ 150 by omega) o1 p (by decide)
  rw [Int.add_mul] at m1
  omega
end My
namespace My
theorem fig_bd {b n : Int} (b0 : 2 ≤ b) (n0 : 0 ≤ n) (k : Nat) : 0 ≤ figAt b n k ∧ figAt b n k < b := by
  unfold figAt
  by_cases h : k < (figs b n).length
  · rw [if_pos h, List.getD_eq_getElem?_getD, List.getElem?_eq_getElem (by omega), Option.getD_some]
    exact figs_mem b0 n0 _ (List.getElem_mem _)
  · rw [if_neg h]; omega
theorem pow_bd {b : Int} (b0 : 2 ≤ b) (b1 : b < 2 ^ 100) {i j : Nat} (h : i ≤ j + 1) (hj : b ^ j ≤ 2 ^ 300) : b ^ i ≤ 2 ^ 800 := by
  have p := pow_mono (b := b) (by omega) h
  have z : (0 : Int) ≤ b ^ j := Int.pow_nonneg (by omega)
  have m := Int.mul_le_mul hj (show b ≤ 2 ^ 100 by omega) (by omega) (by decide)
  rw [Int.pow_succ] at p
  have e : (2 : Int) ^ 300 * 2 ^ 100 ≤ 2 ^ 800 := by decide
  omega
theorem join_parts {b n : Int} (b0 : 2 ≤ b) (n0 : 0 ≤ n) {k : Nat} (hk : k ≤ (figs b n).length) (e : (figs b (written b ((figs b n).drop ((figs b n).length - k)))).length = k) :
    written b (figs b (written b ((figs b n).take ((figs b n).length - k))) ++ figs b (written b ((figs b n).drop ((figs b n).length - k)))) = n := by
  have h1 := (written_bd (b := b) (by omega) ((figs b n).take ((figs b n).length - k)) (fun x hx => figs_mem b0 n0 x (List.mem_of_mem_take hx))).1
  have h2 := (written_bd (b := b) (by omega) ((figs b n).drop ((figs b n).length - k)) (fun x hx => figs_mem b0 n0 x (List.mem_of_mem_drop hx))).1
  rw [written_app, written_figs b0 _ h1, written_figs b0 _ h2, e]
  exact part_figs b0 n0 hk
end My
namespace My
theorem many_whole {b n o : Int} (b0 : 2 ≤ b) (n0 : 0 ≤ n) (o0 : 0 ≤ o) : ((figs b (written b (figs b n ++ figs b o))).length : Int) = ((figs b n).length : Int) * (if 0 < n then 1 else 0) + ((figs b o).length : Int) := by
  by_cases h : 0 < n
  · rw [join_figs b0 h o0, List.length_append, if_pos h]; omega
  · have e : n = 0 := by omega
    subst e
    rw [join_zero b0 o0, if_neg h]; omega
theorem last_whole {b n o : Int} (b0 : 2 ≤ b) (n0 : 0 ≤ n) (o0 : 0 ≤ o) : written b ((figs b (written b (figs b n ++ figs b o))).drop ((figs b (written b (figs b n ++ figs b o))).length - (figs b o).length)) = o := by
  by_cases h : 0 < n
  · rw [join_figs b0 h o0, List.length_append, Nat.add_sub_cancel, List.drop_left, written_figs b0 o o0]
  · have e : n = 0 := by omega
    subst e
    rw [join_zero b0 o0, Nat.sub_self, List.drop_zero, written_figs b0 o o0]
theorem first_whole {b n o : Int} (b0 : 2 ≤ b) (h : 0 < n) (o0 : 0 ≤ o) : written b ((figs b (written b (figs b n ++ figs b o))).take (figs b n).length) = n := by
  rw [join_figs b0 h o0, List.take_left, written_figs b0 n (by omega)]
theorem half_k {m : Nat} : (if (m : Int) / 2 > 1 then (m : Int) / 2 else 1).toNat = (if m / 2 > 1 then m / 2 else 1) := by
  split <;> split <;> omega
theorem half_c (m : Nat) : 1 ≤ (if m / 2 > 1 then m / 2 else 1) ∧ ((if m / 2 > 1 then m / 2 else 1) ≤ 1 ∨ 2 * (if m / 2 > 1 then m / 2 else 1) ≤ m) := by
  split <;> omega
theorem half_nn {m : Nat} : (0 : Int) ≤ (if (m : Int) / 2 > 1 then (m : Int) / 2 else 1) := by split <;> omega
end My
namespace My
/-- figures with noughts in front -/
theorem wide_ok {b n : Int} (b0 : 2 ≤ b) (n0 : 0 ≤ n) (k : Nat) : written b (List.replicate k 0 ++ figs b n) = n ∧ (∀ x ∈ List.replicate k 0 ++ figs b n, 0 ≤ x ∧ x < b) ∧ ∀ i, written b ((List.replicate k 0 ++ figs b n).take i) ≤ n := by
  refine ⟨?_, fun x hx => ?_, fun i => ?_⟩
  · rw [written_app, written_zero fun x hx => List.eq_of_mem_replicate hx, written_figs b0 n n0]; omega
  · rcases List.mem_append.mp hx with h | h
    · rw [List.eq_of_mem_replicate h]; omega
    · exact figs_mem b0 n0 x h
  · rw [List.take_append, written_app, written_zero fun x hx => List.eq_of_mem_replicate (List.mem_of_mem_take hx)]
    have h := written_app b ((figs b n).take (i - (List.replicate k (0 : Int)).length)) ((figs b n).drop (i - (List.replicate k (0 : Int)).length))
    rw [List.take_append_drop, written_figs b0 n n0] at h
    have h1 := (written_bd (b := b) (by omega) ((figs b n).take (i - (List.replicate k (0 : Int)).length)) (fun x hx => figs_mem b0 n0 x (List.mem_of_mem_take hx))).1
    have h2 := (written_bd (b := b) (by omega) ((figs b n).drop (i - (List.replicate k (0 : Int)).length)) (fun x hx => figs_mem b0 n0 x (List.mem_of_mem_drop hx))).1
    generalize written b ((figs b n).take (i - (List.replicate k (0 : Int)).length)) = A at *
    generalize written b ((figs b n).drop (i - (List.replicate k (0 : Int)).length)) = B at *
    have p : (1 : Int) ≤ b ^ ((figs b n).drop (i - (List.replicate k (0 : Int)).length)).length := Int.pow_pos (by omega)
    have m := Int.mul_le_mul_of_nonneg_left p h1
    omega
end My
set_option Elab.async false
set_option linter.all false
set_option maxRecDepth 100000
set_option maxHeartbeats 4000000
/-! enumerate over a list or a tuple; isinstance by a tuple of types -/
namespace My
open PySem PySem.Spec PyProof.Rows L2 Evl
theorem enumNew1 {v : Value} {o : Obj} {J : Heap → Prop} (B : Begins v o J) :
    Meets (Builtin.«enumerate.__new__» ⟨[.type "enumerate", v], []⟩) (fun _ R s => J s.heap ∧
      R (.ok (.ret (.ref (s.heap.push o).objs.size))) { s with heap := (s.heap.push o).push { cls := .type "enumerate", data := .fields #[.none, .bool false, .ref s.heap.objs.size, rawInt 0, .none, .none] } }) :=
  .of_wp fun prog w A R s h => by
    obtain ⟨hp, g, d, tk, os⟩ := s; obtain ⟨h1, h⟩ := h
    have hsub := sub_enumerate
    have it1 : ∀ {A' : Around} {E : Value → Shared → Prop} {Q : Value → Shared → Prop}, Q (.ref hp.objs.size) ⟨hp.push o, g, d, tk, os⟩ → wpAny (model prog w) A' (pyIter v) Q E ⟨hp, g, d, tk, os⟩ :=
      fun q => B.iter prog w _ _ ⟨hp, g, d, tk, os⟩ _ h1 q
    wp_walk using it1
    refine wpAny_stack_any fun st => wpAny_pure ?_
    split
    · rename_i c _ _ _ _ _
      cases (c == Value.type "enumerate") <;> (wp_walk using it1; exact ⟨_, rfl, h⟩)
    · wp_walk using it1
      exact ⟨_, rfl, h⟩
section
variable {prog : Program} {w : World} {A : Around} {E : Value → Shared → Prop} {s : Shared}
theorem enumCall {v : Value} {o : Obj} {J : Heap → Prop} {Q : Value → Shared → Prop} (B : Begins v o J) (h1 : J s.heap)
    (h : ∀ h', IsEnum h' (s.heap.objs.size + 1) s.heap.objs.size 0 .none → h'.get? s.heap.objs.size = some o → h'.objs.size = s.heap.objs.size + 2 →
      (∀ b u, s.heap.get? b = some u → h'.get? b = some u) → Q (.ref (s.heap.objs.size + 1)) { s with heap := h' }) :
    wpAny (model prog w) A (call (.type "enumerate") [v]) Q E s := by
  refine callType_new F.called_enumerate (by decide) (F.typeCall_enumerate_1 _) (F.newCall_enumerate_1 _) (fun obj => F.args_object_init_2 obj _) F.entry_enumerate_new (enumNew1 B) ⟨h1, ?_⟩
  have hz : (s.heap.push o).objs.size = s.heap.objs.size + 1 := Heap.size_push ..
  show _ ∧ _
  rw [hz]
  have he : IsEnum ((s.heap.push o).push { cls := .type "enumerate", data := .fields #[.none, .bool false, .ref s.heap.objs.size, rawInt 0, .none, .none] }) (s.heap.objs.size + 1) s.heap.objs.size 0 .none := by
    have q := Heap.get?_push_size (s.heap.push o) (o := { cls := .type "enumerate", data := .fields #[.none, .bool false, .ref s.heap.objs.size, rawInt 0, .none, .none] }) rfl
    rw [hz] at q; exact q
  exact ⟨⟨_, he, rfl⟩, h _ he (Heap.get?_push_of_some _ (Heap.get?_push_size _ B.free)) (by rw [Heap.size_push, hz]) fun b u x => Heap.get?_push_of_some _ (Heap.get?_push_of_some _ x)⟩
end
/-- the tuple at a, each item in a new pair -/
def IteT (K : PySem.W.Frag) (a : Addr) : It :=
  ⟨fun i H => ∃ (xs : List V) (x : V), SqT K H a xs ∧ xs[i]? = some x, fun i H v H' => ∃ T x, v = .ref T ∧ H T = none ∧ H' = upd H T (.tup [.int (i : Nat), x]) ∧ ∀ xs, SqT K H a xs → xs[i]? = some x, fun i H => ∃ xs : List V, SqT K H a xs ∧ xs.length ≤ i⟩
theorem turn_enumT {P : Program} {w : World} {K : PySem.W.Frag} {elts : List Expr} {kk : Nat} {tpos : Pos} (a e it : Addr) :
    Turn P w K (.Tuple elts kk tpos) (IteT K a) [e, it] e (fun i h => (∃ old, IsEnum h e it ((i : Nat) : Int) old) ∧ h.IsTupleIter it a i ∧ e ≠ it ∧ a ≠ it ∧ a ≠ e) where
  mem := by simp
  obj := fun i h at0 b hb => by
    obtain ⟨⟨old, hen⟩, ⟨o, ho, hc, hd⟩, _⟩ := at0
    have which : b = e ∨ b = it := by simpa using hb
    rcases which with z | z
    · rw [z]; exact ⟨_, hen, fun v q => nomatch q⟩
    · rw [z]; exact ⟨o, ho, fun v q => by rw [hd] at q; cases q⟩
  keep := fun i h h' at0 k => let ⟨⟨old, hen⟩, hi, hne⟩ := at0; ⟨⟨old, k e (by simp) _ hen⟩, hi.at fun o q => k it (by simp) o q, hne⟩
  item := by
    intro X hP hw hK hc i pins s σ H E I own at0 more
    subst hP hw hK
    obtain ⟨⟨old, hen⟩, hir, hne, hai, hae⟩ := at0
    obtain ⟨xs, x, seq, hx⟩ := more
    obtain ⟨us2, rels, p, hz⟩ := I.tuple seq
    obtain ⟨u, hu, ru⟩ := rels.get hx
    have enl : e < s.heap.objs.size := Heap.lt_size hen
    have irl : it < s.heap.objs.size := by obtain ⟨_, q, _⟩ := hir; exact Heap.lt_size q
    have ht : s.heap.IsTuple a us2.toArray := p
    have hi : i < us2.toArray.size := by
      have := (List.getElem?_eq_some_iff.mp hu).1
      simpa using this
    refine wpAny_pyNext_enum_itemD (Draws.tuple (A := X.A.in1) (I.ok.hd hc) it a hai us2.toArray) hen ⟨hir, ht⟩ hi hne (by simp [hne, Ne.symm hae]) fun y h' tk hP ho hS hT hsz kept => ?_
    have ey : y = u := by
      have h1 : us2.toArray[i]? = some y := hP
      have h2 : us2.toArray[i]? = some u := by simpa using hu
      rw [h1] at h2; exact Option.some.inj h2
    subst ey
    refine ⟨_, rfl, wpAny_letOwnedTupleGo_enum (s := { s with heap := h', toks := tk + 1 }) ho fun h'' he' same => ?_⟩
    have hT2 : h''.get? s.heap.objs.size = some { cls := .type "tuple", data := .seq #[.int i tk, y] } := (same.2 _ (Nat.ne_of_gt enl)).trans hT
    have new : ObjOk X.prog X.w (upd H s.heap.objs.size (.tup [.int (i : Nat), x])) h'' s.heap.objs.size (.tup [.int (i : Nat), x]) :=
      ⟨by show 2 ≤ sizeLine; decide, [.int i tk, y], .cons ⟨_, rfl⟩ (.cons ru .nil), ⟨_, hT2, rfl, _, rfl⟩⟩
    have J1 : Inv X pins σ (upd H s.heap.objs.size (.tup [.int (i : Nat), x])) { s with heap := h'', toks := tk + 1 } :=
      I.turnedNew (ch := [e, it]) (fun b ob hb q => (same.2 b (fun z => hb (by simp [z]))).trans (kept b ob (fun z => hb (by simp [z])) (fun z => hb (by simp [z])) q)) own (Nat.le_refl _) new
    refine ⟨.ref s.heap.objs.size, _, J1, rfl, ⟨_, x, rfl, I.hok.fresh (Nat.le_refl _), rfl, fun ys hy => by rw [I.tuple_inj hy seq]; exact hx⟩, ⟨⟨y, ?_⟩, hS.1.at fun o q => (same.2 it (Ne.symm hne)).trans q, hne, hai, hae⟩, fun b hb => ?_⟩
    · have e1 : ((i + 1 : Nat) : Int) = (i : Int) + 1 := by omega
      rw [e1]; exact he'
    · have hb' : b < s.heap.objs.size := by
        have which : b = e ∨ b = it := by simpa using hb
        rcases which with z | z
        · rw [z]; exact enl
        · rw [z]; exact irl
      rw [upd_ne (Nat.ne_of_lt hb')]
      exact (own b hb).1
  done := by
    intro X hP hw hK hc i pins s σ H E I own at0 more
    subst hP hw hK
    obtain ⟨⟨old, hen⟩, hir, hne, hai, hae⟩ := at0
    obtain ⟨xs, seq, hx⟩ := more
    obtain ⟨us2, rels, p, hz⟩ := I.tuple seq
    obtain ⟨f0, f1, f2, f3, f4, f5⟩ := own it (by simp)
    have hl := rels.length
    have hT : s.TypeIs (.ref e) "enumerate" := ⟨_, hen, rfl⟩
    unfold pyNext
    refine wpAny_bind (wpAny_attempt (wpAny_callSpecial?_slot (name := Str.ofString "__next__") hT F.slot_enumerate_next
      (wpAny_call_entry F.slot_enumerate_next hT F.entry_enumerate_next ?_ (F.args_enumerate_next_1 _))))
    show wpAny _ _ (field (.ref e) 2 >>= _) _ _ _
    refine wpAny_bind (wpAny_field hen rfl (x := .ref it) rfl ?_)
    refine wpAny_bind (wpAny_nextOf_tuple_end (I.ok.hd hc) hir (show s.heap.IsTuple a us2.toArray from p) (by simp; omega) fun h' x he' hx' => ?_)
    obtain ⟨o, ho, hc⟩ := hx'
    refine wpAny_bind (wpAny_isInstance (T := "StopIteration") (b := true) ⟨o, ho, hc⟩ isSubtype_stop ?_)
    exact wpAny_pure ⟨rfl, I.turned (t' := s.toks) (fun b o hb q => he' b o hb q) f0 f1 f3 f4 f5⟩
  self := fun A i s Q E at0 h => let ⟨⟨_, hen⟩, _⟩ := at0; wpAny_pyIter_enum hen h
/-- enumerate of a list or a tuple -/
def iEnumX (K : PySem.W.Frag) (ta : TA) : TI := fun σ H R => ta σ H fun vs H1 => ∃ a, vs = [.ref a] ∧ (((∃ xs, SqL K H1 a xs) ∧ R (Ite K a) H1) ∨ ((∃ xs, SqT K H1 a xs) ∧ R (IteT K a) H1))
theorem pi_enumX {X : Cx} {e : Expr} {ta : TA} {p pos tpos : Pos} {elts : List Expr} {kk : Nat} (more : Gl X "enumerate") (hm : X.mg "enumerate" = none) (ha : PA X [e] ta) (hs : starEach [e] X.env = [(false, eval e X.env)] := by rfl) :
    PI X (.Tuple elts kk tpos) (.Call (.Name "enumerate" p) [e] [] pos) (iEnumX X.K ta) := by
  refine ⟨fun pins s σ H R I h => ?_⟩
  refine Call_ (ld_blt I more hm boot_enumerate (PyProof.Rows.callWith_type1 (thn (ha.run pos pins s σ H _ I h) fun us s1 ⟨vs, H1, J1, r1, q1⟩ => ?_) hs rfl))
  obtain ⟨a, ex, q⟩ := q1
  subst ex
  cases r1 with
  | cons r rr =>
    cases rr
    cases r
    have fps : ∀ b ∈ [s1.heap.objs.size + 1, s1.heap.objs.size], FpOk X pins H1 b := fun b hb => by
      have which : b = s1.heap.objs.size + 1 ∨ b = s1.heap.objs.size := by simpa using hb
      have high : s1.heap.objs.size ≤ b := by
        rcases which with z | z
        · rw [z]; exact Nat.le_add_right _ _
        · rw [z]; exact Nat.le_refl _
      exact J1.fpOk high (J1.hok.fresh high)
    rcases q with ⟨⟨xs, seq⟩, q⟩ | ⟨⟨xs, seq⟩, q⟩
    · obtain ⟨us2, rels, p', hz⟩ := J1.list seq
      refine call_enumerate_list p'.isList fun h' hen hir hsz kept => wpAny_pyIter_enum hen ?_
      exact ⟨s1.heap.objs.size + 1, [s1.heap.objs.size + 1, s1.heap.objs.size], _, _, H1, rfl, J1.kept (t' := s1.toks) kept, turn_enum a (s1.heap.objs.size + 1) s1.heap.objs.size, ⟨⟨.none, hen⟩, hir, Nat.succ_ne_self _⟩, fps, q⟩
    · obtain ⟨us2, rels, p', hz⟩ := J1.tuple seq
      have ht : s1.heap.IsTuple a us2.toArray := p'
      have hal : a < s1.heap.objs.size := by obtain ⟨o, q1, _⟩ := ht; exact Heap.lt_size q1
      refine enumCall (begins_tuple a us2.toArray) ht fun h' hen hir hsz kept => wpAny_pyIter_enum hen ?_
      exact ⟨s1.heap.objs.size + 1, [s1.heap.objs.size + 1, s1.heap.objs.size], _, _, H1, rfl, J1.kept (t' := s1.toks) kept, turn_enumT a (s1.heap.objs.size + 1) s1.heap.objs.size, ⟨⟨.none, hen⟩, ⟨_, hir, rfl, rfl⟩, Nat.succ_ne_self _, Nat.ne_of_lt hal, Nat.ne_of_lt (Nat.lt_succ_of_lt hal)⟩, fps, q⟩
/-- isinstance(x, (t1, t2)): types that are built in -/
def rIsi2 : List V → Hp → VK → Prop
  | [x, .ref tp], H, Q => ∃ n m t b c, H tp = some (.tup [.ty n, .ty m]) ∧ vty H x = some t ∧ kitB t n = some b ∧ kitB t m = some c ∧ Q (.bl (b || c)) H
  | _, _, _ => False
theorem call_isi2 {X : Cx} : CallR X (.builtin "isinstance") rIsi2 := by
  intro pins s σ H xs us Q I r h
  unfold rIsi2 at h
  split at h
  · obtain ⟨n, m, t, b, c, h0, h1, h2, h3, q⟩ := h
    refine call_isiT pins s σ H _ us Q I r ⟨_, _, _, _, [.type n, .type m], b || c, rfl, h0, .cons (.ty _) (.cons (.ty _) .nil), tyX_of h1, ?_, q⟩
    refine kitAny_cons (kit_ty h2) (fun e => ?_) (fun e => by rw [e]; rfl)
    rw [e, Bool.false_or]
    exact kitAny_cons (kit_ty h3) (fun e => by rw [e]; exact kitAny_nil) fun e => e
  · exact h.elim
theorem kb10 : kitB "list" "tuple" = some false := by decide +kernel
theorem kb11 : kitB "tuple" "list" = some false := by decide +kernel
theorem kb12 : kitB "tuple" "tuple" = some true := by decide +kernel
theorem kb13 : kitB "int" "list" = some false := by decide +kernel
theorem kb14 : kitB "int" "tuple" = some false := by decide +kernel
theorem kb15 : kitB "NoneType" "list" = some false := by decide +kernel
theorem kb16 : kitB "NoneType" "tuple" = some false := by decide +kernel
theorem kb17 : kitB "str" "list" = some false := by decide +kernel
theorem kb18 : kitB "str" "tuple" = some false := by decide +kernel
theorem kb19 : kitB "bool" "list" = some false := by decide +kernel
theorem kb20 : kitB "bool" "tuple" = some false := by decide +kernel
theorem for_enumL {K : PySem.W.Frag} {a : Addr} {xs : List V} {g : TG} {tb : TS} {D : Ends} {σ : L2.St} {H : Hp} (Iv : Nat → L2.St → Hp → Prop) (h0 : Iv 0 σ H) (holds : ∀ i σ H, i ≤ xs.length → Iv i σ H → SqL K H a xs)
    (turns : ∀ i x σ H T, xs[i]? = some x → Iv i σ H → H T = none → g (.ref T) σ (upd H T (.tup [.int (i : Nat), x])) fun σ2 H2 => tb { D with nx := Iv (i + 1), ct := Iv (i + 1), bk := D.nx } σ2 H2) (fin0 : ∀ σ H, Iv xs.length σ H → D.nx σ H) :
    ∃ W : Nat → Nat → L2.St → Hp → Prop, (∃ m, W 0 m σ H) ∧ ∀ i m σ H, W i m σ H →
      ((Ite K a).stop i H ∧ D.nx σ H) ∨ ((Ite K a).go i H ∧ ∃ N : L2.St → Hp → Prop, (∀ σ' H', N σ' H' → ∃ m', m' < m ∧ W (i + 1) m' σ' H') ∧ ∀ x H', (Ite K a).yld i H x H' → g x σ H' fun σ2 H2 => tb { D with nx := N, ct := N, bk := D.nx } σ2 H2) := by
  refine ⟨fun i m σ H => m = xs.length - i ∧ i ≤ xs.length ∧ Iv i σ H, ⟨xs.length, by simp, Nat.zero_le _, h0⟩, ?_⟩
  rintro i m σ H ⟨rfl, ile, now⟩
  have seen := holds i σ H ile now
  by_cases lt : i < xs.length
  · refine .inr ⟨⟨xs, xs[i], seen, by simp [lt]⟩, Iv (i + 1), fun σ' H' now2 => ⟨xs.length - (i + 1), by omega, rfl, lt, now2⟩, fun x H' y => ?_⟩
    obtain ⟨T, z, e, hT, e2, y⟩ := y
    subst e e2
    exact turns i z σ _ T (y xs seen) now hT
  · have e : i = xs.length := by omega
    subst e
    exact .inl ⟨⟨xs, seen, Nat.le_refl _⟩, fin0 σ H now⟩
theorem for_enumT {K : PySem.W.Frag} {a : Addr} {xs : List V} {g : TG} {tb : TS} {D : Ends} {σ : L2.St} {H : Hp} (Iv : Nat → L2.St → Hp → Prop) (h0 : Iv 0 σ H) (holds : ∀ i σ H, i ≤ xs.length → Iv i σ H → SqT K H a xs)
    (turns : ∀ i x σ H T, xs[i]? = some x → Iv i σ H → H T = none → g (.ref T) σ (upd H T (.tup [.int (i : Nat), x])) fun σ2 H2 => tb { D with nx := Iv (i + 1), ct := Iv (i + 1), bk := D.nx } σ2 H2) (fin0 : ∀ σ H, Iv xs.length σ H → D.nx σ H) :
    ∃ W : Nat → Nat → L2.St → Hp → Prop, (∃ m, W 0 m σ H) ∧ ∀ i m σ H, W i m σ H →
      ((IteT K a).stop i H ∧ D.nx σ H) ∨ ((IteT K a).go i H ∧ ∃ N : L2.St → Hp → Prop, (∀ σ' H', N σ' H' → ∃ m', m' < m ∧ W (i + 1) m' σ' H') ∧ ∀ x H', (IteT K a).yld i H x H' → g x σ H' fun σ2 H2 => tb { D with nx := N, ct := N, bk := D.nx } σ2 H2) := by
  refine ⟨fun i m σ H => m = xs.length - i ∧ i ≤ xs.length ∧ Iv i σ H, ⟨xs.length, by simp, Nat.zero_le _, h0⟩, ?_⟩
  rintro i m σ H ⟨rfl, ile, now⟩
  have seen := holds i σ H ile now
  by_cases lt : i < xs.length
  · refine .inr ⟨⟨xs, xs[i], seen, by simp [lt]⟩, Iv (i + 1), fun σ' H' now2 => ⟨xs.length - (i + 1), by omega, rfl, lt, now2⟩, fun x H' y => ?_⟩
    obtain ⟨T, z, e, hT, e2, y⟩ := y
    subst e e2
    exact turns i z σ _ T (y xs seen) now hT
  · have e : i = xs.length := by omega
    subst e
    exact .inl ⟨⟨xs, seen, Nat.le_refl _⟩, fin0 σ H now⟩
end My
set_option Elab.async false
set_option linter.all false
set_option maxRecDepth 100000
set_option maxHeartbeats 4000000
set_option exponentiation.threshold 5000
namespace My
open PySem PySem.Spec PyProof.Rows L2 Evl
local macro_rules | `(tactic| walk_at "st") => `(tactic| simp only [L2.start, List.map_cons, List.map_nil, List.length_cons, List.length_nil, Nat.reduceAdd, Nat.reduceSub, List.replicate_succ, List.replicate_zero, List.cons_append, List.nil_append, cxOf, List.append_nil])
local macro_rules | `(tactic| walk_at "vc") => `(tactic| try simp only [tSeq, tAsg, tOp, tUn, tVar, tC, tNil, tCons, gName, rI, rI0, rU, tRet, tIfS, tNot, tAnd, tOr, tB, tTest, tCB, tCall, tAndV, tOrV, tNotV, tNext, tNever, tIf, tChain, tYes, tPart, tNoPart, tPar, tDrop, q_isi, q_vn, q_vb, q_vi, q_vs, kb1, kb2, kb3, kb4, kb5, kb6, kb7, kb8, q_int1, q_int2, q_min, q_max, q_repr, tLst, tTup, rEq, rNe, q_sii, q_sss, q_sbb, q_snn, q_sns, q_ssn, q_ix, q_sl, tSl, tBM, tBM0, q_app, q_pop, gSub, rSetL, L2.wipe, eq_self, decide_true, decide_false, tRevL,
  List.getElem?_cons_succ, List.getElem?_cons_zero, List.set_cons_succ, List.set_cons_zero, Option.some.injEq, exists_eq_left', exists_eq_left, V.int.injEq, V.bl.injEq, V.ref.injEq, V.str.injEq, List.cons.injEq, and_true, true_and, List.append_nil, List.nil_append, List.cons_append, exists_and_left, and_assoc, if_true, if_false, Bool.not_true, Bool.not_false, Bool.false_eq_true, Bool.true_eq_false, reduceIte, tRevL, tPar3, tRevT, tUnl, tCKw, forall_const, Bool.not_eq_true', decide_eq_true_eq, decide_eq_false_iff_not])
def topS (i : Nat) : Stmt := PySem.Challenge.pw_everybase_k07_whole_figures_go_together.main.body.getD i (.Pass ⟨0, 0, 0, 0⟩)
abbrev s_is_integer : Stmt := topS 6
abbrev N_is_integer : List Str := ["value"]
theorem sc_is_integer : FnScope N_is_integer ["value"] (defScope s_is_integer) := ⟨rfl, rfl, rfl, by decide +kernel, rfl, by decide +kernel, by decide +kernel⟩
abbrev s_is_number : Stmt := topS 7
abbrev N_is_number : List Str := ["value"]
theorem sc_is_number : FnScope N_is_number ["value"] (defScope s_is_number) := ⟨rfl, rfl, rfl, by decide +kernel, rfl, by decide +kernel, by decide +kernel⟩
abbrev s_is_base : Stmt := topS 8
abbrev N_is_base : List Str := ["value"]
theorem sc_is_base : FnScope N_is_base ["value"] (defScope s_is_base) := ⟨rfl, rfl, rfl, by decide +kernel, rfl, by decide +kernel, by decide +kernel⟩
abbrev s_figures_of : Stmt := topS 10
abbrev N_figures_of : List Str := ["number", "base", "behind", "left"]
theorem sc_figures_of : FnScope N_figures_of ["number", "base"] (defScope s_figures_of) := ⟨rfl, rfl, rfl, by decide +kernel, rfl, by decide +kernel, by decide +kernel⟩
abbrev s_number_of : Stmt := topS 11
abbrev N_number_of : List Str := ["figures", "base", "at", "one"]
theorem sc_number_of : FnScope N_number_of ["figures", "base"] (defScope s_number_of) := ⟨rfl, rfl, rfl, by decide +kernel, rfl, by decide +kernel, by decide +kernel⟩
abbrev s_turned : Stmt := topS 12
abbrev N_turned : List Str := ["number", "base"]
theorem sc_turned : FnScope N_turned ["number", "base"] (defScope s_turned) := ⟨rfl, rfl, rfl, by decide +kernel, rfl, by decide +kernel, by decide +kernel⟩
abbrev s_least : Stmt := topS 13
abbrev N_least : List Str := ["number", "base", "one"]
theorem sc_least : FnScope N_least ["number", "base"] (defScope s_least) := ⟨rfl, rfl, rfl, by decide +kernel, rfl, by decide +kernel, by decide +kernel⟩
abbrev s_greatest : Stmt := topS 14
abbrev N_greatest : List Str := ["number", "base", "one"]
theorem sc_greatest : FnScope N_greatest ["number", "base"] (defScope s_greatest) := ⟨rfl, rfl, rfl, by decide +kernel, rfl, by decide +kernel, by decide +kernel⟩
abbrev s_total : Stmt := topS 15
abbrev N_total : List Str := ["number", "base"]
theorem sc_total : FnScope N_total ["number", "base"] (defScope s_total) := ⟨rfl, rfl, rfl, by decide +kernel, rfl, by decide +kernel, by decide +kernel⟩
abbrev s_many : Stmt := topS 16
abbrev N_many : List Str := ["number", "base"]
theorem sc_many : FnScope N_many ["number", "base"] (defScope s_many) := ⟨rfl, rfl, rfl, by decide +kernel, rfl, by decide +kernel, by decide +kernel⟩
abbrev s_root : Stmt := topS 17
abbrev N_root : List Str := ["number", "base", "left"]
theorem sc_root : FnScope N_root ["number", "base"] (defScope s_root) := ⟨rfl, rfl, rfl, by decide +kernel, rfl, by decide +kernel, by decide +kernel⟩
abbrev s_figure : Stmt := topS 18
abbrev N_figure : List Str := ["number", "k", "base", "figures"]
theorem sc_figure : FnScope N_figure ["number", "k", "base"] (defScope s_figure) := ⟨rfl, rfl, rfl, by decide +kernel, rfl, by decide +kernel, by decide +kernel⟩
abbrev s_first : Stmt := topS 19
abbrev N_first : List Str := ["number", "k", "base"]
theorem sc_first : FnScope N_first ["number", "k", "base"] (defScope s_first) := ⟨rfl, rfl, rfl, by decide +kernel, rfl, by decide +kernel, by decide +kernel⟩
abbrev s_last : Stmt := topS 20
abbrev N_last : List Str := ["number", "k", "base", "figures"]
theorem sc_last : FnScope N_last ["number", "k", "base"] (defScope s_last) := ⟨rfl, rfl, rfl, by decide +kernel, rfl, by decide +kernel, by decide +kernel⟩
abbrev s_joined : Stmt := topS 21
abbrev N_joined : List Str := ["number", "other", "base"]
theorem sc_joined : FnScope N_joined ["number", "other", "base"] (defScope s_joined) := ⟨rfl, rfl, rfl, by decide +kernel, rfl, by decide +kernel, by decide +kernel⟩
abbrev s_mirrored : Stmt := topS 22
abbrev N_mirrored : List Str := ["number", "base", "figures"]
theorem sc_mirrored : FnScope N_mirrored ["number", "base"] (defScope s_mirrored) := ⟨rfl, rfl, rfl, by decide +kernel, rfl, by decide +kernel, by decide +kernel⟩
abbrev s_unlike : Stmt := topS 23
abbrev N_unlike : List Str := ["number", "base", "figures"]
theorem sc_unlike : FnScope N_unlike ["number", "base"] (defScope s_unlike) := ⟨rfl, rfl, rfl, by decide +kernel, rfl, by decide +kernel, by decide +kernel⟩
abbrev s_value : Stmt := topS 24
abbrev N_value : List Str := ["figures", "base", "number", "one"]
theorem sc_value : FnScope N_value ["figures", "base"] (defScope s_value) := ⟨rfl, rfl, rfl, by decide +kernel, rfl, by decide +kernel, by decide +kernel⟩
abbrev s_law_deal : Stmt := topS 26
abbrev N_law_deal : List Str := ["_law_script", "_law_base_here", "_law_cells", "_law_blend", "_law_cell"]
theorem sc_law_deal : FnScope N_law_deal ["_law_script", "_law_base_here"] (defScope s_law_deal) := ⟨rfl, rfl, rfl, by decide +kernel, rfl, by decide +kernel, by decide +kernel⟩
abbrev s_law_draw : Stmt := topS 27
abbrev N_law_draw : List Str := ["_law_deal_here", "_law_span", "_law_left"]
theorem sc_law_draw : FnScope N_law_draw ["_law_deal_here", "_law_span"] (defScope s_law_draw) := ⟨rfl, rfl, rfl, by decide +kernel, rfl, by decide +kernel, by decide +kernel⟩
abbrev s_law_pick : Stmt := topS 28
abbrev N_law_pick : List Str := ["_law_deal_here", "_law_some"]
theorem sc_law_pick : FnScope N_law_pick ["_law_deal_here", "_law_some"] (defScope s_law_pick) := ⟨rfl, rfl, rfl, by decide +kernel, rfl, by decide +kernel, by decide +kernel⟩
abbrev s_law_base : Stmt := topS 29
abbrev N_law_base : List Str := ["_law_deal_here", "_law_some"]
theorem sc_law_base : FnScope N_law_base ["_law_deal_here"] (defScope s_law_base) := ⟨rfl, rfl, rfl, by decide +kernel, rfl, by decide +kernel, by decide +kernel⟩
abbrev s_law_written : Stmt := topS 30
abbrev N_law_written : List Str := ["_law_figures_here", "_law_base_here", "_law_found", "_law_one"]
theorem sc_law_written : FnScope N_law_written ["_law_figures_here", "_law_base_here"] (defScope s_law_written) := ⟨rfl, rfl, rfl, by decide +kernel, rfl, by decide +kernel, by decide +kernel⟩
abbrev s_law_number : Stmt := topS 32
abbrev N_law_number : List Str := ["_law_deal_here", "_law_base_here", "_law_span", "_law_room", "_law_some", "_law_found", "_law_k"]
theorem sc_law_number : FnScope N_law_number ["_law_deal_here", "_law_base_here"] (defScope s_law_number) := ⟨rfl, rfl, rfl, by decide +kernel, rfl, by decide +kernel, by decide +kernel⟩
abbrev s_law_sums_right : Stmt := topS 33
abbrev N_law_sums_right : List Str := ["_law_number_here", "_law_base_here", "_law_added", "_law_left"]
theorem sc_law_sums_right : FnScope N_law_sums_right ["_law_number_here", "_law_base_here"] (defScope s_law_sums_right) := ⟨rfl, rfl, rfl, by decide +kernel, rfl, by decide +kernel, by decide +kernel⟩
abbrev s_law_order_right : Stmt := topS 34
abbrev N_law_order_right : List Str := ["_law_number_here", "_law_base_here", "_law_low", "_law_high", "_law_about", "_law_bare", "_law_lacking"]
theorem sc_law_order_right : FnScope N_law_order_right ["_law_number_here", "_law_base_here"] (defScope s_law_order_right) := ⟨rfl, rfl, rfl, by decide +kernel, rfl, by decide +kernel, by decide +kernel⟩
abbrev s_law : Stmt := topS 35
abbrev N_law : List Str := ["_law_script", "_law_deal_here", "_law_turn", "_law_base_here", "_law_number_here", "_law_other", "_law_size", "_law_k", "_law_head", "_law_tail", "_law_whole", "_law_at"]
theorem sc_law : FnScope N_law ["_law_script"] (defScope s_law) := ⟨rfl, rfl, rfl, by decide +kernel, rfl, by decide +kernel, by decide +kernel⟩
structure Txt (K : PySem.W.Frag) (mg : Str → Option Value) (a_is_integer a_is_number a_is_base a_figures_of a_number_of a_turned a_least a_greatest a_total a_many a_root a_figure a_first a_last a_joined a_mirrored a_unlike a_value a_law_deal a_law_draw a_law_pick a_law_base a_law_written a_law_number a_law_sums_right a_law_order_right a_law : Addr) (d_is_integer d_is_number d_is_base d_figures_of d_number_of d_turned d_least d_greatest d_total d_many d_root d_figure d_first d_last d_joined d_mirrored d_unlike d_value d_law_deal d_law_draw d_law_pick d_law_base d_law_written d_law_number d_law_sums_right d_law_order_right d_law : FuncData) : Prop where
  F_is_integer : Fun K "is_integer" "is_integer" s_is_integer a_is_integer d_is_integer
  b_is_integer : Binds K d_is_integer ["value"] []
  g_is_integer : mg "is_integer" = some (.ref a_is_integer)
  F_is_number : Fun K "is_number" "is_number" s_is_number a_is_number d_is_number
  b_is_number : Binds K d_is_number ["value"] []
  g_is_number : mg "is_number" = some (.ref a_is_number)
  F_is_base : Fun K "is_base" "is_base" s_is_base a_is_base d_is_base
  b_is_base : Binds K d_is_base ["value"] []
  g_is_base : mg "is_base" = some (.ref a_is_base)
  F_figures_of : Fun K "figures_of" "figures_of" s_figures_of a_figures_of d_figures_of
  b_figures_of : Binds K d_figures_of ["number", "base"] []
  g_figures_of : mg "figures_of" = some (.ref a_figures_of)
  F_number_of : Fun K "number_of" "number_of" s_number_of a_number_of d_number_of
  b_number_of : Binds K d_number_of ["figures", "base"] []
  g_number_of : mg "number_of" = some (.ref a_number_of)
  F_turned : Fun K "turned" "turned" s_turned a_turned d_turned
  b_turned : Binds K d_turned ["number", "base"] []
  g_turned : mg "turned" = some (.ref a_turned)
  F_least : Fun K "least" "least" s_least a_least d_least
  b_least : Binds K d_least ["number", "base"] []
  g_least : mg "least" = some (.ref a_least)
  F_greatest : Fun K "greatest" "greatest" s_greatest a_greatest d_greatest
  b_greatest : Binds K d_greatest ["number", "base"] []
  g_greatest : mg "greatest" = some (.ref a_greatest)
  F_total : Fun K "total" "total" s_total a_total d_total
  b_total : Binds K d_total ["number", "base"] []
  g_total : mg "total" = some (.ref a_total)
  F_many : Fun K "many" "many" s_many a_many d_many
  b_many : Binds K d_many ["number", "base"] []
  g_many : mg "many" = some (.ref a_many)
  F_root : Fun K "root" "root" s_root a_root d_root
  b_root : Binds K d_root ["number", "base"] []
  g_root : mg "root" = some (.ref a_root)
  F_figure : Fun K "figure" "figure" s_figure a_figure d_figure
  b_figure : Binds K d_figure ["number", "k", "base"] []
  g_figure : mg "figure" = some (.ref a_figure)
  F_first : Fun K "first" "first" s_first a_first d_first
  b_first : Binds K d_first ["number", "k", "base"] []
  g_first : mg "first" = some (.ref a_first)
  F_last : Fun K "last" "last" s_last a_last d_last
  b_last : Binds K d_last ["number", "k", "base"] []
  g_last : mg "last" = some (.ref a_last)
  F_joined : Fun K "joined" "joined" s_joined a_joined d_joined
  b_joined : Binds K d_joined ["number", "other", "base"] []
  g_joined : mg "joined" = some (.ref a_joined)
  F_mirrored : Fun K "mirrored" "mirrored" s_mirrored a_mirrored d_mirrored
  b_mirrored : Binds K d_mirrored ["number", "base"] []
  g_mirrored : mg "mirrored" = some (.ref a_mirrored)
  F_unlike : Fun K "unlike" "unlike" s_unlike a_unlike d_unlike
  b_unlike : Binds K d_unlike ["number", "base"] []
  g_unlike : mg "unlike" = some (.ref a_unlike)
  F_value : Fun K "_value" "_value" s_value a_value d_value
  b_value : Binds K d_value ["figures", "base"] []
  g_value : mg "_value" = some (.ref a_value)
  F_law_deal : Fun K "_law_deal" "_law_deal" s_law_deal a_law_deal d_law_deal
  b_law_deal : Binds K d_law_deal ["_law_script", "_law_base_here"] []
  g_law_deal : mg "_law_deal" = some (.ref a_law_deal)
  F_law_draw : Fun K "_law_draw" "_law_draw" s_law_draw a_law_draw d_law_draw
  b_law_draw : Binds K d_law_draw ["_law_deal_here", "_law_span"] []
  g_law_draw : mg "_law_draw" = some (.ref a_law_draw)
  F_law_pick : Fun K "_law_pick" "_law_pick" s_law_pick a_law_pick d_law_pick
  b_law_pick : Binds K d_law_pick ["_law_deal_here", "_law_some"] []
  g_law_pick : mg "_law_pick" = some (.ref a_law_pick)
  F_law_base : Fun K "_law_base" "_law_base" s_law_base a_law_base d_law_base
  b_law_base : Binds K d_law_base ["_law_deal_here"] []
  g_law_base : mg "_law_base" = some (.ref a_law_base)
  F_law_written : Fun K "_law_written" "_law_written" s_law_written a_law_written d_law_written
  b_law_written : Binds K d_law_written ["_law_figures_here", "_law_base_here"] []
  g_law_written : mg "_law_written" = some (.ref a_law_written)
  F_law_number : Fun K "_law_number" "_law_number" s_law_number a_law_number d_law_number
  b_law_number : Binds K d_law_number ["_law_deal_here", "_law_base_here"] []
  g_law_number : mg "_law_number" = some (.ref a_law_number)
  F_law_sums_right : Fun K "_law_sums_right" "_law_sums_right" s_law_sums_right a_law_sums_right d_law_sums_right
  b_law_sums_right : Binds K d_law_sums_right ["_law_number_here", "_law_base_here"] []
  g_law_sums_right : mg "_law_sums_right" = some (.ref a_law_sums_right)
  F_law_order_right : Fun K "_law_order_right" "_law_order_right" s_law_order_right a_law_order_right d_law_order_right
  b_law_order_right : Binds K d_law_order_right ["_law_number_here", "_law_base_here"] []
  g_law_order_right : mg "_law_order_right" = some (.ref a_law_order_right)
  F_law : Fun K "law" "law" s_law a_law d_law
  b_law : Binds K d_law ["_law_script"] []
  g_law : mg "law" = some (.ref a_law)
  z_bool : mg "bool" = none
  z_enumerate : mg "enumerate" = none
  z_int : mg "int" = none
  z_isinstance : mg "isinstance" = none
  z_len : mg "len" = none
  z_list : mg "list" = none
  z_max : mg "max" = none
  z_min : mg "min" = none
  z_range : mg "range" = none
  z_set : mg "set" = none
  z_sorted : mg "sorted" = none
  z_sum : mg "sum" = none
  z_tuple : mg "tuple" = none
section
variable {P : Program} {w : World} {K : PySem.W.Frag} {mg : Str → Option Value} {base : Heap}
variable {a_is_integer a_is_number a_is_base a_figures_of a_number_of a_turned a_least a_greatest a_total a_many a_root a_figure a_first a_last a_joined a_mirrored a_unlike a_value a_law_deal a_law_draw a_law_pick a_law_base a_law_written a_law_number a_law_sums_right a_law_order_right a_law : Addr} {d_is_integer d_is_number d_is_base d_figures_of d_number_of d_turned d_least d_greatest d_total d_many d_root d_figure d_first d_last d_joined d_mirrored d_unlike d_value d_law_deal d_law_draw d_law_pick d_law_base d_law_written d_law_number d_law_sums_right d_law_order_right d_law : FuncData}
def sp_is_integer : Sp
  | [.int _], H, Q, _ => Q (.bl true) H
  | _, _, _, _ => False
theorem ok_is_integer (T : Txt K mg a_is_integer a_is_number a_is_base a_figures_of a_number_of a_turned a_least a_greatest a_total a_many a_root a_figure a_first a_last a_joined a_mirrored a_unlike a_value a_law_deal a_law_draw a_law_pick a_law_base a_law_written a_law_number a_law_sums_right a_law_order_right a_law d_is_integer d_is_number d_is_base d_figures_of d_number_of d_turned d_least d_greatest d_total d_many d_root d_figure d_first d_last d_joined d_mirrored d_unlike d_value d_law_deal d_law_draw d_law_pick d_law_base d_law_written d_law_number d_law_sums_right d_law_order_right d_law) : FnOk P w K mg base CX0 1 a_is_integer d_is_integer ["value"] sp_is_integer := by
  refine T.F_is_integer.ok sc_is_integer (fun vs H Q E h => ?_) (fun cdv A outer s H vs Q E hr h => ?_)
  · unfold sp_is_integer at h; split at h; rfl; exact h.elim
  · unfold sp_is_integer at h; split at h
    case h_2 => exact h.elim
    refine ⟨_, (pss_one (ps_ret (pe_and (pe_callB call_isiV (by rfl) T.z_isinstance (by decide +kernel) (pa_cons (pv 0) (pa_cons (pe_bltn (v := .ty "int") (by rfl) T.z_int (by decide +kernel) rfl) pa_nil))) (pe_one (pe_not (pe_callB call_isiV (by rfl) T.z_isinstance (by decide +kernel) (pa_cons (pv 0) (pa_cons (pe_bltn (v := .ty "bool") (by rfl) T.z_bool (by decide +kernel) rfl) pa_nil)))))))), ?_⟩
    walk_at "st"
    walk_at "vc"
    exact h
def sp_is_number : Sp
  | [.int n], H, Q, _ => Q (.bl (decide (0 ≤ n))) H
  | _, _, _, _ => False
theorem ok_is_number (T : Txt K mg a_is_integer a_is_number a_is_base a_figures_of a_number_of a_turned a_least a_greatest a_total a_many a_root a_figure a_first a_last a_joined a_mirrored a_unlike a_value a_law_deal a_law_draw a_law_pick a_law_base a_law_written a_law_number a_law_sums_right a_law_order_right a_law d_is_integer d_is_number d_is_base d_figures_of d_number_of d_turned d_least d_greatest d_total d_many d_root d_figure d_first d_last d_joined d_mirrored d_unlike d_value d_law_deal d_law_draw d_law_pick d_law_base d_law_written d_law_number d_law_sums_right d_law_order_right d_law) : FnOk P w K mg base CX0 2 a_is_number d_is_number ["value"] sp_is_number := by
  have G_is_integer := ok_is_integer (P := P) (w := w) (base := base) T
  refine T.F_is_number.ok sc_is_number (fun vs H Q E h => ?_) (fun cdv A outer s H vs Q E hr h => ?_)
  · unfold sp_is_number at h; split at h; rfl; exact h.elim
  · unfold sp_is_number at h; split at h
    case h_2 => exact h.elim
    refine ⟨_, (pss_one (ps_ret (pe_and (pe_call G_is_integer (hr.mono (by decide)) (by rfl) T.g_is_integer T.F_is_integer.kp T.b_is_integer .nil pass0 (pa_cons (pv 0) pa_nil)) (pe_one (pe_cmpR op_ge (pv 0) pe_int (nomark _)))))), ?_⟩
    walk_at "st"
    walk_at "vc"
    simp only [sp_is_integer]
    walk_at "vc"
    exact h
def sp_is_base : Sp
  | [.int n], H, Q, _ => Q (.bl (decide (2 ≤ n))) H
  | _, _, _, _ => False
theorem ok_is_base (T : Txt K mg a_is_integer a_is_number a_is_base a_figures_of a_number_of a_turned a_least a_greatest a_total a_many a_root a_figure a_first a_last a_joined a_mirrored a_unlike a_value a_law_deal a_law_draw a_law_pick a_law_base a_law_written a_law_number a_law_sums_right a_law_order_right a_law d_is_integer d_is_number d_is_base d_figures_of d_number_of d_turned d_least d_greatest d_total d_many d_root d_figure d_first d_last d_joined d_mirrored d_unlike d_value d_law_deal d_law_draw d_law_pick d_law_base d_law_written d_law_number d_law_sums_right d_law_order_right d_law) : FnOk P w K mg base CX0 2 a_is_base d_is_base ["value"] sp_is_base := by
  have G_is_integer := ok_is_integer (P := P) (w := w) (base := base) T
  refine T.F_is_base.ok sc_is_base (fun vs H Q E h => ?_) (fun cdv A outer s H vs Q E hr h => ?_)
  · unfold sp_is_base at h; split at h; rfl; exact h.elim
  · unfold sp_is_base at h; split at h
    case h_2 => exact h.elim
    refine ⟨_, (pss_one (ps_ret (pe_and (pe_call G_is_integer (hr.mono (by decide)) (by rfl) T.g_is_integer T.F_is_integer.kp T.b_is_integer .nil pass0 (pa_cons (pv 0) pa_nil)) (pe_one (pe_cmpR op_ge (pv 0) pe_int (nomark _)))))), ?_⟩
    walk_at "st"
    walk_at "vc"
    simp only [sp_is_integer]
    walk_at "vc"
    exact h
/-- numbers of this law: from 0 on, below 2 ^ 300; bases from 2 on, below 2 ^ 100 -/
def sp_figures_of : Sp
  | [.int n, .int b], H, Q, _ => 0 ≤ n ∧ n < 2 ^ 300 ∧ 2 ≤ b ∧ b < 2 ^ 100 ∧ ∀ p H', H p = none → Ex H H' → H' p = some (.tup ((figs b n).map V.int)) → Q (.ref p) H'
  | _, _, _, _ => False
def I_fo (n b : Int) (p : Addr) (H : Hp) : Nat → L2.St → Hp → Prop := fun m σ H' => ∃ (l : Int) (ds : List Int), σ = [some (.int n), some (.int b), some (.ref p), some (.int l)] ∧ m = l.toNat ∧ 0 ≤ l ∧ Ex H H' ∧ H' p = some (.lst (ds.map V.int)) ∧ digs b n = ds ++ (if 0 < l then digs b l else [])
theorem ok_figures_of (T : Txt K mg a_is_integer a_is_number a_is_base a_figures_of a_number_of a_turned a_least a_greatest a_total a_many a_root a_figure a_first a_last a_joined a_mirrored a_unlike a_value a_law_deal a_law_draw a_law_pick a_law_base a_law_written a_law_number a_law_sums_right a_law_order_right a_law d_is_integer d_is_number d_is_base d_figures_of d_number_of d_turned d_least d_greatest d_total d_many d_root d_figure d_first d_last d_joined d_mirrored d_unlike d_value d_law_deal d_law_draw d_law_pick d_law_base d_law_written d_law_number d_law_sums_right d_law_order_right d_law) : FnOk P w K mg base CX0 3 a_figures_of d_figures_of ["number", "base"] sp_figures_of := by
  have G_is_base := ok_is_base (P := P) (w := w) (base := base) T
  have G_is_number := ok_is_number (P := P) (w := w) (base := base) T
  refine T.F_figures_of.ok sc_figures_of (fun vs H Q E h => ?_) (fun cdv A outer s H vs Q E hr h => ?_)
  · unfold sp_figures_of at h; split at h; rfl; exact h.elim
  · unfold sp_figures_of at h; split at h
    case h_2 => exact h.elim
    rename_i n b
    obtain ⟨n0, n1, b0, b1, q⟩ := h
    refine ⟨_, (pss_cons (ps_if (pt_not (pt_val (pe_call G_is_base (hr.mono (by decide)) (by rfl) T.g_is_base T.F_is_base.kp T.b_is_base .nil pass0 (pa_cons (pv 1) pa_nil))))
      (pss_one ps_never)
      pss_nil)
      (pss_cons (ps_if (pt_not (pt_val (pe_call G_is_number (hr.mono (by decide)) (by rfl) T.g_is_number T.F_is_number.kp T.b_is_number .nil pass0 (pa_cons (pv 0) pa_nil))))
      (pss_one ps_never)
      pss_nil)
      (pss_cons (ps_set (i := 2) sc_figures_of.nd rfl (by first | exact .inl rfl | exact .inr rfl) (pe_lst (pa_cons (pe_op op_mod (pv 0) (pv 1)) pa_nil)))
      (pss_cons (ps_set (i := 3) sc_figures_of.nd rfl (by first | exact .inl rfl | exact .inr rfl) (pe_op op_fdivW (pv 0) (pv 1)))
      (Evl.pss_cut (ps_while PassesOwn.never (pt_cmpR op_gt (pv 3) pe_int (nomark _))
      (pss_cons (ps_expr (pe_bm PySem.F.plainAttrs_list PySem.F.slot_list_append PySem.F.type_list_append mt_appendM (pv 2) (pa_cons (pe_op op_mod (pv 3) (pv 1)) pa_nil)))
      (pss_one (ps_set (i := 3) sc_figures_of.nd rfl (by first | exact .inl rfl | exact .inr rfl) (pe_op op_fdivW (pv 3) (pv 1))))))
      (pss_one (ps_ret (pe_callTy call_tuple_of (by rfl) T.z_tuple (by decide +kernel) (pa_cons (pe_revL (pv 2)) pa_nil))))))))), ?_⟩
    walk_at "st"
    walk_at "vc"
    simp only [sp_is_base, sp_is_number, b0, n0, decide_true]
    walk_at "vc"
    refine ⟨by omega, sz_le (by simp), fun p hp => ⟨divOk (by omega) (by omega), fun σ H' => ∃ l, σ = [some (.int n), some (.int b), some (.ref p), some (.int l)] ∧ Ex H H' ∧ H' p = some (.lst ((digs b n).map V.int)), ?_, fun σ H' hm => ?_⟩⟩
    rotate_left
    · obtain ⟨l, rfl, e, hd⟩ := hm
      walk_at "vc"
      refine ⟨_, sq_of hd, fun r hr2 => ⟨_, .inl ⟨sq_of upd_same, fun t ht => ?_⟩⟩⟩
      refine q t _ ((e.trans (Ex.new hr2)).free ht) (e.trans ((Ex.new hr2).trans (Ex.new ht))) ?_
      rw [upd_same]
      unfold figs
      rw [List.map_reverse]
    refine ⟨I_fo n b p H,
      ⟨_, n / b, [n % b], rfl, rfl, div_nn b0 n0, Ex.new hp, upd_same, ?_⟩, fun m σ H' hw => ?_⟩
    · by_cases hb : b ≤ n
      · rw [if_pos ((div_pos_iff b0 n0).mpr hb), digs_ge b0 hb]; rfl
      · rw [if_neg (fun z => hb ((div_pos_iff b0 n0).mp z)), digs_lt (by omega), Int.emod_eq_of_lt n0 (by omega)]; rfl
    obtain ⟨l, ds, rfl, rfl, l0, e, hd, he⟩ := hw
    have hlen : ds.length ≤ 301 := by
      have a := congrArg List.length he
      have c := digs_len b0 n n0 300 n1
      rw [List.length_append] at a
      omega
    walk_at "vc"
    refine ite2 (fun hc => ⟨_, fun _ _ hN => hN, ?_⟩) (fun hc => ?_)
    · have l1 := div_nn (n := l) b0 l0
      have l2 := div_lt (n := l) b0 hc
      refine ⟨.inl ⟨rfl, _, sq_of hd⟩, by omega, _, hd, sz_lt (by simp; omega), divOk (by omega) (by omega), _, ?_, l / b, ds ++ [l % b], rfl, rfl, l1, e.mut hp, ?_, ?_⟩
      · omega
      · rw [upd_same, List.map_append]; rfl
      · rw [he, if_pos hc, List.append_assoc]
        by_cases hb : b ≤ l
        · rw [if_pos ((div_pos_iff b0 l0).mpr hb), digs_ge b0 hb]; rfl
        · rw [if_neg (fun z => hb ((div_pos_iff b0 l0).mp z)), digs_lt (by omega), Int.emod_eq_of_lt l0 (by omega)]; rfl
    · rw [if_neg hc, List.append_nil] at he
      exact ⟨e, by rw [hd, he]⟩
def sp_value : Sp
  | [.ref a, .int b], H, Q, _ => ∃ xs : List Int, (H a = some (.tup (xs.map V.int)) ∨ H a = some (.lst (xs.map V.int))) ∧ 2 ≤ b ∧ b < 2 ^ 100 ∧ (∀ x ∈ xs, 0 ≤ x ∧ x < b) ∧ xs.length ≤ 1000 ∧ b ^ xs.length ≤ 2 ^ 800 ∧ Q (.int (written b xs)) H
  | _, _, _, _ => False
def I_vl (a : Addr) (b : Int) (xs : List Int) (H : Hp) : Nat → L2.St → Hp → Prop := fun i σ H' => H' = H ∧ ∃ x, σ = [some (.ref a), some (.int b), some (.int (written b (xs.take i))), x]
theorem ok_value (T : Txt K mg a_is_integer a_is_number a_is_base a_figures_of a_number_of a_turned a_least a_greatest a_total a_many a_root a_figure a_first a_last a_joined a_mirrored a_unlike a_value a_law_deal a_law_draw a_law_pick a_law_base a_law_written a_law_number a_law_sums_right a_law_order_right a_law d_is_integer d_is_number d_is_base d_figures_of d_number_of d_turned d_least d_greatest d_total d_many d_root d_figure d_first d_last d_joined d_mirrored d_unlike d_value d_law_deal d_law_draw d_law_pick d_law_base d_law_written d_law_number d_law_sums_right d_law_order_right d_law) : FnOk P w K mg base CX0 1 a_value d_value ["figures", "base"] sp_value := by
  refine T.F_value.ok sc_value (fun vs H Q E h => ?_) (fun cdv A outer s H vs Q E hr h => ?_)
  · unfold sp_value at h; split at h; rfl; exact h.elim
  · unfold sp_value at h; split at h
    case h_2 => exact h.elim
    rename_i a b
    obtain ⟨xs, hx, b0, b1, hm, hl, hp, q⟩ := h
    refine ⟨_, (pss_cons (ps_set (i := 2) sc_value.nd rfl (by first | exact .inl rfl | exact .inr rfl) pe_int)
      (Evl.pss_cut (ps_for PassesOwn.never rfl (pi_lt (pv 0)) (pg_name (i := 3) sc_value.nd rfl (by first | exact .inl rfl | exact .inr rfl))
      (pss_one (ps_set (i := 2) sc_value.nd rfl (by first | exact .inl rfl | exact .inr rfl) (pe_op op_add (pe_op op_mulX (pv 2) (pv 1)) (pv 3)))))
      (pss_one (ps_ret (pv 2))))), ?_⟩
    walk_at "st"
    walk_at "vc"
    refine ⟨fun σ H' => H' = H ∧ ∃ x, σ = [some (.ref a), some (.int b), some (.int (written b xs)), x], ?_, fun σ H' hm => ?_⟩
    rotate_left
    · obtain ⟨rfl, x, rfl⟩ := hm
      walk_at "vc"
      exact q
    have turn : ∀ (i : Nat) (x : V) (σ : L2.St) (H' : Hp), (xs.map V.int)[i]? = some x → I_vl a b xs H i σ H' → gName 3 x σ H' fun σ2 H2 =>
        tAsg (tOp (rI0 fun i j => V.int (i + j)) (tOp (rI CMulX fun i j => V.int (i * j)) (tVar 2) (tVar 1)) (tVar 3)) (gName 2)
          { nx := I_vl a b xs H (i + 1), ct := I_vl a b xs H (i + 1), bk := fun σ H' => H' = H ∧ ∃ x, σ = [some (.ref a), some (.int b), some (.int (written b xs)), x], rt := Q } σ2 H2 := by
      intro i x σ H' hx' hw
      obtain ⟨rfl, y, rfl⟩ := hw
      rw [List.getElem?_map] at hx'
      obtain ⟨n, hn, rfl⟩ := Option.map_eq_some_iff.mp hx'
      walk_at "vc"
      have hi : i < xs.length := (List.getElem?_eq_some_iff.mp hn).1
      have wb := written_bd (b := b) (by omega) (xs.take i) (fun x hx => hm x (List.mem_of_mem_take hx))
      have pl := pow_mono (b := b) (by omega) (show (xs.take i).length ≤ xs.length by rw [List.length_take]; omega)
      refine ⟨mulOk8 (by omega) (by omega) (by omega) (by omega), rfl, some (.int n), ?_⟩
      rw [take_snoc hn, written_snoc]
    have fin : ∀ (σ : L2.St) (H' : Hp), I_vl a b xs H (xs.map V.int).length σ H' → H' = H ∧ ∃ x, σ = [some (.ref a), some (.int b), some (.int (written b xs)), x] := by
      intro σ H' hw
      obtain ⟨rfl, y, rfl⟩ := hw
      rw [List.length_map, List.take_length]
      exact ⟨rfl, y, rfl⟩
    refine ⟨_, rfl, a, rfl, ?_⟩
    rcases hx with hx | hx
    · exact .inr ⟨⟨_, st_of hx⟩, for_tup (xs := xs.map V.int) (I_vl a b xs H) ⟨rfl, none, rfl⟩ (fun i σ H' _ hw => by rw [hw.1]; exact st_of hx) turn fin⟩
    · exact .inl ⟨⟨_, sq_of hx⟩, for_list (xs := xs.map V.int) (I_vl a b xs H) ⟨rfl, none, rfl⟩ (fun i σ H' _ hw => by rw [hw.1]; exact sq_of hx) turn fin⟩
def sp_number_of : Sp
  | [.ref a, .int b], H, Q, _ => ∃ xs : List Int, (H a = some (.tup (xs.map V.int)) ∨ H a = some (.lst (xs.map V.int))) ∧ xs ≠ [] ∧ 2 ≤ b ∧ b < 2 ^ 100 ∧ (∀ x ∈ xs, 0 ≤ x ∧ x < b) ∧ xs.length ≤ 1000 ∧ b ^ xs.length ≤ 2 ^ 800 ∧ ∀ H', Ex H H' → Q (.int (written b xs)) H'
  | _, _, _, _ => False
def I_no (a : Addr) (b : Int) (H : Hp) : Nat → L2.St → Hp → Prop := fun i σ H' => ∃ x y, σ = [some (.ref a), some (.int b), x, y] ∧ Ex H H'
theorem ok_number_of (T : Txt K mg a_is_integer a_is_number a_is_base a_figures_of a_number_of a_turned a_least a_greatest a_total a_many a_root a_figure a_first a_last a_joined a_mirrored a_unlike a_value a_law_deal a_law_draw a_law_pick a_law_base a_law_written a_law_number a_law_sums_right a_law_order_right a_law d_is_integer d_is_number d_is_base d_figures_of d_number_of d_turned d_least d_greatest d_total d_many d_root d_figure d_first d_last d_joined d_mirrored d_unlike d_value d_law_deal d_law_draw d_law_pick d_law_base d_law_written d_law_number d_law_sums_right d_law_order_right d_law) : FnOk P w K mg base CX0 3 a_number_of d_number_of ["figures", "base"] sp_number_of := by
  have G_is_base := ok_is_base (P := P) (w := w) (base := base) T
  have G_is_integer := ok_is_integer (P := P) (w := w) (base := base) T
  have G_value := ok_value (P := P) (w := w) (base := base) T
  refine T.F_number_of.ok sc_number_of (fun vs H Q E h => ?_) (fun cdv A outer s H vs Q E hr h => ?_)
  · unfold sp_number_of at h; split at h; rfl; exact h.elim
  unfold sp_number_of at h; split at h
  case h_2 => exact h.elim
  rename_i a b
  obtain ⟨xs, hx, hne, b0, b1, hm, hl, hp, q⟩ := h
  refine ⟨_, (pss_cons (ps_if (pt_not (pt_val (pe_call G_is_base (hr.mono (by decide)) (by rfl) T.g_is_base T.F_is_base.kp T.b_is_base .nil pass0 (pa_cons (pv 1) pa_nil))))
      (pss_one ps_never)
      pss_nil)
      (pss_cons (ps_if (PW.pt (pw_or (pt_not (pt_val (pe_callB call_isi2 (by rfl) T.z_isinstance (by decide +kernel) (pa_cons (pv 0) (pa_cons (pe_tup (pa_cons (pe_bltn (v := .ty "list") (by rfl) T.z_list (by decide +kernel) rfl) (pa_cons (pe_bltn (v := .ty "tuple") (by rfl) T.z_tuple (by decide +kernel) rfl) pa_nil))) pa_nil))))) (pw_or1 (pt_cmpR op_eq (pe_callB call_len_seq (by rfl) T.z_len (by decide +kernel) (pa_cons (pv 0) pa_nil)) pe_int (nomark _)))))
      (pss_one ps_never)
      pss_nil)
      (Evl.pss_cut (ps_for PassesOwn.never rfl (pi_enumX (by rfl) T.z_enumerate (pa_cons (pv 0) pa_nil)) (pg_tup rfl (pgs_cons (pg_name (i := 2) sc_number_of.nd rfl (by first | exact .inl rfl | exact .inr rfl)) (pgs_cons (pg_name (i := 3) sc_number_of.nd rfl (by first | exact .inl rfl | exact .inr rfl)) pgs_nil)))
      (pss_one (ps_if (PW.pt (pw_or (pt_not (pt_val (pe_call G_is_integer (hr.mono (by decide)) (by rfl) T.g_is_integer T.F_is_integer.kp T.b_is_integer .nil pass0 (pa_cons (pv 3) pa_nil)))) (pw_or (pt_cmpR op_lt (pv 3) pe_int (nomark _)) (pw_or1 (pt_cmpR op_ge (pv 3) (pv 1) (nomark _))))))
      (pss_one ps_never)
      pss_nil)))
      (pss_one (ps_ret (pe_call G_value (hr.mono (by decide)) (by rfl) T.g_value T.F_value.kp T.b_value .nil pass0 (pa_cons (pv 0) (pa_cons (pv 1) pa_nil)))))))), ?_⟩
  walk_at "st"
  walk_at "vc"
  simp only [sp_is_base, b0, decide_true]
  walk_at "vc"
  refine ⟨sz_le (by simp), fun p hp0 => ?_⟩
  have e1 := Ex.new hp0 (o := .tup [V.ty "list", V.ty "tuple"])
  have h2 : upd H p (.tup [V.ty "list", V.ty "tuple"]) p = some (.tup [V.ty "list", V.ty "tuple"]) := upd_same
  have hx2 : (upd H p (.tup [V.ty "list", V.ty "tuple"])) a = some (HO.tup (List.map V.int xs)) ∨ (upd H p (.tup [V.ty "list", V.ty "tuple"])) a = some (HO.lst (List.map V.int xs)) := by
    rcases hx with h | h
    · exact .inl (e1 _ _ h)
    · exact .inr (e1 _ _ h)
  generalize upd H p (.tup [V.ty "list", V.ty "tuple"]) = H1 at *
  have hlen : ((List.map V.int xs).length : Int) ≠ 0 := by
    rw [List.length_map]
    have := List.length_pos_iff.mpr hne
    omega
  have turn : ∀ (i : Nat) (x : V) (T : Addr) (H' : Hp), (xs.map V.int)[i]? = some x → Ex H1 H' → H' T = none → ∃ z, x = .int z ∧ 0 ≤ z ∧ z < b ∧ Ex H1 (upd H' T (.tup [.int (i : Nat), .int z])) := by
    intro i x T H' hx' e hT
    rw [List.getElem?_map] at hx'
    obtain ⟨z, hz, rfl⟩ := Option.map_eq_some_iff.mp hx'
    have := hm z (List.mem_of_getElem? hz)
    exact ⟨z, rfl, this.1, this.2, e.trans (Ex.new hT)⟩
  rcases hx2 with hx2 | hx2
  · refine ⟨"list", "tuple", "tuple", false, true, h2, by simp [vty, hx2], kb11, kb12, _, rfl, ?_⟩
    walk_at "vc"
    refine ⟨_, .inr (st_of hx2), ?_⟩
    rw [if_neg hlen]
    refine ⟨fun σ H' => ∃ x y, σ = [some (.ref a), some (.int b), x, y] ∧ Ex H1 H', ⟨_, rfl, a, rfl, .inr ⟨⟨_, st_of hx2⟩, for_enumT (xs := xs.map V.int) (I_no a b H1) ⟨_, _, rfl, Ex.refl _⟩ (fun i σ H' _ hw => ?_) (fun i x σ H' T hx' hw hT => ?_) (fun σ H' hw => hw)⟩⟩, fun σ H' hm2 => ?_⟩
    · obtain ⟨_, _, _, e⟩ := hw
      exact st_of (e _ _ hx2)
    · obtain ⟨x1, y1, rfl, e⟩ := hw
      obtain ⟨z, rfl, z0, z1, e2⟩ := turn i x T H' hx' e hT
      refine ⟨T, _, rfl, st_of upd_same, rfl, ?_⟩
      simp only [gCons, gNil]
      walk_at "vc"
      simp only [sp_is_integer]
      walk_at "vc"
      rw [if_neg (by omega), if_neg (by omega)]
      exact ⟨_, _, rfl, e2⟩
    · obtain ⟨x1, y1, rfl, e⟩ := hm2
      walk_at "vc"
      exact ⟨_, .inl (e _ _ hx2), b0, b1, hm, hl, hp, q _ (e1.trans e)⟩
  · refine ⟨"list", "tuple", "list", true, false, h2, by simp [vty, hx2], kb9, kb10, _, rfl, ?_⟩
    walk_at "vc"
    refine ⟨_, .inl (sq_of hx2), ?_⟩
    rw [if_neg hlen]
    refine ⟨fun σ H' => ∃ x y, σ = [some (.ref a), some (.int b), x, y] ∧ Ex H1 H', ⟨_, rfl, a, rfl, .inl ⟨⟨_, sq_of hx2⟩, for_enumL (xs := xs.map V.int) (I_no a b H1) ⟨_, _, rfl, Ex.refl _⟩ (fun i σ H' _ hw => ?_) (fun i x σ H' T hx' hw hT => ?_) (fun σ H' hw => hw)⟩⟩, fun σ H' hm2 => ?_⟩
    · obtain ⟨_, _, _, e⟩ := hw
      exact sq_of (e _ _ hx2)
    · obtain ⟨x1, y1, rfl, e⟩ := hw
      obtain ⟨z, rfl, z0, z1, e2⟩ := turn i x T H' hx' e hT
      refine ⟨T, _, rfl, st_of upd_same, rfl, ?_⟩
      simp only [gCons, gNil]
      walk_at "vc"
      simp only [sp_is_integer]
      walk_at "vc"
      rw [if_neg (by omega), if_neg (by omega)]
      exact ⟨_, _, rfl, e2⟩
    · obtain ⟨x1, y1, rfl, e⟩ := hm2
      walk_at "vc"
      exact ⟨_, .inr (e _ _ hx2), b0, b1, hm, hl, hp, q _ (e1.trans e)⟩
def sp_turned : Sp
  | [.int n, .int b], H, Q, _ => 0 ≤ n ∧ n < 2 ^ 300 ∧ 2 ≤ b ∧ b < 2 ^ 100 ∧ ∀ H', Ex H H' → Q (.int (written b (digs b n))) H'
  | _, _, _, _ => False
theorem ok_turned (T : Txt K mg a_is_integer a_is_number a_is_base a_figures_of a_number_of a_turned a_least a_greatest a_total a_many a_root a_figure a_first a_last a_joined a_mirrored a_unlike a_value a_law_deal a_law_draw a_law_pick a_law_base a_law_written a_law_number a_law_sums_right a_law_order_right a_law d_is_integer d_is_number d_is_base d_figures_of d_number_of d_turned d_least d_greatest d_total d_many d_root d_figure d_first d_last d_joined d_mirrored d_unlike d_value d_law_deal d_law_draw d_law_pick d_law_base d_law_written d_law_number d_law_sums_right d_law_order_right d_law) : FnOk P w K mg base CX0 4 a_turned d_turned ["number", "base"] sp_turned := by
  have G_figures_of := ok_figures_of (P := P) (w := w) (base := base) T
  have G_value := ok_value (P := P) (w := w) (base := base) T
  refine T.F_turned.ok sc_turned (fun vs H Q E h => ?_) (fun cdv A outer s H vs Q E hr h => ?_)
  · unfold sp_turned at h; split at h; rfl; exact h.elim
  unfold sp_turned at h; split at h
  case h_2 => exact h.elim
  rename_i n b
  obtain ⟨n0, n1, b0, b1, q⟩ := h
  refine ⟨_, (pss_one (ps_ret (pe_call G_value (hr.mono (by decide)) (by rfl) T.g_value T.F_value.kp T.b_value .nil pass0 (pa_cons (pe_revT (pe_call G_figures_of (hr.mono (by decide)) (by rfl) T.g_figures_of T.F_figures_of.kp T.b_figures_of .nil pass0 (pa_cons (pv 0) (pa_cons (pv 1) pa_nil)))) (pa_cons (pv 1) pa_nil))))), ?_⟩
  walk_at "st"
  walk_at "vc"
  refine ⟨n0, n1, b0, b1, fun p H1 hp e h1 => ?_⟩
  walk_at "vc"
  refine ⟨_, st_of h1, fun r hr2 => ?_⟩
  obtain ⟨p1, p2, p3⟩ := part_ok7 n0 n1 b0 b1 (xs := digs b n) (fun x hx => List.mem_reverse.mpr hx) (by unfold figs; rw [List.length_reverse]; exact Nat.le_refl _)
  exact ⟨_, .inl (by rw [upd_same, ← List.map_reverse]; unfold figs; rw [List.reverse_reverse]), b0, b1, p1, p2, p3, q _ (e.trans (Ex.new hr2))⟩
def sp_least : Sp
  | [.int n, .int b], H, Q, _ => 0 ≤ n ∧ n < 2 ^ 300 ∧ 2 ≤ b ∧ b < 2 ^ 100 ∧ ∀ H', Ex H H' → Q (.int (written b (asc (figs b n)))) H'
  | _, _, _, _ => False
theorem ok_least (T : Txt K mg a_is_integer a_is_number a_is_base a_figures_of a_number_of a_turned a_least a_greatest a_total a_many a_root a_figure a_first a_last a_joined a_mirrored a_unlike a_value a_law_deal a_law_draw a_law_pick a_law_base a_law_written a_law_number a_law_sums_right a_law_order_right a_law d_is_integer d_is_number d_is_base d_figures_of d_number_of d_turned d_least d_greatest d_total d_many d_root d_figure d_first d_last d_joined d_mirrored d_unlike d_value d_law_deal d_law_draw d_law_pick d_law_base d_law_written d_law_number d_law_sums_right d_law_order_right d_law) : FnOk P w K mg base CX0 4 a_least d_least ["number", "base"] sp_least := by
  have G_figures_of := ok_figures_of (P := P) (w := w) (base := base) T
  have G_value := ok_value (P := P) (w := w) (base := base) T
  refine T.F_least.ok sc_least (fun vs H Q E h => ?_) (fun cdv A outer s H vs Q E hr h => ?_)
  · unfold sp_least at h; split at h; rfl; exact h.elim
  unfold sp_least at h; split at h
  case h_2 => exact h.elim
  rename_i n b
  obtain ⟨n0, n1, b0, b1, q⟩ := h
  refine ⟨_, (pss_one (ps_ret (pe_call G_value (hr.mono (by decide)) (by rfl) T.g_value T.F_value.kp T.b_value .nil pass0 (pa_cons (pe_callB L2.cr_sortedI (by rfl) T.z_sorted (by decide +kernel) (pa_cons (pe_lc (own := [("one", 2)]) (g := gName 2) (by rfl) sc_least.nd (pi_tup (pe_call G_figures_of (hr.mono (by decide)) (by rfl) T.g_figures_of T.F_figures_of.kp T.b_figures_of .nil pass0 (pa_cons (pv 0) (pa_cons (pv 1) pa_nil)))) (blkOk_by (own := [("one", 2)]) (N := N_least) (sc := defScope s_least) (by decide +kernel)) (fun _ _ _ _ _ => (pg_name (i := 2) sc_least.nd rfl (by first | exact .inl rfl | exact .inr rfl))) (fun _ _ _ _ _ => pts_nil) (fun _ _ _ _ _ => (pe_callTy call_intM (by rfl) T.z_int (by decide +kernel) (pa_cons (pv 2) pa_nil)))) pa_nil)) (pa_cons (pv 1) pa_nil))))), ?_⟩
  walk_at "st"
  refine ⟨_, rfl, _, rfl, n0, n1, b0, b1, fun p H1 hp e h1 => ⟨p, rfl, ⟨_, st_of h1⟩, fun D hD => lc_tup (xs := (figs b n).map V.int) (CP D (figs b n) H1) (CP.start hD) (fun i H' _ c => st_of (c.2 _ _ h1)) (fun i x H' hx c => ?_) (fun H' c => ?_)⟩⟩
  · rw [List.getElem?_map] at hx
    obtain ⟨z, hz, rfl⟩ := Option.map_eq_some_iff.mp hx
    walk_at "vc"
    exact c.turn hD hz (by have := (fig_lens7 n0 n1 b0 b1).1; omega)
  · obtain ⟨c1, c2⟩ := c.done
    walk_at "vc"
    refine ⟨D, _, rfl, sq_of c1, fun ns' r hp1 hs1 hr2 => ?_⟩
    have es : ns' = asc (figs b n) := eq_asc hp1 hs1
    subst es
    walk_at "vc"
    obtain ⟨p1, p2, p3⟩ := part_ok7 n0 n1 b0 b1 (xs := asc (figs b n)) (fun x hx => asc_mem hx) (by rw [asc_len]; exact Nat.le_refl _)
    exact ⟨_, .inr upd_same, b0, b1, p1, p2, p3, q _ ((e.trans c2).trans (Ex.new hr2))⟩
def sp_greatest : Sp
  | [.int n, .int b], H, Q, _ => 0 ≤ n ∧ n < 2 ^ 300 ∧ 2 ≤ b ∧ b < 2 ^ 100 ∧ ∀ H', Ex H H' → Q (.int (written b ((asc (figs b n)).reverse))) H'
  | _, _, _, _ => False
theorem ok_greatest (T : Txt K mg a_is_integer a_is_number a_is_base a_figures_of a_number_of a_turned a_least a_greatest a_total a_many a_root a_figure a_first a_last a_joined a_mirrored a_unlike a_value a_law_deal a_law_draw a_law_pick a_law_base a_law_written a_law_number a_law_sums_right a_law_order_right a_law d_is_integer d_is_number d_is_base d_figures_of d_number_of d_turned d_least d_greatest d_total d_many d_root d_figure d_first d_last d_joined d_mirrored d_unlike d_value d_law_deal d_law_draw d_law_pick d_law_base d_law_written d_law_number d_law_sums_right d_law_order_right d_law) : FnOk P w K mg base CX0 4 a_greatest d_greatest ["number", "base"] sp_greatest := by
  have G_figures_of := ok_figures_of (P := P) (w := w) (base := base) T
  have G_value := ok_value (P := P) (w := w) (base := base) T
  refine T.F_greatest.ok sc_greatest (fun vs H Q E h => ?_) (fun cdv A outer s H vs Q E hr h => ?_)
  · unfold sp_greatest at h; split at h; rfl; exact h.elim
  unfold sp_greatest at h; split at h
  case h_2 => exact h.elim
  rename_i n b
  obtain ⟨n0, n1, b0, b1, q⟩ := h
  refine ⟨_, (pss_one (ps_ret (pe_call G_value (hr.mono (by decide)) (by rfl) T.g_value T.F_value.kp T.b_value .nil pass0 (pa_cons (L2.pe_callBK (L2.cr_sortedRev (b := true)) (by rfl) T.z_sorted (by decide +kernel) (pa_cons (pe_lc (own := [("one", 2)]) (g := gName 2) (by rfl) sc_greatest.nd (pi_tup (pe_call G_figures_of (hr.mono (by decide)) (by rfl) T.g_figures_of T.F_figures_of.kp T.b_figures_of .nil pass0 (pa_cons (pv 0) (pa_cons (pv 1) pa_nil)))) (blkOk_by (own := [("one", 2)]) (N := N_greatest) (sc := defScope s_greatest) (by decide +kernel)) (fun _ _ _ _ _ => (pg_name (i := 2) sc_greatest.nd rfl (by first | exact .inl rfl | exact .inr rfl))) (fun _ _ _ _ _ => pts_nil) (fun _ _ _ _ _ => (pe_callTy call_intM (by rfl) T.z_int (by decide +kernel) (pa_cons (pv 2) pa_nil)))) pa_nil) (pk_cons pe_bl pk_nil)) (pa_cons (pv 1) pa_nil))))), ?_⟩
  walk_at "st"
  refine ⟨_, rfl, _, rfl, n0, n1, b0, b1, fun p H1 hp e h1 => ⟨p, rfl, ⟨_, st_of h1⟩, fun D hD => lc_tup (xs := (figs b n).map V.int) (CP D (figs b n) H1) (CP.start hD) (fun i H' _ c => st_of (c.2 _ _ h1)) (fun i x H' hx c => ?_) (fun H' c => ?_)⟩⟩
  · rw [List.getElem?_map] at hx
    obtain ⟨z, hz, rfl⟩ := Option.map_eq_some_iff.mp hx
    walk_at "vc"
    exact c.turn hD hz (by have := (fig_lens7 n0 n1 b0 b1).1; omega)
  · obtain ⟨c1, c2⟩ := c.done
    walk_at "vc"
    refine ⟨D, _, rfl, rfl, sq_of c1, fun ns' r hp1 hs1 hr2 => ?_⟩
    have es : ns' = (asc (figs b n)).reverse := eq_desc hp1 hs1
    subst es
    walk_at "vc"
    obtain ⟨p1, p2, p3⟩ := part_ok7 n0 n1 b0 b1 (xs := (asc (figs b n)).reverse) (fun x hx => asc_mem (List.mem_reverse.mp hx)) (by rw [List.length_reverse, asc_len]; exact Nat.le_refl _)
    exact ⟨_, .inr upd_same, b0, b1, p1, p2, p3, q _ ((e.trans c2).trans (Ex.new hr2))⟩
def sp_total : Sp
  | [.int n, .int b], H, Q, _ => 0 ≤ n ∧ n < 2 ^ 300 ∧ 2 ≤ b ∧ b < 2 ^ 100 ∧ ∀ H', Ex H H' → Q (.int (figs b n).sum) H'
  | _, _, _, _ => False
theorem ok_total (T : Txt K mg a_is_integer a_is_number a_is_base a_figures_of a_number_of a_turned a_least a_greatest a_total a_many a_root a_figure a_first a_last a_joined a_mirrored a_unlike a_value a_law_deal a_law_draw a_law_pick a_law_base a_law_written a_law_number a_law_sums_right a_law_order_right a_law d_is_integer d_is_number d_is_base d_figures_of d_number_of d_turned d_least d_greatest d_total d_many d_root d_figure d_first d_last d_joined d_mirrored d_unlike d_value d_law_deal d_law_draw d_law_pick d_law_base d_law_written d_law_number d_law_sums_right d_law_order_right d_law) : FnOk P w K mg base CX0 4 a_total d_total ["number", "base"] sp_total := by
  have G_figures_of := ok_figures_of (P := P) (w := w) (base := base) T
  refine T.F_total.ok sc_total (fun vs H Q E h => ?_) (fun cdv A outer s H vs Q E hr h => ?_)
  · unfold sp_total at h; split at h; rfl; exact h.elim
  · unfold sp_total at h; split at h
    case h_2 => exact h.elim
    rename_i n b
    obtain ⟨n0, n1, b0, b1, q⟩ := h
    refine ⟨_, (pss_one (ps_ret (pe_callB (cr_sumT rfl) (by rfl) T.z_sum (by decide +kernel) (pa_cons (pe_call G_figures_of (hr.mono (by decide)) (by rfl) T.g_figures_of T.F_figures_of.kp T.b_figures_of .nil pass0 (pa_cons (pv 0) (pa_cons (pv 1) pa_nil))) pa_nil)))), ?_⟩
    walk_at "st"
    walk_at "vc"
    exact ⟨n0, n1, b0, b1, fun p H' hp e h => ⟨_, _, rfl, st_of h, q H' e⟩⟩
def sp_many : Sp
  | [.int n, .int b], H, Q, _ => 0 ≤ n ∧ n < 2 ^ 300 ∧ 2 ≤ b ∧ b < 2 ^ 100 ∧ ∀ H', Ex H H' → Q (.int ((figs b n).length : Int)) H'
  | _, _, _, _ => False
theorem ok_many (T : Txt K mg a_is_integer a_is_number a_is_base a_figures_of a_number_of a_turned a_least a_greatest a_total a_many a_root a_figure a_first a_last a_joined a_mirrored a_unlike a_value a_law_deal a_law_draw a_law_pick a_law_base a_law_written a_law_number a_law_sums_right a_law_order_right a_law d_is_integer d_is_number d_is_base d_figures_of d_number_of d_turned d_least d_greatest d_total d_many d_root d_figure d_first d_last d_joined d_mirrored d_unlike d_value d_law_deal d_law_draw d_law_pick d_law_base d_law_written d_law_number d_law_sums_right d_law_order_right d_law) : FnOk P w K mg base CX0 4 a_many d_many ["number", "base"] sp_many := by
  have G_figures_of := ok_figures_of (P := P) (w := w) (base := base) T
  refine T.F_many.ok sc_many (fun vs H Q E h => ?_) (fun cdv A outer s H vs Q E hr h => ?_)
  · unfold sp_many at h; split at h; rfl; exact h.elim
  unfold sp_many at h; split at h
  case h_2 => exact h.elim
  rename_i n b
  obtain ⟨n0, n1, b0, b1, q⟩ := h
  refine ⟨_, (pss_one (ps_ret (pe_callB call_len_seq (by rfl) T.z_len (by decide +kernel) (pa_cons (pe_call G_figures_of (hr.mono (by decide)) (by rfl) T.g_figures_of T.F_figures_of.kp T.b_figures_of .nil pass0 (pa_cons (pv 0) (pa_cons (pv 1) pa_nil))) pa_nil)))), ?_⟩
  walk_at "st"
  walk_at "vc"
  refine ⟨n0, n1, b0, b1, fun p H1 hp e h1 => ?_⟩
  walk_at "vc"
  refine ⟨_, .inr (st_of h1), ?_⟩
  rw [List.length_map]
  exact q _ e
def sp_root : Sp
  | [.int n, .int b], H, Q, _ => 0 ≤ n ∧ n < 2 ^ 300 ∧ 2 ≤ b ∧ b < 2 ^ 100 ∧ ∀ H', Ex H H' → Q (.int (rootN b n)) H'
  | _, _, _, _ => False
def I_rt (n b : Int) (H : Hp) : Nat → L2.St → Hp → Prop := fun m σ H' => ∃ (l : Int), σ = [some (.int n), some (.int b), some (.int l)] ∧ m = l.toNat ∧ 0 ≤ l ∧ l ≤ n ∧ Ex H H' ∧ rootN b l = rootN b n
theorem ok_root (T : Txt K mg a_is_integer a_is_number a_is_base a_figures_of a_number_of a_turned a_least a_greatest a_total a_many a_root a_figure a_first a_last a_joined a_mirrored a_unlike a_value a_law_deal a_law_draw a_law_pick a_law_base a_law_written a_law_number a_law_sums_right a_law_order_right a_law d_is_integer d_is_number d_is_base d_figures_of d_number_of d_turned d_least d_greatest d_total d_many d_root d_figure d_first d_last d_joined d_mirrored d_unlike d_value d_law_deal d_law_draw d_law_pick d_law_base d_law_written d_law_number d_law_sums_right d_law_order_right d_law) : FnOk P w K mg base CX0 5 a_root d_root ["number", "base"] sp_root := by
  have G_total := ok_total (P := P) (w := w) (base := base) T
  refine T.F_root.ok sc_root (fun vs H Q E h => ?_) (fun cdv A outer s H vs Q E hr h => ?_)
  · unfold sp_root at h; split at h; rfl; exact h.elim
  · unfold sp_root at h; split at h
    case h_2 => exact h.elim
    rename_i n b
    obtain ⟨n0, n1, b0, b1, q⟩ := h
    refine ⟨_, (pss_cons (ps_set (i := 2) sc_root.nd rfl (by first | exact .inl rfl | exact .inr rfl) (pe_call G_total (hr.mono (by decide)) (by rfl) T.g_total T.F_total.kp T.b_total .nil pass0 (pa_cons (pv 0) (pa_cons (pv 1) pa_nil))))
      (Evl.pss_cut (ps_while PassesOwn.never (pt_cmpR op_ge (pv 2) (pv 1) (nomark _))
      (pss_one (ps_set (i := 2) sc_root.nd rfl (by first | exact .inl rfl | exact .inr rfl) (pe_call G_total (hr.mono (by decide)) (by rfl) T.g_total T.F_total.kp T.b_total .nil pass0 (pa_cons (pv 2) (pa_cons (pv 1) pa_nil))))))
      (pss_one (ps_ret (pv 2))))), ?_⟩
    walk_at "st"
    walk_at "vc"
    refine ⟨n0, n1, b0, b1, fun H1 e1 => ⟨fun σ H' => σ = [some (.int n), some (.int b), some (.int (rootN b n))] ∧ Ex H H', ?_, fun σ H' hm => ?_⟩⟩
    rotate_left
    · obtain ⟨rfl, e⟩ := hm
      walk_at "vc"
      exact q _ e
    refine ⟨I_rt n b H, ⟨_, _, rfl, rfl, (figs_sum b0 n0).1, (figs_sum b0 n0).2, e1, rootN_sum b0⟩, fun m σ H' hw => ?_⟩
    obtain ⟨l, rfl, rfl, l0, l1, e, hl⟩ := hw
    walk_at "vc"
    refine ite2 (fun hc => ⟨_, fun _ _ hN => hN, ?_⟩) (fun hc => ?_)
    · have a := figs_sum b0 l0
      have c := figs_sum_lt b0 hc
      exact ⟨l0, by omega, b0, b1, fun H2 e2 => ⟨_, by omega, _, rfl, rfl, a.1, by omega, e.trans e2, by rw [rootN_sum b0, hl]⟩⟩
    · rw [rootN_lt (by omega)] at hl
      rw [hl]
      exact ⟨rfl, e⟩
def sp_figure : Sp
  | [.int n, .int k, .int b], H, Q, _ => 0 ≤ n ∧ n < 2 ^ 300 ∧ 0 ≤ k ∧ 2 ≤ b ∧ b < 2 ^ 100 ∧ ∀ H', Ex H H' → Q (.int (figAt b n k.toNat)) H'
  | _, _, _, _ => False
theorem ok_figure (T : Txt K mg a_is_integer a_is_number a_is_base a_figures_of a_number_of a_turned a_least a_greatest a_total a_many a_root a_figure a_first a_last a_joined a_mirrored a_unlike a_value a_law_deal a_law_draw a_law_pick a_law_base a_law_written a_law_number a_law_sums_right a_law_order_right a_law d_is_integer d_is_number d_is_base d_figures_of d_number_of d_turned d_least d_greatest d_total d_many d_root d_figure d_first d_last d_joined d_mirrored d_unlike d_value d_law_deal d_law_draw d_law_pick d_law_base d_law_written d_law_number d_law_sums_right d_law_order_right d_law) : FnOk P w K mg base CX0 4 a_figure d_figure ["number", "k", "base"] sp_figure := by
  have G_figures_of := ok_figures_of (P := P) (w := w) (base := base) T
  refine T.F_figure.ok sc_figure (fun vs H Q E h => ?_) (fun cdv A outer s H vs Q E hr h => ?_)
  · unfold sp_figure at h; split at h; rfl; exact h.elim
  unfold sp_figure at h; split at h
  case h_2 => exact h.elim
  rename_i n k b
  obtain ⟨n0, n1, k0, b0, b1, q⟩ := h
  refine ⟨_, (pss_cons (ps_set (i := 3) sc_figure.nd rfl (by first | exact .inl rfl | exact .inr rfl) (pe_call G_figures_of (hr.mono (by decide)) (by rfl) T.g_figures_of T.F_figures_of.kp T.b_figures_of .nil pass0 (pa_cons (pv 0) (pa_cons (pv 2) pa_nil))))
      (pss_cons (ps_if (pt_cmpR op_ge (pv 1) (pe_callB call_len_seq (by rfl) T.z_len (by decide +kernel) (pa_cons (pv 3) pa_nil)) (nomark _))
      (pss_one (ps_ret pe_int))
      pss_nil)
      (pss_one (ps_ret (pe_ix ix_tup (pv 3) (pe_op op_sub (pe_op op_sub (pe_callB call_len_seq (by rfl) T.z_len (by decide +kernel) (pa_cons (pv 3) pa_nil)) pe_int) (pv 1)) (fun _ _ => rfl)))))), ?_⟩
  walk_at "st"
  walk_at "vc"
  refine ⟨n0, n1, b0, b1, fun p H1 hp e h1 => ?_⟩
  walk_at "vc"
  refine ⟨_, .inr (st_of h1), ite2 (fun hc => ?_) (fun hc => ⟨_, .inr (st_of h1), ?_⟩)⟩
  · rw [List.length_map] at hc
    have e1 : figAt b n k.toNat = 0 := by unfold figAt; rw [if_neg (by omega)]
    rw [e1] at q
    exact q _ e
  · rw [List.length_map] at hc ⊢
    have hk : k.toNat < (figs b n).length := by omega
    have e1 : figAt b n k.toNat = (figs b n)[(figs b n).length - 1 - k.toNat]'(by omega) := by
      unfold figAt
      rw [if_pos hk, List.getD_eq_getElem?_getD, List.getElem?_eq_getElem (by omega)]; rfl
    refine ⟨p, _, _, .int (figAt b n k.toNat), rfl, rfl, st_of h1, L2.at_of (j := (figs b n).length - 1 - k.toNat) (by omega) ?_, q _ e⟩
    rw [e1, List.getElem?_map, List.getElem?_eq_getElem (by omega)]; rfl
def sp_first : Sp
  | [.int n, .int k, .int b], H, Q, _ => 0 ≤ n ∧ n < 2 ^ 300 ∧ 0 ≤ k ∧ 2 ≤ b ∧ b < 2 ^ 100 ∧ ∀ H', Ex H H' → Q (.int (written b ((figs b n).take k.toNat))) H'
  | _, _, _, _ => False
theorem ok_first (T : Txt K mg a_is_integer a_is_number a_is_base a_figures_of a_number_of a_turned a_least a_greatest a_total a_many a_root a_figure a_first a_last a_joined a_mirrored a_unlike a_value a_law_deal a_law_draw a_law_pick a_law_base a_law_written a_law_number a_law_sums_right a_law_order_right a_law d_is_integer d_is_number d_is_base d_figures_of d_number_of d_turned d_least d_greatest d_total d_many d_root d_figure d_first d_last d_joined d_mirrored d_unlike d_value d_law_deal d_law_draw d_law_pick d_law_base d_law_written d_law_number d_law_sums_right d_law_order_right d_law) : FnOk P w K mg base CX0 4 a_first d_first ["number", "k", "base"] sp_first := by
  have G_figures_of := ok_figures_of (P := P) (w := w) (base := base) T
  have G_value := ok_value (P := P) (w := w) (base := base) T
  refine T.F_first.ok sc_first (fun vs H Q E h => ?_) (fun cdv A outer s H vs Q E hr h => ?_)
  · unfold sp_first at h; split at h; rfl; exact h.elim
  unfold sp_first at h; split at h
  case h_2 => exact h.elim
  rename_i n k b
  obtain ⟨n0, n1, k0, b0, b1, q⟩ := h
  refine ⟨_, (pss_one (ps_ret (pe_call G_value (hr.mono (by decide)) (by rfl) T.g_value T.F_value.kp T.b_value .nil pass0 (pa_cons (pe_slice sl_tupA (pe_call G_figures_of (hr.mono (by decide)) (by rfl) T.g_figures_of T.F_figures_of.kp T.b_figures_of .nil pass0 (pa_cons (pv 0) (pa_cons (pv 2) pa_nil))) po_none (po_some (pv 1))) (pa_cons (pv 2) pa_nil))))), ?_⟩
  walk_at "st"
  walk_at "vc"
  refine ⟨n0, n1, b0, b1, fun p H1 hp e h1 => ?_⟩
  walk_at "vc"
  have hk : some k = some ((k.toNat : Nat) : Int) := by congr 1; omega
  refine slTup (ns := figs b n) h1 fun r H2 e2 h2 => ?_
  rw [hk, cut_hi] at h2
  obtain ⟨p1, p2, p3⟩ := part_ok7 n0 n1 b0 b1 (xs := (figs b n).take k.toNat) (fun x hx => List.mem_of_mem_take hx) (by rw [List.length_take]; omega)
  exact ⟨_, .inl h2, b0, b1, p1, p2, p3, q _ (e.trans e2)⟩
def sp_last : Sp
  | [.int n, .int k, .int b], H, Q, _ => 0 ≤ n ∧ n < 2 ^ 300 ∧ 0 ≤ k ∧ 2 ≤ b ∧ b < 2 ^ 100 ∧ ∀ H', Ex H H' → Q (.int (written b ((figs b n).drop ((figs b n).length - k.toNat)))) H'
  | _, _, _, _ => False
theorem ok_last (T : Txt K mg a_is_integer a_is_number a_is_base a_figures_of a_number_of a_turned a_least a_greatest a_total a_many a_root a_figure a_first a_last a_joined a_mirrored a_unlike a_value a_law_deal a_law_draw a_law_pick a_law_base a_law_written a_law_number a_law_sums_right a_law_order_right a_law d_is_integer d_is_number d_is_base d_figures_of d_number_of d_turned d_least d_greatest d_total d_many d_root d_figure d_first d_last d_joined d_mirrored d_unlike d_value d_law_deal d_law_draw d_law_pick d_law_base d_law_written d_law_number d_law_sums_right d_law_order_right d_law) : FnOk P w K mg base CX0 4 a_last d_last ["number", "k", "base"] sp_last := by
  have G_figures_of := ok_figures_of (P := P) (w := w) (base := base) T
  have G_value := ok_value (P := P) (w := w) (base := base) T
  refine T.F_last.ok sc_last (fun vs H Q E h => ?_) (fun cdv A outer s H vs Q E hr h => ?_)
  · unfold sp_last at h; split at h; rfl; exact h.elim
  unfold sp_last at h; split at h
  case h_2 => exact h.elim
  rename_i n k b
  obtain ⟨n0, n1, k0, b0, b1, q⟩ := h
  refine ⟨_, (pss_cons (ps_set (i := 3) sc_last.nd rfl (by first | exact .inl rfl | exact .inr rfl) (pe_call G_figures_of (hr.mono (by decide)) (by rfl) T.g_figures_of T.F_figures_of.kp T.b_figures_of .nil pass0 (pa_cons (pv 0) (pa_cons (pv 2) pa_nil))))
      (pss_one (ps_ret (pe_call G_value (hr.mono (by decide)) (by rfl) T.g_value T.F_value.kp T.b_value .nil pass0 (pa_cons (pe_slice sl_tupA (pv 3) (po_some (pe_callB (call_maxM rfl) (by rfl) T.z_max (by decide +kernel) (pa_cons pe_int (pa_cons (pe_op op_sub (pe_callB call_len_seq (by rfl) T.z_len (by decide +kernel) (pa_cons (pv 3) pa_nil)) (pv 1)) pa_nil)))) po_none) (pa_cons (pv 2) pa_nil)))))), ?_⟩
  walk_at "st"
  walk_at "vc"
  refine ⟨n0, n1, b0, b1, fun p H1 hp e h1 => ?_⟩
  walk_at "vc"
  refine ⟨_, .inr (st_of h1), ?_⟩
  have hk : some (if ((List.map V.int (figs b n)).length : Int) - k > 0 then ((List.map V.int (figs b n)).length : Int) - k else 0) = some (((figs b n).length - k.toNat : Nat) : Int) := by
    congr 1
    rw [List.length_map]
    split <;> omega
  rw [hk]
  refine slTup (ns := figs b n) h1 fun r H2 e2 h2 => ?_
  rw [cut_lo] at h2
  obtain ⟨p1, p2, p3⟩ := part_ok7 n0 n1 b0 b1 (xs := (figs b n).drop ((figs b n).length - k.toNat)) (fun x hx => List.mem_of_mem_drop hx) (by rw [List.length_drop]; omega)
  exact ⟨_, .inl h2, b0, b1, p1, p2, p3, q _ (e.trans e2)⟩
def sp_joined : Sp
  | [.int n, .int o, .int b], H, Q, _ => 0 ≤ n ∧ n < 2 ^ 300 ∧ 0 ≤ o ∧ o < 2 ^ 300 ∧ 2 ≤ b ∧ b < 2 ^ 100 ∧ ∀ H', Ex H H' → Q (.int (written b (figs b n ++ figs b o))) H'
  | _, _, _, _ => False
theorem ok_joined (T : Txt K mg a_is_integer a_is_number a_is_base a_figures_of a_number_of a_turned a_least a_greatest a_total a_many a_root a_figure a_first a_last a_joined a_mirrored a_unlike a_value a_law_deal a_law_draw a_law_pick a_law_base a_law_written a_law_number a_law_sums_right a_law_order_right a_law d_is_integer d_is_number d_is_base d_figures_of d_number_of d_turned d_least d_greatest d_total d_many d_root d_figure d_first d_last d_joined d_mirrored d_unlike d_value d_law_deal d_law_draw d_law_pick d_law_base d_law_written d_law_number d_law_sums_right d_law_order_right d_law) : FnOk P w K mg base CX0 4 a_joined d_joined ["number", "other", "base"] sp_joined := by
  have G_figures_of := ok_figures_of (P := P) (w := w) (base := base) T
  have G_value := ok_value (P := P) (w := w) (base := base) T
  refine T.F_joined.ok sc_joined (fun vs H Q E h => ?_) (fun cdv A outer s H vs Q E hr h => ?_)
  · unfold sp_joined at h; split at h; rfl; exact h.elim
  unfold sp_joined at h; split at h
  case h_2 => exact h.elim
  rename_i n o b
  obtain ⟨n0, n1, o0, o1, b0, b1, q⟩ := h
  refine ⟨_, (pss_one (ps_ret (pe_call G_value (hr.mono (by decide)) (by rfl) T.g_value T.F_value.kp T.b_value .nil pass0 (pa_cons (pe_op op_catT (pe_call G_figures_of (hr.mono (by decide)) (by rfl) T.g_figures_of T.F_figures_of.kp T.b_figures_of .nil pass0 (pa_cons (pv 0) (pa_cons (pv 2) pa_nil))) (pe_call G_figures_of (hr.mono (by decide)) (by rfl) T.g_figures_of T.F_figures_of.kp T.b_figures_of .nil pass0 (pa_cons (pv 1) (pa_cons (pv 2) pa_nil)))) (pa_cons (pv 2) pa_nil))))), ?_⟩
  walk_at "st"
  walk_at "vc"
  refine ⟨n0, n1, b0, b1, fun p H1 hp e h1 => ⟨o0, o1, b0, b1, fun r H2 hr2 e2 h2 => ?_⟩⟩
  obtain ⟨p1, p2, p3⟩ := two_ok7 n0 n1 o0 o1 b0 b1
  refine ⟨p, r, _, _, rfl, rfl, st_of (e2 _ _ h1), st_of h2, ?_, ?_, fun z => ?_, fun _ t ht => ?_⟩
  · intro z; exact figs_ne b n (List.map_eq_nil_iff.mp z)
  · rw [List.length_map, List.length_map]
    rw [List.length_append] at p2
    exact sz_le (by omega)
  · exact absurd (List.map_eq_nil_iff.mp z) (figs_ne b o)
  · walk_at "vc"
    exact ⟨_, .inl (by rw [upd_same, List.map_append]), b0, b1, p1, p2, p3, q _ ((e.trans e2).trans (Ex.new ht))⟩
def sp_mirrored : Sp
  | [.int n, .int b], H, Q, _ => 0 ≤ n ∧ n < 2 ^ 300 ∧ 2 ≤ b ∧ b < 2 ^ 100 ∧ ∀ H', Ex H H' → Q (.bl (decide (figs b n = (figs b n).reverse))) H'
  | _, _, _, _ => False
theorem ok_mirrored (T : Txt K mg a_is_integer a_is_number a_is_base a_figures_of a_number_of a_turned a_least a_greatest a_total a_many a_root a_figure a_first a_last a_joined a_mirrored a_unlike a_value a_law_deal a_law_draw a_law_pick a_law_base a_law_written a_law_number a_law_sums_right a_law_order_right a_law d_is_integer d_is_number d_is_base d_figures_of d_number_of d_turned d_least d_greatest d_total d_many d_root d_figure d_first d_last d_joined d_mirrored d_unlike d_value d_law_deal d_law_draw d_law_pick d_law_base d_law_written d_law_number d_law_sums_right d_law_order_right d_law) : FnOk P w K mg base CX0 4 a_mirrored d_mirrored ["number", "base"] sp_mirrored := by
  have G_figures_of := ok_figures_of (P := P) (w := w) (base := base) T
  refine T.F_mirrored.ok sc_mirrored (fun vs H Q E h => ?_) (fun cdv A outer s H vs Q E hr h => ?_)
  · unfold sp_mirrored at h; split at h; rfl; exact h.elim
  unfold sp_mirrored at h; split at h
  case h_2 => exact h.elim
  rename_i n b
  obtain ⟨n0, n1, b0, b1, q⟩ := h
  refine ⟨_, (pss_cons (ps_set (i := 2) sc_mirrored.nd rfl (by first | exact .inl rfl | exact .inr rfl) (pe_call G_figures_of (hr.mono (by decide)) (by rfl) T.g_figures_of T.F_figures_of.kp T.b_figures_of .nil pass0 (pa_cons (pv 0) (pa_cons (pv 1) pa_nil))))
      (pss_one (ps_ret (pe_cmpR (op_eqD hr.units) (pv 2) (pe_revT (pv 2)) (nomark _))))), ?_⟩
  walk_at "st"
  walk_at "vc"
  refine ⟨n0, n1, b0, b1, fun p H1 hp e h1 => ?_⟩
  walk_at "vc"
  refine ⟨_, st_of h1, fun r hr2 => eqTups (xs := figs b n) (ys := (figs b n).reverse) (st_of (Ex.new hr2 _ _ h1)) (st_of (by rw [upd_same, List.map_reverse])) (q _ (e.trans (Ex.new hr2)))⟩
def sp_unlike : Sp
  | [.int n, .int b], H, Q, _ => 0 ≤ n ∧ n < 2 ^ 300 ∧ 2 ≤ b ∧ b < 2 ^ 100 ∧ ∀ H', Ex H H' → Q (.bl (decide ((figs b n).Nodup))) H'
  | _, _, _, _ => False
theorem ok_unlike (T : Txt K mg a_is_integer a_is_number a_is_base a_figures_of a_number_of a_turned a_least a_greatest a_total a_many a_root a_figure a_first a_last a_joined a_mirrored a_unlike a_value a_law_deal a_law_draw a_law_pick a_law_base a_law_written a_law_number a_law_sums_right a_law_order_right a_law d_is_integer d_is_number d_is_base d_figures_of d_number_of d_turned d_least d_greatest d_total d_many d_root d_figure d_first d_last d_joined d_mirrored d_unlike d_value d_law_deal d_law_draw d_law_pick d_law_base d_law_written d_law_number d_law_sums_right d_law_order_right d_law) : FnOk P w K mg base CX0 4 a_unlike d_unlike ["number", "base"] sp_unlike := by
  have G_figures_of := ok_figures_of (P := P) (w := w) (base := base) T
  refine T.F_unlike.ok sc_unlike (fun vs H Q E h => ?_) (fun cdv A outer s H vs Q E hr h => ?_)
  · unfold sp_unlike at h; split at h; rfl; exact h.elim
  unfold sp_unlike at h; split at h
  case h_2 => exact h.elim
  rename_i n b
  obtain ⟨n0, n1, b0, b1, q⟩ := h
  refine ⟨_, (pss_cons (ps_set (i := 2) sc_unlike.nd rfl (by first | exact .inl rfl | exact .inr rfl) (pe_call G_figures_of (hr.mono (by decide)) (by rfl) T.g_figures_of T.F_figures_of.kp T.b_figures_of .nil pass0 (pa_cons (pv 0) (pa_cons (pv 1) pa_nil))))
      (pss_one (ps_ret (pe_cmpR op_eq (pe_lenSetT (by rfl) T.z_len (by rfl) T.z_set (pv 2)) (pe_callB call_len_seq (by rfl) T.z_len (by decide +kernel) (pa_cons (pv 2) pa_nil)) (nomark _))))), ?_⟩
  walk_at "st"
  walk_at "vc"
  refine ⟨n0, n1, b0, b1, fun p H1 hp e h1 => ?_⟩
  walk_at "vc"
  refine ⟨_, st_of h1, by have := (fig_lens7 n0 n1 b0 b1).1; omega, fun c c1 c2 => ⟨_, .inr (st_of h1), ?_⟩⟩
  walk_at "vc"
  have e2 : decide ((c : Int) = ((List.map V.int (figs b n)).length : Int)) = decide ((figs b n).Nodup) := by
    refine dec_iff ?_
    rw [List.length_map, ← c2]
    omega
  rw [e2]
  exact q _ e
def sp_law_deal : Sp
  | [.ref a, .int k], H, Q, _ => ∃ ns : List Int, SqL K H a (ns.map V.int) ∧ ns.length ≤ 63 ∧ 0 ≤ k ∧ k ≤ 63 ∧ ∀ d L H', Ex H H' → Deal d L H' → Q (.ref d) H'
  | _, _, _, _ => False
def C_d1 (p D : Addr) (ms : List Int) (H : Hp) : Nat → Hp → Prop := fun i H' => ∃ vs : List Int, H' D = some (.lst (vs.map V.int)) ∧ vs.length = i ∧ (∀ v ∈ vs, 0 ≤ v) ∧ Ex H H' ∧ H' p = some (.lst (ms.map V.int))
def C_d2 (c D : Addr) (ms : List Int) (H : Hp) : Nat → Hp → Prop := fun i H' => ∃ vs : List Int, H' D = some (.lst (vs.map V.int)) ∧ vs.length ≤ i ∧ (∀ v ∈ vs, 0 ≤ v) ∧ Ex H H' ∧ H' c = some (.lst (ms.map V.int))
def I_dl (a c : Addr) (k : Int) (H : Hp) : Nat → L2.St → Hp → Prop := fun i σ H' => H' = H ∧ ∃ z x, σ = [some (.ref a), some (.int k), some (.ref c), some (.int z), x] ∧ 0 ≤ z ∧ z < 2147483647
theorem ok_law_deal (T : Txt K mg a_is_integer a_is_number a_is_base a_figures_of a_number_of a_turned a_least a_greatest a_total a_many a_root a_figure a_first a_last a_joined a_mirrored a_unlike a_value a_law_deal a_law_draw a_law_pick a_law_base a_law_written a_law_number a_law_sums_right a_law_order_right a_law d_is_integer d_is_number d_is_base d_figures_of d_number_of d_turned d_least d_greatest d_total d_many d_root d_figure d_first d_last d_joined d_mirrored d_unlike d_value d_law_deal d_law_draw d_law_pick d_law_base d_law_written d_law_number d_law_sums_right d_law_order_right d_law) : FnOk P w K mg base CX0 1 a_law_deal d_law_deal ["_law_script", "_law_base_here"] (sp_law_deal (K := K)) := by
  refine T.F_law_deal.ok sc_law_deal (fun vs H Q E h => ?_) (fun cdv A outer s H vs Q E hr h => ?_)
  · unfold sp_law_deal at h; split at h; rfl; exact h.elim
  · unfold sp_law_deal at h; split at h
    case h_2 => exact h.elim
    rename_i a k
    obtain ⟨ns, hS, hl, k0, k1, q⟩ := h
    obtain ⟨ms, em, hm1, hm2⟩ := cut_ints ns (some k) (some 63)
    refine ⟨_, (pss_cons (ps_setLc (i := 2) (own := [("_law_cell", 4)]) (g := gName 4) (by rfl) sc_law_deal.nd rfl rfl (sw_true rfl rfl rfl (by decide +kernel)) (pi_list (pe_slice sl_listM (pv 0) (po_some (pv 1)) (po_some pe_int))) (blkOk_by (own := [("_law_cell", 4)]) (N := N_law_deal) (sc := defScope s_law_deal) (by decide +kernel)) (fun _ _ _ _ _ => (pg_name (i := 4) sc_law_deal.nd rfl (by first | exact .inl rfl | exact .inr rfl))) (fun _ _ _ _ _ => pts_nil) (fun _ _ _ _ _ => (pe_ifExp (pt_cmpR op_gt (pv 4) pe_int (nomark _)) (pv 4) (pe_op op_sub pe_int (pv 4)))))
      (pss_cons (ps_set (i := 3) sc_law_deal.nd rfl (by first | exact .inl rfl | exact .inr rfl) (pe_op op_add pe_int (pe_op op_mulX pe_int (pv 1))))
      (Evl.pss_cut (ps_for PassesOwn.never rfl (pi_list (pv 2)) (pg_name (i := 4) sc_law_deal.nd rfl (by first | exact .inl rfl | exact .inr rfl))
      (pss_one (ps_set (i := 3) sc_law_deal.nd rfl (by first | exact .inl rfl | exact .inr rfl) (pe_op op_mod (pe_callTy call_intM (by rfl) T.z_int (by decide +kernel) (pa_cons (pe_op op_add (pe_op op_mulX (pv 3) pe_int) (pe_op op_mod (pe_callTy call_intM (by rfl) T.z_int (by decide +kernel) (pa_cons (pv 4) pa_nil)) pe_int)) pa_nil)) pe_int))))
      (pss_one (ps_ret (pe_lst (pa_cons (pe_revL (pe_lc (own := [("_law_cell", 4)]) (g := gName 4) (by rfl) sc_law_deal.nd (pi_list (pv 2)) (blkOk_by (own := [("_law_cell", 4)]) (N := N_law_deal) (sc := defScope s_law_deal) (by decide +kernel)) (fun _ _ _ _ _ => (pg_name (i := 4) sc_law_deal.nd rfl (by first | exact .inl rfl | exact .inr rfl))) (fun _ _ _ _ _ => (pts_one (pt_cmpR op_ge (pv 4) (pe_op op_pow pe_int pe_int) (nomark _)))) (fun _ _ _ _ _ => (pv 4)))) (pa_cons (pv 3) pa_nil)))))))), ?_⟩
    walk_at "st"
    refine ⟨_, rfl, _, rfl, _, rfl, _, rfl, _, hS, fun p hp => ⟨p, rfl, ⟨_, sq_of upd_same⟩, fun D hD => lc_list (xs := ms.map V.int) (C_d1 p D ms H) ?_ ?_ ?_ ?_⟩⟩
    · rw [em] at hD ⊢
      exact ⟨[], upd_same, rfl, fun v hv => (by cases hv), (Ex.new hp).trans (Ex.new hD), by rw [upd_ne (ne_of_none upd_same hD), upd_same]⟩
    · intro i H' _ h
      obtain ⟨vs, h1, h2, h3, h4, h5⟩ := h
      exact sq_of h5
    · intro i x H' hx h
      obtain ⟨vs, h1, h2, h3, h4, h5⟩ := h
      rw [List.getElem?_map] at hx
      obtain ⟨n, hn, rfl⟩ := Option.map_eq_some_iff.mp hx
      have hi : i < ms.length := (List.getElem?_eq_some_iff.mp hn).1
      rw [em] at hD
      have hDH : H D = none := (Ex.new hp).free hD
      have hDp : p ≠ D := ne_of_none upd_same hD
      walk_at "vc"
      have fin : ∀ z : Int, 0 ≤ z → C_d1 p D ms H (i + 1) (upd H' D (.lst (vs.map V.int ++ [.int z]))) := fun z hz =>
        ⟨vs ++ [z], by rw [upd_same, List.map_append]; rfl, by simp [h2], fun v hv => by
          rcases List.mem_append.mp hv with hv | hv
          · exact h3 v hv
          · rw [List.mem_singleton.mp hv]; exact hz, h4.mut hDH, by rw [upd_ne hDp]; exact h5⟩
      refine ite2 (fun hc => ?_) (fun hc => ?_)
      · exact ⟨_, h1, sz_lt (by simp; omega), fin n (by omega)⟩
      · exact ⟨_, h1, sz_lt (by simp; omega), fin (0 - n) (by omega)⟩
    · intro H1 h
      obtain ⟨cs, h1, h2, h3, h4, h5⟩ := h
      have hcl : cs.length ≤ 63 := by rw [List.length_map] at h2; omega
      walk_at "vc"
      refine ⟨mulOk (by decide) (by decide) (by omega) (by omega), fun σ H' => H' = H1 ∧ ∃ z x, σ = [some (.ref a), some (.int k), some (.ref D), some (.int z), x] ∧ 0 ≤ z ∧ z < 2147483647, ?_, fun σ H' hm => ?_⟩
      · refine ⟨_, rfl, D, rfl, ⟨_, sq_of h1⟩, for_list (xs := cs.map V.int) (I_dl a D k H1) ⟨rfl, _, _, rfl, by omega, by omega⟩ (fun i σ H' _ hw => by rw [hw.1]; exact sq_of h1) (fun i x σ H' hx' hw => ?_) (fun σ H' hw => ?_)⟩
        · obtain ⟨rfl, z, y, rfl, z0, z1⟩ := hw
          rw [List.getElem?_map] at hx'
          obtain ⟨n, hn, rfl⟩ := Option.map_eq_some_iff.mp hx'
          walk_at "vc"
          exact ⟨mulOk (by omega) (by omega) (by decide) (by decide), by decide, by decide, rfl, _, _, rfl, Int.emod_nonneg _ (by decide), Int.emod_lt_of_pos _ (by decide)⟩
        · exact hw
      obtain ⟨rfl, z, x, rfl, z0, z1⟩ := hm
      refine ⟨_, rfl, D, rfl, ⟨_, sq_of h1⟩, fun D2 hD2 => lc_list (xs := cs.map V.int) (C_d2 D D2 cs H') ?_ ?_ ?_ ?_⟩
      · exact ⟨[], upd_same, Nat.le_refl _, fun v hv => (by cases hv), Ex.new hD2, by rw [upd_ne (ne_of_none h1 hD2)]; exact h1⟩
      · intro i H2 _ h
        obtain ⟨vs, g1, g2, g3, g4, g5⟩ := h
        exact sq_of g5
      · intro i x H2 hx h
        obtain ⟨vs, g1, g2, g3, g4, g5⟩ := h
        rw [List.getElem?_map] at hx
        obtain ⟨n, hn, rfl⟩ := Option.map_eq_some_iff.mp hx
        have hi : i < cs.length := (List.getElem?_eq_some_iff.mp hn).1
        walk_at "vc"
        refine ⟨powOk (by decide) (by decide) (by decide) (by decide), ite2 (fun hc => ?_) (fun hc => ⟨vs, g1, by omega, g3, g4, g5⟩)⟩
        refine ⟨_, g1, sz_lt (by simp; omega), vs ++ [n], by rw [upd_same, List.map_append]; rfl, by simp; omega, fun v hv => ?_, g4.mut hD2, by rw [upd_ne (ne_of_none h1 hD2)]; exact g5⟩
        rcases List.mem_append.mp hv with hv | hv
        · exact g3 v hv
        · rw [List.mem_singleton.mp hv]
          exact h3 n (List.mem_of_getElem? hn)
      · intro H2 h
        obtain ⟨vs, g1, g2, g3, g4, g5⟩ := h
        rw [List.length_map] at g2
        walk_at "vc"
        refine ⟨_, sq_of g1, fun r hr2 => ⟨sz_le (by simp), fun d hd => q d r _ ((h4.trans g4).trans ((Ex.new hr2).trans (Ex.new hd))) ⟨vs.reverse, z, upd_same, ?_, fun c hc => g3 c (List.mem_reverse.mp hc), z0, z1, by simp; omega⟩⟩⟩
        rw [upd_ne (ne_of_none upd_same hd), upd_same, List.map_reverse]
def sp_law_draw : Sp
  | [.ref d, .int n], H, Q, _ => ∃ L, Deal d L H ∧ 0 < n ∧ n < 2 ^ 240 ∧ ∀ v H', 0 ≤ v → v < n → Mv d L H H' → Q (.int v) H'
  | _, _, _, _ => False
def I_dr (d L : Addr) (n : Int) (x : Option V) (H : Hp) : Nat → L2.St → Hp → Prop := fun m σ H' => ∃ (cs : List Int) (z : Int), σ = [some (.ref d), some (.int n), x] ∧ m = cs.length ∧ DealC d L cs z H' ∧ Mv d L H H'
theorem ok_law_draw (T : Txt K mg a_is_integer a_is_number a_is_base a_figures_of a_number_of a_turned a_least a_greatest a_total a_many a_root a_figure a_first a_last a_joined a_mirrored a_unlike a_value a_law_deal a_law_draw a_law_pick a_law_base a_law_written a_law_number a_law_sums_right a_law_order_right a_law d_is_integer d_is_number d_is_base d_figures_of d_number_of d_turned d_least d_greatest d_total d_many d_root d_figure d_first d_last d_joined d_mirrored d_unlike d_value d_law_deal d_law_draw d_law_pick d_law_base d_law_written d_law_number d_law_sums_right d_law_order_right d_law) : FnOk P w K mg base CX0 1 a_law_draw d_law_draw ["_law_deal_here", "_law_span"] sp_law_draw := by
  refine T.F_law_draw.ok sc_law_draw (fun vs H Q E h => ?_) (fun cdv A outer s H vs Q E hr h => ?_)
  · unfold sp_law_draw at h; split at h; rfl; exact h.elim
  · unfold sp_law_draw at h; split at h
    case h_2 => exact h.elim
    rename_i d n
    obtain ⟨L, ⟨cs, z, D⟩, n0, n1, q⟩ := h
    refine ⟨_, (Evl.pss_cut (ps_while PassesOwn.never (PW.pt (pw_and (pt_cmpR (op_neD hr.units) (pe_ix ix_listM (pv 0) pe_int (fun _ _ => rfl)) (pe_lst pa_nil) (nomark _)) (pw_and1 (pt_cmpR op_eq (pe_ix ix_listM (pe_ix ix_listM (pv 0) pe_int (fun _ _ => rfl)) (pe_un un_neg pe_int) (fun _ _ => rfl)) pe_int (nomark _)))))
      (pss_one (ps_expr (pe_bm0 PySem.F.plainAttrs_list PySem.F.slot_list_pop PySem.F.type_list_pop mt_popM (pe_ix ix_listM (pv 0) pe_int (fun _ _ => rfl))))))
      (pss_cons (ps_if (pt_cmpR (op_neD hr.units) (pe_ix ix_listM (pv 0) pe_int (fun _ _ => rfl)) (pe_lst pa_nil) (nomark _))
      (pss_cons (ps_set (i := 2) sc_law_draw.nd rfl (by first | exact .inl rfl | exact .inr rfl) (pe_bm0 PySem.F.plainAttrs_list PySem.F.slot_list_pop PySem.F.type_list_pop mt_popM (pe_ix ix_listM (pv 0) pe_int (fun _ _ => rfl))))
      (pss_cons (ps_expr (pe_bm PySem.F.plainAttrs_list PySem.F.slot_list_append PySem.F.type_list_append mt_appendM (pe_ix ix_listM (pv 0) pe_int (fun _ _ => rfl)) (pa_cons (pe_op op_fdivW (pv 2) (pv 1)) pa_nil)))
      (pss_one (ps_ret (pe_op op_mod (pe_callTy call_intM (by rfl) T.z_int (by decide +kernel) (pa_cons (pv 2) pa_nil)) (pv 1))))))
      pss_nil)
      (pss_cons (ps_asg (pe_op op_mod (pe_callTy call_intM (by rfl) T.z_int (by decide +kernel) (pa_cons (pe_op op_mulX (pe_ix ix_listM (pv 0) pe_int (fun _ _ => rfl)) pe_int) pa_nil)) pe_int) (pg_sub (pv 0) pe_int set_list))
      (pss_one (ps_ret (pe_op op_mod (pe_callTy call_intM (by rfl) T.z_int (by decide +kernel) (pa_cons (pe_op op_fdivW (pe_ix ix_listM (pv 0) pe_int (fun _ _ => rfl)) pe_int) pa_nil)) (pv 1))))))), ?_⟩
    walk_at "st"
    walk_at "vc"
    refine ⟨fun σ H' => ∃ cs z, σ = [some (.ref d), some (.int n), none] ∧ DealC d L cs z H' ∧ Mv d L H H', ⟨I_dr d L n none H, ⟨_, cs, z, rfl, rfl, D, .refl ⟨_, _, D⟩⟩, fun m σ H' hw => ?_⟩, fun σ H' hm => ?_⟩
    · obtain ⟨cs, z, rfl, rfl, D, M⟩ := hw
      walk_at "vc"
      refine ⟨_, sq_of D.d, _, rfl, sz_le (Nat.zero_le _), fun p hp => neLists (xs := cs) (ys := []) ((Ex.new hp).sql (sq_of D.l)) (sq_of upd_same) ?_⟩
      have D := D.ex (Ex.new hp (o := .lst []))
      have M := M.new hp (o := .lst [])
      walk_at "vc"
      refine ite2 (fun hc => ?_) (fun hc => ⟨_, _, D, M⟩)
      obtain ⟨ds, c, rfl⟩ : ∃ ds c, cs = ds ++ [c] := ⟨cs.dropLast, cs.getLast hc, (List.dropLast_concat_getLast hc).symm⟩
      have eL := D.l
      rw [List.map_append] at eL
      refine ⟨_, sq_of D.d, _, rfl, ?_⟩
      walk_at "vc"
      refine ⟨_, sq_of eL, _, atI_last _ _, ?_⟩
      walk_at "vc"
      refine ite2 (fun h0 => ⟨_, fun _ _ hN => hN, ?_⟩) (fun h0 => ⟨_, _, D, M⟩)
      refine ⟨_, sq_of D.d, _, rfl, .inl ⟨rfl, _, sq_of eL⟩, ?_⟩
      walk_at "vc"
      refine ⟨_, eL, V.int c, by simp, _, ?_, ds, z, rfl, rfl, ?_⟩
      · simp
      have D2 : DealC d L ds z (upd (upd H' p (.lst [])) L (.lst (ds.map V.int ++ List.map V.int [c]).dropLast)) :=
        ⟨by rw [upd_ne D.ne]; exact D.d, by rw [upd_same]; simp, fun x hx => D.nn x (List.mem_append_left _ hx), D.z0, D.z1, by have := D.len; simp at this; omega⟩
      exact ⟨D2, M.trans ⟨fun b o h1 h2 h => by rw [upd_ne h2]; exact h, _, _, D2⟩⟩
    · obtain ⟨cs, z, rfl, D, M⟩ := hm
      walk_at "vc"
      refine ⟨_, sq_of D.d, _, rfl, sz_le (Nat.zero_le _), fun p hp => neLists (xs := cs) (ys := []) ((Ex.new hp).sql (sq_of D.l)) (sq_of upd_same) ?_⟩
      have D := D.ex (Ex.new hp (o := .lst []))
      have M := M.new hp (o := .lst [])
      walk_at "vc"
      refine ite2 (fun hc => ?_) (fun hc => ?_)
      · obtain ⟨ds, c, rfl⟩ : ∃ ds c, cs = ds ++ [c] := ⟨cs.dropLast, cs.getLast hc, (List.dropLast_concat_getLast hc).symm⟩
        have eL := D.l
        rw [List.map_append] at eL
        refine ⟨_, sq_of D.d, _, rfl, .inl ⟨rfl, _, sq_of eL⟩, ?_⟩
        walk_at "vc"
        refine ⟨_, eL, V.int c, by simp, ?_⟩
        have D2 : DealC d L ds z (upd (upd H' p (.lst [])) L (.lst (ds.map V.int ++ List.map V.int [c]).dropLast)) :=
          ⟨by rw [upd_ne D.ne]; exact D.d, by rw [upd_same]; simp, fun x hx => D.nn x (List.mem_append_left _ hx), D.z0, D.z1, by have := D.len; simp at this; omega⟩
        have M2 : Mv d L H _ := M.trans ⟨fun b o h1 h2 h => by rw [upd_ne h2]; exact h, _, _, D2⟩
        refine ⟨_, sq_of D2.d, _, rfl, .inl ⟨rfl, _, sq_of D2.l⟩, _, rfl, divOk n0 (by omega), ?_⟩
        walk_at "vc"
        refine ⟨_, D2.l, sz_lt (by have := D2.len; simp; omega), n0, ?_⟩
        have c0 := D.nn c (by simp)
        have D3 : DealC d L (ds ++ [c / n]) z (upd (upd (upd H' p (.lst [])) L (.lst (ds.map V.int ++ List.map V.int [c]).dropLast)) L (.lst (ds.map V.int ++ [.int (c / n)]))) :=
          ⟨by rw [upd_ne D.ne]; exact D2.d, by rw [upd_same]; simp, fun x hx => by
            rcases List.mem_append.mp hx with hx | hx
            · exact D2.nn x hx
            · rw [List.mem_singleton.mp hx]; exact Int.ediv_nonneg c0 (by omega), D.z0, D.z1, by have := D.len; simp at this ⊢; omega⟩
        exact q _ _ (Int.emod_nonneg _ (by omega)) (Int.emod_lt_of_pos _ n0) (M2.trans ⟨fun b o h1 h2 h => by rw [upd_ne h2]; exact h, _, _, D3⟩)
      · refine ⟨_, sq_of D.d, _, rfl, _, rfl, mulOk (by have := D.z0; omega) (by have := D.z1; omega) (by decide) (by decide), by decide, _, D.d, _, rfl, ?_⟩
        have z0 := Int.emod_nonneg (z * 48271) (show (2147483647 : Int) ≠ 0 by decide)
        have z1 := Int.emod_lt_of_pos (z * 48271) (show (0 : Int) < 2147483647 by decide)
        have D2 : DealC d L cs (z * 48271 % 2147483647) (upd (upd H' p (.lst [])) d (.lst ([V.ref L, V.int z].set 1 (.int (z * 48271 % 2147483647))))) :=
          ⟨by rw [upd_same]; rfl, by rw [upd_ne D.ne.symm]; exact D.l, D.nn, z0, z1, D.len⟩
        refine ⟨_, sq_of D2.d, _, rfl, _, rfl, divOk (by decide) (by decide), n0, ?_⟩
        exact q _ _ (Int.emod_nonneg _ (by omega)) (Int.emod_lt_of_pos _ n0) (M.trans ⟨fun b o h1 h2 h => by rw [upd_ne h1]; exact h, _, _, D2⟩)
/-- one of a tracked list of things -/
def sp_law_pick : Sp
  | [.ref d, .ref a], H, Q, _ => ∃ L xs, Deal d L H ∧ H a = some (.lst xs) ∧ a ≠ d ∧ a ≠ L ∧ 0 < xs.length ∧ xs.length ≤ 1000 ∧ ∀ v H', v ∈ xs → Mv d L H H' → Q v H'
  | _, _, _, _ => False
theorem ok_law_pick (T : Txt K mg a_is_integer a_is_number a_is_base a_figures_of a_number_of a_turned a_least a_greatest a_total a_many a_root a_figure a_first a_last a_joined a_mirrored a_unlike a_value a_law_deal a_law_draw a_law_pick a_law_base a_law_written a_law_number a_law_sums_right a_law_order_right a_law d_is_integer d_is_number d_is_base d_figures_of d_number_of d_turned d_least d_greatest d_total d_many d_root d_figure d_first d_last d_joined d_mirrored d_unlike d_value d_law_deal d_law_draw d_law_pick d_law_base d_law_written d_law_number d_law_sums_right d_law_order_right d_law) : FnOk P w K mg base CX0 2 a_law_pick d_law_pick ["_law_deal_here", "_law_some"] sp_law_pick := by
  have G_law_draw := ok_law_draw (P := P) (w := w) (base := base) T
  refine T.F_law_pick.ok sc_law_pick (fun vs H Q E h => ?_) (fun cdv A outer s H vs Q E hr h => ?_)
  · unfold sp_law_pick at h; split at h; rfl; exact h.elim
  · unfold sp_law_pick at h; split at h
    case h_2 => exact h.elim
    rename_i d a
    obtain ⟨L, xs, D, hx, h1, h2, h3, h4, q⟩ := h
    refine ⟨_, (pss_one (ps_ret (pe_ix ix_listM (pv 1) (pe_call G_law_draw (hr.mono (by decide)) (by rfl) T.g_law_draw T.F_law_draw.kp T.b_law_draw .nil pass0 (pa_cons (pv 0) (pa_cons (pe_callB call_len_seq (by rfl) T.z_len (by decide +kernel) (pa_cons (pv 1) pa_nil)) pa_nil))) (fun _ _ => rfl)))), ?_⟩
    walk_at "st"
    walk_at "vc"
    refine ⟨_, .inl (sq_of hx), L, D, by omega, by omega, fun v H1 v0 v1 M => ?_⟩
    obtain ⟨j, rfl⟩ : ∃ j : Nat, v = (j : Int) := ⟨v.toNat, by omega⟩
    have hj : j < xs.length := by omega
    exact ⟨_, _, sq_of (M.kp _ _ h1 h2 hx), atI_nat (List.getElem?_eq_getElem hj), q _ _ (List.getElem_mem hj) M⟩
def sp_law_base : Sp
  | [.ref d], H, Q, _ => ∃ L, Deal d L H ∧ ∀ v H', 2 ≤ v → v ≤ 10 ^ 30 → Mv d L H H' → Q (.int v) H'
  | _, _, _, _ => False
theorem ok_law_base (T : Txt K mg a_is_integer a_is_number a_is_base a_figures_of a_number_of a_turned a_least a_greatest a_total a_many a_root a_figure a_first a_last a_joined a_mirrored a_unlike a_value a_law_deal a_law_draw a_law_pick a_law_base a_law_written a_law_number a_law_sums_right a_law_order_right a_law d_is_integer d_is_number d_is_base d_figures_of d_number_of d_turned d_least d_greatest d_total d_many d_root d_figure d_first d_last d_joined d_mirrored d_unlike d_value d_law_deal d_law_draw d_law_pick d_law_base d_law_written d_law_number d_law_sums_right d_law_order_right d_law) : FnOk P w K mg base CX0 3 a_law_base d_law_base ["_law_deal_here"] sp_law_base := by
  have G_law_draw := ok_law_draw (P := P) (w := w) (base := base) T
  have G_law_pick := ok_law_pick (P := P) (w := w) (base := base) T
  refine T.F_law_base.ok sc_law_base (fun vs H Q E h => ?_) (fun cdv A outer s H vs Q E hr h => ?_)
  · unfold sp_law_base at h; split at h; rfl; exact h.elim
  · unfold sp_law_base at h; split at h
    case h_2 => exact h.elim
    rename_i d
    obtain ⟨L, D, q⟩ := h
    refine ⟨_, (pss_cons (ps_set (i := 1) sc_law_base.nd rfl (by first | exact .inl rfl | exact .inr rfl) (pe_lst (pa_cons pe_int (pa_cons pe_int (pa_cons pe_int (pa_cons pe_int (pa_cons (pe_op op_add pe_int (pe_call G_law_draw (hr.mono (by decide)) (by rfl) T.g_law_draw T.F_law_draw.kp T.b_law_draw .nil pass0 (pa_cons (pv 0) (pa_cons pe_int pa_nil)))) (pa_cons (pe_op op_add pe_int (pe_call G_law_draw (hr.mono (by decide)) (by rfl) T.g_law_draw T.F_law_draw.kp T.b_law_draw .nil pass0 (pa_cons (pv 0) (pa_cons (pe_op op_pow pe_int pe_int) pa_nil)))) (pa_cons (pe_op op_sub (pe_op op_pow pe_int pe_int) (pe_call G_law_draw (hr.mono (by decide)) (by rfl) T.g_law_draw T.F_law_draw.kp T.b_law_draw .nil pass0 (pa_cons (pv 0) (pa_cons pe_int pa_nil)))) pa_nil)))))))))
      (pss_one (ps_ret (pe_call G_law_pick (hr.mono (by decide)) (by rfl) T.g_law_pick T.F_law_pick.kp T.b_law_pick .nil pass0 (pa_cons (pv 0) (pa_cons (pv 1) pa_nil)))))), ?_⟩
    walk_at "st"
    walk_at "vc"
    refine ⟨L, D, by decide, by decide, fun v1 H1 a0 a1 M1 => ⟨_, rfl, powOk (by decide) (by decide) (by decide) (by decide), L, M1.dl, by decide, by decide, fun v2 H2 b0 b1 M2 =>
      ⟨_, rfl, powOk (by decide) (by decide) (by decide) (by decide), L, M2.dl, by decide, by decide, fun v3 H3 c0 c1 M3 => ⟨_, rfl, sz_le (by simp), fun p hp => ?_⟩⟩⟩⟩
    have M4 := (M1.trans M2).trans M3
    refine ⟨L, _, (M3.dl.ex (Ex.new hp)), upd_same, (M3.dl.off hp).1, (M3.dl.off hp).2, by simp, by simp, fun v H5 hv M5 => ?_⟩
    have e6 : (10 : Int) ^ (6 : Int).toNat = 1000000 := by decide
    have e30 : (10 : Int) ^ (30 : Int).toNat = 10 ^ 30 := by decide
    rw [e30] at hv
    rw [e6] at b1
    have M6 := (M4.new hp).trans M5
    simp only [List.mem_cons, List.not_mem_nil, or_false] at hv
    rcases hv with rfl | rfl | rfl | rfl | rfl | rfl | rfl <;> exact q _ _ (by omega) (by omega) M6
def sp_law_written : Sp
  | [.ref a, .int b], H, Q, _ => ∃ xs : List Int, H a = some (.lst (xs.map V.int)) ∧ 2 ≤ b ∧ b < 2 ^ 110 ∧ (∀ x ∈ xs, 0 ≤ x ∧ x < b) ∧ xs.length ≤ 1000 ∧ b ^ xs.length ≤ 2 ^ 800 ∧ Q (.int (written b xs)) H
  | _, _, _, _ => False
def I_wr (a : Addr) (b : Int) (xs : List Int) (H : Hp) : Nat → L2.St → Hp → Prop := fun i σ H' => H' = H ∧ ∃ x, σ = [some (.ref a), some (.int b), some (.int (written b (xs.take i))), x]
theorem ok_law_written (T : Txt K mg a_is_integer a_is_number a_is_base a_figures_of a_number_of a_turned a_least a_greatest a_total a_many a_root a_figure a_first a_last a_joined a_mirrored a_unlike a_value a_law_deal a_law_draw a_law_pick a_law_base a_law_written a_law_number a_law_sums_right a_law_order_right a_law d_is_integer d_is_number d_is_base d_figures_of d_number_of d_turned d_least d_greatest d_total d_many d_root d_figure d_first d_last d_joined d_mirrored d_unlike d_value d_law_deal d_law_draw d_law_pick d_law_base d_law_written d_law_number d_law_sums_right d_law_order_right d_law) : FnOk P w K mg base CX0 1 a_law_written d_law_written ["_law_figures_here", "_law_base_here"] sp_law_written := by
  refine T.F_law_written.ok sc_law_written (fun vs H Q E h => ?_) (fun cdv A outer s H vs Q E hr h => ?_)
  · unfold sp_law_written at h; split at h; rfl; exact h.elim
  · unfold sp_law_written at h; split at h
    case h_2 => exact h.elim
    rename_i a b
    obtain ⟨xs, hx, b0, b1, hm, hl, hp, q⟩ := h
    refine ⟨_, (pss_cons (ps_set (i := 2) sc_law_written.nd rfl (by first | exact .inl rfl | exact .inr rfl) pe_int)
      (Evl.pss_cut (ps_for PassesOwn.never rfl (pi_list (pv 0)) (pg_name (i := 3) sc_law_written.nd rfl (by first | exact .inl rfl | exact .inr rfl))
      (pss_one (ps_set (i := 2) sc_law_written.nd rfl (by first | exact .inl rfl | exact .inr rfl) (pe_op op_add (pe_op op_mulX (pv 2) (pv 1)) (pv 3)))))
      (pss_one (ps_ret (pv 2))))), ?_⟩
    walk_at "st"
    walk_at "vc"
    refine ⟨fun σ H' => H' = H ∧ ∃ x, σ = [some (.ref a), some (.int b), some (.int (written b xs)), x], ?_, fun σ H' hm => ?_⟩
    rotate_left
    · obtain ⟨rfl, x, rfl⟩ := hm
      walk_at "vc"
      exact q
    refine ⟨_, rfl, a, rfl, ⟨_, sq_of hx⟩, for_list (xs := xs.map V.int) (I_wr a b xs H) ⟨rfl, none, rfl⟩ (fun i σ H' _ hw => by rw [hw.1]; exact sq_of hx) (fun i x σ H' hx' hw => ?_) (fun σ H' hw => ?_)⟩
    · obtain ⟨rfl, y, rfl⟩ := hw
      rw [List.getElem?_map] at hx'
      obtain ⟨n, hn, rfl⟩ := Option.map_eq_some_iff.mp hx'
      walk_at "vc"
      have hi : i < xs.length := (List.getElem?_eq_some_iff.mp hn).1
      have wb := written_bd (b := b) (by omega) (xs.take i) (fun x hx => hm x (List.mem_of_mem_take hx))
      have pl := pow_mono (b := b) (by omega) (show (xs.take i).length ≤ xs.length by rw [List.length_take]; omega)
      refine ⟨mulOk8 (by omega) (by omega) (by omega) (by omega), rfl, some (.int n), ?_⟩
      rw [take_snoc hn, written_snoc]
    · obtain ⟨rfl, y, rfl⟩ := hw
      rw [List.length_map, List.take_length]
      exact ⟨rfl, y, rfl⟩
def sp_law_number : Sp
  | [.ref d, .int b], H, Q, _ => ∃ L, Deal d L H ∧ 2 ≤ b ∧ b ≤ 10 ^ 30 ∧ ∀ v H', 0 ≤ v → v < 2 ^ 200 → Mv d L H H' → Q (.int v) H'
  | _, _, _, _ => False
def I_nm (d L : Addr) (b : Int) (H : Hp) : Nat → L2.St → Hp → Prop := fun m σ H' => ∃ k : Nat, H' = H ∧ σ = [some (.ref d), some (.int b), some (.int k), some (.int (b ^ k)), none, none, none] ∧ m = (10 ^ 60 - b ^ k).toNat ∧ 1 ≤ k ∧ (b ^ k < 10 ^ 60)
def C_nm (d L a D : Addr) (b : Int) (ys : List V) (H : Hp) : Nat → Hp → Prop := fun i H' => ∃ vs : List Int, H' D = some (.lst (vs.map V.int)) ∧ vs.length = i ∧ (∀ v ∈ vs, 0 ≤ v ∧ v < b) ∧ Mv d L H H' ∧ H' a = some (.lst ys)
theorem ok_law_number (T : Txt K mg a_is_integer a_is_number a_is_base a_figures_of a_number_of a_turned a_least a_greatest a_total a_many a_root a_figure a_first a_last a_joined a_mirrored a_unlike a_value a_law_deal a_law_draw a_law_pick a_law_base a_law_written a_law_number a_law_sums_right a_law_order_right a_law d_is_integer d_is_number d_is_base d_figures_of d_number_of d_turned d_least d_greatest d_total d_many d_root d_figure d_first d_last d_joined d_mirrored d_unlike d_value d_law_deal d_law_draw d_law_pick d_law_base d_law_written d_law_number d_law_sums_right d_law_order_right d_law) : FnOk P w K mg base CX0 4 a_law_number d_law_number ["_law_deal_here", "_law_base_here"] sp_law_number := by
  have G_law_draw := ok_law_draw (P := P) (w := w) (base := base) T
  have G_law_pick := ok_law_pick (P := P) (w := w) (base := base) T
  have G_law_written := ok_law_written (P := P) (w := w) (base := base) T
  refine T.F_law_number.ok sc_law_number (fun vs H Q E h => ?_) (fun cdv A outer s H vs Q E hr h => ?_)
  · unfold sp_law_number at h; split at h; rfl; exact h.elim
  · unfold sp_law_number at h; split at h
    case h_2 => exact h.elim
    rename_i d b
    obtain ⟨L, D0, b0, b1, q⟩ := h
    refine ⟨_, (pss_cons (ps_par (i := 2) (j := 3) (by rfl) sc_law_number.nd rfl rfl (by decide) rfl rfl (pa_cons pe_int (pa_cons (pv 1) pa_nil)) (by rfl))
      (Evl.pss_cut (ps_while PassesOwn.never (pt_cmpR op_lt (pe_op op_mulX (pv 3) (pv 1)) (pe_op op_pow pe_int pe_int) (nomark _))
      (pss_one (ps_par (i := 2) (j := 3) (by rfl) sc_law_number.nd rfl rfl (by decide) rfl rfl (pa_cons (pe_op op_add (pv 2) pe_int) (pa_cons (pe_op op_mulX (pv 3) (pv 1)) pa_nil)) (by rfl))))
      (pss_cons (ps_set (i := 4) sc_law_number.nd rfl (by first | exact .inl rfl | exact .inr rfl) (pe_lst (pa_cons pe_int (pa_cons pe_int (pa_cons (pe_op op_sub (pv 1) pe_int) (pa_cons (pe_call G_law_draw (hr.mono (by decide)) (by rfl) T.g_law_draw T.F_law_draw.kp T.b_law_draw .nil pass0 (pa_cons (pv 0) (pa_cons (pv 1) pa_nil))) (pa_cons (pe_call G_law_draw (hr.mono (by decide)) (by rfl) T.g_law_draw T.F_law_draw.kp T.b_law_draw .nil pass0 (pa_cons (pv 0) (pa_cons (pv 1) pa_nil))) pa_nil)))))))
      (pss_cons (ps_setLc (i := 5) (own := [("_law_k", 6)]) (g := gName 6) (by rfl) sc_law_number.nd rfl rfl (sw_true rfl rfl rfl (by decide +kernel)) (pi_range1 (by rfl) T.z_range (pa_cons (pe_op op_add pe_int (pe_call G_law_draw (hr.mono (by decide)) (by rfl) T.g_law_draw T.F_law_draw.kp T.b_law_draw .nil pass0 (pa_cons (pv 0) (pa_cons (pe_call G_law_pick (hr.mono (by decide)) (by rfl) T.g_law_pick T.F_law_pick.kp T.b_law_pick .nil pass0 (pa_cons (pv 0) (pa_cons (pe_lst (pa_cons (pv 2) (pa_cons (pe_callB (call_minM rfl) (by rfl) T.z_min (by decide +kernel) (pa_cons (pv 2) (pa_cons pe_int pa_nil))) pa_nil))) pa_nil))) pa_nil)))) pa_nil)) (blkOk_by (own := [("_law_k", 6)]) (N := N_law_number) (sc := defScope s_law_number) (by decide +kernel)) (fun _ _ _ _ _ => (pg_name (i := 6) sc_law_number.nd rfl (by first | exact .inl rfl | exact .inr rfl))) (fun _ _ _ _ _ => pts_nil) (fun _ _ _ _ _ => (pe_call G_law_pick (hr.mono (by decide)) (by rfl) T.g_law_pick T.F_law_pick.kp T.b_law_pick .nil pass0 (pa_cons (pv 0) (pa_cons (pv 4) pa_nil)))))
      (Evl.pss_cut (ps_if (pt_cmpR op_eq (pe_call G_law_draw (hr.mono (by decide)) (by rfl) T.g_law_draw T.F_law_draw.kp T.b_law_draw .nil pass0 (pa_cons (pv 0) (pa_cons pe_int pa_nil))) pe_int (nomark _))
      (pss_cons (ps_set (i := 5) sc_law_number.nd rfl (by first | exact .inl rfl | exact .inr rfl) (pe_slice sl_listM (pv 5) po_none (po_some (pe_callB (call_maxM rfl) (by rfl) T.z_max (by decide +kernel) (pa_cons pe_int (pa_cons (pe_op op_fdivW (pe_callB call_len_seq (by rfl) T.z_len (by decide +kernel) (pa_cons (pv 5) pa_nil)) pe_int) pa_nil))))))
      (pss_one (ps_set (i := 5) sc_law_number.nd rfl (by first | exact .inl rfl | exact .inr rfl) (pe_op op_cat (pv 5) (pe_slice sl_listM (pe_revL (pv 5)) (po_some (pe_call G_law_draw (hr.mono (by decide)) (by rfl) T.g_law_draw T.F_law_draw.kp T.b_law_draw .nil pass0 (pa_cons (pv 0) (pa_cons pe_int pa_nil)))) po_none)))))
      pss_nil)
      (pss_one (ps_ret (pe_call G_law_written (hr.mono (by decide)) (by rfl) T.g_law_written T.F_law_written.kp T.b_law_written .nil pass0 (pa_cons (pe_slice sl_listM (pv 5) po_none (po_some (pv 2))) (pa_cons (pv 1) pa_nil)))))))))), ?_⟩
    walk_at "st"
    walk_at "vc"
    refine ⟨fun σ H' => ∃ k : Nat, H' = H ∧ σ = [some (.ref d), some (.int b), some (.int k), some (.int (b ^ k)), none, none, none] ∧ 1 ≤ k ∧ b ^ k < 10 ^ 60, ?_, fun σ H' hm => ?_⟩
    · refine ⟨I_nm d L b H, ⟨_, 1, rfl, (by rw [Int.pow_succ, Int.pow_zero, Int.one_mul]; rfl), rfl, Nat.le_refl _, by rw [Int.pow_succ, Int.pow_zero, Int.one_mul]; omega⟩, fun m σ H' hw => ?_⟩
      obtain ⟨k, rfl, rfl, rfl, k1, k2⟩ := hw
      have e60 : (10 : Int) ^ (60 : Int).toNat = 10 ^ 60 := by decide
      have pk : (0 : Int) < b ^ k := Int.pow_pos (by omega)
      have ps : b ^ k * 2 ≤ b ^ k * b := Int.mul_le_mul_of_nonneg_left b0 (by omega)
      walk_at "vc"
      rw [e60]
      refine ⟨mulOk (by omega) (by omega) (by omega) (by omega), powOk (by decide) (by decide) (by decide) (by decide), ite2 (fun hc => ⟨_, fun _ _ hN => hN, ?_⟩) (fun hc => ?_)⟩
      · refine ⟨mulOk (by omega) (by omega) (by omega) (by omega), _, ?_, k + 1, rfl, ?_, rfl, by omega, by rw [Int.pow_succ]; exact hc⟩
        · rw [Int.pow_succ b k]; omega
        · rw [Int.pow_succ b k]; rfl
      · exact ⟨k, rfl, rfl, k1, k2⟩
    obtain ⟨k, rfl, rfl, k1, k2⟩ := hm
    have k200 : k < 200 := pow_small (Int.lt_of_le_of_lt (pow_le_of b0 k) (Int.lt_trans k2 (by decide)))
    walk_at "vc"
    refine ⟨L, D0, by omega, by omega, fun v1 H1 a0 a1 M1 => ⟨L, M1.dl, by omega, by omega, fun v2 H2 c0 c1 M2 => ⟨sz_le (by simp), fun a ha => ?_⟩⟩⟩
    have M3 := (M1.trans M2).new ha (o := .lst [.int 0, .int 1, .int (b - 1), .int v1, .int v2])
    have hA : (upd H2 a (.lst [.int 0, .int 1, .int (b - 1), .int v1, .int v2])) a = some (.lst [.int 0, .int 1, .int (b - 1), .int v1, .int v2]) := upd_same
    have aoff := M2.dl.off ha
    generalize upd H2 a (.lst [.int 0, .int 1, .int (b - 1), .int v1, .int v2]) = H3 at *
    refine ⟨_, rfl, _, rfl, _, rfl, _, rfl, sz_le (by simp), fun p hp => ⟨L, _, M3.dl.ex (Ex.new hp), upd_same, (M3.dl.off hp).1, (M3.dl.off hp).2, by simp, by simp, fun v H4 hv M4 => ?_⟩⟩
    obtain ⟨m, rfl, m1, m2⟩ : ∃ m : Int, v = .int m ∧ 1 ≤ m ∧ m ≤ k := by
      simp only [List.mem_cons, List.not_mem_nil, or_false] at hv
      rcases hv with rfl | rfl
      · exact ⟨_, rfl, by omega, by omega⟩
      · refine ⟨_, rfl, ?_⟩
        split <;> omega
    have M5 := (M3.new hp).trans M4
    have hA5 := M4.kp _ _ aoff.1 aoff.2 (Ex.new hp _ _ hA)
    refine ⟨L, M4.dl, by omega, by omega, fun c H5 c0 c1 M6 => ⟨_, _, rfl, rfl, _, rfl, by omega, by omega, fun D hD => lc_range (lo := 0) (n := (1 + c).toNat) (C_nm d L a D b [.int 0, .int 1, .int (b - 1), .int v1, .int v2] H') ?_ ?_ ?_⟩⟩
    · have M7 := (M5.trans M6).new hD (o := .lst [])
      have hA6 := M6.kp _ _ aoff.1 aoff.2 hA5
      exact ⟨[], upd_same, rfl, fun v hv => (by cases hv), M7, Ex.new hD _ _ hA6⟩
    · intro i H' hi h
      obtain ⟨vs, h1, h2, h3, h4, h5⟩ := h
      walk_at "vc"
      have Doff := M6.dl.off hD
      have hA6 := M6.kp _ _ aoff.1 aoff.2 hA5
      have aD : a ≠ D := ne_of_none hA6 hD
      refine ⟨L, _, h4.dl, h5, aoff.1, aoff.2, by simp, by simp, fun v H7 hv M => ?_⟩
      obtain ⟨z, rfl, z0, z1⟩ : ∃ z : Int, v = .int z ∧ 0 ≤ z ∧ z < b := by
        simp only [List.mem_cons, List.not_mem_nil, or_false] at hv
        rcases hv with rfl | rfl | rfl | rfl | rfl <;> exact ⟨_, rfl, by omega, by omega⟩
      refine ⟨_, M.kp _ _ Doff.1 Doff.2 h1, sz_lt (by simp; omega), vs ++ [z], by rw [upd_same, List.map_append]; rfl, by simp [h2], fun x hx => ?_, (h4.trans M).mut ((M5.trans M6).free hD) Doff.1 Doff.2, by rw [upd_ne aD]; exact M.kp _ _ aoff.1 aoff.2 h5⟩
      rcases List.mem_append.mp hx with hx | hx
      · exact h3 x hx
      · rw [List.mem_singleton.mp hx]; exact ⟨z0, z1⟩
    · intro H6 h
      obtain ⟨vs, h1, h2, h3, h4, h5⟩ := h
      have Doff := M6.dl.off hD
      walk_at "vc"
      refine ⟨fun σ H'' => ∃ f ws, σ = [some (.ref d), some (.int b), some (.int k), some (.int (b ^ k)), some (.ref a), some (.ref f), none] ∧ H'' f = some (.lst (List.map V.int ws)) ∧ f ≠ d ∧ f ≠ L ∧ (∀ w ∈ ws, 0 ≤ w ∧ w < b) ∧ ws.length ≤ 1000 ∧ Mv d L H' H'', ?_, fun σ H'' hm => ?_⟩
      rotate_left
      · obtain ⟨f, ws, rfl, w1, w2, w3, w4, w5, w6⟩ := hm
        walk_at "vc"
        refine ⟨_, sq_of w1, fun r hr2 => ⟨ws.take k, ?_, b0, by omega, fun x hx => w4 x (List.mem_of_mem_take hx), by rw [List.length_take]; omega, ?_, ?_⟩⟩
        · rw [upd_same, cut_hi]
        · have := pow_mono (b := b) (by omega) (show (ws.take k).length ≤ k by rw [List.length_take]; omega)
          omega
        · have a1 := written_bd (b := b) (by omega) (ws.take k) (fun x hx => w4 x (List.mem_of_mem_take hx))
          have a2 := pow_mono (b := b) (by omega) (show (ws.take k).length ≤ k by rw [List.length_take]; omega)
          exact q _ _ a1.1 (by omega) (w6.new hr2)
      · walk_at "vc"
        refine ⟨L, h4.dl, by decide, by decide, fun c2 H7 _ _ M7 => ?_⟩
        have h1' := M7.kp _ _ Doff.1 Doff.2 h1
        walk_at "vc"
        refine ite2 (fun hc => ?_) (fun hc => ⟨vs, h1', Doff.1, Doff.2, h3, by omega, h4.trans M7⟩)
        refine ⟨_, .inl (sq_of h1'), divOk (by decide) (by decide), _, sq_of h1', ?_⟩
        obtain ⟨ms, em, e1, e2⟩ := cut_ints vs none (some (if ((List.map V.int vs).length : Int) / 2 > 1 then ((List.map V.int vs).length : Int) / 2 else 1))
        rw [em]
        intro r hr2
        refine ⟨_, sq_of upd_same, fun t ht => ?_⟩
        have M9 := ((h4.trans M7).new hr2).new ht (o := .lst (List.map V.int ms).reverse)
        have hrt : r ≠ t := ne_of_none upd_same ht
        have roff := M7.dl.off hr2
        have toff := ((h4.trans M7).new hr2).dl.off ht
        refine ⟨L, M9.dl, by decide, by decide, fun c3 H8 g0 g1 M8 => ⟨_, rfl, ?_⟩⟩
        have hr8 : H8 r = some (.lst (ms.map V.int)) := M8.kp _ _ roff.1 roff.2 (by rw [upd_ne hrt, upd_same])
        have ht8 : H8 t = some (.lst (ms.reverse.map V.int)) := M8.kp _ _ toff.1 toff.2 (by rw [upd_same, List.map_reverse])
        obtain ⟨ns', en, n1, n2⟩ := cut_ints ms.reverse (some c3) none
        refine ⟨_, sq_of ht8, ?_⟩
        rw [en]
        intro r1 hr1
        refine ⟨r, r1, _, _, rfl, rfl, Ex.new hr1 _ _ hr8, upd_same, ?_, fun x hx => ⟨x, rfl, ms ++ ns', by rw [upd_same, List.map_append], ?_⟩⟩
        · rw [List.length_reverse] at n2
          rw [List.length_map, List.length_map]
          exact sz_le (by omega)
        · have M10 := ((M9.trans M8).new hr1).new hx (o := .lst (List.map V.int ms ++ List.map V.int ns'))
          have xoff := ((M9.trans M8).new hr1).dl.off hx
          refine ⟨xoff.1, xoff.2, fun y hy => ?_, ?_, M10⟩
          · rcases List.mem_append.mp hy with hy | hy
            · exact h3 y (e1 y hy)
            · exact h3 y (e1 y (List.mem_reverse.mp (n1 y hy)))
          · rw [List.length_reverse] at n2
            rw [List.length_append]; omega
theorem oneNoughts (k : Nat) : [V.int 1] ++ (List.replicate k [V.int 0]).flatten = (1 :: List.replicate k 0).map V.int := by
  rw [List.map_cons, List.map_replicate, List.singleton_append]
  congr 1
  induction k with
  | zero => rfl
  | succ k ih => rw [List.replicate_succ, List.flatten_cons, ih, List.replicate_succ]; rfl
/-- the number with a 1 and k noughts -/
theorem powList {H : Hp} {b k : Int} {Q : VK} (b0 : 2 ≤ b) (b1 : b < 2 ^ 100) (k0 : 0 ≤ k) (k1 : k ≤ 900) (hp : b ^ (k.toNat + 1) ≤ 2 ^ 800) (q : ∀ H', Ex H H' → Q (.int (b ^ k.toNat)) H') :
    [V.int 1].length ≤ sizeLine ∧ ∀ p, H p = none → [V.int 0].length ≤ sizeLine ∧ ∀ p_1, upd H p (HO.lst [V.int 1]) p_1 = none → rRep (V.ref p_1) (V.int k) (upd (upd H p (HO.lst [V.int 1])) p_1 (HO.lst [V.int 0])) fun y H2 => rCat (V.ref p) y H2 fun x H1 => sp_law_written [x, V.int b] H1 Q E0 := by
  refine ⟨sz_le (by simp), fun p hp0 => ⟨sz_le (by simp), fun r hr2 => ⟨r, _, _, rfl, rfl, upd_same, by omega, by omega, sz_le (by simp; omega), fun t ht => ?_⟩⟩⟩
  have pr : p ≠ r := ne_of_none upd_same hr2
  have pt : p ≠ t := ne_of_none (Ex.new hr2 _ _ upd_same) ht
  refine ⟨p, t, _, _, rfl, rfl, by rw [upd_ne pt, upd_ne pr, upd_same], upd_same, sz_le (by simp; omega), fun u hu => ⟨1 :: List.replicate k.toNat 0, ?_, b0, by omega, ?_, by simp; omega, by rw [List.length_cons, List.length_replicate]; exact hp, ?_⟩⟩
  · rw [upd_same, oneNoughts]
  · intro x hx
    rcases List.mem_cons.mp hx with rfl | hx
    · omega
    · rw [List.eq_of_mem_replicate hx]; omega
  rw [written_pow]
  exact q _ ((Ex.new hp0).trans ((Ex.new hr2).trans ((Ex.new ht).trans (Ex.new hu))))
def sp_law_sums_right : Sp
  | [.int n, .int b], H, Q, _ => 0 ≤ n ∧ n < 2 ^ 200 ∧ 2 ≤ b ∧ b < 2 ^ 100 ∧ ∀ H', Ex H H' → Q (.bl true) H'
  | _, _, _, _ => False
theorem ok_law_sums_right (T : Txt K mg a_is_integer a_is_number a_is_base a_figures_of a_number_of a_turned a_least a_greatest a_total a_many a_root a_figure a_first a_last a_joined a_mirrored a_unlike a_value a_law_deal a_law_draw a_law_pick a_law_base a_law_written a_law_number a_law_sums_right a_law_order_right a_law d_is_integer d_is_number d_is_base d_figures_of d_number_of d_turned d_least d_greatest d_total d_many d_root d_figure d_first d_last d_joined d_mirrored d_unlike d_value d_law_deal d_law_draw d_law_pick d_law_base d_law_written d_law_number d_law_sums_right d_law_order_right d_law) : FnOk P w K mg base CX0 6 a_law_sums_right d_law_sums_right ["_law_number_here", "_law_base_here"] sp_law_sums_right := by
  have G_total := ok_total (P := P) (w := w) (base := base) T
  have G_root := ok_root (P := P) (w := w) (base := base) T
  have G_turned := ok_turned (P := P) (w := w) (base := base) T
  have G_greatest := ok_greatest (P := P) (w := w) (base := base) T
  refine T.F_law_sums_right.ok sc_law_sums_right (fun vs H Q E h => ?_) (fun cdv A outer s H vs Q E hr h => ?_)
  · unfold sp_law_sums_right at h; split at h; rfl; exact h.elim
  unfold sp_law_sums_right at h; split at h
  case h_2 => exact h.elim
  rename_i n b
  obtain ⟨n0, n1, b0, b1, q⟩ := h
  refine ⟨_, (pss_cons (ps_par (i := 2) (j := 3) (by rfl) sc_law_sums_right.nd rfl rfl (by decide) rfl rfl (pa_cons (pe_call G_total (hr.mono (by decide)) (by rfl) T.g_total T.F_total.kp T.b_total .nil pass0 (pa_cons (pv 0) (pa_cons (pv 1) pa_nil))) (pa_cons (pe_call G_root (hr.mono (by decide)) (by rfl) T.g_root T.F_root.kp T.b_root .nil pass0 (pa_cons (pv 0) (pa_cons (pv 1) pa_nil))) pa_nil)) (by rfl))
      (pss_cons (ps_if (PW.pt (pw_or (pt_cmpR op_ne (pe_op op_mod (pe_callTy call_intM (by rfl) T.z_int (by decide +kernel) (pa_cons (pv 2) pa_nil)) (pe_op op_sub (pv 1) pe_int)) (pe_op op_mod (pe_callTy call_intM (by rfl) T.z_int (by decide +kernel) (pa_cons (pv 0) pa_nil)) (pe_op op_sub (pv 1) pe_int)) (nomark _)) (pw_or1 (pt_cmpR op_ne (pe_op op_mod (pe_callTy call_intM (by rfl) T.z_int (by decide +kernel) (pa_cons (pv 3) pa_nil)) (pe_op op_sub (pv 1) pe_int)) (pe_op op_mod (pe_callTy call_intM (by rfl) T.z_int (by decide +kernel) (pa_cons (pv 0) pa_nil)) (pe_op op_sub (pv 1) pe_int)) (nomark _)))))
      (pss_one (ps_ret pe_bl))
      pss_nil)
      (pss_cons (ps_if (PW.pt (pw_or (pt_not (pt_chain op_le op_lt pe_int (pv 3) (pv 1))) (pw_or1 (pt_cmpR op_ne (pe_cmpR op_eq (pv 3) pe_int (nomark _)) (pe_cmpR op_eq (pv 0) pe_int (nomark _)) (nomark _)))))
      (pss_one (ps_ret pe_bl))
      pss_nil)
      (pss_cons (ps_if (PW.pt (pw_or (PW.pt (pw_and (pt_cmpR op_eq (pv 3) pe_int (nomark _)) (pw_and1 (pt_cmpR op_gt (pv 0) pe_int (nomark _))))) (pw_or1 (pt_cmpR op_ne (pv 3) (pe_call G_root (hr.mono (by decide)) (by rfl) T.g_root T.F_root.kp T.b_root .nil pass0 (pa_cons (pv 2) (pa_cons (pv 1) pa_nil))) (nomark _)))))
      (pss_one (ps_ret pe_bl))
      pss_nil)
      (pss_one (ps_ret (pe_and (pe_cmpR op_eq (pe_call G_total (hr.mono (by decide)) (by rfl) T.g_total T.F_total.kp T.b_total .nil pass0 (pa_cons (pe_call G_turned (hr.mono (by decide)) (by rfl) T.g_turned T.F_turned.kp T.b_turned .nil pass0 (pa_cons (pv 0) (pa_cons (pv 1) pa_nil))) (pa_cons (pv 1) pa_nil))) (pv 2) (nomark _)) (pe_one (pe_cmpR op_eq (pe_call G_total (hr.mono (by decide)) (by rfl) T.g_total T.F_total.kp T.b_total .nil pass0 (pa_cons (pe_call G_greatest (hr.mono (by decide)) (by rfl) T.g_greatest T.F_greatest.kp T.b_greatest .nil pass0 (pa_cons (pv 0) (pa_cons (pv 1) pa_nil))) (pa_cons (pv 1) pa_nil))) (pv 2) (nomark _)))))))))), ?_⟩
  walk_at "st"
  walk_at "vc"
  have hs := sum_mod b0 n0
  obtain ⟨r1, r2, r3⟩ := root_ok b0 n0
  have r0 := (rootN_le b0 n0).1
  obtain ⟨s0, s1⟩ := figs_sum b0 n0
  obtain ⟨a0, a1⟩ := bd_about b0 b1 n0 n1
  obtain ⟨g0, g1⟩ := bd_high b0 b1 n0 n1
  refine ⟨n0, by omega, b0, b1, fun H1 e1 => ⟨n0, by omega, b0, b1, fun H2 e2 => ?_⟩⟩
  walk_at "vc"
  rw [if_neg (fun z => z hs)]
  refine ⟨by omega, by omega, ?_⟩
  rw [if_neg (fun z => z r3)]
  refine ⟨by omega, by omega, ?_⟩
  rw [if_pos r0, if_neg (fun z => z r1)]
  have hz : decide (rootN b n = 0) = decide (n = 0) := dec_iff ⟨fun z => by
    by_cases h : 0 < n
    · have := r2 h; omega
    · omega, fun z => by rw [z]; exact rootN_lt (by omega)⟩
  rw [if_neg (fun z => z hz)]
  have fin : ∀ H3, Ex H2 H3 → sp_root [.int (figs b n).sum, .int b] H3 (fun y H2 => scal (.int (rootN b n)) y = true ∧ if ¬ V.int (rootN b n) = y then Q (V.bl false) H2 else sp_turned [V.int n, V.int b] H2 (fun x_5 H1 => sp_total [x_5, V.int b] H1 (fun x_6 H1 => scal x_6 (.int (figs b n).sum) = true ∧ if x_6 = .int (figs b n).sum then sp_greatest [V.int n, V.int b] H1 (fun x_7 H1 => sp_total [x_7, V.int b] H1 (fun x_8 H1 => scal x_8 (.int (figs b n).sum) = true ∧ Q (V.bl (decide (x_8 = .int (figs b n).sum))) H1) E0) E0 else Q (V.bl false) H1) E0) E0) E0 := by
    intro H3 e3
    refine ⟨s0, by omega, b0, b1, fun H4 e4 => ⟨rfl, ?_⟩⟩
    rw [rootN_sum b0, if_neg (fun z => z rfl)]
    refine ⟨n0, by omega, b0, b1, fun H5 e5 => ⟨a0, a1, b0, b1, fun H6 e6 => ⟨rfl, ?_⟩⟩⟩
    rw [sum_about b0 n0, if_pos rfl]
    refine ⟨n0, by omega, b0, b1, fun H7 e7 => ⟨g0, g1, b0, b1, fun H8 e8 => ⟨rfl, ?_⟩⟩⟩
    rw [sum_high b0 n0, decide_eq_true rfl]
    exact q _ ((e1.trans e2).trans (e3.trans (e4.trans (e5.trans (e6.trans (e7.trans e8))))))
  refine ite2 (fun hc => ?_) (fun hc => fin _ (Ex.refl _))
  rw [if_neg (fun z => by have := r2 z; omega)]
  exact fin _ (Ex.refl _)
def I_bare (n b : Int) (H : Hp) (v3 v4 v5 : Option V) : Nat → L2.St → Hp → Prop := fun m σ H' => H' = H ∧ ∃ l : Int, σ = [some (.int n), some (.int b), v3, v4, v5, some (.int l), none] ∧ m = l.toNat ∧ 0 ≤ l ∧ l ≤ n ∧ bareN b l = bareN b n
def sp_law_order_right : Sp
  | [.int n, .int b], H, Q, _ => 0 ≤ n ∧ n < 2 ^ 200 ∧ 2 ≤ b ∧ b < 2 ^ 100 ∧ ∀ H', Ex H H' → Q (.bl true) H'
  | _, _, _, _ => False
theorem ok_law_order_right (T : Txt K mg a_is_integer a_is_number a_is_base a_figures_of a_number_of a_turned a_least a_greatest a_total a_many a_root a_figure a_first a_last a_joined a_mirrored a_unlike a_value a_law_deal a_law_draw a_law_pick a_law_base a_law_written a_law_number a_law_sums_right a_law_order_right a_law d_is_integer d_is_number d_is_base d_figures_of d_number_of d_turned d_least d_greatest d_total d_many d_root d_figure d_first d_last d_joined d_mirrored d_unlike d_value d_law_deal d_law_draw d_law_pick d_law_base d_law_written d_law_number d_law_sums_right d_law_order_right d_law) : FnOk P w K mg base CX0 6 a_law_order_right d_law_order_right ["_law_number_here", "_law_base_here"] sp_law_order_right := by
  have G_least := ok_least (P := P) (w := w) (base := base) T
  have G_greatest := ok_greatest (P := P) (w := w) (base := base) T
  have G_turned := ok_turned (P := P) (w := w) (base := base) T
  have G_mirrored := ok_mirrored (P := P) (w := w) (base := base) T
  have G_many := ok_many (P := P) (w := w) (base := base) T
  have G_unlike := ok_unlike (P := P) (w := w) (base := base) T
  have G_law_written := ok_law_written (P := P) (w := w) (base := base) T
  refine T.F_law_order_right.ok sc_law_order_right (fun vs H Q E h => ?_) (fun cdv A outer s H vs Q E hr h => ?_)
  · unfold sp_law_order_right at h; split at h; rfl; exact h.elim
  unfold sp_law_order_right at h; split at h
  case h_2 => exact h.elim
  rename_i n b
  obtain ⟨n0, n1, b0, b1, q⟩ := h
  refine ⟨_, (pss_cons (ps_par3 (i := 2) (j := 3) (l := 4) (by rfl) sc_law_order_right.nd rfl rfl rfl (by decide) (by decide) (by decide) rfl rfl rfl (pa_cons (pe_call G_least (hr.mono (by decide)) (by rfl) T.g_least T.F_least.kp T.b_least .nil pass0 (pa_cons (pv 0) (pa_cons (pv 1) pa_nil))) (pa_cons (pe_call G_greatest (hr.mono (by decide)) (by rfl) T.g_greatest T.F_greatest.kp T.b_greatest .nil pass0 (pa_cons (pv 0) (pa_cons (pv 1) pa_nil))) (pa_cons (pe_call G_turned (hr.mono (by decide)) (by rfl) T.g_turned T.F_turned.kp T.b_turned .nil pass0 (pa_cons (pv 0) (pa_cons (pv 1) pa_nil))) pa_nil))) (by rfl))
      (pss_cons (ps_if (PW.pt (pw_or (pt_not (pt_chain op_le op_le (pv 2) (pv 0) (pv 3))) (pw_or (pt_cmpR op_ne (pe_call G_turned (hr.mono (by decide)) (by rfl) T.g_turned T.F_turned.kp T.b_turned .nil pass0 (pa_cons (pv 3) (pa_cons (pv 1) pa_nil))) (pv 2) (nomark _)) (pw_or1 (pt_not (pt_chain op_le op_le (pv 2) (pv 4) (pv 3)))))))
      (pss_one (ps_ret pe_bl))
      pss_nil)
      (pss_cons (ps_set (i := 5) sc_law_order_right.nd rfl (by first | exact .inl rfl | exact .inr rfl) (pv 0))
      (Evl.pss_cut (ps_while PassesOwn.never (PW.pt (pw_and (pt_cmpR op_gt (pv 5) pe_int (nomark _)) (pw_and1 (pt_cmpR op_eq (pe_op op_mod (pe_callTy call_intM (by rfl) T.z_int (by decide +kernel) (pa_cons (pv 5) pa_nil)) (pv 1)) pe_int (nomark _)))))
      (pss_one (ps_set (i := 5) sc_law_order_right.nd rfl (by first | exact .inl rfl | exact .inr rfl) (pe_op op_fdivW (pv 5) (pv 1)))))
      (pss_cons (ps_if (PW.pt (pw_or (pt_cmpR op_ne (pe_call G_turned (hr.mono (by decide)) (by rfl) T.g_turned T.F_turned.kp T.b_turned .nil pass0 (pa_cons (pv 4) (pa_cons (pv 1) pa_nil))) (pv 5) (nomark _)) (pw_or1 (pt_cmpR op_ne (pe_call G_mirrored (hr.mono (by decide)) (by rfl) T.g_mirrored T.F_mirrored.kp T.b_mirrored .nil pass0 (pa_cons (pv 0) (pa_cons (pv 1) pa_nil))) (pe_cmpR op_eq (pv 4) (pv 0) (nomark _)) (nomark _)))))
      (pss_one (ps_ret pe_bl))
      pss_nil)
      (pss_cons (ps_set (i := 6) sc_law_order_right.nd rfl (by first | exact .inl rfl | exact .inr rfl) (pe_op op_sub (pe_call G_many (hr.mono (by decide)) (by rfl) T.g_many T.F_many.kp T.b_many .nil pass0 (pa_cons (pv 0) (pa_cons (pv 1) pa_nil))) (pe_call G_many (hr.mono (by decide)) (by rfl) T.g_many T.F_many.kp T.b_many .nil pass0 (pa_cons (pv 2) (pa_cons (pv 1) pa_nil)))))
      (pss_cons (ps_if (pt_cmpR op_ne (pe_call G_least (hr.mono (by decide)) (by rfl) T.g_least T.F_least.kp T.b_least .nil pass0 (pa_cons (pv 4) (pa_cons (pv 1) pa_nil))) (pv 2) (nomark _))
      (pss_one (ps_ret pe_bl))
      pss_nil)
      (pss_cons (ps_if (pt_cmpR op_ne (pe_op op_mulX (pe_call G_greatest (hr.mono (by decide)) (by rfl) T.g_greatest T.F_greatest.kp T.b_greatest .nil pass0 (pa_cons (pv 2) (pa_cons (pv 1) pa_nil))) (pe_call G_law_written (hr.mono (by decide)) (by rfl) T.g_law_written T.F_law_written.kp T.b_law_written .nil pass0 (pa_cons (pe_op op_cat (pe_lst (pa_cons pe_int pa_nil)) (pe_op op_rep (pe_lst (pa_cons pe_int pa_nil)) (pv 6))) (pa_cons (pv 1) pa_nil)))) (pv 3) (nomark _))
      (pss_one (ps_ret pe_bl))
      pss_nil)
      (pss_one (ps_ret (pe_cmpR op_eq (pe_call G_unlike (hr.mono (by decide)) (by rfl) T.g_unlike T.F_unlike.kp T.b_unlike .nil pass0 (pa_cons (pv 3) (pa_cons (pv 1) pa_nil))) (pe_call G_unlike (hr.mono (by decide)) (by rfl) T.g_unlike T.F_unlike.kp T.b_unlike .nil pass0 (pa_cons (pv 0) (pa_cons (pv 1) pa_nil))) (nomark _)))))))))))), ?_⟩
  walk_at "st"
  walk_at "vc"
  obtain ⟨a0, a1⟩ := bd_about b0 b1 n0 n1
  obtain ⟨g0, g1⟩ := bd_high b0 b1 n0 n1
  obtain ⟨l0, l1⟩ := bd_low b0 b1 n0 n1
  have wn := written_figs b0 n n0
  have pd : (digs b n).Perm (figs b n) := (List.reverse_perm _).symm
  have c1 := low_le b0 n0 (List.Perm.refl (figs b n))
  have c2 := le_high b0 n0 (List.Perm.refl (figs b n))
  have c3 := low_le b0 n0 pd
  have c4 := le_high b0 n0 pd
  rw [wn] at c1 c2
  refine ⟨n0, by omega, b0, b1, fun H1 e1 => ⟨n0, by omega, b0, b1, fun H2 e2 => ⟨n0, by omega, b0, b1, fun H3 e3 => ⟨_, rfl, ?_⟩⟩⟩⟩
  rw [if_pos c1]
  refine ⟨_, rfl, ?_⟩
  rw [if_neg (fun z => z c2)]
  refine ⟨g0, g1, b0, b1, fun H4 e4 => ⟨rfl, ?_⟩⟩
  rw [high_turned b0 n0, if_neg (fun z => z rfl)]
  refine ⟨_, rfl, _, rfl, ?_⟩
  rw [if_pos c3]
  refine ⟨_, rfl, _, rfl, ?_⟩
  rw [if_neg (fun z => z c4)]
  refine ⟨fun σ H' => H' = H4 ∧ σ = [some (.int n), some (.int b), some (.int (written b (asc (figs b n)))), some (.int (written b (asc (figs b n)).reverse)), some (.int (written b (digs b n))), some (.int (bareN b n)), none], ?_, fun σ H' hm => ?_⟩
  · refine ⟨I_bare n b H4 _ _ _, ⟨_, rfl, n, rfl, rfl, n0, Int.le_refl _, rfl⟩, fun m σ H' hw => ?_⟩
    obtain ⟨rfl, l, rfl, rfl, l0, l1, hl⟩ := hw
    walk_at "vc"
    refine ite2 (fun hc => ⟨by omega, ite2 (fun hd => ⟨_, fun _ _ hN => hN, divOk (by omega) (by omega), _, ?_, rfl, _, rfl, rfl, div_nn b0 l0, ?_, ?_⟩) (fun hd => ?_)⟩) (fun hc => ?_)
    · have := div_lt b0 hc
      have := div_nn b0 l0
      omega
    · have := div_lt b0 hc
      omega
    · rw [← bare_step b0 hc hd]; exact hl
    · rw [← hl]; exact (bare_end (fun z => hd z.2)).symm
    · rw [← hl]; exact (bare_end (fun z => hc z.1)).symm
  obtain ⟨rfl, rfl⟩ := hm
  walk_at "vc"
  refine ⟨a0, a1, b0, b1, fun H5 e5 => ⟨rfl, ?_⟩⟩
  rw [about_about b0 n0, if_neg (fun z => z rfl)]
  refine ⟨n0, by omega, b0, b1, fun H6 e6 => ?_⟩
  have hmir : decide (figs b n = (figs b n).reverse) = decide (written b (digs b n) = n) := dec_iff (mirror_iff b0 n0)
  obtain ⟨ll, lh⟩ := low_high b0 n0
  have hlen := figs_len b0 n0 (k := 200) n1
  have hpos := figs_pos b (written b (asc (figs b n)))
  have hp3 := pow200 b0 b1 n0 n1
  refine ⟨rfl, ?_⟩
  rw [hmir, if_neg (fun z => z rfl)]
  refine ⟨n0, by omega, b0, b1, fun H7 e7 => ⟨l0, l1, b0, b1, fun H8 e8 => ⟨_, rfl, _, rfl, a0, a1, b0, b1, fun H9 e9 => ⟨rfl, ?_⟩⟩⟩⟩
  rw [about_low b0 n0, if_neg (fun z => z rfl)]
  obtain ⟨h0, h1⟩ := bd_high b0 b1 l0 (show written b (asc (figs b n)) < 2 ^ 200 by omega)
  have hk1 : (((figs b n).length : Int) - ((figs b (written b (asc (figs b n)))).length : Int)).toNat = (figs b n).length - (figs b (written b (asc (figs b n)))).length := by omega
  have hk2 := pow_mono (b := b) (by omega) (show (figs b n).length - (figs b (written b (asc (figs b n)))).length + 1 ≤ (figs b n).length by omega)
  have hk3 := pow_mono (b := b) (by omega) (show (figs b n).length - (figs b (written b (asc (figs b n)))).length ≤ (figs b n).length by omega)
  have hk4 : (0 : Int) ≤ b ^ ((figs b n).length - (figs b (written b (asc (figs b n)))).length) := Int.pow_nonneg (by omega)
  refine ⟨l0, l1, b0, b1, fun H10 e10 => powList b0 b1 (by omega) (by omega) (by rw [hk1]; omega) fun H11 e11 => ⟨_, rfl, _, rfl, ?_⟩⟩
  rw [hk1]
  refine ⟨mulOk8 (by omega) (by omega) (by omega) (by omega), ?_⟩
  rw [lh, if_neg (fun z => z rfl)]
  refine ⟨g0, g1, b0, b1, fun H12 e12 => ⟨n0, by omega, b0, b1, fun H13 e13 => ⟨rfl, ?_⟩⟩⟩
  rw [show decide (List.Nodup (figs b (written b (asc (figs b n)).reverse))) = decide (List.Nodup (figs b n)) from dec_iff (high_unlike b0 n0), decide_eq_true rfl]
  exact q _ ((e1.trans (e2.trans (e3.trans e4))).trans (e5.trans (e6.trans (e7.trans (e8.trans (e9.trans (e10.trans (e11.trans (e12.trans e13)))))))))
def sp_law (K : PySem.W.Frag) : Sp := fun vs H Q _ => ∃ (a : Addr) (ns : List Int), vs = [.ref a] ∧ SqL K H a (ns.map V.int) ∧ ns.length ≤ 63 ∧ ∀ H', Q (.bl true) H'
def I_law (a d : Addr) : Nat → L2.St → Hp → Prop := fun i σ H' => ∃ L x2 x3 x4 x5 x6 x7 x8 x9 x10 x11, σ = [some (.ref a), some (.ref d), x2, x3, x4, x5, x6, x7, x8, x9, x10, x11] ∧ Deal d L H'
def C_sm (D : Addr) (b n : Int) (H : Hp) : Nat → Hp → Prop := fun i H' => ∃ ts : List Int, H' D = some (.lst (ts.map V.int)) ∧ ts.length = i ∧ ts.sum = written b ((figs b n).drop ((figs b n).length - i)) ∧ Ex H H'
theorem ok_law (T : Txt K mg a_is_integer a_is_number a_is_base a_figures_of a_number_of a_turned a_least a_greatest a_total a_many a_root a_figure a_first a_last a_joined a_mirrored a_unlike a_value a_law_deal a_law_draw a_law_pick a_law_base a_law_written a_law_number a_law_sums_right a_law_order_right a_law d_is_integer d_is_number d_is_base d_figures_of d_number_of d_turned d_least d_greatest d_total d_many d_root d_figure d_first d_last d_joined d_mirrored d_unlike d_value d_law_deal d_law_draw d_law_pick d_law_base d_law_written d_law_number d_law_sums_right d_law_order_right d_law) : FnOk P w K mg base CX0 8 a_law d_law ["_law_script"] (sp_law K) := by
  have G_law_deal := ok_law_deal (P := P) (w := w) (base := base) T
  have G_law_draw := ok_law_draw (P := P) (w := w) (base := base) T
  have G_law_base := ok_law_base (P := P) (w := w) (base := base) T
  have G_law_number := ok_law_number (P := P) (w := w) (base := base) T
  have G_law_written := ok_law_written (P := P) (w := w) (base := base) T
  have G_law_sums_right := ok_law_sums_right (P := P) (w := w) (base := base) T
  have G_law_order_right := ok_law_order_right (P := P) (w := w) (base := base) T
  have G_number_of := ok_number_of (P := P) (w := w) (base := base) T
  have G_figures_of := ok_figures_of (P := P) (w := w) (base := base) T
  have G_figure := ok_figure (P := P) (w := w) (base := base) T
  have G_first := ok_first (P := P) (w := w) (base := base) T
  have G_last := ok_last (P := P) (w := w) (base := base) T
  have G_joined := ok_joined (P := P) (w := w) (base := base) T
  have G_total := ok_total (P := P) (w := w) (base := base) T
  have G_many := ok_many (P := P) (w := w) (base := base) T
  refine T.F_law.ok sc_law (fun vs H Q E h => ?_) (fun cdv A outer s H vs Q E hr h => ?_)
  · obtain ⟨a, ns, rfl, _⟩ := h
    rfl
  · obtain ⟨a, ns, rfl, hS, hlen, q⟩ := h
    refine ⟨_, (pss_cons (ps_set (i := 1) sc_law.nd rfl (by first | exact .inl rfl | exact .inr rfl) (pe_call G_law_deal (hr.mono (by decide)) (by rfl) T.g_law_deal T.F_law_deal.kp T.b_law_deal .nil pass0 (pa_cons (pv 0) (pa_cons pe_int pa_nil))))
      (Evl.pss_cut (ps_for PassesOwn.never rfl (pi_range1 (by rfl) T.z_range (pa_cons pe_int pa_nil)) (pg_name (i := 2) sc_law.nd rfl (by first | exact .inl rfl | exact .inr rfl))
      (pss_cons (ps_set (i := 3) sc_law.nd rfl (by first | exact .inl rfl | exact .inr rfl) (pe_call G_law_base (hr.mono (by decide)) (by rfl) T.g_law_base T.F_law_base.kp T.b_law_base .nil pass0 (pa_cons (pv 1) pa_nil)))
      (pss_cons (ps_asg (pe_tup (pa_cons (pe_call G_law_number (hr.mono (by decide)) (by rfl) T.g_law_number T.F_law_number.kp T.b_law_number .nil pass0 (pa_cons (pv 1) (pa_cons (pv 3) pa_nil))) (pa_cons (pe_call G_law_number (hr.mono (by decide)) (by rfl) T.g_law_number T.F_law_number.kp T.b_law_number .nil pass0 (pa_cons (pv 1) (pa_cons (pv 3) pa_nil))) pa_nil))) (pg_tup rfl (pgs_cons (pg_name (i := 4) sc_law.nd rfl (by first | exact .inl rfl | exact .inr rfl)) (pgs_cons (pg_name (i := 5) sc_law.nd rfl (by first | exact .inl rfl | exact .inr rfl)) pgs_nil))))
      (pss_cons (ps_set (i := 6) sc_law.nd rfl (by first | exact .inl rfl | exact .inr rfl) (pe_call G_many (hr.mono (by decide)) (by rfl) T.g_many T.F_many.kp T.b_many .nil pass0 (pa_cons (pv 4) (pa_cons (pv 3) pa_nil))))
      (pss_cons (ps_set (i := 7) sc_law.nd rfl (by first | exact .inl rfl | exact .inr rfl) (pe_call G_law_draw (hr.mono (by decide)) (by rfl) T.g_law_draw T.F_law_draw.kp T.b_law_draw .nil pass0 (pa_cons (pv 1) (pa_cons (pe_op op_add (pv 6) pe_int) pa_nil))))
      (pss_cons (ps_if (pt_cmpR op_ne (pe_call G_number_of (hr.mono (by decide)) (by rfl) T.g_number_of T.F_number_of.kp T.b_number_of .nil pass0 (pa_cons (pe_call G_figures_of (hr.mono (by decide)) (by rfl) T.g_figures_of T.F_figures_of.kp T.b_figures_of .nil pass0 (pa_cons (pv 4) (pa_cons (pv 3) pa_nil))) (pa_cons (pv 3) pa_nil))) (pv 4) (nomark _))
      (pss_one (ps_ret pe_bl))
      pss_nil)
      (pss_cons (ps_if (pt_cmpR op_ne (pe_callB (cr_sum rfl) (by rfl) T.z_sum (by decide +kernel) (pa_cons (pe_lc (own := [("_law_at", 11)]) (g := gName 11) (by rfl) sc_law.nd (pi_range1 (by rfl) T.z_range (pa_cons (pv 6) pa_nil)) (blkOk_by (own := [("_law_at", 11)]) (N := N_law) (sc := defScope s_law) (by decide +kernel)) (fun _ _ _ _ _ => (pg_name (i := 11) sc_law.nd rfl (by first | exact .inl rfl | exact .inr rfl))) (fun _ _ _ _ _ => pts_nil) (fun _ _ _ _ _ => (pe_op op_mulX (pe_call G_figure (hr.mono (by decide)) (by rfl) T.g_figure T.F_figure.kp T.b_figure .nil pass0 (pa_cons (pv 4) (pa_cons (pv 11) (pa_cons (pv 3) pa_nil)))) (pe_call G_law_written (hr.mono (by decide)) (by rfl) T.g_law_written T.F_law_written.kp T.b_law_written .nil pass0 (pa_cons (pe_op op_cat (pe_lst (pa_cons pe_int pa_nil)) (pe_op op_rep (pe_lst (pa_cons pe_int pa_nil)) (pv 11))) (pa_cons (pv 3) pa_nil)))))) pa_nil)) (pv 4) (nomark _))
      (pss_one (ps_ret pe_bl))
      pss_nil)
      (pss_cons (ps_par (i := 8) (j := 9) (by rfl) sc_law.nd rfl rfl (by decide) rfl rfl (pa_cons (pe_call G_first (hr.mono (by decide)) (by rfl) T.g_first T.F_first.kp T.b_first .nil pass0 (pa_cons (pv 4) (pa_cons (pe_op op_sub (pv 6) (pv 7)) (pa_cons (pv 3) pa_nil)))) (pa_cons (pe_call G_last (hr.mono (by decide)) (by rfl) T.g_last T.F_last.kp T.b_last .nil pass0 (pa_cons (pv 4) (pa_cons (pv 7) (pa_cons (pv 3) pa_nil)))) pa_nil)) (by rfl))
      (pss_cons (ps_if (pt_cmpR op_ne (pe_op op_add (pe_op op_mulX (pv 8) (pe_call G_law_written (hr.mono (by decide)) (by rfl) T.g_law_written T.F_law_written.kp T.b_law_written .nil pass0 (pa_cons (pe_op op_cat (pe_lst (pa_cons pe_int pa_nil)) (pe_op op_rep (pe_lst (pa_cons pe_int pa_nil)) (pv 7))) (pa_cons (pv 3) pa_nil)))) (pv 9)) (pv 4) (nomark _))
      (pss_one (ps_ret pe_bl))
      pss_nil)
      (Evl.pss_cut (ps_if (PW.pt (pw_and (pt_chain op_lt op_lt pe_int (pv 7) (pv 6)) (pw_and (pt_cmpR op_eq (pe_call G_many (hr.mono (by decide)) (by rfl) T.g_many T.F_many.kp T.b_many .nil pass0 (pa_cons (pv 9) (pa_cons (pv 3) pa_nil))) (pv 7) (nomark _)) (pw_and1 (pt_cmpR op_ne (pe_call G_joined (hr.mono (by decide)) (by rfl) T.g_joined T.F_joined.kp T.b_joined .nil pass0 (pa_cons (pv 8) (pa_cons (pv 9) (pa_cons (pv 3) pa_nil)))) (pv 4) (nomark _))))))
      (pss_one (ps_ret pe_bl))
      pss_nil)
      (pss_cons (ps_if (PW.pt (pw_or (pt_not (pt_val (pe_call G_law_sums_right (hr.mono (by decide)) (by rfl) T.g_law_sums_right T.F_law_sums_right.kp T.b_law_sums_right .nil pass0 (pa_cons (pv 4) (pa_cons (pv 3) pa_nil))))) (pw_or1 (pt_not (pt_val (pe_call G_law_order_right (hr.mono (by decide)) (by rfl) T.g_law_order_right T.F_law_order_right.kp T.b_law_order_right .nil pass0 (pa_cons (pv 4) (pa_cons (pv 3) pa_nil))))))))
      (pss_one (ps_ret pe_bl))
      pss_nil)
      (pss_cons (ps_set (i := 4) sc_law.nd rfl (by first | exact .inl rfl | exact .inr rfl) (pe_call G_first (hr.mono (by decide)) (by rfl) T.g_first T.F_first.kp T.b_first .nil pass0 (pa_cons (pv 4) (pa_cons (pe_callB (call_maxM rfl) (by rfl) T.z_max (by decide +kernel) (pa_cons pe_int (pa_cons (pe_op op_fdivW (pv 6) pe_int) pa_nil))) (pa_cons (pv 3) pa_nil)))))
      (pss_cons (ps_set (i := 5) sc_law.nd rfl (by first | exact .inl rfl | exact .inr rfl) (pe_call G_first (hr.mono (by decide)) (by rfl) T.g_first T.F_first.kp T.b_first .nil pass0 (pa_cons (pv 5) (pa_cons (pe_callB (call_maxM rfl) (by rfl) T.z_max (by decide +kernel) (pa_cons pe_int (pa_cons (pe_op op_fdivW (pe_call G_many (hr.mono (by decide)) (by rfl) T.g_many T.F_many.kp T.b_many .nil pass0 (pa_cons (pv 5) (pa_cons (pv 3) pa_nil))) pe_int) pa_nil))) (pa_cons (pv 3) pa_nil)))))
      (pss_cons (ps_par (i := 10) (j := 6) (by rfl) sc_law.nd rfl rfl (by decide) rfl rfl (pa_cons (pe_call G_joined (hr.mono (by decide)) (by rfl) T.g_joined T.F_joined.kp T.b_joined .nil pass0 (pa_cons (pv 4) (pa_cons (pv 5) (pa_cons (pv 3) pa_nil)))) (pa_cons (pe_call G_many (hr.mono (by decide)) (by rfl) T.g_many T.F_many.kp T.b_many .nil pass0 (pa_cons (pv 4) (pa_cons (pv 3) pa_nil))) pa_nil)) (by rfl))
      (pss_cons (ps_if (pt_cmpR op_ne (pe_call G_total (hr.mono (by decide)) (by rfl) T.g_total T.F_total.kp T.b_total .nil pass0 (pa_cons (pv 10) (pa_cons (pv 3) pa_nil))) (pe_op op_add (pe_call G_total (hr.mono (by decide)) (by rfl) T.g_total T.F_total.kp T.b_total .nil pass0 (pa_cons (pv 4) (pa_cons (pv 3) pa_nil))) (pe_call G_total (hr.mono (by decide)) (by rfl) T.g_total T.F_total.kp T.b_total .nil pass0 (pa_cons (pv 5) (pa_cons (pv 3) pa_nil)))) (nomark _))
      (pss_one (ps_ret pe_bl))
      pss_nil)
      (pss_cons (ps_if (pt_cmpR op_ne (pe_call G_many (hr.mono (by decide)) (by rfl) T.g_many T.F_many.kp T.b_many .nil pass0 (pa_cons (pv 10) (pa_cons (pv 3) pa_nil))) (pe_op op_add (pe_op op_mulX (pe_call G_many (hr.mono (by decide)) (by rfl) T.g_many T.F_many.kp T.b_many .nil pass0 (pa_cons (pv 4) (pa_cons (pv 3) pa_nil))) (pe_callTy call_intM (by rfl) T.z_int (by decide +kernel) (pa_cons (pe_cmpR op_gt (pv 4) pe_int (nomark _)) pa_nil))) (pe_call G_many (hr.mono (by decide)) (by rfl) T.g_many T.F_many.kp T.b_many .nil pass0 (pa_cons (pv 5) (pa_cons (pv 3) pa_nil)))) (nomark _))
      (pss_one (ps_ret pe_bl))
      pss_nil)
      (pss_one (ps_if (PW.pt (pw_or (pt_cmpR op_ne (pe_call G_last (hr.mono (by decide)) (by rfl) T.g_last T.F_last.kp T.b_last .nil pass0 (pa_cons (pv 10) (pa_cons (pe_call G_many (hr.mono (by decide)) (by rfl) T.g_many T.F_many.kp T.b_many .nil pass0 (pa_cons (pv 5) (pa_cons (pv 3) pa_nil))) (pa_cons (pv 3) pa_nil)))) (pv 5) (nomark _)) (pw_or1 (PW.pt (pw_and (pt_cmpR op_ne (pe_call G_first (hr.mono (by decide)) (by rfl) T.g_first T.F_first.kp T.b_first .nil pass0 (pa_cons (pv 10) (pa_cons (pv 6) (pa_cons (pv 3) pa_nil)))) (pv 4) (nomark _)) (pw_and1 (pt_cmpR op_gt (pv 4) pe_int (nomark _))))))))
      (pss_one (ps_ret pe_bl))
      pss_nil))))))))))))))))))
      (pss_one (ps_ret pe_bl)))), ?_⟩
    walk_at "st"
    walk_at "vc"
    refine ⟨ns, hS, hlen, by decide, by decide, fun d L H1 e1 D => ⟨fun σ H' => True, ?_, fun σ H' _ => ?_⟩⟩
    rotate_left
    · walk_at "vc"
      exact q _
    refine ⟨_, rfl, by decide, by decide, for_range (lo := 0) (n := 8) (I_law a d) ⟨L, _, _, _, _, _, _, _, _, _, _, rfl, D⟩ (fun i σ H' hi hw => ?_) (fun σ H' hw => trivial)⟩
    obtain ⟨L, x2, x3, x4, x5, x6, x7, x8, x9, x10, x11, rfl, D⟩ := hw
    walk_at "vc"
    refine ⟨L, D, fun b H2 b0 b1 M2 => ⟨L, M2.dl, b0, b1, fun n H3 n0 n1 M3 => ⟨L, M3.dl, b0, b1, fun o H4 o0 o1 M4 => ⟨sz_le (by simp), fun p hp => ⟨p, _, rfl, st_of upd_same, rfl, ?_⟩⟩⟩⟩⟩
    have b2 : b < 2 ^ 100 := by omega
    have D4 := M4.dl.ex (Ex.new hp (o := .tup [.int n, .int o]))
    generalize upd H4 p (.tup [.int n, .int o]) = H5 at *
    simp only [gCons, gNil]
    walk_at "vc"
    have hlen := figs_len b0 n0 (k := 200) n1
    have hpos := figs_pos b n
    obtain ⟨p1, p2, p3⟩ := part_ok7 n0 (show n < 2 ^ 300 by omega) b0 b2 (xs := figs b n) (fun x hx => hx) (Nat.le_refl _)
    refine ⟨n0, by omega, b0, b2, fun H6 e6 => ⟨_, rfl, L, D4.ex e6, by omega, by omega, fun k H7 k0 k1 M7 => ⟨n0, by omega, b0, b2, fun r H8 hr8 e8 h8 => ⟨_, .inl h8, figs_ne b n, b0, by omega, p1, p2, p3, fun H9 e9 => ⟨rfl, ?_⟩⟩⟩⟩⟩
    rw [written_figs b0 n n0, if_neg (fun z => z rfl)]
    refine ⟨_, rfl, _, rfl, by omega, by omega, fun D0 hD => lc_range (lo := 0) (n := (figs b n).length) (C_sm D0 b n H9) ⟨[], upd_same, rfl, ?_, Ex.new hD⟩ (fun j H' hj c => ?_) (fun H10 c => ?_)⟩
    · rw [Nat.sub_zero, List.drop_length]; rfl
    · obtain ⟨ts, t1, t2, t3, t4⟩ := c
      walk_at "vc"
      have ej : (0 + (j : Int)).toNat = j := by omega
      obtain ⟨f0, f1⟩ := fig_bd b0 n0 j
      have hp3 := pow200 b0 b2 n0 n1
      have pj := pow_mono (b := b) (by omega) (show j ≤ (figs b n).length by omega)
      have pj0 : (0 : Int) ≤ b ^ j := Int.pow_nonneg (by omega)
      refine ⟨n0, by omega, by omega, b0, b2, fun H11 e11 => powList b0 b2 (by omega) (by omega) (by rw [ej]; exact pow_bd b0 b2 (by omega) hp3) fun H12 e12 => ⟨_, rfl, _, rfl, ?_⟩⟩
      rw [ej]
      refine ⟨mulOk8 (by omega) (by omega) (by omega) (by omega), _, (e11.trans e12) _ _ t1, sz_lt (by simp; omega), ts ++ [figAt b n j * b ^ j], by rw [upd_same, List.map_append]; rfl, by simp [t2], ?_, (t4.trans (e11.trans e12)).mut hD⟩
      rw [List.sum_append, t3, List.sum_singleton, fig_term hj]
      omega
    obtain ⟨ts, t1, t2, t3, t4⟩ := c
    rw [Nat.sub_self, List.drop_zero, written_figs b0 n n0] at t3
    have hk0 : k.toNat ≤ (figs b n).length := by omega
    have hkk : (((figs b n).length : Int) - k).toNat = (figs b n).length - k.toNat := by omega
    have hp3 := pow200 b0 b2 n0 n1
    have pk := pow_mono (b := b) (by omega) hk0
    have pk0 : (0 : Int) ≤ b ^ k.toNat := Int.pow_nonneg (by omega)
    have hpart := part_figs b0 n0 hk0
    obtain ⟨u0, u1⟩ := bd200 b0 b2 n0 n1 (l := (figs b n).take ((figs b n).length - k.toNat)) (fun x hx => figs_mem b0 n0 x (List.mem_of_mem_take hx)) (by rw [List.length_take]; omega)
    obtain ⟨v0, v1⟩ := bd200 b0 b2 n0 n1 (l := (figs b n).drop ((figs b n).length - k.toNat)) (fun x hx => figs_mem b0 n0 x (List.mem_of_mem_drop hx)) (by rw [List.length_drop]; omega)
    have hjoin := join_parts b0 n0 hk0
    refine ⟨D0, ts, rfl, sq_of t1, rfl, ?_⟩
    rw [t3, if_neg (fun z => z rfl)]
    refine ⟨_, rfl, _, rfl, n0, by omega, by omega, b0, b2, fun H11 e11 => ⟨n0, by omega, k0, b0, b2, fun H12 e12 => powList b0 b2 k0 (by omega) (pow_bd b0 b2 (by omega) hp3) fun H13 e13 => ⟨_, rfl, _, rfl, ?_⟩⟩⟩
    rw [hkk]
    refine ⟨mulOk8 (by omega) (by omega) (by omega) (by omega), _, rfl, ?_⟩
    rw [hpart, if_neg (fun z => z rfl)]
    generalize hhd : written b ((figs b n).take ((figs b n).length - k.toNat)) = hd at *
    generalize htl : written b ((figs b n).drop ((figs b n).length - k.toNat)) = tl at *
    have D7 : Deal d L H13 := (((M7.dl.ex e8).ex e9).ex t4).ex (e11.trans (e12.trans e13))
    refine ⟨fun σ H' => σ = [some (.ref a), some (.ref d), some (.int (0 + (i : Int))), some (.int b), some (.int n), some (.int o), some (.int (figs b n).length), some (.int k), some (.int hd), some (.int tl), x10, x11] ∧ Deal d L H', ?_, fun σ H' hm => ?_⟩
    · walk_at "vc"
      refine ite2 (fun hc => ite2 (fun hc2 => ⟨v0, v1, b0, b2, fun H14 e14 => ⟨rfl, ite2 (fun he => ⟨u0, u1, v0, v1, b0, b2, fun H15 e15 => ⟨rfl, ?_⟩⟩) (fun _ => D7.ex e14)⟩⟩) (fun _ => D7)) (fun _ => D7)
      rw [hjoin (by have := V.int.inj he; omega), if_neg (fun z => z rfl)]
      exact (D7.ex e14).ex e15
    obtain ⟨rfl, D⟩ := hm
    clear hpart hjoin u0 u1 v0 v1 hhd htl t1 t2 t3 t4 e11 e12 e13 e9 e8 h8 D7 M7
    walk_at "vc"
    refine ⟨n0, n1, b0, b2, fun H14 e14 => ?_⟩
    walk_at "vc"
    refine ⟨n0, n1, b0, b2, fun H15 e15 => ?_⟩
    walk_at "vc"
    have len2 := figs_len b0 o0 (k := 200) o1
    obtain ⟨ha, hb⟩ := half_c (figs b n).length
    obtain ⟨hc, hf⟩ := half_c (figs b o).length
    obtain ⟨s0, s1, s2⟩ := half_bd b0 b2 n0 n1 ha hb
    obtain ⟨t0, t1, t2⟩ := half_bd b0 b2 o0 o1 hc hf
    refine ⟨divOk (by omega) (by omega), n0, by omega, half_nn, b0, b2, fun H16 e16 => ?_⟩
    rw [half_k]
    refine ⟨o0, by omega, b0, b2, fun H17 e17 => ⟨_, rfl, divOk (by omega) (by omega), o0, by omega, half_nn, b0, b2, fun H18 e18 => ?_⟩⟩
    rw [half_k]
    generalize written b ((figs b n).take (if (figs b n).length / 2 > 1 then (figs b n).length / 2 else 1)) = n' at *
    generalize written b ((figs b o).take (if (figs b o).length / 2 > 1 then (figs b o).length / 2 else 1)) = o' at *
    obtain ⟨w0, w1⟩ := whole_bd b0 s0 s1 t0 t2
    have len3 := figs_len b0 s0 (k := 150) s1
    have hsum := join_sum b0 s0 t0
    have hmany := many_whole b0 s0 t0
    have hlast := last_whole b0 s0 t0
    have hfirst := fun h => first_whole (n := n') b0 h t0
    refine ⟨s0, by omega, t0, by omega, b0, b2, fun H19 e19 => ⟨s0, by omega, b0, b2, fun H20 e20 => ⟨w0, w1, b0, b2, fun H21 e21 => ⟨s0, by omega, b0, b2, fun H22 e22 => ⟨t0, by omega, b0, b2, fun H23 e23 => ⟨_, rfl, _, rfl, rfl, ?_⟩⟩⟩⟩⟩⟩
    rw [hsum, if_neg (fun z => z rfl)]
    refine ⟨w0, w1, b0, b2, fun H24 e24 => ⟨s0, by omega, b0, b2, fun H25 e25 => ⟨_, rfl, _, rfl, mulOk8 (by omega) (by omega) (by split <;> omega) (by split <;> omega), t0, by omega, b0, b2, fun H26 e26 => ⟨_, rfl, rfl, ?_⟩⟩⟩⟩
    rw [hmany, if_neg (fun z => z rfl)]
    refine ⟨t0, by omega, b0, b2, fun H27 e27 => ?_⟩
    walk_at "vc"
    refine ⟨w0, w1, by omega, b0, b2, fun H28 e28 => ⟨rfl, ?_⟩⟩
    rw [Int.toNat_natCast, hlast, if_neg (fun z => z rfl)]
    refine ⟨w0, w1, by omega, b0, b2, fun H29 e29 => ⟨rfl, ?_⟩⟩
    rw [Int.toNat_natCast]
    have fin : I_law a d (i + 1) [some (V.ref a), some (V.ref d), some (V.int (0 + (i : Int))), some (V.int b), some (V.int n'), some (V.int o'), some (V.int ((figs b n').length : Int)), some (V.int k), some (V.int hd), some (V.int tl), some (V.int (written b (figs b n' ++ figs b o'))), x11] H29 := ⟨L, _, _, _, _, _, _, _, _, _, _, rfl, ((((D.ex (e14.trans e15)).ex (e16.trans (e17.trans e18))).ex (e19.trans (e20.trans (e21.trans (e22.trans e23))))).ex (e24.trans (e25.trans e26))).ex (e27.trans (e28.trans e29))⟩
    exact ite2 (fun hq => ite2 (fun z => absurd (by rw [hfirst z]) hq) (fun _ => fin)) (fun _ => fin)
end
theorem all_mk {l : PySem.W.OpenLaw} {w : World} {K : PySem.W.Frag} {h : Heap} {mg : Str → Option Value} {fa : Addr} {a_is_integer a_is_number a_is_base a_figures_of a_number_of a_turned a_least a_greatest a_total a_many a_root a_figure a_first a_last a_joined a_mirrored a_unlike a_value a_law_deal a_law_draw a_law_pick a_law_base a_law_written a_law_number a_law_sums_right a_law_order_right a_law : Addr} (X : K.In h) (G : h.Ns mainGlobals mg) (hfa : mg "law" = some (.ref fa))
    {od_is_integer an_is_integer : Option Addr} {sl_is_integer : Array (Option Value)} {oc_is_integer kV_is_integer dc_is_integer pm_is_integer cd_is_integer ct_is_integer : Value}
    (ais_integer : PySem.W.nsIn K mainGlobals "is_integer" = some (some (.ref a_is_integer)))
    (lis_integer : K.lookup a_is_integer = some ⟨oc_is_integer, od_is_integer, .func (PySem.W.fnOf "is_integer" "is_integer" (defArgs s_is_integer) (defBody s_is_integer) (defScope s_is_integer) .none kV_is_integer dc_is_integer pm_is_integer an_is_integer cd_is_integer ct_is_integer), sl_is_integer⟩) (cis_integer : PySem.W.codeIn K cd_is_integer "is_integer" = true) (kis_integer : PySem.W.keepIn K (.ref a_is_integer) = true)
    {od_is_number an_is_number : Option Addr} {sl_is_number : Array (Option Value)} {oc_is_number kV_is_number dc_is_number pm_is_number cd_is_number ct_is_number : Value}
    (ais_number : PySem.W.nsIn K mainGlobals "is_number" = some (some (.ref a_is_number)))
    (lis_number : K.lookup a_is_number = some ⟨oc_is_number, od_is_number, .func (PySem.W.fnOf "is_number" "is_number" (defArgs s_is_number) (defBody s_is_number) (defScope s_is_number) .none kV_is_number dc_is_number pm_is_number an_is_number cd_is_number ct_is_number), sl_is_number⟩) (cis_number : PySem.W.codeIn K cd_is_number "is_number" = true) (kis_number : PySem.W.keepIn K (.ref a_is_number) = true)
    {od_is_base an_is_base : Option Addr} {sl_is_base : Array (Option Value)} {oc_is_base kV_is_base dc_is_base pm_is_base cd_is_base ct_is_base : Value}
    (ais_base : PySem.W.nsIn K mainGlobals "is_base" = some (some (.ref a_is_base)))
    (lis_base : K.lookup a_is_base = some ⟨oc_is_base, od_is_base, .func (PySem.W.fnOf "is_base" "is_base" (defArgs s_is_base) (defBody s_is_base) (defScope s_is_base) .none kV_is_base dc_is_base pm_is_base an_is_base cd_is_base ct_is_base), sl_is_base⟩) (cis_base : PySem.W.codeIn K cd_is_base "is_base" = true) (kis_base : PySem.W.keepIn K (.ref a_is_base) = true)
    {od_figures_of an_figures_of : Option Addr} {sl_figures_of : Array (Option Value)} {oc_figures_of kV_figures_of dc_figures_of pm_figures_of cd_figures_of ct_figures_of : Value}
    (afigures_of : PySem.W.nsIn K mainGlobals "figures_of" = some (some (.ref a_figures_of)))
    (lfigures_of : K.lookup a_figures_of = some ⟨oc_figures_of, od_figures_of, .func (PySem.W.fnOf "figures_of" "figures_of" (defArgs s_figures_of) (defBody s_figures_of) (defScope s_figures_of) .none kV_figures_of dc_figures_of pm_figures_of an_figures_of cd_figures_of ct_figures_of), sl_figures_of⟩) (cfigures_of : PySem.W.codeIn K cd_figures_of "figures_of" = true) (kfigures_of : PySem.W.keepIn K (.ref a_figures_of) = true)
    {od_number_of an_number_of : Option Addr} {sl_number_of : Array (Option Value)} {oc_number_of kV_number_of dc_number_of pm_number_of cd_number_of ct_number_of : Value}
    (anumber_of : PySem.W.nsIn K mainGlobals "number_of" = some (some (.ref a_number_of)))
    (lnumber_of : K.lookup a_number_of = some ⟨oc_number_of, od_number_of, .func (PySem.W.fnOf "number_of" "number_of" (defArgs s_number_of) (defBody s_number_of) (defScope s_number_of) .none kV_number_of dc_number_of pm_number_of an_number_of cd_number_of ct_number_of), sl_number_of⟩) (cnumber_of : PySem.W.codeIn K cd_number_of "number_of" = true) (knumber_of : PySem.W.keepIn K (.ref a_number_of) = true)
    {od_turned an_turned : Option Addr} {sl_turned : Array (Option Value)} {oc_turned kV_turned dc_turned pm_turned cd_turned ct_turned : Value}
    (aturned : PySem.W.nsIn K mainGlobals "turned" = some (some (.ref a_turned)))
    (lturned : K.lookup a_turned = some ⟨oc_turned, od_turned, .func (PySem.W.fnOf "turned" "turned" (defArgs s_turned) (defBody s_turned) (defScope s_turned) .none kV_turned dc_turned pm_turned an_turned cd_turned ct_turned), sl_turned⟩) (cturned : PySem.W.codeIn K cd_turned "turned" = true) (kturned : PySem.W.keepIn K (.ref a_turned) = true)
    {od_least an_least : Option Addr} {sl_least : Array (Option Value)} {oc_least kV_least dc_least pm_least cd_least ct_least : Value}
    (aleast : PySem.W.nsIn K mainGlobals "least" = some (some (.ref a_least)))
    (lleast : K.lookup a_least = some ⟨oc_least, od_least, .func (PySem.W.fnOf "least" "least" (defArgs s_least) (defBody s_least) (defScope s_least) .none kV_least dc_least pm_least an_least cd_least ct_least), sl_least⟩) (cleast : PySem.W.codeIn K cd_least "least" = true) (kleast : PySem.W.keepIn K (.ref a_least) = true)
    {od_greatest an_greatest : Option Addr} {sl_greatest : Array (Option Value)} {oc_greatest kV_greatest dc_greatest pm_greatest cd_greatest ct_greatest : Value}
    (agreatest : PySem.W.nsIn K mainGlobals "greatest" = some (some (.ref a_greatest)))
    (lgreatest : K.lookup a_greatest = some ⟨oc_greatest, od_greatest, .func (PySem.W.fnOf "greatest" "greatest" (defArgs s_greatest) (defBody s_greatest) (defScope s_greatest) .none kV_greatest dc_greatest pm_greatest an_greatest cd_greatest ct_greatest), sl_greatest⟩) (cgreatest : PySem.W.codeIn K cd_greatest "greatest" = true) (kgreatest : PySem.W.keepIn K (.ref a_greatest) = true)
    {od_total an_total : Option Addr} {sl_total : Array (Option Value)} {oc_total kV_total dc_total pm_total cd_total ct_total : Value}
    (atotal : PySem.W.nsIn K mainGlobals "total" = some (some (.ref a_total)))
    (ltotal : K.lookup a_total = some ⟨oc_total, od_total, .func (PySem.W.fnOf "total" "total" (defArgs s_total) (defBody s_total) (defScope s_total) .none kV_total dc_total pm_total an_total cd_total ct_total), sl_total⟩) (ctotal : PySem.W.codeIn K cd_total "total" = true) (ktotal : PySem.W.keepIn K (.ref a_total) = true)
    {od_many an_many : Option Addr} {sl_many : Array (Option Value)} {oc_many kV_many dc_many pm_many cd_many ct_many : Value}
    (amany : PySem.W.nsIn K mainGlobals "many" = some (some (.ref a_many)))
    (lmany : K.lookup a_many = some ⟨oc_many, od_many, .func (PySem.W.fnOf "many" "many" (defArgs s_many) (defBody s_many) (defScope s_many) .none kV_many dc_many pm_many an_many cd_many ct_many), sl_many⟩) (cmany : PySem.W.codeIn K cd_many "many" = true) (kmany : PySem.W.keepIn K (.ref a_many) = true)
    {od_root an_root : Option Addr} {sl_root : Array (Option Value)} {oc_root kV_root dc_root pm_root cd_root ct_root : Value}
    (aroot : PySem.W.nsIn K mainGlobals "root" = some (some (.ref a_root)))
    (lroot : K.lookup a_root = some ⟨oc_root, od_root, .func (PySem.W.fnOf "root" "root" (defArgs s_root) (defBody s_root) (defScope s_root) .none kV_root dc_root pm_root an_root cd_root ct_root), sl_root⟩) (croot : PySem.W.codeIn K cd_root "root" = true) (kroot : PySem.W.keepIn K (.ref a_root) = true)
    {od_figure an_figure : Option Addr} {sl_figure : Array (Option Value)} {oc_figure kV_figure dc_figure pm_figure cd_figure ct_figure : Value}
    (afigure : PySem.W.nsIn K mainGlobals "figure" = some (some (.ref a_figure)))
    (lfigure : K.lookup a_figure = some ⟨oc_figure, od_figure, .func (PySem.W.fnOf "figure" "figure" (defArgs s_figure) (defBody s_figure) (defScope s_figure) .none kV_figure dc_figure pm_figure an_figure cd_figure ct_figure), sl_figure⟩) (cfigure : PySem.W.codeIn K cd_figure "figure" = true) (kfigure : PySem.W.keepIn K (.ref a_figure) = true)
    {od_first an_first : Option Addr} {sl_first : Array (Option Value)} {oc_first kV_first dc_first pm_first cd_first ct_first : Value}
    (afirst : PySem.W.nsIn K mainGlobals "first" = some (some (.ref a_first)))
    (lfirst : K.lookup a_first = some ⟨oc_first, od_first, .func (PySem.W.fnOf "first" "first" (defArgs s_first) (defBody s_first) (defScope s_first) .none kV_first dc_first pm_first an_first cd_first ct_first), sl_first⟩) (cfirst : PySem.W.codeIn K cd_first "first" = true) (kfirst : PySem.W.keepIn K (.ref a_first) = true)
    {od_last an_last : Option Addr} {sl_last : Array (Option Value)} {oc_last kV_last dc_last pm_last cd_last ct_last : Value}
    (alast : PySem.W.nsIn K mainGlobals "last" = some (some (.ref a_last)))
    (llast : K.lookup a_last = some ⟨oc_last, od_last, .func (PySem.W.fnOf "last" "last" (defArgs s_last) (defBody s_last) (defScope s_last) .none kV_last dc_last pm_last an_last cd_last ct_last), sl_last⟩) (clast : PySem.W.codeIn K cd_last "last" = true) (klast : PySem.W.keepIn K (.ref a_last) = true)
    {od_joined an_joined : Option Addr} {sl_joined : Array (Option Value)} {oc_joined kV_joined dc_joined pm_joined cd_joined ct_joined : Value}
    (ajoined : PySem.W.nsIn K mainGlobals "joined" = some (some (.ref a_joined)))
    (ljoined : K.lookup a_joined = some ⟨oc_joined, od_joined, .func (PySem.W.fnOf "joined" "joined" (defArgs s_joined) (defBody s_joined) (defScope s_joined) .none kV_joined dc_joined pm_joined an_joined cd_joined ct_joined), sl_joined⟩) (cjoined : PySem.W.codeIn K cd_joined "joined" = true) (kjoined : PySem.W.keepIn K (.ref a_joined) = true)
    {od_mirrored an_mirrored : Option Addr} {sl_mirrored : Array (Option Value)} {oc_mirrored kV_mirrored dc_mirrored pm_mirrored cd_mirrored ct_mirrored : Value}
    (amirrored : PySem.W.nsIn K mainGlobals "mirrored" = some (some (.ref a_mirrored)))
    (lmirrored : K.lookup a_mirrored = some ⟨oc_mirrored, od_mirrored, .func (PySem.W.fnOf "mirrored" "mirrored" (defArgs s_mirrored) (defBody s_mirrored) (defScope s_mirrored) .none kV_mirrored dc_mirrored pm_mirrored an_mirrored cd_mirrored ct_mirrored), sl_mirrored⟩) (cmirrored : PySem.W.codeIn K cd_mirrored "mirrored" = true) (kmirrored : PySem.W.keepIn K (.ref a_mirrored) = true)
    {od_unlike an_unlike : Option Addr} {sl_unlike : Array (Option Value)} {oc_unlike kV_unlike dc_unlike pm_unlike cd_unlike ct_unlike : Value}
    (aunlike : PySem.W.nsIn K mainGlobals "unlike" = some (some (.ref a_unlike)))
    (lunlike : K.lookup a_unlike = some ⟨oc_unlike, od_unlike, .func (PySem.W.fnOf "unlike" "unlike" (defArgs s_unlike) (defBody s_unlike) (defScope s_unlike) .none kV_unlike dc_unlike pm_unlike an_unlike cd_unlike ct_unlike), sl_unlike⟩) (cunlike : PySem.W.codeIn K cd_unlike "unlike" = true) (kunlike : PySem.W.keepIn K (.ref a_unlike) = true)
    {od_value an_value : Option Addr} {sl_value : Array (Option Value)} {oc_value kV_value dc_value pm_value cd_value ct_value : Value}
    (avalue : PySem.W.nsIn K mainGlobals "_value" = some (some (.ref a_value)))
    (lvalue : K.lookup a_value = some ⟨oc_value, od_value, .func (PySem.W.fnOf "_value" "_value" (defArgs s_value) (defBody s_value) (defScope s_value) .none kV_value dc_value pm_value an_value cd_value ct_value), sl_value⟩) (cvalue : PySem.W.codeIn K cd_value "_value" = true) (kvalue : PySem.W.keepIn K (.ref a_value) = true)
    {od_law_deal an_law_deal : Option Addr} {sl_law_deal : Array (Option Value)} {oc_law_deal kV_law_deal dc_law_deal pm_law_deal cd_law_deal ct_law_deal : Value}
    (alaw_deal : PySem.W.nsIn K mainGlobals "_law_deal" = some (some (.ref a_law_deal)))
    (llaw_deal : K.lookup a_law_deal = some ⟨oc_law_deal, od_law_deal, .func (PySem.W.fnOf "_law_deal" "_law_deal" (defArgs s_law_deal) (defBody s_law_deal) (defScope s_law_deal) .none kV_law_deal dc_law_deal pm_law_deal an_law_deal cd_law_deal ct_law_deal), sl_law_deal⟩) (claw_deal : PySem.W.codeIn K cd_law_deal "_law_deal" = true) (klaw_deal : PySem.W.keepIn K (.ref a_law_deal) = true)
    {od_law_draw an_law_draw : Option Addr} {sl_law_draw : Array (Option Value)} {oc_law_draw kV_law_draw dc_law_draw pm_law_draw cd_law_draw ct_law_draw : Value}
    (alaw_draw : PySem.W.nsIn K mainGlobals "_law_draw" = some (some (.ref a_law_draw)))
    (llaw_draw : K.lookup a_law_draw = some ⟨oc_law_draw, od_law_draw, .func (PySem.W.fnOf "_law_draw" "_law_draw" (defArgs s_law_draw) (defBody s_law_draw) (defScope s_law_draw) .none kV_law_draw dc_law_draw pm_law_draw an_law_draw cd_law_draw ct_law_draw), sl_law_draw⟩) (claw_draw : PySem.W.codeIn K cd_law_draw "_law_draw" = true) (klaw_draw : PySem.W.keepIn K (.ref a_law_draw) = true)
    {od_law_pick an_law_pick : Option Addr} {sl_law_pick : Array (Option Value)} {oc_law_pick kV_law_pick dc_law_pick pm_law_pick cd_law_pick ct_law_pick : Value}
    (alaw_pick : PySem.W.nsIn K mainGlobals "_law_pick" = some (some (.ref a_law_pick)))
    (llaw_pick : K.lookup a_law_pick = some ⟨oc_law_pick, od_law_pick, .func (PySem.W.fnOf "_law_pick" "_law_pick" (defArgs s_law_pick) (defBody s_law_pick) (defScope s_law_pick) .none kV_law_pick dc_law_pick pm_law_pick an_law_pick cd_law_pick ct_law_pick), sl_law_pick⟩) (claw_pick : PySem.W.codeIn K cd_law_pick "_law_pick" = true) (klaw_pick : PySem.W.keepIn K (.ref a_law_pick) = true)
    {od_law_base an_law_base : Option Addr} {sl_law_base : Array (Option Value)} {oc_law_base kV_law_base dc_law_base pm_law_base cd_law_base ct_law_base : Value}
    (alaw_base : PySem.W.nsIn K mainGlobals "_law_base" = some (some (.ref a_law_base)))
    (llaw_base : K.lookup a_law_base = some ⟨oc_law_base, od_law_base, .func (PySem.W.fnOf "_law_base" "_law_base" (defArgs s_law_base) (defBody s_law_base) (defScope s_law_base) .none kV_law_base dc_law_base pm_law_base an_law_base cd_law_base ct_law_base), sl_law_base⟩) (claw_base : PySem.W.codeIn K cd_law_base "_law_base" = true) (klaw_base : PySem.W.keepIn K (.ref a_law_base) = true)
    {od_law_written an_law_written : Option Addr} {sl_law_written : Array (Option Value)} {oc_law_written kV_law_written dc_law_written pm_law_written cd_law_written ct_law_written : Value}
    (alaw_written : PySem.W.nsIn K mainGlobals "_law_written" = some (some (.ref a_law_written)))
    (llaw_written : K.lookup a_law_written = some ⟨oc_law_written, od_law_written, .func (PySem.W.fnOf "_law_written" "_law_written" (defArgs s_law_written) (defBody s_law_written) (defScope s_law_written) .none kV_law_written dc_law_written pm_law_written an_law_written cd_law_written ct_law_written), sl_law_written⟩) (claw_written : PySem.W.codeIn K cd_law_written "_law_written" = true) (klaw_written : PySem.W.keepIn K (.ref a_law_written) = true)
    {od_law_number an_law_number : Option Addr} {sl_law_number : Array (Option Value)} {oc_law_number kV_law_number dc_law_number pm_law_number cd_law_number ct_law_number : Value}
    (alaw_number : PySem.W.nsIn K mainGlobals "_law_number" = some (some (.ref a_law_number)))
    (llaw_number : K.lookup a_law_number = some ⟨oc_law_number, od_law_number, .func (PySem.W.fnOf "_law_number" "_law_number" (defArgs s_law_number) (defBody s_law_number) (defScope s_law_number) .none kV_law_number dc_law_number pm_law_number an_law_number cd_law_number ct_law_number), sl_law_number⟩) (claw_number : PySem.W.codeIn K cd_law_number "_law_number" = true) (klaw_number : PySem.W.keepIn K (.ref a_law_number) = true)
    {od_law_sums_right an_law_sums_right : Option Addr} {sl_law_sums_right : Array (Option Value)} {oc_law_sums_right kV_law_sums_right dc_law_sums_right pm_law_sums_right cd_law_sums_right ct_law_sums_right : Value}
    (alaw_sums_right : PySem.W.nsIn K mainGlobals "_law_sums_right" = some (some (.ref a_law_sums_right)))
    (llaw_sums_right : K.lookup a_law_sums_right = some ⟨oc_law_sums_right, od_law_sums_right, .func (PySem.W.fnOf "_law_sums_right" "_law_sums_right" (defArgs s_law_sums_right) (defBody s_law_sums_right) (defScope s_law_sums_right) .none kV_law_sums_right dc_law_sums_right pm_law_sums_right an_law_sums_right cd_law_sums_right ct_law_sums_right), sl_law_sums_right⟩) (claw_sums_right : PySem.W.codeIn K cd_law_sums_right "_law_sums_right" = true) (klaw_sums_right : PySem.W.keepIn K (.ref a_law_sums_right) = true)
    {od_law_order_right an_law_order_right : Option Addr} {sl_law_order_right : Array (Option Value)} {oc_law_order_right kV_law_order_right dc_law_order_right pm_law_order_right cd_law_order_right ct_law_order_right : Value}
    (alaw_order_right : PySem.W.nsIn K mainGlobals "_law_order_right" = some (some (.ref a_law_order_right)))
    (llaw_order_right : K.lookup a_law_order_right = some ⟨oc_law_order_right, od_law_order_right, .func (PySem.W.fnOf "_law_order_right" "_law_order_right" (defArgs s_law_order_right) (defBody s_law_order_right) (defScope s_law_order_right) .none kV_law_order_right dc_law_order_right pm_law_order_right an_law_order_right cd_law_order_right ct_law_order_right), sl_law_order_right⟩) (claw_order_right : PySem.W.codeIn K cd_law_order_right "_law_order_right" = true) (klaw_order_right : PySem.W.keepIn K (.ref a_law_order_right) = true)
    {od_law an_law : Option Addr} {sl_law : Array (Option Value)} {oc_law kV_law dc_law pm_law cd_law ct_law : Value}
    (alaw : PySem.W.nsIn K mainGlobals "law" = some (some (.ref a_law)))
    (llaw : K.lookup a_law = some ⟨oc_law, od_law, .func (PySem.W.fnOf "law" "law" (defArgs s_law) (defBody s_law) (defScope s_law) .none kV_law dc_law pm_law an_law cd_law ct_law), sl_law⟩) (claw : PySem.W.codeIn K cd_law "law" = true) (klaw : PySem.W.keepIn K (.ref a_law) = true)
    (zbool : PySem.W.nsIn K mainGlobals "bool" = some none)
    (zenumerate : PySem.W.nsIn K mainGlobals "enumerate" = some none)
    (zint : PySem.W.nsIn K mainGlobals "int" = some none)
    (zisinstance : PySem.W.nsIn K mainGlobals "isinstance" = some none)
    (zlen : PySem.W.nsIn K mainGlobals "len" = some none)
    (zlist : PySem.W.nsIn K mainGlobals "list" = some none)
    (zmax : PySem.W.nsIn K mainGlobals "max" = some none)
    (zmin : PySem.W.nsIn K mainGlobals "min" = some none)
    (zrange : PySem.W.nsIn K mainGlobals "range" = some none)
    (zset : PySem.W.nsIn K mainGlobals "set" = some none)
    (zsorted : PySem.W.nsIn K mainGlobals "sorted" = some none)
    (zsum : PySem.W.nsIn K mainGlobals "sum" = some none)
    (ztuple : PySem.W.nsIn K mainGlobals "tuple" = some none)
    : ∃ fd : FuncData, (∀ (s : Shared) (v : Value), BindsTo s fd ⟨[v], []⟩ [("_law_script", v)]) ∧ ∀ base : Heap, K.In base → base.Ns mainGlobals mg → FnOk l.prog w K mg base CX0 8 fa fd ["_law_script"] (sp_law K) := by
  have e := hfa.symm.trans (PySem.W.mg_of X G alaw)
  cases e
  have F_is_integer := fun_mk (st := s_is_integer) lis_integer cis_integer kis_integer
  have b_is_integer := F_is_integer.binds (ps := ["value"]) fun _ _ _ _ _ _ us hl => match us, hl with | [_], _ => rfl
  have F_is_number := fun_mk (st := s_is_number) lis_number cis_number kis_number
  have b_is_number := F_is_number.binds (ps := ["value"]) fun _ _ _ _ _ _ us hl => match us, hl with | [_], _ => rfl
  have F_is_base := fun_mk (st := s_is_base) lis_base cis_base kis_base
  have b_is_base := F_is_base.binds (ps := ["value"]) fun _ _ _ _ _ _ us hl => match us, hl with | [_], _ => rfl
  have F_figures_of := fun_mk (st := s_figures_of) lfigures_of cfigures_of kfigures_of
  have b_figures_of := F_figures_of.binds (ps := ["number", "base"]) fun _ _ _ _ _ _ us hl => match us, hl with | [_, _], _ => rfl
  have F_number_of := fun_mk (st := s_number_of) lnumber_of cnumber_of knumber_of
  have b_number_of := F_number_of.binds (ps := ["figures", "base"]) fun _ _ _ _ _ _ us hl => match us, hl with | [_, _], _ => rfl
  have F_turned := fun_mk (st := s_turned) lturned cturned kturned
  have b_turned := F_turned.binds (ps := ["number", "base"]) fun _ _ _ _ _ _ us hl => match us, hl with | [_, _], _ => rfl
  have F_least := fun_mk (st := s_least) lleast cleast kleast
  have b_least := F_least.binds (ps := ["number", "base"]) fun _ _ _ _ _ _ us hl => match us, hl with | [_, _], _ => rfl
  have F_greatest := fun_mk (st := s_greatest) lgreatest cgreatest kgreatest
  have b_greatest := F_greatest.binds (ps := ["number", "base"]) fun _ _ _ _ _ _ us hl => match us, hl with | [_, _], _ => rfl
  have F_total := fun_mk (st := s_total) ltotal ctotal ktotal
  have b_total := F_total.binds (ps := ["number", "base"]) fun _ _ _ _ _ _ us hl => match us, hl with | [_, _], _ => rfl
  have F_many := fun_mk (st := s_many) lmany cmany kmany
  have b_many := F_many.binds (ps := ["number", "base"]) fun _ _ _ _ _ _ us hl => match us, hl with | [_, _], _ => rfl
  have F_root := fun_mk (st := s_root) lroot croot kroot
  have b_root := F_root.binds (ps := ["number", "base"]) fun _ _ _ _ _ _ us hl => match us, hl with | [_, _], _ => rfl
  have F_figure := fun_mk (st := s_figure) lfigure cfigure kfigure
  have b_figure := F_figure.binds (ps := ["number", "k", "base"]) fun _ _ _ _ _ _ us hl => match us, hl with | [_, _, _], _ => rfl
  have F_first := fun_mk (st := s_first) lfirst cfirst kfirst
  have b_first := F_first.binds (ps := ["number", "k", "base"]) fun _ _ _ _ _ _ us hl => match us, hl with | [_, _, _], _ => rfl
  have F_last := fun_mk (st := s_last) llast clast klast
  have b_last := F_last.binds (ps := ["number", "k", "base"]) fun _ _ _ _ _ _ us hl => match us, hl with | [_, _, _], _ => rfl
  have F_joined := fun_mk (st := s_joined) ljoined cjoined kjoined
  have b_joined := F_joined.binds (ps := ["number", "other", "base"]) fun _ _ _ _ _ _ us hl => match us, hl with | [_, _, _], _ => rfl
  have F_mirrored := fun_mk (st := s_mirrored) lmirrored cmirrored kmirrored
  have b_mirrored := F_mirrored.binds (ps := ["number", "base"]) fun _ _ _ _ _ _ us hl => match us, hl with | [_, _], _ => rfl
  have F_unlike := fun_mk (st := s_unlike) lunlike cunlike kunlike
  have b_unlike := F_unlike.binds (ps := ["number", "base"]) fun _ _ _ _ _ _ us hl => match us, hl with | [_, _], _ => rfl
  have F_value := fun_mk (st := s_value) lvalue cvalue kvalue
  have b_value := F_value.binds (ps := ["figures", "base"]) fun _ _ _ _ _ _ us hl => match us, hl with | [_, _], _ => rfl
  have F_law_deal := fun_mk (st := s_law_deal) llaw_deal claw_deal klaw_deal
  have b_law_deal := F_law_deal.binds (ps := ["_law_script", "_law_base_here"]) fun _ _ _ _ _ _ us hl => match us, hl with | [_, _], _ => rfl
  have F_law_draw := fun_mk (st := s_law_draw) llaw_draw claw_draw klaw_draw
  have b_law_draw := F_law_draw.binds (ps := ["_law_deal_here", "_law_span"]) fun _ _ _ _ _ _ us hl => match us, hl with | [_, _], _ => rfl
  have F_law_pick := fun_mk (st := s_law_pick) llaw_pick claw_pick klaw_pick
  have b_law_pick := F_law_pick.binds (ps := ["_law_deal_here", "_law_some"]) fun _ _ _ _ _ _ us hl => match us, hl with | [_, _], _ => rfl
  have F_law_base := fun_mk (st := s_law_base) llaw_base claw_base klaw_base
  have b_law_base := F_law_base.binds (ps := ["_law_deal_here"]) fun _ _ _ _ _ _ us hl => match us, hl with | [_], _ => rfl
  have F_law_written := fun_mk (st := s_law_written) llaw_written claw_written klaw_written
  have b_law_written := F_law_written.binds (ps := ["_law_figures_here", "_law_base_here"]) fun _ _ _ _ _ _ us hl => match us, hl with | [_, _], _ => rfl
  have F_law_number := fun_mk (st := s_law_number) llaw_number claw_number klaw_number
  have b_law_number := F_law_number.binds (ps := ["_law_deal_here", "_law_base_here"]) fun _ _ _ _ _ _ us hl => match us, hl with | [_, _], _ => rfl
  have F_law_sums_right := fun_mk (st := s_law_sums_right) llaw_sums_right claw_sums_right klaw_sums_right
  have b_law_sums_right := F_law_sums_right.binds (ps := ["_law_number_here", "_law_base_here"]) fun _ _ _ _ _ _ us hl => match us, hl with | [_, _], _ => rfl
  have F_law_order_right := fun_mk (st := s_law_order_right) llaw_order_right claw_order_right klaw_order_right
  have b_law_order_right := F_law_order_right.binds (ps := ["_law_number_here", "_law_base_here"]) fun _ _ _ _ _ _ us hl => match us, hl with | [_, _], _ => rfl
  have F_law := fun_mk (st := s_law) llaw claw klaw
  have b_law := F_law.binds (ps := ["_law_script"]) fun _ _ _ _ _ _ us hl => match us, hl with | [_], _ => rfl
  have T : Txt K mg _ _ _ _ _ _ _ _ _ _ _ _ _ _ _ _ _ _ _ _ _ _ _ _ _ _ _ _ _ _ _ _ _ _ _ _ _ _ _ _ _ _ _ _ _ _ _ _ _ _ _ _ _ _ := ⟨F_is_integer, b_is_integer, PySem.W.mg_of X G ais_integer, F_is_number, b_is_number, PySem.W.mg_of X G ais_number, F_is_base, b_is_base, PySem.W.mg_of X G ais_base, F_figures_of, b_figures_of, PySem.W.mg_of X G afigures_of, F_number_of, b_number_of, PySem.W.mg_of X G anumber_of, F_turned, b_turned, PySem.W.mg_of X G aturned, F_least, b_least, PySem.W.mg_of X G aleast, F_greatest, b_greatest, PySem.W.mg_of X G agreatest, F_total, b_total, PySem.W.mg_of X G atotal, F_many, b_many, PySem.W.mg_of X G amany, F_root, b_root, PySem.W.mg_of X G aroot, F_figure, b_figure, PySem.W.mg_of X G afigure, F_first, b_first, PySem.W.mg_of X G afirst, F_last, b_last, PySem.W.mg_of X G alast, F_joined, b_joined, PySem.W.mg_of X G ajoined, F_mirrored, b_mirrored, PySem.W.mg_of X G amirrored, F_unlike, b_unlike, PySem.W.mg_of X G aunlike, F_value, b_value, PySem.W.mg_of X G avalue, F_law_deal, b_law_deal, PySem.W.mg_of X G alaw_deal, F_law_draw, b_law_draw, PySem.W.mg_of X G alaw_draw, F_law_pick, b_law_pick, PySem.W.mg_of X G alaw_pick, F_law_base, b_law_base, PySem.W.mg_of X G alaw_base, F_law_written, b_law_written, PySem.W.mg_of X G alaw_written, F_law_number, b_law_number, PySem.W.mg_of X G alaw_number, F_law_sums_right, b_law_sums_right, PySem.W.mg_of X G alaw_sums_right, F_law_order_right, b_law_order_right, PySem.W.mg_of X G alaw_order_right, F_law, b_law, PySem.W.mg_of X G alaw, PySem.W.mg_none_of X G zbool, PySem.W.mg_none_of X G zenumerate, PySem.W.mg_none_of X G zint, PySem.W.mg_none_of X G zisinstance, PySem.W.mg_none_of X G zlen, PySem.W.mg_none_of X G zlist, PySem.W.mg_none_of X G zmax, PySem.W.mg_none_of X G zmin, PySem.W.mg_none_of X G zrange, PySem.W.mg_none_of X G zset, PySem.W.mg_none_of X G zsorted, PySem.W.mg_none_of X G zsum, PySem.W.mg_none_of X G ztuple⟩
  exact ⟨PySem.W.fnOf "law" "law" (defArgs s_law) (defBody s_law) (defScope s_law) .none kV_law dc_law pm_law an_law cd_law ct_law, fun s v => .of_eq rfl, fun base _ _ => ok_law T⟩
end My
open PySem PySem.W PyProof.Rows
set_option maxHeartbeats 0 in
theorem PySem.Challenge.cw_everybase_k07_whole_figures_go_together_holds : PySem.Challenge.rw_everybase_k07_whole_figures_go_together.Holds := by
  w_on; o_law; k_head; (case hw => w_witness2)
  k_fill
  refine L2.walk_of (l := PySem.Challenge.rw_everybase_k07_whole_figures_go_together) (n := 63) (k := 8) (x := "_law_script") (CX := fun _ => L2.CX0) (sp := fun w => My.sp_law _) rfl (by decide) rfl ⟨rfl, by decide, by decide⟩ (fun w h Y => PySem.W.kIn_of Y) ?F (fun _ _ a ns hl _ hS => ⟨a, ns, rfl, hS, hl, fun _ => rfl⟩) (fun _ _ _ _ _ h => h)
  case F =>
    intro w mg fa h KX G hmg
    refine' My.all_mk KX G hmg ?ais_integer ?lis_integer ?cis_integer ?kis_integer ?ais_number ?lis_number ?cis_number ?kis_number ?ais_base ?lis_base ?cis_base ?kis_base ?afigures_of ?lfigures_of ?cfigures_of ?kfigures_of ?anumber_of ?lnumber_of ?cnumber_of ?knumber_of ?aturned ?lturned ?cturned ?kturned ?aleast ?lleast ?cleast ?kleast ?agreatest ?lgreatest ?cgreatest ?kgreatest ?atotal ?ltotal ?ctotal ?ktotal ?amany ?lmany ?cmany ?kmany ?aroot ?lroot ?croot ?kroot ?afigure ?lfigure ?cfigure ?kfigure ?afirst ?lfirst ?cfirst ?kfirst ?alast ?llast ?clast ?klast ?ajoined ?ljoined ?cjoined ?kjoined ?amirrored ?lmirrored ?cmirrored ?kmirrored ?aunlike ?lunlike ?cunlike ?kunlike ?avalue ?lvalue ?cvalue ?kvalue ?alaw_deal ?llaw_deal ?claw_deal ?klaw_deal ?alaw_draw ?llaw_draw ?claw_draw ?klaw_draw ?alaw_pick ?llaw_pick ?claw_pick ?klaw_pick ?alaw_base ?llaw_base ?claw_base ?klaw_base ?alaw_written ?llaw_written ?claw_written ?klaw_written ?alaw_number ?llaw_number ?claw_number ?klaw_number ?alaw_sums_right ?llaw_sums_right ?claw_sums_right ?klaw_sums_right ?alaw_order_right ?llaw_order_right ?claw_order_right ?klaw_order_right ?alaw ?llaw ?claw ?klaw ?zbool ?zenumerate ?zint ?zisinstance ?zlen ?zlist ?zmax ?zmin ?zrange ?zset ?zsorted ?zsum ?ztuple
    (case ais_integer => k_is); (case lis_integer => k_is); (case cis_integer => k_is); (case kis_integer => k_is); (case ais_number => k_is); (case lis_number => k_is); (case cis_number => k_is); (case kis_number => k_is); (case ais_base => k_is); (case lis_base => k_is); (case cis_base => k_is); (case kis_base => k_is); (case afigures_of => k_is); (case lfigures_of => k_is); (case cfigures_of => k_is); (case kfigures_of => k_is); (case anumber_of => k_is); (case lnumber_of => k_is); (case cnumber_of => k_is); (case knumber_of => k_is); (case aturned => k_is); (case lturned => k_is); (case cturned => k_is); (case kturned => k_is); (case aleast => k_is); (case lleast => k_is); (case cleast => k_is); (case kleast => k_is); (case agreatest => k_is); (case lgreatest => k_is); (case cgreatest => k_is); (case kgreatest => k_is); (case atotal => k_is); (case ltotal => k_is); (case ctotal => k_is); (case ktotal => k_is); (case amany => k_is); (case lmany => k_is); (case cmany => k_is); (case kmany => k_is); (case aroot => k_is); (case lroot => k_is); (case croot => k_is); (case kroot => k_is); (case afigure => k_is); (case lfigure => k_is); (case cfigure => k_is); (case kfigure => k_is); (case afirst => k_is); (case lfirst => k_is); (case cfirst => k_is); (case kfirst => k_is); (case alast => k_is); (case llast => k_is); (case clast => k_is); (case klast => k_is); (case ajoined => k_is); (case ljoined => k_is); (case cjoined => k_is); (case kjoined => k_is); (case amirrored => k_is); (case lmirrored => k_is); (case cmirrored => k_is); (case kmirrored => k_is); (case aunlike => k_is); (case lunlike => k_is); (case cunlike => k_is); (case kunlike => k_is); (case avalue => k_is); (case lvalue => k_is); (case cvalue => k_is); (case kvalue => k_is); (case alaw_deal => k_is); (case llaw_deal => k_is); (case claw_deal => k_is); (case klaw_deal => k_is); (case alaw_draw => k_is); (case llaw_draw => k_is); (case claw_draw => k_is); (case klaw_draw => k_is); (case alaw_pick => k_is); (case llaw_pick => k_is); (case claw_pick => k_is); (case klaw_pick => k_is); (case alaw_base => k_is); (case llaw_base => k_is); (case claw_base => k_is); (case klaw_base => k_is); (case alaw_written => k_is); (case llaw_written => k_is); (case claw_written => k_is); (case klaw_written => k_is); (case alaw_number => k_is); (case llaw_number => k_is); (case claw_number => k_is); (case klaw_number => k_is); (case alaw_sums_right => k_is); (case llaw_sums_right => k_is); (case claw_sums_right => k_is); (case klaw_sums_right => k_is); (case alaw_order_right => k_is); (case llaw_order_right => k_is); (case claw_order_right => k_is); (case klaw_order_right => k_is); (case alaw => k_is); (case llaw => k_is); (case claw => k_is); (case klaw => k_is); (case zbool => k_is); (case zenumerate => k_is); (case zint => k_is); (case zisinstance => k_is); (case zlen => k_is); (case zlist => k_is); (case zmax => k_is); (case zmin => k_is); (case zrange => k_is); (case zset => k_is); (case zsorted => k_is); (case zsum => k_is); (case ztuple => k_is)
