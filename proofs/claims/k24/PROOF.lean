import PyProof.Rows.All
import Wide.All
import OpenK.AllK
import Wide.FinOn
import HandS.ForMost
import HandS.Wide
import HandS.WideBits
import HandS.IsInst
import HandS.SortInts
import HandS.RaiseMore
import HandS.Style
import HandS.Zip
import HandS.Evl
import KE.KTupSum
import HandS.TupAny
import HandS.SortKw
import HandS.Conv
import HandS.SetFor
import KE.GoesMore
import HandS.ForExc
import HandS.ExcInit
import HandS.ExcField
import KE.KExcIs
import HandS.ExcIs
import HandS.Small
import HandS.ExcValue
import HandS.Head0
import HandS.Head1
import HandS.Head2
import HandS.Head3
import HandS.HeadEnd
import HandS.HeadHook1
import HandS.HeadHook2
import HandS.HeadHook3
import HandS.HeadHook4
import HandS.Star
import HandS.SlotsOwn
import HandS.FStr
import KE.KCallOwn
import KE.KFmtOwn
import PyProof.InstNe
import HandS.HeadNt
import HandS.Property
import HandS.TryMany
import HandS.Text
import HandS.TupMul
import HandS.TryOnly
import PyProof.NeKinds
import HandS.OwnEq
import HandS.Iter
import HandS.MakeKwOnly
import KE.KStar
import KE.KOpsOwn
import PyProof.Rows.CallKw2
import HandS.Gcd
import PyProof.TwoTypes
import PyProof.AutoIntOps
import HandS.More
import HandS.WrittenGet
import HandS.Walk
import HandS.Strs
import HandS.Codes
import HandS.Defaults
import PyProof.StrBlock2
import PyProof.Rows.SortStr
import PySem.Challenge.RW_everybase_k24_terms_made
set_option Elab.async false
set_option linter.all false
set_option maxRecDepth 100000
set_option maxHeartbeats 4000000
namespace My
open PySem PySem.Spec PyProof.Rows L2 Evl

/-! ### one more rule: sum of a tuple of ints -/
section
variable {X : Cx}
def rSumT (K : PySem.W.Frag) : List V → Hp → VK → Prop := fun vs H Q => ∃ (a : Addr) (ns : List Int), vs = [V.ref a] ∧ SqT K H a (ns.map V.int) ∧ Q (.int ns.sum) H
theorem cr_sumT (hc : X.calm = true) : CallR X (.builtin "sum") (rSumT X.K) := by
  intro pins s σ H vs us Q I r h
  obtain ⟨a, ns, rfl, hs, q⟩ := h
  obtain ⟨its, rv, hl, _⟩ := I.tuple hs
  rw [Vals.ref1 r]
  have hi : IntsAre its ns := rv.ints
  obtain ⟨xs, e⟩ := hi.allInts.items
  have hn : numsOf (intItems xs).toList = ns := by rw [← e]; exact hi.numsOf
  rw [nums_intItems] at hn
  have hl' : s.heap.IsTuple a (intItems xs) := by
    rw [← e]
    exact hl
  refine PySem.W.ktm_sumG (I.ok.hd hc) hl' fun h' tk t' hk => ?_
  refine ⟨.int ns.sum, H, I.kept hk, ⟨t', ?_⟩, q⟩
  rw [preSum_eq, List.take_of_length_le (by simp), hn]
end

/-! ### isinstance of built-in values -/
def vty (H : Hp) : V → Option String
  | .non => some "NoneType"
  | .bl _ => some "bool"
  | .int _ => some "int"
  | .str _ => some "str"
  | .ref a => match H a with
    | some (.lst _) => some "list"
    | some (.tup _) => some "tuple"
    | _ => none
  | _ => none
theorem tyX_of {K : PySem.W.Frag} {H : Hp} {x : V} {t : String} (h : vty H x = some t) : TyX K H x (.type t) := by
  unfold vty at h
  split at h
  · cases h; exact .base .non
  · cases h; exact .base (.bl _)
  · cases h; exact .base (.int _)
  · cases h; exact .base (.str _)
  · split at h
    · cases h; rename_i e; exact .base (.lst e)
    · cases h; rename_i e; exact .base (.tup e)
    · cases h
  · cases h
section
variable {X : Cx}
def rIsiV : List V → Hp → VK → Prop
  | [x, .ty n], H, Q => ∃ t b, vty H x = some t ∧ kitB t n = some b ∧ Q (.bl b) H
  | _, _, _ => False
theorem call_isiV : CallR X (.builtin "isinstance") rIsiV := by
  intro pins s σ H xs us Q I r h
  unfold rIsiV at h
  split at h
  · obtain ⟨t, b, h1, h2, q⟩ := h
    exact call_isi pins s σ H _ us Q I r ⟨_, _, _, _, b, rfl, .ty _, tyX_of h1, kit_ty h2, q⟩
  · exact h.elim
end
theorem kb1 : kitB "int" "int" = some true := by decide +kernel
theorem kb2 : kitB "int" "bool" = some false := by decide +kernel
theorem kb3 : kitB "bool" "int" = some true := by decide +kernel
theorem kb4 : kitB "bool" "bool" = some true := by decide +kernel
theorem kb5 : kitB "NoneType" "int" = some false := by decide +kernel
theorem kb6 : kitB "str" "int" = some false := by decide +kernel
theorem kb7 : kitB "list" "int" = some false := by decide +kernel
theorem kb8 : kitB "tuple" "int" = some false := by decide +kernel
theorem kb9 : kitB "list" "list" = some true := by decide +kernel

/-! ### heaps that grow -/
theorem _root_.Evl.Ex.free {H H' : Hp} {p : Addr} (e : Ex H H') (h : H' p = none) : H p = none := fresh_back e h
theorem _root_.Evl.Ex.sql {K : PySem.W.Frag} {H H' : Hp} {a : Addr} {xs : List V} (e : Ex H H') (h : SqL K H a xs) : SqL K H' a xs := ex_l e h
theorem _root_.Evl.Ex.sqt {K : PySem.W.Frag} {H H' : Hp} {a : Addr} {xs : List V} (e : Ex H H') (h : SqT K H a xs) : SqT K H' a xs := ex_t e h
/-- a new object: what it is told by, and that nothing else changed -/
theorem new_of {H : Hp} {o : HO} {Q : VK} (h : ∀ p H1, H p = none → Ex H H1 → H1 p = some o → Q (.ref p) H1) : ∀ p, H p = none → Q (.ref p) (upd H p o) :=
  fun p hp => h p _ hp (Ex.new hp) upd_same
theorem sz_le {n : Nat} (h : n ≤ 100000) : n ≤ sizeLine := Nat.le_trans h (by decide)

/-! ### bounds of wide ints -/
theorem nab {i : Int} {n : Nat} (h0 : -(2 ^ n) < i) (h1 : i < 2 ^ n) : i.natAbs < 2 ^ n := by
  have e : ((2 ^ n : Nat) : Int) = 2 ^ n := by simp
  omega
theorem mulOk {i j : Int} (a0 : -(2 ^ 250) < i) (a1 : i < 2 ^ 250) (b0 : -(2 ^ 250) < j) (b1 : j < 2 ^ 250) : CMulX i j :=
  mulx_ok (nab a0 a1) (nab b0 b1) (by decide)
theorem divOk {i j : Int} (a0 : 0 < j) (a1 : j < 2 ^ 250) : CDivW i j :=
  wide_div a0 (nab (n := 250) (by omega) a1) (by decide) (by decide)
theorem powOk {i j : Int} (h0 : 0 ≤ j) (h1 : j ≤ 1000) (a0 : -1000 < i) (a1 : i < 1000) : CPow i j := ⟨h0, by omega, by omega⟩
theorem reprOk {i : Int} (a0 : -(2 ^ 250) < i) (a1 : i < 2 ^ 250) : i.natAbs.log2 < 1920 :=
  Nat.lt_of_lt_of_le (PySem.Flt.log2_lt_of (by decide) (nab a0 a1)) (by decide)

/-! ### rules with readings by cases -/
section
variable {X : Cx}
def rInt1 : List V → Hp → VK → Prop
  | [.int i], H, Q => Q (.int i) H
  | [.bl k], H, Q => Q (.int (if k then 1 else 0)) H
  | _, _, _ => False
theorem call_intM : CallR X (.type "int") rInt1 := by
  intro pins s σ H xs us Q I r h
  unfold rInt1 at h
  split at h
  · exact call_int1 pins s σ H _ us Q I r (.inl ⟨_, rfl, h⟩)
  · exact call_int1 pins s σ H _ us Q I r (.inr ⟨_, rfl, h⟩)
  · exact h.elim
def rMin2 : List V → Hp → VK → Prop
  | [.int i, .int j], H, Q => Q (.int (if j < i then j else i)) H
  | _, _, _ => False
def rMax2 : List V → Hp → VK → Prop
  | [.int i, .int j], H, Q => Q (.int (if j > i then j else i)) H
  | _, _, _ => False
theorem call_minM (hc : X.calm = true) : CallR X (.builtin "min") rMin2 := by
  intro pins s σ H xs us Q I r h
  unfold rMin2 at h
  split at h
  · exact call_min2 hc pins s σ H _ us Q I r ⟨_, _, rfl, h⟩
  · exact h.elim
theorem call_maxM (hc : X.calm = true) : CallR X (.builtin "max") rMax2 := by
  intro pins s σ H xs us Q I r h
  unfold rMax2 at h
  split at h
  · exact call_max2 hc pins s σ H _ us Q I r ⟨_, _, rfl, h⟩
  · exact h.elim
def rRepr1 : List V → Hp → VK → Prop
  | [.int i], H, Q => i.natAbs.log2 < 1920 ∧ Q (.str (toString i)) H
  | _, _, _ => False
theorem call_reprM : CallR X (.builtin "repr") rRepr1 := by
  intro pins s σ H xs us Q I r h
  unfold rRepr1 at h
  split at h
  · exact SkE.call_repr_int pins s σ H _ us Q I r ⟨_, rfl, h⟩
  · exact h.elim
/-- xs[i] of a tracked list -/
def rIx1 (K : PySem.W.Frag) : R2
  | .ref p, .int i, H, Q => ∃ xs v, SqL K H p xs ∧ atI xs i = some v ∧ Q v H
  | _, _, _, _ => False
theorem ix_listM : IxR X (rIx1 X.K) := by
  intro value slice pins s σ H x y v u Q I rx ry h hs
  unfold rIx1 at h
  split at h
  · obtain ⟨xs, z, h1, h2, q⟩ := h
    exact ix_list value slice pins s σ H _ _ v u Q I rx ry ⟨_, _, _, _, rfl, rfl, h1, h2, q⟩ hs
  · exact h.elim
/-- xs[lo:hi] of a list -/
def rSlM (K : PySem.W.Frag) : V → Option Int → Option Int → Hp → VK → Prop
  | .ref a, lo, hi, H, Q => ∃ xs, SqL K H a xs ∧ ∀ p, H p = none → Q (.ref p) (upd H p (.lst (cutV xs lo hi)))
  | _, _, _, _, _ => False
theorem sl_listM : SlR X (rSlM X.K) := by
  intro pins s σ H x v vl vu lo hi sl Q I rx hs pl pu h
  unfold rSlM at h
  split at h
  · obtain ⟨xs, h1, q⟩ := h
    exact sl_list pins s σ H _ v vl vu _ _ sl Q I rx hs pl pu ⟨_, _, rfl, h1, q⟩
  · exact h.elim
/-- xs.append(y), xs.pop() of a tracked list -/
def rAppM : V → List V → Hp → VK → Prop
  | .ref l, [y], H, Q => ∃ xs, H l = some (.lst xs) ∧ xs.length < sizeLine ∧ Q .non (upd H l (.lst (xs ++ [y])))
  | _, _, _, _ => False
def rPopM : V → List V → Hp → VK → Prop
  | .ref l, [], H, Q => ∃ xs y, H l = some (.lst xs) ∧ xs[xs.length - 1]? = some y ∧ Q y (upd H l (.lst xs.dropLast))
  | _, _, _, _ => False
theorem mt_appendM : MtR X "list.append" rAppM := by
  intro pins s σ H x vs v us Q I rx r h
  unfold rAppM at h
  split at h
  · obtain ⟨xs, h1, h2, q⟩ := h
    exact mt_append pins s σ H _ _ v us Q I rx r ⟨_, _, _, rfl, rfl, h1, h2, q⟩
  · exact h.elim
theorem mt_popM : MtR X "list.pop" rPopM := by
  intro pins s σ H x vs v us Q I rx r h
  unfold rPopM at h
  split at h
  · obtain ⟨xs, y, h1, h2, q⟩ := h
    exact mt_pop pins s σ H _ _ v us Q I rx r ⟨_, _, _, rfl, rfl, h1, h2, q⟩
  · exact h.elim
end

/-! ### == of a list of ints and [] -/
theorem canLayInts : ∀ cs : List Int, PyData.canLayAll0 (cs.map PyData.int) = true
  | [] => rfl
  | c :: cs => by
    rw [List.map_cons, PyData.canLayAll0, canLayInts cs, PyData.canLay0]
    rfl
theorem depthInts : ∀ cs : List Int, PyData.depthAll (cs.map PyData.int) = 0
  | [] => rfl
  | c :: cs => by
    rw [List.map_cons, PyData.depthAll, depthInts cs, PyData.depth]
    rfl
theorem shapedInts (cs : List Int) : SeqAt.shaped (.list (cs.map PyData.int)) = true := by
  unfold SeqAt.shaped
  rw [PyData.canLay0, PyData.depth, canLayInts, depthInts]
  rfl
theorem shapedIntsT (cs : List Int) : SeqAt.shaped (.tuple (cs.map PyData.int)) = true := by
  unfold SeqAt.shaped
  rw [PyData.canLay0, PyData.depth, canLayInts, depthInts]
  rfl
theorem eqvAllInts : ∀ xs ys : List Int, PyData.eqvAll (xs.map PyData.int) (ys.map PyData.int) = decide (xs = ys)
  | [], [] => rfl
  | [], y :: ys => rfl
  | x :: xs, [] => rfl
  | x :: xs, y :: ys => by
    rw [List.map_cons, List.map_cons, PyData.eqvAll, eqvAllInts xs ys, PyData.eqv]
    by_cases h1 : x = y <;> by_cases h2 : xs = ys <;> simp [h1, h2]
theorem eqvLists (xs ys : List Int) : PyData.eqv (.list (xs.map PyData.int)) (.list (ys.map PyData.int)) = decide (xs = ys) := by
  rw [PyData.eqv, eqvAllInts]
theorem eqvTups (xs ys : List Int) : PyData.eqv (.tuple (xs.map PyData.int)) (.tuple (ys.map PyData.int)) = decide (xs = ys) := by
  rw [PyData.eqv, eqvAllInts]
/-- == and != of two lists of ints, two tuples of ints -/
theorem dpInts {K : PySem.W.Frag} {H : Hp} : ∀ cs : List Int, DpAll K H (cs.map V.int) (cs.map PyData.int)
  | [] => .nil
  | c :: cs => .cons (.int c) (dpInts cs)
theorem neLists {K : PySem.W.Frag} {H : Hp} {a b : Addr} {xs ys : List Int} {Q : VK} (ha : SqL K H a (xs.map V.int)) (hb : SqL K H b (ys.map V.int)) (h : Q (.bl (!decide (xs = ys))) H) : rNeD K (.ref a) (.ref b) H Q :=
  ⟨_, _, .lst ha (dpInts xs), .lst hb (dpInts ys), shapedInts xs, shapedInts ys, by rw [eqvLists]; exact h⟩
theorem eqLists {K : PySem.W.Frag} {H : Hp} {a b : Addr} {xs ys : List Int} {Q : VK} (ha : SqL K H a (xs.map V.int)) (hb : SqL K H b (ys.map V.int)) (h : Q (.bl (decide (xs = ys))) H) : rEqD K (.ref a) (.ref b) H Q :=
  ⟨_, _, .lst ha (dpInts xs), .lst hb (dpInts ys), shapedInts xs, shapedInts ys, by rw [eqvLists]; exact h⟩
theorem neTups {K : PySem.W.Frag} {H : Hp} {a b : Addr} {xs ys : List Int} {Q : VK} (ha : SqT K H a (xs.map V.int)) (hb : SqT K H b (ys.map V.int)) (h : Q (.bl (!decide (xs = ys))) H) : rNeD K (.ref a) (.ref b) H Q :=
  ⟨_, _, .tup ha (dpInts xs), .tup hb (dpInts ys), shapedIntsT xs, shapedIntsT ys, by rw [eqvTups]; exact h⟩
theorem eqTups {K : PySem.W.Frag} {H : Hp} {a b : Addr} {xs ys : List Int} {Q : VK} (ha : SqT K H a (xs.map V.int)) (hb : SqT K H b (ys.map V.int)) (h : Q (.bl (decide (xs = ys))) H) : rEqD K (.ref a) (.ref b) H Q :=
  ⟨_, _, .tup ha (dpInts xs), .tup hb (dpInts ys), shapedIntsT xs, shapedIntsT ys, by rw [eqvTups]; exact h⟩
/-! ### the readings' equations, for a walk by simp -/
section
variable {K : PySem.W.Frag} {H : Hp} {Q : VK} {i j : Int} {p : Addr} {x y : V} {k k' : Bool} {a b : Str} {lo hi : Option Int}
theorem q_isi {n : String} : rIsiV [x, .ty n] H Q = ∃ t b, vty H x = some t ∧ kitB t n = some b ∧ Q (.bl b) H := rfl
theorem q_vn : vty H .non = some "NoneType" := rfl
theorem q_vb : vty H (.bl k) = some "bool" := rfl
theorem q_vi : vty H (.int i) = some "int" := rfl
theorem q_vs : vty H (.str a) = some "str" := rfl
theorem q_int1 : rInt1 [.int i] H Q = Q (.int i) H := rfl
theorem q_int2 : rInt1 [.bl k] H Q = Q (.int (if k then 1 else 0)) H := rfl
theorem q_min : rMin2 [.int i, .int j] H Q = Q (.int (if j < i then j else i)) H := rfl
theorem q_max : rMax2 [.int i, .int j] H Q = Q (.int (if j > i then j else i)) H := rfl
theorem q_repr : rRepr1 [.int i] H Q = (i.natAbs.log2 < 1920 ∧ Q (.str (toString i)) H) := rfl
theorem q_ix : rIx1 K (.ref p) (.int i) H Q = ∃ xs v, SqL K H p xs ∧ atI xs i = some v ∧ Q v H := rfl
theorem q_sl : rSlM K (.ref p) lo hi H Q = ∃ xs, SqL K H p xs ∧ ∀ r, H r = none → Q (.ref r) (upd H r (.lst (cutV xs lo hi))) := rfl
theorem q_app : rAppM (.ref p) [y] H Q = ∃ xs, H p = some (.lst xs) ∧ xs.length < sizeLine ∧ Q .non (upd H p (.lst (xs ++ [y]))) := rfl
theorem q_pop : rPopM (.ref p) [] H Q = ∃ xs y, H p = some (.lst xs) ∧ xs[xs.length - 1]? = some y ∧ Q y (upd H p (.lst xs.dropLast)) := rfl
theorem q_sii : scal (.int i) (.int j) = true := rfl
theorem q_sss : scal (.str a) (.str b) = true := rfl
theorem q_sbb : scal (.bl k) (.bl k') = true := rfl
theorem q_snn : scal .non .non = true := rfl
theorem q_sns : scal .non (.str a) = true := rfl
theorem q_ssn : scal (.str a) .non = true := rfl
theorem dec_iff {A B : Prop} [Decidable A] [Decidable B] (h : A ↔ B) : decide A = decide B := by simp [h]
end

/-! ### the source of draws: d the pair, L its list, cs the great cells, z the blend -/
structure DealC (d L : Addr) (cs : List Int) (z : Int) (H : Hp) : Prop where
  d : H d = some (.lst [.ref L, .int z])
  l : H L = some (.lst (cs.map V.int))
  nn : ∀ c ∈ cs, 0 ≤ c
  z0 : 0 ≤ z
  z1 : z < 2147483647
  len : cs.length ≤ 63
def Deal (d L : Addr) (H : Hp) : Prop := ∃ cs z, DealC d L cs z H
/-- all but the source of draws is as it was, and this stands -/
structure Mv (d L : Addr) (H H' : Hp) : Prop where
  kp : ∀ b o, b ≠ d → b ≠ L → H b = some o → H' b = some o
  dl : Deal d L H'
theorem DealC.ne {d L : Addr} {cs : List Int} {z : Int} {H : Hp} (D : DealC d L cs z H) : d ≠ L := fun e => by
  have a := D.d
  rw [e, D.l] at a
  cases cs with
  | nil => cases a
  | cons c cs =>
    have b := List.cons.inj (HO.lst.inj (Option.some.inj a))
    cases b.1
theorem Deal.ne {d L : Addr} {H : Hp} (D : Deal d L H) : d ≠ L := D.elim fun _ h => h.elim fun _ D => D.ne
theorem DealC.ex {d L : Addr} {cs : List Int} {z : Int} {H H' : Hp} (D : DealC d L cs z H) (e : Ex H H') : DealC d L cs z H' := ⟨e _ _ D.d, e _ _ D.l, D.nn, D.z0, D.z1, D.len⟩
theorem Deal.ex {d L : Addr} {H H' : Hp} (D : Deal d L H) (e : Ex H H') : Deal d L H' := by
  obtain ⟨cs, z, D⟩ := D
  exact ⟨cs, z, D.ex e⟩
theorem Mv.of_ex {d L : Addr} {H H' : Hp} (D : Deal d L H) (e : Ex H H') : Mv d L H H' := ⟨fun _ _ _ _ h => e _ _ h, D.ex e⟩
theorem Mv.refl {d L : Addr} {H : Hp} (D : Deal d L H) : Mv d L H H := .of_ex D (Ex.refl H)
theorem Mv.trans {d L : Addr} {H H1 H2 : Hp} (a : Mv d L H H1) (b : Mv d L H1 H2) : Mv d L H H2 := ⟨fun x o h1 h2 h => b.kp x o h1 h2 (a.kp x o h1 h2 h), b.dl⟩
theorem Mv.tex {d L : Addr} {H H1 H2 : Hp} (a : Mv d L H H1) (e : Ex H1 H2) : Mv d L H H2 := a.trans (.of_ex a.dl e)
theorem Mv.new {d L : Addr} {H H1 : Hp} {p : Addr} {o : HO} (a : Mv d L H H1) (h : H1 p = none) : Mv d L H (upd H1 p o) := a.tex (Ex.new h)
/-- a new place is not the source's -/
theorem Deal.off {d L : Addr} {H : Hp} {p : Addr} (D : Deal d L H) (h : H p = none) : p ≠ d ∧ p ≠ L := by
  obtain ⟨cs, z, D⟩ := D
  exact ⟨fun e => (by rw [e, D.d] at h; cases h), fun e => (by rw [e, D.l] at h; cases h)⟩
theorem Deal.offL {d L : Addr} {H : Hp} {p : Addr} {xs : List Int} (D : Deal d L H) (h : H p = some (.lst (xs.map V.int))) : p ≠ d := fun e => by
  obtain ⟨cs, z, D⟩ := D
  rw [e, D.d] at h
  cases xs with
  | nil => cases h
  | cons c cs =>
    have b := List.cons.inj (HO.lst.inj (Option.some.inj h))
    cases b.1
theorem Mv.free {d L : Addr} {H H' : Hp} {p : Addr} (a : Mv d L H H') (h : H' p = none) : H p = none := by
  have o := a.dl.off h
  cases h1 : H p with
  | none => rfl
  | some u => rw [a.kp p u o.1 o.2 h1] at h; cases h
theorem Mv.mut {d L : Addr} {H H' : Hp} {D : Addr} {o : HO} (a : Mv d L H H') (h : H D = none) (h1 : D ≠ d) (h2 : D ≠ L) : Mv d L H (upd H' D o) := by
  obtain ⟨kp, cs, z, D'⟩ := a
  exact ⟨fun b u x1 x2 e => by rw [upd_ne (ne_of_none e h)]; exact kp b u x1 x2 e, cs, z, ⟨by rw [upd_ne h1.symm]; exact D'.d, by rw [upd_ne h2.symm]; exact D'.l, D'.nn, D'.z0, D'.z1, D'.len⟩⟩
/-- a slice of a list of ints -/
theorem cut_ints (ns : List Int) (lo hi : Option Int) : ∃ ms : List Int, cutV (ns.map V.int) lo hi = ms.map V.int ∧ (∀ x ∈ ms, x ∈ ns) ∧ ms.length ≤ ns.length := by
  refine ⟨(ns.drop (HT.sIx ns.length 0 lo)).take (HT.sIx ns.length ns.length hi - HT.sIx ns.length 0 lo), ?_, fun x hx => List.mem_of_mem_drop (List.mem_of_mem_take hx), ?_⟩
  · unfold cutV
    rw [List.length_map, ← List.map_drop, ← List.map_take]
  · rw [List.length_take, List.length_drop]; omega
theorem cut_hi (ns : List Int) (k : Nat) : cutV (ns.map V.int) none (some (k : Int)) = (ns.take k).map V.int := by
  unfold cutV
  rw [List.length_map, HT.sIx_none, HT.sIx_nat, List.drop_zero, Nat.sub_zero, ← List.map_take]
  congr 1
  by_cases h : k ≤ ns.length
  · rw [Nat.min_eq_left h]
  · rw [Nat.min_eq_right (by omega), List.take_of_length_le (by omega), List.take_of_length_le (by omega)]
end My
set_option Elab.async false
set_option linter.all false
set_option maxRecDepth 100000
set_option maxHeartbeats 4000000
/-! defs that are called while no repr is under way: the promise of a def, its body, its call, the law's end -/
namespace My
open PySem PySem.Spec PyProof.Rows L2 Evl
structure FnG (P : Program) (w : World) (K : PySem.W.Frag) (mg : Str → Option Value) (base : Heap) (CX : CXT) (k : Nat) (f : Addr) (fd : FuncData) (ps : List Str) (sp : Sp) : Prop where
  len : ∀ xs G R W, sp xs G R W → xs.length = ps.length
  run : ∀ (B : Around) (out : List Env) (z : Shared) (G : Hp) (ar : Args) (us : List Value) (xs : List V) (R : VK) (W : XK), B.guards = some [] → Room k B →
    Env0 P w K mg base B out z G → BindsTo z fd ar (ps.zip us) → Vals xs us → sp xs G R W → codeAny (model P w) B (.call (.ref f) ar) (CR CX out P w G z R W) z
section
variable {P : Program} {w : World} {K : PySem.W.Frag} {mg : Str → Option Value} {base : Heap} {CX : CXT}
theorem FnG.of_ok {k : Nat} {f : Addr} {fd : FuncData} {ps : List Str} {sp : Sp} (F : FnOk P w K mg base CX k f fd ps sp) : FnG P w K mg base CX k f fd ps sp :=
  ⟨F.len, fun B out z G ar us xs R W _ => F.run B out z G ar us xs R W⟩
/-- a def by its body, as Fun.ok; hgd is handed to the body -/
theorem okG {x qual : Str} {st : Stmt} {f : Addr} {fd : FuncData} {N ps : List Str} {k : Nat} {sp : Sp} (F : Fun K x qual st f fd) (S : FnScope N ps (defScope st))
    (len : ∀ xs G R W, sp xs G R W → xs.length = ps.length)
    (body : ∀ (cdv : Value) (B : Around) (out : List Env) (z : Shared) (G : Hp) (xs : List V) (R : VK) (W : XK), B.guards = some [] →
      Room k (B.deeper (envOfC qual (defScope st) z.heap.objs.size f cdv)) → sp xs G R W →
      ∃ t, PSs (cxOf CX P w K mg base N qual (defScope st) f cdv B out z G W).nox (defBody st) t ∧ t { nx := fun _ G' => R .non G', rt := R } (L2.start N xs) G) :
    FnG P w K mg base CX (k + 1) f fd ps sp := by
  obtain ⟨oc, od, kV, doc, pm, an, cdv, ct, osl, rfl, lk, hcd⟩ := F.ex
  refine ⟨len, fun B out z G ar us xs R W hgd hr env hb rv hsp => ?_⟩
  have hin : K.In z.heap := env.mod.kin.keeps fun b o e => (env.bs b o e).1
  have hlim : z.heap.NoLimit := env.mod.nolimit.keeps fun b o e => (env.bs b o e).1
  refine codeAny_call_function hr.depth (hin _ _ lk) rfl S.co S.gen rfl (PySem.W.codeRec_of hin hcd) (hb _ _ _ _ ?_)
  refine wpAny_newFunctionEnv_cells S.kind (fun ⟨n, v⟩ hy => ?_) fun e2 he z1 ic => ?_
  · rcases S.par n (List.of_mem_zip hy).1 with h | h
    · exact .inl h
    · exact .inr ⟨h, PySem.W.cellsFrom_some _ _ _ (.inl h)⟩
  subst he
  refine ⟨hlim.keeps ic.toInCall.keep, codeAny_func ?_⟩
  obtain ⟨t, ht, hq⟩ := body cdv B out z G xs R W hgd (hr.deeper _) hsp
  have inv := inv_start (CX := CX) (P := P) (w := w) (K := K) (mg := mg) (base := base) (E := W) S hr.hd env (len _ _ _ _ hsp) rv ic
  refine wpAny_mono (ht.nox.run [] z1 (L2.start N xs) G _ inv hq) (fun fl z' hz => ?_) fun _ _ hz => hz
  cases fl with
  | ret u => obtain ⟨v, σ', G', J, r2, q⟩ := hz; exact ⟨v, G', J.os, J.bare, J.base, J.hok, r2, q⟩
  | next => obtain ⟨σ', G', J, q⟩ := hz; exact ⟨V.non, G', J.os, J.bare, J.base, J.hok, rfl, q⟩
  | brk => obtain ⟨_, _, _, q⟩ := hz; exact q.elim
  | cont => obtain ⟨_, _, _, q⟩ := hz; exact q.elim
end
section
variable {X : Cx} {CX : CXT} {k : Nat} {f : Addr} {fd : FuncData} {ps : List Str} {sp : Sp} {dvs : List V} {ds : List Value} {E : XK} {x : Str} {p pos : Pos} {e : Expr} {es : List Expr} {t : TA}
/-- its call by its name -/
theorem pe_callG (F : FnG X.prog X.w X.K X.mg X.base CX k f fd ps sp) (hgd : X.A.guards = some []) (hr : Room k X.A) (hg : Gl X x) (hm : X.mg x = some (.ref f)) (hk : PySem.W.keepIn X.K (.ref f) = true)
    (hb : Binds X.K fd ps ds) (hd : Vals dvs ds) (hx : Passes CX X E) (ha : PA X (e :: es) t) (hdb : (x == ("__debug__" : Str)) = false := by decide)
    (he : starEach (e :: es) X.env = (false, eval e X.env) :: starEach es X.env := by rfl) (hpl : (backTo pos (starEach es X.env)).any (·.1) = false := by rfl) :
    PE X (.Call (.Name x p) (e :: es) [] pos) (tCall sp dvs E t) := by
  refine ⟨fun pins s σ H Q I h => wpAny_Call_Name_kw (ld_glob I hg hm ?_ hdb)⟩
  refine PySem.W.callWith_K (h₀ := X.base) I.ok.mod.kin hk (thn (ha.run pos pins s σ H _ I h) fun us s1 ⟨vs, H1, I1, r, q⟩ => ⟨I1.kIn, ?_⟩) he hpl
  have r2 := r.append hd
  have hl : (us ++ ds).length = ps.length := by rw [← r2.length]; exact F.len _ _ _ _ q
  refine wpAny_call (codeAny_mono (F.run X.A X.stack s1 H1 ⟨us, []⟩ _ _ Q E hgd hr I1.env0 (hb s1 us I1.kIn hl) r2 q) fun r s' hq => ?_)
  cases r with
  | error e => exact hx pins σ H1 s1 e s' I1 hq
  | ok fl =>
    cases fl with
    | ret u => exact I1.after hq
    | next => exact hq.elim
    | brk => exact hq.elim
    | cont => exact hq.elim
end
theorem huD {k : Nat} {A : Around} (hr : Room k A) : A.units + 200 < cLine := Nat.lt_of_le_of_lt (by omega) hr.un
section
variable {X : Cx}
/-- repr of data of any depth, while no repr is under way -/
def rReprD (K : PySem.W.Frag) : List V → Hp → VK → Prop := fun vs H Q => ∃ v d, vs = [v] ∧ Dp K H v d ∧ d.showable = true ∧ d.hasDict = false ∧ d.depth ≤ 100 ∧ d.shown.length ≤ sizeLine ∧ Q (.str d.shown) H
theorem call_reprD (hgd : X.A.guards = some []) (hu : X.A.units + 200 < cLine) : CallR X (.builtin "repr") (rReprD X.K) := by
  intro pins s σ H vs us Q I r h
  obtain ⟨v, d, rfl, hd, h1, h2, h3, h4, q⟩ := h
  obtain ⟨u, rfl, ru⟩ := vals1 r
  obtain ⟨as, rd⟩ := Dp.reads I d v u hd ru
  cases hd with
  | non => cases ru; exact PySem.P.repr_of_none ⟨.str _, H, I.tok _, ⟨_, rfl⟩, q⟩
  | bl b => cases ru; exact PySem.P.repr_of_bool ⟨.str _, H, I.tok _, ⟨_, rfl⟩, q⟩
  | int i => obtain ⟨t, rfl⟩ := ru; exact PySem.P.repr_of_int (of_decide_eq_true h1) ⟨.str _, H, I.tok _, ⟨_, rfl⟩, q⟩
  | str x => obtain ⟨t, rfl⟩ := ru; exact PySem.P.repr_of_str ⟨.str _, H, I.tok _, ⟨_, rfl⟩, q⟩ h4
  | lst _ _ =>
    cases ru
    exact repr_of_reads' rd h1 (PyData.noDict_hsm h2) hgd (by omega) (fun _ _ e => e) (fun h' u tk hk => ⟨.str _, H, I.kept hk, ⟨_, rfl⟩, q⟩) h4
  | tup _ _ =>
    cases ru
    exact repr_of_reads' rd h1 (PyData.noDict_hsm h2) hgd (by omega) (fun _ _ e => e) (fun h' u tk hk => ⟨.str _, H, I.kept hk, ⟨_, rfl⟩, q⟩) h4
end

/-! ### the law's end, with a promise that knows that no repr is under way -/
section
variable {P : Program} {w : World} {K : PySem.W.Frag} {mg mb : Str → Option Value} {CX : CXT}
theorem lawG {k : Nat} {fa a : Addr} {fd : FuncData} {x : Str} {sp : Sp} {z : Shared} {us : List Value} {ns : List Int} (hin : K.In z.heap) (hns : z.heap.Ns mainGlobals mg) (hb : z.heap.Ns builtinsNs mb)
    (hbb : ∀ y : Str, y ≠ "__name__" → mb y = bootBuiltins y) (hlim : z.heap.NoLimit) (hg : z.gens = #[]) (ha : z.heap.get? a = some { cls := .type "list", data := .seq us.toArray }) (hi : IntsAre us ns) (hl : ns.length ≤ sizeLine)
    (hr : Room k callerA) (F : ∀ bs : Heap, K.In bs → bs.Ns mainGlobals mg → FnG P w K mg bs CX k fa fd [x] sp) (hbind : ∀ (t : Shared) (u : Value), BindsTo t fd ⟨[u], []⟩ [(x, u)])
    (hsp : ∀ G : Hp, Only G → SqL K G a (ns.map V.int) → sp [.ref a] G (fun v _ => v = .bl true) fun _ _ _ => False) (hCX : ∀ G e t, CX [] G z (fun _ _ _ => False) e t → False) :
    codeAny (model P w) callerA (.call (.ref fa) ⟨[.ref a], []⟩) (fun r t => r = .ok (.ret (.bool true)) ∧ OldK z.heap t.heap ∧ t.os = z.os ∧ AllBare t.gens) z := by
  have rv := vals_ints hi
  have hlen : us.toArray.size ≤ sizeLine := by rw [List.size_toArray, hi.length]; exact hl
  -- the abstract heap: the script, locked, unless it is an object of the text's own
  obtain ⟨G, hG1, hG2, hG3, hG4⟩ : ∃ G : Hp, (∀ b u, G b = some u → b = a ∧ u = .frz { cls := .type "list", data := .seq us.toArray } (.lst (ns.map V.int))) ∧ (G a ≠ none → K.lookup a = none) ∧ Only G ∧ SqL K G a (ns.map V.int) := by
    cases hk : K.lookup a with
    | none =>
      refine ⟨fun b => if b = a then some (.frz { cls := .type "list", data := .seq us.toArray } (.lst (ns.map V.int))) else none, fun b u h => ?_, fun _ => rfl, fun b => ?_, .inl (.inr ⟨{ cls := .type "list", data := .seq us.toArray }, if_pos rfl⟩)⟩
      · by_cases e : b = a
        · dsimp only at h; rw [if_pos e] at h; exact ⟨e, (Option.some.inj h).symm⟩
        · dsimp only at h; rw [if_neg e] at h; cases h
      · by_cases e : b = a
        · exact .inr ⟨_, _, if_pos e⟩
        · exact .inl (if_neg e)
    | some o =>
      have e := hin a o hk
      rw [ha] at e
      cases e
      exact ⟨fun _ => none, fun b u h => (by cases h), fun h => absurd rfl h, fun _ => .inl rfl, .inr ⟨_, us.toArray, _, hk, rfl, rfl, rfl, hlen, by simpa using rv⟩⟩
  have keep : ∀ {b : Addr} {o : Obj}, z.heap.get? b = some o → G b = none → (hidT z.heap G).get? b = some o := fun e n => hidT_get e n
  have isA : ∀ {b : Addr}, G b ≠ none → b = a := fun {b} h => by
    cases q : G b with
    | none => exact absurd q h
    | some u => exact (hG1 b u q).1
  have dicts : ∀ {b : Addr} {m : Str → Option Value}, z.heap.Ns b m → (hidT z.heap G).Ns b m := fun {b m} ⟨o, es, ep, e, d, r⟩ => by
    refine ⟨o, es, ep, keep e ?_, d, r⟩
    cases q : G b with
    | none => rfl
    | some u =>
      have := isA (b := b) (by rw [q]; simp)
      subst this
      rw [ha] at e; cases e
      cases (show Data.seq us.toArray _ = Data.dict es ep from d)
  have inG : K.In (hidT z.heap G) := fun b o e => keep (hin b o e) (by
    cases q : G b with
    | none => rfl
    | some u =>
      have := isA (b := b) (by rw [q]; simp)
      subst this
      rw [hG2 (by rw [q]; simp)] at e; cases e)
  have lim : (hidT z.heap G).NoLimit := by
    obtain ⟨mc, h1, h2⟩ := hlim
    exact ⟨mc, dicts h1, h2⟩
  have hok : HOk P w G z.heap := fun b u h => by
    obtain ⟨rfl, rfl⟩ := hG1 b u h
    exact ⟨ha, by rw [List.length_map]; exact hl, us, _, rv, ha⟩
  have env : Env0 P w K mg (hidT z.heap G) callerA [] z G :=
    ⟨rfl, ⟨inG, dicts hns, ⟨mb, dicts hb, hbb⟩, lim⟩, fun b o e => of_hidT e, Nat.le_of_eq (hidT_size _ _), trivial, fun b hb => (by cases hb), hok, .of_eq hg⟩
  refine codeAny_mono ((F _ inG (dicts hns)).run callerA [] z G ⟨[.ref a], []⟩ [.ref a] [.ref a] _ _ rfl hr env (hbind z (.ref a)) (.cons rfl .nil) (hsp G hG3 hG4)) fun r t h => ?_
  cases r with
  | error e => exact (hCX G e t h).elim
  | ok fl =>
    cases fl with
    | next => exact h.elim
    | brk => exact h.elim
    | cont => exact h.elim
    | ret u =>
      obtain ⟨v, G', os, bare, un, hok', r', q⟩ := h
      cases (show v = .bl true from q)
      cases (show u = Value.bool true from r')
      refine ⟨rfl, OldK.of_keep fun b o e => ?_, os, bare⟩
      cases q : G b with
      | none => exact un.keep b o e q (fun hh => by cases hh) (by simp)
      | some u =>
        obtain ⟨rfl, rfl⟩ := hG1 b u q
        obtain ⟨e2, _⟩ := hok' b _ (un.frzs b _ _ q)
        rw [ha] at e
        rw [← e]
        exact e2
end
theorem walkG {l : PySem.W.OpenLaw} {n k : Nat} {q : Program} {loose : List Str} {XP : (Str → Option Value) → Heap → Prop} {YP : World → Heap → Prop} {d : DefRec} {K : Params → PySem.W.Frag} {CX : World → CXT} {sp : World → Sp} {x : Str}
    (hn : l.most = some n) (h2 : n ≤ sizeLine) (hdf : d.params.defaults = []) (hr : Room k callerA) (hY : ∀ (w : World) (h : Heap), YP w h → (K w.params).In h)
    (F : ∀ (w : World) (mg : Str → Option Value) (fa : Addr) (h : Heap), (K w.params).In h → h.Ns mainGlobals mg → mg d.name = some (.ref fa) →
      ∃ fd : FuncData, (∀ (s : Shared) (u : Value), BindsTo s fd ⟨[u], []⟩ [(x, u)]) ∧ ∀ bs : Heap, (K w.params).In bs → bs.Ns mainGlobals mg → FnG l.prog w (K w.params) mg bs (CX w) k fa fd [x] (sp w))
    (hsp : ∀ (w : World) (G : Hp) (a : Addr) (ns : List Int), ns.length ≤ n → Only G → SqL (K w.params) G a (ns.map V.int) → sp w [.ref a] G (fun v _ => v = .bl true) fun _ _ _ => False)
    (hCX : ∀ (w : World) (G : Hp) (s : Shared) (e : Value) (t : Shared), CX w [] G s (fun _ _ _ => False) e t → False) : PySem.W.WalkO q loose XP YP l.row.toRowW d [] (fun f vs => PySem.call f vs) := by
  refine Att.attach_call hn hdf fun w s₀ s₁ mg mb fa o pm cd doc a vs ns G Y ho hd hcd hmg hobj hints hlen hg => ?_
  have hin := hY w _ Y
  obtain ⟨fd, hb, hF⟩ := F w mg fa _ hin G.T.g hmg
  exact lawG hin G.T.g G.T.b G.T.builtins G.T.nolimit hg hobj hints (Nat.le_trans hlen h2) hr hF hb (fun G' o s => hsp w G' a ns hlen o s) fun G' e t => hCX w G' s₁ e t
end My
set_option Elab.async false
set_option linter.all false
set_option maxRecDepth 100000
set_option maxHeartbeats 4000000
set_option exponentiation.threshold 5000
/-! more rules: a tuple backwards, a list or a tuple walked, great powers -/
namespace My
open PySem PySem.Spec PyProof.Rows L2 Evl
section
variable {prog : Program} {w : World} {A : Around} {E : Value → Shared → Prop} {s : Shared}
theorem slParts {sl : Addr} {vl vu vs : Value} {lo hi st : Option Int} {c : Int} {n : Nat} {R : Int × Int × Nat → Shared → Prop} (hs : s.heap.IsSliceOf sl vl vu vs) (pl : IsPart vl lo) (pu : IsPart vu hi) (ps : IsPart vs st) (hc : st.getD 1 = c) (h0 : (c == 0) = false)
    (h : R ((Builtin.Slice.sliceAdjust lo hi c (n : Int)).1, c, Builtin.Slice.slicePlaces (Builtin.Slice.sliceAdjust lo hi c (n : Int)).1 (Builtin.Slice.sliceAdjust lo hi c (n : Int)).2 c) s) :
    wpAny (model prog w) A (Builtin.Slice.sliceApplied (.ref sl) (pure (n : Int))) R E s := by
  obtain ⟨ob, h1, h2, h3⟩ := hs
  unfold Builtin.Slice.sliceApplied Builtin.Slice.sliceFields
  refine wpAny_bind (wpAny_bind (wpAny_field h1 h3 (x := vl) rfl (wpAny_bind (wpAny_field h1 h3 (x := vu) rfl (wpAny_bind (wpAny_field h1 h3 (x := vs) rfl (wpAny_pure ?_)))))))
  refine wpAny_bind (HT.slicePart_ ps ?_)
  show wpAny _ _ (if (st.getD 1 == 0) = true then _ else _) _ _ s
  rw [hc, if_neg (by rw [h0]; exact Bool.false_ne_true)]
  refine wpAny_bind (HT.slicePart_ pl (wpAny_bind (HT.slicePart_ pu (wpAny_bind (wpAny_pure (wpAny_pure h))))))
theorem revPick (xs : Array Value) (n : Nat) (hn : xs.size = n) : ((List.range n).filterMap fun (k : Nat) => xs[((n : Int) - 1 + (k : Int) * (-1)).toNat]?).toArray = xs.toList.reverse.toArray := by
  subst hn
  congr 1
  have e : ∀ k : Nat, ((xs.size : Int) - 1 + (k : Int) * (-1)).toNat = xs.size - 1 - k := fun k => by omega
  have e2 : (fun (k : Nat) => xs[((xs.size : Int) - 1 + (k : Int) * (-1)).toNat]?) = fun k => xs[xs.size - 1 - k]? := by
    funext k
    rw [e k]
  rw [e2]
  have e3 : (List.range xs.size).filterMap (fun k => xs[xs.size - 1 - k]?) = ((List.range xs.size).map fun k => xs.size - 1 - k).filterMap (xs[·]?) := by
    rw [List.filterMap_map]; rfl
  rw [e3, PySem.W.krv_range, List.filterMap_reverse, PySem.W.krv_all]
/-- t[::-1] of a tuple, by the machine -/
theorem tupBack {t sl : Addr} {items : Array Value} {vl vu vs : Value} {R : Value → Shared → Prop} (ht : IsTup s.heap t items) (hs : s.heap.IsSliceOf sl vl vu vs) (pl : IsPart vl none) (pu : IsPart vu none) (ps : IsPart vs (some (-1))) (hz : items.size ≤ sizeLine)
    (h : R (.ref s.heap.objs.size) { s with heap := s.heap.push { cls := .type "tuple", data := .seq items.toList.reverse.toArray } }) : wpAny (model prog w) A (getItem (.ref t) (.ref sl)) R E s := by
  have hT : s.TypeIs (.ref sl) "slice" := by
    obtain ⟨ob, h1, h2, _⟩ := hs
    exact ⟨ob, h1, h2⟩
  have ok : sizeOk (.seq items.toList.reverse.toArray) := by
    show items.toList.reverse.toArray.size ≤ sizeLine
    rw [List.size_toArray, List.length_reverse, Array.length_toList]
    exact hz
  unfold getItem
  try with_reducible refine wpAny_holding ?_
  first | refine wpAny_bind (wpAny_pure ?_) | skip
  refine wpAny_bind (wpAny_sequenceKey ht.typeIs (by decide) ?_)
  refine wpAny_bind (wpAny_callSpecial?_slot (name := Str.ofString "__getitem__") ht.typeIs slot_tuple_getitem (wpAny_call_entry slot_tuple_getitem ht.typeIs entry_tuple_getitem ?_ (args_tuple_getitem _ _)))
  show wpAny _ _ (Builtin.Tuple.tupleItemsOf (.ref t) >>= _) _ _ s
  refine wpAny_bind (tupleItemsOf_ ht (wpAny_bind (wpAny_typeOf hT ?_)))
  rw [if_pos (by decide)]
  refine wpAny_bind (slParts (c := -1) hs pl pu ps rfl (by decide) ?_)
  have e1 : Builtin.Slice.sliceAdjust none none (-1) (items.size : Int) = ((items.size : Int) - 1, -1) := by
    unfold Builtin.Slice.sliceAdjust; rfl
  have e2 : Builtin.Slice.slicePlaces ((items.size : Int) - 1) (-1) (-1) = items.size := by
    unfold Builtin.Slice.slicePlaces
    rw [if_neg (by decide)]
    by_cases h0 : (items.size : Int) - 1 > -1
    · rw [if_pos h0]
      have : ((items.size : Int) - 1 - -1 - 1) / (- -1) = (items.size : Int) - 1 := by
        rw [show (- -1 : Int) = 1 by decide, Int.ediv_one]; omega
      rw [this]; omega
    · rw [if_neg h0]; omega
  rw [e1]
  show wpAny _ _ (if ((((items.size : Int) - 1 == 0) && ((-1 : Int) == 1)) && (Builtin.Slice.slicePlaces ((items.size : Int) - 1) (-1) (-1) == items.size)) = true then _ else _) _ _ s
  have no : ¬ (((((items.size : Int) - 1 == 0) && ((-1 : Int) == 1)) && (Builtin.Slice.slicePlaces ((items.size : Int) - 1) (-1) (-1) == items.size)) = true) := by
    rw [show ((-1 : Int) == 1) = false by decide]; simp
  rw [if_neg no, e2, revPick items items.size rfl]
  first
    | exact wpAny_bind (m := Builtin.Tuple.tupleExact _) (wpAny_newObj_type (wpAny_pure ⟨_, rfl, wpAny_pure h⟩) ok)
    | exact wpAny_bind (m := Builtin.Tuple.tupleExact _) (wpAny_newObj_type (wpAny_bind (wpAny_pure (wpAny_pure ⟨_, rfl, wpAny_pure h⟩))) ok)
    | exact wpAny_bind (wpAny_bind (m := Builtin.Tuple.tupleExact _) (wpAny_newObj_type (wpAny_pure (wpAny_pure ⟨_, rfl, wpAny_pure h⟩)) ok))
    | exact wpAny_bind (wpAny_bind (m := Builtin.Tuple.tupleExact _) (wpAny_newObj_type (wpAny_pure ⟨_, rfl, wpAny_pure h⟩) ok))
end
section
variable {X : Cx}
/-- t[::-1] of a tuple -/
def tRevT (K : PySem.W.Frag) (te : TE) : TE := fun σ H Q => te σ H fun x H1 => ∃ a xs, x = .ref a ∧ SqT K H1 a xs ∧ ∀ p, H1 p = none → Q (.ref p) (upd H1 p (.tup xs.reverse))
theorem pe_revT {e : Expr} {te : TE} {k : Nat} {p1 p2 p3 pos : Pos} (he : PE X e te) : PE X (.Subscript e (.Slice none none (some (.UnaryOp .USub (.Constant (.int 1) k p1) p2)) p3) pos) (tRevT X.K te) := by
  refine ⟨fun pins s σ H Q I h => Subscript_ (thn (he.run pins s σ H _ I h) fun v s1 ⟨x, H1, I1, r1, a, xs, ex, hx, q⟩ => ?_)⟩
  subst ex
  cases r1
  have step : PO X (some (.UnaryOp .USub (.Constant (.int 1) k p1) p2)) (tPart (tUn (rU fun i => .int (-i)) (tC (.int 1)))) := po_some (pe_un un_neg pe_int)
  refine wpAny_Slice (thn (po_none.run pins s1 σ H1 (fun o G => o = none ∧ G = H1) I1 ⟨rfl, rfl⟩) fun vl s2 ⟨o2, H2, I2, pl, e2, g2⟩ => ?_)
  subst e2 g2
  refine thn (po_none.run pins s2 σ H2 (fun o G => o = none ∧ G = H2) I2 ⟨rfl, rfl⟩) fun vu s3 ⟨o3, H3, I3, pu, e3, g3⟩ => ?_
  subst e3 g3
  refine thn (step.run pins s3 σ H3 (fun o G => o = some (-1) ∧ G = H3) I3 ⟨1, rfl, -1, rfl, rfl, rfl⟩) fun vs s4 ⟨o4, H4, I4, ps, e4, g4⟩ => ?_
  subst e4 g4
  generalize hs5 : ({ s4 with heap := s4.heap.push { cls := .type "slice", data := .fields #[vl, vu, vs] } } : Shared) = s5
  have I5 : Inv X pins σ H4 s5 := by rw [← hs5]; exact I4.kept (t' := s4.toks) fun b ob q => Heap.get?_push_of_some _ q
  have hsl : s5.heap.IsSliceOf s4.heap.objs.size vl vu vs := by rw [← hs5]; exact Heap.IsSliceOf.new _ vl vu vs
  obtain ⟨its, r, ht, hz⟩ := I5.tuple hx
  have hlen := r.length
  show wpAny (model X.prog X.w) X.A (subscriptTail e (.Slice none none (some (.UnaryOp .USub (.Constant (.int 1) k p1) p2)) p3) (.ref a) (.ref s4.heap.objs.size)) (EP X pins σ Q) X.xe _
  refine tail_any (ops := [.ref a, .ref s4.heap.objs.size]) ht.typeIs slot_tuple_getitem.lookup (tupBack ht hsl pl pu ps (by rw [List.size_toArray]; omega) ?_) (by with_unfolding_all rfl)
  refine ⟨.ref _, _, I5.laid (t' := s5.toks) (o := .tup xs.reverse) (fun b ob q => Heap.get?_push_of_some _ q) (Nat.le_refl _) ?_, rfl, q _ (I5.hok.fresh (Nat.le_refl _))⟩
  exact ⟨by rw [List.length_reverse]; exact hz, _, r.reverse, IsTup.new _ _⟩
/-- a list or a tuple, walked -/
def iLT (K : PySem.W.Frag) (tl : TE) : TI := fun σ H R => tl σ H fun x H1 => ∃ a, x = .ref a ∧ (((∃ xs, SqL K H1 a xs) ∧ R (Itl K a) H1) ∨ ((∃ xs, SqT K H1 a xs) ∧ R (Itt K a) H1))
theorem pi_lt {tg l : Expr} {tl : TE} (hl : PE X l tl) : PI X tg l (iLT X.K tl) := by
  refine ⟨fun pins s σ H R I h => thn (hl.run pins s σ H _ I h) fun v s1 ⟨x, H1, I1, r1, a, ex, q⟩ => ?_⟩
  subst ex
  cases r1
  have fresh : ∀ b ∈ [s1.heap.objs.size], FpOk X pins H1 b := fun b hb => by
    rw [List.mem_singleton.mp hb]
    exact I1.fpOk (Nat.le_refl _) (I1.hok.fresh (Nat.le_refl _))
  rcases q with ⟨⟨xs, hq⟩, q⟩ | ⟨⟨xs, hq⟩, q⟩
  · obtain ⟨its, rv, p, hz⟩ := I1.list hq
    exact wpAny_pyIter_list p.isList ⟨s1.heap.objs.size, _, _, _, H1, rfl, I1.kept (t' := s1.toks) fun b o e => Heap.get?_push_of_some _ e, turn_list a _, ⟨_, Heap.get?_push_size _ rfl, rfl, rfl⟩, fresh, q⟩
  · obtain ⟨its, rv, p, hz⟩ := I1.tuple hq
    exact wpAny_pyIter_tuple (show s1.heap.IsTuple a its.toArray from p) ⟨s1.heap.objs.size, _, _, _, H1, rfl, I1.kept (t' := s1.toks) fun b o e => Heap.get?_push_of_some _ e, turn_tuple a _, ⟨_, Heap.get?_push_size _ rfl, rfl, rfl⟩, fresh, q⟩
/-- powers of great ints -/
def CPowX (i j : Int) : Prop := 0 ≤ j ∧ (Builtin.Int.intBits i : Int) * j ≤ 2 ^ 27
theorem op_powX : OpR X (binaryOp .Pow) (rI CPowX fun i j => .int (i ^ j.toNat)) := opI fun _ _ _ _ _ _ _ hc q => pow_int hc.1 hc.2 q
theorem powXOk {i j : Int} {n : Nat} (h0 : 0 ≤ j) (h1 : j ≤ 1000) (hi : i.natAbs < 2 ^ n) (hn : n ≤ 1000) : CPowX i j := by
  refine ⟨h0, ?_⟩
  have hb : Builtin.Int.intBits i ≤ 1001 := by
    unfold Builtin.Int.intBits
    split
    · omega
    · have := PySem.Flt.log2_lt_of (k := n + 1) (by omega) (Nat.lt_of_lt_of_le hi (Nat.pow_le_pow_right (by decide) (by omega)))
      omega
  have a1 : (Builtin.Int.intBits i : Int) * j ≤ 1001 * 1000 := Int.mul_le_mul (by omega) h1 h0 (by decide)
  omega
end

/-! ### texts of lists and tuples of ints -/
theorem shInts : ∀ xs : List Int, (∀ x ∈ xs, x.natAbs.log2 < 1920) → PyData.showableAll (xs.map PyData.int) = true ∧ PyData.leavesShortAll 1921 (xs.map PyData.int) = true ∧ PyData.hasDictAll (xs.map PyData.int) = false ∧ PyData.bulkAll (xs.map PyData.int) = xs.length
  | [], _ => ⟨rfl, rfl, rfl, rfl⟩
  | x :: xs, h => by
    obtain ⟨a, b, c, d⟩ := shInts xs fun y hy => h y (List.mem_cons_of_mem _ hy)
    have hx := h x (List.mem_cons_self ..)
    refine ⟨?_, ?_, ?_, ?_⟩
    · rw [List.map_cons, PyData.showableAll, a, PyData.showable, decide_eq_true hx]; rfl
    · rw [List.map_cons, PyData.leavesShortAll, b, PyData.leavesShort, decide_eq_true (show (PyData.shown (.int x)).length ≤ 1921 from int_text_len_1921 hx)]; rfl
    · rw [List.map_cons, PyData.hasDictAll, c, PyData.hasDict]; rfl
    · rw [List.map_cons, PyData.bulkAll, d, PyData.bulk, List.length_cons]; omega
theorem reprIntsL {K : PySem.W.Frag} {H : Hp} {a : Addr} {xs : List Int} {Q : VK} (ha : SqL K H a (xs.map V.int)) (hl : xs.length ≤ 4000) (hx : ∀ x ∈ xs, x.natAbs.log2 < 1920) (q : Q (.str (PyData.list (xs.map PyData.int)).shown) H) : rReprD K [.ref a] H Q := by
  obtain ⟨h1, h2, h3, h4⟩ := shInts xs hx
  refine ⟨_, _, rfl, .lst ha (dpInts xs), by rw [PyData.showable]; exact h1, by rw [PyData.hasDict]; exact h3, by rw [PyData.depth, depthInts]; omega, ?_, q⟩
  have := PyData.shown_le_bulk 1921 (by decide) (.list (xs.map PyData.int)) (by rw [PyData.leavesShort]; exact h2)
  rw [PyData.bulk, h4] at this
  exact Nat.le_trans this (by rw [sizeLine_eq]; omega)
theorem reprIntsT {K : PySem.W.Frag} {H : Hp} {a : Addr} {xs : List Int} {Q : VK} (ha : SqT K H a (xs.map V.int)) (hl : xs.length ≤ 4000) (hx : ∀ x ∈ xs, x.natAbs.log2 < 1920) (q : Q (.str (PyData.tuple (xs.map PyData.int)).shown) H) : rReprD K [.ref a] H Q := by
  obtain ⟨h1, h2, h3, h4⟩ := shInts xs hx
  refine ⟨_, _, rfl, .tup ha (dpInts xs), by rw [PyData.showable]; exact h1, by rw [PyData.hasDict]; exact h3, by rw [PyData.depth, depthInts]; omega, ?_, q⟩
  have := PyData.shown_le_bulk 1921 (by decide) (.tuple (xs.map PyData.int)) (by rw [PyData.leavesShort]; exact h2)
  rw [PyData.bulk, h4] at this
  exact Nat.le_trans this (by rw [sizeLine_eq]; omega)
theorem reprIntD {K : PySem.W.Frag} {H : Hp} {x : Int} {Q : VK} (hx : x.natAbs.log2 < 1920) (q : Q (.str (PyData.int x).shown) H) : rReprD K [.int x] H Q :=
  ⟨_, _, rfl, .int x, by rw [PyData.showable, decide_eq_true hx], by rw [PyData.hasDict], by rw [PyData.depth]; omega, Nat.le_trans (int_text_len_1921 hx) (by decide), q⟩
theorem reprBlD {K : PySem.W.Frag} {H : Hp} {b : Bool} {Q : VK} (q : Q (.str (PyData.bool b).shown) H) : rReprD K [.bl b] H Q :=
  ⟨_, _, rfl, .bl b, by rw [PyData.showable], by rw [PyData.hasDict], by rw [PyData.depth]; omega, by cases b <;> exact sz_le (by decide), q⟩
/-! ### slices -/
theorem cut_lo (ns : List Int) (k : Nat) : cutV (ns.map V.int) (some (k : Int)) none = (ns.drop k).map V.int := by
  unfold cutV
  rw [List.length_map, HT.sIx_nat, HT.sIx_none, ← List.map_drop, ← List.map_take]
  congr 1
  by_cases h : k ≤ ns.length
  · rw [Nat.min_eq_left h, List.take_of_length_le (by rw [List.length_drop]; omega)]
  · rw [Nat.min_eq_right (by omega), List.drop_of_length_le (Nat.le_refl _), List.drop_of_length_le (by omega), List.take_nil]
/-- a slice of a tuple of ints: by what it holds, the tuple itself or a new one -/
theorem slTup {K : PySem.W.Frag} {H : Hp} {a : Addr} {ns : List Int} {lo hi : Option Int} {Q : VK} (ha : H a = some (.tup (ns.map V.int)))
    (q : ∀ p H1, Ex H H1 → H1 p = some (.tup (cutV (ns.map V.int) lo hi)) → Q (.ref p) H1) : rSlA K (.ref a) lo hi H Q := by
  refine ⟨a, _, rfl, st_of ha, fun h => q a H (Ex.refl H) ?_, fun _ p hp => q p _ (Ex.new hp) upd_same⟩
  have e : cutV (ns.map V.int) lo hi = ns.map V.int := by
    unfold cutV
    rw [h.1, h.2, List.drop_zero, Nat.sub_zero, List.take_length]
  rw [e]
  exact ha
theorem mulOk8 {i j : Int} (a0 : -(2 ^ 900) < i) (a1 : i < 2 ^ 900) (b0 : -(2 ^ 900) < j) (b1 : j < 2 ^ 900) : CMulX i j :=
  mulx_ok (nab a0 a1) (nab b0 b1) (by decide)
theorem reprOk8 {i : Int} (a0 : -(2 ^ 900) < i) (a1 : i < 2 ^ 900) : i.natAbs.log2 < 1920 :=
  Nat.lt_of_lt_of_le (PySem.Flt.log2_lt_of (by decide) (nab a0 a1)) (by decide)
theorem divOk8 {i j : Int} (a0 : 0 < j) (a1 : j < 2 ^ 900) : CDivW i j :=
  wide_div a0 (nab (n := 900) (Int.lt_trans (by rw [Int.neg_lt_zero_iff]; exact Int.pow_pos (by decide)) a0) a1) (by decide) (by decide)
/-- a comprehension that copies ints: so far -/
def CP (D : Addr) (ns : List Int) (H : Hp) : Nat → Hp → Prop := fun i H' => H' D = some (.lst ((ns.take i).map V.int)) ∧ Ex H H'
theorem CP.start {D : Addr} {ns : List Int} {H : Hp} (h : H D = none) : CP D ns H 0 (upd H D (.lst [])) := ⟨upd_same, Ex.new h⟩
theorem CP.turn {D : Addr} {ns : List Int} {H H' : Hp} {i : Nat} {n : Int} (h : H D = none) (c : CP D ns H i H') (hn : ns[i]? = some n) (hl : ns.length ≤ 4000) :
    ∃ acc, H' D = some (.lst acc) ∧ acc.length < sizeLine ∧ CP D ns H (i + 1) (upd H' D (.lst (acc ++ [V.int n]))) := by
  refine ⟨_, c.1, sz_lt (by simp; omega), ?_, c.2.mut h⟩
  rw [upd_same, List.take_add_one, hn, List.map_append]
  rfl
theorem CP.done {D : Addr} {ns : List Int} {H H' : Hp} (c : CP D ns H (ns.map V.int).length H') : H' D = some (.lst (ns.map V.int)) ∧ Ex H H' := by
  have := c.1
  rw [List.length_map, List.take_length] at this
  exact ⟨this, c.2⟩

/-! ### the same rules with the written part named: within a comprehension's block -/
section
variable {X : Cx} {K : PySem.W.Frag}
theorem sl_listK (h : X.K = K := by rfl) : SlR X (rSlM K) := by subst h; exact sl_listM
theorem ix_listK (h : X.K = K := by rfl) : IxR X (rIx1 K) := by subst h; exact ix_listM
theorem ix_tupK (h : X.K = K := by rfl) : IxR X (rIxT K) := by subst h; exact ix_tup
theorem sl_tupK (h : X.K = K := by rfl) : SlR X (rSlA K) := by subst h; exact sl_tupA
theorem op_inK (h : X.K = K := by rfl) : OpR X (compareOp .In) (rIn K false) := by subst h; exact op_in_seq
theorem op_notInK (h : X.K = K := by rfl) : OpR X (compareOp .NotIn) (rIn K true) := by subst h; exact op_notIn_seq
theorem op_eqK (hu : X.A.units + 64 < cLine) (h : X.K = K := by rfl) : OpR X (compareOp .Eq) (rEqD K) := by subst h; exact op_eqD hu
theorem op_neK (hu : X.A.units + 64 < cLine) (h : X.K = K := by rfl) : OpR X (compareOp .NotEq) (rNeD K) := by subst h; exact op_neD hu
def rLenK (K : PySem.W.Frag) : List V → Hp → VK → Prop := fun xs H Q => ∃ p ys, xs = [.ref p] ∧ (SqL K H p ys ∨ SqT K H p ys) ∧ Q (.int ys.length) H
theorem call_lenK (h : X.K = K := by rfl) : CallR X (.builtin "len") (rLenK K) := by subst h; exact call_len_seq
end
theorem inInts {z : Int} : ∀ {ms : List Int}, inV (.int z) (ms.map V.int) = decide (z ∈ ms)
  | [] => rfl
  | m :: ms => by
    unfold inV
    rw [List.map_cons, List.any_cons]
    have ih : (List.map V.int ms).any (fun y => eqV y (.int z)) = decide (z ∈ ms) := inInts
    rw [ih]
    show ((m == z) || decide (z ∈ ms)) = decide (z ∈ m :: ms)
    by_cases h1 : m = z
    · subst h1; simp
    · have h2 : ¬ z = m := fun e => h1 e.symm
      simp [h1, h2]
theorem flatInts : ∀ ms : List Int, (ms.map V.int).all flatV = true
  | [] => rfl
  | m :: ms => by rw [List.map_cons, List.all_cons, flatInts ms]; rfl
end My
set_option Elab.async false
set_option linter.all false
set_option maxRecDepth 100000
set_option maxHeartbeats 4000000
/-! enumerate over a list or a tuple; isinstance by a tuple of types -/
namespace My
open PySem PySem.Spec PyProof.Rows L2 Evl
theorem enumNew1 {v : Value} {o : Obj} {J : Heap → Prop} (B : Begins v o J) :
    Meets (Builtin.«enumerate.__new__» ⟨[.type "enumerate", v], []⟩) (fun _ R s => J s.heap ∧
      R (.ok (.ret (.ref (s.heap.push o).objs.size))) { s with heap := (s.heap.push o).push { cls := .type "enumerate", data := .fields #[.none, .bool false, .ref s.heap.objs.size, rawInt 0, .none, .none] } }) :=
  .of_wp fun prog w A R s h => by
    obtain ⟨hp, g, d, tk, os⟩ := s; obtain ⟨h1, h⟩ := h
    have hsub := sub_enumerate
    have it1 : ∀ {A' : Around} {E : Value → Shared → Prop} {Q : Value → Shared → Prop}, Q (.ref hp.objs.size) ⟨hp.push o, g, d, tk, os⟩ → wpAny (model prog w) A' (pyIter v) Q E ⟨hp, g, d, tk, os⟩ :=
      fun q => B.iter prog w _ _ ⟨hp, g, d, tk, os⟩ _ h1 q
    wp_walk using it1
    refine wpAny_stack_any fun st => wpAny_pure ?_
    split
    · rename_i c _ _ _ _ _
      cases (c == Value.type "enumerate") <;> (wp_walk using it1; exact ⟨_, rfl, h⟩)
    · wp_walk using it1
      exact ⟨_, rfl, h⟩
section
variable {prog : Program} {w : World} {A : Around} {E : Value → Shared → Prop} {s : Shared}
theorem enumCall {v : Value} {o : Obj} {J : Heap → Prop} {Q : Value → Shared → Prop} (B : Begins v o J) (h1 : J s.heap)
    (h : ∀ h', IsEnum h' (s.heap.objs.size + 1) s.heap.objs.size 0 .none → h'.get? s.heap.objs.size = some o → h'.objs.size = s.heap.objs.size + 2 →
      (∀ b u, s.heap.get? b = some u → h'.get? b = some u) → Q (.ref (s.heap.objs.size + 1)) { s with heap := h' }) :
    wpAny (model prog w) A (call (.type "enumerate") [v]) Q E s := by
  refine callType_new F.called_enumerate (by decide) (F.typeCall_enumerate_1 _) (F.newCall_enumerate_1 _) (fun obj => F.args_object_init_2 obj _) F.entry_enumerate_new (enumNew1 B) ⟨h1, ?_⟩
  have hz : (s.heap.push o).objs.size = s.heap.objs.size + 1 := Heap.size_push ..
  show _ ∧ _
  rw [hz]
  have he : IsEnum ((s.heap.push o).push { cls := .type "enumerate", data := .fields #[.none, .bool false, .ref s.heap.objs.size, rawInt 0, .none, .none] }) (s.heap.objs.size + 1) s.heap.objs.size 0 .none := by
    have q := Heap.get?_push_size (s.heap.push o) (o := { cls := .type "enumerate", data := .fields #[.none, .bool false, .ref s.heap.objs.size, rawInt 0, .none, .none] }) rfl
    rw [hz] at q; exact q
  exact ⟨⟨_, he, rfl⟩, h _ he (Heap.get?_push_of_some _ (Heap.get?_push_size _ B.free)) (by rw [Heap.size_push, hz]) fun b u x => Heap.get?_push_of_some _ (Heap.get?_push_of_some _ x)⟩
end
/-- the tuple at a, each item in a new pair -/
def IteT (K : PySem.W.Frag) (a : Addr) : It :=
  ⟨fun i H => ∃ (xs : List V) (x : V), SqT K H a xs ∧ xs[i]? = some x, fun i H v H' => ∃ T x, v = .ref T ∧ H T = none ∧ H' = upd H T (.tup [.int (i : Nat), x]) ∧ ∀ xs, SqT K H a xs → xs[i]? = some x, fun i H => ∃ xs : List V, SqT K H a xs ∧ xs.length ≤ i⟩
theorem turn_enumT {P : Program} {w : World} {K : PySem.W.Frag} {elts : List Expr} {kk : Nat} {tpos : Pos} (a e it : Addr) :
    Turn P w K (.Tuple elts kk tpos) (IteT K a) [e, it] e (fun i h => (∃ old, IsEnum h e it ((i : Nat) : Int) old) ∧ h.IsTupleIter it a i ∧ e ≠ it ∧ a ≠ it ∧ a ≠ e) where
  mem := by simp
  obj := fun i h at0 b hb => by
    obtain ⟨⟨old, hen⟩, ⟨o, ho, hc, hd⟩, _⟩ := at0
    have which : b = e ∨ b = it := by simpa using hb
    rcases which with z | z
    · rw [z]; exact ⟨_, hen, fun v q => nomatch q⟩
    · rw [z]; exact ⟨o, ho, fun v q => by rw [hd] at q; cases q⟩
  keep := fun i h h' at0 k => let ⟨⟨old, hen⟩, hi, hne⟩ := at0; ⟨⟨old, k e (by simp) _ hen⟩, hi.at fun o q => k it (by simp) o q, hne⟩
  item := by
    intro X hP hw hK hc i pins s σ H E I own at0 more
    subst hP hw hK
    obtain ⟨⟨old, hen⟩, hir, hne, hai, hae⟩ := at0
    obtain ⟨xs, x, seq, hx⟩ := more
    obtain ⟨us2, rels, p, hz⟩ := I.tuple seq
    obtain ⟨u, hu, ru⟩ := rels.get hx
    have enl : e < s.heap.objs.size := Heap.lt_size hen
    have irl : it < s.heap.objs.size := by obtain ⟨_, q, _⟩ := hir; exact Heap.lt_size q
    have ht : s.heap.IsTuple a us2.toArray := p
    have hi : i < us2.toArray.size := by
      have := (List.getElem?_eq_some_iff.mp hu).1
      simpa using this
    refine wpAny_pyNext_enum_itemD (Draws.tuple (A := X.A.in1) (I.ok.hd hc) it a hai us2.toArray) hen ⟨hir, ht⟩ hi hne (by simp [hne, Ne.symm hae]) fun y h' tk hP ho hS hT hsz kept => ?_
    have ey : y = u := by
      have h1 : us2.toArray[i]? = some y := hP
      have h2 : us2.toArray[i]? = some u := by simpa using hu
      rw [h1] at h2; exact Option.some.inj h2
    subst ey
    refine ⟨_, rfl, wpAny_letOwnedTupleGo_enum (s := { s with heap := h', toks := tk + 1 }) ho fun h'' he' same => ?_⟩
    have hT2 : h''.get? s.heap.objs.size = some { cls := .type "tuple", data := .seq #[.int i tk, y] } := (same.2 _ (Nat.ne_of_gt enl)).trans hT
    have new : ObjOk X.prog X.w (upd H s.heap.objs.size (.tup [.int (i : Nat), x])) h'' s.heap.objs.size (.tup [.int (i : Nat), x]) :=
      ⟨by show 2 ≤ sizeLine; decide, [.int i tk, y], .cons ⟨_, rfl⟩ (.cons ru .nil), ⟨_, hT2, rfl, _, rfl⟩⟩
    have J1 : Inv X pins σ (upd H s.heap.objs.size (.tup [.int (i : Nat), x])) { s with heap := h'', toks := tk + 1 } :=
      I.turnedNew (ch := [e, it]) (fun b ob hb q => (same.2 b (fun z => hb (by simp [z]))).trans (kept b ob (fun z => hb (by simp [z])) (fun z => hb (by simp [z])) q)) own (Nat.le_refl _) new
    refine ⟨.ref s.heap.objs.size, _, J1, rfl, ⟨_, x, rfl, I.hok.fresh (Nat.le_refl _), rfl, fun ys hy => by rw [I.tuple_inj hy seq]; exact hx⟩, ⟨⟨y, ?_⟩, hS.1.at fun o q => (same.2 it (Ne.symm hne)).trans q, hne, hai, hae⟩, fun b hb => ?_⟩
    · have e1 : ((i + 1 : Nat) : Int) = (i : Int) + 1 := by omega
      rw [e1]; exact he'
    · have hb' : b < s.heap.objs.size := by
        have which : b = e ∨ b = it := by simpa using hb
        rcases which with z | z
        · rw [z]; exact enl
        · rw [z]; exact irl
      rw [upd_ne (Nat.ne_of_lt hb')]
      exact (own b hb).1
  done := by
    intro X hP hw hK hc i pins s σ H E I own at0 more
    subst hP hw hK
    obtain ⟨⟨old, hen⟩, hir, hne, hai, hae⟩ := at0
    obtain ⟨xs, seq, hx⟩ := more
    obtain ⟨us2, rels, p, hz⟩ := I.tuple seq
    obtain ⟨f0, f1, f2, f3, f4, f5⟩ := own it (by simp)
    have hl := rels.length
    have hT : s.TypeIs (.ref e) "enumerate" := ⟨_, hen, rfl⟩
    unfold pyNext
    refine wpAny_bind (wpAny_attempt (wpAny_callSpecial?_slot (name := Str.ofString "__next__") hT F.slot_enumerate_next
      (wpAny_call_entry F.slot_enumerate_next hT F.entry_enumerate_next ?_ (F.args_enumerate_next_1 _))))
    show wpAny _ _ (field (.ref e) 2 >>= _) _ _ _
    refine wpAny_bind (wpAny_field hen rfl (x := .ref it) rfl ?_)
    refine wpAny_bind (wpAny_nextOf_tuple_end (I.ok.hd hc) hir (show s.heap.IsTuple a us2.toArray from p) (by simp; omega) fun h' x he' hx' => ?_)
    obtain ⟨o, ho, hc⟩ := hx'
    refine wpAny_bind (wpAny_isInstance (T := "StopIteration") (b := true) ⟨o, ho, hc⟩ isSubtype_stop ?_)
    exact wpAny_pure ⟨rfl, I.turned (t' := s.toks) (fun b o hb q => he' b o hb q) f0 f1 f3 f4 f5⟩
  self := fun A i s Q E at0 h => let ⟨⟨_, hen⟩, _⟩ := at0; wpAny_pyIter_enum hen h
/-- enumerate of a list or a tuple -/
def iEnumX (K : PySem.W.Frag) (ta : TA) : TI := fun σ H R => ta σ H fun vs H1 => ∃ a, vs = [.ref a] ∧ (((∃ xs, SqL K H1 a xs) ∧ R (Ite K a) H1) ∨ ((∃ xs, SqT K H1 a xs) ∧ R (IteT K a) H1))
theorem pi_enumX {X : Cx} {e : Expr} {ta : TA} {p pos tpos : Pos} {elts : List Expr} {kk : Nat} (more : Gl X "enumerate") (hm : X.mg "enumerate" = none) (ha : PA X [e] ta) (hs : starEach [e] X.env = [(false, eval e X.env)] := by rfl) :
    PI X (.Tuple elts kk tpos) (.Call (.Name "enumerate" p) [e] [] pos) (iEnumX X.K ta) := by
  refine ⟨fun pins s σ H R I h => ?_⟩
  refine Call_ (ld_blt I more hm boot_enumerate (PyProof.Rows.callWith_type1 (thn (ha.run pos pins s σ H _ I h) fun us s1 ⟨vs, H1, J1, r1, q1⟩ => ?_) hs rfl))
  obtain ⟨a, ex, q⟩ := q1
  subst ex
  cases r1 with
  | cons r rr =>
    cases rr
    cases r
    have fps : ∀ b ∈ [s1.heap.objs.size + 1, s1.heap.objs.size], FpOk X pins H1 b := fun b hb => by
      have which : b = s1.heap.objs.size + 1 ∨ b = s1.heap.objs.size := by simpa using hb
      have high : s1.heap.objs.size ≤ b := by
        rcases which with z | z
        · rw [z]; exact Nat.le_add_right _ _
        · rw [z]; exact Nat.le_refl _
      exact J1.fpOk high (J1.hok.fresh high)
    rcases q with ⟨⟨xs, seq⟩, q⟩ | ⟨⟨xs, seq⟩, q⟩
    · obtain ⟨us2, rels, p', hz⟩ := J1.list seq
      refine call_enumerate_list p'.isList fun h' hen hir hsz kept => wpAny_pyIter_enum hen ?_
      exact ⟨s1.heap.objs.size + 1, [s1.heap.objs.size + 1, s1.heap.objs.size], _, _, H1, rfl, J1.kept (t' := s1.toks) kept, turn_enum a (s1.heap.objs.size + 1) s1.heap.objs.size, ⟨⟨.none, hen⟩, hir, Nat.succ_ne_self _⟩, fps, q⟩
    · obtain ⟨us2, rels, p', hz⟩ := J1.tuple seq
      have ht : s1.heap.IsTuple a us2.toArray := p'
      have hal : a < s1.heap.objs.size := by obtain ⟨o, q1, _⟩ := ht; exact Heap.lt_size q1
      refine enumCall (begins_tuple a us2.toArray) ht fun h' hen hir hsz kept => wpAny_pyIter_enum hen ?_
      exact ⟨s1.heap.objs.size + 1, [s1.heap.objs.size + 1, s1.heap.objs.size], _, _, H1, rfl, J1.kept (t' := s1.toks) kept, turn_enumT a (s1.heap.objs.size + 1) s1.heap.objs.size, ⟨⟨.none, hen⟩, ⟨_, hir, rfl, rfl⟩, Nat.succ_ne_self _, Nat.ne_of_lt hal, Nat.ne_of_lt (Nat.lt_succ_of_lt hal)⟩, fps, q⟩
/-- isinstance(x, (t1, t2)): types that are built in -/
def rIsi2 : List V → Hp → VK → Prop
  | [x, .ref tp], H, Q => ∃ n m t b c, H tp = some (.tup [.ty n, .ty m]) ∧ vty H x = some t ∧ kitB t n = some b ∧ kitB t m = some c ∧ Q (.bl (b || c)) H
  | _, _, _ => False
theorem call_isi2 {X : Cx} : CallR X (.builtin "isinstance") rIsi2 := by
  intro pins s σ H xs us Q I r h
  unfold rIsi2 at h
  split at h
  · obtain ⟨n, m, t, b, c, h0, h1, h2, h3, q⟩ := h
    refine call_isiT pins s σ H _ us Q I r ⟨_, _, _, _, [.type n, .type m], b || c, rfl, h0, .cons (.ty _) (.cons (.ty _) .nil), tyX_of h1, ?_, q⟩
    refine kitAny_cons (kit_ty h2) (fun e => ?_) (fun e => by rw [e]; rfl)
    rw [e, Bool.false_or]
    exact kitAny_cons (kit_ty h3) (fun e => by rw [e]; exact kitAny_nil) fun e => e
  · exact h.elim
theorem kb10 : kitB "list" "tuple" = some false := by decide +kernel
theorem kb11 : kitB "tuple" "list" = some false := by decide +kernel
theorem kb12 : kitB "tuple" "tuple" = some true := by decide +kernel
theorem kb13 : kitB "int" "list" = some false := by decide +kernel
theorem kb14 : kitB "int" "tuple" = some false := by decide +kernel
theorem kb15 : kitB "NoneType" "list" = some false := by decide +kernel
theorem kb16 : kitB "NoneType" "tuple" = some false := by decide +kernel
theorem kb17 : kitB "str" "list" = some false := by decide +kernel
theorem kb18 : kitB "str" "tuple" = some false := by decide +kernel
theorem kb19 : kitB "bool" "list" = some false := by decide +kernel
theorem kb20 : kitB "bool" "tuple" = some false := by decide +kernel
theorem for_enumL {K : PySem.W.Frag} {a : Addr} {xs : List V} {g : TG} {tb : TS} {D : Ends} {σ : L2.St} {H : Hp} (Iv : Nat → L2.St → Hp → Prop) (h0 : Iv 0 σ H) (holds : ∀ i σ H, i ≤ xs.length → Iv i σ H → SqL K H a xs)
    (turns : ∀ i x σ H T, xs[i]? = some x → Iv i σ H → H T = none → g (.ref T) σ (upd H T (.tup [.int (i : Nat), x])) fun σ2 H2 => tb { D with nx := Iv (i + 1), ct := Iv (i + 1), bk := D.nx } σ2 H2) (fin0 : ∀ σ H, Iv xs.length σ H → D.nx σ H) :
    ∃ W : Nat → Nat → L2.St → Hp → Prop, (∃ m, W 0 m σ H) ∧ ∀ i m σ H, W i m σ H →
      ((Ite K a).stop i H ∧ D.nx σ H) ∨ ((Ite K a).go i H ∧ ∃ N : L2.St → Hp → Prop, (∀ σ' H', N σ' H' → ∃ m', m' < m ∧ W (i + 1) m' σ' H') ∧ ∀ x H', (Ite K a).yld i H x H' → g x σ H' fun σ2 H2 => tb { D with nx := N, ct := N, bk := D.nx } σ2 H2) := by
  refine ⟨fun i m σ H => m = xs.length - i ∧ i ≤ xs.length ∧ Iv i σ H, ⟨xs.length, by simp, Nat.zero_le _, h0⟩, ?_⟩
  rintro i m σ H ⟨rfl, ile, now⟩
  have seen := holds i σ H ile now
  by_cases lt : i < xs.length
  · refine .inr ⟨⟨xs, xs[i], seen, by simp [lt]⟩, Iv (i + 1), fun σ' H' now2 => ⟨xs.length - (i + 1), by omega, rfl, lt, now2⟩, fun x H' y => ?_⟩
    obtain ⟨T, z, e, hT, e2, y⟩ := y
    subst e e2
    exact turns i z σ _ T (y xs seen) now hT
  · have e : i = xs.length := by omega
    subst e
    exact .inl ⟨⟨xs, seen, Nat.le_refl _⟩, fin0 σ H now⟩
theorem for_enumT {K : PySem.W.Frag} {a : Addr} {xs : List V} {g : TG} {tb : TS} {D : Ends} {σ : L2.St} {H : Hp} (Iv : Nat → L2.St → Hp → Prop) (h0 : Iv 0 σ H) (holds : ∀ i σ H, i ≤ xs.length → Iv i σ H → SqT K H a xs)
    (turns : ∀ i x σ H T, xs[i]? = some x → Iv i σ H → H T = none → g (.ref T) σ (upd H T (.tup [.int (i : Nat), x])) fun σ2 H2 => tb { D with nx := Iv (i + 1), ct := Iv (i + 1), bk := D.nx } σ2 H2) (fin0 : ∀ σ H, Iv xs.length σ H → D.nx σ H) :
    ∃ W : Nat → Nat → L2.St → Hp → Prop, (∃ m, W 0 m σ H) ∧ ∀ i m σ H, W i m σ H →
      ((IteT K a).stop i H ∧ D.nx σ H) ∨ ((IteT K a).go i H ∧ ∃ N : L2.St → Hp → Prop, (∀ σ' H', N σ' H' → ∃ m', m' < m ∧ W (i + 1) m' σ' H') ∧ ∀ x H', (IteT K a).yld i H x H' → g x σ H' fun σ2 H2 => tb { D with nx := N, ct := N, bk := D.nx } σ2 H2) := by
  refine ⟨fun i m σ H => m = xs.length - i ∧ i ≤ xs.length ∧ Iv i σ H, ⟨xs.length, by simp, Nat.zero_le _, h0⟩, ?_⟩
  rintro i m σ H ⟨rfl, ile, now⟩
  have seen := holds i σ H ile now
  by_cases lt : i < xs.length
  · refine .inr ⟨⟨xs, xs[i], seen, by simp [lt]⟩, Iv (i + 1), fun σ' H' now2 => ⟨xs.length - (i + 1), by omega, rfl, lt, now2⟩, fun x H' y => ?_⟩
    obtain ⟨T, z, e, hT, e2, y⟩ := y
    subst e e2
    exact turns i z σ _ T (y xs seen) now hT
  · have e : i = xs.length := by omega
    subst e
    exact .inl ⟨⟨xs, seen, Nat.le_refl _⟩, fin0 σ H now⟩
end My
set_option Elab.async false
set_option linter.all false
set_option maxRecDepth 100000
set_option maxHeartbeats 4000000
/-! own errors with one field: made and raised, caught, asked for their classes -/
namespace My
open PySem PySem.Spec PyProof.Rows L2 Evl
/-- what the written part says of an own error class x at C whose __init__ at fI keeps the field f -/
structure ErrX (K : PySem.W.Frag) (mg : Str → Option Value) (x f : Str) (C fI : Addr) : Prop where
  g : mg x = some (.ref C)
  oex : OexC K C
  iC : PySem.W.findIn K (.ref C) "__init__" = some (some (.ref fI))
  tI : PySem.W.typeIn K (.ref fI) = some (.type "function")
  xf : XfC K C
  noF : PySem.W.findIn K (.ref C) f = some none
  te : PySem.W.exmOne K (.ref C) (.ref C) = some true
  isC : (PySem.W.clsIn K C).isSome = true
  ha : PySem.W.findIn K (.ref C) "__class__" = some (some (.builtin "object.__class__"))
  hn : PySem.W.specialIn K (.builtin "object.__class__") "__get__" = some (some (.builtin "getset_descriptor.__get__"))
  ht : PySem.W.takesIn K (.builtin "object.__class__") = some true
  hm : PySem.W.mroIn K C (.type "object") = some true
/-- self.f = v -/
def spInit (K : PySem.W.Frag) (f : Str) : Sp
  | [.ref a, v], H, Q, _ => ∃ C, OexC K C ∧ PySem.W.findIn K (.ref C) f = some none ∧ H a = some (exo a C none) ∧ ∀ dx, H dx = none → dx ≠ a → Q .non (upd (upd H dx (exd dx [(f, v)])) a (exo a C (some dx)))
  | _, _, _, _ => False
/-- the making of an error, by what its __init__ promises -/
theorem mkErr {K : PySem.W.Frag} {C : Addr} {f : Str} {v : V} {H : Hp} {Q : XK} (T : OexC K C) (hf : PySem.W.findIn K (.ref C) f = some none) (q : ∀ d, H d = none → Q (.ref C) (some d) (upd H d (.xd [(f, v)]))) :
    [v].length ≤ 1000 ∧ ∀ a, H a = none → spInit K f (.ref a :: ([v] ++ [])) (upd H a (exo a C none))
      (fun u H2 => u = .non ∧ ∃ (d : Addr) (fs : List (Str × V)), H2 a = some (exo a C (some d)) ∧ H2 d = some (exd d fs) ∧ H d = none ∧ Q (.ref C) (some d) (upd (del H2 a) d (.xd fs))) (fun _ _ _ => False) := by
  refine ⟨by simp, fun a ha => ⟨C, T, hf, upd_same, fun dx hd hne => ⟨rfl, dx, [(f, v)], upd_same, ?_, ?_, ?_⟩⟩⟩
  · rw [upd_ne hne, upd_same]
  · rw [upd_ne hne] at hd; exact hd
  · have hd0 : H dx = none := by rw [upd_ne hne] at hd; exact hd
    have e : upd (del (upd (upd (upd H a (exo a C none)) dx (exd dx [(f, v)])) a (exo a C (some dx))) a) dx (.xd [(f, v)]) = upd H dx (.xd [(f, v)]) := by
      funext b
      by_cases hb : b = dx
      · rw [hb, upd_same, upd_same]
      · rw [upd_ne hb, upd_ne hb]
        by_cases hba : b = a
        · rw [hba, del_same, ha]
        · rw [del_ne hba, upd_ne hba, upd_ne hb, upd_ne hba]
    rw [e]
    exact q dx hd0
section
variable {X : Cx} {C a : Addr} {oe : Obj} {cls : Value} {d : Option Addr} {pn : List (Addr × Obj)}
/-- isinstance(e, (c1, c2)), e the error that the suite holds -/
def rIsE2 (K : PySem.W.Frag) (C a : Addr) (cls : Value) (d : Option Addr) : List V → Hp → VK → Prop := fun xs H Q => ∃ (tp dd : Addr) (fs : List (Str × V)) (c1 c2 : Addr) (b : Bool),
  xs = [.ref a, .ref tp] ∧ cls = .ref C ∧ d = some dd ∧ H dd = some (.xd fs) ∧ H tp = some (.tup [.ref c1, .ref c2]) ∧ PySem.W.kitAny K (.ref C) [.ref c1, .ref c2] = some b ∧ Q (.bl b) H
theorem call_isE2 {x f : Str} {fI : Addr} (T : ErrX X.K X.mg x f C fI) (hz : Zc cls d oe) (hf : ∃ vs, oe.data = .fields vs) : CallR (X.suite a ((a, oe) :: pn)) (.builtin "isinstance") (rIsE2 X.K C a cls d) := by
  intro pins s σ H xs us Q I r h
  obtain ⟨tp, dd, fs, c1, c2, b, rfl, ec, ed, hdd, hT, e, q⟩ := h
  subst ec ed
  obtain ⟨u1, u2, rfl, r1, r2⟩ := vals2 r
  obtain rfl : u1 = Value.ref a := r1
  obtain rfl : u2 = Value.ref tp := r2
  obtain ⟨hget, _⟩ := I.pin (a, oe) (List.mem_append.mpr (.inl List.mem_cons_self))
  obtain ⟨vs, hv⟩ := hf
  obtain ⟨mA, hns, _⟩ := (show ObjOk X.prog X.w H s.heap dd (.xd fs) from I.hok dd _ hdd)
  obtain ⟨od, ho, _⟩ := lookIn_ns hns
  have J : PySem.W.InstAt s.heap a oe C (some od) := ⟨hget, hz.1, by unfold PySem.W.notCls; rw [hv] <;> rfl, by rw [hz.2]; exact ho⟩
  obtain ⟨_, its, rv, o, h1, h2, n, h3⟩ := (show ObjOk X.prog X.w H s.heap tp (.tup [.ref c1, .ref c2]) from I.hok tp _ hT)
  obtain ⟨oc, od', dt, sl⟩ := o
  simp only at h2 h3
  subst h2 h3
  obtain ⟨w1, w2, rfl, q1, q2⟩ := vals2 rv
  obtain rfl : w1 = Value.ref c1 := q1
  obtain rfl : w2 = Value.ref c2 := q2
  exact PySem.W.kia_tup (PySem.W.kitx_exc T.isC T.xf.ga T.xf.gg T.xf.exC T.ha T.hn T.ht T.hm) I.kIn J h1 e (fun z => nomatch z) fun tk => ⟨.bl b, H, I.tok tk, rfl, q⟩
end
end My
set_option Elab.async false
set_option linter.all false
set_option maxRecDepth 100000
set_option maxHeartbeats 4000000
/-! own errors of any chain, made and held as values: their fields, their classes -/
namespace My
open PySem PySem.Spec PyProof.Rows L2 Evl PySem.HandSPX PySem.W
/-- own classes, then this tail -/
def refsTo (tl : List Value) : List Value → Bool
  | .ref _ :: r => refsTo tl r
  | l => l == tl
theorem refsTo_cases (tl : List Value) (l : List Value) (e : refsTo tl l = true) : (∃ c r, l = .ref c :: r ∧ refsTo tl r = true) ∨ l = tl := by
  unfold refsTo at e
  split at e
  · exact .inl ⟨_, _, rfl, e⟩
  · exact .inr (beq_iff_eq.mp e)
/-- a chain of built-in errors that own classes stand over -/
structure TailX (B newId initId : String) (tl bmB : List Value) : Prop where
  F : ExcBaseFacts B newId initId bmB
  cB : tl.contains (.type B) = true
  cA : tl.contains (.type "AttributeError") = false
  cN : tl.contains (.type "NameError") = false
  cO : tl.contains (.type "object") = true
  pass : ∀ self : Value, refuseLoop self "__setattr__" tl = pure ()
theorem tailV : TailX "ValueError" "ValueError.__new__" "ValueError.__init__" [.type "ValueError", .type "Exception", .type "BaseException", .type "object"] [.type "ValueError", .type "Exception", .type "BaseException", .type "object"] :=
  ⟨F.excBase_ValueError, by decide +kernel, by decide +kernel, by decide +kernel, by decide +kernel, fun self => by kernel_rfl⟩
theorem tailI : TailX "IndexError" "IndexError.__new__" "IndexError.__init__" [.type "IndexError", .type "LookupError", .type "Exception", .type "BaseException", .type "object"] [.type "IndexError", .type "LookupError", .type "Exception", .type "BaseException", .type "object"] :=
  ⟨F.excBase_IndexError, by decide +kernel, by decide +kernel, by decide +kernel, by decide +kernel, fun self => by kernel_rfl⟩
theorem tailK : TailX "LookupError" "LookupError.__new__" "LookupError.__init__" [.type "KeyError", .type "LookupError", .type "Exception", .type "BaseException", .type "object"] [.type "LookupError", .type "Exception", .type "BaseException", .type "object"] :=
  ⟨F.excBase_LookupError, by decide +kernel, by decide +kernel, by decide +kernel, by decide +kernel, fun self => by kernel_rfl⟩
section
variable {B newId initId : String} {tl bmB bm : List Value}
theorem refsTo_has (T : refsTo tl bm = true) (X : String) : bm.contains (.type X) = tl.contains (.type X) := by
  induction bm with
  | nil =>
    rcases refsTo_cases _ _ T with ⟨c, r, q, _⟩ | q
    · cases q
    · rw [q]
  | cons a r ih =>
    rcases refsTo_cases _ _ T with ⟨c, r', q, h⟩ | q
    · obtain ⟨rfl, rfl⟩ := List.cons.inj q
      rw [List.contains_cons, ih h]
      rfl
    · rw [q]
theorem refsTo_pass (Y : TailX B newId initId tl bmB) (T : refsTo tl bm = true) (self : Value) : refuseLoop self "__setattr__" bm = pure () := by
  induction bm with
  | nil =>
    rcases refsTo_cases _ _ T with ⟨c, r, q, _⟩ | q
    · cases q
    · rw [q]; exact Y.pass self
  | cons a r ih =>
    rcases refsTo_cases _ _ T with ⟨c, r', q, h⟩ | q
    · obtain ⟨rfl, rfl⟩ := List.cons.inj q
      rw [refuseLoop_ref]
      exact ih h
    · rw [q]; exact Y.pass self
end
/-! ### the making -/
section
variable {M : Model} {A : Around} {E : Value → Shared → Prop} {hh : Heap} {gs : Array GenState} {dr : Drawn} {tk : Nat} {os : OsState}
variable {nm qn : Str} {C N : Addr} {bs bm bmB tl : List Value} {hd : Bool} {sn : List Str} {sub : List Value} {ab : Bool} {col : Option Bool} {dd : Option Addr} {k0 k1 k2 k3 k5 : Option Value} {B newId initId : String}
theorem chkNew (Y : TailX B newId initId tl bmB) (T : refsTo tl bm = true) {us : List Value} {Q : Unit → Shared → Prop}
    (cl : hh.get? C = some (excClassObj nm qn C N bs bm hd sn sub ab col dd k0 k1 k2 k3 k5 newId)) (q : Q () ⟨hh, gs, dr, tk, os⟩) : wpAny M A (checkBuiltinCall newId ⟨.ref C :: us, []⟩) Q E ⟨hh, gs, dr, tk, os⟩ := by
  have has : (Value.ref C :: bm).contains (.type B) = true := by rw [List.contains_cons, refsTo_has T, Y.cB, Bool.or_true]
  have st := Y.F.noStar
  simp only [checkBuiltinCall, Y.F.newKind, Y.F.newSplit, Y.F.newRow]
  repeat (first | refine wpAny_loadPart_at cl ?_ | (refine wpAny_isSubtype_exc cl ?_; rw [has]) | refine wpAny_staticBase_exc cl ?_ | refine wpAny_madeBy_exc cl ?_ | simp only [bne_self_eq_false, Bool.false_eq_true, if_false] | wp_step)
  exact q
end
section
variable {prog : Program} {w : World} {A : Around} {E : Value → Shared → Prop} {R : Result → Shared → Prop} {hh : Heap} {gs : Array GenState} {dr : Drawn} {tk : Nat} {os : OsState}
variable {nm qn : Str} {C N : Addr} {bs bm bmB tl : List Value} {hd : Bool} {sn : List Str} {sub : List Value} {ab : Bool} {col : Option Bool} {dd : Option Addr} {k0 k1 k2 k3 k5 : Option Value} {B newId initId : String}
theorem newX (Y : TailX B newId initId tl bmB) (T : refsTo tl bm = true) {us : List Value}
    (cl : hh.get? C = some (excClassObj nm qn C N bs bm hd sn sub ab col dd k0 k1 k2 k3 k5 newId))
    (q : R (.ok (.ret (.ref (hh.objs.size + 1)))) ⟨(hh.push (kdv_tup us)).push (excO C hh.objs.size), gs, dr, tk, os⟩) (hu : us.length ≤ sizeLine) :
    codeAny (model prog w) A (.builtin newId ⟨.ref C :: us, []⟩) R ⟨hh, gs, dr, tk, os⟩ := by
  have en := Y.F.ends
  have xB : (Value.ref C :: bm).contains (.type B) = true := by rw [List.contains_cons, refsTo_has T, Y.cB, Bool.or_true]
  have xA : (Value.ref C :: bm).contains (.type "AttributeError") = false := by rw [List.contains_cons, refsTo_has T, Y.cA]; rfl
  have xN : (Value.ref C :: bm).contains (.type "NameError") = false := by rw [List.contains_cons, refsTo_has T, Y.cN]; rfl
  refine codeAny_builtinAt Y.F.entry ?_
  unfold Builtin.«BaseException.__new__»
  refine PySem.wpAt_bind ?_
  show PySem.wpAt _ _ _ (stack >>= _) _ _ _
  refine PySem.wpAt_bind (PySem.wpAt_stack fun p below => PySem.wpAt_of_wpAny ?_)
  wp_walk
  refine PySem.wpAt_of_wpAny ?_
  rw [Y.F.owner]
  repeat (first | with_reducible refine wpAny_madeHere_exc Y.F.canon cl ?_ | with_reducible refine wpAny_loadPart_at cl ?_ | (with_reducible refine wpAny_isSubtype_exc cl ?_; first | rw [xB] | rw [xA] | rw [xN]) | wp_step)
  show R _ _
  rw [Heap.size_push]
  exact q
theorem typeCallX (Y : TailX B newId initId tl bmB) (T : refsTo tl bm = true) {us : List Value} {fI : Addr} {Q : Fin → Shared → Prop}
    (cl : hh.get? C = some (excClassObj nm qn C N bs bm hd sn sub ab col dd k0 k1 k2 k3 k5 newId))
    (hi : Looks (model prog w) hh (typeLookup (.ref C) "__init__") (some (.ref fI))) (hb : ∀ self, Looks (model prog w) hh (bindSpecial (.ref fI) self) (.ref fI, [self])) (hu : us.length ≤ sizeLine)
    (q : codeAny (model prog w) A (.call (.ref fI) ⟨.ref (hh.objs.size + 1) :: us, []⟩)
      (fun r s2 => match r with | .ok (.ret v) => v = .none ∧ Q (.done (.ret (.ref (hh.objs.size + 1)))) s2 | .ok _ => False | .error e => E e s2)
      ⟨(hh.push (kdv_tup us)).push (excO C hh.objs.size), gs, dr, tk, os⟩) :
    wpAny (model prog w) A (Builtin.«type.__call__» ⟨.ref C :: us, []⟩) Q E ⟨hh, gs, dr, tk, os⟩ := by
  repeat (first | with_reducible refine wpAny_loadPart_at cl ?_ | with_reducible refine wpAny_madeBy_exc cl ?_ | wp_step)
  refine codeAny_call_builtin_code (Code.quiet_builtin _ Y.F.quiet) (chkNew Y T cl ?_)
  refine newX Y T cl ?_ hu
  show wpAny _ _ _ _ _ _
  have kk : ∀ b o, hh.get? b = some o → ((hh.push (kdv_tup us)).push (excO C hh.objs.size)).get? b = some o := fun b o e => Heap.get?_push_of_some _ (Heap.get?_push_of_some _ e)
  have cl1 := kk _ _ cl
  have ge : ((hh.push (kdv_tup us)).push (excO C hh.objs.size)).get? (hh.objs.size + 1) = some (excO C hh.objs.size) := by heap_get
  have cC : (Value.ref C :: bm).contains (.ref C) = true := by simp
  have j1 := hi.keeps kk
  have j2 := (hb (.ref (hh.objs.size + 1))).keeps kk
  unfold isInstance
  repeat (first | with_reducible refine wpAny_loadPart_at ge ?_ | (with_reducible refine wpAny_isSubtype_exc cl1 ?_; rw [cC]) | wp_step)
  show wpAny _ _ (typeLookup (.ref C) _) _ _ _
  refine j1.at ?_
  refine wpAny_holding (wpAny_bind (j2.at ?_))
  refine wpAny_bind (wpAny_call (codeAny_mono q fun r s2 z => ?_))
  rcases r with e | (v | _ | _ | _) <;> first | exact z | exact z.elim | skip
  obtain ⟨rfl, z⟩ := z
  first
    | exact wpAny_pure (wpAny_pure z)
    | (wp_walk; exact z)
theorem callX (Y : TailX B newId initId tl bmB) (T : refsTo tl bm = true) {us : List Value} {fI : Addr}
    (cl : hh.get? C = some (excClassObj nm qn C N bs bm hd sn sub ab col dd k0 k1 k2 k3 k5 newId))
    (hi : Looks (model prog w) hh (typeLookup (.ref C) "__init__") (some (.ref fI))) (hb : ∀ self, Looks (model prog w) hh (bindSpecial (.ref fI) self) (.ref fI, [self])) (hu : us.length ≤ sizeLine)
    (q : codeAny (model prog w) (A.under (.builtin "type.__call__" ⟨.ref C :: us, []⟩)) (.call (.ref fI) ⟨.ref (hh.objs.size + 1) :: us, []⟩) (InitBack (hh.objs.size + 1) R)
      ⟨(hh.push (kdv_tup us)).push (excO C hh.objs.size), gs, dr, tk, os⟩) :
    codeAny (model prog w) A (.call (.ref C) ⟨us, []⟩) R ⟨hh, gs, dr, tk, os⟩ := by
  have f1 := tc_lookup
  have f2 := tc_bind (.ref C)
  have ty : (⟨hh, gs, dr, tk, os⟩ : Shared).TypeIs (.ref C) "type" := ⟨_, cl, rfl⟩
  refine codeAny_of_tree ?_
  show wpAny _ _ (callAny (.ref C) _) _ _ _
  repeat (any_goals (first | assumption | with_reducible refine wpAny_loadPart_at cl ?_ | wp_step))
  refine ⟨rfl, ?_⟩
  refine codeAny_call_builtin_at (Code.quiet_builtin _ (by decide +kernel)) entry_typeCall (wpAny_check_type_call_sub cl (typeCallX Y T cl hi hb hu ?_))
  refine codeAny_mono q fun r s2 z => ?_
  rcases r with e | (v | _ | _ | _) <;> exact z
open Builtin Builtin.ObjectAttr in
/-- self.name = v on an error that has no dict yet -/
theorem setNewX {K : Frag} {name : Str} {tok : Tok} {v : Value} {x : Addr} {fv : Array Value} {cd : ClassData} (Y : TailX B newId initId tl bmB)
    (X : K.In hh) (hx : hh.get? x = some { cls := .ref C, data := .fields fv }) (hcd : clsIn K C = some cd) (hm : refsTo tl cd.mro = true) (hdc : cd.hasDict = true) (ha : findIn K (.ref C) name = some none)
    (q : ∀ h2 tk2 dx, (∀ b o, b ≠ x → hh.get? b = some o → h2.get? b = some o) → hh.objs.size ≤ dx → dx ≠ x → h2.get? x = some { cls := .ref C, dict := some dx, data := .fields fv } →
      h2.Ns1 dx (fun y => if y = name then some v else none) → R (.ok (.ret .none)) ⟨h2, gs, dr, tk2, os⟩) :
    codeAny (model prog w) A (.call (.builtin "object.__setattr__") ⟨[.ref x, .str name tok, v], []⟩) R ⟨hh, gs, dr, tk, os⟩ := by
  have I : InstAt hh x { cls := .ref C, data := .fields fv } C none := ⟨hx, rfl, rfl, trivial⟩
  have SF := F.store_object
  have ob : cd.mro.contains (.type "object") = true := (refsTo_has hm "object").trans Y.cO
  have ne : cd.mro.isEmpty = false := by
    cases e : cd.mro with
    | nil => rw [e] at ob; cases ob
    | cons _ _ => rfl
  have nx : x ≠ hh.objs.size := Nat.ne_of_lt (Heap.lt_size hx)
  have isO : Looks (model prog w) hh (isInstance (.ref x) (.type "object")) true := I.type.andThen (looks_mroIn X (by unfold mroIn; rw [hcd, Option.bind_some, if_neg (by rw [ne]; decide), ob]))
  refine codeAny_call_builtin SF.slot.plain SF.entry (@check_slot (model prog w) _ _ ⟨hh, gs, dr, tk, os⟩ "object.__setattr__" "object" "__setattr__" (.ref x) [.str name tok, v] [] _ SF.kind SF.split isO (SF.args (.ref x) (.str name tok) v) ?_)
  have mr : Looks (model prog w) hh (mroOf (.ref C)) cd.mro := (looks_clsIn X hcd).andThen .now
  have nt : Looks (model prog w) hh (storeTaker? none) none := .now
  have lc : Looks (model prog w) hh (classData C) cd := looks_clsIn X hcd
  rw [osa_eq, refuse_eq]
  refine wpAny_bind (wpAny_bind (I.type.at (wpAny_bind (mr.at ?_))))
  rw [refsTo_pass Y hm]
  refine wpAny_pure (wpAny_bind (I.type.at (wpAny_bind ((looks_findIn X ha).at (wpAny_bind (nt.at ?_))))))
  show wpAny _ _ (storeInOwnDict (.ref x) (.ref C) (.str name tok) name v false) _ _ _
  obtain ⟨nm', bs', mro', ns', qn', hd', sn', sb', ab', col', del'⟩ := cd
  dsimp only at hdc
  subst hdc
  unfold storeInOwnDict ownDictForStores
  repeat (first | with_reducible refine store_in_new ?_ ?_ | with_reducible refine wpAny_loadPart_at hx ?_ | with_reducible refine lc.at ?_ | wp_step)
  · exact ⟨_, #[], _, (Heap.get?_update_ne _ _ _ _ nx.symm).trans (Heap.get?_push_at rfl rfl), rfl, fun e he => absurd he (by simp), fun _ => rfl⟩
  · intro h2 tk2 hn2 hs
    have x1 : (hh.push { cls := .type "dict", data := .dict #[] }).get? x = some { cls := .ref C, data := .fields fv } := Heap.get?_push_of_some _ hx
    refine q h2 tk2 hh.objs.size (fun b o hb ho => ?_) (Nat.le_refl _) nx.symm ?_ hn2
    · exact (hs.2 b (Nat.ne_of_lt (Heap.lt_size ho))).trans ((Heap.get?_update_ne _ _ _ _ hb).trans (Heap.get?_push_of_some _ ho))
    · exact (hs.2 x nx).trans (Heap.get?_update_self _ x1 rfl)
end

/-! ### the facts of a class of errors -/
structure ErrK (K : PySem.W.Frag) (C : Addr) : Prop where
  cls : ∃ B newId initId tl bmB nm q N bs bm sn sub ab col dd k0 k1 k2 k3 k5, K.lookup C = some (excClassObj nm q C N bs bm true sn sub ab col dd k0 k1 k2 k3 k5 newId) ∧ TailX B newId initId tl bmB ∧ refsTo tl bm = true
  sa : PySem.W.findIn K (.ref C) "__setattr__" = some (some (.builtin "object.__setattr__"))
  ga : PySem.W.findIn K (.ref C) "__getattribute__" = some (some (.builtin "BaseException.__getattribute__"))
  gg : PySem.W.findIn K (.ref C) "__getattr__" = some none
  exC : PySem.W.subIn K (.ref C) (.type "BaseException") = some true
  kC : PySem.W.keepIn K (.ref C) = true
  hdC : PySem.W.hasDictIn K C = true
  isC : (PySem.W.clsIn K C).isSome = true
  ha : PySem.W.findIn K (.ref C) "__class__" = some (some (.builtin "object.__class__"))
  hn : PySem.W.specialIn K (.builtin "object.__class__") "__get__" = some (some (.builtin "getset_descriptor.__get__"))
  ht : PySem.W.takesIn K (.builtin "object.__class__") = some true
  hm : PySem.W.mroIn K C (.type "object") = some true
/-- C keeps the field f, by its __init__ at fI -/
structure ErrF (K : PySem.W.Frag) (f : Str) (C fI : Addr) : Prop where
  k : ErrK K C
  iC : PySem.W.findIn K (.ref C) "__init__" = some (some (.ref fI))
  tI : PySem.W.typeIn K (.ref fI) = some (.type "function")
  noF : PySem.W.findIn K (.ref C) f = some none
/-- self.f = v, in the making -/
def spIniX (K : PySem.W.Frag) (f : Str) : Sp
  | [.ref a, v], H, Q, _ => ∃ C fI, ErrF K f C fI ∧ H a = some (exo a C none) ∧ ∀ dx, H dx = none → dx ≠ a → Q .non (upd (upd H dx (exd dx [(f, v)])) a (exo a C (some dx)))
  | _, _, _, _ => False
/-- an error, held: its dict holds one field, or it has none -/
def ErrO (K : PySem.W.Frag) (C : Addr) (a : Addr) (H : Hp) : Prop := ErrK K C ∧ (H a = some (exo a C none) ∨ ∃ d fs, H a = some (exo a C (some d)) ∧ H d = some (exd d fs))
/-- an error that keeps v in its field f -/
def ErrV (K : PySem.W.Frag) (f : Str) (C : Addr) (v : V) (a : Addr) (H : Hp) : Prop := (∃ fI, ErrF K f C fI) ∧ ∃ d, H a = some (exo a C (some d)) ∧ H d = some (exd d [(f, v)])
theorem ErrV.o {K : PySem.W.Frag} {f : Str} {C : Addr} {v : V} {a : Addr} {H : Hp} (h : ErrV K f C v a H) : ErrO K C a H := by
  obtain ⟨⟨_, F⟩, d, h1, h2⟩ := h
  exact ⟨F.k, .inr ⟨d, _, h1, h2⟩⟩
theorem ErrO.ex {K : PySem.W.Frag} {C : Addr} {a : Addr} {H H' : Hp} (h : ErrO K C a H) (e : Ex H H') : ErrO K C a H' := by
  obtain ⟨k, h | ⟨d, fs, h1, h2⟩⟩ := h
  · exact ⟨k, .inl (e _ _ h)⟩
  · exact ⟨k, .inr ⟨d, fs, e _ _ h1, e _ _ h2⟩⟩
theorem ErrV.ex {K : PySem.W.Frag} {f : Str} {C : Addr} {v : V} {a : Addr} {H H' : Hp} (h : ErrV K f C v a H) (e : Ex H H') : ErrV K f C v a H' := by
  obtain ⟨k, d, h1, h2⟩ := h
  exact ⟨k, d, e _ _ h1, e _ _ h2⟩
section
variable {X : Cx} {pins : List (Addr × Obj)} {σ : L2.St} {H : Hp} {s : Shared}
theorem setNewI {a C : Addr} {f : Str} {y : V} {u : Value} {Q : Unit → Shared → Prop} {E : Value → Shared → Prop} {A : Around} (T : ErrK X.K C) (I : Inv X pins σ H s) (e : H a = some (exo a C none)) (hno : PySem.W.findIn X.K (.ref C) f = some none) (ry : RelV y u)
    (h : ∀ dx s2, H dx = none → dx ≠ a → Inv X pins σ (upd (upd H dx (exd dx [(f, y)])) a (exo a C (some dx))) s2 → Q () s2) : wpAny (model X.prog X.w) A (setAttr (.ref a) f u) Q E s := by
  obtain ⟨B, newId, initId, tl, bmB, nm, q, N, bs, bm, sn, sub, ab, col, dd, k0, k1, k2, k3, k5, hC, hY, hbm⟩ := T.cls
  have hcl : PySem.W.clsIn X.K C = some { name := nm, bases := bs, mro := .ref C :: bm, ns := N, qualname := q, hasDict := true, slotNames := sn, subclasses := sub, abstract := ab, collection := col, hasDel := false } := by unfold PySem.W.clsIn; rw [hC] <;> rfl
  obtain ⟨t1, ho⟩ := exo_at I.hok e
  obtain ⟨hp, g, d, t, os⟩ := s
  refine PySem.W.set_plain I.kIn (ox := { cls := .ref C, dict := none, data := .fields #[.ref t1, .none, .none, .none, .bool false, .none] }) (od := none) ⟨ho, rfl, rfl, trivial⟩ T.sa ?_
  refine setNewX hY I.kIn ho hcl (show refsTo tl (.ref C :: bm) = true from hbm) rfl hno (fun h' tk' dx k dn dne hx hn => ?_)
  have hnd : H dx = none := I.hok.fresh dn
  have nd : ∀ {b : Addr} {o : Obj}, hp.get? b = some o → b ≠ dx := fun {b o} q => Nat.ne_of_lt (Nat.lt_of_lt_of_le (Heap.lt_size q) dn)
  have na : ∀ {b : Addr}, H b = none → b ≠ a := fun {b} n z => by rw [z, e] at n; cases n
  have U : Un X.fs [] H (upd (upd H dx (exd dx [(f, y)])) a (exo a C (some dx))) hp h' := {
    keep := fun b o q n _ _ => k b o (na n) q
    slot := fun b o q n _ _ => ⟨o.slots, k b o (na n) q⟩
    free := fun b o q n _ => by rw [upd_ne (na n), upd_ne (nd q)]; exact n
    there := fun b o q _ => by
      by_cases hb : b = a
      · exact ⟨_, by rw [hb]; exact hx⟩
      · exact ⟨o, k b o hb q⟩
    tups := fun b xs q => by rw [upd_ne (at_ne e q exo_tup), upd_ne (ne_of_none q hnd)]; exact q
    frzs := fun b o v q => by rw [upd_ne (at_ne e q exo_frz), upd_ne (ne_of_none q hnd)]; exact q
    tbls := fun b ps q => ⟨#[], by rw [upd_ne (at_ne e q exo_tbl), upd_ne (ne_of_none q hnd), q]; simp⟩ }
  refine h dx _ hnd dne (I.un (t' := tk') U fun b o q => ?_)
  by_cases hb : b = a
  · subst hb
    rw [upd_same] at q; cases q
    exact exo_ok hx
  · rw [upd_ne hb] at q
    by_cases hd : b = dx
    · subst hd
      rw [upd_same] at q; cases q
      exact exd_ok hn (relO_put (fs := []) ry fun g => True.intro)
    · rw [upd_ne hd] at q
      refine (I.hok b o q).stay (fun c v hc z => k c v ?_ z) (fun c hc => by rw [upd_ne (at_ne e hc exo_own), upd_ne (ne_of_none hc hnd)]; exact hc) (fun c xs hc => by rw [upd_ne (at_ne e hc exo_tup), upd_ne (ne_of_none hc hnd)]; exact hc)
      rcases hc with hc | hc
      · rw [hc]; exact hb
      · exact at_ne e hc exo_own
end
/-- self.f = e, the first field of an error in the making -/
def tOsX (K : PySem.W.Frag) (f : Str) (to te : TE) : TS := fun D σ H => te σ H fun y H1 => to σ H1 fun x H2 => ∃ a C fI : Addr, x = .ref a ∧ ErrF K f C fI ∧ H2 a = some (exo a C none) ∧ ∀ dx, H2 dx = none → dx ≠ a → D.nx σ (upd (upd H2 dx (exd dx [(f, y)])) a (exo a C (some dx)))
theorem ps_osX {X : Cx} {o e : Expr} {to te : TE} {f : Str} {p' pos : Pos} (ho : PE X o to) (he : PE X e te) (hs : swapsWith e (some (.Attribute o f p')) pos.line X.env = pure false := by rfl) : PS X (.Assign [.Attribute o f p'] e pos) (tOsX X.K f to te) := by
  refine ⟨fun pins s σ H D I h => ?_⟩
  refine plainObj_wpAny_Assign_Attribute (thn (he.run pins s σ H _ I h) fun v s1 ⟨y, H1, I1, r1, q1⟩ => thn (ho.run pins s1 σ H1 _ I1 q1) fun u s2 ⟨x, H2, I2, r2, a, C, fI, ex, T, ea, q⟩ => ?_) hs
  subst ex
  obtain rfl : u = Value.ref a := r2
  exact setNewI T.k I2 ea T.noF r1 fun dx s' n ne J => ⟨σ, _, J, q dx n ne⟩
/-- C(v), an error, held -/
def tErr1 (K : PySem.W.Frag) (f : Str) (C : Addr) (ta : TA) : TE := fun σ H Q => ta σ H fun vs H1 => ∃ v, vs = [v] ∧ ∀ a H2, Ex H1 H2 → H1 a = none → ErrV K f C v a H2 → Q (.ref a) H2
theorem pe_err1 {X : Cx} {CX : CXT} {x f : Str} {C fI : Addr} {k : Nat} {fd : FuncData} {ps : List Str} {e : Expr} {ta : TA} {p pos : Pos} (T : ErrF X.K f C fI)
    (F1 : FnOk X.prog X.w X.K X.mg X.base CX k fI fd ps (spIniX X.K f)) (hr : Room (k + 1) X.A) (hb : Binds X.K fd ps []) (hx : Passes CX X (fun _ _ _ => False)) (hg : Gl X x) (hm : X.mg x = some (.ref C)) (ha : PA X [e] ta)
    (hdb : (x == ("__debug__" : Str)) = false := by decide) (he : starEach [e] X.env = (false, eval e X.env) :: starEach [] X.env := by rfl) (hpl : (backTo pos (starEach [] X.env)).any (·.1) = false := by rfl) :
    PE X (.Call (.Name x p) [e] [] pos) (tErr1 X.K f C ta) := by
  refine ⟨fun pins s σ H Q I h => ?_⟩
  obtain ⟨B, newId, initId, tl, bmB, nm, q, N, bs, bm, sn, sub, ab, col, dd, k0, k1, k2, k3, k5, hC, hY, hbm⟩ := T.k.cls
  refine wpAny_Call_Name_kw (ld_glob I hg hm ?_ hdb)
  refine PySem.W.callWith_K (h₀ := X.base) I.ok.mod.kin T.k.kC (thn (ha.run pos pins s σ H _ I h) fun us s1 ⟨vs, H1, I1, r1, v, ev, q1⟩ => ⟨I1.kIn, ?_⟩) he hpl
  subst ev
  show wpAny _ _ (call (.ref C) us) _ _ _
  obtain ⟨hp, g, dr, tk, os⟩ := s1
  have hsz : hp.objs.size ≤ hp.objs.size + 1 := Nat.le_succ _
  have hn : H1 (hp.objs.size + 1) = none := I1.hok.fresh hsz
  have kk : ∀ b o, hp.get? b = some o → ((hp.push (PySem.W.kdv_tup us)).push (excO C hp.objs.size)).get? b = some o := fun b o e => Heap.get?_push_of_some _ (Heap.get?_push_of_some _ e)
  have hget : ((hp.push (PySem.W.kdv_tup us)).push (excO C hp.objs.size)).get? (hp.objs.size + 1) = some (excO C hp.objs.size) := by heap_get
  have I2 : Inv X pins σ (upd H1 (hp.objs.size + 1) (exo (hp.objs.size + 1) C none)) ⟨(hp.push (PySem.W.kdv_tup us)).push (excO C hp.objs.size), g, dr, tk, os⟩ :=
    I1.laid (t' := tk) (a := hp.objs.size + 1) (o := exo (hp.objs.size + 1) C none) (h' := (hp.push (PySem.W.kdv_tup us)).push (excO C hp.objs.size)) kk hsz (exo_ok hget)
  have r2 : Vals (V.ref (hp.objs.size + 1) :: [v]) (Value.ref (hp.objs.size + 1) :: us) := .cons rfl r1
  have hq : spIniX X.K f (V.ref (hp.objs.size + 1) :: [v]) (upd H1 (hp.objs.size + 1) (exo (hp.objs.size + 1) C none)) (fun u H2 => u = .non ∧ Ex H1 H2 ∧ ErrV X.K f C v (hp.objs.size + 1) H2) (fun _ _ _ => False) := by
    refine ⟨C, fI, T, upd_same, fun dx hd hne => ⟨rfl, fun b o hb => ?_, ⟨fI, T⟩, dx, upd_same, by rw [upd_ne hne, upd_same]⟩⟩
    have b1 : b ≠ hp.objs.size + 1 := ne_of_none hb hn
    have b2 : b ≠ dx := fun z => by rw [← z, upd_ne b1, hb] at hd; cases hd
    rw [upd_ne b1, upd_ne b2, upd_ne b1]; exact hb
  have hl : (Value.ref (hp.objs.size + 1) :: us).length = ps.length := by
    have e := r2.length
    rw [F1.len _ _ _ _ hq] at e
    exact e.symm
  have hus : us.length ≤ sizeLine := by
    rw [← Paired.length r1, sizeLine_eq, List.length_singleton]
    omega
  have hb2 := hb ⟨_, g, dr, tk, os⟩ (Value.ref (hp.objs.size + 1) :: us) I2.kIn (by simpa using hl)
  refine wpAny_call (callX hY hbm (I1.kIn _ _ hC) (PySem.W.looks_findIn I1.kIn T.iC) (fun self => PySem.W.bind_fn I1.kIn self T.tI) hus
    (codeAny_mono (F1.run _ X.stack _ _ ⟨Value.ref (hp.objs.size + 1) :: us, []⟩ (Value.ref (hp.objs.size + 1) :: us) _ _ (fun _ _ _ => False) (hr.make C us []) (I2.env0.make C us []) (by simpa using hb2) r2 hq) fun r s' hq' => ?_))
  cases r with
  | error er => exact hx pins σ _ _ er s' I2 hq'
  | ok fl =>
    cases fl with
    | ret u =>
      obtain ⟨v', H2, os2, bare2, un2, hok2, rv, ev, ex2, er⟩ := hq'
      subst ev
      obtain ⟨h2, g2, d2, t2, os'⟩ := s'
      refine ⟨rv, .ref (hp.objs.size + 1), H2, ?_, rfl, q1 _ H2 ex2 hn er⟩
      exact I2.call' (ch := []) os2 un2 hok2 bare2 (fun b z => absurd z (by simp))
    | next => exact False.elim hq'
    | brk => exact False.elim hq'
    | cont => exact False.elim hq'
end My
set_option Elab.async false
set_option linter.all false
set_option maxRecDepth 100000
set_option maxHeartbeats 4000000
/-! own errors held as values: made without arguments, asked for their classes, their field read -/
namespace My
open PySem PySem.Spec PyProof.Rows L2 Evl PySem.HandSPX
/-- an own error class over ValueError without an __init__ of its own -/
structure Err0 (K : PySem.W.Frag) (C : Addr) : Prop where
  k : ErrK K C
  ex : PySem.W.excIn K C [.type "ValueError", .type "Exception", .type "BaseException", .type "object"] "ValueError.__new__" = true
def tErr0 (K : PySem.W.Frag) (C : Addr) : TE := fun _ H Q => ∀ a H2, Ex H H2 → H a = none → H2 a = some (exo a C none) → Q (.ref a) H2
theorem pe_err0 {X : Cx} {C : Addr} {x : Str} {p pos : Pos} (T : Err0 X.K C) (gC : X.mg x = some (.ref C)) (hg : Gl X x) (hdb : (x == ("__debug__" : Str)) = false := by decide) :
    PE X (.Call (.Name x p) [] [] pos) (tErr0 X.K C) := by
  refine ⟨fun pins s σ H Q I h => ?_⟩
  refine wpAny_Call_Name_kw (ld_glob I hg gC ?_ hdb)
  refine PySem.W.callWith_K0 I.kIn T.k.kC ?_
  show wpAny _ _ (call (.ref C) []) _ _ _
  obtain ⟨bm, N, nm, qn, bs, hdct, sn, sub, ab, col, dd, k0, k1, k2, k3, k5, mN, hC, hN, hni, OT⟩ := exc_obj I.kIn T.ex
  refine wpAny_call_exc_subT PySem.F.excBase_ValueError OT hC hN hni (fun h' a hm => ?_) (Nat.zero_le _)
  have hn : H a = none := I.hok.gone hm.new
  obtain ⟨t, ht, _, _⟩ := hm.there
  exact ⟨.ref a, upd H a (exo a C none), I.laidN hm.keeps hm.new hn (exo_ok ht), rfl, h a _ (Ex.new hn) hn upd_same⟩
/-- isinstance(e, c), e an error that is held -/
def rIsX (K : PySem.W.Frag) : List V → Hp → VK → Prop := fun xs H Q => ∃ (a C : Addr) (c : V) (cv : Value) (b : Bool), xs = [.ref a, c] ∧ ErrO K C a H ∧ (∀ u, RelV c u → u = cv) ∧ PySem.W.kitOne K (.ref C) cv = some b ∧ Q (.bl b) H
theorem call_isX {X : Cx} : CallR X (.builtin "isinstance") (rIsX X.K) := by
  intro pins s σ H xs us Q I r h
  obtain ⟨a, C, c, cv, b, rfl, ⟨T, ho⟩, hcv, e, q⟩ := h
  obtain ⟨u1, u2, rfl, r1, r2⟩ := vals2 r
  obtain rfl : u1 = Value.ref a := r1
  obtain rfl := hcv _ r2
  have K1 : ∀ {ox : Obj} {od : Option Obj}, PySem.W.InstAt s.heap a ox C od → wpAny (model X.prog X.w) X.A (call (.builtin "isinstance") [.ref a, u2]) (EP X pins σ Q) X.xe s := fun J =>
    PySem.W.kia_one (PySem.W.kitx_exc T.isC T.ga T.gg T.exC T.ha T.hn T.ht T.hm) I.kIn J e (fun z => nomatch z) fun tk => ⟨.bl b, H, I.tok tk, rfl, q⟩
  rcases ho with h0 | ⟨d, fs, h0, h1⟩
  · obtain ⟨t1, hx⟩ := exo_at I.hok h0
    exact K1 (ox := { cls := .ref C, dict := none, data := .fields #[.ref t1, .none, .none, .none, .bool false, .none] }) (od := none) ⟨hx, rfl, rfl, trivial⟩
  · obtain ⟨t1, hx⟩ := exo_at I.hok h0
    obtain ⟨mA, hns, _⟩ := exd_at I.hok h1
    obtain ⟨o, es, ep, ho, _⟩ := hns
    exact K1 (ox := { cls := .ref C, dict := some d, data := .fields #[.ref t1, .none, .none, .none, .bool false, .none] }) (od := some o) ⟨hx, rfl, rfl, ho⟩
/-- e.f, e an error that keeps it -/
def tErF (K : PySem.W.Frag) (f : Str) (te : TE) : TE := fun σ H Q => te σ H fun x H1 => ∃ a C v, x = .ref a ∧ ErrV K f C v a H1 ∧ Q v H1
theorem pe_erF {X : Cx} {K : PySem.W.Frag} (hK : X.K = K) {e : Expr} {te : TE} {pos : Pos} {f : Str} (he : PE X e te) (hb : attributeBase e f X.env (eval e X.env) = eval e X.env := by rfl) :
    PE X (.Attribute e f pos) (tErF K f te) := by
  subst hK
  refine ⟨fun pins s σ H Q I h => attr_of hb (thn (he.run pins s σ H _ I h) fun u s1 hh => ?_)⟩
  obtain ⟨x, H1, I1, rx, a, C, v, ex, ⟨⟨fI, T⟩, d, h0, h1⟩, q⟩ := hh
  subst ex
  obtain rfl : u = Value.ref a := rx
  obtain ⟨t1, hx⟩ := exo_at I1.hok h0
  obtain ⟨mA, hns, hr⟩ := exd_at I1.hok h1
  obtain ⟨od, ho, hl⟩ := lookIn_ns hns
  have l1 : ([(f, v)] : List (Str × V)).lookup f = some v := by simp [List.lookup]
  obtain ⟨u, hu, ru⟩ := RelO.some_of (v := v) (o := mA f) (by rw [← l1]; exact hr f)
  have J : PySem.W.InstAt s1.heap a { cls := .ref C, dict := some d, data := .fields #[.ref t1, .none, .none, .none, .bool false, .none] } C (some od) := ⟨hx, rfl, rfl, ho⟩
  exact HandSPX.exc_get I1.kIn J T.k.ga T.k.gg T.k.exC (PySem.W.findObj_own T.k.hdC T.noF rfl (by rw [hl, hu])) (handed_of ru) ⟨v, H1, I1.tok _, ru, q⟩
end My
set_option Elab.async false
set_option linter.all false
set_option maxRecDepth 100000
set_option maxHeartbeats 4000000
/-! the head by one kernel run: what is read of the written part, as Bools, and the law's end -/
namespace My
open PySem PySem.Spec PyProof.Rows L2 Evl
theorem toFun {K : PySem.W.Frag} {x qual : Str} {st : Stmt} {f : Addr} {fd : FuncData} (F : FunD K x qual (defArgs st) (defBody st) (defScope st) [] [] f fd) : Fun K x qual st f fd := by
  obtain ⟨oc, od, dV, kV, doc, pm, an, cdv, ct, osl, rfl, lk, hcd, hD, hK⟩ := F.ex
  rcases hD with ⟨_, rfl⟩ | ⟨e, _⟩
  · exact ⟨⟨oc, od, kV, doc, pm, an, cdv, ct, osl, rfl, lk, hcd⟩, F.kp⟩
  · exact absurd rfl e
/-- what stands in the namespace at a by the name k, if it is an object -/
def daAt (K : PySem.W.Frag) (a : Addr) (k : Str) : Addr := match PySem.W.nsIn K a k with
  | some (some (.ref t)) => t
  | _ => 0
/-- the i-th item of the tuple or list at a, if it is an object -/
def itAt (K : PySem.W.Frag) (a : Addr) (i : Nat) : Addr := match K.lookup a with
  | some ⟨_, _, .seq its _, _⟩ => (match its.toList[i]? with
    | some (.ref b) => b
    | _ => 0)
  | _ => 0
def tupAt (K : PySem.W.Frag) (a : Addr) (vs : List V) : Bool := match K.lookup a with
  | some ⟨.type c, _, .seq its _, _⟩ => decide (c = "tuple") && (decide (its.size ≤ sizeLine) && He.relAll vs its.toList)
  | _ => false
theorem tupAt_ok {K : PySem.W.Frag} {a : Addr} {vs : List V} (h : tupAt K a vs = true) (H : Hp) : SqT K H a vs := by
  unfold tupAt at h
  cases q : K.lookup a with
  | none =>
    rw [q] at h
    cases h
  | some o =>
    obtain ⟨oc, od, dt, osl⟩ := o
    rw [q] at h
    cases oc with
    | type c =>
      cases dt with
      | seq its n =>
        obtain ⟨h1, h2⟩ := He.ba (show (decide (c = "tuple") && (decide (its.size ≤ sizeLine) && He.relAll vs its.toList)) = true from h)
        obtain ⟨h3, h4⟩ := He.ba h2
        exact .inr ⟨_, its, n, q, congrArg Value.type (of_decide_eq_true h1), rfl, of_decide_eq_true h3, He.relAll_ok h4⟩
      | _ => cases h
    | _ => cases dt <;> cases h
/-- an int by a name -/
def intAt (K : PySem.W.Frag) (a : Addr) (k : Str) (i : Int) : Bool := match PySem.W.nsIn K a k with
  | some (some (.int j _)) => decide (j = i)
  | _ => false
theorem intAt_ok {K : PySem.W.Frag} {a : Addr} {k : Str} {i : Int} (h : intAt K a k i = true) : ∃ t, PySem.W.nsIn K a k = some (some (.int i t)) := by
  unfold intAt at h
  split at h
  · rename_i j t e
    rw [e, of_decide_eq_true h]
    exact ⟨t, rfl⟩
  · cases h
/-- a value by a name -/
def valAt (K : PySem.W.Frag) (a : Addr) (k : Str) (v : V) : Bool := match PySem.W.nsIn K a k with
  | some (some u) => He.relB v u
  | _ => false
theorem valAt_ok {K : PySem.W.Frag} {a : Addr} {k : Str} {v : V} (h : valAt K a k v = true) : ∃ u, PySem.W.nsIn K a k = some (some u) ∧ RelV v u := by
  unfold valAt at h
  split at h
  · rename_i u e
    exact ⟨u, e, He.relB_ok h⟩
  · cases h
theorem valAt_mg {K : PySem.W.Frag} {h : Heap} {mg : Str → Option Value} (X : K.In h) (G : h.Ns mainGlobals mg) {k : Str} {v : V} (q : valAt K mainGlobals k v = true) : ∃ u, mg k = some u ∧ RelV v u := by
  obtain ⟨u, e, r⟩ := valAt_ok q
  exact ⟨u, PySem.W.mg_of X G e, r⟩
/-- an own error's class -/
def excB (K : PySem.W.Frag) (C : Addr) (newId : String) (tl : List Value → Bool) : Bool := match K.lookup C with
  | some ⟨.type "type", _, .cls cd, sl⟩ => (match cd.mro, sl.toList with
    | .ref C' :: bm, [_, _, _, _, some (.builtin n), _] => C' == C && n == newId && !cd.hasDel && cd.hasDict && tl bm
    | _, _ => false)
  | _ => false
theorem excB_ok {K : PySem.W.Frag} {C : Addr} {newId : String} {tl : List Value → Bool} (q : excB K C newId tl = true) :
    ∃ nm qn N bs bm sn sub ab col dd k0 k1 k2 k3 k5, K.lookup C = some (excClassObj nm qn C N bs bm true sn sub ab col dd k0 k1 k2 k3 k5 newId) ∧ tl bm = true := by
  unfold excB at q
  split at q
  · rename_i dd cd sl ho
    split at q
    · rename_i C' bm k0 k1 k2 k3 n k5 hm hs
      simp only [Bool.and_eq_true, beq_iff_eq, Bool.not_eq_true'] at q
      obtain ⟨⟨⟨⟨rfl, rfl⟩, hdel⟩, hdt⟩, ht⟩ := q
      obtain ⟨nm, bs, mro, ns, qn, hd, sn, sub, ab, col, del⟩ := cd
      dsimp only at hm hdel hdt
      subst hm hdel hdt
      have hsl : sl = #[k0, k1, k2, k3, some (.builtin n), k5] := by
        obtain ⟨l⟩ := sl
        simp only at hs
        rw [hs]
      subst hsl
      exact ⟨nm, qn, ns, bs, bm, sn, sub, ab, col, dd, k0, k1, k2, k3, k5, ho, ht⟩
    · cases q
  · cases q
def ttV : List Value := [.type "ValueError", .type "Exception", .type "BaseException", .type "object"]
theorem errCls {K : PySem.W.Frag} {C : Addr} {B newId initId : String} {tl bmB : List Value} (T : TailX B newId initId tl bmB) (q : excB K C newId (refsTo tl) = true) :
    ∃ B newId initId tl bmB nm q N bs bm sn sub ab col dd k0 k1 k2 k3 k5, K.lookup C = some (excClassObj nm q C N bs bm true sn sub ab col dd k0 k1 k2 k3 k5 newId) ∧ TailX B newId initId tl bmB ∧ refsTo tl bm = true := by
  obtain ⟨nm, qn, N, bs, bm, sn, sub, ab, col, dd, k0, k1, k2, k3, k5, h1, h2⟩ := excB_ok q
  exact ⟨B, newId, initId, tl, bmB, nm, qn, N, bs, bm, sn, sub, ab, col, dd, k0, k1, k2, k3, k5, h1, T, h2⟩
theorem noA {K : PySem.W.Frag} {C : Addr} {f : Str} (h : decide (PySem.W.findIn K (.ref C) f = some none) = true) : NoAttr K C f := show PySem.W.findIn K (.ref C) f = some none from of_decide_eq_true h
theorem map_mro {K : PySem.W.Frag} {C : Addr} {m : List Value} (h : (PySem.W.clsIn K C).map (·.mro) = some m) : ∃ cd, PySem.W.clsIn K C = some cd ∧ cd.mro = m := by
  obtain ⟨cd, h1, h2⟩ := Option.map_eq_some_iff.mp h
  exact ⟨cd, h1, h2⟩
/-- the facts, in rows -/
def exs (fs : PySem.W.Frag → List (List Bool)) (K : PySem.W.Frag) : Bool := (fs K).all fun l => l.all id
/-- what is told of the written part -/
structure SaysL (fn : List He.DefD) (ts : List He.Tab) (fs : PySem.W.Frag → List (List Bool)) (w : World) (K : PySem.W.Frag) : Prop where
  t : He.SaysT [] fn ts w K
  more : exs fs K = true
def obsL (as : List Addr) (fn : List He.DefD) (ts : List He.Tab) (fs : PySem.W.Frag → List (List Bool)) (g : Addr → Option Obj) : He.AlT × Bool := (He.obsT [] fn ts (He.frG g as), exs fs (He.frG g as))
def hookL (as : List Addr) (fn : List He.DefD) (ts : List He.Tab) (fs : PySem.W.Frag → List (List Bool)) : PySem.W.Hook where
  α := He.AlT × Bool
  obs := fun s => obsL as fn ts fs s.heap.get?
  val := fun w => (He.valT fn ts w, true)
  says := fun w h => ∃ K : PySem.W.Frag, K.In h ∧ SaysL fn ts fs w K
  of := fun _ _ e => ⟨_, He.frG_in, ⟨congrArg Prod.fst e, congrArg Prod.snd e⟩⟩
  keeps := fun _ _ _ ⟨K, hK, c⟩ k => ⟨K, PySem.W.Frag.In.keeps hK k, c⟩
theorem obsL_eq {as : List Addr} {fn : List He.DefD} {ts : List He.Tab} {fs : PySem.W.Frag → List (List Bool)} {g : Addr → Option Obj} {s : Shared} (h : ∀ a, g a = s.heap.get? a) : obsL as fn ts fs g = (hookL as fn ts fs).obs s := by
  have e : g = s.heap.get? := funext h
  rw [e] <;> rfl
theorem parts3 {α β γ δ : Type} {o : Option δ} {f : δ → α} {g : δ → β} {h : δ → γ} {a : α} {b : β} {c : γ} (x : o.map f = some a) (y : o.map g = some b) (z : o.map h = some c) : o.map (fun s => (f s, g s, h s)) = some (a, b, c) := by
  cases o with
  | none => cases x
  | some s => exact congrArg some (Prod.ext (Option.some.inj x) (Prod.ext (Option.some.inj y) (Option.some.inj z)))
open HandSHeadRun in
/-- the run's equation by its three parts, each a run of its own (memory) -/
theorem runI_of {r : PySem.W.OpenRow} {q : Program} {H : PySem.W.Hook} {ob : PySem.W.SharedT → H.α} {M : Nat} {loose : List PySem.Str} {w : World}
    (a : (wholeF (fun p => stepQ (denQ tabQ) p w) fenceQ M r.prog).map (fun x => looksF r.prog x.1.heap x.2.abs) = some true)
    (b : (wholeF (fun p => stepQ (denQ tabQ) p w) fenceQ M r.prog).map (fun x => seenQ q loose (importedModules r.prog.main.body) (fun s => PySem.W.xlAt q [] s && PySem.W.recOk r.toRowW.records s) x.2.abs) = some (PySem.W.openGood q loose))
    (c : (wholeF (fun p => stepQ (denQ tabQ) p w) fenceQ M r.prog).map (fun x => ob x.2) = some (H.val w)) : RunEqI r q H ob M loose w := parts3 a b c
theorem bit {fn : List He.DefD} {ts : List He.Tab} {fs : PySem.W.Frag → List (List Bool)} {w : World} {K : PySem.W.Frag} (c : SaysL fn ts fs w K) (i j : Nat) {l : List Bool} {b : Bool}
    (hi : (fs K)[i]? = some l) (hj : l[j]? = some b) : b = true := by
  have h1 := List.all_eq_true.mp (show ((fs K).all fun l => l.all id) = true from c.more) l (List.mem_of_getElem? hi)
  exact List.all_eq_true.mp h1 b (List.mem_of_getElem? hj)
theorem tabW {fa : List He.Fa} {fn : List He.DefD} {ts : List He.Tab} {w : World} {K : PySem.W.Frag} (c : He.SaysT fa fn ts w K) (i : Nat) {t : He.Tab} (h : ts[i]? = some t) : He.dicW K (t.1 K) = some (He.keysIn w.params t.2) := by
  have e : ts.map (fun t => He.dicW K (t.1 K)) = ts.map fun t => some (He.keysIn w.params t.2) := congrArg (fun z : He.AlT => z.2) c
  have e2 : (ts.map fun t => He.dicW K (t.1 K))[i]? = (ts.map fun t => some (He.keysIn w.params t.2))[i]? := by rw [e]
  rw [List.getElem?_map, List.getElem?_map, h] at e2
  exact Option.some.inj e2
/-- the law's end, over what a Hook says (walk_ofE, for FnG) -/
theorem walkGE {l : PySem.W.OpenLaw} {n k : Nat} {q : Program} {loose : List Str} {XP : (Str → Option Value) → Heap → Prop} {YP : World → Heap → Prop} {d : DefRec} {CX : CXT} {x : Str}
    (hn : l.most = some n) (h2 : n ≤ sizeLine) (hdf : d.params.defaults = []) (hr : Room k callerA)
    (F : ∀ (w : World) (mg : Str → Option Value) (fa : Addr) (h : Heap), YP w h → h.Ns mainGlobals mg → mg d.name = some (.ref fa) →
      ∃ (K : PySem.W.Frag) (fd : FuncData) (sp : Sp), K.In h ∧ (∀ (s : Shared) (u : Value), BindsTo s fd ⟨[u], []⟩ [(x, u)]) ∧
        (∀ (H : Hp) (a : Addr) (ns : List Int), ns.length ≤ n → Only H → SqL K H a (ns.map V.int) → sp [.ref a] H (fun v _ => v = .bl true) fun _ _ _ => False) ∧
        ∀ base : Heap, K.In base → base.Ns mainGlobals mg → FnG l.prog w K mg base CX k fa fd [x] sp)
    (hCX : ∀ (H : Hp) (s : Shared) (e : Value) (s' : Shared), CX [] H s (fun _ _ _ => False) e s' → False) :
    PySem.W.WalkO q loose XP YP l.row.toRowW d [] (fun f vs => PySem.call f vs) := by
  refine Att.attach_call hn hdf fun w s₀ s₁ mg mb fa o pm cd doc a vs ns G Y ho hd hcd hmg hobj hints hlen hg => ?_
  obtain ⟨K, fd, sp, KX, hb, hsp, hF⟩ := F w mg fa _ Y G.T.g hmg
  exact lawG KX G.T.g G.T.b G.T.builtins G.T.nolimit hg hobj hints (Nat.le_trans hlen h2) hr hF hb (fun H hO hS => hsp H a ns hlen hO hS) fun H e s' => hCX H s₁ e s'
end My
set_option Elab.async false
set_option linter.all false
set_option maxRecDepth 100000
set_option maxHeartbeats 4000000
/-! own classes: str(o), f'{o}', o == x, o != x by the classes' own methods -/
namespace My
open PySem PySem.Spec PyProof.Rows L2 Evl
section
variable {X : Cx} {pins : List (Addr × Obj)} {σ : L2.St} {H : Hp} {s : Shared}
theorem ins_at {a C dx : Addr} {fs : List (Str × V)} (I : Inv X pins σ H s) (e : H a = some (.ins C dx fs)) : ∃ od, PySem.W.InstAt s.heap a (PySem.W.instObj C dx) C (some od) := by
  obtain ⟨mA, O, _⟩ := ins_get I.hok e
  obtain ⟨od, J, _⟩ := O.look
  exact ⟨od, J⟩
/-- the method m of the class at C stands at g -/
structure MethC (K : PySem.W.Frag) (m : Str) (C g : Addr) : Prop where
  at_ : PySem.W.findIn K (.ref C) m = some (some (.ref g))
  fn : PySem.W.isFn K (.ref g) = true
/-- what an own class says that isinstance and f'{o}' ask -/
structure OC (K : PySem.W.Frag) (C : Addr) : Prop where
  cl : Cls K C
  ha : PySem.W.findIn K (.ref C) "__class__" = some (some (.builtin "object.__class__"))
  hn : PySem.W.specialIn K (.builtin "object.__class__") "__get__" = some (some (.builtin "getset_descriptor.__get__"))
  ht : PySem.W.takesIn K (.builtin "object.__class__") = some true
  hm : PySem.W.mroIn K C (.type "object") = some true
  fm : PySem.W.findIn K (.ref C) "__format__" = some (some (.builtin "object.__format__"))
theorem OC.ty {K : PySem.W.Frag} {C a dx : Addr} {fs : List (Str × V)} {H : Hp} (o : OC K C) (e : H a = some (.ins C dx fs)) : TyX K H (.ref a) (.ref C) := .base (.ins e o.cl o.ha o.hn o.ht o.hm)
/-- a promise of a method, on instances of the class at C -/
def onC (C : Addr) (sp : Sp) : Sp := fun vs H Q E => (∃ a dx fs rest, vs = .ref a :: rest ∧ H a = some (.ins C dx fs)) ∧ sp vs H Q E
/-- str(o): SF tells which def serves which class -/
def rStrO (SF : Addr → Addr → Prop) (sp : Sp) (E : XK) : List V → Hp → VK → Prop := fun xs H Q => ∃ a C dx fs g, xs = [.ref a] ∧ H a = some (.ins C dx fs) ∧ SF C g ∧ sp [.ref a] H (fun z H' => ∃ y, z = .str y ∧ Q z H') E
theorem call_strO {CX : CXT} {n : Nat} {sp : Sp} {E : XK} {SF : Addr → Addr → Prop} (hS : ∀ C g, SF C g → MethC X.K "__str__" C g) (hF : ∀ C g, SF C g → FnR X.prog X.w X.K X.mg X.base CX n g (onC C sp)) (hr : Room (n + 2) X.A) (hx : Passes CX X E) : CallR X (.type "str") (rStrO SF sp E) := by
  intro pins s σ H xs us Q I r h
  obtain ⟨a, C, dx, fs, g, rfl, ha, hg, q⟩ := h
  obtain ⟨u, rfl, ru⟩ := r.one
  obtain rfl : u = Value.ref a := ru
  obtain ⟨od, J⟩ := ins_at I ha
  have h2 : Room n X.A.in1.in1 := (show Room (n + 1) X.A.in1 from Room.in1 hr).in1
  refine PySem.W.kso_call h2.units0 I.kIn J (hS C g hg).at_ (hS C g hg).fn (wpAny_mono (wpAny_call (SlX.run_at (us := [.ref a]) (ws := [.ref a]) (hF C g hg) h2 I.env0.in1.in1 hx I (.cons rfl .nil) ⟨⟨_, _, _, _, rfl, ha⟩, q⟩)) (fun w s' z => ?_) fun _ _ x => x)
  obtain ⟨z', H', I', rz, y, ey, qz⟩ := z
  subst ey
  obtain ⟨t, e⟩ := (show ∃ t, w = Value.str y t from rz)
  cases e
  exact ⟨.str y, H', I', ⟨t, rfl⟩, qz⟩
/-- str(x), x an int or a text -/
def rStrA : List V → Hp → VK → Prop
  | [.int i], H, Q => i.natAbs.log2 < 1920 ∧ Q (.str (toString i)) H
  | [.str y], H, Q => Q (.str y) H
  | _, _, _ => False
/-- what an own class must say that f'{o}' is its str -/
structure FmtC (K : PySem.W.Frag) (C : Addr) : Prop where
  fm : PySem.W.findIn K (.ref C) "__format__" = some (some (.builtin "object.__format__"))
  om : PySem.W.mroIn K C (.type "object") = some true
def tFmtO (SF : Addr → Addr → Prop) (sp : Sp) (E : XK) (te : TE) : TE := fun σ H Q => te σ H fun x H1 => ∃ a C dx fs g, x = .ref a ∧ H1 a = some (.ins C dx fs) ∧ SF C g ∧ sp [.ref a] H1 (fun z H' => ∃ y, z = .str y ∧ Q z H') E
theorem pe_fmtO {CX : CXT} {n : Nat} {sp : Sp} {E : XK} {SF : Addr → Addr → Prop} {e : Expr} {te : TE} {pos : Pos} (hS : ∀ C g, SF C g → MethC X.K "__str__" C g ∧ FmtC X.K C) (hF : ∀ C g, SF C g → FnR X.prog X.w X.K X.mg X.base CX n g (onC C sp)) (hr : Room (n + 1) X.A) (hx : Passes CX X E)
    (he : PE X e te) : PE X (.FormattedValue e (-1) none pos) (tFmtO SF sp E te) := by
  refine ⟨fun pins s σ H Q I h => ?_⟩
  refine wpAny_FormattedValue_plain (thn (he.run pins s σ H _ I h) fun v s1 hv => ?_)
  obtain ⟨x, H1, I1, r1, a, C, dx, fs, g, ex, ha, hg, q⟩ := hv
  subst ex
  obtain rfl : v = Value.ref a := r1
  obtain ⟨od, J⟩ := ins_at I1 ha
  obtain ⟨M, Fm⟩ := hS C g hg
  have h2 : Room n X.A.in1 := Room.in1 hr
  have I2 := I1.tok (s1.toks + 1)
  refine PySem.W.kfo_fieldS h2.units0 I1.kIn J Fm.fm Fm.om M.at_ M.fn (wpAny_mono (wpAny_call (SlX.run_at (us := [.ref a]) (ws := [.ref a]) (hF C g hg) h2 I2.env0.in1 hx I2 (.cons rfl .nil) ⟨⟨_, _, _, _, rfl, ha⟩, q⟩)) (fun w s' z => ?_) fun _ _ x => x)
  obtain ⟨z', H', I', rz, y, ey, qz⟩ := z
  subst ey
  obtain ⟨t, e⟩ := (show ∃ t, w = Value.str y t from rz)
  cases e
  exact ⟨.str y, H', I', ⟨t, rfl⟩, qz⟩
/-- o == y by the own __eq__ of o's class; y of any type that is no class below it -/
def rEqO (K : PySem.W.Frag) (SF : Addr → Addr → Prop) (sp : Sp) (E : XK) : R2 := fun x y H Q => ∃ a C dx fs g t, x = .ref a ∧ H a = some (.ins C dx fs) ∧ SF C g ∧ TyX K H y t ∧ PySem.W.notFirst K C t = true ∧ sp [x, y] H Q E
theorem op_eqO {CX : CXT} {n : Nat} {sp : Sp} {E : XK} {SF : Addr → Addr → Prop} (hS : ∀ C g, SF C g → MethC X.K "__eq__" C g) (hF : ∀ C g, SF C g → FnR X.prog X.w X.K X.mg X.base CX n g (onC C sp)) (hr : Room n X.A) (hx : Passes CX X E) : OpR X (compareOp .Eq) (rEqO X.K SF sp E) := by
  intro pins s σ H x y v u Q I rx ry h
  obtain ⟨a, C, dx, fs, g, t, rfl, ha, hg, ty, hn, q⟩ := h
  obtain rfl : v = Value.ref a := rx
  obtain ⟨od, J⟩ := ins_at I ha
  obtain ⟨m, hFr⟩ := I.fr
  obtain ⟨PP, KX, hp, _⟩ := kit_of I ry ty
  show wpAny _ _ (richCompare .Eq _ _) _ _ _
  refine PySem.W.cmp_K (op := .Eq) (tb := t) hr.units0 hFr I.ok.mod.kin J (KX.ty _ _ I.kIn hp) hn (hS C g hg).at_ (hS C g hg).fn ?_
  refine wpAny_mono (wpAny_call (run_fnR (us := [.ref a, u]) (vs := [.ref a, y]) (hF C g hg) hr hx I (.cons rfl (.cons ry .nil)) ⟨⟨_, _, _, _, rfl, ha⟩, q⟩)) (fun w s' z => ?_) fun _ _ x => x
  obtain ⟨z', H', I', rz, qz⟩ := z
  exact SlX.cmpback rz ⟨z', H', I', rz, qz⟩
/-- C(), C an own class without an __init__ -/
structure New0 (K : PySem.W.Frag) (C : Addr) : Prop where
  mks : PySem.W.makesIn K C = true
  it : PySem.W.findIn K (.ref C) "__init__" = some (some (.builtin "object.__init__"))
  kp : PySem.W.keepIn K (.ref C) = true
def tNew0 (C : Addr) : TE := fun _ H Q => ∀ x dx, H x = none → H dx = none → dx ≠ x → Q (.ref x) (upd (upd H dx (.own x)) x (.ins C dx []))
open PySem.W in
theorem pe_new0 {C : Addr} {x : Str} {p pos : Pos} (T : New0 X.K C) (hg : Gl X x) (hm : X.mg x = some (.ref C)) (hdb : (x == ("__debug__" : Str)) = false := by decide) : PE X (.Call (.Name x p) [] [] pos) (tNew0 C) := by
  refine ⟨fun pins s σ H Q I h => ?_⟩
  refine wpAny_Call_Name_kw (ld_glob I hg hm ?_ hdb)
  refine PySem.W.callWith_K0 I.kIn T.kp ?_
  show wpAny _ _ (call (.ref C) []) _ _ _
  have I2 := Inv.made (C := C) I
  have hq := h (s.heap.objs.size + 1) s.heap.objs.size (I.hok.fresh (Nat.le_succ _)) (I.hok.fresh (Nat.le_refl _)) (Nat.ne_of_lt (Nat.lt_succ_self _))
  have Y := makes_of (M := model X.prog X.w) I.kIn T.mks
  refine wpAny_call (make_map0 I.kIn T.mks T.it (fun self => Looks.of_pure (oi_bind self)) ?_)
  have e2 : ((s.heap.push emptyDict).push (instObj C s.heap.objs.size)).get? (s.heap.objs.size + 1) = some (instObj C s.heap.objs.size) := by heap_get
  have t1 : Looks (model X.prog X.w) ((s.heap.push emptyDict).push (instObj C s.heap.objs.size)) (typeOf (.ref (s.heap.objs.size + 1))) (.ref C) := (Looks.ld e2).andThen .now
  have t2 : Looks (model X.prog X.w) ((s.heap.push emptyDict).push (instObj C s.heap.objs.size)) (isInstance (.ref (s.heap.objs.size + 1)) (.type "object")) true := t1.andThen (Y.top.keeps fun b o e => Heap.get?_push_of_some _ (Heap.get?_push_of_some _ e))
  refine codeAny_call_builtin oi_plain entry_oi (@check_slot (model X.prog X.w) _ _ _ "object.__init__" "object" "__init__" (.ref (s.heap.objs.size + 1)) [] [] _ oi_kind oi_split t2 (oi_args (.ref (s.heap.objs.size + 1))) ?_)
  rw [oi_run]
  exact wpAny_pure ⟨rfl, .ref (s.heap.objs.size + 1), _, I2, rfl, hq⟩
/-- a name of the module or of what is built in, by what it holds -/
theorem pe_globE {x : Str} {p : Pos} {v : V} (hg : Gl X x) (hm : ∃ u, X.mg x = some u ∧ RelV v u) (hdb : (x == ("__debug__" : Str)) = false := by decide) : PE X (.Name x p) (tC v) := by
  obtain ⟨u, hm, r⟩ := hm
  exact pe_glob hg hm r (hd := hdb)
theorem call_strA : CallR X (.type "str") rStrA := by
  intro pins s σ H xs us Q I r h
  unfold rStrA at h
  split at h
  · exact call_str_int pins s σ H _ us Q I r ⟨_, rfl, h.1, h.2⟩
  · exact SkE.call_str_str pins s σ H _ us Q I r ⟨_, rfl, h⟩
  · exact h.elim
theorem call_isiK {K : PySem.W.Frag} (hK : X.K = K := by rfl) : CallR X (.builtin "isinstance") (rIsi K) := by
  subst hK
  exact call_isi
theorem pg_tupK {K : PySem.W.Frag} {es : List Expr} {k : Nat} {t : TGs} {n : Nat} {pos : Pos} (hK : X.K = K) (hc : X.calm = true) (h : PGs X es t)
    (hn : (assignEach es X.env).length = n := by rfl) (hst : (assignEach es X.env).findIdx? (·.1) = none := by rfl) : PG X (.Tuple es k pos) (gTup K n t) := by
  subst hK
  exact pg_tup hc h hn hst
end
end My
set_option Elab.async false
set_option linter.all false
set_option maxRecDepth 100000
set_option maxHeartbeats 4000000
/-! o != y by object.__ne__ and the own __eq__ of o's class -/
namespace My
open PySem PySem.Spec PyProof.Rows L2 Evl
section
open PySem.W
variable {prog : Program} {w : World} {A : Around} {E : Value → Shared → Prop} {s : Shared} {K : Frag} {x C f : Addr} {ox : Obj} {od : Option Obj} {b tb : Value} {name : Str} {id : String}
theorem ifBound_B {M : Model} {args : List Value} {Q : Option Value → Shared → Prop} (X : K.In s.heap) (I : InstAt s.heap x ox C od) (hs : findIn K (.ref C) name = some (some (.builtin id))) (hb : ∀ self, bindSpecial (.builtin id) self = pure (.builtin id, [self]))
    (h : wpAny M A (call (.builtin id) (.ref x :: args)) (fun v => Q (some v)) E s) : wpAny M A (callSpecialIfBound? (.ref x) name args) Q E s := by
  simp only [callSpecialIfBound?, bindSpecialIfBound?]
  refine wpAny_holding (wpAny_bind (wpAny_bind (wpAny_bind (I.type.here ((looks_findIn X hs).here ?_)))))
  refine wpAny_bind (wpAny_askSetting (wpAny_ite ?_))
  have fin : wpAny M A (call (.builtin id) ([.ref x] ++ args) >>= fun v => pure (some v)) Q E s := wpAny_bind (wpAny_mono h (fun v s' h' => wpAny_pure h') fun _ _ h' => h')
  split
  · exact wpAny_bind ((Looks.of_pure (hb _)).here (wpAny_pure (by exact fin)))
  · exact wpAny_tryCatch (wpAny_bind ((Looks.of_pure (hb _)).here (wpAny_pure (by exact fin))))
theorem ne_bind (self : Value) : bindSpecial (.builtin "object.__ne__") self = pure (.builtin "object.__ne__", [self]) := PySem.F.cmp_object.ne.bind self
theorem objNe_K {Q : Fin → Shared → Prop} (X : K.In s.heap) (I : InstAt s.heap x ox C od) (hu : A.units < cLine) (hs : findIn K (.ref C) "__eq__" = some (some (.ref f))) (hf : isFn K (.ref f) = true)
    (hcall : wpAny (model prog w) A (call (.ref f) [.ref x, b]) (fun v s' => ∃ r, v = .bool r ∧ Q (.done (.ret (.bool (!r)))) s') E s) :
    wpAny (model prog w) A (Builtin.«object.__ne__» ⟨[.ref x, b], []⟩) Q E s := by
  unfold Builtin.«object.__ne__»
  repeat (first
    | with_reducible refine wpAny_cRoomFor hu ?_
    | (refine wpAny_bind (m := callSpecialIfBound? (.ref x) (Str.ofString "__eq__") [b])
        (ifBound_K X I hs hf (wpAny_mono hcall (fun v s' hr => by
          obtain ⟨r, rfl, hq⟩ := hr
          repeat (first | exact hq | exact wpAny_pure hq | exact wpAny_truthy_bool hq | (refine wpAny_bind (m := truthy (.bool _)) (wpAny_truthy_bool ?_)) | wp_step)) fun _ _ e => e)))
    | wp_step)
theorem cmpNe_K {Q : Value → Shared → Prop} (hu : A.units + 1 < cLine) (X : K.In s.heap) (I : InstAt s.heap x ox C od) (hb : Looks (model prog w) s.heap (typeOf b) tb) (hn : notFirst K C tb = true)
    (hne : findIn K (.ref C) "__ne__" = some (some (.builtin "object.__ne__"))) (hm : mroIn K C (.type "object") = some true)
    (hs : findIn K (.ref C) "__eq__" = some (some (.ref f))) (hf : isFn K (.ref f) = true)
    (h : wpAny (model prog w) A.in1 (call (.ref f) [.ref x, b]) (fun v s' => ∃ r, v = .bool r ∧ Q (.bool (!r)) s') E s) : wpAny (model prog w) A (richCompare .NotEq (.ref x) b) Q E s := by
  have one : wpAny (model prog w) A (tryCompare (.ref x) (cmpInfo .NotEq).2.1 b) (fun r s' => ∃ v, r = some v ∧ Q v s') E s := by
    simp only [tryCompare]
    refine wpAny_bind (ifBound_B X I hne ne_bind (wpAny_call (codeAny_call_builtin PySem.F.cmp_object.ne.plain F.cmpEntry_ne
      (check_slot (i := "object.__ne__") (owner := "object") (n := "__ne__") F.cmpKind_ne F.cmpSplit_ne (I.type.andThen (looks_mroIn X hm)) (F.cmpArgs_ne _ _) ?_))))
    refine objNe_K (A := A.in1) X I hu hs hf (wpAny_mono h (fun v s' hv => ?_) fun _ _ e => e)
    obtain ⟨r, rfl, hq⟩ := hv
    exact ⟨r, rfl, wpAny_pure ⟨_, rfl, hq⟩⟩
  unfold richCompare
  simp only [oneThing_ref]
  refine wpAny_holding (wpAny_bind (wpAny_cRoomFor (Nat.lt_of_succ_lt hu) ?_))
  refine wpAny_bind (I.type.here (wpAny_bind (hb.here ?_)))
  split
  · rename_i q
    have e : subIn K tb (.ref C) = some false := by
      rcases Bool.or_eq_true_iff.mp hn with e | e
      · rw [beq_iff_eq.mp e] at q; simp at q
      · exact beq_iff_eq.mp e
    refine wpAny_bind ((looks_subIn X e).here ?_)
    simp only [Bool.false_eq_true, if_false]
    refine wpAny_bind (wpAny_mono one (fun r s' z => ?_) fun _ _ e => e)
    obtain ⟨v, rfl, hq⟩ := z
    exact wpAny_pure hq
  · refine wpAny_bind (wpAny_pure ?_)
    simp only [Bool.false_eq_true, if_false]
    refine wpAny_bind (wpAny_mono one (fun r s' z => ?_) fun _ _ e => e)
    obtain ⟨v, rfl, hq⟩ := z
    exact wpAny_pure hq
end
/-- what an own class must say that != goes by its __eq__ -/
def NeC (K : PySem.W.Frag) (C : Addr) : Prop := PySem.W.findIn K (.ref C) "__ne__" = some (some (.builtin "object.__ne__")) ∧ PySem.W.mroIn K C (.type "object") = some true
def rNeO (K : PySem.W.Frag) (SF : Addr → Addr → Prop) (sp : Sp) (E : XK) : R2 := fun x y H Q => ∃ a C dx fs g t, x = .ref a ∧ H a = some (.ins C dx fs) ∧ SF C g ∧ TyX K H y t ∧ PySem.W.notFirst K C t = true ∧ sp [x, y] H (fun z H' => ∃ r, z = .bl r ∧ Q (.bl (!r)) H') E
theorem op_neO {X : Cx} {CX : CXT} {n : Nat} {sp : Sp} {E : XK} {SF : Addr → Addr → Prop} (hN : ∀ C g, SF C g → NeC X.K C) (hS : ∀ C g, SF C g → MethC X.K "__eq__" C g) (hF : ∀ C g, SF C g → FnR X.prog X.w X.K X.mg X.base CX n g (onC C sp)) (hr : Room (n + 1) X.A) (hx : Passes CX X E) : OpR X (compareOp .NotEq) (rNeO X.K SF sp E) := by
  intro pins s σ H x y v u Q I rx ry h
  obtain ⟨a, C, dx, fs, g, t, rfl, ha, hg, ty, hn, q⟩ := h
  obtain rfl : v = Value.ref a := rx
  obtain ⟨od, J⟩ := ins_at I ha
  obtain ⟨m, hFr⟩ := I.fr
  obtain ⟨PP, KX, hp, _⟩ := kit_of I ry ty
  have h2 : Room n X.A.in1 := Room.in1 hr
  have hu : X.A.units + 1 < cLine := by have := hr.units; omega
  show wpAny _ _ (richCompare .NotEq _ _) _ _ _
  refine cmpNe_K (tb := t) hu I.kIn J (KX.ty _ _ I.kIn hp) hn (hN C g hg).1 (hN C g hg).2 (hS C g hg).at_ (hS C g hg).fn ?_
  refine wpAny_mono (wpAny_call (SlX.run_at (us := [.ref a, u]) (ws := [.ref a, y]) (hF C g hg) h2 I.env0.in1 hx I (.cons rfl (.cons ry .nil)) ⟨⟨_, _, _, _, rfl, ha⟩, q⟩)) (fun w s' z => ?_) fun _ _ x => x
  obtain ⟨z', H', I', rz, r, ey, qz⟩ := z
  subst ey
  cases rz
  exact ⟨r, rfl, .bl (!r), H', I', rfl, qz⟩
end My
set_option Elab.async false
set_option linter.all false
set_option maxRecDepth 100000
set_option maxHeartbeats 4000000
/-! HD's Hook, with defs at any address: getters of properties, class methods -/
namespace My
open PySem PySem.Spec PyProof.Rows L2 Evl
/-- the getter of a property -/
def pgAt (K : PySem.W.Frag) (C : Addr) (m : Str) : Addr := match PySem.W.recIn K (He.ma K C m) "property" with
  | some (.ref g :: _) => g
  | _ => 0
/-- C's name m is a property -/
def propB (K : PySem.W.Frag) (C : Addr) (m : Str) : Bool :=
  decide (PySem.W.findIn K (.ref C) m = some (some (.ref (He.ma K C m)))) && (decide (PySem.W.specialIn K (.ref (He.ma K C m)) "__get__" = some (some (.builtin "property.__get__"))) &&
    (decide (PySem.W.takesIn K (.ref (He.ma K C m)) = some true) && (match PySem.W.recIn K (He.ma K C m) "property" with
      | some (.ref _ :: _) => true
      | _ => false)))
theorem propB_ok {K : PySem.W.Frag} {C : Addr} {m : Str} (h : propB K C m = true) : ∃ p, PropOf K C m p (pgAt K C m) := by
  obtain ⟨h1, h⟩ := He.ba h
  obtain ⟨h2, h⟩ := He.ba h
  obtain ⟨h3, h4⟩ := He.ba h
  refine ⟨He.ma K C m, of_decide_eq_true h1, of_decide_eq_true h2, of_decide_eq_true h3, ?_⟩
  unfold pgAt
  split at h4
  · rename_i g r e
    exact ⟨r, by rw [e]⟩
  · cases h4
structure SaysLA (fn : List He5.DefA) (ts : List He.Tab) (fs : PySem.W.Frag → List (List Bool)) (w : World) (K : PySem.W.Frag) : Prop where
  d : He5.SaysA [] fn K
  t : (ts.map fun (t : He.Tab) => He.dicW K (t.1 K)) = ts.map fun (t : He.Tab) => some (He.keysIn w.params t.2)
  more : exs fs K = true
abbrev AlLA : Type := He.AlD × (List (Option (List (Option (Str × Int)))) × Bool)
def obsLA (as : List Addr) (fn : List He5.DefA) (ts : List He.Tab) (fs : PySem.W.Frag → List (List Bool)) (g : Addr → Option Obj) : AlLA := (He5.obsA [] fn (He.frG g as), (ts.map fun (t : He.Tab) => He.dicW (He.frG g as) (t.1 (He.frG g as))), exs fs (He.frG g as))
def hookLA (as : List Addr) (fn : List He5.DefA) (ts : List He.Tab) (fs : PySem.W.Frag → List (List Bool)) : PySem.W.Hook where
  α := AlLA
  obs := fun s => obsLA as fn ts fs s.heap.get?
  val := fun w => (He5.valA fn, (ts.map fun (t : He.Tab) => some (He.keysIn w.params t.2)), true)
  says := fun w h => ∃ K : PySem.W.Frag, K.In h ∧ SaysLA fn ts fs w K
  of := fun _ _ e => ⟨_, He.frG_in, ⟨congrArg (fun z : AlLA => z.1) e, congrArg (fun z : AlLA => z.2.1) e, congrArg (fun z : AlLA => z.2.2) e⟩⟩
  keeps := fun _ _ _ ⟨K, hK, c⟩ k => ⟨K, PySem.W.Frag.In.keeps hK k, c⟩
theorem obsLA_eq {as : List Addr} {fn : List He5.DefA} {ts : List He.Tab} {fs : PySem.W.Frag → List (List Bool)} {g : Addr → Option Obj} {s : Shared} (h : ∀ a, g a = s.heap.get? a) : obsLA as fn ts fs g = (hookLA as fn ts fs).obs s := by
  have e : g = s.heap.get? := funext h
  rw [e] <;> rfl
theorem bitA {fn : List He5.DefA} {ts : List He.Tab} {fs : PySem.W.Frag → List (List Bool)} {w : World} {K : PySem.W.Frag} (c : SaysLA fn ts fs w K) (i j : Nat) {l : List Bool} {b : Bool}
    (hi : (fs K)[i]? = some l) (hj : l[j]? = some b) : b = true := by
  have h1 := List.all_eq_true.mp (show ((fs K).all fun l => l.all id) = true from c.more) l (List.mem_of_getElem? hi)
  exact List.all_eq_true.mp h1 b (List.mem_of_getElem? hj)
end My
set_option Elab.async false
set_option linter.all false
set_option maxRecDepth 100000
set_option maxHeartbeats 4000000
/-! several except clauses, each with a name for what is caught or without; raise of an own error of any chain -/
namespace My
open PySem PySem.Spec PyProof.Rows L2 Evl
abbrev Hd : Type := Value × Option Nat × (Addr → Value → Option Addr → TS)
/-- what the clauses wish of an exception of the body, one after the other -/
def wManyA (K : PySem.W.Frag) (Wout : WX) (D : Ends) : List Hd → WX
  | [] => Wout
  | (c, none, ts) :: r => fun cls d σ H => ∃ b, PySem.W.exmOne K cls c = some b ∧ (b = true → ∀ a, H a = none → ts a cls d D σ H) ∧ (b = false → wManyA K Wout D r cls d σ H)
  | (c, some i, ts) :: r => fun cls d σ H => ∃ b, PySem.W.exmOne K cls c = some b ∧
      (b = true → ∀ a, H a = none → ts a cls d { nx := fun σ' H' => D.nx (σ'.set i none) H', rt := D.rt, bk := fun σ' H' => D.bk (σ'.set i none) H', ct := fun σ' H' => D.ct (σ'.set i none) H' } (σ.set i (some (.ref a))) H) ∧
      (b = false → wManyA K Wout D r cls d σ H)
inductive HdA (X : Cx) : List ExceptHandler → List Hd → Prop
  | nil : HdA X [] []
  | plain {x : Str} {c : Value} {ts : Addr → Value → Option Addr → TS} {b₀ : Stmt} {suite : List Stmt} {np pos' : Pos} {hds : List ExceptHandler} {l : List Hd} (hc : Names X x c)
      (hsu : ∀ (a : Addr) (oe : Obj) (cls : Value) (d : Option Addr) (pn : List (Addr × Obj)), Zc cls d oe → (∃ vs, oe.data = .fields vs) → PSs (X.suite a ((a, oe) :: pn)) (b₀ :: suite) (ts a cls d)) (r : HdA X hds l) :
      HdA X (.ExceptHandler (some (.Name x np)) none (b₀ :: suite) pos' :: hds) ((c, none, ts) :: l)
  | as {x n : Str} {c : Value} {i : Nat} {ts : Addr → Value → Option Addr → TS} {b₀ : Stmt} {suite : List Stmt} {np pos' : Pos} {hds : List ExceptHandler} {l : List Hd} (hi : X.N[i]? = some n) (hln : X.env.kindOf n = some .local) (hc : Names X x c)
      (hsu : ∀ (a : Addr) (oe : Obj) (cls : Value) (d : Option Addr) (pn : List (Addr × Obj)), Zc cls d oe → (∃ vs, oe.data = .fields vs) → PSs (X.suite a ((a, oe) :: pn)) (b₀ :: suite) (ts a cls d)) (r : HdA X hds l) :
      HdA X (.ExceptHandler (some (.Name x np)) (some n) (b₀ :: suite) pos' :: hds) ((c, some i, ts) :: l)
section
variable {X : Cx} {body : List Stmt} {h₀ : ExceptHandler} {hds : List ExceptHandler} {l : List Hd} {pos : Pos} {tb : WX → TS} {Wout : WX}
theorem ps_try_manyA (hs : X.stack = X.env :: X.outer) (hf : X.env.frame = some X.env.locals) (hN : X.N.Nodup) (tk : Takes X Wout)
    (hb : ∀ (W : WX) (pn : List (Addr × Obj)) (xe : Value → Shared → Prop), Takes (X.tr pn xe) W → PassesOwn (model X.prog X.w) X.A X.env xe → PSs (X.tr pn xe) body (tb W))
    (hh : HdA X (h₀ :: hds) l) : PS X (.Try body (h₀ :: hds) [] [] pos) (fun D σ H => tb (wManyA X.K Wout D l) D σ H) := by
  refine ⟨fun pins s σ H D I h => ?_⟩
  have ok := I.ok
  have hfr : X.A.frames = some (X.env :: X.outer) := by rw [ok.frames, hs]
  refine wpAny_Try_except ?_
  refine wpAny_mono ((hb (wManyA X.K Wout D l) (X.pn ++ pins) (fun e s₁ => wpAny (model X.prog X.w) X.A (noteFrame e X.env) (fun _ s₂ => wpAny (model X.prog X.w) X.A (setFlight e none) (fun _ s₃ =>
    wpAny (model X.prog X.w) X.A (handleBy e X.env (h₀ :: hds)) (SP X pins D) X.xe s₃) X.xe s₂) X.xe s₁) (fun u s' xx => ?_) PassesOwn.looking).run [] s σ H D (I.toTry _) h) (fun f s1 hsp => ?_) (fun e s1 he => he)
  · -- the catch
    obtain ⟨a, B, sI, pins', σ', H', cls, d, rfl, J', nb, up, sky, na, os, ag, w⟩ := xx
    have J : Inv X pins σ' H' sI := J'.ofTry ok
    have sky' : Sky B (X.env :: X.outer) a (Zc cls d) X.env.locals s'.heap := by rw [← hs]; exact sky
    show wpAny (model X.prog X.w) X.A (noteFrame (.ref a) X.env) _ _ _
    refine Sky.land Zc.steady hfr hf sky' fun h3 fl3 up3 => ?_
    have J3 : Inv X pins σ' H' { s' with heap := h3 } := J.landed nb fl3.1 (up.trans up3) os ag
    obtain ⟨oe3, vs3, he3, hz3, hd3⟩ := fl3.there
    have notFr : ∀ {h : Heap} {o : Obj} {vs : Array Value}, h.FunFrames B (X.env :: X.outer) → h.get? a = some o → o.data = .fields vs → a ∉ frs (X.env :: X.outer) := fun {h o vs} ff e dd hm => by
      obtain ⟨_, o', e', hnf⟩ := ff.mem hm
      rw [e] at e'; cases e'
      exact hnf _ dd
    have nfr := notFr fl3.2.2.1 he3 hd3
    have nL : a ≠ X.env.locals := fun z => nfr (List.mem_filterMap.mpr ⟨X.env, List.mem_cons_self, by rw [hf, z]⟩)
    have nF : a ∉ X.fs := fun hm => by
      obtain ⟨e, he, q⟩ := List.mem_filterMap.mp hm
      exact nfr (List.mem_filterMap.mpr ⟨e, List.mem_cons_of_mem _ he, q⟩)
    have S3 := J3.suite he3 hd3 na nL nF
    have go : ∀ {hds' : List ExceptHandler} {l' : List Hd}, HdA X hds' l' → wManyA X.K Wout D l' cls d σ' H' →
        wpAny (model X.prog X.w) X.A (handleBy (.ref a) X.env hds') (SP X pins D) X.xe { s' with heap := h3 } := by
      intro hds' l' hk
      induction hk with
      | nil =>
        intro w
        refine wpAny_handleBy_nil ?_
        obtain ⟨k1, k2, k3, oe, vs, T, oT, ts', he, hz, hd, h1, hr⟩ := id fl3
        unfold PySem.passOn
        refine wpAny_bind (wpAny_field he hd h1 ?_)
        rw [if_neg (show ¬ ((Value.ref T == Value.none) = true) from by simp)]
        have fin : wpAny (model X.prog X.w) X.A (setFlight (.ref a) X.env.frame) (fun _ s4 => wpAny (model X.prog X.w) X.A (throw (.ref a) : Sem Flow) (SP X pins D) X.xe s4) X.xe { s' with heap := h3 } := by
          rw [hf]
          refine HandSPX.setFlight_upZ fl3 fun h4 hh4 up4 => wpAny_throw (tk _ _ ?_)
          exact ⟨a, B, sI, pins, σ', H', cls, d, rfl, J, nb, (up.trans up3).trans up4, .inr (.inr (by rw [hs]; exact hh4)), na, os, ag, w⟩
        first
          | exact wpAny_bind (wpAny_pure (wpAny_bind fin))
          | exact wpAny_bind fin
      | @plain x c ts b₀ suite np pos' hds2 l2 hc hsu r ih =>
        intro w
        obtain ⟨b, hb1, hyes, hno⟩ := w
        refine wpAny_handleBy_cons (codeAny_handlers_test ?_) (by intro q; cases q)
        have LT : PySem.W.Looks (model X.prog X.w) h3 (typeOf (.ref a)) cls := fun A Q E s k q => wpAny_typeOf_ref (k _ _ he3) (by rw [hz3.1]; exact q)
        have LM := PySem.W.exm_one (M := model X.prog X.w) (J3.kIn) LT hb1
        have test : ∀ {Q : Value → Shared → Prop} {E : Value → Shared → Prop}, Q c { s' with heap := h3 } → wpAny (model X.prog X.w) (X.A.mark (some (.ref a))) (eval (.Name x np) X.env) Q E { s' with heap := h3 } := fun {Q E} q => by
          obtain ⟨hg, hdbg, hm | ⟨hm, hv, hnn⟩⟩ := hc
          · exact ld_glob (X := X.suite a ((a, oe3) :: (X.pn ++ pins))) S3 hg hm q hdbg
          · exact ld_blt (X := X.suite a ((a, oe3) :: (X.pn ++ pins))) S3 hg hm hv q hnn hdbg
        refine test (LM.here ?_)
        cases b with
        | true =>
          refine codeAny_handlers_suite ?_
          refine HandSPX.lands_againZ fl3 fun h4 fl4 up4 => ?_
          have J4 : Inv X pins σ' H' { s' with heap := h4 } := J.landed nb fl4.1 ((up.trans up3).trans up4) os ag
          obtain ⟨oe4, vs4, he4, hz4, hd4⟩ := fl4.there
          have S4 := J4.suite he4 hd4 na nL nF
          refine wpAny_mono ((hsu a oe4 cls d (X.pn ++ pins) hz4 ⟨_, hd4⟩).run [] _ _ H' _ S4 (hyes rfl a na)) (fun f s6 hsp => ?_) (fun _ _ z => False.elim z)
          cases f with
          | next =>
            obtain ⟨σ6, H6, S6, q6⟩ := hsp
            exact ⟨_, _, S6.unsuite ok, q6⟩
          | brk =>
            obtain ⟨σ6, H6, S6, q6⟩ := hsp
            exact ⟨_, _, S6.unsuite ok, q6⟩
          | cont =>
            obtain ⟨σ6, H6, S6, q6⟩ := hsp
            exact ⟨_, _, S6.unsuite ok, q6⟩
          | ret u =>
            obtain ⟨v6, σ6, H6, S6, r6, q6⟩ := hsp
            exact ⟨_, _, _, S6.unsuite ok, r6, q6⟩
        | false =>
          show wpAny _ X.A (handleBy (.ref a) X.env hds2) _ _ _
          exact ih (hno rfl)
      | @as x n c i ts b₀ suite np pos' hds2 l2 hi hln hc hsu r ih =>
        intro w
        obtain ⟨b, hb1, hyes, hno⟩ := w
        have hloc : Loc X.env.scope n := .inl hln
        refine wpAny_handleBy_cons (codeAny_handlers_test ?_) (by intro q; cases q)
        have LT : PySem.W.Looks (model X.prog X.w) h3 (typeOf (.ref a)) cls := fun A Q E s k q => wpAny_typeOf_ref (k _ _ he3) (by rw [hz3.1]; exact q)
        have LM := PySem.W.exm_one (M := model X.prog X.w) (J3.kIn) LT hb1
        have test : ∀ {Q : Value → Shared → Prop} {E : Value → Shared → Prop}, Q c { s' with heap := h3 } → wpAny (model X.prog X.w) (X.A.mark (some (.ref a))) (eval (.Name x np) X.env) Q E { s' with heap := h3 } := fun {Q E} q => by
          obtain ⟨hg, hdbg, hm | ⟨hm, hv, hnn⟩⟩ := hc
          · exact ld_glob (X := X.suite a ((a, oe3) :: (X.pn ++ pins))) S3 hg hm q hdbg
          · exact ld_blt (X := X.suite a ((a, oe3) :: (X.pn ++ pins))) S3 hg hm hv q hnn hdbg
        refine test (LM.here ?_)
        cases b with
        | true =>
          refine codeAny_handlers_suite_as ?_
          refine HandSPX.lands_againZ fl3 fun h4 fl4 up4 => ?_
          have J4 : Inv X pins σ' H' { s' with heap := h4 } := J.landed nb fl4.1 ((up.trans up3).trans up4) os ag
          obtain ⟨oe4, vs4, he4, hz4, hd4⟩ := fl4.there
          have S4 := J4.suite he4 hd4 na nL nF
          refine store_ok (X := X.suite a ((a, oe4) :: (X.pn ++ pins))) (v := .ref a) S4 hN hi hloc rfl (fun s5 S5 => ?_) (.inr hln)
          refine wpAny_mono ((hsu a oe4 cls d (X.pn ++ pins) hz4 ⟨_, hd4⟩).run [] s5 _ H' _ S5 (hyes rfl a na)) (fun f s6 hsp => ?_) (fun _ _ z => False.elim z)
          have end_ : ∀ {σ6 : L2.St} {H6 : Hp} {Q : Shared → Prop}, Inv (X.suite a ((a, oe4) :: (X.pn ++ pins))) [] σ6 H6 s6 → (∀ s7, Inv X pins (σ6.set i none) H6 s7 → Q s7) →
              wpAny (model X.prog X.w) X.A (do bindName X.env n .none; unbindBehindTheSuite X.env n pos') (fun _ s7 => Q s7) X.xe s6 := fun {σ6 H6 Q} S6 hq => gone_ok (S6.unsuite ok) hN hi hln hq
          cases f with
          | next =>
            obtain ⟨σ6, H6, S6, q6⟩ := hsp
            exact end_ S6 fun s7 J7 => ⟨_, _, J7, q6⟩
          | brk =>
            obtain ⟨σ6, H6, S6, q6⟩ := hsp
            exact end_ S6 fun s7 J7 => ⟨_, _, J7, q6⟩
          | cont =>
            obtain ⟨σ6, H6, S6, q6⟩ := hsp
            exact end_ S6 fun s7 J7 => ⟨_, _, J7, q6⟩
          | ret u =>
            obtain ⟨v6, σ6, H6, S6, r6, q6⟩ := hsp
            exact end_ S6 fun s7 J7 => ⟨_, _, _, J7, r6, q6⟩
        | false =>
          show wpAny _ X.A (handleBy (.ref a) X.env hds2) _ _ _
          exact ih (hno rfl)
    exact go hh w
  · cases f with
    | next =>
      obtain ⟨σ', H', J', q⟩ := hsp
      exact wpAny_execs_nil ⟨σ', H', J'.ofTry ok, q⟩
    | brk =>
      obtain ⟨σ', H', J', q⟩ := hsp
      exact ⟨σ', H', J'.ofTry ok, q⟩
    | cont =>
      obtain ⟨σ', H', J', q⟩ := hsp
      exact ⟨σ', H', J'.ofTry ok, q⟩
    | ret u =>
      obtain ⟨v, σ', H', J', r, q⟩ := hsp
      exact ⟨v, σ', H', J'.ofTry ok, r, q⟩
end
/-! ### raise of an own error of any chain -/
structure ErrR (K : PySem.W.Frag) (mg : Str → Option Value) (x f : Str) (C fI : Addr) : Prop where
  g : mg x = some (.ref C)
  F : ErrF K f C fI
  ty : PySem.W.typeIn K (.ref C) = some (.type "type")
  te : PySem.W.exmOne K (.ref C) (.ref C) = some true
theorem ErrR.xf {K : PySem.W.Frag} {mg : Str → Option Value} {x f : Str} {C fI : Addr} (T : ErrR K mg x f C fI) : XfC K C := ⟨T.F.k.ga, T.F.k.gg, T.F.k.exC, T.F.k.hdC⟩
section
variable {X : Cx} {e : Expr} {es : List Expr} {ta : TA} {p pos : Pos}
theorem pmk_any {CX : CXT} {x f : Str} {C fI : Addr} {k : Nat} {fd : FuncData} {ps : List Str} {sp : Sp} {ds : List Value} {dvs : List V} (T : ErrR X.K X.mg x f C fI)
    (F1 : FnOk X.prog X.w X.K X.mg X.base CX k fI fd ps sp) (hr : Room (k + 1) X.A) (hb : Binds X.K fd ps ds) (hd : Vals dvs ds) (hx : Passes CX X (fun _ _ _ => False)) (hg : Gl X x) (ha : PA X (e :: es) ta)
    (hdb : (x == ("__debug__" : Str)) = false := by decide) (he : starEach (e :: es) X.env = (false, eval e X.env) :: starEach es X.env := by rfl) (hpl : (backTo pos (starEach es X.env)).any (·.1) = false := by rfl) :
    PMk X (.Call (.Name x p) (e :: es) [] pos) (tMkO C sp dvs ta) := by
  intro pins s σ H Q I h
  obtain ⟨B, newId, initId, tl, bmB, nm, q, N, bs, bm, sn, sub, ab, col, dd, k0, k1, k2, k3, k5, hC, hY, hbm⟩ := T.F.k.cls
  refine wpAny_Call_Name_kw (ld_glob I hg T.g ?_ hdb)
  refine PySem.W.callWith_K (h₀ := X.base) I.ok.mod.kin T.F.k.kC (thn (ha.run pos pins s σ H _ I h) fun us s1 ⟨vs, H1, I1, r1, hz, q1⟩ => ⟨I1.kIn, ?_⟩) he hpl
  show wpAny _ _ (call (.ref C) us) _ _ _
  obtain ⟨hp, g, dr, tk, os⟩ := s1
  have hsz : hp.objs.size ≤ hp.objs.size + 1 := Nat.le_succ _
  have hn : H1 (hp.objs.size + 1) = none := I1.hok.fresh hsz
  have hq := q1 (hp.objs.size + 1) hn
  have kk : ∀ b o, hp.get? b = some o → ((hp.push (PySem.W.kdv_tup us)).push (PySem.HandSPX.excO C hp.objs.size)).get? b = some o := fun b o e => Heap.get?_push_of_some _ (Heap.get?_push_of_some _ e)
  have hget : ((hp.push (PySem.W.kdv_tup us)).push (PySem.HandSPX.excO C hp.objs.size)).get? (hp.objs.size + 1) = some (PySem.HandSPX.excO C hp.objs.size) := by heap_get
  have I2 : Inv X pins σ (upd H1 (hp.objs.size + 1) (exo (hp.objs.size + 1) C none)) ⟨(hp.push (PySem.W.kdv_tup us)).push (PySem.HandSPX.excO C hp.objs.size), g, dr, tk, os⟩ :=
    I1.laid (t' := tk) (a := hp.objs.size + 1) (o := exo (hp.objs.size + 1) C none) (h' := (hp.push (PySem.W.kdv_tup us)).push (PySem.HandSPX.excO C hp.objs.size)) kk hsz (exo_ok hget)
  have r2 : Vals (V.ref (hp.objs.size + 1) :: (vs ++ dvs)) (Value.ref (hp.objs.size + 1) :: (us ++ ds)) := .cons rfl (r1.append hd)
  have hl : (Value.ref (hp.objs.size + 1) :: us ++ ds).length = ps.length := by
    have e := r2.length
    rw [F1.len _ _ _ _ hq] at e
    exact e.symm
  have hus : us.length ≤ sizeLine := by
    rw [← Paired.length r1, sizeLine_eq]
    omega
  refine wpAny_call (callX hY hbm (I1.kIn _ _ hC) (PySem.W.looks_findIn I1.kIn T.F.iC) (fun self => PySem.W.bind_fn I1.kIn self T.F.tI) hus
    (codeAny_mono (F1.run _ X.stack _ _ ⟨Value.ref (hp.objs.size + 1) :: us, []⟩ (Value.ref (hp.objs.size + 1) :: (us ++ ds)) _ _ (fun _ _ _ => False) (hr.make C us []) (I2.env0.make C us []) (hb _ (Value.ref (hp.objs.size + 1) :: us) I2.kIn hl) r2 hq) fun r s' hq' => ?_))
  cases r with
  | error er => exact hx pins σ _ _ er s' I2 hq'
  | ok fl =>
    cases fl with
    | ret u =>
      obtain ⟨v, H2, os2, bare2, un2, hok2, rv, ev, d, fs, ea, ed, hd1, q2⟩ := hq'
      subst ev
      obtain ⟨h2, g2, d2, t2, os'⟩ := s'
      exact ⟨rv, mk_end (raises_own T.F.k.exC T.ty) I1 hsz kk un2 hok2 os2 bare2 ea ed hd1 q2⟩
    | next => exact False.elim hq'
    | brk => exact False.elim hq'
    | cont => exact False.elim hq'
end
/-- the making of an error, by what its __init__ promises -/
theorem mkErrR {K : PySem.W.Frag} {mg : Str → Option Value} {x : Str} {C fI : Addr} {f : Str} {v : V} {H : Hp} {Q : XK} (T : ErrR K mg x f C fI) (q : ∀ d, H d = none → Q (.ref C) (some d) (upd H d (.xd [(f, v)]))) :
    [v].length ≤ 1000 ∧ ∀ a, H a = none → spIniX K f (.ref a :: ([v] ++ [])) (upd H a (exo a C none))
      (fun u H2 => u = .non ∧ ∃ (d : Addr) (fs : List (Str × V)), H2 a = some (exo a C (some d)) ∧ H2 d = some (exd d fs) ∧ H d = none ∧ Q (.ref C) (some d) (upd (del H2 a) d (.xd fs))) (fun _ _ _ => False) := by
  refine ⟨by simp, fun a ha => ⟨C, fI, T.F, upd_same, fun dx hd hne => ⟨rfl, dx, [(f, v)], upd_same, ?_, ?_, ?_⟩⟩⟩
  · rw [upd_ne hne, upd_same]
  · rw [upd_ne hne] at hd; exact hd
  · have hd0 : H dx = none := by rw [upd_ne hne] at hd; exact hd
    have e : upd (del (upd (upd (upd H a (exo a C none)) dx (exd dx [(f, v)])) a (exo a C (some dx))) a) dx (.xd [(f, v)]) = upd H dx (.xd [(f, v)]) := by
      funext b
      by_cases hb : b = dx
      · rw [hb, upd_same, upd_same]
      · rw [upd_ne hb, upd_ne hb]
        by_cases hba : b = a
        · rw [hba, del_same, ha]
        · rw [del_ne hba, upd_ne hba, upd_ne hb, upd_ne hba]
    rw [e]
    exact q dx hd0
end My
set_option Elab.async false
set_option linter.all false
set_option maxRecDepth 100000
set_option maxHeartbeats 4000000
/-! rows and tests as plain data: what stands in the heap for them, what they are told of by -/
namespace My
open PySem PySem.Spec PyProof.Rows L2 Evl
inductive TestM where
  | ask (word : Str) (names : List Str)
  | not (t : TestM)
  deriving DecidableEq
inductive RowM where
  | stop
  | put (name deed : Str) (given : List V)
  | times (n : Nat) (rows : List RowM)
  | ifr (t : TestM) (rows others : List RowM)
def All2T {α β : Type} (R : α → β → Prop) : List α → List β → Prop
  | [], [] => True
  | a :: as, b :: bs => R a b ∧ All2T R as bs
  | _, _ => False
theorem All2T.imp {α β : Type} {R S : α → β → Prop} (h : ∀ a b, R a b → S a b) : ∀ {as : List α} {bs : List β}, All2T R as bs → All2T S as bs
  | [], [], _ => trivial
  | _ :: _, _ :: _, ⟨x, y⟩ => ⟨h _ _ x, All2T.imp h y⟩
  | [], _ :: _, x => x.elim
  | _ :: _, [], x => x.elim
theorem All2T.len {α β : Type} {R : α → β → Prop} : ∀ {as : List α} {bs : List β}, All2T R as bs → bs.length = as.length
  | [], [], _ => rfl
  | _ :: _, _ :: _, ⟨_, y⟩ => by rw [List.length_cons, List.length_cons, All2T.len y]
  | [], _ :: _, x => x.elim
  | _ :: _, [], x => x.elim
theorem All2T.at_ {α β : Type} {R : α → β → Prop} : ∀ {as : List α} {bs : List β} {i : Nat} {b : β}, All2T R as bs → bs[i]? = some b → ∃ a, as[i]? = some a ∧ R a b
  | [], [], _, _, _, h => by simp at h
  | a :: _, b :: _, 0, _, ⟨x, _⟩, h => by
    rw [List.getElem?_cons_zero] at h
    cases h
    exact ⟨a, rfl, x⟩
  | _ :: _, _ :: _, i + 1, _, ⟨_, y⟩, h => by
    rw [List.getElem?_cons_succ] at h ⊢
    exact All2T.at_ y h
  | [], _ :: _, _, _, x, _ => x.elim
  | _ :: _, [], _, _, x, _ => x.elim
theorem All2T.snoc {α β : Type} {R : α → β → Prop} {a : α} {b : β} (r : R a b) : ∀ {as : List α} {bs : List β}, All2T R as bs → All2T R (as ++ [a]) (bs ++ [b])
  | [], [], _ => ⟨r, trivial⟩
  | _ :: _, _ :: _, ⟨x, y⟩ => ⟨x, All2T.snoc r y⟩
  | [], _ :: _, x => x.elim
  | _ :: _, [], x => x.elim
/-- an argument of a deed: a name or a number -/
def argV : V → Prop
  | .str _ => True
  | .int i => 0 ≤ i
  | _ => False
/-- the text of an argument -/
def argT : V → Str
  | .str x => x
  | .int i => toString i
  | _ => ""
def TestM.dep : TestM → Nat
  | .ask .. => 0
  | .not t => t.dep + 1
mutual
def RowM.dep : RowM → Nat
  | .stop | .put .. => 0
  | .times _ rs => RowM.deps rs + 1
  | .ifr _ rs os => max (RowM.deps rs) (RowM.deps os) + 1
def RowM.deps : List RowM → Nat
  | [] => 0
  | r :: rs => max r.dep (RowM.deps rs)
end
/-! ### the texts -/
def signs : List Str := ["+", "-", "*", "//", "**"]
def TestM.text : TestM → Str
  | .ask w ns => Txt.join " " (w :: ns)
  | .not t => Str.ofString "not " ++ t.text
def putText (n d : Str) (g : List V) : Str :=
  if d ∈ signs then (match g with
    | [a, b] => n ++ Str.ofString " = " ++ argT a ++ Str.ofString " " ++ d ++ Str.ofString " " ++ argT b
    | _ => "")
  else Txt.join " " (n :: "=" :: d :: g.map argT)
mutual
def RowM.lines : RowM → List Str
  | .stop => ["stop"]
  | .put n d g => [putText n d g]
  | .times c rs => (Str.ofString "times " ++ Str.ofString (toString (c : Int))) :: (RowM.liness rs ++ [("end" : Str)])
  | .ifr t rs os => (Str.ofString "if " ++ t.text) :: ((RowM.liness rs ++ RowM.elses os) ++ [("end" : Str)])
def RowM.liness : List RowM → List Str
  | [] => []
  | r :: rs => r.lines ++ RowM.liness rs
def RowM.elses : List RowM → List Str
  | [] => []
  | r :: rs => ("else" : Str) :: (r.lines ++ RowM.liness rs)
end
def RowM.text (r : RowM) : Str := Txt.join "\n" r.lines
/-! ### the package's objects -/
structure ClsA where
  put : Addr
  ifr : Addr
  times : Addr
  stop : Addr
  ask : Addr
  not : Addr
/-- which class is which: 0 to 5 the classes of rows and tests, 6 Row, 7 Test -/
def clsL (A : ClsA) (row test : Addr) : List Addr := [A.put, A.ifr, A.times, A.stop, A.ask, A.not, row, test]
def ansO (i j : Nat) : Bool := decide (i = j ∨ (j = 6 ∧ i < 4) ∨ (j = 7 ∧ 4 ≤ i))
def plainTs : List String := ["str", "tuple", "list", "int", "bool", "NoneType"]
def kitO (K : PySem.W.Frag) (A : ClsA) (row test : Addr) : Bool :=
  ((List.range 6).all fun i => (List.range 8).all fun j => PySem.W.kitOne K (.ref ((clsL A row test).getD i 0)) (.ref ((clsL A row test).getD j 0)) == some (ansO i j)) &&
  (((List.range 6).all fun i => plainTs.all fun t => PySem.W.kitOne K (.ref ((clsL A row test).getD i 0)) (.type t) == some false) &&
  ((List.range 8).all fun j => plainTs.all fun t => PySem.W.kitOne K (.type t) (.ref ((clsL A row test).getD j 0)) == some false))
section
variable {K : PySem.W.Frag} {A : ClsA} {row test : Addr}
theorem kitO1 (h : kitO K A row test = true) (i j : Nat) (hi : i < 6) (hj : j < 8) : PySem.W.kitOne K (.ref ((clsL A row test).getD i 0)) (.ref ((clsL A row test).getD j 0)) = some (ansO i j) := by
  have h1 := List.all_eq_true.mp (Bool.and_eq_true_iff.mp h).1 i (List.mem_range.mpr hi)
  exact eq_of_beq (List.all_eq_true.mp h1 j (List.mem_range.mpr hj))
theorem clsNe (h : kitO K A row test = true) (i j : Nat) (hi : i < 6) (hj : j < 6) (hne : i ≠ j) : (clsL A row test).getD i 0 ≠ (clsL A row test).getD j 0 := fun e => by
  have h1 := kitO1 h i j hi (by omega)
  have h2 := kitO1 h i i hi (by omega)
  rw [← e, h2] at h1
  have h3 : ansO i i = true := by unfold ansO; simp
  have h4 : ansO i j = false := by unfold ansO; simp; omega
  rw [h3, h4] at h1
  cases h1
theorem kitO2 (h : kitO K A row test = true) (i : Nat) (t : String) (hi : i < 6) (ht : t ∈ plainTs) : PySem.W.kitOne K (.ref ((clsL A row test).getD i 0)) (.type t) = some false := by
  have h1 := List.all_eq_true.mp (Bool.and_eq_true_iff.mp (Bool.and_eq_true_iff.mp h).2).1 i (List.mem_range.mpr hi)
  exact eq_of_beq (List.all_eq_true.mp h1 t ht)
theorem kitO3 (h : kitO K A row test = true) (j : Nat) (t : String) (hj : j < 8) (ht : t ∈ plainTs) : PySem.W.kitOne K (.type t) (.ref ((clsL A row test).getD j 0)) = some false := by
  have h1 := List.all_eq_true.mp (Bool.and_eq_true_iff.mp (Bool.and_eq_true_iff.mp h).2).2 j (List.mem_range.mpr hj)
  exact eq_of_beq (List.all_eq_true.mp h1 t ht)
end
section
variable (K : PySem.W.Frag) (A : ClsA) (H : Hp)
def TestO : TestM → V → Prop
  | .ask w ns, v => ∃ a dx q, v = .ref a ∧ H a = some (.ins A.ask dx [("word", .str w), ("names", .ref q)]) ∧ SqT K H q (ns.map V.str)
  | .not t, v => ∃ a dx u, v = .ref a ∧ H a = some (.ins A.not dx [("test", u)]) ∧ TestO t u
mutual
def RowO : RowM → V → Prop
  | .stop, v => ∃ a dx, v = .ref a ∧ H a = some (.ins A.stop dx [])
  | .put n d g, v => ∃ a dx q, v = .ref a ∧ H a = some (.ins A.put dx [("name", .str n), ("deed", .str d), ("given", .ref q)]) ∧ SqT K H q g
  | .times c rs, v => ∃ a dx q vs, v = .ref a ∧ H a = some (.ins A.times dx [("count", .int c), ("rows", .ref q)]) ∧ SqT K H q vs ∧ RowOs rs vs
  | .ifr t rs os, v => ∃ a dx u q r vs ws, v = .ref a ∧ H a = some (.ins A.ifr dx [("test", u), ("rows", .ref q), ("others", .ref r)]) ∧ TestO K A H t u ∧ SqT K H q vs ∧ RowOs rs vs ∧ SqT K H r ws ∧ RowOs os ws
def RowOs : List RowM → List V → Prop
  | [], vs => vs = []
  | r :: rs, vs => ∃ v ws, vs = v :: ws ∧ RowO r v ∧ RowOs rs ws
end
/-! ### the law's own tuples -/
def TestT : TestM → V → Prop
  | .ask w ns, v => ∃ a q, v = .ref a ∧ SqT K H a [.str "ask", .str w, .ref q] ∧ SqT K H q (ns.map V.str)
  | .not t, v => ∃ a u, v = .ref a ∧ SqT K H a [.str "not", u] ∧ TestT t u
mutual
def RowT : RowM → V → Prop
  | .stop, v => ∃ a, v = .ref a ∧ SqT K H a [.str "stop"]
  | .put n d g, v => ∃ a q, v = .ref a ∧ SqT K H a [.str "put", .str n, .str d, .ref q] ∧ SqT K H q g
  | .times c rs, v => ∃ a q vs, v = .ref a ∧ SqT K H a [.str "times", .int c, .ref q] ∧ SqT K H q vs ∧ RowTs rs vs
  | .ifr t rs os, v => ∃ a u q r vs ws, v = .ref a ∧ SqT K H a [.str "if", u, .ref q, .ref r] ∧ TestT K H t u ∧ SqT K H q vs ∧ RowTs rs vs ∧ SqT K H r ws ∧ RowTs os ws
def RowTs : List RowM → List V → Prop
  | [], vs => vs = []
  | r :: rs, vs => ∃ v ws, vs = v :: ws ∧ RowT r v ∧ RowTs rs ws
end
end
/-- all but lists stays -/
def Kp (H H' : Hp) : Prop := ∀ b o, (∀ xs, o ≠ .lst xs) → H b = some o → H' b = some o
theorem Kp.of_ex {H H' : Hp} (e : Ex H H') : Kp H H' := fun b o _ h => e b o h
theorem Kp.refl (H : Hp) : Kp H H := fun _ _ _ h => h
theorem Kp.trans {H H1 H2 : Hp} (a : Kp H H1) (b : Kp H1 H2) : Kp H H2 := fun c o n h => b c o n (a c o n h)
theorem Kp.tup {H H' : Hp} (e : Kp H H') {a : Addr} {xs : List V} (h : H a = some (.tup xs)) : H' a = some (.tup xs) := e _ _ (fun _ z => by cases z) h
theorem Kp.ins {H H' : Hp} (e : Kp H H') {a C dx : Addr} {fs : List (Str × V)} (h : H a = some (.ins C dx fs)) : H' a = some (.ins C dx fs) := e _ _ (fun _ z => by cases z) h
theorem Kp.sqt {K : PySem.W.Frag} {H H' : Hp} (e : Kp H H') {a : Addr} {xs : List V} (h : SqT K H a xs) : SqT K H' a xs := by
  rcases h with (h | ⟨o, h⟩) | h
  · exact .inl (.inl (e.tup h))
  · exact .inl (.inr ⟨o, e _ _ (fun _ z => by cases z) h⟩)
  · exact .inr h
section
variable {K : PySem.W.Frag} {A : ClsA} {H H' : Hp}
theorem TestO.kp (e : Kp H H') : ∀ {t : TestM} {v : V}, TestO K A H t v → TestO K A H' t v
  | .ask _ _, _, ⟨a, dx, q, h1, h2, h3⟩ => ⟨a, dx, q, h1, e.ins h2, e.sqt h3⟩
  | .not _, _, ⟨a, dx, u, h1, h2, h3⟩ => ⟨a, dx, u, h1, e.ins h2, h3.kp e⟩
theorem TestT.kp (e : Kp H H') : ∀ {t : TestM} {v : V}, TestT K H t v → TestT K H' t v
  | .ask _ _, _, ⟨a, q, h1, h2, h3⟩ => ⟨a, q, h1, e.sqt h2, e.sqt h3⟩
  | .not _, _, ⟨a, u, h1, h2, h3⟩ => ⟨a, u, h1, e.sqt h2, h3.kp e⟩
mutual
theorem RowO.kp (e : Kp H H') : ∀ {r : RowM} {v : V}, RowO K A H r v → RowO K A H' r v
  | .stop, _, h => by
    obtain ⟨a, dx, h1, h2⟩ := h
    exact ⟨a, dx, h1, e.ins h2⟩
  | .put _ _ _, _, h => by
    obtain ⟨a, dx, q, h1, h2, h3⟩ := h
    exact ⟨a, dx, q, h1, e.ins h2, e.sqt h3⟩
  | .times _ rs, _, h => by
    obtain ⟨a, dx, q, vs, h1, h2, h3, h4⟩ := h
    exact ⟨a, dx, q, vs, h1, e.ins h2, e.sqt h3, RowOs.kp e h4⟩
  | .ifr _ rs os, _, h => by
    obtain ⟨a, dx, u, q, r, vs, ws, h1, h2, h3, h4, h5, h6, h7⟩ := h
    exact ⟨a, dx, u, q, r, vs, ws, h1, e.ins h2, h3.kp e, e.sqt h4, RowOs.kp e h5, e.sqt h6, RowOs.kp e h7⟩
theorem RowOs.kp (e : Kp H H') : ∀ {rs : List RowM} {vs : List V}, RowOs K A H rs vs → RowOs K A H' rs vs
  | [], _, h => h
  | r :: rs, _, h => by
    obtain ⟨v, ws, h1, h2, h3⟩ := h
    exact ⟨v, ws, h1, RowO.kp e h2, RowOs.kp e h3⟩
end
mutual
theorem RowT.kp (e : Kp H H') : ∀ {r : RowM} {v : V}, RowT K H r v → RowT K H' r v
  | .stop, _, h => by
    obtain ⟨a, h1, h2⟩ := h
    exact ⟨a, h1, e.sqt h2⟩
  | .put _ _ _, _, h => by
    obtain ⟨a, q, h1, h2, h3⟩ := h
    exact ⟨a, q, h1, e.sqt h2, e.sqt h3⟩
  | .times _ rs, _, h => by
    obtain ⟨a, q, vs, h1, h2, h3, h4⟩ := h
    exact ⟨a, q, vs, h1, e.sqt h2, e.sqt h3, RowTs.kp e h4⟩
  | .ifr _ rs os, _, h => by
    obtain ⟨a, u, q, r, vs, ws, h1, h2, h3, h4, h5, h6, h7⟩ := h
    exact ⟨a, u, q, r, vs, ws, h1, e.sqt h2, h3.kp e, e.sqt h4, RowTs.kp e h5, e.sqt h6, RowTs.kp e h7⟩
theorem RowTs.kp (e : Kp H H') : ∀ {rs : List RowM} {vs : List V}, RowTs K H rs vs → RowTs K H' rs vs
  | [], _, h => h
  | r :: rs, _, h => by
    obtain ⟨v, ws, h1, h2, h3⟩ := h
    exact ⟨v, ws, h1, RowT.kp e h2, RowTs.kp e h3⟩
end
end
section
variable {K : PySem.W.Frag} {A : ClsA} {row test : Addr} {H : Hp} {a dx : Addr} {fs : List (Str × V)} {r : RowM}
theorem RowO.put_of (k : kitO K A row test = true) (hr : RowO K A H r (.ref a)) (h0 : H a = some (.ins A.put dx fs)) : ∃ (n d : Str) (g : List V) (q : Addr), r = .put n d g ∧ fs = ([("name", .str n), ("deed", .str d), ("given", .ref q)] : List (Str × V)) ∧ SqT K H q g := by
  cases r with
  | put n d g => unfold RowO at hr; obtain ⟨b, dx2, q, e, h2, h3⟩ := hr; cases e; rw [h0] at h2; exact ⟨n, d, g, q, rfl, (HO.ins.inj (Option.some.inj h2)).2.2, h3⟩
  | stop => unfold RowO at hr; obtain ⟨b, dx2, e, h2⟩ := hr; cases e; rw [h0] at h2; exact absurd (HO.ins.inj (Option.some.inj h2)).1 (clsNe k 0 3 (by decide) (by decide) (by decide))
  | times c rs => unfold RowO at hr; obtain ⟨b, dx2, q, vs, e, h2, _⟩ := hr; cases e; rw [h0] at h2; exact absurd (HO.ins.inj (Option.some.inj h2)).1 (clsNe k 0 2 (by decide) (by decide) (by decide))
  | ifr t rs os => unfold RowO at hr; obtain ⟨b, dx2, u, q, x, vs, ws, e, h2, _⟩ := hr; cases e; rw [h0] at h2; exact absurd (HO.ins.inj (Option.some.inj h2)).1 (clsNe k 0 1 (by decide) (by decide) (by decide))
theorem RowO.stop_of (k : kitO K A row test = true) (hr : RowO K A H r (.ref a)) (h0 : H a = some (.ins A.stop dx fs)) : r = .stop := by
  cases r with
  | stop => rfl
  | put n d g => unfold RowO at hr; obtain ⟨b, dx2, q, e, h2, h3⟩ := hr; cases e; rw [h0] at h2; exact absurd (HO.ins.inj (Option.some.inj h2)).1 (clsNe k 3 0 (by decide) (by decide) (by decide))
  | times c rs => unfold RowO at hr; obtain ⟨b, dx2, q, vs, e, h2, _⟩ := hr; cases e; rw [h0] at h2; exact absurd (HO.ins.inj (Option.some.inj h2)).1 (clsNe k 3 2 (by decide) (by decide) (by decide))
  | ifr t rs os => unfold RowO at hr; obtain ⟨b, dx2, u, q, x, vs, ws, e, h2, _⟩ := hr; cases e; rw [h0] at h2; exact absurd (HO.ins.inj (Option.some.inj h2)).1 (clsNe k 3 1 (by decide) (by decide) (by decide))
theorem RowO.times_of (k : kitO K A row test = true) (hr : RowO K A H r (.ref a)) (h0 : H a = some (.ins A.times dx fs)) : ∃ (c : Nat) (rs : List RowM) (q : Addr) (vs : List V), r = .times c rs ∧ fs = ([("count", .int (c : Nat)), ("rows", .ref q)] : List (Str × V)) ∧ SqT K H q vs ∧ RowOs K A H rs vs := by
  cases r with
  | times c rs => unfold RowO at hr; obtain ⟨b, dx2, q, vs, e, h2, h3, h4⟩ := hr; cases e; rw [h0] at h2; exact ⟨c, rs, q, vs, rfl, (HO.ins.inj (Option.some.inj h2)).2.2, h3, h4⟩
  | put n d g => unfold RowO at hr; obtain ⟨b, dx2, q, e, h2, h3⟩ := hr; cases e; rw [h0] at h2; exact absurd (HO.ins.inj (Option.some.inj h2)).1 (clsNe k 2 0 (by decide) (by decide) (by decide))
  | stop => unfold RowO at hr; obtain ⟨b, dx2, e, h2⟩ := hr; cases e; rw [h0] at h2; exact absurd (HO.ins.inj (Option.some.inj h2)).1 (clsNe k 2 3 (by decide) (by decide) (by decide))
  | ifr t rs os => unfold RowO at hr; obtain ⟨b, dx2, u, q, x, vs, ws, e, h2, _⟩ := hr; cases e; rw [h0] at h2; exact absurd (HO.ins.inj (Option.some.inj h2)).1 (clsNe k 2 1 (by decide) (by decide) (by decide))
theorem RowO.ifr_of (k : kitO K A row test = true) (hr : RowO K A H r (.ref a)) (h0 : H a = some (.ins A.ifr dx fs)) : ∃ (t : TestM) (rs os : List RowM) (u : V) (q x : Addr) (vs ws : List V), r = .ifr t rs os ∧ fs = ([("test", u), ("rows", .ref q), ("others", .ref x)] : List (Str × V)) ∧ TestO K A H t u ∧ SqT K H q vs ∧ RowOs K A H rs vs ∧ SqT K H x ws ∧ RowOs K A H os ws := by
  cases r with
  | ifr t rs os => unfold RowO at hr; obtain ⟨b, dx2, u, q, x, vs, ws, e, h2, h3⟩ := hr; cases e; rw [h0] at h2; exact ⟨t, rs, os, u, q, x, vs, ws, rfl, (HO.ins.inj (Option.some.inj h2)).2.2, h3⟩
  | put n d g => unfold RowO at hr; obtain ⟨b, dx2, q, e, h2, h3⟩ := hr; cases e; rw [h0] at h2; exact absurd (HO.ins.inj (Option.some.inj h2)).1 (clsNe k 1 0 (by decide) (by decide) (by decide))
  | stop => unfold RowO at hr; obtain ⟨b, dx2, e, h2⟩ := hr; cases e; rw [h0] at h2; exact absurd (HO.ins.inj (Option.some.inj h2)).1 (clsNe k 1 3 (by decide) (by decide) (by decide))
  | times c rs => unfold RowO at hr; obtain ⟨b, dx2, q, vs, e, h2, _⟩ := hr; cases e; rw [h0] at h2; exact absurd (HO.ins.inj (Option.some.inj h2)).1 (clsNe k 1 2 (by decide) (by decide) (by decide))
end
end My
set_option Elab.async false
set_option linter.all false
set_option maxRecDepth 100000
set_option maxHeartbeats 4000000
/-! own objects: a + b by an own __add__, a += b without an own __iadd__, len(a) by an own __len__; == and != of tuples that hold the same objects -/
namespace My
open PySem PySem.Spec PyProof.Rows L2 Evl
/-- a + b, both of the class at C -/
def rAddO (SF : Addr → Addr → Prop) (sp : Sp) (E : XK) : R2 := fun x y H Q => ∃ a b C dx dy fs gs g, x = .ref a ∧ y = .ref b ∧ H a = some (.ins C dx fs) ∧ H b = some (.ins C dy gs) ∧ SF C g ∧ sp [x, y] H Q E
theorem op_addO {X : Cx} {CX : CXT} {n : Nat} {sp : Sp} {E : XK} {SF : Addr → Addr → Prop} (hS : ∀ C g, SF C g → MethC X.K "__add__" C g ∧ PySem.W.selfFirst X.K C = true) (hF : ∀ C g, SF C g → FnR X.prog X.w X.K X.mg X.base CX n g (onC C sp)) (hr : Room n X.A) (hx : Passes CX X E) : OpR X (binaryOp .Add) (rAddO SF sp E) := by
  intro pins s σ H x y v u Q I rx ry h
  obtain ⟨a, b, C, dx, dy, fs, gs, g, rfl, rfl, ha, hb, hg, q⟩ := h
  obtain rfl : v = Value.ref a := rx
  obtain rfl : u = Value.ref b := ry
  obtain ⟨od, J⟩ := ins_at I ha
  obtain ⟨od2, J2⟩ := ins_at I hb
  obtain ⟨m, hFr⟩ := I.fr
  obtain ⟨M, sf⟩ := hS C g hg
  refine PySem.W.binop_K (op := .Add) hFr I.ok.mod.kin J J2.type sf M.at_ M.fn ?_
  refine wpAny_mono (wpAny_call (run_fnR (us := [.ref a, .ref b]) (vs := [.ref a, .ref b]) (hF C g hg) hr hx I (.cons rfl (.cons rfl .nil)) ⟨⟨_, _, _, _, rfl, ha⟩, q⟩)) (fun w s' z => ?_) fun _ _ x => x
  obtain ⟨z', H', I', rz, qz⟩ := z
  exact SlX.cmpback rz ⟨z', H', I', rz, qz⟩
/-- len(a) -/
def rLenO (SF : Addr → Addr → Prop) (sp : Sp) (E : XK) : List V → Hp → VK → Prop := fun xs H Q => ∃ a C dx fs g, xs = [.ref a] ∧ H a = some (.ins C dx fs) ∧ SF C g ∧ sp [.ref a] H (fun z H' => ∃ k : Int, z = .int k ∧ 0 ≤ k ∧ k < 2 ^ 60 ∧ Q z H') E
theorem call_lenO {X : Cx} {CX : CXT} {n : Nat} {sp : Sp} {E : XK} {SF : Addr → Addr → Prop} (hS : ∀ C g, SF C g → MethC X.K "__len__" C g) (hF : ∀ C g, SF C g → FnR X.prog X.w X.K X.mg X.base CX n g (onC C sp)) (hr : Room (n + 1) X.A) (hx : Passes CX X E) : CallR X (.builtin "len") (rLenO SF sp E) := by
  intro pins s σ H xs us Q I r h
  obtain ⟨a, C, dx, fs, g, rfl, ha, hg, q⟩ := h
  obtain ⟨u, rfl, ru⟩ := r.one
  obtain rfl : u = Value.ref a := ru
  obtain ⟨od, J⟩ := ins_at I ha
  obtain ⟨m, hFr⟩ := I.fr
  refine PySem.W.len_K hFr I.ok.mod.kin J (hS C g hg).at_ (hS C g hg).fn ?_
  refine wpAny_mono (wpAny_call (SlX.run_at (us := [.ref a]) (ws := [.ref a]) (hF C g hg) (Room.in1 hr) I.env0.in1 hx I (.cons rfl .nil) ⟨⟨_, _, _, _, rfl, ha⟩, q⟩)) (fun w s' z => ?_) fun _ _ x => x
  obtain ⟨z', H', I', rz, k, ek, k0, k1, qz⟩ := z
  subst ek
  obtain ⟨t, e⟩ := (show ∃ t, w = Value.int k t from rz)
  cases e
  exact ⟨⟨k0, by omega⟩, ⟨.int k, H', I'.tok _, ⟨_, rfl⟩, qz⟩⟩
/-- == and != of tuples that hold the same objects -/
def rTupId (K : PySem.W.Frag) (neg : Bool) : R2 := fun x y H Q => ∃ a b xs, x = .ref a ∧ y = .ref b ∧ SqT K H a xs ∧ SqT K H b xs ∧ (∀ v ∈ xs, ∃ r, v = V.ref r) ∧ Q (.bl neg) H
theorem same_items : ∀ {xs : List V} {us ws : List Value}, (∀ v ∈ xs, ∃ r, v = V.ref r) → Vals xs us → Vals xs ws → us = ws
  | [], _, _, _, r1, r2 => by cases r1; cases r2; rfl
  | x :: xs, us, ws, h, r1, r2 => by
    obtain ⟨r, rfl⟩ := h x (List.mem_cons_self ..)
    cases r1 with
    | cons a1 b1 => cases r2 with
      | cons a2 b2 =>
        rename_i u us w ws
        obtain rfl : u = Value.ref r := a1
        obtain rfl : w = Value.ref r := a2
        rw [same_items (fun v hv => h v (List.mem_cons_of_mem _ hv)) b1 b2]
section
variable {X : Cx}
theorem op_eqTupId (hu : X.A.units + 64 < cLine) : OpR X (compareOp .Eq) (rTupId X.K true) := by
  intro pins s σ H x y v u Q I rx ry h
  obtain ⟨a, b, xs, rfl, rfl, ha, hb, hx, q⟩ := h
  obtain rfl : v = Value.ref a := rx
  obtain rfl : u = Value.ref b := ry
  obtain ⟨its, r1, p1, z1⟩ := I.tuple ha
  obtain ⟨its2, r2, p2, z2⟩ := I.tuple hb
  obtain rfl := same_items hx r1 r2
  show wpAny _ _ (richCompare .Eq _ _) _ _ _
  refine SeqAt.RcAt.tuples (e := fun _ => true) p1 p2 (by omega) (fun j h1 _ => SeqAt.EqAt.same _) X.prog X.w _ _ ?_
  refine ⟨.bl true, H, I, ?_, q⟩
  show Value.bool _ = Value.bool true
  simp
theorem op_neTupId (hu : X.A.units + 64 < cLine) : OpR X (compareOp .NotEq) (rTupId X.K false) := by
  intro pins s σ H x y v u Q I rx ry h
  obtain ⟨a, b, xs, rfl, rfl, ha, hb, hx, q⟩ := h
  obtain rfl : v = Value.ref a := rx
  obtain rfl : u = Value.ref b := ry
  obtain ⟨its, r1, p1, z1⟩ := I.tuple ha
  obtain ⟨its2, r2, p2, z2⟩ := I.tuple hb
  obtain rfl := same_items hx r1 r2
  show wpAny _ _ (richCompare .NotEq _ _) _ _ _
  refine SeqAt.RcNeAt.tuples (e := fun _ => true) p1 p2 (by omega) (fun j h1 _ => SeqAt.EqAt.same _) X.prog X.w _ _ ?_
  refine ⟨.bl false, H, I, ?_, q⟩
  show Value.bool _ = Value.bool false
  simp
/-! ### a += b -/
/-- a class without an own __iadd__ -/
structure IAdd (K : PySem.W.Frag) (C : Addr) : Prop where
  mro : (PySem.W.clsIn K C).map (·.mro) = some [.ref C, .type "object"]
  no : PySem.W.findIn K (.ref C) "__iadd__" = some none
theorem obj_iadd : typeLookup (.type "object") (dunderI "add") = pure none := by rw [typeLookup_type, builtinLookup_eq_fast]; kernel_rfl
theorem fills_no {M : Model} {K : PySem.W.Frag} {h : Heap} {C : Addr} (X : K.In h) (T : IAdd K C) : PySem.W.Looks M h (fillsInplaceSlot (.ref C) "add" true) false := by
  cases hc : PySem.W.clsIn K C with
  | none => have := T.mro; rw [hc] at this; cases this
  | some cd =>
    have hm : cd.mro = [.ref C, .type "object"] := by have := T.mro; rw [hc] at this; exact Option.some.inj this
    intro A Q E s k q
    have Lm : PySem.W.Looks M h (mroOf (.ref C)) cd.mro := (PySem.W.looks_clsIn X hc).andThen (f := fun cd => pure cd.mro) .now
    have Lm' := Lm.keeps k
    obtain ⟨hh, g, d, tt, os⟩ := s
    have X' : K.In hh := X.keeps k
    have L1 : PySem.W.Looks M hh (typeLookup (.ref C) (dunderI "add")) none := PySem.W.looks_findIn X' T.no
    unfold fillsInplaceSlot
    refine wpAny_bind (Lm'.at ?_)
    rw [hm, List.anyM_cons]
    refine wpAny_bind (wpAny_bind (L1.at (wpAny_pure ?_)))
    rw [if_neg (by decide)]
    rw [List.anyM_cons]
    refine wpAny_bind (wpAny_bind (wpAny_of_eq obj_iadd (wpAny_pure ?_)))
    rw [if_neg (by decide)]
    rw [List.anyM_nil]
    exact wpAny_pure q
theorem ip_addO {CX : CXT} {n : Nat} {sp : Sp} {E : XK} {SF : Addr → Addr → Prop} (hI : ∀ C g, SF C g → IAdd X.K C) (hS : ∀ C g, SF C g → MethC X.K "__add__" C g ∧ PySem.W.selfFirst X.K C = true) (hF : ∀ C g, SF C g → FnR X.prog X.w X.K X.mg X.base CX n g (onC C sp)) (hr : Room n X.A) (hx : Passes CX X E) : PIp X .Add (rAddO SF sp E) := by
  intro pins s σ H x y v u Q I rx ry h
  obtain ⟨a, b, C, dx, dy, fs, gs, g, rfl, rfl, ha, hb, hg, q⟩ := h
  obtain rfl : v = Value.ref a := rx
  obtain rfl : u = Value.ref b := ry
  obtain ⟨od, J⟩ := ins_at I ha
  obtain ⟨od2, J2⟩ := ins_at I hb
  obtain ⟨M, sf⟩ := hS C g hg
  have T := hI C g hg
  have KX := I.kIn
  cases hc : PySem.W.clsIn X.K C with
  | none => have := T.mro; rw [hc] at this; cases this
  | some cd =>
    have hm : cd.mro = .ref C :: [.type "object"] := by have := T.mro; rw [hc] at this; exact Option.some.inj this
    have main := wpAny_call (run_fnR (us := [.ref a, .ref b]) (vs := [.ref a, .ref b]) (hF C g hg) hr hx I (.cons rfl (.cons rfl .nil)) ⟨⟨_, _, _, _, rfl, ha⟩, q⟩)
    unfold inplaceOp
    refine wpAny_holding (wpAny_bind (J.type.here (wpAny_bind ((fills_no KX T).here ?_))))
    rw [if_neg Bool.false_ne_true]
    refine wpAny_bind (m := binaryOp1 Operator.Add.info.snd (.ref a) (.ref b)) ?_
    unfold binaryOp1
    refine wpAny_bind (J.type.here (wpAny_bind (J2.type.here (wpAny_bind ((PySem.W.fills_K (nm := "add") KX hc hm M.at_).here ?_)))))
    simp only [if_true, beq_self_eq_true]
    refine wpAny_bind (wpAny_pure ?_)
    simp only [Bool.false_and, Bool.and_false, if_false, Bool.false_eq_true]
    refine wpAny_bind (wpAny_pure ?_)
    rw [if_neg Bool.false_ne_true]
    refine wpAny_bind ?_
    unfold tryMethod
    refine wpAny_bind (PySem.W.special_fn KX J M.at_ (beq_iff_eq.mp M.fn) (wpAny_mono main (fun w s' z => ?_) fun _ _ x => x))
    obtain ⟨z', H', I', rz, qz⟩ := z
    have cb : PySem.W.CmpBack (EP X pins σ Q) w s' := SlX.cmpback rz ⟨z', H', I', rz, qz⟩
    cases w <;> first | exact cb.elim | exact wpAny_pure (wpAny_pure (wpAny_pure cb))
end
/-- for over what may be a list or a tuple -/
theorem for_LT {K : PySem.W.Frag} {a : Addr} {xs : List V} {g : TG} {tb : TS} {D : Ends} {σ : L2.St} {H : Hp} (Pv : Nat → L2.St → Hp → Prop) (h0 : Pv 0 σ H) (hl : (∀ i σ H, i ≤ xs.length → Pv i σ H → SqL K H a xs) ∨ (∀ i σ H, i ≤ xs.length → Pv i σ H → SqT K H a xs))
    (hs : ∀ i x σ H, xs[i]? = some x → Pv i σ H → g x σ H fun σ2 H2 => tb { D with nx := Pv (i + 1), ct := Pv (i + 1), bk := D.nx } σ2 H2) (hd : ∀ σ H, Pv xs.length σ H → D.nx σ H) : ∃ b, V.ref a = .ref b ∧ (((∃ xs, SqL K H b xs) ∧ ∃ W : Nat → Nat → L2.St → Hp → Prop, (∃ m, W 0 m σ H) ∧ ∀ i m σ H, W i m σ H →
      ((Itl K b).stop i H ∧ D.nx σ H) ∨ ((Itl K b).go i H ∧ ∃ N : L2.St → Hp → Prop, (∀ σ' H', N σ' H' → ∃ m', m' < m ∧ W (i + 1) m' σ' H') ∧ ∀ x H', (Itl K b).yld i H x H' → g x σ H' fun σ2 H2 => tb { D with nx := N, ct := N, bk := D.nx } σ2 H2)) ∨ ((∃ xs, SqT K H b xs) ∧ ∃ W : Nat → Nat → L2.St → Hp → Prop, (∃ m, W 0 m σ H) ∧ ∀ i m σ H, W i m σ H →
      ((Itt K b).stop i H ∧ D.nx σ H) ∨ ((Itt K b).go i H ∧ ∃ N : L2.St → Hp → Prop, (∀ σ' H', N σ' H' → ∃ m', m' < m ∧ W (i + 1) m' σ' H') ∧ ∀ x H', (Itt K b).yld i H x H' → g x σ H' fun σ2 H2 => tb { D with nx := N, ct := N, bk := D.nx } σ2 H2))) := by
  refine ⟨a, rfl, ?_⟩
  rcases hl with hl | hl
  · exact .inl ⟨⟨xs, hl 0 _ _ (Nat.zero_le _) h0⟩, for_list Pv h0 hl hs hd⟩
  · exact .inr ⟨⟨xs, hl 0 _ _ (Nat.zero_le _) h0⟩, for_tup Pv h0 hl hs hd⟩
end My
set_option Elab.async false
set_option linter.all false
set_option maxRecDepth 100000
set_option maxHeartbeats 4000000
/-! own objects: a[i] by an own __getitem__, a.m(..) in a try, == and != of tuples of own objects by their own == -/
namespace My
open PySem PySem.Spec PyProof.Rows L2 Evl
/-! ### a[i] -/
structure GetC (K : PySem.W.Frag) (C g : Addr) : Prop where
  at_ : PySem.W.findIn K (.ref C) "__getitem__" = some (some (.ref g))
  fi : PySem.W.fnIn K g = true
  fn : PySem.W.isFn K (.ref g) = true
def tIxO (SF : Addr → Addr → Prop) (sp : Sp) (E : L2.St → XK) (ta tb : TE) : TE := fun σ H Q => ta σ H fun x H1 => tb σ H1 fun y H2 => ∃ a C dx fs g, x = .ref a ∧ H2 a = some (.ins C dx fs) ∧ SF C g ∧ sp [x, y] H2 Q (E σ)
theorem run_atS {X : Cx} {CX : CXT} {n : Nat} {g : Addr} {sp : Sp} {E : L2.St → XK} {pins : List (Addr × Obj)} {σ : L2.St} {H : Hp} {s : Shared} {A : Around} {Q : VK} {us : List Value} {ws : List V} (F : FnR X.prog X.w X.K X.mg X.base CX n g sp) (hr : Room n A) (e0 : Env0 X.prog X.w X.K X.mg X.base A X.stack s H) (hx : PassesAt CX X σ (E σ)) (I : Inv X pins σ H s) (r : Vals ws us) (h : sp ws H Q (E σ)) :
    codeAny (model X.prog X.w) A (.call (.ref g) ⟨us, []⟩) (fun r s' => match r with | .ok (.ret v) => EP X pins σ Q v s' | .ok _ => False | .error e => X.xe e s') s := by
  refine codeAny_mono (F A X.stack s H us ws Q (E σ) hr e0 r h) fun r s' hq => ?_
  cases r with
  | error e => exact hx pins H s e s' I hq
  | ok fl =>
    cases fl with
    | ret u => exact I.after hq
    | next => exact False.elim hq
    | brk => exact False.elim hq
    | cont => exact False.elim hq
theorem pe_ixO {X : Cx} {CX : CXT} {n : Nat} {sp : Sp} {E : L2.St → XK} {SF : Addr → Addr → Prop} {a b : Expr} {ta tb : TE} {pos : Pos} (hS : ∀ C g, SF C g → GetC X.K C g) (hF : ∀ C g, SF C g → FnR X.prog X.w X.K X.mg X.base CX n g (onC C sp)) (hr : Room (n + 1) X.A) (hx : ∀ σ, PassesAt CX X σ (E σ))
    (ha : PE X a ta) (hb : PE X b tb) (hs : ∀ o i, subscripted b true o i = runValue (.builtin "lifetime.subscript" ⟨[o, i], []⟩)) : PE X (.Subscript a b pos) (tIxO SF sp E ta tb) := by
  refine ⟨fun pins s σ H Q I h => ?_⟩
  refine Subscript_ (binT (R := fun x y H => ∃ a C dx fs g, x = .ref a ∧ H a = some (.ins C dx fs) ∧ SF C g ∧ sp [x, y] H Q (E σ)) ha hb I h fun v u s2 x y H2 I2 rx ry q => ?_)
  obtain ⟨a0, C, dx, fs, g, rfl, h1, hg, q⟩ := q
  obtain rfl : v = Value.ref a0 := rx
  obtain ⟨od, J⟩ := ins_at I2 h1
  obtain ⟨m, hFr⟩ := I2.fr
  refine PySem.W.sub_K hFr I2.ok.mod.kin J (hS C g hg).at_ (hS C g hg).fi (hS C g hg).fn ?_ (hs _ _)
  exact wpAny_call (run_atS (us := [.ref a0, u]) (ws := [.ref a0, y]) (hF C g hg) (Room.in1 hr) I2.env0.in1 (hx σ) I2 (.cons rfl (.cons ry .nil)) ⟨⟨_, _, _, _, rfl, h1⟩, q⟩)
/-! ### a.m(e, ..), what it raises told by the slots -/
def tMethS2 (C : Addr) (m : Str) (sp : Sp) (E : L2.St → XK) (ta : TE) (t : TA) : TE := fun σ H Q => ta σ H fun x H1 => ∃ a dx fs, x = .ref a ∧ H1 a = some (.ins C dx fs) ∧ fs.lookup m = none ∧ t σ H1 fun vs H2 => sp (x :: vs) H2 Q (E σ)
theorem pe_methS2 {X : Cx} {CX : CXT} {k : Nat} {C f : Addr} {m : Str} {sp : Sp} {E : L2.St → XK} {o e : Expr} {es : List Expr} {ta : TE} {t : TA} {apos pos : Pos} {pl : Sem Bool} (he : PE X o ta) (c : Cls X.K C) (hm : Meth X.K C m f)
    (F : FnR X.prog X.w X.K X.mg X.base CX k f sp) (hr : Room k X.A) (hx : ∀ σ, PassesAt CX X σ (E σ)) (ha : PA X (e :: es) t)
    (hst : starEach (e :: es) X.env = (false, eval e X.env) :: starEach es X.env := by rfl) (hpl : (backTo pos (starEach es X.env)).any (·.1) = false := by rfl)
    (ht : eval (.Call (.Attribute o m apos) (e :: es) [] pos) X.env = (do
      let ov ← eval o X.env
      standAt apos.atName
      let (f, first) ← holding [ov] (getMethod ov m pl)
      callWith pos f first (backTo pos (starEach (e :: es) X.env)) (backToKw pos (keywordEach [] X.env))) := by rfl) :
    PE X (.Call (.Attribute o m apos) (e :: es) [] pos) (tMethS2 C m sp E ta t) := by
  refine ⟨fun pins s σ H Q I h => ?_⟩
  refine PySem.W.methodCall_KW (pl := pl) (thn (he.run pins s σ H _ I h) fun u s1 ⟨x, H1, I1, rx, a, dx, fs, ex, ea, l, q⟩ => ?_) ht
  subst ex
  obtain rfl : u = Value.ref a := rx
  refine getmeth_ok I1 ea c hm l ?_
  refine PySem.W.callWith_K (first := [.ref a]) (h₀ := X.base) I.ok.mod.kin hm.kp (thn (ha.run pos pins s1 σ H1 _ I1 q) fun us s2 ⟨vs, H2, I2, r, q2⟩ => ⟨I2.kIn, ?_⟩) hst hpl
  exact wpAny_call (run_atS (us := .ref a :: us) (ws := .ref a :: vs) F hr I2.env0 (hx σ) I2 (.cons rfl r) q2)
/-! ### == and != of two tuples, item by item -/
section
open PySem.SeqAt AutoSeq1 MeetsSeq MeetsSeq2 MeetsSeq3 SeqRoads2
variable {prog : Program} {w : World} {A : Around} {R : Result → Shared → Prop}
/-- all items equal, as many -/
def allEq (e : Nat → Bool) (n m : Nat) : Bool := (List.range (min n m)).all e && n == m
theorem allEq_no {e : Nat → Bool} {n m i : Nat} (h : i < min n m) (he : e i = false) : allEq e n m = false := by
  unfold allEq
  rw [Bool.and_eq_false_iff]
  refine .inl ?_
  rw [List.all_eq_false]
  exact ⟨i, List.mem_range.mpr h, by simp [he]⟩
theorem allEq_fin {e : Nat → Bool} {n m : Nat} (h : ∀ i < min n m, e i = true) : allEq e n m = (n == m) := by
  unfold allEq
  rw [List.all_eq_true.mpr (fun i hi => h i (List.mem_range.mp hi)), Bool.true_and]
theorem tuple_eqB (l b : Addr) (items items2 : Array Value) (n n2 : Nat) (dd dd2 : Option Addr) (sl sl2 : Array (Option Value)) (e : Nat → Bool) (I : Nat → Shared → Prop)
    (turn : ∀ i (h1 : i < items.size) (h2 : i < items2.size) s, I i s → wpAny (model prog w) A.in1 (eqBool items[i] items2[i]) (fun r s' => r = e i ∧ I (i + 1) s') (fun e s' => R (.error e) s') s)
    (fin : ∀ i s, I i s → R (.ok (.ret (.bool (allEq e items.size items2.size)))) s) {s : Shared} (hl1 : s.heap.get? l = some { cls := .type "tuple", dict := dd, data := .seq items n, slots := sl }) (hb1 : s.heap.get? b = some { cls := .type "tuple", dict := dd2, data := .seq items2 n2, slots := sl2 }) (h : I 0 s) :
    wpAny (model prog w) A.in1 (Builtin.«tuple.__eq__» ⟨[.ref l, .ref b], []⟩) (GQ.FinOf prog w A R) (fun e s' => R (.error e) s') s := by
  have f2 := AutoSeq1.sub_tuple_tuple
  have hZ : (items.toList.zip items2.toList).length = min items.size items2.size := by simp
  have h0 := h
  obtain ⟨hp, g, d, tk, os⟩ := s
  wp_walk using wpAny_loadPart' hl1, wpAny_loadPart' hb1, wpAny_forIn_list _ (fun rest b s' => b.1 = none ∧ ∃ i, rest = (items.toList.zip items2.toList).drop i ∧ (∀ j < i, j < min items.size items2.size → e j = true) ∧ I i s') _
  case turn =>
    rintro ⟨y, x⟩ rest b s' ⟨hb', i, hz, hi, hI⟩
    have hlt : i < (items.toList.zip items2.toList).length := by
      rcases Nat.lt_or_ge i (items.toList.zip items2.toList).length with h' | h'
      · exact h'
      · rw [List.drop_of_length_le h'] at hz; cases hz
    have hm : i < min items.size items2.size := hZ ▸ hlt
    have h1 : i < items.size := Nat.lt_of_lt_of_le hm (Nat.min_le_left _ _)
    have h2 : i < items2.size := Nat.lt_of_lt_of_le hm (Nat.min_le_right _ _)
    rw [List.drop_eq_getElem_cons hlt] at hz
    injection hz with hyx hrest
    have hy : y = items[i] := by have := congrArg Prod.fst hyx; simpa using this
    have hx : x = items2[i] := by have := congrArg Prod.snd hyx; simpa using this
    subst hy hx
    refine wpAny_bind (wpAny_mono (turn i h1 h2 s' hI) (fun r s2 q2 => ?_) fun _ _ x => x)
    obtain ⟨hr, q2⟩ := q2
    subst hr
    cases he : e i with
    | true =>
      wp_walk
      refine ⟨rfl, i + 1, hrest, fun j hj hj2 => ?_, q2⟩
      by_cases hji : j = i
      · rw [hji]; exact he
      · exact hi j (by omega) hj2
    | false =>
      have q3 := fin _ _ q2
      rw [allEq_no hm he] at q3
      wp_walk
      exact q3
  case fin =>
    rintro ⟨b1, b2⟩ s' ⟨hb', i, hz, hi, hI⟩
    simp only at hb'
    subst hb'
    have hge : min items.size items2.size ≤ i := by
      rcases Nat.lt_or_ge i (items.toList.zip items2.toList).length with h' | h'
      · rw [List.drop_eq_getElem_cons h'] at hz; cases hz
      · exact hZ ▸ h'
    have hR := fin _ _ hI
    rw [allEq_fin fun j hj => hi j (by omega) hj] at hR
    wp_walk
    exact hR
  case h =>
    exact ⟨rfl, 0, rfl, fun j hj => absurd hj (by omega), h0⟩
theorem tuple_neB (l b : Addr) (items items2 : Array Value) (n n2 : Nat) (dd dd2 : Option Addr) (sl sl2 : Array (Option Value)) (e : Nat → Bool) (I : Nat → Shared → Prop)
    (turn : ∀ i (h1 : i < items.size) (h2 : i < items2.size) s, I i s → wpAny (model prog w) A.in1 (eqBool items[i] items2[i]) (fun r s' => r = e i ∧ I (i + 1) s') (fun e s' => R (.error e) s') s)
    (fin : ∀ i s, I i s → R (.ok (.ret (.bool (!allEq e items.size items2.size)))) s) {s : Shared} (hl1 : s.heap.get? l = some { cls := .type "tuple", dict := dd, data := .seq items n, slots := sl }) (hb1 : s.heap.get? b = some { cls := .type "tuple", dict := dd2, data := .seq items2 n2, slots := sl2 }) (h : I 0 s) :
    wpAny (model prog w) A.in1 (Builtin.«tuple.__ne__» ⟨[.ref l, .ref b], []⟩) (GQ.FinOf prog w A R) (fun e s' => R (.error e) s') s := by
  have f2 := AutoSeq1.sub_tuple_tuple
  have hZ : (items.toList.zip items2.toList).length = min items.size items2.size := by simp
  have h0 := h
  obtain ⟨hp, g, d, tk, os⟩ := s
  wp_walk using wpAny_loadPart' hl1, wpAny_loadPart' hb1, wpAny_forIn_list _ (fun rest b s' => b.1 = none ∧ ∃ i, rest = (items.toList.zip items2.toList).drop i ∧ (∀ j < i, j < min items.size items2.size → e j = true) ∧ I i s') _
  case turn =>
    rintro ⟨y, x⟩ rest b s' ⟨hb', i, hz, hi, hI⟩
    have hlt : i < (items.toList.zip items2.toList).length := by
      rcases Nat.lt_or_ge i (items.toList.zip items2.toList).length with h' | h'
      · exact h'
      · rw [List.drop_of_length_le h'] at hz; cases hz
    have hm : i < min items.size items2.size := hZ ▸ hlt
    have h1 : i < items.size := Nat.lt_of_lt_of_le hm (Nat.min_le_left _ _)
    have h2 : i < items2.size := Nat.lt_of_lt_of_le hm (Nat.min_le_right _ _)
    rw [List.drop_eq_getElem_cons hlt] at hz
    injection hz with hyx hrest
    have hy : y = items[i] := by have := congrArg Prod.fst hyx; simpa using this
    have hx : x = items2[i] := by have := congrArg Prod.snd hyx; simpa using this
    subst hy hx
    refine wpAny_bind (wpAny_mono (turn i h1 h2 s' hI) (fun r s2 q2 => ?_) fun _ _ x => x)
    obtain ⟨hr, q2⟩ := q2
    subst hr
    cases he : e i with
    | true =>
      wp_walk
      refine ⟨rfl, i + 1, hrest, fun j hj hj2 => ?_, q2⟩
      by_cases hji : j = i
      · rw [hji]; exact he
      · exact hi j (by omega) hj2
    | false =>
      have q3 := fin _ _ q2
      rw [allEq_no hm he] at q3
      wp_walk
      exact q3
  case fin =>
    rintro ⟨b1, b2⟩ s' ⟨hb', i, hz, hi, hI⟩
    simp only at hb'
    subst hb'
    have hge : min items.size items2.size ≤ i := by
      rcases Nat.lt_or_ge i (items.toList.zip items2.toList).length with h' | h'
      · rw [List.drop_eq_getElem_cons h'] at hz; cases hz
      · exact hZ ▸ h'
    have hR := fin _ _ hI
    rw [allEq_fin fun j hj => hi j (by omega) hj] at hR
    wp_walk
    exact hR
  case h =>
    exact ⟨rfl, 0, rfl, fun j hj => absurd hj (by omega), h0⟩
end
/-- two items: the same object, or two that their own == compares -/
def ItemEq (K : PySem.W.Frag) (SF : Addr → Addr → Prop) (sp : Sp) (E : XK) (e : Bool) (x y : V) (H : Hp) : Prop :=
  (∃ r, x = .ref r ∧ y = .ref r ∧ e = true) ∨ ∃ a b C dx fs g t, x = .ref a ∧ y = .ref b ∧ a ≠ b ∧ H a = some (.ins C dx fs) ∧ SF C g ∧ TyX K H y t ∧ PySem.W.notFirst K C t = true ∧ sp [x, y] H (fun z H' => z = .bl e ∧ Ex H H') E
def rTupO (K : PySem.W.Frag) (SF : Addr → Addr → Prop) (sp : Sp) (E : XK) (neg : Bool) : R2 := fun x y H Q => ∃ a b xs ys es, x = .ref a ∧ y = .ref b ∧ SqT K H a xs ∧ SqT K H b ys ∧
  (∀ H', Ex H H' → ∀ i x y, xs[i]? = some x → ys[i]? = some y → ItemEq K SF sp E (es i) x y H') ∧ ∀ H', Ex H H' → Q (.bl (xor neg (allEq es xs.length ys.length))) H'
section
variable {X : Cx} {CX : CXT} {n : Nat} {sp : Sp} {E : XK} {SF : Addr → Addr → Prop}
theorem item_ok (hS : ∀ C g, SF C g → MethC X.K "__eq__" C g) (hF : ∀ C g, SF C g → FnR X.prog X.w X.K X.mg X.base CX n g (onC C sp)) (hr : Room (n + 1) X.A) (hx : Passes CX X E) {pins : List (Addr × Obj)} {σ : L2.St} {H : Hp} {s : Shared} {x y : V} {v u : Value} {e : Bool}
    (I : Inv X pins σ H s) (rx : RelV x v) (ry : RelV y u) (h : ItemEq X.K SF sp E e x y H) : wpAny (model X.prog X.w) X.A.in1 (eqBool v u) (fun r s' => r = e ∧ ∃ H', Inv X pins σ H' s' ∧ Ex H H') X.xe s := by
  rcases h with ⟨r, rfl, rfl, rfl⟩ | ⟨a, b, C, dx, fs, g, t, rfl, rfl, hne, ha, hg, ty, hn, q⟩
  · cases rx
    cases ry
    exact SeqAt.EqAt.same (A := X.A.in1) (s := s) (.ref r) X.prog X.w X.xe _ ⟨rfl, H, I, Ex.refl H⟩
  · obtain ⟨PP, KX, hp, _⟩ := kit_of I ry ty
    obtain rfl : v = Value.ref a := rx
    obtain rfl : u = Value.ref b := ry
    obtain ⟨od, J⟩ := ins_at I ha
    obtain ⟨m, hFr⟩ := I.fr
    refine GQ.eqBool_refG hne ?_
    refine PySem.W.cmp_K (op := .Eq) (tb := t) (Room.in1 hr).units0 hFr I.ok.mod.kin J (KX.ty _ _ I.kIn hp) hn (hS C g hg).at_ (hS C g hg).fn ?_
    refine wpAny_mono (wpAny_call (SlX.run_at (us := [.ref a, .ref b]) (ws := [.ref a, .ref b]) (hF C g hg) (Room.in1 hr) I.env0.in1 hx I (.cons rfl (.cons rfl .nil)) ⟨⟨_, _, _, _, rfl, ha⟩, q⟩)) (fun w s' z => ?_) fun _ _ x => x
    obtain ⟨z', H', I', rz, ez, ex⟩ := z
    subst ez
    cases rz
    exact ⟨_, rfl, rfl, H', I', ex⟩
theorem items_turn (hS : ∀ C g, SF C g → MethC X.K "__eq__" C g) (hF : ∀ C g, SF C g → FnR X.prog X.w X.K X.mg X.base CX n g (onC C sp)) (hr : Room (n + 1) X.A) (hx : Passes CX X E) {pins : List (Addr × Obj)} {σ : L2.St} {H : Hp} {xs ys : List V} {its its2 : List Value} {es : Nat → Bool}
    (r1 : Vals xs its) (r2 : Vals ys its2) (p : ∀ H', Ex H H' → ∀ i x y, xs[i]? = some x → ys[i]? = some y → ItemEq X.K SF sp E (es i) x y H') (i : Nat) (h1 : i < its.toArray.size) (h2 : i < its2.toArray.size) (s' : Shared) (l : ∃ H', Inv X pins σ H' s' ∧ Ex H H') :
    wpAny (model X.prog X.w) X.A.in1 (eqBool its.toArray[i] its2.toArray[i]) (fun r s2 => r = es i ∧ ∃ H', Inv X pins σ H' s2 ∧ Ex H H') X.xe s' := by
  obtain ⟨H1, I1, e1⟩ := l
  have g1 : its[i]? = some its.toArray[i] := by
    have h1' : i < its.length := by simpa using h1
    rw [List.getElem?_eq_getElem h1'] <;> simp
  have g2 : its2[i]? = some its2.toArray[i] := by
    have h2' : i < its2.length := by simpa using h2
    rw [List.getElem?_eq_getElem h2'] <;> simp
  have k1 : i < xs.length := by rw [r1.length]; simpa using h1
  have k2 : i < ys.length := by rw [r2.length]; simpa using h2
  obtain ⟨u, hu, ru⟩ := r1.get (List.getElem?_eq_getElem k1)
  obtain ⟨v, hv, rv⟩ := r2.get (List.getElem?_eq_getElem k2)
  rw [g1] at hu
  rw [g2] at hv
  rw [Option.some.inj hu, Option.some.inj hv]
  refine wpAny_mono (item_ok hS hF hr hx I1 ru rv (p H1 e1 i _ _ (List.getElem?_eq_getElem k1) (List.getElem?_eq_getElem k2))) (fun r s2 q => ?_) fun _ _ x => x
  obtain ⟨hr, H2, I2, e2⟩ := q
  exact ⟨hr, H2, I2, e1.trans e2⟩
open PySem.SeqAt in
theorem op_eqTupO (hS : ∀ C g, SF C g → MethC X.K "__eq__" C g) (hF : ∀ C g, SF C g → FnR X.prog X.w X.K X.mg X.base CX n g (onC C sp)) (hr : Room (n + 1) X.A) (hx : Passes CX X E) : OpR X (compareOp .Eq) (rTupO X.K SF sp E false) := by
  intro pins s σ H x y v u Q I rx ry h
  obtain ⟨a, b, xs, ys, es, rfl, rfl, ha, hb, p, q⟩ := h
  obtain rfl : v = Value.ref a := rx
  obtain rfl : u = Value.ref b := ry
  obtain ⟨its, r1, p1, z1⟩ := I.tuple ha
  obtain ⟨its2, r2, p2, z2⟩ := I.tuple hb
  obtain ⟨⟨cls, dd, data, sl⟩, ho, hc, n1, hd⟩ := id p1
  obtain ⟨⟨cls2, dd2, data2, sl2⟩, ho2, hc2, n2, hd2⟩ := id p2
  simp only at hc hd hc2 hd2
  subst hc hd hc2 hd2
  show wpAny _ _ (richCompare .Eq _ _) _ _ _
  refine wpAny_richCompare_same_room (op := .Eq) ⟨_, ho, rfl⟩ ⟨_, ho2, rfl⟩ F.slot_tuple_eq (GQ.call_here F.slot_tuple_eq ⟨_, ho, rfl⟩ F.entry_tuple_eq (F.args_tuple_eq_2 _ _) ?_) hr.units0
  refine tuple_eqB (R := wants (fun v s' => v ≠ .notImplemented ∧ EP X pins σ Q v s') X.xe) a b its.toArray its2.toArray n1 n2 dd dd2 sl sl2 es (fun _ s' => ∃ H', Inv X pins σ H' s' ∧ Ex H H') (fun i h1 h2 s' l => items_turn hS hF hr hx r1 r2 p i h1 h2 s' l) (fun i s' l => ?_) ho ho2 ⟨H, I, Ex.refl H⟩
  obtain ⟨H', I', e'⟩ := l
  refine ⟨(fun z => nomatch z), ⟨.bl _, H', I', ?_, q H' e'⟩⟩
  show Value.bool _ = Value.bool _
  rw [List.size_toArray, List.size_toArray, ← r1.length, ← r2.length, Bool.false_xor]
open PySem.SeqAt in
theorem op_neTupO (hS : ∀ C g, SF C g → MethC X.K "__eq__" C g) (hF : ∀ C g, SF C g → FnR X.prog X.w X.K X.mg X.base CX n g (onC C sp)) (hr : Room (n + 1) X.A) (hx : Passes CX X E) : OpR X (compareOp .NotEq) (rTupO X.K SF sp E true) := by
  intro pins s σ H x y v u Q I rx ry h
  obtain ⟨a, b, xs, ys, es, rfl, rfl, ha, hb, p, q⟩ := h
  obtain rfl : v = Value.ref a := rx
  obtain rfl : u = Value.ref b := ry
  obtain ⟨its, r1, p1, z1⟩ := I.tuple ha
  obtain ⟨its2, r2, p2, z2⟩ := I.tuple hb
  obtain ⟨⟨cls, dd, data, sl⟩, ho, hc, n1, hd⟩ := id p1
  obtain ⟨⟨cls2, dd2, data2, sl2⟩, ho2, hc2, n2, hd2⟩ := id p2
  simp only at hc hd hc2 hd2
  subst hc hd hc2 hd2
  show wpAny _ _ (richCompare .NotEq _ _) _ _ _
  refine wpAny_richCompare_same_room (op := .NotEq) ⟨_, ho, rfl⟩ ⟨_, ho2, rfl⟩ F.slot_tuple_ne (GQ.call_here F.slot_tuple_ne ⟨_, ho, rfl⟩ F.entry_tuple_ne (F.args_tuple_ne_2 _ _) ?_) hr.units0
  refine tuple_neB (R := wants (fun v s' => v ≠ .notImplemented ∧ EP X pins σ Q v s') X.xe) a b its.toArray its2.toArray n1 n2 dd dd2 sl sl2 es (fun _ s' => ∃ H', Inv X pins σ H' s' ∧ Ex H H') (fun i h1 h2 s' l => items_turn hS hF hr hx r1 r2 p i h1 h2 s' l) (fun i s' l => ?_) ho ho2 ⟨H, I, Ex.refl H⟩
  obtain ⟨H', I', e'⟩ := l
  refine ⟨(fun z => nomatch z), ⟨.bl _, H', I', ?_, q H' e'⟩⟩
  show Value.bool _ = Value.bool _
  rw [List.size_toArray, List.size_toArray, ← r1.length, ← r2.length, Bool.true_xor]
end
/-! ### l.extend(x), x a list or a tuple -/
section
open AutoSeq1
theorem list_extend_tupA (l : Addr) (items : Array Value) (n : Nat) (b : Addr) (items2 : Array Value) (n2 : Nat) (dd : Option Addr) (sl : Array (Option Value)) (hs0 : ¬(!items.isEmpty && Builtin.List.listTooLong (items.size + items2.size)) = true) (hs1 : items.size ≤ sizeLine) (hs2 : items.size + items2.size ≤ sizeLine + 1) :
    Meets (Builtin.«list.extend» ⟨[.ref l, .ref b], []⟩) (fun _ R s => s.heap.get? l = some { cls := .type "list", dict := none, data := .seq items n, slots := #[] } ∧ s.heap.get? b = some { cls := .type "tuple", dict := dd, data := .seq items2 n2, slots := sl } ∧ R (.ok (.ret Value.none)) { s with heap := s.heap.update l (Obj.mapSeq fun x => x ++ items2), toks := s.toks }) :=
  .of_wp fun prog w A R s h => by
    obtain ⟨hp, g, d, tk, os⟩ := s; obtain ⟨hl, hb, h⟩ := h; have f1 := AutoSeq1.idx_int; have f2 := AutoSeq1.sub_tuple_tuple; have f3 := AutoSeq1.sub_list_list; have f4 := AutoSeq1.sub_tuple_list; have f5 := AutoSeq1.sub_list_tuple;
    have hz' : (items ++ items2).size ≤ sizeLine + 1 := by rw [Array.size_append]; exact hs2
    wp_walk using (wpAny_updateSeq hl rfl (hz := hs1) (_hz' := hz')), MeetsSeq.wpAny_loadPart' hl, MeetsSeq.wpAny_loadPart' hb; exact ⟨_, rfl, h⟩
end
def rExtX (K : PySem.W.Frag) : V → List V → Hp → VK → Prop := fun x vs H Q => ∃ l b xs zs, x = .ref l ∧ vs = [.ref b] ∧ H l = some (.lst xs) ∧ (H b = some (.lst zs) ∨ SqT K H b zs) ∧ xs.length + zs.length ≤ sizeLine ∧ Q .non (upd H l (.lst (xs ++ zs)))
theorem mt_extX {X : Cx} : MtR X "list.extend" (rExtX X.K) := by
  intro pins s σ H x vs v us Q I rx rv h
  obtain ⟨l, b, xs, zs, rfl, rfl, hH, hB, hz, q⟩ := h
  rcases hB with hB | hB
  · exact mt_extend pins s σ H _ _ v us Q I rx rv ⟨l, b, xs, zs, rfl, rfl, hH, hB, hz, q⟩
  cases rx
  obtain ⟨u, rfl, ru⟩ := rv.one
  cases ru
  obtain ⟨z, its, n, r, hl, e⟩ := I.lstM hH
  obtain ⟨its2, r2, p2, hl2⟩ := I.tuple hB
  obtain ⟨⟨cls, dd, data, sl⟩, ho, hc, n2, hd⟩ := id p2
  simp only at hc hd
  subst hc hd
  have hl3 := r2.length
  have hsz : its.toArray.size + its2.toArray.size ≤ sizeLine := by rw [List.size_toArray, List.size_toArray]; omega
  have hlong : ¬ (!its.toArray.isEmpty && Builtin.List.listTooLong (its.toArray.size + its2.toArray.size)) = true := by
    rw [notLongL hsz, Bool.and_false]
    exact Bool.false_ne_true
  refine call_meets F.slot_list_extend ⟨_, e, rfl⟩ F.entry_list_extend (F.args_list_extend_2 _ _)
    (list_extend_tupA l its.toArray n b its2.toArray n2 dd sl hlong (by rw [List.size_toArray]; omega) (by omega)) ⟨e, ho, ?_⟩
  refine ⟨.non, _, I.lset (its' := its ++ its2) hH e (by simp) (r.append r2) ?_, rfl, q⟩
  rw [List.length_append]
  omega
/-- == of own objects under a comprehension -/
theorem op_eqOK {K : PySem.W.Frag} {X : Cx} {CX : CXT} {n : Nat} {sp : Sp} {E : XK} {SF : Addr → Addr → Prop} (hS : ∀ C g, SF C g → MethC K "__eq__" C g) (hF : ∀ C g, SF C g → FnR X.prog X.w X.K X.mg X.base CX n g (onC C sp)) (hr : Room n X.A) (hx : Passes CX X E) (hK : X.K = K := by rfl) : OpR X (compareOp .Eq) (rEqO K SF sp E) := by
  subst hK
  exact op_eqO hS hF hr hx
theorem op_neOK {K : PySem.W.Frag} {X : Cx} {CX : CXT} {n : Nat} {sp : Sp} {E : XK} {SF : Addr → Addr → Prop} (hN : ∀ C g, SF C g → NeC K C) (hS : ∀ C g, SF C g → MethC K "__eq__" C g) (hF : ∀ C g, SF C g → FnR X.prog X.w X.K X.mg X.base CX n g (onC C sp)) (hr : Room (n + 1) X.A) (hx : Passes CX X E) (hK : X.K = K := by rfl) : OpR X (compareOp .NotEq) (rNeO K SF sp E) := by
  subst hK
  exact op_neO hN hS hF hr hx
end My
set_option Elab.async false
set_option linter.all false
set_option maxRecDepth 100000
set_option maxHeartbeats 4000000
/-! the keys of a dict that the comprehension made itself; isinstance of a caught own error of any chain -/
namespace My
open PySem PySem.Spec PyProof.Rows L2 Evl
def iKeysN (td : TE) : TI := fun σ H R => td σ H fun x H1 => ∃ d kvs, x = .ref d ∧ H1 d = some (.dK kvs) ∧ ∀ o, R (Itk d o kvs) (upd H1 d (.frz o (.dK kvs)))
section
variable {X : Cx} {tg e : Expr} {td : TE}
theorem pi_keysN (he : PE X e td) : PI X tg e (iKeysN td) := by
  refine ⟨fun pins s σ H R I h => ?_⟩
  refine thn (he.run pins s σ H _ I h) fun u s1 ⟨x, H1, I0, rx, d, kvs, ex, hd0, q⟩ => ?_
  subst ex
  obtain rfl : u = Value.ref d := rx
  obtain ⟨o, I1⟩ := I0.lock hd0 trivial
  have hd : upd H1 d (.frz o (.dK kvs)) d = some (.frz o (.dK kvs)) := upd_same
  obtain ⟨hs, hgd, hx, es, ep, vs, hdt, hsz, kv, hm⟩ := I1.frzK hd
  refine iter_keys hs hgd hx hdt (pi_one (tk := s1.toks) I1 _ (turn_keys _ hdt) ⟨_, Heap.get?_push_size _ rfl, rfl, ?_⟩ (q o))
  rw [hsz] <;> rfl
end
/-! ### isinstance of a caught own error, one class -/
section
variable {X : Cx} {C a : Addr} {oe : Obj} {cls : Value} {d : Option Addr} {pn : List (Addr × Obj)}
def rIsR (K : PySem.W.Frag) (C a : Addr) (cls : Value) (d : Option Addr) : List V → Hp → VK → Prop := fun xs H Q => ∃ (dd : Addr) (fs : List (Str × V)) (c1 : V) (c2 : Value) (b : Bool),
  xs = [.ref a, c1] ∧ (∀ u, RelV c1 u → u = c2) ∧ (∀ tp, c2 = .ref tp → ∃ x, c1 = .ref x) ∧ cls = .ref C ∧ d = some dd ∧ H dd = some (.xd fs) ∧ PySem.W.kitOne K (.ref C) c2 = some b ∧ Q (.bl b) H
theorem call_isR {x f : Str} {fI : Addr} (T : ErrR X.K X.mg x f C fI) (hz : Zc cls d oe) (hf : ∃ vs, oe.data = .fields vs) : CallR (X.suite a ((a, oe) :: pn)) (.builtin "isinstance") (rIsR X.K C a cls d) := by
  intro pins s σ H xs us Q I r h
  obtain ⟨dd, fs, c1, c2, b, rfl, hc, _, ec, ed, hdd, e, q⟩ := h
  subst ec ed
  obtain ⟨u1, u2, rfl, r1, r2⟩ := vals2 r
  obtain rfl : u1 = Value.ref a := r1
  obtain rfl : u2 = c2 := hc _ r2
  obtain ⟨hget, _⟩ := I.pin (a, oe) (List.mem_append.mpr (.inl List.mem_cons_self))
  obtain ⟨vs, hv⟩ := hf
  obtain ⟨mA, hns, _⟩ := (show ObjOk X.prog X.w H s.heap dd (.xd fs) from I.hok dd _ hdd)
  obtain ⟨od, ho, _⟩ := lookIn_ns hns
  have J : PySem.W.InstAt s.heap a oe C (some od) := ⟨hget, hz.1, by unfold PySem.W.notCls; rw [hv] <;> rfl, by rw [hz.2]; exact ho⟩
  exact PySem.W.kia_one (PySem.W.kitx_exc T.F.k.isC T.xf.ga T.xf.gg T.xf.exC T.F.k.ha T.F.k.hn T.F.k.ht T.F.k.hm) I.kIn J e (fun z => nomatch z) fun tk => ⟨.bl b, H, I.tok tk, rfl, q⟩
end
end My
set_option Elab.async false
set_option linter.all false
set_option maxRecDepth 100000
set_option maxHeartbeats 4000000
/-! raise of an own error over ValueError without an __init__; isinstance of it when it is caught -/
namespace My
open PySem PySem.Spec PyProof.Rows L2 Evl PySem.HandSPX
structure ErrR0 (K : PySem.W.Frag) (mg : Str → Option Value) (x : Str) (C : Addr) : Prop where
  g : mg x = some (.ref C)
  E : Err0 K C
  ty : PySem.W.typeIn K (.ref C) = some (.type "type")
  te : PySem.W.exmOne K (.ref C) (.ref C) = some true
section
variable {X : Cx} {p pos : Pos} {C : Addr} {x : Str}
theorem pmk_own0 (T : ErrR0 X.K X.mg x C) (hg : Gl X x) (hdb : (x == ("__debug__" : Str)) = false := by decide) : PMk X (.Call (.Name x p) [] [] pos) (fun _ H Q => Q (.ref C) none H) := by
  intro pins s σ H Q I h
  refine wpAny_Call_Name_kw (ld_glob I hg T.g ?_ hdb)
  refine PySem.W.callWith_K0 I.kIn T.E.k.kC ?_
  show wpAny _ _ (call (.ref C) []) _ _ _
  obtain ⟨bm, N, nm, qn, bs, hdct, sn, sub, ab, col, dd, k0, k1, k2, k3, k5, mN, hC, hN, hni, OT⟩ := exc_obj I.kIn T.E.ex
  refine wpAny_call_exc_subT PySem.F.excBase_ValueError OT hC hN hni (fun h' a hm => ?_) (Nat.zero_le _)
  exact mk_of I hm (raises_own T.E.k.exC T.ty) h (I.hok.gone hm.new)
/-- isinstance of the caught error, which has no dict yet -/
def rIsR0 (K : PySem.W.Frag) (C a : Addr) (cls : Value) (d : Option Addr) : List V → Hp → VK → Prop := fun xs H Q => ∃ (c1 : V) (c2 : Value) (b : Bool),
  xs = [.ref a, c1] ∧ (∀ u, RelV c1 u → u = c2) ∧ (∀ tp, c2 = .ref tp → ∃ q, c1 = .ref q) ∧ cls = .ref C ∧ d = none ∧ PySem.W.kitOne K (.ref C) c2 = some b ∧ Q (.bl b) H
theorem call_isR0 {a : Addr} {oe : Obj} {cls : Value} {d : Option Addr} {pn : List (Addr × Obj)} (T : ErrR0 X.K X.mg x C) (hz : Zc cls d oe) (hf : ∃ vs, oe.data = .fields vs) : CallR (X.suite a ((a, oe) :: pn)) (.builtin "isinstance") (rIsR0 X.K C a cls d) := by
  intro pins s σ H xs us Q I r h
  obtain ⟨c1, c2, b, rfl, hc, _, ec, ed, e, q⟩ := h
  subst ec ed
  obtain ⟨u1, u2, rfl, r1, r2⟩ := vals2 r
  obtain rfl : u1 = Value.ref a := r1
  obtain rfl : u2 = c2 := hc _ r2
  obtain ⟨hget, _⟩ := I.pin (a, oe) (List.mem_append.mpr (.inl List.mem_cons_self))
  obtain ⟨vs, hv⟩ := hf
  have J : PySem.W.InstAt s.heap a oe C none := ⟨hget, hz.1, by unfold PySem.W.notCls; rw [hv] <;> rfl, by rw [hz.2]; trivial⟩
  exact PySem.W.kia_one (PySem.W.kitx_exc T.E.k.isC T.E.k.ga T.E.k.gg T.E.k.exC T.E.k.ha T.E.k.hn T.E.k.ht T.E.k.hm) I.kIn J e (fun z => nomatch z) fun tk => ⟨.bl b, H, I.tok tk, rfl, q⟩
end
end My
set_option Elab.async false
set_option linter.all false
set_option maxRecDepth 100000
set_option maxHeartbeats 4000000
/-! own classes whose __init__ takes a star and one keyword-only parameter with a default: the promise, the calls -/
namespace My
open PySem PySem.Spec PyProof.Rows L2 Evl
/-- a promise by positional values and keywords of these names -/
def FnKW (P : Program) (w : World) (K : PySem.W.Frag) (mg : Str → Option Value) (base : Heap) (CX : CXT) (k : Nat) (f : Addr) (ks : List Str) (sp : List V → List V → Hp → VK → XK → Prop) : Prop :=
  ∀ (A : Around) (outer : List Env) (s : Shared) (H : Hp) (us ws : List Value) (vs zs : List V) (Q : VK) (E : XK), Room k A → Env0 P w K mg base A outer s H → Vals vs us → Vals zs ws → zs.length = ks.length → sp vs zs H Q E →
    codeAny (model P w) A (.call (.ref f) ⟨us, ks.zip ws⟩) (CR CX outer P w H s Q E) s
section
variable {CX : CXT} {P : Program} {w : World} {K : PySem.W.Frag} {mg : Str → Option Value} {base : Heap} {k : Nat} {f : Addr} {name qual : Str} {params : Arguments} {body : List Stmt} {scope : Scope} {dV kV doc pm cdv ct oc : Value} {an od : Option Addr}
  {osl : Array (Option Value)} {N : List Str} {sp : Sp} {p1 pk pv : Str}
theorem bnd_star {A : Around} {outer : List Env} {s : Shared} {H : Hp} {args : Args} {E : XK} {a d : V} {rest : List V} {ua ud : Value} {ur : List Value} {fd : FuncData} (hCX : StX.CXUp CX) (e0 : Env0 P w K mg base A outer s H) (ra : RelV a ua) (rd : RelV d ud) (rr : Vals rest ur) (hz : rest.length ≤ sizeLine)
    (hb : ∀ (A' : Around) (Ex : Value → Shared → Prop) (R : List (Str × Value) → Shared → Prop), wpAny (model P w) A' (newTuple ur >>= fun t => pure [(p1, ua), (pk, ud), (pv, t)]) R Ex s → wpAny (model P w) A' (bindArgs fd args) R Ex s) :
    StX.Bnd CX P w K mg base fd args [p1, pk, pv] A outer s H E (fun xs H2 => ∃ p, H p = Option.none ∧ xs = [a, d, V.ref p] ∧ H2 = upd H p (.tup rest)) := by
  intro A' Ex Q' h
  have hn : H s.heap.objs.size = Option.none := e0.hok.fresh (Nat.le_refl _)
  have hl2 : ur.length ≤ sizeLine := by rw [← rr.length]; exact hz
  refine hb A' Ex Q' (wpAny_bind (wpAny_newTuple (wpAny_pure ?_) hl2))
  have new : ObjOk P w (upd H s.heap.objs.size (.tup rest)) (s.heap.push ({ cls := .type "tuple", data := .seq ur.toArray } : Obj)) s.heap.objs.size (.tup rest) := ⟨hz, ur, rr, ⟨_, Heap.get?_push_size _ rfl, rfl, _, rfl⟩⟩
  have un := StX.un_laid (fs := frs outer) (s := s) (o := ({ cls := .type "tuple", data := .seq ur.toArray } : Obj)) (u := .tup rest) hn
  exact h _ _ [a, d, V.ref s.heap.objs.size] [ua, ud, Value.ref s.heap.objs.size] (StX.env0_laid e0 new) un rfl (fun e s' => hCX outer s H _ _ E e s' un (fun b o q => Heap.get?_push_of_some _ q) rfl) (.cons ra (.cons rd (.cons rfl .nil))) rfl ⟨_, hn, rfl, rfl⟩
/-- def f(a, *v, k=..), called with k -/
theorem fn_starK (lk : K.lookup f = some ⟨oc, od, .func (PySem.W.fnOf name qual params body scope dV kV doc pm an cdv ct), osl⟩) (hcd : PySem.W.codeIn K cdv qual = true) (S : FnScope N [p1, pk, pv] scope) (hCX : StX.CXUp CX)
    (hb : ∀ (a v : Value) (rest : List Value), bindArgs (PySem.W.fnOf name qual params body scope dV kV doc pm an cdv ct) ⟨a :: rest, [(pk, v)]⟩ = (newTuple rest >>= fun t => pure [(p1, a), (pk, v), (pv, t)]))
    (hbody : ∀ (A : Around) (outer : List Env) (s : Shared) (H : Hp) (vs : List V) (Q : VK) (E : XK), Room k (A.deeper (envOfC qual scope s.heap.objs.size f cdv)) → sp vs H Q E →
      ∃ t, PSs (cxOf CX P w K mg base N qual scope f cdv A outer s H E) body t ∧ t { nx := fun _ H' => Q .non H', rt := Q } (start N vs) H) :
    FnKW P w K mg base CX (k + 1) f [pk] (fun vs zs H Q E => ∃ a d rest, vs = a :: rest ∧ zs = [d] ∧ rest.length ≤ sizeLine ∧ ∀ p, H p = Option.none → sp [a, d, V.ref p] (upd H p (.tup rest)) Q E) := by
  intro A outer s H us ws vs zs Q E hr e0 r rz _ hsp
  obtain ⟨a, d, rest, rfl, rfl, hz, hq⟩ := hsp
  obtain ⟨ud, rfl, rd⟩ := rz.one
  cases r with
  | cons ra rr =>
    rename_i ua ur
    refine StX.run_bnd lk hcd S hr e0 (bnd_star hCX e0 ra rd rr hz fun A' Ex R h => ?_) fun s2 H2 xs ⟨p, hp, ex, eH⟩ hr' => ?_
    · show wpAny _ _ (bindArgs _ ⟨ua :: ur, [(pk, ud)]⟩) _ _ _
      rw [hb]
      exact h
    · subst ex eH
      exact hbody A outer s2 _ _ Q E hr' (hq p hp)
/-- def f(a, *v, k=..), called without k -/
theorem fn_starD {D : Addr} {d : V} (lk : K.lookup f = some ⟨oc, od, .func (PySem.W.fnOf name qual params body scope dV (.ref D) doc pm an cdv ct), osl⟩) (hcd : PySem.W.codeIn K cdv qual = true) (S : FnScope N [p1, pk, pv] scope) (hCX : StX.CXUp CX)
    (hd : ∃ u, PySem.W.nsIn K D pk = some (some u) ∧ RelV d u)
    (hb : ∀ (a v : Value) (rest : List Value), ∃ (β γ : Type) (k1 : Option Value → Sem β) (k2 : β → Sem γ) (k3 : γ → Sem (List (Str × Value))) (b : β), bindArgs (PySem.W.fnOf name qual params body scope dV (.ref D) doc pm an cdv ct) ⟨a :: rest, []⟩ = ((nsGet D pk >>= k1) >>= k2) >>= k3 ∧ k1 (some v) = pure b ∧ (k2 b >>= k3) = (newTuple rest >>= fun t => pure [(p1, a), (pk, v), (pv, t)]))
    (hbody : ∀ (A : Around) (outer : List Env) (s : Shared) (H : Hp) (vs : List V) (Q : VK) (E : XK), Room k (A.deeper (envOfC qual scope s.heap.objs.size f cdv)) → sp vs H Q E →
      ∃ t, PSs (cxOf CX P w K mg base N qual scope f cdv A outer s H E) body t ∧ t { nx := fun _ H' => Q .non H', rt := Q } (start N vs) H) :
    FnKW P w K mg base CX (k + 1) f [] (fun vs zs H Q E => ∃ a rest, vs = a :: rest ∧ rest.length ≤ sizeLine ∧ ∀ p, H p = Option.none → sp [a, d, V.ref p] (upd H p (.tup rest)) Q E) := by
  intro A outer s H us ws vs zs Q E hr e0 r rz _ hsp
  obtain ⟨a, rest, rfl, hz, hq⟩ := hsp
  obtain ⟨ud, hud, rd⟩ := hd
  have KX : K.In s.heap := e0.mod.kin.keeps fun b o e => (e0.bs b o e).1
  cases r with
  | cons ra rr =>
    rename_i ua ur
    refine StX.run_bnd lk hcd S hr e0 (bnd_star hCX e0 ra rd rr hz fun A' Ex R h => ?_) fun s2 H2 xs ⟨p, hp, ex, eH⟩ hr' => ?_
    · show wpAny _ _ (bindArgs _ ⟨ua :: ur, []⟩) _ _ _
      obtain ⟨β, γ, k1, k2, k3, b, e1, e2, e3⟩ := hb ua ud ur
      rw [e1, bind_assoc]
      have l1 : PySem.W.Looks (model P w) s.heap (nsGet D pk >>= k1) b := (PySem.W.looks_nsIn KX hud).andThen (PySem.W.Looks.of_pure e2)
      refine wpAny_bind (l1.here ?_)
      rw [e3]
      exact h
    · subst ex eH
      exact hbody A outer s2 _ _ Q E hr' (hq p hp)
end
/-! ### the calls -/
section
variable {M : Model} {A : Around} {E : Value → Shared → Prop} {s : Shared} {K : PySem.W.Frag} {env : Env}
/-- one starred argument alone, and keywords: the keywords' values come ahead of the star's items -/
theorem args_starK {f : Value} {x : Sem Value} {pos : Pos} {kws : List (Option Str × Sem Value)} {Q : Args → Shared → Prop} (hall : kws.all (·.1.isSome) = true)
    (h : wpAny M A x (fun v s1 => wpAny M A (evalAll (kws.map (·.2))) (fun ks s2 => PySem.W.StarOf M A E v (fun vs s3 => Q ⟨vs, (kws.filterMap (·.1)).zip ks⟩ s3) s2) E s1) E s) :
    wpAny M A (evalArgs f true [(true, (do let v ← x; standAt pos; pure v))] kws) Q E s := by
  unfold evalArgs
  refine wpAny_bind (wpAny_bind (wpAny_mono h (fun v s1 h1 => wpAny_bind (wpAny_standAt (wpAny_pure ?_))) fun _ _ z => z))
  refine wpAny_holding ?_
  rw [if_pos hall]
  refine wpAny_bind (wpAny_mono h1 (fun ks s2 h2 => ?_) fun _ _ z => z)
  unfold PySem.W.StarOf at h2
  refine wpAny_bind (wpAny_bind (wpAny_mono h2 (fun b s3 h3 => ?_) fun _ _ z => z))
  obtain ⟨rfl, h3⟩ := h3
  exact wpAny_holding (wpAny_mono h3 (fun vs s4 h4 => wpAny_pure h4) fun _ _ z => z)
theorem call_starKK {f : Value} {first : List Value} {pos : Pos} {Q : Value → Shared → Prop} {args : List (Bool × Sem Value)} {kws : List (Option Str × Sem Value)} (hst : args.any (·.1) = true) (hk : PySem.W.keepIn K f = true)
    (h : wpAny M A (evalArgs f true args kws) (fun a s1 => K.In s1.heap ∧ wpAny M A (call f (first ++ a.pos) a.kw) Q E s1) E s) : wpAny M A (callWith pos f first args kws) Q E s := by
  unfold callWith
  refine wpAny_bind (wpAny_holding (wpAny_mono h (fun a s1 h1 => wpAny_bind (wpAny_standAt ?_)) fun _ _ z => z))
  obtain ⟨k, hk', L⟩ := PySem.W.keeps_K (M := M) hk _ h1.1
  simp only [hst, Bool.true_or]
  refine wpAny_bind (L.here ?_)
  have back : ∀ {t : Sem Value}, wpAny M A t Q E s1 → wpAny M A (t >>= fun r => holding [r] point >>= fun _ => pure r) Q E s1 :=
    fun ht => wpAny_bind (wpAny_mono ht (fun r s2 hr => wpAny_bind (wpAny_holding (wpAny_point (wpAny_pure hr)))) fun _ _ z => z)
  have mk (m : Value) : wpAny M A (callMarked m f (first ++ a.pos) a.kw) Q E s1 := by unfold callMarked; exact Calls.wpAny_keep h1.2
  rcases hk' with rfl | rfl | rfl <;> dsimp only <;> first | exact back (mk _) | exact back (wpAny_operating h1.2)
end
/-- C(..): the promise of __init__ by positional values and keywords -/
def tMakeW (C : Addr) (sp : List V → List V → Hp → VK → XK → Prop) (E : XK) (H : Hp) (Q : VK) (vs zs : List V) : Prop := ∀ x dx, H x = none → H dx = none → dx ≠ x →
  sp (.ref x :: vs) zs (upd (upd H dx (.own x)) x (.ins C dx [])) (fun v H3 => v = .non ∧ Q (.ref x) H3) E
section
variable {X : Cx} {CX : CXT} {k : Nat} {f C : Addr} {ks : List Str} {sp : List V → List V → Hp → VK → XK → Prop} {E : XK} {x : Str} {p pos sp_ : Pos} {e : Expr} {es : List Expr} {kws : List Keyword} {t tk : TA} {te : TE}
theorem run_makeW {pins : List (Addr × Obj)} {σ : L2.St} {H : Hp} {s : Shared} {Q : VK} {us ws : List Value} {vs zs : List V} (M : Mk X.K C f) (F : FnKW X.prog X.w X.K X.mg X.base CX k f ks sp) (hr : Room (k + 1) X.A) (hx : Passes CX X E)
    (I : Inv X pins σ H s) (r : Vals vs us) (rz : Vals zs ws) (l : zs.length = ks.length) (h : tMakeW C sp E H Q vs zs) : wpAny (model X.prog X.w) X.A (call (.ref C) us (ks.zip ws)) (EP X pins σ Q) X.xe s := by
  have hq := h (s.heap.objs.size + 1) s.heap.objs.size (I.hok.fresh (Nat.le_succ _)) (I.hok.fresh (Nat.le_refl _)) (Nat.ne_of_lt (Nat.lt_succ_self _))
  have I2 := Inv.made (C := C) I
  have r1 : Vals (V.ref (s.heap.objs.size + 1) :: vs) (Value.ref (s.heap.objs.size + 1) :: us) := .cons rfl r
  refine wpAny_call (make_map (f := f) I.kIn M.makes M.init (beq_iff_eq.mp M.fn) (codeAny_mono (F _ X.stack _ _ (Value.ref (s.heap.objs.size + 1) :: us) ws _ zs _ E (hr.make C us (ks.zip ws)) (I2.env0.make C us (ks.zip ws)) r1 rz l hq) fun r s' hq' => ?_))
  cases r with
  | error e => exact hx pins σ _ _ e s' I2 hq'
  | ok fl =>
    cases fl with
    | ret u =>
      obtain ⟨v, H', I3, rv, ev, q3⟩ := I2.after hq'
      subst ev
      exact ⟨rv, ⟨V.ref (s.heap.objs.size + 1), H', I3, rfl, q3⟩⟩
    | next => exact False.elim hq'
    | brk => exact False.elim hq'
    | cont => exact False.elim hq'
/-- C(k=e) -/
theorem pe_makeW0 (M : Mk X.K C f) (F : FnKW X.prog X.w X.K X.mg X.base CX k f ks sp) (hr : Room (k + 1) X.A) (hg : Gl X x) (hm : X.mg x = some (.ref C)) (hx : Passes CX X E) (hkw : PK X kws tk)
    (hall : (backToKw pos (keywordEach kws X.env)).all (·.1.isSome) = true := by rfl) (hks : (backToKw pos (keywordEach kws X.env)).filterMap (·.1) = ks := by rfl) (hdb : (x == ("__debug__" : Str)) = false := by decide)
    (hpl : ((backTo pos (starEach [] X.env)).any (·.1) || (backToKw pos (keywordEach kws X.env)).any (·.1.isNone)) = false := by rfl) :
    PE X (.Call (.Name x p) [] kws pos) (fun σ H Q => tk σ H fun zs H2 => zs.length = ks.length ∧ tMakeW C sp E H2 Q [] zs) := by
  refine ⟨fun pins s σ H Q I h => ?_⟩
  refine wpAny_Call_Name_kw (ld_glob I hg hm ?_ hdb)
  refine PySem.W.callWith_KW0 (h₀ := X.base) I.ok.mod.kin M.kp hall ?_ hpl
  refine thn (hkw.run pos pins s σ H _ I h) fun ws s2 ⟨zs, H2, I2, rz, l2, q2⟩ => ⟨I2.kIn, ?_⟩
  rw [hks]
  exact run_makeW (us := []) (vs := []) M F hr hx I2 .nil rz l2 q2
/-- C(e, .., k=e) -/
theorem pe_makeW (M : Mk X.K C f) (F : FnKW X.prog X.w X.K X.mg X.base CX k f ks sp) (hr : Room (k + 1) X.A) (hg : Gl X x) (hm : X.mg x = some (.ref C)) (hx : Passes CX X E) (ha : PA X (e :: es) t) (hkw : PK X kws tk)
    (hall : (backToKw pos (keywordEach kws X.env)).all (·.1.isSome) = true := by rfl) (hks : (backToKw pos (keywordEach kws X.env)).filterMap (·.1) = ks := by rfl) (hdb : (x == ("__debug__" : Str)) = false := by decide)
    (he : starEach (e :: es) X.env = (false, eval e X.env) :: starEach es X.env := by rfl) (hpl : ((backTo pos (starEach (e :: es) X.env)).any (·.1) || (backToKw pos (keywordEach kws X.env)).any (·.1.isNone)) = false := by rfl) :
    PE X (.Call (.Name x p) (e :: es) kws pos) (fun σ H Q => t σ H fun vs H1 => tk σ H1 fun zs H2 => zs.length = ks.length ∧ tMakeW C sp E H2 Q vs zs) := by
  refine ⟨fun pins s σ H Q I h => ?_⟩
  refine wpAny_Call_Name_kw (ld_glob I hg hm ?_ hdb)
  refine PySem.W.callWith_KW (h₀ := X.base) I.ok.mod.kin M.kp hall (thn (ha.run pos pins s σ H _ I h) fun us s1 ⟨vs, H1, I1, r, q⟩ => ?_) hpl he
  refine thn (hkw.run pos pins s1 σ H1 _ I1 q) fun ws s2 ⟨zs, H2, I2, rz, l2, q2⟩ => ⟨I2.kIn, ?_⟩
  rw [hks]
  exact run_makeW M F hr hx I2 r rz l2 q2
/-- C(e, ..) -/
theorem pe_makeWP (M : Mk X.K C f) (F : FnKW X.prog X.w X.K X.mg X.base CX k f [] sp) (hr : Room (k + 1) X.A) (hg : Gl X x) (hm : X.mg x = some (.ref C)) (hx : Passes CX X E) (ha : PA X (e :: es) t) (hdb : (x == ("__debug__" : Str)) = false := by decide)
    (he : starEach (e :: es) X.env = (false, eval e X.env) :: starEach es X.env := by rfl) (hpl : (backTo pos (starEach es X.env)).any (·.1) = false := by rfl) :
    PE X (.Call (.Name x p) (e :: es) [] pos) (fun σ H Q => t σ H fun vs H1 => tMakeW C sp E H1 Q vs []) := by
  refine ⟨fun pins s σ H Q I h => ?_⟩
  refine wpAny_Call_Name_kw (ld_glob I hg hm ?_ hdb)
  refine PySem.W.callWith_K (h₀ := X.base) I.ok.mod.kin M.kp (thn (ha.run pos pins s σ H _ I h) fun us s1 ⟨vs, H1, I1, r, q⟩ => ⟨I1.kIn, ?_⟩) he hpl
  exact run_makeW (ks := []) (ws := []) (zs := []) M F hr hx I1 r .nil rfl q
/-- C() -/
theorem pe_makeWN (M : Mk X.K C f) (F : FnKW X.prog X.w X.K X.mg X.base CX k f [] sp) (hr : Room (k + 1) X.A) (hg : Gl X x) (hm : X.mg x = some (.ref C)) (hx : Passes CX X E) (hdb : (x == ("__debug__" : Str)) = false := by decide) :
    PE X (.Call (.Name x p) [] [] pos) (fun σ H Q => tMakeW C sp E H Q [] []) := by
  refine ⟨fun pins s σ H Q I h => ?_⟩
  refine wpAny_Call_Name_kw (ld_glob I hg hm ?_ hdb)
  exact PySem.W.callWith_K0 I.kIn M.kp (run_makeW (ks := []) (ws := []) (zs := []) (us := []) (vs := []) M F hr hx I .nil .nil rfl h)
/-- C(*e, k=e) -/
theorem pe_makeWS (M : Mk X.K C f) (F : FnKW X.prog X.w X.K X.mg X.base CX k f ks sp) (hr : Room (k + 1) X.A) (hg : Gl X x) (hm : X.mg x = some (.ref C)) (hx : Passes CX X E) (he : PE X e te) (hkw : PK X kws tk)
    (hall : (backToKw pos (keywordEach kws X.env)).all (·.1.isSome) = true := by rfl) (hks : (backToKw pos (keywordEach kws X.env)).filterMap (·.1) = ks := by rfl) (hdb : (x == ("__debug__" : Str)) = false := by decide)
    (hst : starEach [.Starred e sp_] X.env = [(true, eval e X.env)] := by rfl) :
    PE X (.Call (.Name x p) [.Starred e sp_] kws pos) (fun σ H Q => te σ H fun y H1 => ∃ a xs, y = V.ref a ∧ tk σ H1 fun zs H2 => (SqT X.K H2 a xs ∨ SqL X.K H2 a xs) ∧ zs.length = ks.length ∧ tMakeW C sp E H2 Q xs zs) := by
  refine ⟨fun pins s σ H Q I h => ?_⟩
  refine wpAny_Call_Name_kw (ld_glob I hg hm ?_ hdb)
  rw [hst]
  refine call_starKK (K := X.K) rfl M.kp (args_starK hall (thn (he.run pins s σ H _ I h) fun v s1 ⟨y, H1, I1, ry, a, xs, ey, q⟩ => ?_))
  subst ey
  obtain rfl : v = Value.ref a := ry
  refine thn (hkw.run pos pins s1 σ H1 _ I1 q) fun ws s2 ⟨zs, H2, I2, rz, hxs, l2, q2⟩ => ?_
  refine StX.star_any I2 hxs fun us s3 I3 rv => ⟨I3.kIn, ?_⟩
  rw [hks]
  exact run_makeW M F hr hx I3 rv rz l2 q2
end
end My
set_option Elab.async false
set_option linter.all false
set_option maxRecDepth 100000
set_option maxHeartbeats 4000000
/-! operators of own classes: both of the class, with an int on either side, -a, in place -/
namespace My
open PySem PySem.Spec PyProof.Rows L2 Evl
/-! ### an int's own operator declines an object of an own class -/
section
variable {prog : Program} {w : World} {M : Model} {A : Around} {E : Value → Shared → Prop} {s : Shared} {K : PySem.W.Frag} {x C f : Addr} {ox : Obj} {od : Option Obj} {i : Int} {t : Tok}
theorem asInt_own {Q : Option Int → Shared → Prop} (I : PySem.W.InstAt s.heap x ox C od) (hd : ox.data = .plain) (q : Q none s) : wpAny M A (asInt? (.ref x)) Q E s := by
  show wpAny M A (load x >>= fun o => _) Q E s
  refine wpAny_bind (wpAny_load I.at_ ?_)
  rw [hd]
  exact wpAny_pure q
theorem int_no {name : String} {g : Int → Int → Sem Fin} {Q : Fin → Shared → Prop} (I : PySem.W.InstAt s.heap x ox C od) (hd : ox.data = .plain) (q : Q (.done (.ret .notImplemented)) s) : wpAny M A (Builtin.Int.intBinary name g false ⟨[.int i t, .ref x], []⟩) Q E s := by
  unfold Builtin.Int.intBinary
  refine wpAny_bind (wpAny_of_eq (a := (Value.int i t, [Value.ref x])) rfl ?_)
  refine wpAny_bind (wpAny_of_eq (a := i) rfl ?_)
  refine wpAny_bind (asInt_own I hd ?_)
  exact wpAny_bind (wpAny_rule (wpAny_pure q))
/-- what an int's operator is made of -/
structure IntOp (op : Operator) (id : String) : Prop where
  fills : fillsNumberSlot (.type "int") op.info.2 = pure true
  slot : Slot "int" (dunder op.info.2) id
  entry : ∃ name g, entryFor table id = some (Builtin.Int.intBinary name g false)
  args : ∀ a b, argsOk id ⟨[a, b], []⟩
theorem call_no {op : Operator} {id : String} (o : IntOp op id) {Q : Value → Shared → Prop} (I : PySem.W.InstAt s.heap x ox C od) (hd : ox.data = .plain) (q : Q .notImplemented s) : wpAny (model prog w) A (call (.builtin id) [.int i t, .ref x]) Q E s := by
  obtain ⟨name, g, e⟩ := o.entry
  exact wpAny_call (codeAny_call_builtin o.slot.plain e (o.slot.check _ _ _ _ _ _ _ _ (typeIs_int s i t) (o.args _ _) (int_no I hd q)))
theorem bin_intOwn {op : Operator} {id : String} {g0 : Addr} (o : IntOp op id) {Q : Value → Shared → Prop} (X : K.In s.heap) (I : PySem.W.InstAt s.heap x ox C od) (hd : ox.data = .plain) (hc : PySem.W.selfFirst K C = true) (hs : PySem.W.findIn K (.ref C) (PySem.dunder op.info.2) = some (some (.ref g0)))
    (hr : PySem.W.findIn K (.ref C) (dunderR op.info.2) = some (some (.ref f))) (hf : PySem.W.isFn K (.ref f) = true) (hsub : PySem.W.subIn K (.ref C) (.type "int") = some false)
    (h : wpAny (model prog w) A (call (.ref f) [.ref x, .int i t]) (PySem.W.CmpBack Q) E s) : wpAny (model prog w) A (binaryOp op (.int i t) (.ref x)) Q E s := by
  obtain ⟨cd, rest, hcd, hm⟩ := PySem.W.ksp_first hc
  have hfT := o.fills
  have hl := o.slot
  have hno := fun (Q : Value → Shared → Prop) (q : Q .notImplemented s) => call_no (prog := prog) (w := w) (A := A) (E := E) (i := i) (t := t) o I hd (Q := Q) q
  clear o
  rcases hi : op.info with ⟨sym, nm⟩
  rw [hi] at hs hr hfT hl
  dsimp only at hs hr hfT hl
  have two := PySem.W.ksp_try X I hr hf h
  have L3 : PySem.W.Looks (model prog w) s.heap (fillsNumberSlot (.ref C) nm) true := PySem.W.fills_K X hcd hm hs
  have L5 : PySem.W.Looks (model prog w) s.heap (isSubtype (.ref C) (.type "int")) false := PySem.W.looks_subIn X hsub
  have hne : (Value.type "int" == Value.ref C) = false := Bool.eq_false_iff.mpr fun q => by cases beq_iff_eq.mp q
  have hpy : numberSlotInPython (.type "int") nm = pure false := rfl
  simp only [binaryOp, hi]
  refine wpAny_holding (wpAny_bind ?_)
  unfold binaryOp1
  refine wpAny_bind (wpAny_typeOf (typeIs_int s i t) (wpAny_bind (I.type.here (wpAny_bind (wpAny_of_eq hfT ?_)))))
  simp only [hne, Bool.false_eq_true, if_false]
  refine wpAny_bind (L3.here ?_)
  simp only [Bool.and_self, if_true]
  refine wpAny_bind (L5.here ?_)
  simp only [Bool.false_eq_true, if_false, pure_bind, Bool.not_false, Bool.and_self, if_true, hpy]
  simp only [tryMethod] at two ⊢
  refine wpAny_bind (wpAny_bind (wpAny_callSpecial?_slot (typeIs_int s i t) hl (hno _ ?_)))
  refine wpAny_pure (wpAny_bind (wpAny_mono two (fun r s' hr' => ?_) fun _ _ e => e))
  obtain ⟨v, rfl, hq⟩ := hr'
  exact wpAny_bind (wpAny_rule (wpAny_pure (wpAny_pure hq)))
end
theorem int_sub0 {K : PySem.W.Frag} {C : Addr} {Q : Prop} (h : Q) : Q := h
theorem iop_add : IntOp .Add "int.__add__" := ⟨F.fills_int_add, F.slot_int_add, ⟨_, _, F.entry_int_add⟩, F.args_int_add_2⟩
theorem iop_sub : IntOp .Sub "int.__sub__" := ⟨F.fills_int_sub, F.slot_int_sub, ⟨_, _, F.entry_int_sub⟩, F.args_int_sub_2⟩
theorem iop_mul : IntOp .Mult "int.__mul__" := ⟨F.fills_int_mul, F.slot_int_mul, ⟨_, _, F.entry_int_mul⟩, F.args_int_mul_2⟩
/-! ### the rules -/
/-- what the class at C must have: the operator's own def -/
structure BinC (K : PySem.W.Frag) (op : Operator) (C g : Addr) : Prop where
  m : MethC K (PySem.dunder op.info.2) C g
  sf : PySem.W.selfFirst K C = true
  isub : PySem.W.subIn K (.type "int") (.ref C) = some false
  r : (PySem.W.findIn K (.ref C) (dunderR op.info.2) = some none ∨ ∃ f : Addr, PySem.W.findIn K (.ref C) (dunderR op.info.2) = some (some (.ref f)))
structure BinR (K : PySem.W.Frag) (op : Operator) (C g f : Addr) : Prop where
  m : MethC K (PySem.dunder op.info.2) C g
  mr : MethC K (dunderR op.info.2) C f
  sf : PySem.W.selfFirst K C = true
  csub : PySem.W.subIn K (.ref C) (.type "int") = some false
/-- a op b: both of the class at C, or an int on the right -/
def rBin (C : Addr) (sp : Sp) (E : XK) : R2 := fun x y H Q => ∃ a dx fs, x = .ref a ∧ H a = some (.ins C dx fs) ∧ ((∃ i, y = .int i) ∨ ∃ b dy gs, y = .ref b ∧ H b = some (.ins C dy gs)) ∧ sp [x, y] H Q E
/-- i op a: an int on the left -/
def rBinI (C : Addr) (sp : Sp) (E : XK) : R2 := fun x y H Q => ∃ i a dx fs, x = .int i ∧ y = .ref a ∧ H a = some (.ins C dx fs) ∧ sp [y, x] H Q E
section
variable {X : Cx} {CX : CXT} {n : Nat} {sp : Sp} {E : XK} {C g f : Addr} {op : Operator}
/-- what the library's facts say of the int's side of an operator -/
structure IntSide (op : Operator) : Prop where
  a : ∃ fo, PySem.W.findIn [] (.type "int") (PySem.dunder op.info.2) = some fo
  b : ∃ ro, PySem.W.findIn [] (.type "int") (dunderR op.info.2) = some ro
theorem op_bin (hS : BinC X.K op C g) (h1 : ∃ fo, PySem.W.findIn X.K (.type "int") (PySem.dunder op.info.2) = some fo) (h2 : ∃ ro, PySem.W.findIn X.K (.type "int") (dunderR op.info.2) = some ro) (hF : FnR X.prog X.w X.K X.mg X.base CX n g sp) (hr : Room n X.A) (hx : Passes CX X E) : OpR X (binaryOp op) (rBin C sp E) := by
  intro pins s σ H x y v u Q I rx ry h
  obtain ⟨a, dx, fs, rfl, ha, hy, q⟩ := h
  obtain rfl : v = Value.ref a := rx
  obtain ⟨od, J⟩ := ins_at I ha
  obtain ⟨m, hFr⟩ := I.fr
  have main : wpAny (model X.prog X.w) X.A (call (.ref g) [.ref a, u]) (PySem.W.CmpBack (EP X pins σ Q)) X.xe s := by
    refine wpAny_mono (wpAny_call (run_fnR (us := [.ref a, u]) (vs := [.ref a, y]) hF hr hx I (.cons rfl (.cons ry .nil)) q)) (fun w s' z => ?_) fun _ _ x => x
    obtain ⟨z', H', I', rz, qz⟩ := z
    exact SlX.cmpback rz ⟨z', H', I', rz, qz⟩
  rcases hy with ⟨i, rfl⟩ | ⟨b, dy, gs, rfl, hb⟩
  · obtain ⟨t, rfl⟩ := (show ∃ t, u = Value.int i t from ry)
    obtain ⟨fo, h1⟩ := h1
    obtain ⟨ro, h2⟩ := h2
    rcases hS.r with hr' | ⟨f', hr'⟩
    · exact PySem.W.ksp_binT hFr I.ok.mod.kin J (b := .int i t) (T := "int") rfl hS.sf hS.m.at_ hS.m.fn hr' (.inl rfl) h1 h2 hS.isub main
    · exact PySem.W.ksp_binT hFr I.ok.mod.kin J (b := .int i t) (T := "int") rfl hS.sf hS.m.at_ hS.m.fn hr' (.inr ⟨_, rfl⟩) h1 h2 hS.isub main
  · obtain rfl : u = Value.ref b := ry
    obtain ⟨od2, J2⟩ := ins_at I hb
    exact PySem.W.binop_K hFr I.ok.mod.kin J J2.type hS.sf hS.m.at_ hS.m.fn main
theorem op_binI {id : String} (o : IntOp op id) (hS : BinR X.K op C g f) (hF : FnR X.prog X.w X.K X.mg X.base CX n f sp) (hr : Room n X.A) (hx : Passes CX X E) : OpR X (binaryOp op) (rBinI C sp E) := by
  intro pins s σ H x y v u Q I rx ry h
  obtain ⟨i, a, dx, fs, rfl, rfl, ha, q⟩ := h
  obtain rfl : u = Value.ref a := ry
  obtain ⟨t, rfl⟩ := (show ∃ t, v = Value.int i t from rx)
  obtain ⟨od, J⟩ := ins_at I ha
  refine bin_intOwn o I.kIn J rfl hS.sf hS.m.at_ hS.mr.at_ hS.mr.fn hS.csub ?_
  refine wpAny_mono (wpAny_call (run_fnR (us := [.ref a, .int i t]) (vs := [.ref a, .int i]) hF hr hx I (.cons rfl (.cons ⟨_, rfl⟩ .nil)) q)) (fun w s' z => ?_) fun _ _ x => x
  obtain ⟨z', H', I', rz, qz⟩ := z
  exact SlX.cmpback rz ⟨z', H', I', rz, qz⟩
/-- -a -/
def rNegO (C : Addr) (sp : Sp) (E : XK) : V → Hp → VK → Prop := fun x H Q => ∃ a dx fs, x = .ref a ∧ H a = some (.ins C dx fs) ∧ sp [x] H Q E
theorem un_negO (hS : MethC X.K "__neg__" C g) (hF : FnR X.prog X.w X.K X.mg X.base CX n g sp) (hr : Room n X.A) (hx : Passes CX X E) : UnR X (unaryOp .USub) (rNegO C sp E) := by
  intro pins s σ H x v Q I rx h
  obtain ⟨a, dx, fs, rfl, ha, q⟩ := h
  obtain rfl : v = Value.ref a := rx
  obtain ⟨od, J⟩ := ins_at I ha
  obtain ⟨m, hFr⟩ := I.fr
  refine PySem.W.ksp_neg hFr I.ok.mod.kin J hS.at_ hS.fn ?_
  exact wpAny_mono (wpAny_call (run_fnR (us := [.ref a]) (vs := [.ref a]) hF hr hx I (.cons rfl .nil) q)) (fun w s' z => z) fun _ _ x => x
end
end My
namespace My
open PySem PySem.Spec PyProof.Rows L2 Evl
/-! ### a op= b without an own __iop__ -/
/-- a class without an own in-place def -/
structure INo (K : PySem.W.Frag) (op : Operator) (C : Addr) : Prop where
  mro : (PySem.W.clsIn K C).map (·.mro) = some [.ref C, .type "object"]
  no : PySem.W.findIn K (.ref C) (dunderI op.info.2) = some none
theorem obj_isub : typeLookup (.type "object") (dunderI "sub") = pure none := by rw [typeLookup_type, builtinLookup_eq_fast]; kernel_rfl
theorem obj_imul : typeLookup (.type "object") (dunderI "mul") = pure none := by rw [typeLookup_type, builtinLookup_eq_fast]; kernel_rfl
theorem obj_ipow : typeLookup (.type "object") (dunderI "pow") = pure none := by rw [typeLookup_type, builtinLookup_eq_fast]; kernel_rfl
theorem fills_noG {M : Model} {K : PySem.W.Frag} {h : Heap} {C : Addr} {op : Operator} {ad : Bool} (X : K.In h) (T : INo K op C) (ob : typeLookup (.type "object") (dunderI op.info.2) = pure none) : PySem.W.Looks M h (fillsInplaceSlot (.ref C) op.info.2 ad) false := by
  cases hc : PySem.W.clsIn K C with
  | none => have := T.mro; rw [hc] at this; cases this
  | some cd =>
    have hm : cd.mro = [.ref C, .type "object"] := by have := T.mro; rw [hc] at this; exact Option.some.inj this
    intro A Q E s k q
    have Lm : PySem.W.Looks M h (mroOf (.ref C)) cd.mro := (PySem.W.looks_clsIn X hc).andThen (f := fun cd => pure cd.mro) .now
    have Lm' := Lm.keeps k
    obtain ⟨hh, g, d, tt, os⟩ := s
    have X' : K.In hh := X.keeps k
    have L1 : PySem.W.Looks M hh (typeLookup (.ref C) (dunderI op.info.2)) none := PySem.W.looks_findIn X' T.no
    unfold fillsInplaceSlot
    refine wpAny_bind (Lm'.at ?_)
    rw [hm, List.anyM_cons]
    refine wpAny_bind (wpAny_bind (L1.at (wpAny_pure ?_)))
    rw [if_neg (by decide), List.anyM_cons]
    refine wpAny_bind (wpAny_bind (wpAny_of_eq ob (wpAny_pure ?_)))
    rw [if_neg (by decide), List.anyM_nil]
    exact wpAny_pure q
section
variable {prog : Program} {w : World} {A : Around} {E : Value → Shared → Prop} {s : Shared} {K : PySem.W.Frag} {x C f : Addr} {ox : Obj} {od : Option Obj} {nm T : String}
theorem bin1_same {b : Value} {Q : Value → Shared → Prop} (X : K.In s.heap) (I : PySem.W.InstAt s.heap x ox C od) (hb : PySem.W.Looks (model prog w) s.heap (typeOf b) (.ref C)) (hc : PySem.W.selfFirst K C = true) (hs : PySem.W.findIn K (.ref C) (PySem.dunder nm) = some (some (.ref f))) (hf : PySem.W.isFn K (.ref f) = true)
    (h : wpAny (model prog w) A (call (.ref f) [.ref x, b]) (PySem.W.CmpBack Q) E s) : wpAny (model prog w) A (binaryOp1 nm (.ref x) b) (fun r s' => ∃ v, r = some v ∧ Q v s') E s := by
  obtain ⟨cd, rest, hcd, hm⟩ := PySem.W.ksp_first hc
  have one := PySem.W.ksp_try X I hs hf h
  unfold binaryOp1
  refine wpAny_bind (I.type.here ?_)
  refine wpAny_bind (hb.here ?_)
  refine wpAny_bind ((PySem.W.fills_K X hcd hm hs).here ?_)
  simp only [beq_self_eq_true, if_true]
  refine wpAny_bind (wpAny_pure ?_)
  simp only [Bool.false_and, Bool.and_false, if_false, Bool.false_eq_true]
  refine wpAny_bind (wpAny_pure ?_)
  rw [if_neg Bool.false_ne_true]
  refine wpAny_bind (wpAny_mono one (fun r s' hr' => ?_) fun _ _ e => e)
  obtain ⟨v, rfl, hq⟩ := hr'
  exact wpAny_pure ⟨v, rfl, hq⟩
theorem bin1_plain {b : Value} {fo ro rc : Option Value} {Q : Value → Shared → Prop} (X : K.In s.heap) (I : PySem.W.InstAt s.heap x ox C od) (hb : typeOf b = pure (.type T)) (hc : PySem.W.selfFirst K C = true)
    (hs : PySem.W.findIn K (.ref C) (PySem.dunder nm) = some (some (.ref f))) (hf : PySem.W.isFn K (.ref f) = true) (hr : PySem.W.findIn K (.ref C) (dunderR nm) = some rc) (hp : rc = none ∨ ∃ g : Addr, rc = some (.ref g))
    (h1 : PySem.W.findIn K (.type T) (PySem.dunder nm) = some fo) (h2 : PySem.W.findIn K (.type T) (dunderR nm) = some ro) (hsub : PySem.W.subIn K (.type T) (.ref C) = some false)
    (h : wpAny (model prog w) A (call (.ref f) [.ref x, b]) (PySem.W.CmpBack Q) E s) : wpAny (model prog w) A (binaryOp1 nm (.ref x) b) (fun r s' => ∃ v, r = some v ∧ Q v s') E s := by
  obtain ⟨cd, rest, hcd, hm⟩ := PySem.W.ksp_first hc
  have one := PySem.W.ksp_try X I hs hf h
  have L3 : PySem.W.Looks (model prog w) s.heap (fillsNumberSlot (.ref C) nm) true := PySem.W.fills_K X hcd hm hs
  have L4 := PySem.W.ksp_fillsT (M := model prog w) (nm := nm) X h1 h2
  have L5 : PySem.W.Looks (model prog w) s.heap (isSubtype (.type T) (.ref C)) false := PySem.W.looks_subIn X hsub
  have L6 : PySem.W.Looks (model prog w) s.heap (numberSlotInPython (.ref C) nm) true := PySem.W.ksp_inPy X hs hr hp
  have L8 : PySem.W.Looks (model prog w) s.heap (typeLookup (.type T) (dunderR nm)) ro := PySem.W.looks_findIn X h2
  have hpy : numberSlotInPython (.type T) nm = pure false := rfl
  generalize ((fo.isSome && !isSeqSlot fo) || (ro.isSome && !isSeqSlot ro)) = right at L4
  have hne : (Value.ref C == Value.type T) = false := Bool.eq_false_iff.mpr fun q => by cases beq_iff_eq.mp q
  have fin : ∀ {t : Sem (Option Value)} {k : Option Value → Sem (Option Value)}, wpAny (model prog w) A t (fun r s' => ∃ v, r = some v ∧ Q v s') E s → (∀ v, k (some v) = pure (some v)) → wpAny (model prog w) A (t >>= k) (fun r s' => ∃ v, r = some v ∧ Q v s') E s := fun ht hk =>
    wpAny_bind (wpAny_mono ht (fun r s' hr' => by
      obtain ⟨v, rfl, hq⟩ := hr'
      rw [hk]
      exact wpAny_pure ⟨v, rfl, hq⟩) fun _ _ e => e)
  unfold binaryOp1
  refine wpAny_bind (I.type.here ?_)
  refine wpAny_bind (wpAny_of_eq hb ?_)
  refine wpAny_bind (L3.here ?_)
  simp only [hne, Bool.false_eq_true, if_false]
  refine wpAny_bind (L4.here ?_)
  cases right with
  | false =>
    simp only [Bool.and_false, Bool.false_eq_true, if_false, Bool.false_and, pure_bind, if_true]
    exact fin one fun v => rfl
  | true =>
    simp only [Bool.and_self, if_true]
    refine wpAny_bind (L5.here ?_)
    simp only [Bool.false_eq_true, if_false, pure_bind, Bool.not_false, Bool.and_self, if_true]
    refine wpAny_bind (L6.here ?_)
    simp only [if_true, hpy, pure_bind, Bool.not_false]
    refine wpAny_bind (L8.here ?_)
    exact fin one fun v => rfl
end
section
variable {X : Cx} {CX : CXT} {n : Nat} {sp : Sp} {E : XK} {C g f : Addr} {op : Operator}
theorem ip_bin (hS : BinC X.K op C g) (hI : INo X.K op C) (ob : typeLookup (.type "object") (dunderI op.info.2) = pure none) (h1 : ∃ fo, PySem.W.findIn X.K (.type "int") (PySem.dunder op.info.2) = some fo) (h2 : ∃ ro, PySem.W.findIn X.K (.type "int") (dunderR op.info.2) = some ro) (hF : FnR X.prog X.w X.K X.mg X.base CX n g sp) (hr : Room n X.A) (hx : Passes CX X E) : PIp X op (rBin C sp E) := by
  intro pins s σ H x y v u Q I rx ry h
  obtain ⟨a, dx, fs, rfl, ha, hy, q⟩ := h
  obtain rfl : v = Value.ref a := rx
  obtain ⟨od, J⟩ := ins_at I ha
  have main : wpAny (model X.prog X.w) X.A (call (.ref g) [.ref a, u]) (PySem.W.CmpBack (EP X pins σ Q)) X.xe s := by
    refine wpAny_mono (wpAny_call (run_fnR (us := [.ref a, u]) (vs := [.ref a, y]) hF hr hx I (.cons rfl (.cons ry .nil)) q)) (fun w s' z => ?_) fun _ _ x => x
    obtain ⟨z', H', I', rz, qz⟩ := z
    exact SlX.cmpback rz ⟨z', H', I', rz, qz⟩
  have bin : wpAny (model X.prog X.w) X.A (binaryOp1 op.info.2 (.ref a) u) (fun r s' => ∃ v, r = some v ∧ EP X pins σ Q v s') X.xe s := by
    rcases hy with ⟨i, rfl⟩ | ⟨b, dy, gs, rfl, hb⟩
    · obtain ⟨t, rfl⟩ := (show ∃ t, u = Value.int i t from ry)
      obtain ⟨fo, h1⟩ := h1
      obtain ⟨ro, h2⟩ := h2
      rcases hS.r with hr' | ⟨f', hr'⟩
      · exact bin1_plain I.kIn J (b := .int i t) (T := "int") rfl hS.sf hS.m.at_ hS.m.fn hr' (.inl rfl) h1 h2 hS.isub main
      · exact bin1_plain I.kIn J (b := .int i t) (T := "int") rfl hS.sf hS.m.at_ hS.m.fn hr' (.inr ⟨_, rfl⟩) h1 h2 hS.isub main
    · obtain rfl : u = Value.ref b := ry
      obtain ⟨od2, J2⟩ := ins_at I hb
      exact bin1_same I.kIn J J2.type hS.sf hS.m.at_ hS.m.fn main
  unfold inplaceOp
  refine wpAny_holding (wpAny_bind (J.type.here (wpAny_bind ((fills_noG I.kIn hI ob).here ?_))))
  rw [if_neg Bool.false_ne_true]
  refine wpAny_bind (m := binaryOp1 op.info.2 (.ref a) u) (wpAny_mono bin (fun r s' hr' => ?_) fun _ _ x => x)
  obtain ⟨z, rfl, hz⟩ := hr'
  exact wpAny_pure hz
end
end My
namespace My
open PySem PySem.Spec PyProof.Rows L2 Evl
section
variable {K : PySem.W.Frag} {C : Addr}
theorem int_f (nm : String) (h : nm = "add" ∨ nm = "sub" ∨ nm = "mul" ∨ nm = "pow") : (∃ fo, PySem.W.findIn K (.type "int") (PySem.dunder nm) = some fo) ∧ ∃ ro, PySem.W.findIn K (.type "int") (dunderR nm) = some ro := by
  rcases h with rfl | rfl | rfl | rfl
  · exact ⟨⟨some (.builtin "int.__add__"), by show PySem.fastLookup "int" _ = _; kernel_rfl⟩, ⟨some (.builtin "int.__radd__"), by show PySem.fastLookup "int" _ = _; kernel_rfl⟩⟩
  · exact ⟨⟨some (.builtin "int.__sub__"), by show PySem.fastLookup "int" _ = _; kernel_rfl⟩, ⟨some (.builtin "int.__rsub__"), by show PySem.fastLookup "int" _ = _; kernel_rfl⟩⟩
  · exact ⟨⟨some (.builtin "int.__mul__"), by show PySem.fastLookup "int" _ = _; kernel_rfl⟩, ⟨some (.builtin "int.__rmul__"), by show PySem.fastLookup "int" _ = _; kernel_rfl⟩⟩
  · exact ⟨⟨some (.builtin "int.__pow__"), by show PySem.fastLookup "int" _ = _; kernel_rfl⟩, ⟨some (.builtin "int.__rpow__"), by show PySem.fastLookup "int" _ = _; kernel_rfl⟩⟩
theorem int_noC : PySem.W.subIn K (.type "int") (.ref C) = some false := by
  have e : fastBuiltinMro "int" = some [.type "int", .type "object"] := by decide +kernel
  show (fastBuiltinMro "int").map (·.contains (.ref C)) = some false
  rw [e]
  rfl
end
end My
set_option Elab.async false
set_option linter.all false
set_option maxRecDepth 100000
set_option maxHeartbeats 4000000
set_option exponentiation.threshold 5000
namespace My
open PySem PySem.Spec PyProof.Rows L2 Evl
local macro_rules | `(tactic| walk_at "st") => `(tactic| simp only [L2.start, List.map_cons, List.map_nil, List.length_cons, List.length_nil, Nat.reduceAdd, Nat.reduceSub, List.replicate_succ, List.replicate_zero, List.cons_append, List.nil_append, cxOf, List.append_nil])
local macro_rules | `(tactic| walk_at "vc") => `(tactic| try simp only [tSeq, tAsg, tOp, tUn, tVar, tC, tNil, tCons, gName, rI, rI0, rU, tRet, tIfS, tNot, tAnd, tOr, tB, tTest, tCB, tCall, tAndV, tOrV, tNotV, tNext, tNever, tIf, tChain, tYes, tPart, tNoPart, tPar, tDrop, q_isi, q_vn, q_vb, q_vi, q_vs, kb1, kb2, kb3, kb4, kb5, kb6, kb7, kb8, q_int1, q_int2, q_min, q_max, q_repr, tLst, tTup, rEq, rNe, q_sii, q_sss, q_sbb, q_snn, q_sns, q_ssn, q_ix, q_sl, tSl, tBM, tBM0, q_app, q_pop, gSub, rSetL, L2.wipe, eq_self, decide_true, decide_false, tRevL,
  List.getElem?_cons_succ, List.getElem?_cons_zero, List.set_cons_succ, List.set_cons_zero, Option.some.injEq, exists_eq_left', exists_eq_left, V.int.injEq, V.bl.injEq, V.ref.injEq, V.str.injEq, List.cons.injEq, and_true, true_and, List.append_nil, List.nil_append, List.cons_append, exists_and_left, and_assoc, if_true, if_false, Bool.not_true, Bool.not_false, Bool.false_eq_true, Bool.true_eq_false, reduceIte, tRevL, tPar3, tRevT, tUnl, tCKw, forall_const, Bool.not_eq_true', decide_eq_true_eq, decide_eq_false_iff_not])
def inCls (s : Stmt) (j : Nat) : Stmt := match s with
  | .ClassDef (body := b) .. => b.getD j (.Pass ⟨0, 0, 0, 0⟩)
  | _ => s
def topS (i : Nat) : Stmt := PySem.Challenge.pw_everybase_k24_terms_made.main.body.getD i (.Pass ⟨0, 0, 0, 0⟩)
abbrev s_is_integer : Stmt := topS 7
abbrev N_is_integer : List Str := ["value"]
theorem sc_is_integer : FnScope N_is_integer ["value"] (defScope s_is_integer) := ⟨rfl, rfl, rfl, by decide +kernel, rfl, by decide +kernel, by decide +kernel⟩
abbrev s_reduced : Stmt := topS 11
abbrev N_reduced : List Str := ["over", "coefficients", "many", "kept", "common", "one"]
theorem sc_reduced : FnScope N_reduced ["over", "coefficients"] (defScope s_reduced) := ⟨rfl, rfl, rfl, by decide +kernel, rfl, by decide +kernel, by decide +kernel⟩
abbrev s_value : Stmt := topS 18
abbrev N_value : List Str := ["x", "base", "number", "one"]
theorem sc_value : FnScope N_value ["x", "base"] (defScope s_value) := ⟨rfl, rfl, rfl, by decide +kernel, rfl, by decide +kernel, by decide +kernel⟩
abbrev s_law_deal : Stmt := topS 27
abbrev N_law_deal : List Str := ["_law_script", "_law_base", "_law_cells", "_law_blend", "_law_cell"]
theorem sc_law_deal : FnScope N_law_deal ["_law_script", "_law_base"] (defScope s_law_deal) := ⟨rfl, rfl, rfl, by decide +kernel, rfl, by decide +kernel, by decide +kernel⟩
abbrev s_law_draw : Stmt := topS 28
abbrev N_law_draw : List Str := ["_law_deal_here", "_law_amount", "_law_left"]
theorem sc_law_draw : FnScope N_law_draw ["_law_deal_here", "_law_amount"] (defScope s_law_draw) := ⟨rfl, rfl, rfl, by decide +kernel, rfl, by decide +kernel, by decide +kernel⟩
abbrev s_law_gcd : Stmt := topS 29
abbrev N_law_gcd : List Str := ["_law_one", "_law_other"]
theorem sc_law_gcd : FnScope N_law_gcd ["_law_one", "_law_other"] (defScope s_law_gcd) := ⟨rfl, rfl, rfl, by decide +kernel, rfl, by decide +kernel, by decide +kernel⟩
abbrev s_law_lowest : Stmt := topS 30
abbrev N_law_lowest : List Str := ["_law_row_here", "_law_under", "_law_share", "_law_one"]
theorem sc_law_lowest : FnScope N_law_lowest ["_law_row_here", "_law_under"] (defScope s_law_lowest) := ⟨rfl, rfl, rfl, by decide +kernel, rfl, by decide +kernel, by decide +kernel⟩
abbrev s_law_value : Stmt := topS 31
abbrev N_law_value : List Str := ["_law_row_here", "_law_base", "_law_found", "_law_one"]
theorem sc_law_value : FnScope N_law_value ["_law_row_here", "_law_base"] (defScope s_law_value) := ⟨rfl, rfl, rfl, by decide +kernel, rfl, by decide +kernel, by decide +kernel⟩
abbrev s_law_made : Stmt := topS 32
abbrev N_law_made : List Str := ["_law_row_here", "_law_under", "_law_a", "_law_b", "_law_c", "_law_d", "_law_e", "_law_f", "_law_g", "_law_h", "_law_i", "_law_j", "_law_k"]
theorem sc_law_made : FnScope N_law_made ["_law_row_here", "_law_under"] (defScope s_law_made) := ⟨rfl, rfl, rfl, by decide +kernel, rfl, by decide +kernel, by decide +kernel⟩
abbrev s_law_row : Stmt := topS 33
abbrev N_law_row : List Str := ["_law_deal_here", "_law_amount", "_law_most", "_law_found", "_law_turn", "_law_span"]
theorem sc_law_row : FnScope N_law_row ["_law_deal_here", "_law_amount", "_law_most"] (defScope s_law_row) := ⟨rfl, rfl, rfl, by decide +kernel, rfl, by decide +kernel, by decide +kernel⟩
abbrev s_law_at : Stmt := topS 34
abbrev N_law_at : List Str := ["_law_term", "_law_base", "_law_found", "_law_e"]
theorem sc_law_at : FnScope N_law_at ["_law_term", "_law_base"] (defScope s_law_at) := ⟨rfl, rfl, rfl, by decide +kernel, rfl, by decide +kernel, by decide +kernel⟩
abbrev s_law_refused : Stmt := topS 35
abbrev N_law_refused : List Str := ["_law_row_here", "_law_under", "_law_found", "_law_e"]
theorem sc_law_refused : FnScope N_law_refused ["_law_row_here", "_law_under"] (defScope s_law_refused) := ⟨rfl, rfl, rfl, by decide +kernel, rfl, by decide +kernel, by decide +kernel⟩
abbrev s_law : Stmt := topS 36
abbrev N_law : List Str := ["_law_script", "_law_deal_here", "_law_turn", "_law_row_here", "_law_under", "_law_factor", "_law_term", "_law_due", "_law_wide", "_law_small", "_law_is_near", "_law_other", "_law_is_one", "_law_again", "_law_span", "_law_way", "_law_base", "_law_value_here", "_law_number", "_law_odd", "_law_at_here", "_law_few", "_law_wrong", "_law_beneath", "_law_bad", "_law_one"]
theorem sc_law : FnScope N_law ["_law_script"] (defScope s_law) := ⟨rfl, rfl, rfl, by decide +kernel, rfl, by decide +kernel, by decide +kernel⟩
abbrev s_InvalidTerm_init : Stmt := inCls (topS 4) 0
abbrev N_InvalidTerm_init : List Str := ["self", "word"]
theorem sc_InvalidTerm_init : FnScope N_InvalidTerm_init ["self", "word"] (defScope s_InvalidTerm_init) := ⟨rfl, rfl, rfl, by decide +kernel, rfl, by decide +kernel, by decide +kernel⟩
abbrev s_Term_init : Stmt := inCls (topS 20) 0
abbrev N_Term_init : List Str := ["self", "over", "coefficients", "one"]
theorem sc_Term_init : FnScope N_Term_init ["self", "over", "coefficients"] (defScope s_Term_init) := ⟨rfl, rfl, rfl, by decide +kernel, rfl, by decide +kernel, by decide +kernel⟩
abbrev s_Term_degree : Stmt := inCls (topS 20) 1
abbrev N_Term_degree : List Str := ["self"]
theorem sc_Term_degree : FnScope N_Term_degree ["self"] (defScope s_Term_degree) := ⟨rfl, rfl, rfl, by decide +kernel, rfl, by decide +kernel, by decide +kernel⟩
abbrev s_Term_call : Stmt := inCls (topS 20) 5
abbrev N_Term_call : List Str := ["self", "base", "number"]
theorem sc_Term_call : FnScope N_Term_call ["self", "base"] (defScope s_Term_call) := ⟨rfl, rfl, rfl, by decide +kernel, rfl, by decide +kernel, by decide +kernel⟩
abbrev s_Term_eq : Stmt := inCls (topS 20) 14
abbrev N_Term_eq : List Str := ["self", "other"]
theorem sc_Term_eq : FnScope N_Term_eq ["self", "other"] (defScope s_Term_eq) := ⟨rfl, rfl, rfl, by decide +kernel, rfl, by decide +kernel, by decide +kernel⟩
end My
set_option Elab.async false
set_option linter.all false
/-! polynomials as lists of coefficients: zeros at the end taken away, lowest terms, products as loops -/
namespace My
def strip : List Int → List Int
  | [] => []
  | c :: cs => if strip cs = [] then (if c = 0 then [] else [c]) else c :: strip cs
theorem strip_cons_ne {c : Int} {cs : List Int} (h : strip cs ≠ []) : strip (c :: cs) = c :: strip cs := by rw [strip, if_neg h]
theorem strip_snoc0 : ∀ xs : List Int, strip (xs ++ [0]) = strip xs
  | [] => by simp [strip]
  | c :: cs => by rw [List.cons_append, strip, strip, strip_snoc0 cs]
theorem strip_snoc {c : Int} (h : c ≠ 0) : ∀ xs : List Int, strip (xs ++ [c]) = xs ++ [c]
  | [] => by simp [strip, h]
  | d :: ds => by
    have ih := strip_snoc h ds
    rw [List.cons_append, strip_cons_ne (by rw [ih]; simp), ih]
theorem strip_zeros (xs : List Int) : ∀ n : Nat, strip (xs ++ List.replicate n 0) = strip xs
  | 0 => by simp
  | n + 1 => by rw [List.replicate_succ', ← List.append_assoc, strip_snoc0, strip_zeros xs n]
theorem strip_len : ∀ xs : List Int, (strip xs).length ≤ xs.length
  | [] => by simp [strip]
  | c :: cs => by
    have := strip_len cs
    rw [strip]
    split
    · split <;> simp
    · simp; omega
theorem strip_mem {x : Int} : ∀ {xs : List Int}, x ∈ strip xs → x ∈ xs
  | [], h => by simp [strip] at h
  | c :: cs, h => by
    rw [strip] at h
    split at h
    · split at h
      · simp at h
      · simp at h; simp [h]
    · rcases List.mem_cons.mp h with rfl | h
      · simp
      · exact List.mem_cons_of_mem _ (strip_mem h)
theorem strip_strip : ∀ xs : List Int, strip (strip xs) = strip xs
  | [] => rfl
  | c :: cs => by
    have ih := strip_strip cs
    by_cases h : strip cs = []
    · rw [strip, if_pos h]
      split
      · rfl
      · rename_i hc
        simp [strip, hc]
    · rw [strip_cons_ne h, strip_cons_ne (by rw [ih]; exact h), ih]
/-- the end of a list that is stripped -/
theorem strip_last : ∀ {xs : List Int}, strip xs = xs → xs ≠ [] → ∃ ys c, xs = ys ++ [c] ∧ c ≠ 0
  | [], _, h => absurd rfl h
  | c :: cs, h, _ => by
    by_cases e : strip cs = []
    · rw [strip, if_pos e] at h
      split at h
      · cases h
      · rename_i hc
        cases h
        exact ⟨[], c, rfl, hc⟩
    · rw [strip_cons_ne e] at h
      obtain ⟨ys, d, e1, e2⟩ := strip_last (xs := cs) (List.cons.inj h).2 (fun z => by rw [z] at e; exact e rfl)
      exact ⟨c :: ys, d, by rw [e1]; rfl, e2⟩
/-- the common divisor, taken one by one -/
def share (o : Int) (cs : List Int) : Int := cs.foldl (fun g c => ((Nat.gcd g.natAbs c.natAbs : Nat) : Int)) o
theorem share_cons (o c : Int) (cs : List Int) : share o (c :: cs) = share ((Nat.gcd o.natAbs c.natAbs : Nat) : Int) cs := rfl
theorem share_snoc (o c : Int) (cs : List Int) : share o (cs ++ [c]) = ((Nat.gcd (share o cs).natAbs c.natAbs : Nat) : Int) := by
  unfold share
  rw [List.foldl_append]
  rfl
theorem gcd_pos {o : Int} (h : 1 ≤ o) (c : Int) : 1 ≤ ((Nat.gcd o.natAbs c.natAbs : Nat) : Int) := by
  have : 0 < Nat.gcd o.natAbs c.natAbs := Nat.gcd_pos_of_pos_left _ (by omega)
  omega
theorem gcd_le {o : Int} (h : 1 ≤ o) (c : Int) : ((Nat.gcd o.natAbs c.natAbs : Nat) : Int) ≤ o := by
  have : Nat.gcd o.natAbs c.natAbs ≤ o.natAbs := Nat.gcd_le_left _ (by omega)
  omega
theorem share_pos : ∀ {o : Int} (cs : List Int), 1 ≤ o → 1 ≤ share o cs
  | _, [], h => h
  | o, c :: cs, h => share_pos cs (gcd_pos h c)
theorem share_le : ∀ {o : Int} (cs : List Int), 1 ≤ o → share o cs ≤ o
  | _, [], h => Int.le_refl _
  | o, c :: cs, h => Int.le_trans (share_le cs (gcd_pos h c)) (gcd_le h c)
theorem share_one : ∀ cs : List Int, share 1 cs = 1
  | [] => rfl
  | c :: cs => by
    rw [share_cons]
    have : ((Nat.gcd (1 : Int).natAbs c.natAbs : Nat) : Int) = 1 := by
      show ((Nat.gcd 1 c.natAbs : Nat) : Int) = 1
      rw [Nat.gcd_one_left]
      rfl
    rw [this]
    exact share_one cs
theorem share_dvd : ∀ {o : Int} (cs : List Int), share o cs ∣ o ∧ ∀ c ∈ cs, share o cs ∣ c
  | o, [] => ⟨Int.dvd_refl _, fun c h => by cases h⟩
  | o, c :: cs => by
    obtain ⟨h1, h2⟩ := share_dvd (o := ((Nat.gcd o.natAbs c.natAbs : Nat) : Int)) cs
    have a : ((Nat.gcd o.natAbs c.natAbs : Nat) : Int) ∣ o := Int.dvd_natAbs.mp (Int.ofNat_dvd.mpr (Nat.gcd_dvd_left _ _))
    have b : ((Nat.gcd o.natAbs c.natAbs : Nat) : Int) ∣ c := Int.dvd_natAbs.mp (Int.ofNat_dvd.mpr (Nat.gcd_dvd_right _ _))
    refine ⟨Int.dvd_trans h1 a, fun d hd => ?_⟩
    rcases List.mem_cons.mp hd with rfl | hd
    · exact Int.dvd_trans h1 b
    · exact h2 d hd
/-- lowest terms -/
def lowO (o : Int) (cs : List Int) : Int := o / share o (strip cs)
def lowC (o : Int) (cs : List Int) : List Int := (strip cs).map (· / share o (strip cs))
theorem lowO_pos {o : Int} (h : 1 ≤ o) (cs : List Int) : 1 ≤ lowO o cs := by
  unfold lowO
  have h1 := share_pos (strip cs) h
  have h2 := share_le (strip cs) h
  exact (Int.le_ediv_iff_mul_le (by omega)).mpr (by omega)
theorem lowO_le {o : Int} (h : 1 ≤ o) (cs : List Int) : lowO o cs ≤ o := by
  unfold lowO
  have h1 := share_pos (strip cs) h
  exact Int.ediv_le_self _ (by omega)
theorem div_abs {c g : Int} (h : 1 ≤ g) : (c / g).natAbs ≤ c.natAbs := by
  have h1 := Int.mul_ediv_add_emod c g
  have h2 := Int.emod_nonneg c (b := g) (by omega)
  have h3 := Int.emod_lt_of_pos c (b := g) (by omega)
  by_cases hc : 0 ≤ c
  · have := Int.ediv_nonneg hc (show 0 ≤ g by omega)
    have := Int.ediv_le_self g hc
    omega
  · have a : c / g < 0 := Int.ediv_neg_of_neg_of_pos (by omega) (by omega)
    have b : c ≤ c / g := by
      refine (Int.le_ediv_iff_mul_le (by omega)).mpr ?_
      have := Int.mul_le_mul_of_nonpos_left (a := c) (show c ≤ 0 by omega) h
      omega
    omega
theorem lowC_len (o : Int) (cs : List Int) : (lowC o cs).length ≤ cs.length := by
  unfold lowC
  rw [List.length_map]
  exact strip_len cs
/-- all below a bound, without sign -/
def Bd (B : Nat) (cs : List Int) : Prop := ∀ c ∈ cs, c.natAbs ≤ B
theorem Bd.mono {A B : Nat} {cs : List Int} (h : Bd A cs) (k : A ≤ B) : Bd B cs := fun c hc => Nat.le_trans (h c hc) k
theorem lowC_bd {B : Nat} {o : Int} (h : 1 ≤ o) {cs : List Int} (k : Bd B cs) : Bd B (lowC o cs) := fun c hc => by
  unfold lowC at hc
  obtain ⟨d, hd, rfl⟩ := List.mem_map.mp hc
  exact Nat.le_trans (div_abs (share_pos (strip cs) h)) (k d (strip_mem hd))
end My
namespace My
/-- a polynomial: what its coefficients are divided by, and these -/
abbrev PM := Int × List Int
def lowM (o : Int) (cs : List Int) : PM := (lowO o cs, lowC o cs)
theorem lowM_of {o : Int} {xs ys : List Int} (h : strip xs = strip ys) : lowM o xs = lowM o ys := by unfold lowM lowO lowC; rw [h]
/-- small enough: at most n coefficients, all of it at most B -/
structure Sm (n B : Nat) (p : PM) : Prop where
  o1 : 1 ≤ p.1
  ob : p.1 ≤ B
  cb : Bd B p.2
  len : p.2.length ≤ n
theorem Sm.mono {n m A B : Nat} {p : PM} (h : Sm n A p) (hn : n ≤ m) (hB : A ≤ B) : Sm m B p := ⟨h.o1, by have := h.ob; omega, h.cb.mono hB, Nat.le_trans h.len hn⟩
theorem lowM_sm {n B : Nat} {o : Int} {cs : List Int} (o1 : 1 ≤ o) (ob : o ≤ B) (cb : Bd B cs) (hl : cs.length ≤ n) : Sm n B (lowM o cs) :=
  ⟨lowO_pos o1 cs, Int.le_trans (lowO_le o1 cs) ob, lowC_bd o1 cb, Nat.le_trans (lowC_len o cs) hl⟩
/-! ### sums -/
def pad (xs ys : List Int) : List Int := xs ++ List.replicate (ys.length - xs.length) 0
theorem pad_len (xs ys : List Int) : (pad xs ys).length = max xs.length ys.length := by
  unfold pad
  rw [List.length_append, List.length_replicate]
  omega
def addL (p q : Int) (xs ys : List Int) : List Int := List.zipWith (fun a c => a * p + c * q) (pad xs ys) (pad ys xs)
theorem addL_len (p q : Int) (xs ys : List Int) : (addL p q xs ys).length = max xs.length ys.length := by
  unfold addL
  rw [List.length_zipWith, pad_len, pad_len]
  omega
def addM (x y : PM) : PM := lowM (x.1 * y.1) (addL y.1 x.1 x.2 y.2)
def negM (x : PM) : PM := (x.1, x.2.map fun c => -c)
def subM (x y : PM) : PM := addM x (negM y)
theorem pad_neg (xs ys : List Int) : pad (ys.map fun c => -c) xs = (pad ys xs).map fun c => -c := by
  unfold pad
  rw [List.map_append, List.map_replicate, List.length_map]
  rfl
theorem pad_len2 (xs ys : List Int) : pad xs (ys.map fun c => -c) = pad xs ys := by
  unfold pad
  rw [List.length_map]
/-- the law's sum, by its way of taking the other one -/
def sumL (w p q : Int) (xs ys : List Int) : List Int := List.zipWith (fun a c => a * p + w * c * q) (pad xs ys) (pad ys xs)
theorem sumL_one (p q : Int) (xs ys : List Int) : sumL 1 p q xs ys = addL p q xs ys := by
  unfold sumL addL
  congr 1
  funext a c
  rw [Int.one_mul]
theorem sumL_neg (p q : Int) (xs ys : List Int) : sumL (-1) p q xs ys = addL p q xs (ys.map fun c => -c) := by
  unfold sumL addL
  rw [pad_neg, pad_len2, List.zipWith_map_right]
  congr 1
  funext a c
  rw [Int.neg_one_mul]
theorem bd_pad {B : Nat} {xs : List Int} (h : Bd B xs) (ys : List Int) : Bd B (pad xs ys) := fun c hc => by
  unfold pad at hc
  rcases List.mem_append.mp hc with hc | hc
  · exact h c hc
  · rw [List.eq_of_mem_replicate hc]; exact Nat.zero_le _
theorem bd_zip {A B C : Nat} {f : Int → Int → Int} (hf : ∀ a c, a.natAbs ≤ A → c.natAbs ≤ B → (f a c).natAbs ≤ C) : ∀ {xs ys : List Int}, Bd A xs → Bd B ys → Bd C (List.zipWith f xs ys)
  | [], _, _, _ => fun c hc => by simp at hc
  | _ :: _, [], _, _ => fun c hc => by simp at hc
  | x :: xs, y :: ys, h, k => fun c hc => by
    rw [List.zipWith_cons_cons] at hc
    rcases List.mem_cons.mp hc with rfl | hc
    · exact hf _ _ (h x (by simp)) (k y (by simp))
    · exact bd_zip hf (fun z hz => h z (List.mem_cons_of_mem _ hz)) (fun z hz => k z (List.mem_cons_of_mem _ hz)) c hc
theorem mul_abs {a b : Int} {A B : Nat} (h : a.natAbs ≤ A) (k : b.natAbs ≤ B) : (a * b).natAbs ≤ A * B := by
  rw [Int.natAbs_mul]
  exact Nat.mul_le_mul h k
theorem addL_bd {A B P Q : Nat} {p q : Int} {xs ys : List Int} (hp : p.natAbs ≤ P) (hq : q.natAbs ≤ Q) (h : Bd A xs) (k : Bd B ys) : Bd (A * P + B * Q) (addL p q xs ys) :=
  bd_zip (fun a c ha hc => by
    have h1 := mul_abs ha hp
    have h2 := mul_abs hc hq
    have := Int.natAbs_add_le (a * p) (c * q)
    omega) (bd_pad h ys) (bd_pad k xs)
theorem abs_le {i : Int} {B : Nat} (h0 : 1 ≤ i) (h : i ≤ B) : i.natAbs ≤ B := by omega
theorem mul_le_nat {i j : Int} {A B : Nat} (i1 : 1 ≤ i) (j1 : 1 ≤ j) (h : i ≤ A) (k : j ≤ B) : 1 ≤ i * j ∧ i * j ≤ ((A * B : Nat) : Int) := by
  have h1 : 0 < i * j := Int.mul_pos (by omega) (by omega)
  have h2 := mul_abs (abs_le i1 h) (abs_le j1 k)
  omega
theorem negM_sm {n B : Nat} {p : PM} (h : Sm n B p) : Sm n B (negM p) := ⟨h.o1, h.ob, fun c hc => by
  obtain ⟨d, hd, rfl⟩ := List.mem_map.mp hc
  rw [Int.natAbs_neg]
  exact h.cb d hd, by show (p.2.map fun c => -c).length ≤ n; rw [List.length_map]; exact h.len⟩
theorem addM_sm {n m A B : Nat} {x y : PM} (h : Sm n A x) (k : Sm m B y) : Sm (max n m) (2 * (A * B)) (addM x y) := by
  have hm := mul_le_nat h.o1 k.o1 h.ob k.ob
  refine lowM_sm hm.1 (by have := hm.2; omega) ((addL_bd (abs_le k.o1 k.ob) (abs_le h.o1 h.ob) h.cb k.cb).mono (by rw [Nat.mul_comm B A]; omega)) ?_
  rw [addL_len]
  have := h.len
  have := k.len
  omega
theorem subM_sm {n m A B : Nat} {x y : PM} (h : Sm n A x) (k : Sm m B y) : Sm (max n m) (2 * (A * B)) (subM x y) := addM_sm h (negM_sm k)
/-! ### products, as the loops make them -/
def rowL (a : Int) : Nat → List Int → List Int → List Int
  | _, [], f => f
  | k, y :: ys, f => rowL a (k + 1) ys (f.set k (f.getD k 0 + a * y))
def mulF : Nat → List Int → List Int → List Int → List Int
  | _, [], _, f => f
  | k, x :: xs, ys, f => mulF (k + 1) xs ys (rowL x k ys f)
theorem rowL_len (a : Int) : ∀ (k : Nat) (ys f : List Int), (rowL a k ys f).length = f.length
  | _, [], _ => rfl
  | k, y :: ys, f => by rw [rowL, rowL_len a (k + 1) ys, List.length_set]
theorem mulF_len : ∀ (k : Nat) (xs ys f : List Int), (mulF k xs ys f).length = f.length
  | _, [], _, _ => rfl
  | k, x :: xs, ys, f => by rw [mulF, mulF_len (k + 1) xs ys, rowL_len]
theorem rowL_snoc (a : Int) : ∀ (k : Nat) (ys : List Int) (y : Int) (f : List Int), rowL a k (ys ++ [y]) f = (rowL a k ys f).set (k + ys.length) ((rowL a k ys f).getD (k + ys.length) 0 + a * y)
  | k, [], y, f => by simp [rowL]
  | k, z :: ys, y, f => by
    rw [List.cons_append, rowL, rowL, rowL_snoc a (k + 1) ys y, List.length_cons]
    rw [show k + 1 + ys.length = k + (ys.length + 1) by omega]
theorem mulF_snoc : ∀ (k : Nat) (xs : List Int) (x : Int) (ys f : List Int), mulF k (xs ++ [x]) ys f = rowL x (k + xs.length) ys (mulF k xs ys f)
  | k, [], x, ys, f => by simp [mulF]
  | k, z :: xs, x, ys, f => by
    rw [List.cons_append, mulF, mulF, mulF_snoc (k + 1) xs x, List.length_cons]
    rw [show k + 1 + xs.length = k + (xs.length + 1) by omega]
theorem rowL_app (a : Int) (z : List Int) : ∀ (k : Nat) (ys f : List Int), k + ys.length ≤ f.length → rowL a k ys (f ++ z) = rowL a k ys f ++ z
  | _, [], _, _ => rfl
  | k, y :: ys, f, h => by
    rw [List.length_cons] at h
    have e1 : (f ++ z).getD k 0 = f.getD k 0 := by rw [List.getD_eq_getElem?_getD, List.getD_eq_getElem?_getD, List.getElem?_append_left (by omega)]
    have e2 : ∀ v, (f ++ z).set k v = f.set k v ++ z := fun v => by rw [List.set_append_left _ _ (by omega)]
    rw [rowL, rowL, e1, e2, rowL_app a z (k + 1) ys _ (by rw [List.length_set]; omega)]
theorem mulF_app (z : List Int) : ∀ (k : Nat) (xs ys f : List Int), k + xs.length + ys.length ≤ f.length → mulF k xs ys (f ++ z) = mulF k xs ys f ++ z
  | _, [], _, _, _ => rfl
  | k, x :: xs, ys, f, h => by
    rw [List.length_cons] at h
    rw [mulF, mulF, rowL_app x z k ys f (by omega), mulF_app z (k + 1) xs ys _ (by rw [rowL_len]; omega)]
theorem bd_set {B : Nat} {f : List Int} {k : Nat} {v : Int} (h : Bd B f) (hv : v.natAbs ≤ B) : Bd B (f.set k v) := fun c hc => by
  rcases List.mem_or_eq_of_mem_set hc with hc | rfl
  · exact h c hc
  · exact hv
theorem bd_getD {B : Nat} {f : List Int} (h : Bd B f) (k : Nat) : (f.getD k 0).natAbs ≤ B := by
  rw [List.getD_eq_getElem?_getD]
  cases e : f[k]? with
  | none => exact Nat.zero_le _
  | some c => exact h c (List.mem_of_getElem? e)
theorem rowL_bd {C : Nat} {a : Int} : ∀ {ys : List Int} (k : Nat) {B : Nat} {f : List Int}, (∀ y ∈ ys, (a * y).natAbs ≤ C) → Bd B f → Bd (B + ys.length * C) (rowL a k ys f)
  | [], _, B, f, _, h => by
    rw [rowL]
    exact h.mono (Nat.le_add_right _ _)
  | y :: ys, k, B, f, hy, h => by
    rw [rowL, List.length_cons, Nat.succ_mul]
    have hs : Bd (B + C) (f.set k (f.getD k 0 + a * y)) := bd_set (h.mono (Nat.le_add_right _ _)) (by
      have h1 := bd_getD h k
      have h2 := hy y (by simp)
      have := Int.natAbs_add_le (f.getD k 0) (a * y)
      omega)
    have := rowL_bd (ys := ys) (k + 1) (fun z hz => hy z (List.mem_cons_of_mem _ hz)) hs
    exact this.mono (by omega)
theorem mulF_bd {A B : Nat} {ys : List Int} (hy : Bd B ys) : ∀ {xs : List Int} (k : Nat) {D : Nat} {f : List Int}, Bd A xs → Bd D f → Bd (D + xs.length * (ys.length * (A * B))) (mulF k xs ys f)
  | [], _, D, f, _, h => by
    rw [mulF]
    exact h.mono (Nat.le_add_right _ _)
  | x :: xs, k, D, f, hx, h => by
    rw [mulF, List.length_cons, Nat.succ_mul]
    have h1 := rowL_bd (a := x) (C := A * B) (ys := ys) k (fun y hm => mul_abs (hx x (by simp)) (hy y hm)) h
    have := mulF_bd hy (xs := xs) (k + 1) (fun z hz => hx z (List.mem_cons_of_mem _ hz)) h1
    exact this.mono (by omega)
def mulZ (xs ys : List Int) : List Int := mulF 0 xs ys (List.replicate (xs.length + ys.length) 0)
theorem mulZ_more (xs ys : List Int) (n : Nat) : mulF 0 xs ys (List.replicate (xs.length + ys.length + n) 0) = mulZ xs ys ++ List.replicate n 0 := by
  rw [← List.replicate_append_replicate, mulF_app _ _ _ _ _ (by rw [List.length_replicate]; omega)]
  rfl
theorem mulZ_len (xs ys : List Int) : (mulZ xs ys).length = xs.length + ys.length := by
  unfold mulZ
  rw [mulF_len, List.length_replicate]
theorem mulZ_bd {A B : Nat} {xs ys : List Int} (h : Bd A xs) (k : Bd B ys) : Bd (xs.length * (ys.length * (A * B))) (mulZ xs ys) := by
  have := mulF_bd k (xs := xs) 0 (D := 0) (f := List.replicate (xs.length + ys.length) 0) h (fun c hc => by rw [List.eq_of_mem_replicate hc]; exact Nat.le_refl _)
  exact this.mono (by omega)
def mulM (x y : PM) : PM := lowM (x.1 * y.1) (mulZ x.2 y.2)
theorem mulM_sm {n m A B : Nat} {x y : PM} (h : Sm n A x) (k : Sm m B y) : Sm (n + m) ((n * m + 1) * (A * B)) (mulM x y) := by
  have hm := mul_le_nat h.o1 k.o1 h.ob k.ob
  have h1 : x.2.length * (y.2.length * (A * B)) ≤ (n * m + 1) * (A * B) := by
    rw [← Nat.mul_assoc]
    refine Nat.mul_le_mul_right _ ?_
    have := Nat.mul_le_mul h.len k.len
    omega
  have h2 : A * B ≤ (n * m + 1) * (A * B) := Nat.le_mul_of_pos_left _ (by omega)
  refine lowM_sm hm.1 (by have := hm.2; omega) ((mulZ_bd h.cb k.cb).mono h1) ?_
  rw [mulZ_len]
  have := h.len
  have := k.len
  omega
def powM (x : PM) : Nat → PM
  | 0 => (1, [1])
  | n + 1 => mulM (powM x n) x
/-! ### lowest terms of lowest terms -/
theorem div_zero_iff {c g : Int} (hg : 1 ≤ g) (hd : g ∣ c) : c / g = 0 ↔ c = 0 := by
  obtain ⟨k, rfl⟩ := hd
  rw [Int.mul_ediv_cancel_left _ (by omega)]
  constructor
  · rintro rfl; simp
  · intro h
    rcases Int.mul_eq_zero.mp h with h | h
    · omega
    · exact h
theorem strip_div {g : Int} (hg : 1 ≤ g) : ∀ {cs : List Int}, (∀ c ∈ cs, g ∣ c) → strip (cs.map (· / g)) = (strip cs).map (· / g)
  | [], _ => rfl
  | c :: cs, h => by
    have ih := strip_div hg (cs := cs) fun d hd => h d (List.mem_cons_of_mem _ hd)
    have hc := div_zero_iff hg (h c (by simp))
    rw [List.map_cons, strip, strip, ih]
    by_cases e : strip cs = []
    · rw [e]
      by_cases z : c = 0
      · simp [z]
      · simp [z, mt hc.mp z]
    · have e2 : (strip cs).map (· / g) ≠ [] := fun z => e (List.map_eq_nil_iff.mp z)
      rw [if_neg e2, if_neg e, List.map_cons]
theorem natAbs_div {c g : Int} (hg : 1 ≤ g) (hd : g ∣ c) : (c / g).natAbs = c.natAbs / g.natAbs := by
  obtain ⟨k, rfl⟩ := hd
  rw [Int.mul_ediv_cancel_left _ (by omega), Int.natAbs_mul, Nat.mul_div_cancel_left _ (by omega)]
theorem share_div {g : Int} (hg : 1 ≤ g) : ∀ {o : Int} {cs : List Int}, g ∣ o → (∀ c ∈ cs, g ∣ c) → share (o / g) (cs.map (· / g)) = share o cs / g
  | o, [], _, _ => rfl
  | o, c :: cs, ho, hc => by
    rw [List.map_cons, share_cons, share_cons]
    have e : ((Nat.gcd (o / g).natAbs (c / g).natAbs : Nat) : Int) = ((Nat.gcd o.natAbs c.natAbs : Nat) : Int) / g := by
      rw [natAbs_div hg ho, natAbs_div hg (hc c (by simp)), Nat.gcd_div (Int.natAbs_dvd_natAbs.mpr ho) (Int.natAbs_dvd_natAbs.mpr (hc c (by simp)))]
      obtain ⟨n, rfl⟩ := Int.eq_ofNat_of_zero_le (show 0 ≤ g by omega)
      rfl
    rw [e]
    have hd : g ∣ ((Nat.gcd o.natAbs c.natAbs : Nat) : Int) := by
      refine Int.natAbs_dvd.mp (Int.ofNat_dvd.mpr (Nat.dvd_gcd (Int.natAbs_dvd_natAbs.mpr ho) (Int.natAbs_dvd_natAbs.mpr (hc c (by simp)))))
    exact share_div hg hd fun d hd => hc d (List.mem_cons_of_mem _ hd)
/-- in lowest terms -/
structure Low (p : PM) : Prop where
  o1 : 1 ≤ p.1
  st : strip p.2 = p.2
  sh : share p.1 p.2 = 1
theorem lowM_low {o : Int} (h : 1 ≤ o) (cs : List Int) : Low (lowM o cs) := by
  have sp := share_pos (strip cs) h
  have sd := share_dvd (o := o) (strip cs)
  refine ⟨lowO_pos h cs, ?_, ?_⟩
  · show strip ((strip cs).map (· / share o (strip cs))) = (strip cs).map (· / share o (strip cs))
    rw [strip_div sp sd.2, strip_strip]
  · show share (o / share o (strip cs)) ((strip cs).map (· / share o (strip cs))) = 1
    rw [share_div sp sd.1 sd.2, Int.ediv_self (by omega)]
theorem Low.fix {p : PM} (h : Low p) : lowM p.1 p.2 = p := by
  unfold lowM lowO lowC
  rw [h.st, h.sh]
  simp
theorem low_int (k : Int) : lowM 1 [k] = (1, strip [k]) := by
  unfold lowM lowO lowC
  rw [share_one]
  simp
end My
namespace My
theorem addM_low {x y : PM} (hx : 1 ≤ x.1) (hy : 1 ≤ y.1) : Low (addM x y) := lowM_low (by have := Int.mul_pos (show 0 < x.1 by omega) (show 0 < y.1 by omega); omega) _
theorem mulM_low {x y : PM} (hx : 1 ≤ x.1) (hy : 1 ≤ y.1) : Low (mulM x y) := lowM_low (by have := Int.mul_pos (show 0 < x.1 by omega) (show 0 < y.1 by omega); omega) _
theorem one_low : Low (1, [1]) := ⟨by decide, by decide, by decide⟩
theorem powM_low {x : PM} (hx : 1 ≤ x.1) : ∀ n : Nat, Low (powM x n)
  | 0 => one_low
  | n + 1 => mulM_low (powM_low hx n).o1 hx
theorem subM_low {x y : PM} (hx : 1 ≤ x.1) (hy : 1 ≤ y.1) : Low (subM x y) := addM_low hx hy
theorem mulF_one (y : Int) : ∀ (k : Nat) (xs f : List Int), k + xs.length ≤ f.length → (∀ i, k ≤ i → f.getD i 0 = 0) → mulF k xs [y] f = f.take k ++ xs.map (· * y) ++ f.drop (k + xs.length)
  | k, [], f, _, _ => by simp [mulF]
  | k, x :: xs, f, h, hz => by
    rw [List.length_cons] at h
    have hk : k < f.length := by omega
    rw [mulF, rowL, rowL, hz k (Nat.le_refl _), Int.zero_add]
    rw [mulF_one y (k + 1) xs _ (by rw [List.length_set]; omega) (fun i hi => by
      rw [List.getD_eq_getElem?_getD, List.getElem?_set_ne (by omega), ← List.getD_eq_getElem?_getD]
      exact hz i (by omega))]
    have e1 : (f.set k (x * y)).take (k + 1) = f.take k ++ [x * y] := by
      rw [List.take_add_one, List.take_set_of_le (Nat.le_refl _), List.getElem?_set_self hk]
      rfl
    have e2 : (f.set k (x * y)).drop (k + 1 + xs.length) = f.drop (k + (xs.length + 1)) := by
      rw [List.drop_set_of_lt (by omega)]
      congr 1
      omega
    rw [e1, e2, List.map_cons, List.length_cons]
    simp
theorem mulZ_one (xs : List Int) (y : Int) : mulZ xs [y] = xs.map (· * y) ++ [0] := by
  unfold mulZ
  rw [mulF_one y 0 xs _ (by rw [List.length_replicate]; simp) (fun i _ => by
    rw [List.getD_eq_getElem?_getD, List.getElem?_replicate]
    split <;> rfl)]
  rw [List.take_zero, List.nil_append, List.length_singleton, Nat.zero_add, List.drop_replicate]
  congr 1
  rw [show xs.length + 1 - xs.length = 1 by omega]
  rfl
/-- with the other sign: as the law's product by -1 -/
theorem neg_mul (x : PM) : lowM x.1 (negM x).2 = mulM x (1, [-1]) := by
  unfold mulM
  rw [mulZ_one, Int.mul_one]
  refine lowM_of ?_
  rw [strip_snoc0]
  show strip (x.2.map fun c => -c) = _
  congr 1
  refine List.map_congr_left fun c _ => ?_
  rw [Int.mul_neg, Int.mul_one]
end My
set_option Elab.async false
set_option linter.all false
set_option maxRecDepth 100000
set_option maxHeartbeats 4000000
/-! a tuple, times once and times more -/
namespace My
open PySem PySem.Spec PyProof.Rows L2 Evl
theorem tupMul1 (l : Addr) (items : Array Value) (n : Nat) (dd : Option Addr) (sl : Array (Option Value)) (u : Tok) :
    Meets (Builtin.«tuple.__mul__» ⟨[.ref l, .int 1 u], []⟩) (fun _ R s => s.heap.get? l = some { cls := .type "tuple", dict := dd, data := .seq items n, slots := sl } ∧ R (.ok (.ret (.ref l))) s) :=
  .of_wp fun prog w A R s h => by
    obtain ⟨hp, g, d, tk, os⟩ := s
    obtain ⟨hl, h⟩ := h
    have f1 := AutoSeq1.idx_int
    wp_walk using wpAny_loadPart' hl
    repeat (first
      | (refine wpAny_ite_false (decide_eq_false (by decide)) ?_; wp_walk using wpAny_loadPart' hl)
      | (refine wpAny_ite_true (decide_eq_true (by simp)) ?_; wp_walk using wpAny_loadPart' hl))
    exact ⟨_, rfl, h⟩
section
variable {X : Cx}
/-- a tuple times k: itself once, a new one more often -/
def rRepT1 (K : PySem.W.Frag) : R2 := fun x y H Q => ∃ l k xs, x = .ref l ∧ y = .int k ∧ SqT K H l xs ∧ ((k = 1 ∧ Q (.ref l) H) ∨ (xs ≠ [] ∧ 2 ≤ k ∧ k ≤ 1000 ∧ xs.length ≤ 1000 ∧ ∀ p, H p = none → Q (.ref p) (upd H p (.tup (List.replicate k.toNat xs).flatten))))
theorem op_repT1 : OpR X (binaryOp .Mult) (rRepT1 X.K) := by
  intro pins s σ H x y v u Q I rx ry h
  obtain ⟨l, k, xs, rfl, rfl, hT, h⟩ := h
  rcases h with ⟨rfl, q⟩ | ⟨h1, h2, h3, h4, q⟩
  · cases rx
    obtain ⟨t, rfl⟩ := ry
    obtain ⟨its, r, ⟨⟨cls, dd, data, sl⟩, ho, hc, n, hd⟩, hs⟩ := I.tuple hT
    simp only at hc hd
    subst hc hd
    exact wpAny_binaryOp_repeat_ref (T := "tuple") (U := "int") (by decide) ⟨_, ho, rfl⟩ (fun s' => typeIs_int s' 1 t) noFill_tuple_mul F.fills_int_mul F.slot_int_rmul repeat_tuple F.slot_int_index.lookup
      (call_meets F.slot_int_rmul (typeIs_int s 1 t) F.entry_int_rmul (F.args_int_rmul_2 _ _) (int_rmul_tuple 1 t l its.toArray n dd sl)
        ⟨ho, rfl, ⟨_, ho, rfl⟩, call_meets F.slot_tuple_mul ⟨_, ho, rfl⟩ F.entry_tuple_mul (F.args_tuple_mul_2 _ _) (tupMul1 l its.toArray n dd sl t) ⟨ho, .ref l, H, I, rfl, q⟩⟩)
  · exact op_repT pins s σ H _ _ v u Q I rx ry ⟨_, _, _, rfl, rfl, hT, h1, h2, h3, h4, q⟩
theorem op_in_kdE {d : Addr} (D : ∃ es n, KDict X.K X.w d es n) : OpR X (compareOp .In) (fun x y H Q => ∃ (z : Str) (r : Option Value), x = .str z ∧ y = .ref d ∧ PySem.W.nsIn X.K d z = some r ∧ Q (.bl r.isSome) H) := by
  obtain ⟨es, n, D⟩ := D
  exact op_in_kd D
theorem op_notIn_kdE {d : Addr} (D : ∃ es n, KDict X.K X.w d es n) : OpR X (compareOp .NotIn) (fun x y H Q => ∃ (z : Str) (r : Option Value), x = .str z ∧ y = .ref d ∧ PySem.W.nsIn X.K d z = some r ∧ Q (.bl (!r.isSome)) H) := by
  obtain ⟨es, n, D⟩ := D
  exact op_notIn_kd D
end
/-- two tuples side by side -/
theorem walk_zipT {K : PySem.W.Frag} {a b : Addr} {xs ys : List V} {n : Nat} (hn : n = min xs.length ys.length) : Walk (RZ.ItzT K a b) n (fun H => SqT K H a xs ∧ SqT K H b ys) (YPair (fun i => xs[i]?) (fun i => ys[i]?)) := by
  subst hn
  refine ⟨fun i H hi h => ?_, fun H h => ⟨xs, ys, h.1, h.2, by omega⟩, fun i H v H' hi h y => ?_⟩
  · have l1 : i < xs.length := by omega
    have l2 : i < ys.length := by omega
    exact ⟨xs, ys, xs[i], ys[i], h.1, h.2, List.getElem?_eq_getElem l1, List.getElem?_eq_getElem l2⟩
  · obtain ⟨T, x, z, e1, e2, e3, e4, e5⟩ := y
    exact ⟨T, x, z, e1, e2, e3, e4 xs h.1, e5 ys h.2⟩
end My
set_option maxRecDepth 10000
set_option exponentiation.threshold 5000
/-! the mathematics of figures -/
namespace My
theorem div_lt {n b : Int} (hb : 2 ≤ b) (hn : 0 < n) : n / b < n := by
  refine Int.ediv_lt_of_lt_mul (by omega) ?_
  have h := Int.mul_le_mul_of_nonneg_left hb (Int.le_of_lt hn)
  omega
theorem div_nn {n b : Int} (hb : 2 ≤ b) (hn : 0 ≤ n) : 0 ≤ n / b := Int.ediv_nonneg hn (by omega)
theorem mod_nn {n b : Int} (hb : 2 ≤ b) : 0 ≤ n % b := Int.emod_nonneg n (by omega)
theorem mod_lt {n b : Int} (hb : 2 ≤ b) : n % b < b := Int.emod_lt_of_pos n (by omega)
theorem div_pos_iff {n b : Int} (hb : 2 ≤ b) (hn : 0 ≤ n) : 0 < n / b ↔ b ≤ n := by
  constructor
  · intro h
    by_cases hlt : n < b
    · rw [Int.ediv_eq_zero_of_lt hn hlt] at h; omega
    · omega
  · intro h
    have h1 : 1 ≤ n / b := (Int.le_ediv_iff_mul_le (by omega)).mpr (by omega)
    omega
/-- the figures, the last one first -/
def digs (b n : Int) : List Int :=
  if h : 2 ≤ b ∧ b ≤ n then n % b :: digs b (n / b) else [n]
termination_by n.toNat
decreasing_by
  have := div_lt h.1 (show 0 < n by omega)
  have := div_nn h.1 (show 0 ≤ n by omega)
  omega
theorem digs_ge {b n : Int} (hb : 2 ≤ b) (h : b ≤ n) : digs b n = n % b :: digs b (n / b) := by
  rw [digs]; rw [dif_pos ⟨hb, h⟩]
theorem digs_lt {b n : Int} (h : n < b) : digs b n = [n] := by
  rw [digs]; rw [dif_neg (by omega)]
/-- an induction over the figures -/
theorem digs_ind {b : Int} (hb : 2 ≤ b) {P : Int → Prop} (h0 : ∀ n, 0 ≤ n → n < b → P n) (h1 : ∀ n, b ≤ n → P (n / b) → P n) : ∀ n, 0 ≤ n → P n := by
  have key : ∀ k : Nat, ∀ n : Int, 0 ≤ n → n.toNat ≤ k → P n := by
    intro k
    induction k with
    | zero => intro n hn hk; exact h0 n hn (by omega)
    | succ k ih =>
      intro n hn hk
      by_cases h : b ≤ n
      · have a1 := div_lt hb (show 0 < n by omega)
        have a2 := div_nn hb hn
        exact h1 n h (ih _ a2 (by omega))
      · exact h0 n hn (by omega)
  exact fun n hn => key n.toNat n hn (Nat.le_refl _)
def figs (b n : Int) : List Int := (digs b n).reverse
theorem digs_mem {b : Int} (hb : 2 ≤ b) : ∀ n, 0 ≤ n → ∀ x ∈ digs b n, 0 ≤ x ∧ x < b :=
  digs_ind hb (fun n h0 h x hx => by
    rw [digs_lt h] at hx
    have := List.mem_singleton.mp hx
    omega) (fun n h ih x hx => by
    rw [digs_ge hb h] at hx
    rcases List.mem_cons.mp hx with e | hx
    · subst e; exact ⟨mod_nn hb, mod_lt hb⟩
    · exact ih x hx)
theorem figs_mem {b : Int} (hb : 2 ≤ b) {n : Int} (hn : 0 ≤ n) : ∀ x ∈ figs b n, 0 ≤ x ∧ x < b := fun x hx =>
  digs_mem hb n hn x (List.mem_reverse.mp hx)
theorem digs_sum {b : Int} (hb : 2 ≤ b) : ∀ n, 0 ≤ n → 0 ≤ (digs b n).sum ∧ (digs b n).sum ≤ n :=
  digs_ind hb (fun n h0 h => by rw [digs_lt h]; simp; omega) (fun n h ih => by
    rw [digs_ge hb h, List.sum_cons]
    have e := Int.emod_add_mul_ediv n b
    have q0 := div_nn hb (show 0 ≤ n by omega)
    have m := Int.mul_le_mul_of_nonneg_right hb q0
    have r0 := mod_nn (n := n) hb
    omega)
theorem sum_rev (l : List Int) : l.reverse.sum = l.sum := by
  induction l with
  | nil => rfl
  | cons a l ih => rw [List.reverse_cons, List.sum_append, List.sum_cons, ih]; simp; omega
theorem figs_sum {b : Int} (hb : 2 ≤ b) {n : Int} (hn : 0 ≤ n) : 0 ≤ (figs b n).sum ∧ (figs b n).sum ≤ n := by
  unfold figs; rw [sum_rev]; exact digs_sum hb n hn
theorem figs_sum_lt {b : Int} (hb : 2 ≤ b) {n : Int} (h : b ≤ n) : (figs b n).sum < n := by
  unfold figs; rw [sum_rev, digs_ge hb h, List.sum_cons]
  have e := Int.emod_add_mul_ediv n b
  have q0 := (div_pos_iff hb (show 0 ≤ n by omega)).mpr h
  have m := Int.mul_le_mul_of_nonneg_right hb (Int.le_of_lt q0)
  have s := (digs_sum hb (n / b) (by omega)).2
  omega
theorem figs_one {b n : Int} (h : n < b) : (figs b n).sum = n := by
  unfold figs; rw [digs_lt h]; simp
theorem digs_len {b : Int} (hb : 2 ≤ b) : ∀ n, 0 ≤ n → ∀ k : Nat, n < 2 ^ k → (digs b n).length ≤ k + 1 := by
  refine digs_ind hb (fun n h0 h k hk => ?_) (fun n h ih k hk => ?_)
  · rw [digs_lt h]; simp
  · rw [digs_ge hb h, List.length_cons]
    cases k with
    | zero => simp at hk; omega
    | succ k =>
      have : n / b < 2 ^ k := by
        refine Int.ediv_lt_of_lt_mul (by omega) ?_
        have m := Int.mul_le_mul_of_nonneg_left hb (show (0 : Int) ≤ 2 ^ k from Int.le_of_lt (Int.pow_pos (by decide)))
        rw [Int.pow_succ] at hk
        omega
      have := ih k this
      omega
theorem figs_len {b : Int} (hb : 2 ≤ b) {n : Int} (hn : 0 ≤ n) {k : Nat} (h : n < 2 ^ k) : (figs b n).length ≤ k + 1 := by
  unfold figs; rw [List.length_reverse]; exact digs_len hb n hn k h
/-- the number with these figures -/
def written (b : Int) (l : List Int) : Int := l.foldl (fun a x => a * b + x) 0
end My
namespace My
/-- the root: sums of figures until there is one -/
def rootN (b n : Int) : Int := if h : 2 ≤ b ∧ b ≤ n then rootN b (figs b n).sum else n
termination_by n.toNat
decreasing_by
  have := figs_sum_lt h.1 h.2
  have := (figs_sum h.1 (show 0 ≤ n by omega)).1
  omega
theorem rootN_ge {b n : Int} (hb : 2 ≤ b) (h : b ≤ n) : rootN b n = rootN b (figs b n).sum := by
  rw [rootN, dif_pos ⟨hb, h⟩]
theorem rootN_lt {b n : Int} (h : n < b) : rootN b n = n := by
  rw [rootN, dif_neg (by omega)]
theorem rootN_sum {b n : Int} (hb : 2 ≤ b) : rootN b (figs b n).sum = rootN b n := by
  by_cases h : b ≤ n
  · exact (rootN_ge hb h).symm
  · rw [figs_one (by omega)]
theorem rootN_bd {b : Int} (hb : 2 ≤ b) : ∀ k : Nat, ∀ n : Int, n.toNat ≤ k → 0 ≤ n → 0 ≤ rootN b n ∧ rootN b n ≤ n
  | 0, n, hk, hn => by
    rw [rootN_lt (by omega)]; omega
  | k + 1, n, hk, hn => by
    by_cases h : b ≤ n
    · have a := figs_sum_lt hb h
      have c := (figs_sum hb hn).1
      have d := rootN_bd hb k (figs b n).sum (by omega) c
      rw [rootN_ge hb h]; omega
    · rw [rootN_lt (by omega)]; omega
theorem rootN_le {b n : Int} (hb : 2 ≤ b) (hn : 0 ≤ n) : 0 ≤ rootN b n ∧ rootN b n ≤ n := rootN_bd hb n.toNat n (Nat.le_refl _) hn
end My
namespace My
theorem written_snoc (b : Int) (l : List Int) (x : Int) : written b (l ++ [x]) = written b l * b + x := by
  unfold written; rw [List.foldl_append]; rfl
theorem written_bd {b : Int} (hb : 1 ≤ b) (l : List Int) : (∀ x ∈ l, 0 ≤ x ∧ x < b) → 0 ≤ written b l ∧ written b l < b ^ l.length := by
  intro h
  have key : ∀ k : Nat, k ≤ l.length → 0 ≤ written b (l.take k) ∧ written b (l.take k) < b ^ k := by
    intro k
    induction k with
    | zero => intro _; simp [written]
    | succ k ih =>
      intro hk
      have hx : k < l.length := by omega
      have e : l.take (k + 1) = l.take k ++ [l[k]] := by rw [List.take_add_one, List.getElem?_eq_getElem hx]; rfl
      have i := ih (by omega)
      have m := h l[k] (List.getElem_mem hx)
      rw [e, written_snoc, Int.pow_succ]
      have a1 := Int.mul_nonneg i.1 (show 0 ≤ b by omega)
      have a2 := Int.mul_le_mul_of_nonneg_right (show written b (l.take k) + 1 ≤ b ^ k by omega) (show 0 ≤ b by omega)
      rw [Int.add_mul] at a2
      omega
  have := key l.length (Nat.le_refl _)
  rw [List.take_length] at this
  exact this
theorem take_snoc {l : List Int} {i : Nat} {x : Int} (h : l[i]? = some x) : l.take (i + 1) = l.take i ++ [x] := by
  rw [List.take_add_one, h]; rfl
theorem pow_le_of {b : Int} (hb : 2 ≤ b) (k : Nat) : (2 : Int) ^ k ≤ b ^ k := by
  induction k with
  | zero => simp
  | succ k ih =>
    rw [Int.pow_succ, Int.pow_succ]
    have p : (0 : Int) ≤ 2 ^ k := Int.le_of_lt (Int.pow_pos (by decide))
    have a := Int.mul_le_mul_of_nonneg_left hb p
    have c := Int.mul_le_mul_of_nonneg_right ih (show 0 ≤ b by omega)
    omega
theorem pow_mono {b : Int} (hb : 1 ≤ b) {i j : Nat} (h : i ≤ j) : b ^ i ≤ b ^ j := by
  induction j with
  | zero => have : i = 0 := by omega
            subst this; exact Int.le_refl _
  | succ j ih =>
    by_cases e : i = j + 1
    · subst e; exact Int.le_refl _
    · have a := ih (by omega)
      have p : (0 : Int) < b ^ j := Int.pow_pos (by omega)
      rw [Int.pow_succ]
      have c := Int.mul_le_mul_of_nonneg_left hb (Int.le_of_lt p)
      omega
theorem pow_small {k n : Nat} (h : (2 : Int) ^ k < 2 ^ n) : k < n := by
  by_cases e : k < n
  · exact e
  · have := pow_mono (b := 2) (by decide) (show n ≤ k by omega)
    omega
end My
namespace My
theorem figs27 : (figs 2 7).sum = 3 := by
  unfold figs; rw [sum_rev, digs_ge (by decide) (by decide), digs_ge (by decide) (by decide), digs_lt (by decide)]; decide
theorem figs23 : (figs 2 3).sum = 2 := by
  unfold figs; rw [sum_rev, digs_ge (by decide) (by decide), digs_lt (by decide)]; decide
theorem figs22 : (figs 2 2).sum = 1 := by
  unfold figs; rw [sum_rev, digs_ge (by decide) (by decide), digs_lt (by decide)]; decide
theorem root27 : rootN 2 7 = 1 := by
  rw [rootN_ge (by decide) (by decide), figs27, rootN_ge (by decide) (by decide), figs23, rootN_ge (by decide) (by decide), figs22, rootN_lt (by decide)]
end My
namespace My
theorem digs_ne (b n : Int) : digs b n ≠ [] := by
  rw [digs]; split <;> simp
theorem figs_ne (b n : Int) : figs b n ≠ [] := by
  unfold figs; intro h; exact digs_ne b n (List.reverse_eq_nil_iff.mp h)
theorem figs_pos (b n : Int) : 0 < (figs b n).length := List.length_pos_iff.mpr (figs_ne b n)
/-- b to the number of figures is at most b times the number, or b -/
theorem digs_pow {b : Int} (hb : 2 ≤ b) : ∀ n, 0 ≤ n → b ^ (digs b n).length ≤ b * n ∨ ((digs b n).length = 1 ∧ n < b) := by
  refine digs_ind hb (fun n h0 h => .inr ⟨by rw [digs_lt h]; rfl, h⟩) (fun n h ih => .inl ?_)
  rw [digs_ge hb h, List.length_cons, Int.pow_succ]
  have q1 := (div_pos_iff hb (show 0 ≤ n by omega)).mpr h
  have e := Int.emod_add_mul_ediv n b
  have r0 := mod_nn (n := n) hb
  have key : b ^ (digs b (n / b)).length ≤ b * (n / b) := by
    rcases ih with h1 | ⟨h1, _⟩
    · exact h1
    · rw [h1, Int.pow_succ, Int.pow_zero, Int.one_mul]
      have := Int.mul_le_mul_of_nonneg_left (show 1 ≤ n / b by omega) (show 0 ≤ b by omega)
      omega
  have a := Int.mul_le_mul_of_nonneg_right key (show 0 ≤ b by omega)
  have c := Int.mul_le_mul_of_nonneg_left (show b * (n / b) ≤ n by omega) (show 0 ≤ b by omega)
  rw [Int.mul_comm b (b * (n / b))] at c
  omega
theorem figs_pow {b n : Int} (hb : 2 ≤ b) (hn : 0 ≤ n) : b ^ (figs b n).length ≤ b * n ∨ ((figs b n).length = 1 ∧ n < b) := by
  unfold figs; rw [List.length_reverse]; exact digs_pow hb n hn
theorem figs_bound {b n B : Int} (hb : 2 ≤ b) (hn : 0 ≤ n) (h1 : b * n ≤ B) (h2 : b ≤ B) : b ^ (figs b n).length ≤ B := by
  rcases figs_pow hb hn with h | ⟨h, _⟩
  · omega
  · rw [h, Int.pow_succ, Int.pow_zero, Int.one_mul]; exact h2
/-- the k-th figure from behind -/
def figAt (b n : Int) (k : Nat) : Int := if k < (figs b n).length then (figs b n).getD ((figs b n).length - 1 - k) 0 else 0
end My
namespace My
theorem figs_small {b n : Int} (h : n < b) : figs b n = [n] := by unfold figs; rw [digs_lt h]; rfl
end My
namespace My
theorem fig_lens {b n : Int} (n0 : 0 ≤ n) (n1 : n < 2 ^ 240) (b0 : 2 ≤ b) (b1 : b < 2 ^ 110) : (figs b n).length ≤ 241 ∧ b ^ (figs b n).length ≤ 2 ^ 350 := by
  refine ⟨figs_len b0 n0 (k := 240) n1, figs_bound b0 n0 ?_ (by omega)⟩
  have a := Int.mul_le_mul (show b ≤ 2 ^ 110 by omega) (show n ≤ 2 ^ 240 by omega) n0 (by decide)
  exact Int.le_trans a (by decide)
theorem part_ok {b n : Int} (n0 : 0 ≤ n) (n1 : n < 2 ^ 240) (b0 : 2 ≤ b) (b1 : b < 2 ^ 110) {xs : List Int} (hm : ∀ x ∈ xs, x ∈ figs b n) (hl : xs.length ≤ (figs b n).length) :
    (∀ x ∈ xs, 0 ≤ x ∧ x < b) ∧ xs.length ≤ 1000 ∧ b ^ xs.length ≤ 2 ^ 800 := by
  obtain ⟨a, c⟩ := fig_lens n0 n1 b0 b1
  have d := pow_mono (b := b) (by omega) hl
  exact ⟨fun x hx => figs_mem b0 n0 x (hm x hx), by omega, by omega⟩
theorem two_ok {b n o : Int} (n0 : 0 ≤ n) (n1 : n < 2 ^ 240) (o0 : 0 ≤ o) (o1 : o < 2 ^ 240) (b0 : 2 ≤ b) (b1 : b < 2 ^ 110) :
    (∀ x ∈ figs b n ++ figs b o, 0 ≤ x ∧ x < b) ∧ (figs b n ++ figs b o).length ≤ 1000 ∧ b ^ (figs b n ++ figs b o).length ≤ 2 ^ 800 := by
  obtain ⟨a1, a2⟩ := fig_lens n0 n1 b0 b1
  obtain ⟨c1, c2⟩ := fig_lens o0 o1 b0 b1
  refine ⟨fun x hx => ?_, by rw [List.length_append]; omega, ?_⟩
  · rcases List.mem_append.mp hx with hx | hx
    · exact figs_mem b0 n0 x hx
    · exact figs_mem b0 o0 x hx
  · rw [List.length_append, Int.pow_add]
    have p : (0 : Int) < b ^ (figs b o).length := Int.pow_pos (by omega)
    exact Int.le_trans (Int.mul_le_mul a2 c2 (Int.le_of_lt p) (by decide)) (by decide)
/-- the list in ascending order -/
def asc (l : List Int) : List Int := l.mergeSort
theorem asc_perm (l : List Int) : (asc l).Perm l := List.mergeSort_perm l _
theorem asc_sorted (l : List Int) : (asc l).Pairwise (· ≤ ·) := by
  have h := List.pairwise_mergeSort (le := fun a b : Int => decide (a ≤ b)) (fun a b c h1 h2 => decide_eq_true (Int.le_trans (of_decide_eq_true h1) (of_decide_eq_true h2)))
    (fun a b => by rcases Int.le_total a b with h | h <;> simp [h]) l
  exact h.imp fun h => of_decide_eq_true h
theorem sorted_eq : ∀ {l m : List Int}, l.Perm m → l.Pairwise (· ≤ ·) → m.Pairwise (· ≤ ·) → l = m := fun h a b =>
  h.eq_of_pairwise (fun _ _ _ _ => Int.le_antisymm) a b
theorem eq_asc {l m : List Int} (h : l.Perm m) (s : l.Pairwise (· ≤ ·)) : l = asc m :=
  sorted_eq (h.trans (asc_perm m).symm) s (asc_sorted m)
theorem eq_desc {l m : List Int} (h : l.Perm m) (s : l.Pairwise (· ≥ ·)) : l = (asc m).reverse := by
  have h2 : l.reverse = asc m := eq_asc ((List.reverse_perm l).trans h) (List.pairwise_reverse.mpr s)
  rw [← h2, List.reverse_reverse]
theorem asc_mem {l : List Int} {x : Int} (h : x ∈ asc l) : x ∈ l := (asc_perm l).mem_iff.mp h
theorem asc_len (l : List Int) : (asc l).length = l.length := (asc_perm l).length_eq
/-- as many unlike things as things: all are unlike -/
theorem nodup_of_len {α : Type} [DecidableEq α] : ∀ (K ns : List α), K.Nodup → (∀ k ∈ K, k ∈ ns) → K.length = ns.length → (∀ x ∈ ns, x ∈ K) ∧ ns.Nodup
  | [], ns, _, _, h => by
    have : ns = [] := List.length_eq_zero_iff.mp h.symm
    subst this
    exact ⟨fun x hx => (by cases hx), List.nodup_nil⟩
  | k :: K, ns, nd, hs, h => by
    have hk := hs k (List.mem_cons_self ..)
    have nd2 := List.nodup_cons.mp nd
    have ih := nodup_of_len K (ns.erase k) nd2.2 (fun x hx => (List.mem_erase_of_ne (fun (e : x = k) => nd2.1 (e ▸ hx))).mpr (hs x (List.mem_cons_of_mem _ hx))) (by
      rw [List.length_erase_of_mem hk]
      rw [List.length_cons] at h
      omega)
    have p := List.perm_cons_erase hk
    have hnot : k ∉ ns.erase k := fun hh => nd2.1 (ih.1 k hh)
    refine ⟨fun x hx => ?_, p.nodup_iff.mpr (List.nodup_cons.mpr ⟨hnot, ih.2⟩)⟩
    rcases List.mem_cons.mp (p.mem_iff.mp hx) with e | hx
    · exact e ▸ List.mem_cons_self ..
    · exact List.mem_cons_of_mem _ (ih.1 x hx)
theorem nodup_le {α : Type} [DecidableEq α] : ∀ (K ns : List α), K.Nodup → (∀ k ∈ K, k ∈ ns) → K.length ≤ ns.length
  | [], _, _, _ => Nat.zero_le _
  | k :: K, ns, nd, hs => by
    have hk := hs k (List.mem_cons_self ..)
    have nd2 := List.nodup_cons.mp nd
    have ih := nodup_le K (ns.erase k) nd2.2 (fun x hx => (List.mem_erase_of_ne (fun (e : x = k) => nd2.1 (e ▸ hx))).mpr (hs x (List.mem_cons_of_mem _ hx)))
    rw [List.length_erase_of_mem hk] at ih
    have := List.length_pos_of_mem hk
    rw [List.length_cons]
    omega
end My
namespace My
theorem pow_left {b c : Int} (h0 : 0 ≤ b) (h : b ≤ c) (k : Nat) : b ^ k ≤ c ^ k := by
  induction k with
  | zero => simp
  | succ k ih =>
    rw [Int.pow_succ, Int.pow_succ]
    have p : (0 : Int) ≤ b ^ k := Int.pow_nonneg h0
    exact Int.mul_le_mul ih h h0 (Int.le_trans p ih)
theorem digs_eq_rev (b n : Int) : (figs b n).reverse = digs b n := by unfold figs; rw [List.reverse_reverse]
end My
namespace My
theorem nodup_snoc {α : Type} {l : List α} {x : α} : (l ++ [x]).Nodup ↔ l.Nodup ∧ x ∉ l := by
  rw [(List.perm_append_comm (l₁ := l) (l₂ := [x])).nodup_iff, List.singleton_append, List.nodup_cons]
  exact And.comm
end My
set_option Elab.async false
set_option linter.all false
set_option maxRecDepth 100000
set_option maxHeartbeats 4000000
/-! len(set(t)) of a tuple of ints -/
namespace My
open PySem PySem.Spec PyProof.Rows L2 Evl
section
variable {X : Cx}
/-- c is how many unlike ones there are: all that is said of it is whether all are unlike -/
def tUnl (K : PySem.W.Frag) (ta : TE) : TE := fun σ H Q => ta σ H fun x H1 => ∃ (a : Addr) (ns : List Int), x = .ref a ∧ SqT K H1 a (ns.map V.int) ∧ ns.length ≤ 4000 ∧ ∀ c : Nat, c ≤ ns.length → (c = ns.length ↔ ns.Nodup) → Q (.int (c : Int)) H1
theorem pe_lenSetT {a : Expr} {ta : TE} {p p2 q pos : Pos} (hg : Gl X "len") (hm : X.mg "len" = none) (hg2 : Gl X "set") (hm2 : X.mg "set" = none) (ha : PE X a ta) (hc : X.calm = true := by rfl)
    (na : starEach [a] X.env = (false, eval a X.env) :: starEach [] X.env := by rfl) : PE X (.Call (.Name "len" p) [.Call (.Name "set" p2) [a] [] q] [] pos) (tUnl X.K ta) := by
  refine ⟨fun pins s σ H Q I h => Call_ (ld_blt I hg hm boot_len (callWith_builtin1 (args_cons (Call_ (ld_blt I hg2 hm2 boot_set ?_)) rfl) rfl rfl))⟩
  refine callWith_type1 (args_cons (thn (ha.run pins s σ H _ I h) fun v s1 ⟨x, H1, I1, r1, q1⟩ => args_nil ?_) na) na rfl
  obtain ⟨t, ns, rfl, hq, hl, q1⟩ := q1
  cases r1
  obtain ⟨its, r, pl, hz⟩ := I1.tuple hq
  have hi : IntsAre its.toArray.toList ns := by simpa using RZ.intsAre_vals r
  refine call_set_tupI ns (I1.ok.hd hc) pl hi (by unfold scanBound; omega) fun h' tk c hS hcl hk => args_nil ?_
  have I2 : Inv X pins σ H1 { s1 with heap := h', toks := tk } := I1.kept hk
  obtain ⟨o, es, ep, t2, ho, hex, hd, hgood, nd, mem, hb, hf, hn, _⟩ := hS
  have hlen : (es.toList.map keyOf).length = c := by rw [List.length_map, Array.length_toList]; exact hn
  have sub : ∀ k ∈ es.toList.map keyOf, k ∈ ns := fun k hk => of_decide_eq_true ((mem k).mpr hk)
  refine call_len_set ho hex hd hf (by rw [hn]; omega) ⟨.int (c : Int), H1, I2.tok _, ⟨_, by rw [hn]⟩, q1 c hcl ⟨fun e => ?_, fun hnd => ?_⟩⟩
  · exact (nodup_of_len _ ns nd sub (hlen.trans e)).2
  · refine Nat.le_antisymm hcl ?_
    rw [← hlen]
    exact nodup_le ns _ hnd fun k hk => (mem k).mp (decide_eq_true hk)
end
end My
set_option Elab.async false
set_option linter.all false
set_option maxRecDepth 100000
set_option maxHeartbeats 4000000
/-! a tuple times an int of either sign; slices of lists and tuples; polynomials and terms in the heap -/
namespace My
open PySem PySem.Spec PyProof.Rows L2 Evl
theorem tupMul0 (l : Addr) (items : Array Value) (n : Nat) (dd : Option Addr) (sl : Array (Option Value)) (x : Int) (u : Tok) (h0 : -(2 ^ 63) ≤ x) (h1 : x ≤ 0) (hi : items.isEmpty = false) :
    Meets (Builtin.«tuple.__mul__» ⟨[.ref l, .int x u], []⟩) (fun _ R s => s.heap.get? l = some { cls := .type "tuple", dict := dd, data := .seq items n, slots := sl } ∧ R (.ok (.ret (Value.ref s.heap.objs.size))) { s with heap := s.heap.push { cls := Value.type "tuple", data := Data.seq #[] }, toks := s.toks }) :=
  .of_wp fun prog w A R s h => by
    obtain ⟨hp, g, d, tk, os⟩ := s
    obtain ⟨hl, h⟩ := h
    have f1 := AutoSeq1.idx_int
    have c0 : (decide (x < -(2 ^ 63)) || decide (x ≥ 2 ^ 63)) = false := by
      rw [decide_eq_false (by omega), decide_eq_false (by omega)]
      rfl
    have c1 : (items.isEmpty || x == 1) = false := by
      rw [hi, Bool.false_or]
      exact beq_eq_false_iff_ne.mpr (by omega)
    have c2 : (decide (x ≤ 0) || items.isEmpty) = true := by
      rw [decide_eq_true h1]
      rfl
    wp_walk using wpAny_loadPart' hl
    repeat (first
      | (refine wpAny_ite_false (decide_eq_false (by rw [c0]; exact Bool.false_ne_true)) ?_; wp_walk using wpAny_loadPart' hl)
      | (refine wpAny_ite_false (decide_eq_false (by rw [c1]; exact Bool.false_ne_true)) ?_; wp_walk using wpAny_loadPart' hl)
      | (refine wpAny_ite_true (decide_eq_true (by rw [c2])) ?_; wp_walk using wpAny_loadPart' hl))
    exact ⟨_, rfl, h⟩
section
variable {X : Cx}
def rRepZ (K : PySem.W.Frag) : R2 := fun x y H Q => ∃ l k xs, x = .ref l ∧ y = .int k ∧ SqT K H l xs ∧ xs ≠ [] ∧ -1000 ≤ k ∧ k ≤ 1000 ∧ xs.length ≤ 1000 ∧ ∀ t H', Ex H H' → SqT K H' t (List.replicate k.toNat xs).flatten → Q (.ref t) H'
theorem op_repZ : OpR X (binaryOp .Mult) (rRepZ X.K) := by
  intro pins s σ H x y v u Q I rx ry h
  obtain ⟨l, k, xs, rfl, rfl, hT, hne, h0, h1, hz, q⟩ := h
  by_cases hk : 1 ≤ k
  · refine op_repT1 pins s σ H _ _ v u Q I rx ry ⟨l, k, xs, rfl, rfl, hT, ?_⟩
    by_cases h2 : k = 1
    · subst h2
      refine .inl ⟨rfl, q l H (Ex.refl _) ?_⟩
      have e : (List.replicate (1 : Int).toNat xs).flatten = xs := by simp
      rw [e]
      exact hT
    · exact .inr ⟨hne, by omega, h1, hz, fun p hp => q p _ (Ex.new hp) (st_of upd_same)⟩
  · cases rx
    obtain ⟨t, rfl⟩ := ry
    obtain ⟨its, r, ⟨⟨cls, dd, data, sl⟩, ho, hc, n, hd⟩, hs⟩ := I.tuple hT
    simp only at hc hd
    subst hc hd
    have hi : its.toArray.isEmpty = false := by
      cases its with
      | nil => cases r; exact absurd rfl hne
      | cons a b => rfl
    have e0 : (List.replicate k.toNat xs).flatten = [] := by
      rw [Int.toNat_of_nonpos (by omega)]
      rfl
    rw [e0] at q
    refine wpAny_binaryOp_repeat_ref (T := "tuple") (U := "int") (by decide) ⟨_, ho, rfl⟩ (fun s' => typeIs_int s' k t) noFill_tuple_mul F.fills_int_mul F.slot_int_rmul repeat_tuple F.slot_int_index.lookup
      (call_meets F.slot_int_rmul (typeIs_int s k t) F.entry_int_rmul (F.args_int_rmul_2 _ _) (int_rmul_tuple k t l its.toArray n dd sl)
        ⟨ho, rfl, ⟨_, ho, rfl⟩, call_meets F.slot_tuple_mul ⟨_, ho, rfl⟩ F.entry_tuple_mul (F.args_tuple_mul_2 _ _) (tupMul0 l its.toArray n dd sl k t (by omega) (by omega) hi) ⟨ho, ?_⟩⟩)
    have new : ObjOk X.prog X.w (upd H s.heap.objs.size (.tup [])) (s.heap.push ({ cls := .type "tuple", data := .seq #[] } : Obj)) s.heap.objs.size (.tup []) := ⟨Nat.zero_le _, [], .nil, ⟨_, Heap.get?_push_size _ rfl, rfl, _, rfl⟩⟩
    exact ⟨.ref _, _, I.laid (t' := s.toks) (fun _ _ q => Heap.get?_push_of_some _ q) (Nat.le_refl _) new, rfl, q _ _ (Ex.new I.fresh) (st_of upd_same)⟩
end
/-- a slice of a list or a tuple -/
def rSlLT (K : PySem.W.Frag) : V → Option Int → Option Int → Hp → VK → Prop := fun x lo hi H Q => rSlM K x lo hi H Q ∨ rSlA K x lo hi H Q
theorem sl_LT {X : Cx} : SlR X (rSlLT X.K) := by
  intro pins s σ H x v vl vu lo hi sl Q I rx hs pl pu h
  rcases h with h | h
  · exact sl_listM pins s σ H x v vl vu lo hi sl Q I rx hs pl pu h
  · exact sl_tupA pins s σ H x v vl vu lo hi sl Q I rx hs pl pu h
section
variable {K : PySem.W.Frag} {H : Hp} {Q : VK}
theorem ix_any {p : Addr} {xs : List V} {i : Int} {v : V} (hp : SqL K H p xs ∨ SqT K H p xs) (h : atI xs i = some v) (q : Q v H) : rIx K (.ref p) (.int i) H Q := by
  rcases hp with hp | hp
  · exact .inl ⟨p, xs, i, v, rfl, rfl, hp, h, q⟩
  · exact .inr (.inl ⟨p, xs, i, v, rfl, rfl, hp, h, q⟩)
theorem slA_of {a : Addr} {g : List V} {lo hi : Option Int} (ha : SqT K H a g) (q : ∀ t H', Ex H H' → SqT K H' t (cutV g lo hi) → Q (.ref t) H') : rSlA K (.ref a) lo hi H Q := by
  refine ⟨a, g, rfl, ha, fun hw => q a H (Ex.refl _) ?_, fun hw p hp => q p _ (Ex.new hp) (st_of upd_same)⟩
  unfold cutV
  rw [hw.1, hw.2, List.drop_zero, Nat.sub_zero, List.take_length]
  exact ha
theorem catT_of {a b : Addr} {xs ys : List V} (ha : SqT K H a xs) (hb : SqT K H b ys) (h0 : xs ≠ []) (hz : xs.length + ys.length ≤ sizeLine) (q : ∀ t H', Ex H H' → SqT K H' t (xs ++ ys) → Q (.ref t) H') : rCatT K (.ref a) (.ref b) H Q :=
  ⟨a, b, xs, ys, rfl, rfl, ha, hb, h0, hz, fun e => q a H (Ex.refl _) (by rw [e, List.append_nil]; exact ha), fun _ p hp => q p _ (Ex.new hp) (st_of upd_same)⟩
theorem catA_of {a b : Addr} {xs ys : List V} (ha : SqT K H a xs) (hb : SqT K H b ys) (hz : xs.length + ys.length ≤ sizeLine) (q : ∀ p H', Ex H H' → SqT K H' p (xs ++ ys) → Q (.ref p) H') : rCatA K (.ref a) (.ref b) H Q := by
  refine ⟨a, b, xs, ys, rfl, rfl, ha, hb, hz, fun e => ?_, fun _ e => ?_, fun _ _ p hp => q p _ (Ex.new hp) (st_of upd_same)⟩
  · subst e; exact q b H (Ex.refl H) hb
  · subst e; exact q a H (Ex.refl H) (by rw [List.append_nil]; exact ha)
theorem repZ_of {l : Addr} {xs : List V} {k : Int} (h : SqT K H l xs) (hne : xs ≠ []) (h0 : -1000 ≤ k) (h1 : k ≤ 1000) (hz : xs.length ≤ 1000) (q : ∀ t H', Ex H H' → SqT K H' t (List.replicate k.toNat xs).flatten → Q (.ref t) H') : rRepZ K (.ref l) (.int k) H Q := ⟨l, k, xs, rfl, rfl, h, hne, h0, h1, hz, q⟩
theorem cut_one (x : V) (xs : List V) : cutV (x :: xs) (some 1) none = xs := by
  have e1 : HT.sIx (x :: xs).length 0 (some 1) = min 1 (x :: xs).length := HT.sIx_nat _ _ 1
  have e2 : HT.sIx (x :: xs).length (x :: xs).length none = (x :: xs).length := rfl
  unfold cutV
  rw [e1, e2, List.length_cons, Nat.min_eq_left (by omega), List.drop_one, List.tail_cons, List.take_of_length_le (by omega)]
theorem cut_fst (x : V) (xs : List V) : cutV (x :: xs) none (some 1) = [x] := by
  have e1 : HT.sIx (x :: xs).length 0 none = 0 := rfl
  have e2 : HT.sIx (x :: xs).length (x :: xs).length (some 1) = min 1 (x :: xs).length := HT.sIx_nat _ _ 1
  unfold cutV
  rw [e1, e2, List.length_cons, Nat.min_eq_left (by omega), List.drop_zero]
  rfl
end
/-- x[1:] of a name -/
theorem sl1_of {K : PySem.W.Frag} {σ : L2.St} {H : Hp} {Q : VK} {i : Nat} {a : Addr} {x : V} {xs : List V} (hs : σ[i]? = some (some (.ref a))) (ha : SqT K H a (x :: xs)) (q : ∀ t H', Ex H H' → SqT K H' t xs → Q (.ref t) H') : tSl (rSlA K) (tVar i) (tPart (tC (.int 1))) tNoPart σ H Q := by
  refine ⟨_, hs, 1, rfl, ?_⟩
  show rSlA K (.ref a) (some 1) none H Q
  refine slA_of ha fun t H' e s => q t H' e ?_
  rw [cut_one] at s
  exact s
theorem sqt_mut {K : PySem.W.Frag} {H : Hp} {p t : Addr} {xs ys zs : List V} (hp : H p = some (.lst ys)) (h : SqT K H t xs) : SqT K (upd H p (.lst zs)) t xs := by
  rcases h with (h | ⟨o, h⟩) | h
  · exact .inl (.inl (by rw [upd_ne (fun e => by rw [e, hp] at h; cases h)]; exact h))
  · exact .inl (.inr ⟨o, by rw [upd_ne (fun e => by rw [e, hp] at h; cases h)]; exact h⟩)
  · exact .inr h
/-- all stays but what lies at a -/
def Els (a : Addr) (H H1 : Hp) : Prop := ∀ b o, b ≠ a → H b = some o → H1 b = some o
theorem Els.set {a : Addr} {H H1 : Hp} {o : HO} (e : Els a H H1) : Els a H (L2.upd H1 a o) := fun b u n h => by rw [upd_ne n]; exact e b u n h
theorem Els.tex {a : Addr} {H H1 H2 : Hp} (e : Els a H H1) (f : Ex H1 H2) : Els a H H2 := fun b u n h => f _ _ (e b u n h)
theorem Els.of {a : Addr} {H H1 : Hp} (e : Ex H H1) : Els a H H1 := fun b u _ h => e _ _ h
/-- a tuple does not lie at an object -/
theorem Els.sqt {K : PySem.W.Frag} {a C dx t : Addr} {fs : List (Str × V)} {H H1 : Hp} {xs : List V} (e : Els a H H1) (h : H a = some (.ins C dx fs)) (ht : SqT K H t xs) : SqT K H1 t xs := by
  rcases ht with (ht | ⟨o, ht⟩) | ht
  · exact .inl (.inl (e _ _ (fun z => by rw [z, h] at ht; cases ht) ht))
  · exact .inl (.inr ⟨o, e _ _ (fun z => by rw [z, h] at ht; cases ht) ht⟩)
  · exact .inr ht
theorem share_app (o : Int) (as bs : List Int) : share o (as ++ bs) = share (share o as) bs := by
  unfold share
  rw [List.foldl_append]
theorem zeros_flat (n : Nat) : (List.replicate n [V.int 0]).flatten = (List.replicate n (0 : Int)).map V.int := by
  rw [List.flatten_replicate_singleton, List.map_replicate]
/-- a list and zeros behind it -/
theorem repcat {H : Hp} {l p : Addr} {xs : List Int} {k : Int} {Q : VK} (hl : H l = some (.lst (xs.map V.int))) (hp : H p = some (.lst [.int 0])) (k0 : 0 ≤ k) (k1 : k ≤ 1000) (hx : xs.length ≤ 1000)
    (q : ∀ t H', Ex H H' → H t = none → H' t = some (.lst ((xs ++ List.replicate k.toNat 0).map V.int)) → Q (.ref t) H') : rRep (.ref p) (.int k) H fun y H2 => rCat (.ref l) y H2 Q := by
  refine ⟨p, k, [.int 0], rfl, rfl, hp, by omega, by omega, sz_le (by simp; omega), fun t ht => ?_⟩
  rw [zeros_flat]
  have e1 := Ex.new ht (o := .lst ((List.replicate k.toNat (0 : Int)).map V.int))
  refine ⟨l, t, _, _, rfl, rfl, e1 _ _ hl, upd_same, sz_le (by simp; omega), fun t2 ht2 => ?_⟩
  refine q t2 _ (e1.trans (Ex.new ht2)) (by rw [upd_ne (fun e => by rw [e, upd_same] at ht2; cases ht2)] at ht2; exact ht2) ?_
  rw [upd_same, List.map_append]
/-- a polynomial as the package has it -/
def PolT (K : PySem.W.Frag) (H : Hp) (a : Addr) (p : PM) : Prop := SqT K H a (.int p.1 :: p.2.map V.int)
theorem PolT.ex {K : PySem.W.Frag} {H H' : Hp} {a : Addr} {p : PM} (e : Ex H H') (h : PolT K H a p) : PolT K H' a p := e.sqt h
/-- a term -/
def TermO (K : PySem.W.Frag) (CT : Addr) (H : Hp) (p : PM) (v : V) : Prop := ∃ a dx r c, v = .ref a ∧ H a = some (.ins CT dx [("poly", .ref r), ("coefficients", .ref c), ("over", .int p.1)]) ∧ PolT K H r p ∧ SqT K H c (p.2.map V.int)
theorem TermO.ex {K : PySem.W.Frag} {CT : Addr} {H H' : Hp} {p : PM} {v : V} (e : Ex H H') (h : TermO K CT H p v) : TermO K CT H' p v := by
  obtain ⟨a, dx, r, c, rfl, h1, h2, h3⟩ := h
  exact ⟨a, dx, r, c, rfl, e _ _ h1, h2.ex e, e.sqt h3⟩
/-- what the law holds: coefficients and what they are divided by -/
def PairT (K : PySem.W.Frag) (H : Hp) (v : V) (p : PM) : Prop := ∃ a c, v = .ref a ∧ SqT K H a [.ref c, .int p.1] ∧ SqT K H c (p.2.map V.int)
theorem PairT.ex {K : PySem.W.Frag} {H H' : Hp} {p : PM} {v : V} (e : Ex H H') (h : PairT K H v p) : PairT K H' v p := by
  obtain ⟨a, c, rfl, h1, h2⟩ := h
  exact ⟨a, c, rfl, e.sqt h1, e.sqt h2⟩
/-! ### while the source of draws changes -/
theorem sqt_mv {K : PySem.W.Frag} {d L t : Addr} {H H' : Hp} {xs : List V} (D : Deal d L H) (M : Mv d L H H') (h : SqT K H t xs) : SqT K H' t xs := by
  obtain ⟨cs, z, D⟩ := D
  rcases h with (h | ⟨o, h⟩) | h
  · exact .inl (.inl (M.kp _ _ (fun e => by rw [e, D.d] at h; cases h) (fun e => by rw [e, D.l] at h; cases h) h))
  · exact .inl (.inr ⟨o, M.kp _ _ (fun e => by rw [e, D.d] at h; cases h) (fun e => by rw [e, D.l] at h; cases h) h⟩)
  · exact .inr h
theorem PairT.mv {K : PySem.W.Frag} {d L : Addr} {H H' : Hp} {v : V} {p : PM} (D : Deal d L H) (M : Mv d L H H') (h : PairT K H v p) : PairT K H' v p := by
  obtain ⟨a, c, rfl, h1, h2⟩ := h
  exact ⟨a, c, rfl, sqt_mv D M h1, sqt_mv D M h2⟩
theorem TermO.mv {K : PySem.W.Frag} {CT d L : Addr} {H H' : Hp} {v : V} {p : PM} (D : Deal d L H) (M : Mv d L H H') (h : TermO K CT H p v) : TermO K CT H' p v := by
  obtain ⟨a, dx, r, c, rfl, h1, h2, h3⟩ := h
  refine ⟨a, dx, r, c, rfl, ?_, sqt_mv D M h2, sqt_mv D M h3⟩
  obtain ⟨cs, z, D⟩ := D
  exact M.kp _ _ (fun e => by rw [e, D.d] at h1; cases h1) (fun e => by rw [e, D.l] at h1; cases h1) h1
end My
set_option Elab.async false
set_option linter.all false
set_option maxRecDepth 100000
set_option maxHeartbeats 4000000
set_option exponentiation.threshold 5000
namespace My
open PySem PySem.Spec PyProof.Rows L2 Evl
local macro_rules | `(tactic| walk_at "st") => `(tactic| simp only [L2.start, List.map_cons, List.map_nil, List.length_cons, List.length_nil, Nat.reduceAdd, Nat.reduceSub, List.replicate_succ, List.replicate_zero, List.cons_append, List.nil_append, cxOf, List.append_nil])
local macro_rules | `(tactic| walk_at "vc") => `(tactic| try simp only [tSeq, tAsg, tOp, tUn, tVar, tC, tNil, tCons, gName, rI, rI0, rU, tRet, tIfS, tNot, tAnd, tOr, tB, tTest, tCB, tCall, tAndV, tOrV, tNotV, tNext, tNever, tIf, tChain, tYes, tPart, tNoPart, tPar, tDrop, q_isi, q_vn, q_vb, q_vi, q_vs, kb1, kb2, kb3, kb4, kb5, kb6, kb7, kb8, q_int1, q_int2, q_min, q_max, q_repr, tLst, tTup, rEq, rNe, q_sii, q_sss, q_sbb, q_snn, q_sns, q_ssn, q_ix, q_sl, tSl, tBM, tBM0, q_app, q_pop, gSub, rSetL, L2.wipe, eq_self, decide_true, decide_false, tRevL,
  List.getElem?_cons_succ, List.getElem?_cons_zero, List.set_cons_succ, List.set_cons_zero, Option.some.injEq, exists_eq_left', exists_eq_left, V.int.injEq, V.bl.injEq, V.ref.injEq, V.str.injEq, List.cons.injEq, and_true, true_and, List.append_nil, List.nil_append, List.cons_append, exists_and_left, and_assoc, if_true, if_false, Bool.not_true, Bool.not_false, Bool.false_eq_true, Bool.true_eq_false, reduceIte, tRevL, tPar3, tRevT, tUnl, tCKw, forall_const, Bool.not_eq_true', decide_eq_true_eq, decide_eq_false_iff_not])
structure Txt (K : PySem.W.Frag) (mg : Str → Option Value) (a_is_integer a_reduced a_value a_law_deal a_law_draw a_law_gcd a_law_lowest a_law_value a_law_made a_law_row a_law_at a_law_refused a_law a_InvalidTerm_init a_Term_init a_Term_degree a_Term_call a_Term_eq a_InvalidTerm a_NotWhole a_FigureError a_Term : Addr) (d_is_integer d_reduced d_value d_law_deal d_law_draw d_law_gcd d_law_lowest d_law_value d_law_made d_law_row d_law_at d_law_refused d_law d_InvalidTerm_init d_Term_init d_Term_degree d_Term_call d_Term_eq : FuncData) : Prop where
  F_is_integer : Fun K "is_integer" "is_integer" s_is_integer a_is_integer d_is_integer
  b_is_integer : Binds K d_is_integer ["value"] []
  g_is_integer : mg "is_integer" = some (.ref a_is_integer)
  F_reduced : Fun K "reduced" "reduced" s_reduced a_reduced d_reduced
  b_reduced : Binds K d_reduced ["over", "coefficients"] []
  g_reduced : mg "reduced" = some (.ref a_reduced)
  F_value : Fun K "value" "value" s_value a_value d_value
  b_value : Binds K d_value ["x", "base"] []
  g_value : mg "value" = some (.ref a_value)
  F_law_deal : Fun K "_law_deal" "_law_deal" s_law_deal a_law_deal d_law_deal
  b_law_deal : Binds K d_law_deal ["_law_script", "_law_base"] []
  g_law_deal : mg "_law_deal" = some (.ref a_law_deal)
  F_law_draw : Fun K "_law_draw" "_law_draw" s_law_draw a_law_draw d_law_draw
  b_law_draw : Binds K d_law_draw ["_law_deal_here", "_law_amount"] []
  g_law_draw : mg "_law_draw" = some (.ref a_law_draw)
  F_law_gcd : Fun K "_law_gcd" "_law_gcd" s_law_gcd a_law_gcd d_law_gcd
  b_law_gcd : Binds K d_law_gcd ["_law_one", "_law_other"] []
  g_law_gcd : mg "_law_gcd" = some (.ref a_law_gcd)
  F_law_lowest : Fun K "_law_lowest" "_law_lowest" s_law_lowest a_law_lowest d_law_lowest
  b_law_lowest : Binds K d_law_lowest ["_law_row_here", "_law_under"] []
  g_law_lowest : mg "_law_lowest" = some (.ref a_law_lowest)
  F_law_value : Fun K "_law_value" "_law_value" s_law_value a_law_value d_law_value
  b_law_value : Binds K d_law_value ["_law_row_here", "_law_base"] []
  g_law_value : mg "_law_value" = some (.ref a_law_value)
  F_law_made : Fun K "_law_made" "_law_made" s_law_made a_law_made d_law_made
  b_law_made : Binds K d_law_made ["_law_row_here", "_law_under"] []
  g_law_made : mg "_law_made" = some (.ref a_law_made)
  F_law_row : Fun K "_law_row" "_law_row" s_law_row a_law_row d_law_row
  b_law_row : Binds K d_law_row ["_law_deal_here", "_law_amount", "_law_most"] []
  g_law_row : mg "_law_row" = some (.ref a_law_row)
  F_law_at : Fun K "_law_at" "_law_at" s_law_at a_law_at d_law_at
  b_law_at : Binds K d_law_at ["_law_term", "_law_base"] []
  g_law_at : mg "_law_at" = some (.ref a_law_at)
  F_law_refused : Fun K "_law_refused" "_law_refused" s_law_refused a_law_refused d_law_refused
  b_law_refused : Binds K d_law_refused ["_law_row_here", "_law_under"] []
  g_law_refused : mg "_law_refused" = some (.ref a_law_refused)
  F_law : Fun K "law" "law" s_law a_law d_law
  b_law : Binds K d_law ["_law_script"] []
  g_law : mg "law" = some (.ref a_law)
  F_InvalidTerm_init : Fun K "__init__" "InvalidTerm.__init__" s_InvalidTerm_init a_InvalidTerm_init d_InvalidTerm_init
  b_InvalidTerm_init : Binds K d_InvalidTerm_init ["self", "word"] []
  F_Term_init : FunD K "__init__" "Term.__init__" (defArgs s_Term_init) (defBody s_Term_init) (defScope s_Term_init) [] [("over", .int 1)] a_Term_init d_Term_init
  F_Term_degree : Fun K "degree" "Term.degree" s_Term_degree a_Term_degree d_Term_degree
  b_Term_degree : Binds K d_Term_degree ["self"] []
  F_Term_call : Fun K "__call__" "Term.__call__" s_Term_call a_Term_call d_Term_call
  b_Term_call : Binds K d_Term_call ["self", "base"] []
  F_Term_eq : Fun K "__eq__" "Term.__eq__" s_Term_eq a_Term_eq d_Term_eq
  b_Term_eq : Binds K d_Term_eq ["self", "other"] []
  E_InvalidTerm : ErrR K mg "InvalidTerm" "word" a_InvalidTerm a_InvalidTerm_init
  E_NotWhole : ErrR0 K mg "NotWhole" a_NotWhole
  kx_InvalidTerm_NotWhole : PySem.W.exmOne K (.ref a_InvalidTerm) (.ref a_NotWhole) = some false
  kx_NotWhole_InvalidTerm : PySem.W.exmOne K (.ref a_NotWhole) (.ref a_InvalidTerm) = some false
  kr_InvalidTerm_FigureError : PySem.W.kitOne K (.ref a_InvalidTerm) (.ref a_FigureError) = some true
  kr_InvalidTerm_ValueError : PySem.W.kitOne K (.ref a_InvalidTerm) (.type "ValueError") = some true
  kr_NotWhole_FigureError : PySem.W.kitOne K (.ref a_NotWhole) (.ref a_FigureError) = some true
  kr_NotWhole_InvalidTerm : PySem.W.kitOne K (.ref a_NotWhole) (.ref a_InvalidTerm) = some false
  oc_Term : OC K a_Term
  ne_Term : NeC K a_Term
  ks_Term : PySem.W.kitOne K (.ref a_Term) (.ref a_Term) = some true
  kl_Term_int : PySem.W.kitOne K (.ref a_Term) (.type "int") = some false
  ky_Term_int : PySem.W.kitOne K (.type "int") (.ref a_Term) = some false
  ky_Term_tuple : PySem.W.kitOne K (.type "tuple") (.ref a_Term) = some false
  nF_Term_poly : NoAttr K a_Term "poly"
  nF_Term_coefficients : NoAttr K a_Term "coefficients"
  nF_Term_over : NoAttr K a_Term "over"
  pp_Term_degree : ∃ p, PropOf K a_Term "degree" p a_Term_degree
  mt_Term_call : MethC K "__call__" a_Term a_Term_call
  mt_Term_eq : MethC K "__eq__" a_Term a_Term_eq
  M_Term : Mk K a_Term a_Term_init
  g_FigureError : mg "FigureError" = some (.ref a_FigureError)
  g_Term : mg "Term" = some (.ref a_Term)
  g_gcd : mg "gcd" = some (.builtin "math.gcd")
  z_ValueError : mg "ValueError" = none
  z_abs : mg "abs" = none
  z_all : mg "all" = none
  z_bool : mg "bool" = none
  z_int : mg "int" = none
  z_isinstance : mg "isinstance" = none
  z_len : mg "len" = none
  z_list : mg "list" = none
  z_max : mg "max" = none
  z_range : mg "range" = none
  z_repr : mg "repr" = none
  z_str : mg "str" = none
  z_tuple : mg "tuple" = none
section
variable {P : Program} {w : World} {K : PySem.W.Frag} {mg : Str → Option Value} {base : Heap}
variable {a_is_integer a_reduced a_value a_law_deal a_law_draw a_law_gcd a_law_lowest a_law_value a_law_made a_law_row a_law_at a_law_refused a_law a_InvalidTerm_init a_Term_init a_Term_degree a_Term_call a_Term_eq a_InvalidTerm a_NotWhole a_FigureError a_Term : Addr} {d_is_integer d_reduced d_value d_law_deal d_law_draw d_law_gcd d_law_lowest d_law_value d_law_made d_law_row d_law_at d_law_refused d_law d_InvalidTerm_init d_Term_init d_Term_degree d_Term_call d_Term_eq : FuncData}
def sp_law_deal : Sp
  | [.ref a, .int k], H, Q, _ => ∃ ns : List Int, SqL K H a (ns.map V.int) ∧ ns.length ≤ 63 ∧ 0 ≤ k ∧ k ≤ 63 ∧ ∀ d L H', Ex H H' → Deal d L H' → Q (.ref d) H'
  | _, _, _, _ => False
def C_d1 (p D : Addr) (ms : List Int) (H : Hp) : Nat → Hp → Prop := fun i H' => ∃ vs : List Int, H' D = some (.lst (vs.map V.int)) ∧ vs.length = i ∧ (∀ v ∈ vs, 0 ≤ v) ∧ Ex H H' ∧ H' p = some (.lst (ms.map V.int))
def C_d2 (c D : Addr) (ms : List Int) (H : Hp) : Nat → Hp → Prop := fun i H' => ∃ vs : List Int, H' D = some (.lst (vs.map V.int)) ∧ vs.length ≤ i ∧ (∀ v ∈ vs, 0 ≤ v) ∧ Ex H H' ∧ H' c = some (.lst (ms.map V.int))
def I_dl (a c : Addr) (k : Int) (H : Hp) : Nat → L2.St → Hp → Prop := fun i σ H' => H' = H ∧ ∃ z x, σ = [some (.ref a), some (.int k), some (.ref c), some (.int z), x] ∧ 0 ≤ z ∧ z < 2147483647
theorem ok_law_deal (T : Txt K mg a_is_integer a_reduced a_value a_law_deal a_law_draw a_law_gcd a_law_lowest a_law_value a_law_made a_law_row a_law_at a_law_refused a_law a_InvalidTerm_init a_Term_init a_Term_degree a_Term_call a_Term_eq a_InvalidTerm a_NotWhole a_FigureError a_Term d_is_integer d_reduced d_value d_law_deal d_law_draw d_law_gcd d_law_lowest d_law_value d_law_made d_law_row d_law_at d_law_refused d_law d_InvalidTerm_init d_Term_init d_Term_degree d_Term_call d_Term_eq) : FnOk P w K mg base CX0 1 a_law_deal d_law_deal ["_law_script", "_law_base"] (sp_law_deal (K := K)) := by
  refine T.F_law_deal.ok sc_law_deal (fun vs H Q E h => ?_) (fun cdv A outer s H vs Q E hr h => ?_)
  · unfold sp_law_deal at h; split at h; rfl; exact h.elim
  · unfold sp_law_deal at h; split at h
    case h_2 => exact h.elim
    rename_i a k
    obtain ⟨ns, hS, hl, k0, k1, q⟩ := h
    obtain ⟨ms, em, hm1, hm2⟩ := cut_ints ns (some k) (some 63)
    refine ⟨_, (pss_cons (ps_setLc (i := 2) (own := [("_law_cell", 4)]) (g := gName 4) (by rfl) sc_law_deal.nd rfl rfl (sw_true rfl rfl rfl (by decide +kernel)) (pi_list (pe_slice sl_listM (pv 0) (po_some (pv 1)) (po_some pe_int))) (blkOk_by (own := [("_law_cell", 4)]) (N := N_law_deal) (sc := defScope s_law_deal) (by decide +kernel)) (fun _ _ _ _ _ => (pg_name (i := 4) sc_law_deal.nd rfl (by first | exact .inl rfl | exact .inr rfl))) (fun _ _ _ _ _ => pts_nil) (fun _ _ _ _ _ => (pe_callB call_abs (by rfl) T.z_abs (by decide +kernel) (pa_cons (pv 4) pa_nil))))
      (pss_cons (ps_set (i := 3) sc_law_deal.nd rfl (by first | exact .inl rfl | exact .inr rfl) (pe_op op_add pe_int (pe_op op_mulX pe_int (pv 1))))
      (Evl.pss_cut (ps_for PassesOwn.never rfl (pi_list (pv 2)) (pg_name (i := 4) sc_law_deal.nd rfl (by first | exact .inl rfl | exact .inr rfl))
      (pss_one (ps_set (i := 3) sc_law_deal.nd rfl (by first | exact .inl rfl | exact .inr rfl) (pe_op op_mod (pe_callTy call_intM (by rfl) T.z_int (by decide +kernel) (pa_cons (pe_op op_add (pe_op op_mulX (pv 3) pe_int) (pe_op op_mod (pe_callTy call_intM (by rfl) T.z_int (by decide +kernel) (pa_cons (pv 4) pa_nil)) pe_int)) pa_nil)) pe_int))))
      (pss_one (ps_ret (pe_lst (pa_cons (pe_revL (pe_lc (own := [("_law_cell", 4)]) (g := gName 4) (by rfl) sc_law_deal.nd (pi_list (pv 2)) (blkOk_by (own := [("_law_cell", 4)]) (N := N_law_deal) (sc := defScope s_law_deal) (by decide +kernel)) (fun _ _ _ _ _ => (pg_name (i := 4) sc_law_deal.nd rfl (by first | exact .inl rfl | exact .inr rfl))) (fun _ _ _ _ _ => (pts_one (pt_cmpR op_ge (pv 4) (pe_op op_pow pe_int pe_int) (nomark _)))) (fun _ _ _ _ _ => (pv 4)))) (pa_cons (pv 3) pa_nil)))))))), ?_⟩
    walk_at "st"
    refine ⟨_, rfl, _, rfl, _, rfl, _, rfl, _, hS, fun p hp => ⟨p, rfl, ⟨_, sq_of upd_same⟩, fun D hD => lc_list (xs := ms.map V.int) (C_d1 p D ms H) ?_ ?_ ?_ ?_⟩⟩
    · rw [em] at hD ⊢
      exact ⟨[], upd_same, rfl, fun v hv => (by cases hv), (Ex.new hp).trans (Ex.new hD), by rw [upd_ne (ne_of_none upd_same hD), upd_same]⟩
    · intro i H' _ h
      obtain ⟨vs, h1, h2, h3, h4, h5⟩ := h
      exact sq_of h5
    · intro i x H' hx h
      obtain ⟨vs, h1, h2, h3, h4, h5⟩ := h
      rw [List.getElem?_map] at hx
      obtain ⟨n, hn, rfl⟩ := Option.map_eq_some_iff.mp hx
      have hi : i < ms.length := (List.getElem?_eq_some_iff.mp hn).1
      rw [em] at hD
      have hDH : H D = none := (Ex.new hp).free hD
      have hDp : p ≠ D := ne_of_none upd_same hD
      walk_at "vc"
      have fin : ∀ z : Int, 0 ≤ z → C_d1 p D ms H (i + 1) (upd H' D (.lst (vs.map V.int ++ [.int z]))) := fun z hz =>
        ⟨vs ++ [z], by rw [upd_same, List.map_append]; rfl, by simp [h2], fun v hv => by
          rcases List.mem_append.mp hv with hv | hv
          · exact h3 v hv
          · rw [List.mem_singleton.mp hv]; exact hz, h4.mut hDH, by rw [upd_ne hDp]; exact h5⟩
      exact ⟨_, h1, sz_lt (by simp; omega), fin _ (by omega)⟩
    · intro H1 h
      obtain ⟨cs, h1, h2, h3, h4, h5⟩ := h
      have hcl : cs.length ≤ 63 := by rw [List.length_map] at h2; omega
      walk_at "vc"
      refine ⟨mulOk (by decide) (by decide) (by omega) (by omega), fun σ H' => H' = H1 ∧ ∃ z x, σ = [some (.ref a), some (.int k), some (.ref D), some (.int z), x] ∧ 0 ≤ z ∧ z < 2147483647, ?_, fun σ H' hm => ?_⟩
      · refine ⟨_, rfl, D, rfl, ⟨_, sq_of h1⟩, for_list (xs := cs.map V.int) (I_dl a D k H1) ⟨rfl, _, _, rfl, by omega, by omega⟩ (fun i σ H' _ hw => by rw [hw.1]; exact sq_of h1) (fun i x σ H' hx' hw => ?_) (fun σ H' hw => ?_)⟩
        · obtain ⟨rfl, z, y, rfl, z0, z1⟩ := hw
          rw [List.getElem?_map] at hx'
          obtain ⟨n, hn, rfl⟩ := Option.map_eq_some_iff.mp hx'
          walk_at "vc"
          exact ⟨mulOk (by omega) (by omega) (by decide) (by decide), by decide, by decide, rfl, _, _, rfl, Int.emod_nonneg _ (by decide), Int.emod_lt_of_pos _ (by decide)⟩
        · exact hw
      obtain ⟨rfl, z, x, rfl, z0, z1⟩ := hm
      refine ⟨_, rfl, D, rfl, ⟨_, sq_of h1⟩, fun D2 hD2 => lc_list (xs := cs.map V.int) (C_d2 D D2 cs H') ?_ ?_ ?_ ?_⟩
      · exact ⟨[], upd_same, Nat.le_refl _, fun v hv => (by cases hv), Ex.new hD2, by rw [upd_ne (ne_of_none h1 hD2)]; exact h1⟩
      · intro i H2 _ h
        obtain ⟨vs, g1, g2, g3, g4, g5⟩ := h
        exact sq_of g5
      · intro i x H2 hx h
        obtain ⟨vs, g1, g2, g3, g4, g5⟩ := h
        rw [List.getElem?_map] at hx
        obtain ⟨n, hn, rfl⟩ := Option.map_eq_some_iff.mp hx
        have hi : i < cs.length := (List.getElem?_eq_some_iff.mp hn).1
        walk_at "vc"
        refine ⟨powOk (by decide) (by decide) (by decide) (by decide), ite2 (fun hc => ?_) (fun hc => ⟨vs, g1, by omega, g3, g4, g5⟩)⟩
        refine ⟨_, g1, sz_lt (by simp; omega), vs ++ [n], by rw [upd_same, List.map_append]; rfl, by simp; omega, fun v hv => ?_, g4.mut hD2, by rw [upd_ne (ne_of_none h1 hD2)]; exact g5⟩
        rcases List.mem_append.mp hv with hv | hv
        · exact g3 v hv
        · rw [List.mem_singleton.mp hv]
          exact h3 n (List.mem_of_getElem? hn)
      · intro H2 h
        obtain ⟨vs, g1, g2, g3, g4, g5⟩ := h
        rw [List.length_map] at g2
        walk_at "vc"
        refine ⟨_, sq_of g1, fun r hr2 => ⟨sz_le (by simp), fun d hd => q d r _ ((h4.trans g4).trans ((Ex.new hr2).trans (Ex.new hd))) ⟨vs.reverse, z, upd_same, ?_, fun c hc => g3 c (List.mem_reverse.mp hc), z0, z1, by simp; omega⟩⟩⟩
        rw [upd_ne (ne_of_none upd_same hd), upd_same, List.map_reverse]
def sp_law_draw : Sp
  | [.ref d, .int n], H, Q, _ => ∃ L, Deal d L H ∧ 0 < n ∧ n < 2 ^ 240 ∧ ∀ v H', 0 ≤ v → v < n → Mv d L H H' → Q (.int v) H'
  | _, _, _, _ => False
def I_dr (d L : Addr) (n : Int) (x : Option V) (H : Hp) : Nat → L2.St → Hp → Prop := fun m σ H' => ∃ (cs : List Int) (z : Int), σ = [some (.ref d), some (.int n), x] ∧ m = cs.length ∧ DealC d L cs z H' ∧ Mv d L H H'
theorem ok_law_draw (T : Txt K mg a_is_integer a_reduced a_value a_law_deal a_law_draw a_law_gcd a_law_lowest a_law_value a_law_made a_law_row a_law_at a_law_refused a_law a_InvalidTerm_init a_Term_init a_Term_degree a_Term_call a_Term_eq a_InvalidTerm a_NotWhole a_FigureError a_Term d_is_integer d_reduced d_value d_law_deal d_law_draw d_law_gcd d_law_lowest d_law_value d_law_made d_law_row d_law_at d_law_refused d_law d_InvalidTerm_init d_Term_init d_Term_degree d_Term_call d_Term_eq) : FnOk P w K mg base CX0 1 a_law_draw d_law_draw ["_law_deal_here", "_law_amount"] sp_law_draw := by
  refine T.F_law_draw.ok sc_law_draw (fun vs H Q E h => ?_) (fun cdv A outer s H vs Q E hr h => ?_)
  · unfold sp_law_draw at h; split at h; rfl; exact h.elim
  · unfold sp_law_draw at h; split at h
    case h_2 => exact h.elim
    rename_i d n
    obtain ⟨L, ⟨cs, z, D⟩, n0, n1, q⟩ := h
    refine ⟨_, (Evl.pss_cut (ps_while PassesOwn.never (PW.pt (pw_and (pt_cmpR (op_neD hr.units) (pe_ix ix_listM (pv 0) pe_int (fun _ _ => rfl)) (pe_lst pa_nil) (nomark _)) (pw_and1 (pt_cmpR op_eq (pe_ix ix_listM (pe_ix ix_listM (pv 0) pe_int (fun _ _ => rfl)) (pe_un un_neg pe_int) (fun _ _ => rfl)) pe_int (nomark _)))))
      (pss_one (ps_expr (pe_bm0 PySem.F.plainAttrs_list PySem.F.slot_list_pop PySem.F.type_list_pop mt_popM (pe_ix ix_listM (pv 0) pe_int (fun _ _ => rfl))))))
      (pss_cons (ps_if (pt_cmpR (op_neD hr.units) (pe_ix ix_listM (pv 0) pe_int (fun _ _ => rfl)) (pe_lst pa_nil) (nomark _))
      (pss_cons (ps_set (i := 2) sc_law_draw.nd rfl (by first | exact .inl rfl | exact .inr rfl) (pe_bm0 PySem.F.plainAttrs_list PySem.F.slot_list_pop PySem.F.type_list_pop mt_popM (pe_ix ix_listM (pv 0) pe_int (fun _ _ => rfl))))
      (pss_cons (ps_expr (pe_bm PySem.F.plainAttrs_list PySem.F.slot_list_append PySem.F.type_list_append mt_appendM (pe_ix ix_listM (pv 0) pe_int (fun _ _ => rfl)) (pa_cons (pe_op op_fdivW (pv 2) (pv 1)) pa_nil)))
      (pss_one (ps_ret (pe_op op_mod (pe_callTy call_intM (by rfl) T.z_int (by decide +kernel) (pa_cons (pv 2) pa_nil)) (pv 1))))))
      pss_nil)
      (pss_cons (ps_asg (pe_op op_mod (pe_callTy call_intM (by rfl) T.z_int (by decide +kernel) (pa_cons (pe_op op_mulX (pe_ix ix_listM (pv 0) pe_int (fun _ _ => rfl)) pe_int) pa_nil)) pe_int) (pg_sub (pv 0) pe_int set_list))
      (pss_one (ps_ret (pe_op op_mod (pe_callTy call_intM (by rfl) T.z_int (by decide +kernel) (pa_cons (pe_op op_fdivW (pe_ix ix_listM (pv 0) pe_int (fun _ _ => rfl)) pe_int) pa_nil)) (pv 1))))))), ?_⟩
    walk_at "st"
    walk_at "vc"
    refine ⟨fun σ H' => ∃ cs z, σ = [some (.ref d), some (.int n), none] ∧ DealC d L cs z H' ∧ Mv d L H H', ⟨I_dr d L n none H, ⟨_, cs, z, rfl, rfl, D, .refl ⟨_, _, D⟩⟩, fun m σ H' hw => ?_⟩, fun σ H' hm => ?_⟩
    · obtain ⟨cs, z, rfl, rfl, D, M⟩ := hw
      walk_at "vc"
      refine ⟨_, sq_of D.d, _, rfl, sz_le (Nat.zero_le _), fun p hp => neLists (xs := cs) (ys := []) ((Ex.new hp).sql (sq_of D.l)) (sq_of upd_same) ?_⟩
      have D := D.ex (Ex.new hp (o := .lst []))
      have M := M.new hp (o := .lst [])
      walk_at "vc"
      refine ite2 (fun hc => ?_) (fun hc => ⟨_, _, D, M⟩)
      obtain ⟨ds, c, rfl⟩ : ∃ ds c, cs = ds ++ [c] := ⟨cs.dropLast, cs.getLast hc, (List.dropLast_concat_getLast hc).symm⟩
      have eL := D.l
      rw [List.map_append] at eL
      refine ⟨_, sq_of D.d, _, rfl, ?_⟩
      walk_at "vc"
      refine ⟨_, sq_of eL, _, atI_last _ _, ?_⟩
      walk_at "vc"
      refine ite2 (fun h0 => ⟨_, fun _ _ hN => hN, ?_⟩) (fun h0 => ⟨_, _, D, M⟩)
      refine ⟨_, sq_of D.d, _, rfl, .inl ⟨rfl, _, sq_of eL⟩, ?_⟩
      walk_at "vc"
      refine ⟨_, eL, V.int c, by simp, _, ?_, ds, z, rfl, rfl, ?_⟩
      · simp
      have D2 : DealC d L ds z (upd (upd H' p (.lst [])) L (.lst (ds.map V.int ++ List.map V.int [c]).dropLast)) :=
        ⟨by rw [upd_ne D.ne]; exact D.d, by rw [upd_same]; simp, fun x hx => D.nn x (List.mem_append_left _ hx), D.z0, D.z1, by have := D.len; simp at this; omega⟩
      exact ⟨D2, M.trans ⟨fun b o h1 h2 h => by rw [upd_ne h2]; exact h, _, _, D2⟩⟩
    · obtain ⟨cs, z, rfl, D, M⟩ := hm
      walk_at "vc"
      refine ⟨_, sq_of D.d, _, rfl, sz_le (Nat.zero_le _), fun p hp => neLists (xs := cs) (ys := []) ((Ex.new hp).sql (sq_of D.l)) (sq_of upd_same) ?_⟩
      have D := D.ex (Ex.new hp (o := .lst []))
      have M := M.new hp (o := .lst [])
      walk_at "vc"
      refine ite2 (fun hc => ?_) (fun hc => ?_)
      · obtain ⟨ds, c, rfl⟩ : ∃ ds c, cs = ds ++ [c] := ⟨cs.dropLast, cs.getLast hc, (List.dropLast_concat_getLast hc).symm⟩
        have eL := D.l
        rw [List.map_append] at eL
        refine ⟨_, sq_of D.d, _, rfl, .inl ⟨rfl, _, sq_of eL⟩, ?_⟩
        walk_at "vc"
        refine ⟨_, eL, V.int c, by simp, ?_⟩
        have D2 : DealC d L ds z (upd (upd H' p (.lst [])) L (.lst (ds.map V.int ++ List.map V.int [c]).dropLast)) :=
          ⟨by rw [upd_ne D.ne]; exact D.d, by rw [upd_same]; simp, fun x hx => D.nn x (List.mem_append_left _ hx), D.z0, D.z1, by have := D.len; simp at this; omega⟩
        have M2 : Mv d L H _ := M.trans ⟨fun b o h1 h2 h => by rw [upd_ne h2]; exact h, _, _, D2⟩
        refine ⟨_, sq_of D2.d, _, rfl, .inl ⟨rfl, _, sq_of D2.l⟩, _, rfl, divOk n0 (by omega), ?_⟩
        walk_at "vc"
        refine ⟨_, D2.l, sz_lt (by have := D2.len; simp; omega), n0, ?_⟩
        have c0 := D.nn c (by simp)
        have D3 : DealC d L (ds ++ [c / n]) z (upd (upd (upd H' p (.lst [])) L (.lst (ds.map V.int ++ List.map V.int [c]).dropLast)) L (.lst (ds.map V.int ++ [.int (c / n)]))) :=
          ⟨by rw [upd_ne D.ne]; exact D2.d, by rw [upd_same]; simp, fun x hx => by
            rcases List.mem_append.mp hx with hx | hx
            · exact D2.nn x hx
            · rw [List.mem_singleton.mp hx]; exact Int.ediv_nonneg c0 (by omega), D.z0, D.z1, by have := D.len; simp at this ⊢; omega⟩
        exact q _ _ (Int.emod_nonneg _ (by omega)) (Int.emod_lt_of_pos _ n0) (M2.trans ⟨fun b o h1 h2 h => by rw [upd_ne h2]; exact h, _, _, D3⟩)
      · refine ⟨_, sq_of D.d, _, rfl, _, rfl, mulOk (by have := D.z0; omega) (by have := D.z1; omega) (by decide) (by decide), by decide, _, D.d, _, rfl, ?_⟩
        have z0 := Int.emod_nonneg (z * 48271) (show (2147483647 : Int) ≠ 0 by decide)
        have z1 := Int.emod_lt_of_pos (z * 48271) (show (0 : Int) < 2147483647 by decide)
        have D2 : DealC d L cs (z * 48271 % 2147483647) (upd (upd H' p (.lst [])) d (.lst ([V.ref L, V.int z].set 1 (.int (z * 48271 % 2147483647))))) :=
          ⟨by rw [upd_same]; rfl, by rw [upd_ne D.ne.symm]; exact D.l, D.nn, z0, z1, D.len⟩
        refine ⟨_, sq_of D2.d, _, rfl, _, rfl, divOk (by decide) (by decide), n0, ?_⟩
        exact q _ _ (Int.emod_nonneg _ (by omega)) (Int.emod_lt_of_pos _ n0) (M.trans ⟨fun b o h1 h2 h => by rw [upd_ne h1]; exact h, _, _, D2⟩)
def sp_reduced (K : PySem.W.Frag) : Sp
  | [.int o, .ref p], H, Q, _ => ∃ cs : List Int, (SqL K H p (cs.map V.int) ∨ SqT K H p (cs.map V.int)) ∧ 1 ≤ o ∧ o < 2 ^ 250 ∧ cs.length ≤ 1000 ∧ ∀ a H', Ex H H' → SqT K H' a ((lowO o cs :: lowC o cs).map V.int) → Q (.ref a) H'
  | _, _, _, _ => False
theorem ok_reduced (T : Txt K mg a_is_integer a_reduced a_value a_law_deal a_law_draw a_law_gcd a_law_lowest a_law_value a_law_made a_law_row a_law_at a_law_refused a_law a_InvalidTerm_init a_Term_init a_Term_degree a_Term_call a_Term_eq a_InvalidTerm a_NotWhole a_FigureError a_Term d_is_integer d_reduced d_value d_law_deal d_law_draw d_law_gcd d_law_lowest d_law_value d_law_made d_law_row d_law_at d_law_refused d_law d_InvalidTerm_init d_Term_init d_Term_degree d_Term_call d_Term_eq) : FnOk P w K mg base CX0 2 a_reduced d_reduced ["over", "coefficients"] (sp_reduced K) := by
  refine T.F_reduced.ok sc_reduced (fun vs H Q E h => ?_) (fun cdv A outer s H vs Q E hr h => ?_)
  · unfold sp_reduced at h; split at h; rfl; exact h.elim
  unfold sp_reduced at h; split at h
  case h_2 => exact h.elim
  rename_i o p
  obtain ⟨cs, hp, o1, o2, hl, q⟩ := h
  refine ⟨_, (pss_cons (ps_set (i := 2) sc_reduced.nd rfl (by first | exact .inl rfl | exact .inr rfl) (pe_callB call_len_seq (by rfl) T.z_len (by decide +kernel) (pa_cons (pv 1) pa_nil)))
      (Evl.pss_cut (ps_while PassesOwn.never (PW.pt (pw_and (pt_cmpR op_gt (pv 2) pe_int (nomark _)) (pw_and1 (pt_cmpR op_eq (pe_ix ix_seq (pv 1) (pe_op op_sub (pv 2) pe_int) (fun _ _ => rfl)) pe_int (nomark _)))))
      (pss_one (ps_set (i := 2) sc_reduced.nd rfl (by first | exact .inl rfl | exact .inr rfl) (pe_op op_sub (pv 2) pe_int))))
      (Evl.pss_cut (ps_set (i := 3) sc_reduced.nd rfl (by first | exact .inl rfl | exact .inr rfl) (pe_callTy call_tuple_of (by rfl) T.z_tuple (by decide +kernel) (pa_cons (pe_slice sl_LT (pv 1) po_none (po_some (pv 2))) pa_nil)))
      (pss_cons (ps_set (i := 4) sc_reduced.nd rfl (by first | exact .inl rfl | exact .inr rfl) (pv 0))
      (Evl.pss_cut (ps_for PassesOwn.never rfl (pi_tup (pv 3)) (pg_name (i := 5) sc_reduced.nd rfl (by first | exact .inl rfl | exact .inr rfl))
      (Evl.pss_cut (ps_if (pt_cmpR op_eq (pv 4) pe_int (nomark _))
      (pss_one ps_break)
      pss_nil)
      (pss_one (ps_set (i := 4) sc_reduced.nd rfl (by first | exact .inl rfl | exact .inr rfl) (pe_callBfun cr_gcd (by rfl) T.g_gcd (pa_cons (pv 4) (pa_cons (pv 5) pa_nil)))))))
      (pss_cons (ps_if (pt_cmpR op_eq (pv 4) pe_int (nomark _))
      (pss_one (ps_ret (pe_op op_catT (pe_tup (pa_cons (pv 0) pa_nil)) (pv 3))))
      pss_nil)
      (pss_one (ps_ret (pe_op op_catT (pe_tup (pa_cons (pe_op op_fdivW (pv 0) (pv 4)) pa_nil)) (pe_callTy call_tuple_of (by rfl) T.z_tuple (by decide +kernel) (pa_cons (pe_lc (own := [("one", 5)]) (g := gName 5) (by rfl) sc_reduced.nd (pi_tup (pv 3)) (blkOk_by (own := [("one", 5)]) (N := N_reduced) (sc := defScope s_reduced) (by decide +kernel)) (fun _ _ _ _ _ => (pg_name (i := 5) sc_reduced.nd rfl (by first | exact .inl rfl | exact .inr rfl))) (fun _ _ _ _ _ => pts_nil) (fun _ _ _ _ _ => (pe_op op_fdivW (pv 5) (pv 4)))) pa_nil))))))))))), ?_⟩
  walk_at "st"
  walk_at "vc"
  refine ⟨cs.map V.int, hp, ?_⟩
  refine ⟨fun σ H' => H' = H ∧ ∃ m : Nat, σ = [some (.int o), some (.ref p), some (.int m), none, none, none] ∧ m ≤ cs.length ∧ strip cs = cs.take m, ⟨fun k σ H' => H' = H ∧ ∃ m : Nat, k = m ∧ σ = [some (.int o), some (.ref p), some (.int m), none, none, none] ∧ m ≤ cs.length ∧ strip (cs.take m) = strip cs, ⟨cs.length, rfl, cs.length, rfl, by rw [List.length_map], Nat.le_refl _, by rw [List.take_length]⟩, fun k σ H' hw => ?_⟩, fun σ H' hm => ?_⟩
  · obtain ⟨rfl, m, rfl, rfl, hm, hs⟩ := hw
    walk_at "vc"
    refine ite2 (fun m0 => ?_) (fun m0 => ?_)
    · obtain ⟨j, rfl⟩ : ∃ j, k = j + 1 := ⟨k - 1, by omega⟩
      have hj : j < cs.length := by omega
      have e1 : cs.take (j + 1) = cs.take j ++ [cs[j]] := by rw [List.take_add_one, List.getElem?_eq_getElem hj]; rfl
      refine ix_any hp (by rw [show (((j + 1 : Nat) : Int) - 1) = (j : Int) by omega]; exact atI_nat (by rw [List.getElem?_map, List.getElem?_eq_getElem hj]; rfl)) ⟨rfl, ?_⟩
      rw [e1] at hs
      refine ite2 (fun h0 => ?_) (fun h0 => ?_)
      · have h0 : cs[j] = 0 := V.int.inj h0
        rw [h0, strip_snoc0] at hs
        exact ⟨_, fun _ _ hN => hN, j, by omega, rfl, by rw [show (((j + 1 : Nat) : Int) - 1) = (j : Int) by omega], by omega, hs⟩
      · have h0 : cs[j] ≠ 0 := fun e => h0 (by rw [e])
        rw [strip_snoc h0] at hs
        exact ⟨rfl, j + 1, rfl, hm, by rw [e1, hs]⟩
    · have : k = 0 := by omega
      subst this
      exact ⟨0, rfl, hm, by rw [← hs]; rfl⟩
  obtain ⟨rfl, m, rfl, hm, hs⟩ := hm
  refine ⟨fun σ H1 => ∃ l, σ = [some (.int o), some (.ref p), some (.int m), some (.ref l), none, none] ∧ Ex H' H1 ∧ SqT K H1 l ((strip cs).map V.int), ?_, fun σ H1 hm1 => ?_⟩
  · walk_at "vc"
    have ec : cutV (cs.map V.int) none (some (m : Int)) = (strip cs).map V.int := by rw [cut_hi, hs]
    rcases hp with hL | hT
    · refine .inl ⟨_, hL, fun r hr => ⟨r, rfl, _, .inl ⟨sq_of upd_same, fun t ht => ?_⟩⟩⟩
      rw [ec] at ht ⊢
      exact ⟨(Ex.new hr).trans (Ex.new ht), st_of upd_same⟩
    · refine .inr (slA_of hT fun t H2 e2 s2 => ⟨t, rfl, _, .inr ⟨s2, e2, ?_⟩⟩)
      rw [ec] at s2
      exact s2
  obtain ⟨l, rfl, e1, hk⟩ := hm1
  have hkl : (strip cs).length ≤ 1000 := Nat.le_trans (strip_len cs) hl
  walk_at "vc"
  refine ⟨fun σ H2 => H1 = H2 ∧ ∃ s5, σ = [some (.int o), some (.ref p), some (.int m), some (.ref l), some (.int (share o (strip cs))), s5], ?_, fun σ H2 hm2 => ?_⟩
  · refine ⟨_, rfl, l, rfl, ⟨_, hk⟩, ?_⟩
    refine for_tup (xs := (strip cs).map V.int) (fun i σ H2 => H1 = H2 ∧ ∃ s5, σ = [some (.int o), some (.ref p), some (.int m), some (.ref l), some (.int (share o ((strip cs).take i))), s5]) ⟨rfl, _, rfl⟩ (fun i σ H2 _ hv => by obtain ⟨rfl, _⟩ := hv; exact hk) (fun i v σ H2 hi hv => ?_) (fun σ H2 hv => ?_)
    · obtain ⟨rfl, s5, rfl⟩ := hv
      rw [List.getElem?_map] at hi
      obtain ⟨c, hc, rfl⟩ := Option.map_eq_some_iff.mp hi
      walk_at "vc"
      have et : (strip cs).take (i + 1) = (strip cs).take i ++ [c] := by rw [List.take_add_one, hc]; rfl
      refine ⟨fun σ H2 => H1 = H2 ∧ σ = [some (.int o), some (.ref p), some (.int m), some (.ref l), some (.int (share o ((strip cs).take i))), some (.int c)], ?_, fun σ H2 hm3 => ?_⟩
      · walk_at "vc"
        refine ite2 (fun h1 => ?_) (fun h1 => trivial)
        refine ⟨rfl, some (.int c), ?_⟩
        rw [show share o (strip cs) = share o ((strip cs).take i) by
          conv => lhs; rw [← List.take_append_drop i (strip cs), share_app, h1, share_one]
          exact h1.symm]
      · obtain ⟨rfl, rfl⟩ := hm3
        walk_at "vc"
        exact ⟨_, _, rfl, rfl, by rw [et, share_snoc], _, rfl⟩
    · obtain ⟨rfl, s5, rfl⟩ := hv
      rw [List.length_map, List.take_length]
      exact ⟨rfl, _, rfl⟩
  obtain ⟨rfl, s5, rfl⟩ := hm2
  walk_at "vc"
  have sp := share_pos (strip cs) o1
  have sl := share_le (strip cs) o1
  refine ite2 (fun h1 => ?_) (fun h1 => ?_)
  · refine ⟨sz_le (by simp), fun t ht => ?_⟩
    refine catT_of (st_of upd_same) ((Ex.new ht).sqt hk) (by simp) (sz_le (by simp; omega)) fun t2 H2 e2 s2 => q t2 H2 ((e1.trans (Ex.new ht)).trans e2) ?_
    have eo : lowO o cs = o := by unfold lowO; rw [h1]; simp
    have el : lowC o cs = strip cs := by unfold lowC; rw [h1]; simp
    rw [eo, el]
    exact s2
  · refine ⟨divOk (by omega) (by omega), sz_le (by simp), fun t ht => ?_⟩
    have e2 := Ex.new ht (o := .tup [.int (o / share o (strip cs))])
    refine ⟨_, rfl, l, rfl, ⟨_, e2.sqt hk⟩, fun D hD => ?_⟩
    refine lc_it (walk_tup (xs := (strip cs).map V.int)) (fun i H2 => H2 D = some (.lst ((((strip cs).take i).map (· / share o (strip cs))).map V.int)) ∧ Ex (upd H1 t (.tup [.int (o / share o (strip cs))])) H2) ⟨upd_same, Ex.new hD⟩ (fun i H' _ hP => hP.2.sqt (e2.sqt hk)) (fun j u H6 H7 hj hP y => ?_) (fun H6 hP => ?_)
    · obtain ⟨rfl, hv2⟩ := y
      obtain ⟨g1, g4⟩ := hP
      rw [List.getElem?_map] at hv2
      obtain ⟨c, hc, rfl⟩ := Option.map_eq_some_iff.mp hv2
      walk_at "vc"
      refine ⟨divOk (by omega) (by omega), _, g1, sz_lt (by rw [List.length_map, List.length_map, List.length_take]; omega), ?_, g4.mut hD⟩
      rw [upd_same, List.take_add_one, hc, List.map_append, List.map_append]
      rfl
    · obtain ⟨g1, g4⟩ := hP
      rw [List.length_map, List.take_length] at g1
      refine ⟨D, rfl, _, .inl ⟨sq_of g1, fun l2 hl2 => ?_⟩⟩
      have e6 := Ex.new hl2 (o := .tup (((strip cs).map (· / share o (strip cs))).map V.int))
      refine catT_of (st_of (e6 _ _ (g4 _ _ upd_same))) (st_of upd_same) (by simp) (sz_le (by simp; omega)) fun t2 H2 e7 s2 => q t2 H2 (((e1.trans e2).trans g4).trans (e6.trans e7)) ?_
      exact s2
end
end My
set_option Elab.async false
set_option linter.all false
set_option maxRecDepth 100000
set_option maxHeartbeats 4000000
/-! a builtin method's call in a comprehension: its promise names the fragment itself -/
namespace My
open PySem PySem.Spec PyProof.Rows L2 Evl
section
variable {X : Cx} {K : PySem.W.Frag} {T name id : String} {o e : Expr} {es : List Expr} {to : TE} {t : TA} {apos cpos : Pos} {r : V → List V → Hp → VK → Prop}
theorem pe_bmK (hK : X.K = K) (pa : PlainAttrs T) (slot : Slot T name id) (hty : typeOf (.builtin id) = pure (.type "method_descriptor")) (hm : MtR X id r) (ho : PE X o to) (ha : PA X (e :: es) t)
    (hbase : attributeBase o name X.env (eval o X.env) = eval o X.env := by rfl)
    (hfew : ((backTo cpos (starEach (e :: es) X.env)).all (fun x => !x.1) && (backToKw cpos (keywordEach [] X.env)).all (fun x => x.1.isSome)
      && decide ((e :: es).length + ([] : List Keyword).length + (if ([] : List Keyword).isEmpty then 0 else 1) < 30)) = true := by rfl)
    (hline : (apos.endLine == cpos.line) = true := by rfl) (hs : starEach (e :: es) X.env = (false, eval e X.env) :: starEach es X.env := by rfl) (hplain : (backTo cpos (starEach es X.env)).any (·.1) = false := by rfl) :
    PE X (.Call (.Attribute o name apos) (e :: es) [] cpos) (tBM K T r to t) := by
  subst hK
  exact pe_bm pa slot hty hm ho ha hbase hfew hline hs hplain
theorem mt_joinK (hK : X.K = K) : MtR X "str.join" (fun x xs H Q => ∃ a p, ∃ ys : List Str, x = .str a ∧ xs = [.ref p] ∧ (SqL K H p (ys.map V.str) ∨ SqT K H p (ys.map V.str)) ∧
    (ys.map (·.length)).sum + ys.length * a.length ≤ 16777216 ∧ Q (.str (Txt.join a ys)) H) := by
  subst hK
  exact mt_join
end
end My
set_option Elab.async false
set_option linter.all false
set_option maxRecDepth 100000
set_option maxHeartbeats 4000000
/-! a text times 0 or 1 -/
namespace My
open PySem PySem.Spec PyProof.Rows L2 Evl
section
variable {X : Cx}
theorem op_mulS : OpR X (binaryOp .Mult) (fun x y H Q => ∃ z n, x = .str z ∧ y = .int n ∧ (n = 0 ∨ n = 1) ∧ Q (.str (if n = 1 then z else Str.empty)) H) := by
  intro pins s σ H x y v u Q I rx ry h
  obtain ⟨z, n, rfl, rfl, hn, q⟩ := h
  obtain ⟨t, rfl⟩ := rx
  obtain ⟨t', rfl⟩ := ry
  refine SB.mul ?_ fun t' k => ?_
  · rcases hn with rfl | rfl
    · exact ⟨by decide, fun h => absurd (show (0 : Int) < 1 by decide) h, fun h => absurd (show (0 : Int) < 1 by decide) h⟩
    · exact ⟨by decide, fun _ h => by simp at h, fun _ h => by simp at h⟩
  · rcases hn with rfl | rfl
    · rw [if_neg (by decide)] at q
      have e : Txt.mul z 0 = Str.empty := by unfold Txt.mul; rw [if_pos (by decide)]
      rw [e]
      exact ⟨.str Str.empty, H, I.tok _, ⟨_, rfl⟩, q⟩
    · rw [if_pos rfl] at q
      have e : Txt.mul z 1 = z := by unfold Txt.mul; rw [if_neg (by decide), if_pos (by rfl)]
      rw [e]
      exact ⟨.str z, H, I.tok _, ⟨_, rfl⟩, q⟩
end
theorem walk_enumT {K : PySem.W.Frag} {a : Addr} {xs : List V} : Walk (IteT K a) xs.length (fun H => SqT K H a xs) (YPair (fun i => some (.int (i : Nat))) (fun i => xs[i]?)) := by
  refine ⟨fun i _ hi q => ⟨xs, xs[i], q, by simp [hi]⟩, fun _ q => ⟨xs, q, Nat.le_refl _⟩, fun i H v H' _ q y => ?_⟩
  obtain ⟨T, x, h1, h2, h3, h4⟩ := y
  exact ⟨T, .int (i : Nat), x, h1, h2, h3, rfl, h4 xs q⟩
end My
set_option Elab.async false
set_option linter.all false
set_option maxRecDepth 100000
set_option maxHeartbeats 4000000
/-! t[:0:-1] of a tuple that is not empty: all but the first, backwards -/
namespace My
open PySem PySem.Spec PyProof.Rows L2 Evl
section
variable {prog : Program} {w : World} {A : Around} {E : Value → Shared → Prop} {s : Shared}
theorem fm_congr {α β : Type} {f g : α → Option β} : ∀ (l : List α), (∀ k ∈ l, f k = g k) → l.filterMap f = l.filterMap g
  | [], _ => rfl
  | k :: l, h => by
    rw [List.filterMap_cons, List.filterMap_cons, h k (by simp), fm_congr l fun z hz => h z (by simp [hz])]
theorem tailPick (v : Value) (vs : List Value) : ((List.range vs.length).filterMap fun (k : Nat) => ((v :: vs).toArray)[((((v :: vs).toArray).size : Int) - 1 + (k : Int) * (-1)).toNat]?).toArray = vs.reverse.toArray := by
  have h := revPick vs.toArray vs.length (by simp)
  have e : (fun (k : Nat) => ((v :: vs).toArray)[((((v :: vs).toArray).size : Int) - 1 + (k : Int) * (-1)).toNat]?) = fun k : Nat => if k < vs.length then (vs.toArray)[((vs.length : Int) - 1 + (k : Int) * (-1)).toNat]? else ((v :: vs).toArray)[((((v :: vs).toArray).size : Int) - 1 + (k : Int) * (-1)).toNat]? := by
    funext k
    by_cases hk : k < vs.length
    · rw [if_pos hk]
      have : ((((v :: vs).toArray).size : Int) - 1 + (k : Int) * (-1)).toNat = ((vs.length : Int) - 1 + (k : Int) * (-1)).toNat + 1 := by
        simp
        omega
      rw [this]
      simp
    · rw [if_neg hk]
  have e2 : ((List.range vs.length).filterMap fun (k : Nat) => ((v :: vs).toArray)[((((v :: vs).toArray).size : Int) - 1 + (k : Int) * (-1)).toNat]?) = ((List.range vs.length).filterMap fun (k : Nat) => (vs.toArray)[((vs.length : Int) - 1 + (k : Int) * (-1)).toNat]?) := by
    rw [e]
    refine fm_congr _ fun k hk => ?_
    rw [if_pos (List.mem_range.mp hk)]
  rw [e2, h]
theorem tupTail {t sl : Addr} {v0 : Value} {rest : List Value} {vl vu vs : Value} {R : Value → Shared → Prop} (ht : IsTup s.heap t (v0 :: rest).toArray) (hs : s.heap.IsSliceOf sl vl vu vs) (pl : IsPart vl none) (pu : IsPart vu (some 0)) (ps : IsPart vs (some (-1))) (hz : rest.length ≤ sizeLine)
    (h : R (.ref s.heap.objs.size) { s with heap := s.heap.push { cls := .type "tuple", data := .seq rest.reverse.toArray } }) : wpAny (model prog w) A (getItem (.ref t) (.ref sl)) R E s := by
  have hT : s.TypeIs (.ref sl) "slice" := by
    obtain ⟨ob, h1, h2, _⟩ := hs
    exact ⟨ob, h1, h2⟩
  have ok : sizeOk (.seq rest.reverse.toArray) := by
    show rest.reverse.toArray.size ≤ sizeLine
    rw [List.size_toArray, List.length_reverse]
    exact hz
  unfold getItem
  try with_reducible refine wpAny_holding ?_
  first | refine wpAny_bind (wpAny_pure ?_) | skip
  refine wpAny_bind (wpAny_sequenceKey ht.typeIs (by decide) ?_)
  refine wpAny_bind (wpAny_callSpecial?_slot (name := Str.ofString "__getitem__") ht.typeIs slot_tuple_getitem (wpAny_call_entry slot_tuple_getitem ht.typeIs entry_tuple_getitem ?_ (args_tuple_getitem _ _)))
  show wpAny _ _ (Builtin.Tuple.tupleItemsOf (.ref t) >>= _) _ _ s
  refine wpAny_bind (tupleItemsOf_ ht (wpAny_bind (wpAny_typeOf hT ?_)))
  rw [if_pos (by decide)]
  refine wpAny_bind (slParts (c := -1) hs pl pu ps rfl (by decide) ?_)
  have en : (((v0 :: rest).toArray.size : Nat) : Int) = (rest.length : Int) + 1 := by simp
  have e1 : Builtin.Slice.sliceAdjust none (some 0) (-1) (((v0 :: rest).toArray.size : Nat) : Int) = ((((v0 :: rest).toArray.size : Nat) : Int) - 1, 0) := by
    unfold Builtin.Slice.sliceAdjust
    rw [en]
    simp
    omega
  have e2 : Builtin.Slice.slicePlaces ((((v0 :: rest).toArray.size : Nat) : Int) - 1) 0 (-1) = rest.length := by
    rw [en]
    unfold Builtin.Slice.slicePlaces
    rw [if_neg (by decide)]
    by_cases h0 : ((rest.length : Int) + 1) - 1 > 0
    · rw [if_pos h0]
      have : (((rest.length : Int) + 1) - 1 - 0 - 1) / (- -1) = (rest.length : Int) - 1 := by
        rw [show (- -1 : Int) = 1 by decide, Int.ediv_one]; omega
      rw [this]; omega
    · rw [if_neg h0]; omega
  rw [e1]
  show wpAny _ _ (if ((((((v0 :: rest).toArray.size : Nat) : Int) - 1 == 0) && ((-1 : Int) == 1)) && (Builtin.Slice.slicePlaces ((((v0 :: rest).toArray.size : Nat) : Int) - 1) 0 (-1) == (v0 :: rest).toArray.size)) = true then _ else _) _ _ s
  have no : ¬ ((((((v0 :: rest).toArray.size : Nat) : Int) - 1 == 0) && ((-1 : Int) == 1)) && (Builtin.Slice.slicePlaces ((((v0 :: rest).toArray.size : Nat) : Int) - 1) 0 (-1) == (v0 :: rest).toArray.size)) = true := by
    rw [show ((-1 : Int) == 1) = false by decide]; simp
  rw [if_neg no, e2, tailPick]
  first
    | exact wpAny_bind (m := Builtin.Tuple.tupleExact _) (wpAny_newObj_type (wpAny_pure ⟨_, rfl, wpAny_pure h⟩) ok)
    | exact wpAny_bind (m := Builtin.Tuple.tupleExact _) (wpAny_newObj_type (wpAny_bind (wpAny_pure (wpAny_pure ⟨_, rfl, wpAny_pure h⟩))) ok)
    | exact wpAny_bind (wpAny_bind (m := Builtin.Tuple.tupleExact _) (wpAny_newObj_type (wpAny_pure (wpAny_pure ⟨_, rfl, wpAny_pure h⟩)) ok))
    | exact wpAny_bind (wpAny_bind (m := Builtin.Tuple.tupleExact _) (wpAny_newObj_type (wpAny_pure ⟨_, rfl, wpAny_pure h⟩) ok))
end
section
variable {X : Cx}
/-- t[:0:-1] of a tuple -/
def tTailT (K : PySem.W.Frag) (te : TE) : TE := fun σ H Q => te σ H fun x H1 => ∃ a y xs, x = .ref a ∧ SqT K H1 a (y :: xs) ∧ ∀ t H2, Ex H1 H2 → SqT K H2 t xs.reverse → Q (.ref t) H2
theorem pe_tailT {e : Expr} {te : TE} {k k2 : Nat} {p0 p1 p2 p3 pos : Pos} (he : PE X e te) : PE X (.Subscript e (.Slice none (some (.Constant (.int 0) k2 p0)) (some (.UnaryOp .USub (.Constant (.int 1) k p1) p2)) p3) pos) (tTailT X.K te) := by
  refine ⟨fun pins s σ H Q I h => Subscript_ (thn (he.run pins s σ H _ I h) fun v s1 ⟨x, H1, I1, r1, a, y, xs, ex, hx, q⟩ => ?_)⟩
  subst ex
  cases r1
  have step : PO X (some (.UnaryOp .USub (.Constant (.int 1) k p1) p2)) (tPart (tUn (rU fun i => .int (-i)) (tC (.int 1)))) := po_some (pe_un un_neg pe_int)
  have stop : PO X (some (.Constant (.int 0) k2 p0)) (tPart (tC (.int 0))) := po_some pe_int
  refine wpAny_Slice (thn (po_none.run pins s1 σ H1 (fun o G => o = none ∧ G = H1) I1 ⟨rfl, rfl⟩) fun vl s2 ⟨o2, H2, I2, pl, e2, g2⟩ => ?_)
  subst e2 g2
  refine thn (stop.run pins s2 σ H2 (fun o G => o = some 0 ∧ G = H2) I2 ⟨0, rfl, rfl, rfl⟩) fun vu s3 ⟨o3, H3, I3, pu, e3, g3⟩ => ?_
  subst e3 g3
  refine thn (step.run pins s3 σ H3 (fun o G => o = some (-1) ∧ G = H3) I3 ⟨1, rfl, -1, rfl, rfl, rfl⟩) fun vs s4 ⟨o4, H4, I4, ps, e4, g4⟩ => ?_
  subst e4 g4
  generalize hs5 : ({ s4 with heap := s4.heap.push { cls := .type "slice", data := .fields #[vl, vu, vs] } } : Shared) = s5
  have I5 : Inv X pins σ H4 s5 := by rw [← hs5]; exact I4.kept (t' := s4.toks) fun b ob q => Heap.get?_push_of_some _ q
  have hsl : s5.heap.IsSliceOf s4.heap.objs.size vl vu vs := by rw [← hs5]; exact Heap.IsSliceOf.new _ vl vu vs
  obtain ⟨its, r, ht, hz⟩ := I5.tuple hx
  cases r with
  | @cons _ v0 _ rest r0 rr =>
    have hlen := rr.length
    show wpAny (model X.prog X.w) X.A (subscriptTail e (.Slice none (some (.Constant (.int 0) k2 p0)) (some (.UnaryOp .USub (.Constant (.int 1) k p1) p2)) p3) (.ref a) (.ref s4.heap.objs.size)) (EP X pins σ Q) X.xe _
    have hz' : xs.length ≤ sizeLine := by simp at hz; omega
    refine tail_any (ops := [.ref a, .ref s4.heap.objs.size]) ht.typeIs slot_tuple_getitem.lookup (tupTail ht hsl pl pu ps (by omega) ?_) (by with_unfolding_all rfl)
    have hn := I5.hok.fresh (Nat.le_refl s5.heap.objs.size)
    refine ⟨.ref _, _, I5.laid (t' := s5.toks) (o := .tup xs.reverse) (fun b ob q => Heap.get?_push_of_some _ q) (Nat.le_refl _) ?_, rfl, q _ _ (Ex.new hn) (st_of upd_same)⟩
    exact ⟨by rw [List.length_reverse]; exact hz', _, (show Vals xs rest from rr).reverse, IsTup.new _ _⟩
/-- repr(b) of a bool -/
def rReprB : List V → Hp → VK → Prop := fun xs H Q => ∃ b : Bool, xs = [.bl b] ∧ Q (.str (if b then "True" else "False")) H
theorem call_reprB : CallR X (.builtin "repr") rReprB := by
  intro pins s σ H xs us Q I r h
  obtain ⟨b, rfl, q⟩ := h
  obtain ⟨u, rfl, ru⟩ := r.one
  cases ru
  exact PySem.P.repr_of_bool ⟨.str (if b then "True" else "False"), H, I.tok _, ⟨_, rfl⟩, q⟩
end
end My
set_option Elab.async false
set_option linter.all false
set_option maxRecDepth 100000
set_option maxHeartbeats 4000000
set_option exponentiation.threshold 5000
/-! f(e, ..) where f gives an object of an own class with __call__ -/
namespace My
open PySem PySem.Spec PyProof.Rows L2 Evl
theorem mulOk20 {i j : Int} (a0 : -(2 ^ 2000) < i) (a1 : i < 2 ^ 2000) (b0 : -(2 ^ 2000) < j) (b1 : j < 2 ^ 2000) : CMulX i j :=
  mulx_ok (nab a0 a1) (nab b0 b1) (by decide)
section
variable {X : Cx}
def tCallK (C : Addr) (sp : Sp) (E : XK) (tf : TE) (t : TA) : TE := fun σ H Q => tf σ H fun y H1 => ∃ a, y = V.ref a ∧ t σ H1 fun vs H2 => (∃ dx fs, H2 a = some (.ins C dx fs)) ∧ sp (V.ref a :: vs) H2 Q E
theorem pe_callK {K : PySem.W.Frag} {CX : CXT} {k : Nat} {C g : Addr} {sp : Sp} {E : XK} {fe e : Expr} {es : List Expr} {tf : TE} {t : TA} {pos : Pos} (hf : PE X fe tf) (c : StX.CallO K C g) (F : FnR X.prog X.w X.K X.mg X.base CX k g sp) (hr : Room k X.A) (hx : Passes CX X E) (ha : PA X (e :: es) t) (hK : X.K = K := by rfl)
    (ht : eval (.Call fe (e :: es) [] pos) X.env = (do callWith pos (← eval fe X.env) [] (backTo pos (starEach (e :: es) X.env)) (backToKw pos (keywordEach [] X.env))) := by rfl)
    (he : starEach (e :: es) X.env = (false, eval e X.env) :: starEach es X.env := by rfl) (hpl : (backTo pos (starEach es X.env)).any (·.1) = false := by rfl) : PE X (.Call fe (e :: es) [] pos) (tCallK C sp E tf t) := by
  subst hK
  refine ⟨fun pins s σ H Q I h => ?_⟩
  refine Call_ (thn (hf.run pins s σ H _ I h) fun u s1 ⟨y, H1, I1, ry, a, ey, q⟩ => ?_) ht
  subst ey
  obtain rfl : u = Value.ref a := ry
  refine StX.callO_with (thn (ha.run pos pins s1 σ H1 _ I1 q) fun us s2 ⟨vs, H2, I2, r, hi, q2⟩ => ?_) he hpl
  obtain ⟨dx, fs, hi⟩ := hi
  obtain ⟨ox, od, J, hd⟩ := StX.insC_at I2 (.inr ⟨dx, fs, hi⟩)
  exact ⟨⟨C, ox, od, J, hd⟩, StX.run_callO c F hr hx I2 (.inr ⟨dx, fs, hi⟩) r q2⟩
end
section
variable {X : Cx}
/-- the same, where what it raises is taken -/
def tCallS2 (C : Addr) (sp : Sp) (E : L2.St → XK) (tf : TE) (t : TA) : TE := fun σ H Q => tf σ H fun y H1 => ∃ a, y = V.ref a ∧ t σ H1 fun vs H2 => (∃ dx fs, H2 a = some (.ins C dx fs)) ∧ sp (V.ref a :: vs) H2 Q (E σ)
theorem run_callS2 {CX : CXT} {k : Nat} {C g a : Addr} {sp : Sp} {E : XK} {pins : List (Addr × Obj)} {σ : L2.St} {H : Hp} {s : Shared} {Q : VK} {us : List Value} {vs : List V} (c : StX.CallO X.K C g) (F : FnR X.prog X.w X.K X.mg X.base CX k g sp) (hr : Room k X.A) (hx : PassesAt CX X σ E) (I : Inv X pins σ H s) (hi : ∃ dx fs, H a = some (.ins C dx fs)) (r : Vals vs us)
    (h : sp (V.ref a :: vs) H Q E) : wpAny (model X.prog X.w) X.A (call (.ref a) us) (EP X pins σ Q) X.xe s := by
  obtain ⟨dx, fs, hi⟩ := hi
  obtain ⟨ox, od, J, hd⟩ := StX.insC_at I (.inr ⟨dx, fs, hi⟩)
  exact wpAny_call (PySem.W.kco_code I.kIn J hd c.at_ c.fn c.fi (run_atS (E := fun _ => E) (us := .ref a :: us) (ws := .ref a :: vs) F hr I.env0 hx I (.cons rfl r) h))
theorem pe_callS2 {K : PySem.W.Frag} {CX : CXT} {k : Nat} {C g : Addr} {sp : Sp} {E : L2.St → XK} {fe e : Expr} {es : List Expr} {tf : TE} {t : TA} {pos : Pos} (hf : PE X fe tf) (c : StX.CallO K C g) (F : FnR X.prog X.w X.K X.mg X.base CX k g sp) (hr : Room k X.A) (hx : ∀ σ, PassesAt CX X σ (E σ)) (ha : PA X (e :: es) t) (hK : X.K = K := by rfl)
    (ht : eval (.Call fe (e :: es) [] pos) X.env = (do callWith pos (← eval fe X.env) [] (backTo pos (starEach (e :: es) X.env)) (backToKw pos (keywordEach [] X.env))) := by rfl)
    (he : starEach (e :: es) X.env = (false, eval e X.env) :: starEach es X.env := by rfl) (hpl : (backTo pos (starEach es X.env)).any (·.1) = false := by rfl) : PE X (.Call fe (e :: es) [] pos) (tCallS2 C sp E tf t) := by
  subst hK
  refine ⟨fun pins s σ H Q I h => ?_⟩
  refine Call_ (thn (hf.run pins s σ H _ I h) fun u s1 ⟨y, H1, I1, ry, a, ey, q⟩ => ?_) ht
  subst ey
  obtain rfl : u = Value.ref a := ry
  refine StX.callO_with (thn (ha.run pos pins s1 σ H1 _ I1 q) fun us s2 ⟨vs, H2, I2, r, hi, q2⟩ => ?_) he hpl
  obtain ⟨dx, fs, hi'⟩ := hi
  obtain ⟨ox, od, J, hd⟩ := StX.insC_at I2 (.inr ⟨dx, fs, hi'⟩)
  exact ⟨⟨C, ox, od, J, hd⟩, run_callS2 c F hr (hx σ) I2 ⟨dx, fs, hi'⟩ r q2⟩
end
theorem callO_of {K : PySem.W.Frag} {C g : Addr} {x qual : Str} {st : Stmt} {fd : FuncData} (h : MethC K "__call__" C g) (F : Fun K x qual st g fd) : StX.CallO K C g := by
  obtain ⟨oc, od, kV, doc, pm, an, cdv, ct, osl, rfl, hl, _⟩ := F.ex
  refine ⟨h.at_, h.fn, ?_⟩
  unfold PySem.W.fnIn
  rw [hl]
end My
set_option Elab.async false
set_option linter.all false
/-! Horner's way: a polynomial told from its last coefficient on -/
namespace My
theorem strip_getD : ∀ (xs : List Int) (n : Nat), (strip xs).getD n 0 = xs.getD n 0
  | [], n => rfl
  | c :: cs, n => by
    have ih := strip_getD cs
    by_cases e : strip cs = []
    · have hz : ∀ m, cs.getD m 0 = 0 := fun m => by rw [← ih m, e]; rfl
      rw [strip, if_pos e]
      split
      · rename_i h
        cases n with
        | zero => rw [List.getD_cons_zero, h]; rfl
        | succ n => rw [List.getD_cons_succ, hz]; rfl
      · cases n with
        | zero => rfl
        | succ n => rw [List.getD_cons_succ, List.getD_cons_succ, hz]; rfl
    · rw [strip_cons_ne e]
      cases n with
      | zero => rfl
      | succ n => rw [List.getD_cons_succ, List.getD_cons_succ, ih]
theorem strip_nil_iff : ∀ {xs : List Int}, (∀ n, xs.getD n 0 = 0) → strip xs = []
  | [], _ => rfl
  | c :: cs, h => by
    have h0 := h 0
    rw [List.getD_cons_zero] at h0
    have ht := strip_nil_iff (xs := cs) fun n => by have := h (n + 1); rwa [List.getD_cons_succ] at this
    rw [strip, if_pos ht, if_pos h0]
theorem strip_ext : ∀ {xs ys : List Int}, (∀ n, xs.getD n 0 = ys.getD n 0) → strip xs = strip ys
  | [], ys, h => by rw [strip_nil_iff (xs := ys) fun n => by rw [← h n]; rfl]; rfl
  | c :: cs, [], h => by rw [strip_nil_iff (xs := c :: cs) fun n => by rw [h n]; rfl]; rfl
  | c :: cs, d :: ds, h => by
    have h0 := h 0
    rw [List.getD_cons_zero, List.getD_cons_zero] at h0
    have ht := strip_ext (xs := cs) (ys := ds) fun n => by have := h (n + 1); rwa [List.getD_cons_succ, List.getD_cons_succ] at this
    rw [strip, strip, ht, h0]
theorem getD_app0 (xs : List Int) (k n : Nat) : (xs ++ List.replicate k 0).getD n 0 = xs.getD n 0 := by
  rw [List.getD_eq_getElem?_getD, List.getD_eq_getElem?_getD, List.getElem?_append]
  split
  · rfl
  · rename_i h
    rw [List.getElem?_replicate, List.getElem?_eq_none (by omega)]
    split <;> rfl
theorem getD_zip (p q : Int) : ∀ (xs ys : List Int) (n : Nat), xs.length = ys.length → (List.zipWith (fun a c => a * p + c * q) xs ys).getD n 0 = xs.getD n 0 * p + ys.getD n 0 * q
  | [], [], n, _ => by simp
  | x :: xs, y :: ys, 0, _ => by simp
  | x :: xs, y :: ys, n + 1, h => by
    rw [List.zipWith_cons_cons, List.getD_cons_succ, List.getD_cons_succ, List.getD_cons_succ, getD_zip p q xs ys n (by simpa using h)]
  | [], _ :: _, _, h => by cases h
  | _ :: _, [], _, h => by cases h
theorem addL_getD (p q : Int) (xs ys : List Int) (n : Nat) : (addL p q xs ys).getD n 0 = xs.getD n 0 * p + ys.getD n 0 * q := by
  unfold addL
  rw [getD_zip p q _ _ n (by rw [pad_len, pad_len]; omega)]
  unfold pad
  rw [getD_app0, getD_app0]
theorem getD_set {f : List Int} {k : Nat} (v : Int) (n : Nat) (h : k < f.length) : (f.set k v).getD n 0 = if n = k then v else f.getD n 0 := by
  rw [List.getD_eq_getElem?_getD, List.getD_eq_getElem?_getD, List.getElem?_set]
  by_cases e : k = n
  · subst e
    simp [h]
  · rw [if_neg e, if_neg (fun z => e z.symm)]
theorem mulF_shift : ∀ (xs f : List Int) (k n : Nat), k + xs.length + 2 ≤ f.length + 1 → (mulF k xs [0, 1] f).getD n 0 = f.getD n 0 + (if n < k + 1 then 0 else xs.getD (n - (k + 1)) 0)
  | [], f, k, n, _ => by rw [mulF]; split <;> simp
  | x :: xs, f, k, n, h => by
    simp only [List.length_cons] at h
    rw [mulF, mulF_shift xs _ (k + 1) n (by rw [rowL_len]; omega)]
    simp only [rowL]
    have hk : k < f.length := by omega
    rw [getD_set _ n (by rw [List.length_set]; omega), getD_set _ n hk, getD_set _ (k + 1) hk]
    rw [if_neg (show ¬ (k + 1 = k) by omega)]
    by_cases e1 : n = k + 1
    · subst e1
      simp
    · by_cases e2 : n = k
      · subst e2
        rw [if_neg e1, if_pos rfl, if_pos (by omega), if_pos (by omega)]
        simp
      · rw [if_neg e1, if_neg e2]
        by_cases e3 : n < k + 1
        · rw [if_pos e3, if_pos (by omega)]
        · rw [if_neg e3, if_neg (by omega), show n - (k + 1) = (n - (k + 1 + 1)) + 1 by omega, List.getD_cons_succ]
theorem mulZ_shift (xs : List Int) : strip (mulZ xs [0, 1]) = strip (0 :: xs) := by
  apply strip_ext
  intro n
  unfold mulZ
  rw [mulF_shift xs _ 0 n (by simp)]
  have hz : (List.replicate (xs.length + [(0 : Int), 1].length) (0 : Int)).getD n 0 = 0 := by
    have := getD_app0 [] (xs.length + [(0 : Int), 1].length) n
    simpa using this
  rw [hz]
  cases n with
  | zero => simp
  | succ n => rw [if_neg (by omega), List.getD_cons_succ]; simp
theorem lowM_one (cs : List Int) : lowM 1 cs = (1, strip cs) := by
  unfold lowM lowO lowC
  rw [share_one]
  simp
theorem horner_mul (ds : List Int) : mulM (lowM 1 ds) (lowM 1 [0, 1]) = lowM 1 (0 :: ds) := by
  rw [lowM_one ds, lowM_one [0, 1]]
  unfold mulM
  refine lowM_of ?_
  show strip (mulZ (strip ds) (strip [0, 1])) = _
  rw [show strip [0, 1] = [0, 1] from rfl, mulZ_shift]
  apply strip_ext
  intro n
  cases n with
  | zero => rfl
  | succ n => rw [List.getD_cons_succ, List.getD_cons_succ, strip_getD]
theorem horner_add (ds : List Int) (c : Int) : addM (lowM 1 (0 :: ds)) (lowM 1 [c]) = lowM 1 (c :: ds) := by
  rw [lowM_one (0 :: ds), lowM_one [c]]
  unfold addM
  refine lowM_of ?_
  show strip (addL 1 1 (strip (0 :: ds)) (strip [c])) = _
  apply strip_ext
  intro n
  rw [addL_getD, strip_getD, strip_getD]
  cases n with
  | zero => simp
  | succ n => simp
theorem lowM_unit {u : Int} (h : 1 ≤ u) : lowM u [1] = (u, [1]) := by
  have hs : strip [1] = [1] := rfl
  have hg : share u [1] = 1 := by
    show ((Nat.gcd u.natAbs (1 : Int).natAbs : Nat) : Int) = 1
    rw [show (1 : Int).natAbs = 1 from rfl, Nat.gcd_one_right]
    rfl
  unfold lowM lowO lowC
  rw [hs, hg]
  simp
theorem horner_end {u : Int} (h : 1 ≤ u) (cs : List Int) : mulM (lowM 1 cs) (lowM u [1]) = lowM u cs := by
  rw [lowM_one, lowM_unit h]
  unfold mulM
  show lowM (1 * u) (mulZ (strip cs) [1]) = _
  rw [Int.one_mul]
  refine lowM_of ?_
  rw [mulZ_one, strip_snoc0]
  simp [strip_strip]
end My
set_option Elab.async false
set_option linter.all false
/-! values of polynomials; a polynomial that is whole at as many places as it has coefficients is whole everywhere -/
namespace My
def evalL : List Int → Int → Int
  | [], _ => 0
  | c :: cs, b => evalL cs b * b + c
theorem evalL_strip (b : Int) : ∀ cs : List Int, evalL (strip cs) b = evalL cs b
  | [] => rfl
  | c :: cs => by
    have ih := evalL_strip b cs
    by_cases e : strip cs = []
    · rw [e] at ih
      have ih : (0 : Int) = evalL cs b := ih
      rw [strip, if_pos e, evalL, ← ih]
      split
      · rename_i h; rw [h]; simp [evalL]
      · simp [evalL]
    · rw [strip_cons_ne e, evalL, evalL, ih]
theorem evalL_mul (g b : Int) : ∀ cs : List Int, evalL (cs.map (g * ·)) b = g * evalL cs b
  | [] => by simp [evalL]
  | c :: cs => by
    rw [List.map_cons, evalL, evalL, evalL_mul g b cs, Int.mul_add, Int.mul_assoc]
theorem low_scale {u : Int} (h : 1 ≤ u) (cs : List Int) : ∃ g : Int, 1 ≤ g ∧ u = g * (lowM u cs).1 ∧ ∀ b, evalL cs b = g * evalL (lowM u cs).2 b := by
  have sp := share_pos (strip cs) h
  obtain ⟨d1, d2⟩ := share_dvd (o := u) (strip cs)
  refine ⟨share u (strip cs), sp, ?_, fun b => ?_⟩
  · show u = share u (strip cs) * (u / share u (strip cs))
    exact (Int.mul_ediv_cancel' d1).symm
  · show evalL cs b = share u (strip cs) * evalL ((strip cs).map (· / share u (strip cs))) b
    rw [← evalL_mul, List.map_map]
    have e : (strip cs).map ((share u (strip cs) * ·) ∘ (· / share u (strip cs))) = strip cs := by
      have : ∀ c ∈ strip cs, ((share u (strip cs) * ·) ∘ (· / share u (strip cs))) c = id c := fun c hc => by
        show share u (strip cs) * (c / share u (strip cs)) = c
        exact Int.mul_ediv_cancel' (d2 c hc)
      rw [List.map_congr_left this, List.map_id]
    rw [e, evalL_strip]
theorem low_dvd {u : Int} (h : 1 ≤ u) (cs : List Int) (b : Int) : u ∣ evalL cs b ↔ (lowM u cs).1 ∣ evalL (lowM u cs).2 b := by
  obtain ⟨g, g1, e1, e2⟩ := low_scale h cs
  rw [e2 b]
  generalize lowM u cs = q at *
  subst e1
  exact ⟨fun hd => Int.dvd_of_mul_dvd_mul_left (by omega) hd, fun hd => Int.mul_dvd_mul_left g hd⟩
/-- the same value for the same place, up to a multiple -/
theorem evalL_mod {m a b : Int} (h : m ∣ a - b) : ∀ cs : List Int, m ∣ evalL cs a - evalL cs b
  | [] => ⟨0, by simp [evalL]⟩
  | c :: cs => by
    have ih := evalL_mod h cs
    rw [evalL, evalL]
    have e : evalL cs a * a + c - (evalL cs b * b + c) = (evalL cs a - evalL cs b) * a + evalL cs b * (a - b) := by
      rw [Int.sub_mul, Int.mul_sub]
      omega
    rw [e]
    exact Int.dvd_add (Int.dvd_mul_of_dvd_left ih) (Int.dvd_mul_of_dvd_right h)
/-- the n-th differences are nothing -/
def PD : Nat → (Nat → Int) → Prop
  | 0, f => ∀ t, f t = 0
  | n + 1, f => PD n fun t => f (t + 1) - f t
theorem PD.congr : ∀ {n : Nat} {f g : Nat → Int}, (∀ t, f t = g t) → PD n f → PD n g := fun {n f g} h k => by
  have : f = g := funext h
  rw [← this]
  exact k
theorem PD.zero : ∀ n : Nat, PD n fun _ => 0
  | 0 => fun _ => rfl
  | n + 1 => (PD.zero n).congr fun t => rfl
theorem PD.add : ∀ {n : Nat} {f g : Nat → Int}, PD n f → PD n g → PD n fun t => f t + g t
  | 0, f, g, h, k => fun t => by
    show f t + g t = 0
    rw [h t, k t]
    rfl
  | n + 1, f, g, h, k => by
    have h : PD n fun t => f (t + 1) - f t := h
    have k : PD n fun t => g (t + 1) - g t := k
    show PD n fun t => f (t + 1) + g (t + 1) - (f t + g t)
    exact (PD.add (n := n) h k).congr fun t => by omega
theorem PD.smul (c : Int) : ∀ {n : Nat} {f : Nat → Int}, PD n f → PD n fun t => c * f t
  | 0, f, h => fun t => by
    show c * f t = 0
    rw [h t, Int.mul_zero]
  | n + 1, f, h => by
    have h : PD n fun t => f (t + 1) - f t := h
    show PD n fun t => c * f (t + 1) - c * f t
    exact (PD.smul c (n := n) h).congr fun t => by rw [Int.mul_sub]
theorem PD.shift : ∀ {n : Nat} {f : Nat → Int}, PD n f → PD n fun t => f (t + 1)
  | 0, f, h => fun t => h (t + 1)
  | n + 1, f, h => by
    have h : PD n fun t => f (t + 1) - f t := h
    show PD n fun t => f (t + 1 + 1) - f (t + 1)
    exact PD.shift (n := n) h
theorem PD.succ : ∀ {n : Nat} {f : Nat → Int}, PD n f → PD (n + 1) f
  | 0, f, h => fun t => by
    show f (t + 1) - f t = 0
    rw [h (t + 1), h t]
    rfl
  | n + 1, f, h => by
    have h : PD n fun t => f (t + 1) - f t := h
    show PD (n + 1) fun t => f (t + 1) - f t
    exact PD.succ (n := n) h
theorem PD.lin (r p : Int) : ∀ {n : Nat} {f : Nat → Int}, PD n f → PD (n + 1) fun t => f t * (r + p * (t : Int))
  | 0, f, h => (PD.zero 1).congr (g := fun t => f t * (r + p * (t : Int))) fun t => by show 0 = f t * _; rw [h t, Int.zero_mul]
  | n + 1, f, h => by
    have h1 : PD n fun t => f (t + 1) - f t := h
    have h2 := PD.lin r p (n := n) h1
    have h3 := PD.smul p (PD.shift (n := n + 1) h)
    show PD (n + 1) fun t => f (t + 1) * (r + p * ((t + 1 : Nat) : Int)) - f t * (r + p * (t : Int))
    refine (PD.add (n := n + 1) h2 h3).congr fun t => ?_
    show (f (t + 1) - f t) * (r + p * (t : Int)) + p * f (t + 1) = f (t + 1) * (r + p * ((t + 1 : Nat) : Int)) - f t * (r + p * (t : Int))
    have e : ((t + 1 : Nat) : Int) = (t : Int) + 1 := by omega
    rw [e, Int.sub_mul, Int.mul_add, Int.mul_add, Int.mul_add, Int.mul_add, Int.mul_add, Int.mul_one, Int.mul_comm p (f (t + 1))]
    omega
theorem PD.const (c : Int) : ∀ n : Nat, PD (n + 1) fun _ => c
  | 0 => fun t => by show c - c = 0; omega
  | n + 1 => (PD.const c n).succ
theorem PD_eval (r p : Int) : ∀ cs : List Int, PD cs.length fun t => evalL cs (r + p * (t : Int))
  | [] => fun t => rfl
  | c :: cs => ((PD.lin r p (PD_eval r p cs)).add (PD.const c cs.length)).congr fun t => rfl
theorem PD.dvd {m : Int} : ∀ {n : Nat} {f : Nat → Int}, PD n f → (∀ t, t < n → m ∣ f t) → ∀ t, m ∣ f t
  | 0, f, h, _, t => by rw [h t]; exact ⟨0, by simp⟩
  | n + 1, f, h, k, t => by
    have h : PD n fun t => f (t + 1) - f t := h
    have h2 := h.dvd fun t ht => Int.dvd_sub (k (t + 1) (by omega)) (k t (by omega))
    induction t with
    | zero => exact k 0 (by omega)
    | succ t ih =>
      have h3 := Int.dvd_add (h2 t) ih
      rwa [Int.sub_add_cancel] at h3
/-- whole where the places go rest, rest + period, .. : asked at as many as there are coefficients -/
theorem whole_iff {u r p : Int} (h : 1 ≤ u) (cs : List Int) : (∀ k : Nat, (k : Int) < u → u ∣ evalL cs (r + p * k)) ↔ ((lowM u cs).1 = 1 ∨ ∀ t : Nat, t < (lowM u cs).2.length → (lowM u cs).1 ∣ evalL (lowM u cs).2 (r + p * t)) := by
  have o1 := lowO_pos h cs
  have ole := lowO_le h cs
  have e1 : (lowM u cs).1 = lowO u cs := rfl
  constructor
  · intro hk
    right
    intro t _
    have a := hk (t % (lowO u cs).toNat) (by
      have := Nat.mod_lt t (show 0 < (lowO u cs).toNat by omega)
      omega)
    rw [low_dvd h] at a
    have b : (lowM u cs).1 ∣ (r + p * (t : Int)) - (r + p * ((t % (lowO u cs).toNat : Nat) : Int)) := by
      have e : (r + p * (t : Int)) - (r + p * ((t % (lowO u cs).toNat : Nat) : Int)) = p * ((t : Int) - ((t % (lowO u cs).toNat : Nat) : Int)) := by
        rw [Int.mul_sub]; omega
      rw [e, e1]
      refine Int.dvd_mul_of_dvd_right ?_
      have hd := Nat.div_add_mod t (lowO u cs).toNat
      refine ⟨((t / (lowO u cs).toNat : Nat) : Int), ?_⟩
      have hc : ((lowO u cs).toNat : Int) = lowO u cs := by omega
      have hz : (t : Int) = ((lowO u cs).toNat : Int) * ((t / (lowO u cs).toNat : Nat) : Int) + ((t % (lowO u cs).toNat : Nat) : Int) := by
        rw [← Int.natCast_mul, ← Int.natCast_add, hd]
      rw [hc] at hz
      omega
    have c := Int.dvd_add (evalL_mod b (lowM u cs).2) a
    rwa [Int.sub_add_cancel] at c
  · intro hr k _
    rw [low_dvd h]
    rcases hr with hr | hr
    · rw [hr]; exact Int.one_dvd _
    · exact (PD_eval r p (lowM u cs).2).dvd hr k
end My
set_option Elab.async false
set_option linter.all false
/-! a polynomial moved along: coefficients of f(b + k) -/
namespace My
/-- added place by place, the longer one kept -/
def addZ : List Int → List Int → List Int
  | [], ys => ys
  | x :: xs, [] => x :: xs
  | x :: xs, y :: ys => (x + y) :: addZ xs ys
theorem addZ_nil (xs : List Int) : addZ xs [] = xs := by cases xs <;> rfl
theorem addZ_comm : ∀ xs ys : List Int, addZ xs ys = addZ ys xs
  | [], ys => by rw [addZ_nil]; rfl
  | x :: xs, [] => rfl
  | x :: xs, y :: ys => by rw [addZ, addZ, addZ_comm xs ys, Int.add_comm]
theorem addZ_assoc : ∀ xs ys zs : List Int, addZ (addZ xs ys) zs = addZ xs (addZ ys zs)
  | [], _, _ => rfl
  | x :: xs, [], zs => rfl
  | x :: xs, y :: ys, [] => by rw [addZ_nil, addZ_nil]
  | x :: xs, y :: ys, z :: zs => by rw [addZ, addZ, addZ, addZ, addZ_assoc xs ys zs, Int.add_assoc]
theorem addZ_len : ∀ xs ys : List Int, (addZ xs ys).length = max xs.length ys.length
  | [], ys => by simp [addZ]
  | x :: xs, [] => by simp [addZ]
  | x :: xs, y :: ys => by rw [addZ, List.length_cons, List.length_cons, List.length_cons, addZ_len xs ys]; omega
theorem addZ_getD : ∀ (xs ys : List Int) (n : Nat), (addZ xs ys).getD n 0 = xs.getD n 0 + ys.getD n 0
  | [], ys, n => by simp [addZ]
  | x :: xs, [], n => by simp [addZ]
  | x :: xs, y :: ys, 0 => by simp [addZ]
  | x :: xs, y :: ys, n + 1 => by rw [addZ, List.getD_cons_succ, List.getD_cons_succ, List.getD_cons_succ, addZ_getD xs ys n]
theorem addZ_map (g : Int) : ∀ xs ys : List Int, (addZ xs ys).map (g * ·) = addZ (xs.map (g * ·)) (ys.map (g * ·))
  | [], ys => rfl
  | x :: xs, [] => rfl
  | x :: xs, y :: ys => by simp only [addZ, List.map_cons, addZ_map g xs ys, Int.mul_add]
/-- coefficients of f(b + k) -/
def shS (k : Int) : List Int → List Int
  | [] => []
  | c :: cs => addZ [c] (addZ ((shS k cs).map (k * ·)) (0 :: shS k cs))
theorem shS_len (k : Int) : ∀ cs : List Int, (shS k cs).length = cs.length
  | [] => rfl
  | c :: cs => by
    rw [shS, addZ_len, addZ_len, List.length_map, List.length_cons, List.length_cons, List.length_cons, List.length_nil, shS_len k cs]
    omega
theorem shS_zero : ∀ cs : List Int, shS 0 cs = cs
  | [] => rfl
  | c :: cs => by
    rw [shS, shS_zero cs]
    have h : ∀ xs ys : List Int, xs.length ≤ ys.length → addZ (xs.map ((0 : Int) * ·)) ys = ys := fun xs => by
      induction xs with
      | nil => intro ys _; rfl
      | cons x xs ih =>
        intro ys hl
        cases ys with
        | nil => simp at hl
        | cons y ys =>
          show (0 * x + y) :: addZ (xs.map ((0 : Int) * ·)) ys = y :: ys
          rw [Int.zero_mul, Int.zero_add, ih ys (by simpa using hl)]
    rw [h cs (0 :: cs) (by simp)]
    simp [addZ]
theorem shS_map (k g : Int) : ∀ cs : List Int, shS k (cs.map (g * ·)) = (shS k cs).map (g * ·)
  | [] => rfl
  | c :: cs => by
    rw [List.map_cons, shS, shS, shS_map k g cs, addZ_map, addZ_map]
    have e : ((shS k cs).map (g * ·)).map (k * ·) = ((shS k cs).map (k * ·)).map (g * ·) := by
      rw [List.map_map, List.map_map]
      apply List.map_congr_left
      intro z _
      show k * (g * z) = g * (k * z)
      rw [← Int.mul_assoc, ← Int.mul_assoc, Int.mul_comm k g]
    rw [e]
    simp
theorem addZ4 (a b c d : List Int) : addZ (addZ a b) (addZ c d) = addZ (addZ a c) (addZ b d) := by
  rw [addZ_assoc, ← addZ_assoc b c d, addZ_comm b c, addZ_assoc c b d, ← addZ_assoc]
theorem addZ_cons0 (xs ys : List Int) : (0 : Int) :: addZ xs ys = addZ (0 :: xs) (0 :: ys) := by simp [addZ]
theorem shS_add (k : Int) : ∀ xs ys : List Int, shS k (addZ xs ys) = addZ (shS k xs) (shS k ys)
  | [], ys => rfl
  | x :: xs, [] => by rw [addZ, show shS k [] = [] from rfl, addZ_nil]
  | x :: xs, y :: ys => by
    rw [addZ, shS, shS_add k xs ys, addZ_map, addZ_cons0, shS, shS, addZ4 (((shS k xs)).map (k * ·))]
    rw [show [x + y] = addZ [x] [y] from rfl, addZ4 [x] [y]]
theorem shS_cons0 (k : Int) (cs : List Int) : shS k (0 :: cs) = addZ ((shS k cs).map (k * ·)) (0 :: shS k cs) := by
  rw [shS]
  cases h : (shS k cs).map (k * ·) with
  | nil => simp [addZ]
  | cons a as => simp [addZ]
theorem map_add (j k : Int) : ∀ xs : List Int, addZ (xs.map (k * ·)) (xs.map (j * ·)) = xs.map ((j + k) * ·)
  | [] => rfl
  | x :: xs => by
    simp only [List.map_cons, addZ, map_add j k xs, Int.add_mul]
    rw [Int.add_comm (k * x)]
/-- moved twice -/
theorem shS_comp (j k : Int) : ∀ cs : List Int, shS j (shS k cs) = shS (j + k) cs
  | [] => rfl
  | c :: cs => by
    have e : shS j [c] = [c] := by simp [shS, addZ]
    rw [show shS k (c :: cs) = addZ [c] (addZ ((shS k cs).map (k * ·)) (0 :: shS k cs)) from rfl, shS_add, shS_add, shS_cons0, shS_map, shS_comp j k cs, e]
    rw [← addZ_assoc ((shS (j + k) cs).map (k * ·)), map_add]
    rfl
theorem addZ_nonneg : ∀ {xs ys : List Int}, (∀ a ∈ xs, 0 ≤ a) → (∀ a ∈ ys, 0 ≤ a) → ∀ a ∈ addZ xs ys, 0 ≤ a
  | [], ys, _, h2, a, ha => h2 a ha
  | x :: xs, [], h1, _, a, ha => h1 a ha
  | x :: xs, y :: ys, h1, h2, a, ha => by
    rcases List.mem_cons.mp ha with rfl | ha
    · have := h1 x (by simp)
      have := h2 y (by simp)
      omega
    · exact addZ_nonneg (fun b hb => h1 b (by simp [hb])) (fun b hb => h2 b (by simp [hb])) a ha
theorem shS_nonneg {k : Int} (hk : 0 ≤ k) : ∀ {cs : List Int}, (∀ c ∈ cs, 0 ≤ c) → ∀ z ∈ shS k cs, 0 ≤ z
  | [], _, z, hz => by cases hz
  | c :: cs, h, z, hz => by
    have ih := shS_nonneg hk (cs := cs) fun d hd => h d (by simp [hd])
    rw [shS] at hz
    refine addZ_nonneg (fun a ha => ?_) (addZ_nonneg (fun a ha => ?_) (fun a ha => ?_)) z hz
    · rw [List.mem_singleton.mp ha]; exact h c (by simp)
    · obtain ⟨b, hb, rfl⟩ := List.mem_map.mp ha
      exact Int.mul_nonneg hk (ih b hb)
    · rcases List.mem_cons.mp ha with rfl | ha
      · exact Int.le_refl _
      · exact ih a ha
/-- what stands from k on stands from every later one on -/
theorem shS_mono {j k : Int} (h : j ≤ k) {cs : List Int} (hj : ∀ z ∈ shS j cs, 0 ≤ z) : ∀ z ∈ shS k cs, 0 ≤ z := by
  have e := shS_comp (k - j) j cs
  rw [show k - j + j = k by omega] at e
  rw [← e]
  exact shS_nonneg (by omega) hj
/-- the passes of a division by b - k -/
def syn (k : Int) : List Int → List Int
  | [] => []
  | c :: cs => (c + k * (syn k cs).headD 0) :: syn k cs
theorem syn_len (k : Int) : ∀ cs : List Int, (syn k cs).length = cs.length
  | [] => rfl
  | c :: cs => by rw [syn, List.length_cons, List.length_cons, syn_len k cs]
theorem shS_syn (k : Int) : ∀ cs : List Int, cs ≠ [] → shS k cs = (syn k cs).headD 0 :: shS k (syn k cs).tail
  | [], h => absurd rfl h
  | c :: cs, _ => by
    by_cases h : cs = []
    · subst h
      simp [shS, syn, addZ]
    · have ih := shS_syn k cs h
      have ne : syn k cs ≠ [] := fun e => h (List.length_eq_zero_iff.mp (by rw [← syn_len k cs, e]; rfl))
      obtain ⟨s, r, hs⟩ := List.exists_cons_of_ne_nil ne
      rw [syn, List.headD_cons, List.tail_cons, shS, ih, hs]
      simp only [List.headD_cons, List.tail_cons, List.map_cons, addZ]
      rw [shS]
      have e : addZ ((shS k r).map (k * ·)) (s :: shS k r) = addZ [s] (addZ ((shS k r).map (k * ·)) (0 :: shS k r)) := by
        rw [← addZ_assoc, addZ_comm [s], addZ_assoc]
        simp [addZ]
      rw [e]
      congr 1
      omega
/-- far enough all is 0 or more -/
theorem shS_far {k : Int} : ∀ {cs : List Int}, cs ≠ [] → 0 < cs.getLastD 0 → (∀ c ∈ cs, -k < c) → 0 ≤ k → (∀ z ∈ shS k cs, 0 ≤ z) ∧ 1 ≤ (shS k cs).headD 0
  | [], h, _, _, _ => absurd rfl h
  | [c], _, h, _, _ => by
    have h : 0 < c := h
    simp [shS, addZ]
    omega
  | c :: d :: cs, _, h, hb, hk => by
    have h : 0 < (d :: cs).getLastD 0 := by simpa [List.getLastD] using h
    obtain ⟨h1, h2⟩ := shS_far (cs := d :: cs) (by simp) h (fun z hz => hb z (by simp [hz])) hk
    have hc := hb c (by simp)
    obtain ⟨f, fs, hf⟩ := List.exists_cons_of_ne_nil (l := shS k (d :: cs)) (fun e => by have := shS_len k (d :: cs); rw [e] at this; simp at this)
    rw [hf] at h1 h2
    have hd : shS k (c :: d :: cs) = (c + (k * f + 0)) :: addZ (fs.map (k * ·)) (f :: fs) := by
      show addZ [c] (addZ ((shS k (d :: cs)).map (k * ·)) (0 :: shS k (d :: cs))) = _
      rw [hf]
      rfl
    have h2 : 1 ≤ f := h2
    have hkf : k * 1 ≤ k * f := Int.mul_le_mul_of_nonneg_left h2 hk
    have e0 : 1 ≤ c + (k * f + 0) := by omega
    have tail : ∀ z ∈ addZ (fs.map (k * ·)) (f :: fs), 0 ≤ z := fun z hz => by
      refine addZ_nonneg (fun a ha => ?_) h1 z hz
      obtain ⟨b, hb, rfl⟩ := List.mem_map.mp ha
      exact Int.mul_nonneg hk (h1 b (by simp [hb]))
    refine ⟨fun z hz => ?_, by rw [hd]; exact e0⟩
    rw [hd] at hz
    rcases List.mem_cons.mp hz with rfl | hz
    · omega
    · exact tail z hz
theorem shS_getD (k c : Int) (cs : List Int) (n : Nat) : (shS k (c :: cs)).getD n 0 = (if n = 0 then c else (shS k cs).getD (n - 1) 0) + k * (shS k cs).getD n 0 := by
  have hm : ∀ xs : List Int, (xs.map (k * ·)).getD n 0 = k * xs.getD n 0 := fun xs => by
    rw [List.getD_eq_getElem?_getD, List.getD_eq_getElem?_getD, List.getElem?_map]
    cases xs[n]? <;> simp
  rw [shS, addZ_getD, addZ_getD, hm]
  cases n with
  | zero => simp; try omega
  | succ n =>
    rw [List.getD_cons_succ, List.getD_cons_succ]
    simp
    try omega
/-- what a list is moved to hangs on its coefficients only -/
theorem shS_ext (k : Int) : ∀ {xs ys : List Int}, (∀ n, xs.getD n 0 = ys.getD n 0) → ∀ n, (shS k xs).getD n 0 = (shS k ys).getD n 0
  | [], [], _, n => rfl
  | [], y :: ys, h, n => by
    have h0 : 0 = y := h 0
    have ht : ∀ n, ([] : List Int).getD n 0 = ys.getD n 0 := fun n => h (n + 1)
    have ih := shS_ext k ht
    have z : ∀ n, (shS k ys).getD n 0 = 0 := fun n => by rw [← ih n]; rfl
    rw [shS_getD, z, z, ← h0]
    simp [shS]
  | x :: xs, [], h, n => by
    have h0 : x = 0 := h 0
    have ht : ∀ n, xs.getD n 0 = ([] : List Int).getD n 0 := fun n => h (n + 1)
    have ih := shS_ext k ht
    have z : ∀ n, (shS k xs).getD n 0 = 0 := fun n => by rw [ih n]; rfl
    rw [shS_getD, z, z, h0]
    simp [shS]
  | x :: xs, y :: ys, h, n => by
    have h0 : x = y := h 0
    have ht : ∀ n, xs.getD n 0 = ys.getD n 0 := fun n => h (n + 1)
    have ih := shS_ext k ht
    rw [shS_getD, shS_getD, ih, ih, h0]
theorem getD_map (g : Int) (xs : List Int) (n : Nat) : (xs.map (g * ·)).getD n 0 = g * xs.getD n 0 := by
  rw [List.getD_eq_getElem?_getD, List.getD_eq_getElem?_getD, List.getElem?_map]
  cases xs[n]? <;> simp
theorem share_mul {g : Int} (hg : 1 ≤ g) : ∀ (o : Int) (xs : List Int), 1 ≤ o → share (g * o) (xs.map (g * ·)) = g * share o xs
  | o, [], _ => rfl
  | o, x :: xs, ho => by
    rw [List.map_cons, share_cons, share_cons]
    have e : ((Nat.gcd (g * o).natAbs (g * x).natAbs : Nat) : Int) = g * ((Nat.gcd o.natAbs x.natAbs : Nat) : Int) := by
      rw [Int.natAbs_mul, Int.natAbs_mul, Nat.gcd_mul_left, Int.natCast_mul]
      rw [Int.natAbs_of_nonneg (by omega)]
    rw [e]
    exact share_mul hg _ xs (gcd_pos ho x)
theorem strip_mul {g : Int} (hg : 1 ≤ g) : ∀ xs : List Int, strip (xs.map (g * ·)) = (strip xs).map (g * ·)
  | [] => rfl
  | x :: xs => by
    have ih := strip_mul hg xs
    rw [List.map_cons, strip, strip, ih]
    by_cases e : strip xs = []
    · rw [if_pos (by rw [e]; rfl), if_pos e]
      have hz : g * x = 0 ↔ x = 0 := by
        constructor
        · intro h
          rcases Int.mul_eq_zero.mp h with h | h
          · omega
          · exact h
        · intro h; rw [h, Int.mul_zero]
      by_cases h : x = 0
      · rw [if_pos (hz.mpr h), if_pos h]; rfl
      · rw [if_neg (fun z => h (hz.mp z)), if_neg h]; rfl
    · rw [if_neg (fun z => e (List.map_eq_nil_iff.mp z)), if_neg e]; rfl
/-- a common factor falls away -/
theorem lowM_mul {g o : Int} (hg : 1 ≤ g) (ho : 1 ≤ o) (xs : List Int) : lowM (g * o) (xs.map (g * ·)) = lowM o xs := by
  have sp := share_pos (strip xs) ho
  unfold lowM lowO lowC
  rw [strip_mul hg, share_mul hg o (strip xs) ho]
  refine Prod.ext ?_ ?_
  · exact Int.mul_ediv_mul_of_pos _ _ (by omega)
  · show ((strip xs).map (g * ·)).map (· / (g * share o (strip xs))) = (strip xs).map (· / share o (strip xs))
    rw [List.map_map]
    apply List.map_congr_left
    intro c _
    exact Int.mul_ediv_mul_of_pos _ _ (by omega)
theorem low_getD {u : Int} (h : 1 ≤ u) (cs : List Int) : ∃ g : Int, 1 ≤ g ∧ u = g * (lowM u cs).1 ∧ ∀ n, cs.getD n 0 = g * (lowM u cs).2.getD n 0 := by
  have sp := share_pos (strip cs) h
  obtain ⟨d1, d2⟩ := share_dvd (o := u) (strip cs)
  refine ⟨share u (strip cs), sp, ?_, fun n => ?_⟩
  · show u = share u (strip cs) * (u / share u (strip cs))
    exact (Int.mul_ediv_cancel' d1).symm
  · show cs.getD n 0 = share u (strip cs) * ((strip cs).map (· / share u (strip cs))).getD n 0
    rw [← strip_getD cs n, List.getD_eq_getElem?_getD, List.getD_eq_getElem?_getD, List.getElem?_map]
    cases hn : (strip cs)[n]? with
    | none => simp
    | some c => exact (Int.mul_ediv_cancel' (d2 c (List.mem_of_getElem? hn))).symm
/-- moved, then in lowest terms: the same as in lowest terms, then moved -/
theorem low_shS {u k : Int} (h : 1 ≤ u) (cs : List Int) : lowM u (shS k cs) = lowM (lowM u cs).1 (shS k (lowM u cs).2) := by
  obtain ⟨g, g1, e1, e2⟩ := low_getD h cs
  have o1 := lowO_pos h cs
  have e3 : ∀ n, (shS k cs).getD n 0 = ((shS k (lowM u cs).2).map (g * ·)).getD n 0 := fun n => by
    rw [← shS_map]
    exact shS_ext k (fun m => by rw [e2 m, getD_map]) n
  rw [lowM_of (strip_ext e3)]
  have e4 := lowM_mul g1 o1 (shS k (lowM u cs).2)
  rw [show g * lowO u cs = u from e1.symm] at e4
  exact e4
/-- from k on all coefficients of what is moved are 0 or more -/
def Sure (cs : List Int) (k : Int) : Prop := ∀ n, 0 ≤ (shS k cs).getD n 0
theorem sure_iff {cs : List Int} {k : Int} : Sure cs k ↔ ∀ z ∈ shS k cs, 0 ≤ z := by
  constructor
  · intro h z hz
    obtain ⟨n, hn⟩ := List.mem_iff_getElem?.mp hz
    have := h n
    rwa [List.getD_eq_getElem?_getD, hn] at this
  · intro h n
    rw [List.getD_eq_getElem?_getD]
    cases hn : (shS k cs)[n]? with
    | none => exact Int.le_refl _
    | some c => exact h c (List.mem_of_getElem? hn)
theorem sure_low {u k : Int} (h : 1 ≤ u) (cs : List Int) : Sure cs k ↔ Sure (lowM u cs).2 k := by
  obtain ⟨g, g1, e1, e2⟩ := low_getD h cs
  have e3 : ∀ n, (shS k cs).getD n 0 = g * (shS k (lowM u cs).2).getD n 0 := fun n => by
    rw [← getD_map, ← shS_map]
    exact shS_ext k (fun m => by rw [e2 m, getD_map]) n
  constructor
  · intro hs n
    have := hs n
    rw [e3] at this
    exact Int.le_of_mul_le_mul_left (by simpa using this) (show 0 < g by omega)
  · intro hs n
    rw [e3]
    exact Int.mul_nonneg (by omega) (hs n)
theorem Sure.mono {cs : List Int} {j k : Int} (h : j ≤ k) (hj : Sure cs j) : Sure cs k := sure_iff.mpr (shS_mono h (sure_iff.mp hj))
end My
set_option Elab.async false
set_option linter.all false
/-! how great a moved polynomial's coefficients are; one pass of the division, place by place -/
namespace My
theorem addZ_bd {A B : Nat} : ∀ {xs ys : List Int}, Bd A xs → Bd B ys → Bd (A + B) (addZ xs ys)
  | [], ys, _, h => h.mono (by omega)
  | x :: xs, [], h, _ => h.mono (by omega)
  | x :: xs, y :: ys, h, k => fun c hc => by
    rcases List.mem_cons.mp hc with rfl | hc
    · have := h x (by simp)
      have := k y (by simp)
      omega
    · exact addZ_bd (fun z hz => h z (by simp [hz])) (fun z hz => k z (by simp [hz])) c hc
theorem shS_bd {B C : Nat} {k : Int} (hk : k.natAbs ≤ C) : ∀ {cs : List Int}, Bd B cs → Bd (B * (C + 2) ^ cs.length) (shS k cs)
  | [], _ => fun c hc => by cases hc
  | c :: cs, h => by
    have ih := shS_bd hk (cs := cs) fun z hz => h z (by simp [hz])
    have h1 : Bd B [c] := fun z hz => by rw [List.mem_singleton.mp hz]; exact h c (by simp)
    have h2 : Bd (C * (B * (C + 2) ^ cs.length)) ((shS k cs).map (k * ·)) := fun z hz => by
      obtain ⟨w, hw, rfl⟩ := List.mem_map.mp hz
      exact mul_abs hk (ih w hw)
    have h3 : Bd (B * (C + 2) ^ cs.length) (0 :: shS k cs) := fun z hz => by
      rcases List.mem_cons.mp hz with rfl | hz
      · exact Nat.zero_le _
      · exact ih z hz
    refine (addZ_bd h1 (addZ_bd h2 h3)).mono ?_
    have hp : B * 1 ≤ B * (C + 2) ^ cs.length := Nat.mul_le_mul_left _ (Nat.pow_pos (by omega))
    have e : B * (C + 2) ^ (c :: cs).length = C * (B * (C + 2) ^ cs.length) + 2 * (B * (C + 2) ^ cs.length) := by
      rw [List.length_cons, Nat.pow_succ, ← Nat.mul_assoc, Nat.mul_comm (B * (C + 2) ^ cs.length) (C + 2), Nat.add_mul]
    rw [e]
    omega
theorem syn_bd {B C : Nat} {k : Int} (hk : k.natAbs ≤ C) : ∀ {cs : List Int}, Bd B cs → Bd (B * (C + 1) ^ cs.length) (syn k cs)
  | [], _ => fun c hc => by cases hc
  | c :: cs, h => by
    have ih := syn_bd hk (cs := cs) fun z hz => h z (by simp [hz])
    have hc := h c (by simp)
    have hh : ((syn k cs).headD 0).natAbs ≤ B * (C + 1) ^ cs.length := by
      cases e : syn k cs with
      | nil => exact Nat.zero_le _
      | cons a as => exact ih a (by rw [e]; simp)
    have hp : B * 1 ≤ B * (C + 1) ^ cs.length := Nat.mul_le_mul_left _ (Nat.pow_pos (by omega))
    have hm := mul_abs hk hh
    rw [List.length_cons, Nat.pow_succ, ← Nat.mul_assoc, Nat.mul_add, Nat.mul_comm (B * (C + 1) ^ cs.length) C]
    intro z hz
    rw [syn] at hz
    rcases List.mem_cons.mp hz with rfl | hz
    · omega
    · have := ih z hz
      omega
/-- the pass, when the places from the end on are done -/
def passL (k : Int) (j : Nat) (cs : List Int) : List Int := cs.take j ++ syn k (cs.drop j)
theorem passL_start (k : Int) {cs : List Int} {j : Nat} (h : cs.length ≤ j + 1) : passL k j cs = cs := by
  unfold passL
  have e : syn k (cs.drop j) = cs.drop j := by
    have hl : (cs.drop j).length ≤ 1 := by rw [List.length_drop]; omega
    match cs.drop j, hl with
    | [], _ => rfl
    | [c], _ => simp [syn]
  rw [e, List.take_append_drop]
theorem passL_zero (k : Int) (cs : List Int) : passL k 0 cs = syn k cs := rfl
theorem passL_len (k : Int) (j : Nat) (cs : List Int) : (passL k j cs).length = cs.length := by
  unfold passL
  rw [List.length_append, syn_len, ← List.length_append, List.take_append_drop]
theorem passL_step (k : Int) {cs : List Int} {j : Nat} (h : j < cs.length) : passL k j cs = (passL k (j + 1) cs).set j (cs.getD j 0 + k * (passL k (j + 1) cs).getD (j + 1) 0) := by
  have e1 : (passL k (j + 1) cs).getD (j + 1) 0 = (syn k (cs.drop (j + 1))).headD 0 := by
    unfold passL
    rw [List.getD_eq_getElem?_getD, List.getElem?_append_right (by rw [List.length_take]; omega), List.length_take, Nat.min_def]
    by_cases hl : j + 1 ≤ cs.length
    · rw [if_pos hl, Nat.sub_self]
      cases syn k (cs.drop (j + 1)) <;> rfl
    · omega
  have e2 : cs.getD j 0 = cs[j] := by rw [List.getD_eq_getElem?_getD, List.getElem?_eq_getElem h]; rfl
  rw [e1, e2]
  unfold passL
  rw [List.drop_eq_getElem_cons h, syn, List.take_add_one, List.getElem?_eq_getElem h]
  have hlen : (cs.take j).length = j := by rw [List.length_take]; omega
  rw [List.append_assoc]
  conv => rhs; rw [List.set_append_right _ _ (by omega)]
  rw [hlen, Nat.sub_self]
  rfl
theorem passL_getD (k : Int) {cs : List Int} {j : Nat} (h : j < cs.length) : (passL k (j + 1) cs).getD j 0 = cs.getD j 0 := by
  unfold passL
  rw [List.getD_eq_getElem?_getD, List.getD_eq_getElem?_getD, List.getElem?_append_left (by rw [List.length_take]; omega), List.getElem?_take_of_lt (by omega)]
/-- after so many passes -/
structure Sy (k : Int) (cs : List Int) (low : Nat) (rem : List Int) : Prop where
  e : shS k cs = (shS k cs).take low ++ shS k rem
  l : rem.length + low = cs.length
  b : Bd (2 ^ 40 * (2 ^ 33 + 1) ^ (5 * low)) rem
theorem Sy.start {k : Int} {cs : List Int} (h : Bd (2 ^ 40) cs) : Sy k cs 0 cs := ⟨rfl, rfl, h.mono (by simp)⟩
theorem Sy.tlen {k : Int} {cs rem : List Int} {low : Nat} (h : Sy k cs low rem) : ((shS k cs).take low).length = low := by
  have := h.l
  rw [List.length_take, shS_len]
  omega
theorem Sy.fin {k : Int} {cs rem : List Int} {low : Nat} (h : Sy k cs low rem) (hl : rem.length ≤ 1) : (shS k cs).take low ++ rem = shS k cs := by
  have e : shS k rem = rem := by
    match rem, hl with
    | [], _ => rfl
    | [c], _ => simp [shS, addZ]
  rw [← e, ← h.e]
theorem Sy.next {k : Int} (hk : k.natAbs ≤ 2 ^ 33) {cs rem : List Int} {low : Nat} (h : Sy k cs low rem) (hr : rem ≠ []) (h5 : cs.length ≤ 5) : Sy k cs (low + 1) (syn k rem).tail ∧ (shS k cs).take (low + 1) ++ (syn k rem).tail = (shS k cs).take low ++ syn k rem ∧ (shS k cs)[low]? = some ((syn k rem).headD 0) := by
  have e1 := shS_syn k rem hr
  have hl := h.l
  have ht := h.tlen
  have ne : syn k rem ≠ [] := fun e => hr (List.length_eq_zero_iff.mp (by rw [← syn_len k rem, e]; rfl))
  obtain ⟨s, r, hs⟩ := List.exists_cons_of_ne_nil ne
  have hrl : r.length + 1 = rem.length := by rw [← syn_len k rem, hs]; rfl
  have e2 : (shS k cs)[low]? = some ((syn k rem).headD 0) := by
    rw [h.e, List.getElem?_append_right (by omega), ht, Nat.sub_self, e1]
    rfl
  have e3 : (shS k cs).take (low + 1) = (shS k cs).take low ++ [(syn k rem).headD 0] := by rw [List.take_add_one, e2]; rfl
  refine ⟨⟨?_, ?_, ?_⟩, ?_, e2⟩
  · rw [e3, List.append_assoc, List.singleton_append, ← e1]
    exact h.e
  · rw [hs, List.tail_cons]; omega
  · have hb := syn_bd hk h.b
    have hp : 2 ^ 40 * (2 ^ 33 + 1) ^ (5 * low) * (2 ^ 33 + 1) ^ rem.length ≤ 2 ^ 40 * (2 ^ 33 + 1) ^ (5 * (low + 1)) := by
      rw [Nat.mul_assoc, ← Nat.pow_add]
      exact Nat.mul_le_mul_left _ (Nat.pow_le_pow_right (by decide) (by omega))
    exact fun z hz => Nat.le_trans (hb z (List.mem_of_mem_tail hz)) hp
  · rw [e3, hs]
    simp
theorem shS_top (k : Int) : ∀ cs : List Int, (shS k cs).getD (cs.length - 1) 0 = cs.getLastD 0
  | [] => rfl
  | [c] => by simp [shS, addZ]
  | c :: d :: cs => by
    have ih := shS_top k (d :: cs)
    have hz : (shS k (d :: cs)).getD (d :: cs).length 0 = 0 := by
      rw [List.getD_eq_getElem?_getD, List.getElem?_eq_none (by rw [shS_len]; omega)]
      rfl
    have e : (c :: d :: cs).length - 1 = (d :: cs).length := rfl
    rw [e, shS_getD, hz, if_neg (by simp), ih]
    simp [List.getLastD]
/-- sure: the first ones and the last one -/
theorem sure_parts {k : Int} {cs : List Int} : Sure cs k ↔ (0 ≤ cs.getLastD 0 ∧ ∀ n, n < cs.length - 1 → 0 ≤ (shS k cs).getD n 0) := by
  constructor
  · intro h
    exact ⟨by rw [← shS_top k cs]; exact h _, fun n _ => h n⟩
  · rintro ⟨h1, h2⟩ n
    by_cases hn : n < cs.length - 1
    · exact h2 n hn
    · by_cases he : n = cs.length - 1
      · rw [he, shS_top]; exact h1
      · rw [List.getD_eq_getElem?_getD, List.getElem?_eq_none (by rw [shS_len]; omega)]
        exact Int.le_refl _
end My
set_option Elab.async false
set_option linter.all false
/-! values of sums, products, moved ones; polynomials with the same values are the same -/
namespace My
theorem evalL_ext {xs ys : List Int} (h : ∀ n, xs.getD n 0 = ys.getD n 0) (b : Int) : evalL xs b = evalL ys b := by
  rw [← evalL_strip b xs, ← evalL_strip b ys, strip_ext h]
theorem evalL_zip (p q b : Int) : ∀ xs ys : List Int, xs.length = ys.length → evalL (List.zipWith (fun a c => a * p + c * q) xs ys) b = evalL xs b * p + evalL ys b * q
  | [], [], _ => by simp [evalL]
  | [], _ :: _, h => by simp at h
  | _ :: _, [], h => by simp at h
  | x :: xs, y :: ys, h => by
    rw [List.zipWith_cons_cons, evalL, evalL, evalL, evalL_zip p q b xs ys (by simpa using h)]
    grind
theorem evalL_pad (xs ys : List Int) (b : Int) : evalL (pad xs ys) b = evalL xs b := by
  rw [← evalL_strip, pad, strip_zeros, evalL_strip]
theorem evalL_addL (p q : Int) (xs ys : List Int) (b : Int) : evalL (addL p q xs ys) b = evalL xs b * p + evalL ys b * q := by
  unfold addL
  rw [evalL_zip p q b _ _ (by rw [pad_len, pad_len]; omega), evalL_pad, evalL_pad]
theorem evalL_set (b v : Int) : ∀ (f : List Int) (k : Nat), k < f.length → evalL (f.set k (f.getD k 0 + v)) b = evalL f b + v * b ^ k
  | [], k, h => by simp at h
  | c :: f, 0, _ => by
    simp only [List.set_cons_zero, List.getD_cons_zero, evalL]
    grind
  | c :: f, k + 1, h => by
    rw [List.set_cons_succ, List.getD_cons_succ, evalL, evalL, evalL_set b v f k (by simpa using h), Int.pow_succ]
    grind
theorem evalL_rowL (a b : Int) : ∀ (k : Nat) (ys f : List Int), k + ys.length ≤ f.length → evalL (rowL a k ys f) b = evalL f b + a * evalL ys b * b ^ k
  | _, [], f, _ => by simp [rowL, evalL]
  | k, y :: ys, f, h => by
    rw [List.length_cons] at h
    rw [rowL, evalL_rowL a b (k + 1) ys _ (by rw [List.length_set]; omega), evalL_set b _ f k (by omega), evalL, Int.pow_succ]
    grind
theorem evalL_mulF (b : Int) : ∀ (k : Nat) (xs ys f : List Int), k + xs.length + ys.length ≤ f.length → evalL (mulF k xs ys f) b = evalL f b + evalL xs b * evalL ys b * b ^ k
  | _, [], _, f, _ => by simp [mulF, evalL]
  | k, x :: xs, ys, f, h => by
    rw [List.length_cons] at h
    rw [mulF, evalL_mulF b (k + 1) xs ys _ (by rw [rowL_len]; omega), evalL_rowL x b k ys f (by omega), evalL, Int.pow_succ]
    grind
theorem evalL_zeros (b : Int) (n : Nat) : evalL (List.replicate n 0) b = 0 := by
  rw [← evalL_strip]
  have := strip_zeros [] n
  rw [List.nil_append] at this
  rw [this]
  rfl
theorem evalL_mulZ (xs ys : List Int) (b : Int) : evalL (mulZ xs ys) b = evalL xs b * evalL ys b := by
  unfold mulZ
  rw [evalL_mulF b 0 xs ys _ (by rw [List.length_replicate]; omega), evalL_zeros]
  simp
theorem evalL_addZ (b : Int) : ∀ xs ys : List Int, evalL (addZ xs ys) b = evalL xs b + evalL ys b
  | [], ys => by simp [addZ, evalL]
  | x :: xs, [] => by simp [addZ, evalL]
  | x :: xs, y :: ys => by rw [addZ, evalL, evalL, evalL, evalL_addZ b xs ys]; grind
theorem evalL_shS (k b : Int) : ∀ cs : List Int, evalL (shS k cs) b = evalL cs (b + k)
  | [] => rfl
  | c :: cs => by
    rw [shS, evalL_addZ, evalL_addZ, evalL_mul, evalL, evalL, evalL, evalL, evalL_shS k b cs]
    grind
theorem evalL_neg (b : Int) : ∀ cs : List Int, evalL (cs.map fun c => -c) b = -evalL cs b
  | [] => rfl
  | c :: cs => by rw [List.map_cons, evalL, evalL, evalL_neg b cs]; grind
/-- nothing at every place but 0: nothing -/
theorem evalL_zero : ∀ {cs : List Int}, (∀ b : Int, b ≠ 0 → evalL cs b = 0) → ∀ n, cs.getD n 0 = 0
  | [], _, n => rfl
  | c :: cs, h, n => by
    have h0 : c = 0 := by
      have hb : (c.natAbs : Int) + 1 ≠ 0 := by omega
      have h1 := h _ hb
      rw [evalL] at h1
      have hd : ((c.natAbs : Int) + 1) ∣ c := ⟨-evalL cs ((c.natAbs : Int) + 1), by grind⟩
      have h2 := Int.natAbs_dvd_natAbs.mpr hd
      have h3 : ((c.natAbs : Int) + 1).natAbs = c.natAbs + 1 := by omega
      rw [h3] at h2
      by_cases hc : c = 0
      · exact hc
      · have := Nat.le_of_dvd (by omega) h2
        omega
    subst h0
    have ih := evalL_zero (cs := cs) (fun b hb => by
      have h1 := h b hb
      rw [evalL, Int.add_zero] at h1
      rcases Int.mul_eq_zero.mp h1 with h2 | h2
      · exact h2
      · exact absurd h2 hb)
    cases n with
    | zero => rfl
    | succ n => rw [List.getD_cons_succ]; exact ih n
theorem evalL_same {xs ys : List Int} (h : ∀ b : Int, evalL xs b = evalL ys b) (n : Nat) : xs.getD n 0 = ys.getD n 0 := by
  have h1 := evalL_zero (cs := addZ xs (ys.map fun c => -c)) (fun b _ => by rw [evalL_addZ, evalL_neg, h b]; omega) n
  rw [addZ_getD] at h1
  have h2 : (ys.map fun c => -c).getD n 0 = -ys.getD n 0 := by
    rw [List.getD_eq_getElem?_getD, List.getD_eq_getElem?_getD, List.getElem?_map]
    cases ys[n]? <;> simp
  omega
/-- the value as a quotient -/
def rv (p : PM) (b : Int) : Rat := (evalL p.2 b : Rat) / (p.1 : Rat)
theorem ne_of {i : Int} (h : 1 ≤ i) : (i : Rat) ≠ 0 := fun e => by
  have : i = 0 := by exact_mod_cast e
  omega
theorem rv_low {u : Int} (h : 1 ≤ u) (cs : List Int) (b : Int) : rv (lowM u cs) b = (evalL cs b : Rat) / (u : Rat) := by
  obtain ⟨g, g1, e1, e2⟩ := low_scale h cs
  have l1 := lowO_pos h cs
  unfold rv
  rw [e2 b]
  have n1 := ne_of l1
  have n2 := ne_of g1
  have n3 := ne_of h
  have e3 : (u : Rat) = (g : Rat) * ((lowM u cs).1 : Rat) := by rw [← Rat.intCast_mul, ← e1]
  rw [Rat.intCast_mul, e3]
  have n1 : ((lowM u cs).1 : Rat) ≠ 0 := n1
  grind
theorem pos_mul {i j : Int} (h : 1 ≤ i) (k : 1 ≤ j) : 1 ≤ i * j := by
  have := Int.mul_pos (show 0 < i by omega) (show 0 < j by omega)
  omega
theorem rv_add {x y : PM} (hx : 1 ≤ x.1) (hy : 1 ≤ y.1) (b : Int) : rv (addM x y) b = rv x b + rv y b := by
  unfold addM
  rw [rv_low (pos_mul hx hy), evalL_addL]
  unfold rv
  have n1 := ne_of hx
  have n2 := ne_of hy
  simp only [Rat.intCast_mul, Rat.intCast_add]
  grind
theorem rv_mul {x y : PM} (hx : 1 ≤ x.1) (hy : 1 ≤ y.1) (b : Int) : rv (mulM x y) b = rv x b * rv y b := by
  unfold mulM
  rw [rv_low (pos_mul hx hy), evalL_mulZ]
  unfold rv
  have n1 := ne_of hx
  have n2 := ne_of hy
  simp only [Rat.intCast_mul]
  grind
theorem rv_neg (x : PM) (b : Int) : rv (negM x) b = -rv x b := by
  unfold negM rv
  show ((evalL (x.2.map fun c => -c) b : Int) : Rat) / (x.1 : Rat) = _
  rw [evalL_neg, Rat.intCast_neg]
  grind
theorem rv_sub {x y : PM} (hx : 1 ≤ x.1) (hy : 1 ≤ y.1) (b : Int) : rv (subM x y) b = rv x b - rv y b := by
  unfold subM
  rw [rv_add hx (show 1 ≤ (negM y).1 from hy), rv_neg]
  grind
theorem rv_same {p q : PM} (hp : Low p) (hq : Low q) (h : ∀ b, rv p b = rv q b) : p = q := by
  have n1 := ne_of hp.o1
  have n2 := ne_of hq.o1
  have e : ∀ b, evalL (p.2.map (q.1 * ·)) b = evalL (q.2.map (p.1 * ·)) b := fun b => by
    have h1 := h b
    unfold rv at h1
    rw [evalL_mul, evalL_mul]
    have h2 : ((q.1 * evalL p.2 b : Int) : Rat) = ((p.1 * evalL q.2 b : Int) : Rat) := by
      rw [Rat.intCast_mul, Rat.intCast_mul]
      grind
    exact_mod_cast h2
  have e2 := strip_ext (evalL_same e)
  have f1 := lowM_mul (g := q.1) (o := p.1) hq.o1 hp.o1 p.2
  have f2 := lowM_mul (g := p.1) (o := q.1) hp.o1 hq.o1 q.2
  rw [hp.fix] at f1
  rw [hq.fix] at f2
  refine f1.symm.trans (Eq.trans ?_ f2)
  rw [Int.mul_comm q.1 p.1, lowM_of e2]
/-- a term with 1 beneath: its values are integers -/
theorem rv_one {p : PM} (h : p.1 = 1) (b : Int) : rv p b = (evalL p.2 b : Rat) := by
  unfold rv
  rw [h]
  grind
theorem one_low1 {u : Int} (h : u = 1) (cs : List Int) : (lowM u cs).1 = 1 := by subst h; rw [lowM_one]
theorem one_add {x y : PM} (hx : x.1 = 1) (hy : y.1 = 1) : (addM x y).1 = 1 := one_low1 (by rw [hx, hy]; rfl) _
theorem one_mul1 {x y : PM} (hx : x.1 = 1) (hy : y.1 = 1) : (mulM x y).1 = 1 := one_low1 (by rw [hx, hy]; rfl) _
theorem ev_eq {p : PM} (h : p.1 = 1) {b z : Int} (k : rv p b = (z : Rat)) : evalL p.2 b = z := by
  rw [rv_one h] at k
  exact_mod_cast k
theorem ev_add {x y : PM} (hx : x.1 = 1) (hy : y.1 = 1) (b : Int) : evalL (addM x y).2 b = evalL x.2 b + evalL y.2 b := ev_eq (one_add hx hy) (by rw [rv_add (by omega) (by omega), rv_one hx, rv_one hy, Rat.intCast_add])
theorem ev_mul {x y : PM} (hx : x.1 = 1) (hy : y.1 = 1) (b : Int) : evalL (mulM x y).2 b = evalL x.2 b * evalL y.2 b := ev_eq (one_mul1 hx hy) (by rw [rv_mul (by omega) (by omega), rv_one hx, rv_one hy, Rat.intCast_mul])
theorem one_sub {x y : PM} (hx : x.1 = 1) (hy : y.1 = 1) : (subM x y).1 = 1 := one_add hx (show (negM y).1 = 1 from hy)
theorem ev_sub {x y : PM} (hx : x.1 = 1) (hy : y.1 = 1) (b : Int) : evalL (subM x y).2 b = evalL x.2 b - evalL y.2 b := ev_eq (one_sub hx hy) (by rw [rv_sub (by omega) (by omega), rv_one hx, rv_one hy, Rat.intCast_sub])
theorem ev_low {u : Int} (h : u = 1) (cs : List Int) (b : Int) : evalL (lowM u cs).2 b = evalL cs b := by subst h; rw [lowM_one, evalL_strip]
theorem one_pow {x : PM} (hx : x.1 = 1) : ∀ n, (powM x n).1 = 1
  | 0 => rfl
  | n + 1 => one_mul1 (one_pow hx n) hx
theorem ev_pow {x : PM} (hx : x.1 = 1) (b : Int) : ∀ n, evalL (powM x n).2 b = evalL x.2 b ^ n
  | 0 => by simp [powM, evalL]
  | n + 1 => by rw [powM, ev_mul (one_pow hx n) hx, ev_pow hx b n, Int.pow_succ]
/-! ### not below 0 -/
theorem nonneg_getD {cs : List Int} : (∀ n, 0 ≤ cs.getD n 0) ↔ ∀ z ∈ cs, 0 ≤ z := by
  constructor
  · intro h z hz
    obtain ⟨n, hn⟩ := List.mem_iff_getElem?.mp hz
    have := h n
    rwa [List.getD_eq_getElem?_getD, hn] at this
  · intro h n
    rw [List.getD_eq_getElem?_getD]
    cases hn : cs[n]? with
    | none => exact Int.le_refl _
    | some c => exact h c (List.mem_of_getElem? hn)
theorem evalL_nonneg {b : Int} (hb : 0 ≤ b) : ∀ {cs : List Int}, (∀ z ∈ cs, 0 ≤ z) → 0 ≤ evalL cs b
  | [], _ => Int.le_refl _
  | c :: cs, h => by
    rw [evalL]
    have := Int.mul_nonneg (evalL_nonneg hb (cs := cs) fun z hz => h z (by simp [hz])) hb
    have := h c (by simp)
    omega
theorem Sure.ev {cs : List Int} {k : Int} (h : Sure cs k) {a : Int} (ha : 0 ≤ a) : 0 ≤ evalL cs (k + a) := by
  have := evalL_nonneg ha (sure_iff.mp h)
  rwa [evalL_shS, Int.add_comm] at this
theorem set_nonneg {f : List Int} (h : ∀ z ∈ f, 0 ≤ z) (k : Nat) {v : Int} (hv : 0 ≤ v) : ∀ z ∈ f.set k v, 0 ≤ z := fun z hz => by
  rcases List.mem_or_eq_of_mem_set hz with h1 | h1
  · exact h z h1
  · omega
theorem rowL_nonneg {a : Int} (ha : 0 ≤ a) : ∀ (k : Nat) (ys f : List Int), (∀ z ∈ ys, 0 ≤ z) → (∀ z ∈ f, 0 ≤ z) → ∀ z ∈ rowL a k ys f, 0 ≤ z
  | _, [], f, _, h => h
  | k, y :: ys, f, hy, h => by
    have h1 := Int.mul_nonneg ha (hy y (by simp))
    have h2 := nonneg_getD.mpr h k
    exact rowL_nonneg ha (k + 1) ys _ (fun z hz => hy z (by simp [hz])) (set_nonneg h k (by omega))
theorem mulF_nonneg : ∀ (k : Nat) (xs ys f : List Int), (∀ z ∈ xs, 0 ≤ z) → (∀ z ∈ ys, 0 ≤ z) → (∀ z ∈ f, 0 ≤ z) → ∀ z ∈ mulF k xs ys f, 0 ≤ z
  | _, [], _, f, _, _, h => h
  | k, x :: xs, ys, f, hx, hy, h => mulF_nonneg (k + 1) xs ys _ (fun z hz => hx z (by simp [hz])) hy (rowL_nonneg (hx x (by simp)) k ys f hy h)
theorem mulZ_nonneg {xs ys : List Int} (hx : ∀ z ∈ xs, 0 ≤ z) (hy : ∀ z ∈ ys, 0 ≤ z) : ∀ z ∈ mulZ xs ys, 0 ≤ z := mulF_nonneg 0 xs ys _ hx hy fun z hz => by rw [List.eq_of_mem_replicate hz]; exact Int.le_refl _
theorem Sure.of_eval {cs ds : List Int} {k : Int} (h : ∀ b, evalL (shS k cs) b = evalL ds b) (hd : ∀ z ∈ ds, 0 ≤ z) : Sure cs k := fun n => by
  rw [evalL_same h n]
  exact nonneg_getD.mpr hd n
theorem Sure.mulM {x y : PM} {k : Int} (hx : 1 ≤ x.1) (hy : 1 ≤ y.1) (h1 : Sure x.2 k) (h2 : Sure y.2 k) : Sure (mulM x y).2 k := by
  refine (sure_low (pos_mul hx hy) _).mp ?_
  refine Sure.of_eval (ds := mulZ (shS k x.2) (shS k y.2)) (fun b => ?_) (mulZ_nonneg (sure_iff.mp h1) (sure_iff.mp h2))
  rw [evalL_shS, evalL_mulZ, evalL_mulZ, evalL_shS, evalL_shS]
theorem Sure.addM {x y : PM} {k : Int} (hx : 1 ≤ x.1) (hy : 1 ≤ y.1) (h1 : Sure x.2 k) (h2 : Sure y.2 k) : Sure (addM x y).2 k := by
  refine (sure_low (pos_mul hx hy) _).mp ?_
  refine Sure.of_eval (ds := addZ ((shS k x.2).map (y.1 * ·)) ((shS k y.2).map (x.1 * ·))) (fun b => ?_) (addZ_nonneg (fun z hz => ?_) fun z hz => ?_)
  · rw [evalL_shS, evalL_addL, evalL_addZ, evalL_mul, evalL_mul, evalL_shS, evalL_shS]
    grind
  · obtain ⟨c, hc, rfl⟩ := List.mem_map.mp hz
    exact Int.mul_nonneg (by omega) (sure_iff.mp h1 c hc)
  · obtain ⟨c, hc, rfl⟩ := List.mem_map.mp hz
    exact Int.mul_nonneg (by omega) (sure_iff.mp h2 c hc)
/-- of what is in lowest terms the coefficients are below 0 where the others are -/
theorem low_nonneg {u : Int} (h : 1 ≤ u) (cs : List Int) : (∀ z ∈ (lowM u cs).2, 0 ≤ z) ↔ ∀ z ∈ cs, 0 ≤ z := by
  obtain ⟨g, g1, e1, e2⟩ := low_getD h cs
  rw [← nonneg_getD, ← nonneg_getD]
  constructor
  · intro hs n
    rw [e2]
    exact Int.mul_nonneg (by omega) (hs n)
  · intro hs n
    have := hs n
    rw [e2] at this
    exact Int.le_of_mul_le_mul_left (by simpa using this) (show 0 < g by omega)
/-- where it begins at the latest -/
theorem sure_bound {cs : List Int} {h : Int} {B : Nat} (hb : Bd B cs) (hl : 0 ≤ cs.getLastD 0) (st : strip cs = cs) (hn : 2 < h → ¬ Sure cs (h - 1)) : h ≤ B + 2 := by
  by_cases h2 : h ≤ B + 2
  · exact h2
  · exfalso
    refine hn (by omega) ?_
    by_cases e : cs = []
    · subst e
      exact sure_iff.mpr fun z hz => by simp [shS] at hz
    · obtain ⟨ys, c, e1, c0⟩ := strip_last st e
      have hc : 0 < cs.getLastD 0 := by
        rw [e1] at hl ⊢
        simp at hl ⊢
        omega
      have hf := shS_far (k := (B : Int) + 1) e hc (fun c hc => by have := hb c hc; omega) (by omega)
      exact (sure_iff.mpr hf.1).mono (by omega)
/-- how great a value is -/
theorem evalL_bd {B C : Nat} {b : Int} (hb : b.natAbs ≤ C) : ∀ {cs : List Int}, Bd B cs → (evalL cs b).natAbs ≤ B * (C + 1) ^ cs.length
  | [], _ => by simp [evalL]
  | c :: cs, h => by
    have ih := evalL_bd hb (cs := cs) fun z hz => h z (by simp [hz])
    have hc := h c (by simp)
    rw [evalL, List.length_cons, Nat.pow_succ]
    have h1 : (evalL cs b * b).natAbs ≤ B * (C + 1) ^ cs.length * C := by
      rw [Int.natAbs_mul]
      exact Nat.mul_le_mul ih hb
    have h2 : (evalL cs b * b + c).natAbs ≤ (evalL cs b * b).natAbs + c.natAbs := Int.natAbs_add_le _ _
    have h3 : 1 ≤ (C + 1) ^ cs.length := Nat.pow_pos (by omega)
    have h4 : B * (C + 1) ^ cs.length * C + B * (C + 1) ^ cs.length = B * ((C + 1) ^ cs.length * (C + 1)) := by
      rw [Nat.mul_add, Nat.mul_one, Nat.mul_add, Nat.mul_assoc]
    have h5 : B * 1 ≤ B * (C + 1) ^ cs.length := Nat.mul_le_mul_left _ h3
    omega
/-! ### along, up to eight coefficients -/
structure Sy8 (k : Int) (cs : List Int) (low : Nat) (rem : List Int) : Prop where
  e : shS k cs = (shS k cs).take low ++ shS k rem
  l : rem.length + low = cs.length
  b : Bd (2 ^ 40 * (2 ^ 11 + 1) ^ (8 * low)) rem
theorem Sy8.start {k : Int} {cs : List Int} (h : Bd (2 ^ 40) cs) : Sy8 k cs 0 cs := ⟨rfl, rfl, h.mono (by simp)⟩
theorem Sy8.tlen {k : Int} {cs rem : List Int} {low : Nat} (h : Sy8 k cs low rem) : ((shS k cs).take low).length = low := by
  have := h.l
  rw [List.length_take, shS_len]
  omega
theorem Sy8.fin {k : Int} {cs rem : List Int} {low : Nat} (h : Sy8 k cs low rem) (hl : rem.length ≤ 1) : (shS k cs).take low ++ rem = shS k cs := by
  have e : shS k rem = rem := by
    match rem, hl with
    | [], _ => rfl
    | [c], _ => simp [shS, addZ]
  rw [← e, ← h.e]
theorem Sy8.next {k : Int} (hk : k.natAbs ≤ 2 ^ 11) {cs rem : List Int} {low : Nat} (h : Sy8 k cs low rem) (hr : rem ≠ []) (h5 : cs.length ≤ 8) : Sy8 k cs (low + 1) (syn k rem).tail ∧ (shS k cs).take (low + 1) ++ (syn k rem).tail = (shS k cs).take low ++ syn k rem ∧ (shS k cs)[low]? = some ((syn k rem).headD 0) := by
  have e1 := shS_syn k rem hr
  have hl := h.l
  have ht := h.tlen
  have ne : syn k rem ≠ [] := fun e => hr (List.length_eq_zero_iff.mp (by rw [← syn_len k rem, e]; rfl))
  obtain ⟨s, r, hs⟩ := List.exists_cons_of_ne_nil ne
  have hrl : r.length + 1 = rem.length := by rw [← syn_len k rem, hs]; rfl
  have e2 : (shS k cs)[low]? = some ((syn k rem).headD 0) := by
    rw [h.e, List.getElem?_append_right (by omega), ht, Nat.sub_self, e1]
    rfl
  have e3 : (shS k cs).take (low + 1) = (shS k cs).take low ++ [(syn k rem).headD 0] := by rw [List.take_add_one, e2]; rfl
  refine ⟨⟨?_, ?_, ?_⟩, ?_, e2⟩
  · rw [e3, List.append_assoc, List.singleton_append, ← e1]
    exact h.e
  · rw [hs, List.tail_cons]; omega
  · have hb := syn_bd hk h.b
    have hp : 2 ^ 40 * (2 ^ 11 + 1) ^ (8 * low) * (2 ^ 11 + 1) ^ rem.length ≤ 2 ^ 40 * (2 ^ 11 + 1) ^ (8 * (low + 1)) := by
      rw [Nat.mul_assoc, ← Nat.pow_add]
      exact Nat.mul_le_mul_left _ (Nat.pow_le_pow_right (by decide) (by omega))
    exact fun z hz => Nat.le_trans (hb z (List.mem_of_mem_tail hz)) hp
  · rw [e3, hs]
    simp
/-! ### the laws of a ring -/
theorem addM_comm {x y : PM} (hx : 1 ≤ x.1) (hy : 1 ≤ y.1) : addM x y = addM y x := rv_same (addM_low hx hy) (addM_low hy hx) fun b => by rw [rv_add hx hy, rv_add hy hx, Rat.add_comm]
theorem mulM_comm {x y : PM} (hx : 1 ≤ x.1) (hy : 1 ≤ y.1) : mulM x y = mulM y x := rv_same (mulM_low hx hy) (mulM_low hy hx) fun b => by rw [rv_mul hx hy, rv_mul hy hx, Rat.mul_comm]
theorem addM_assoc {x y z : PM} (hx : 1 ≤ x.1) (hy : 1 ≤ y.1) (hz : 1 ≤ z.1) : addM (addM x y) z = addM x (addM y z) := rv_same (addM_low (addM_low hx hy).o1 hz) (addM_low hx (addM_low hy hz).o1) fun b => by rw [rv_add (addM_low hx hy).o1 hz, rv_add hx hy, rv_add hx (addM_low hy hz).o1, rv_add hy hz, Rat.add_assoc]
theorem mulM_assoc {x y z : PM} (hx : 1 ≤ x.1) (hy : 1 ≤ y.1) (hz : 1 ≤ z.1) : mulM (mulM x y) z = mulM x (mulM y z) := rv_same (mulM_low (mulM_low hx hy).o1 hz) (mulM_low hx (mulM_low hy hz).o1) fun b => by rw [rv_mul (mulM_low hx hy).o1 hz, rv_mul hx hy, rv_mul hx (mulM_low hy hz).o1, rv_mul hy hz, Rat.mul_assoc]
theorem mulM_add {x y z : PM} (hx : 1 ≤ x.1) (hy : 1 ≤ y.1) (hz : 1 ≤ z.1) : mulM x (addM y z) = addM (mulM x y) (mulM x z) := rv_same (mulM_low hx (addM_low hy hz).o1) (addM_low (mulM_low hx hy).o1 (mulM_low hx hz).o1) fun b => by rw [rv_mul hx (addM_low hy hz).o1, rv_add hy hz, rv_add (mulM_low hx hy).o1 (mulM_low hx hz).o1, rv_mul hx hy, rv_mul hx hz, Rat.mul_add]
theorem zero_low : Low (lowM 1 []) := lowM_low (by decide) []
theorem subM_self {x : PM} (hx : 1 ≤ x.1) : subM x x = lowM 1 [] := rv_same (subM_low hx hx) zero_low fun b => by
  rw [rv_sub hx hx, rv_low (by decide)]
  show rv x b - rv x b = ((0 : Int) : Rat) / ((1 : Int) : Rat)
  grind
theorem neg1_low : Low (1, [-1]) := ⟨by decide, by decide +kernel, by decide +kernel⟩
theorem neg_neg {x : PM} (hx : Low x) : mulM (mulM x (1, [-1])) (1, [-1]) = x := rv_same (mulM_low (mulM_low hx.o1 neg1_low.o1).o1 neg1_low.o1) hx fun b => by
  rw [rv_mul (mulM_low hx.o1 neg1_low.o1).o1 neg1_low.o1, rv_mul hx.o1 neg1_low.o1]
  have e : rv (1, [-1]) b = -1 := by
    rw [rv_one rfl]
    simp [evalL]
  rw [e]
  grind
end My
set_option Elab.async false
set_option linter.all false
set_option maxRecDepth 100000
set_option maxHeartbeats 4000000
set_option exponentiation.threshold 5000
namespace My
open PySem PySem.Spec PyProof.Rows L2 Evl
local macro_rules | `(tactic| walk_at "st") => `(tactic| simp only [L2.start, List.map_cons, List.map_nil, List.length_cons, List.length_nil, Nat.reduceAdd, Nat.reduceSub, List.replicate_succ, List.replicate_zero, List.cons_append, List.nil_append, cxOf, List.append_nil])
local macro_rules | `(tactic| walk_at "vc") => `(tactic| try simp only [tSeq, tAsg, tOp, tUn, tVar, tC, tNil, tCons, gName, rI, rI0, rU, tRet, tIfS, tNot, tAnd, tOr, tB, tTest, tCB, tCall, tAndV, tOrV, tNotV, tNext, tNever, tIf, tChain, tYes, tPart, tNoPart, tPar, tDrop, q_isi, q_vn, q_vb, q_vi, q_vs, kb1, kb2, kb3, kb4, kb5, kb6, kb7, kb8, q_int1, q_int2, q_min, q_max, q_repr, tLst, tTup, rEq, rNe, q_sii, q_sss, q_sbb, q_snn, q_sns, q_ssn, q_ix, q_sl, tSl, tBM, tBM0, q_app, q_pop, gSub, rSetL, L2.wipe, eq_self, decide_true, decide_false, tRevL,
  List.getElem?_cons_succ, List.getElem?_cons_zero, List.set_cons_succ, List.set_cons_zero, Option.some.injEq, exists_eq_left', exists_eq_left, V.int.injEq, V.bl.injEq, V.ref.injEq, V.str.injEq, List.cons.injEq, and_true, true_and, List.append_nil, List.nil_append, List.cons_append, exists_and_left, and_assoc, if_true, if_false, Bool.not_true, Bool.not_false, Bool.false_eq_true, Bool.true_eq_false, reduceIte, tRevL, tPar3, tRevT, tUnl, tCKw, forall_const, Bool.not_eq_true', decide_eq_true_eq, decide_eq_false_iff_not])
section
variable {P : Program} {w : World} {K : PySem.W.Frag} {mg : Str → Option Value} {base : Heap}
variable {a_is_integer a_reduced a_value a_law_deal a_law_draw a_law_gcd a_law_lowest a_law_value a_law_made a_law_row a_law_at a_law_refused a_law a_InvalidTerm_init a_Term_init a_Term_degree a_Term_call a_Term_eq a_InvalidTerm a_NotWhole a_FigureError a_Term : Addr} {d_is_integer d_reduced d_value d_law_deal d_law_draw d_law_gcd d_law_lowest d_law_value d_law_made d_law_row d_law_at d_law_refused d_law d_InvalidTerm_init d_Term_init d_Term_degree d_Term_call d_Term_eq : FuncData}
theorem ixT_of {H : Hp} {a : Addr} {p : PM} {Q : VK} (h : PolT K H a p) (q : Q (.int p.1) H) : rIxT K (.ref a) (.int 0) H Q := ⟨a, _, 0, _, rfl, rfl, h, atI_nat (j := 0) rfl, q⟩
theorem ok_InvalidTerm_init (T : Txt K mg a_is_integer a_reduced a_value a_law_deal a_law_draw a_law_gcd a_law_lowest a_law_value a_law_made a_law_row a_law_at a_law_refused a_law a_InvalidTerm_init a_Term_init a_Term_degree a_Term_call a_Term_eq a_InvalidTerm a_NotWhole a_FigureError a_Term d_is_integer d_reduced d_value d_law_deal d_law_draw d_law_gcd d_law_lowest d_law_value d_law_made d_law_row d_law_at d_law_refused d_law d_InvalidTerm_init d_Term_init d_Term_degree d_Term_call d_Term_eq) : FnOk P w K mg base CX0 1 a_InvalidTerm_init d_InvalidTerm_init ["self", "word"] (spIniX K "word") := by
  refine T.F_InvalidTerm_init.ok sc_InvalidTerm_init (fun vs H Q E h => ?_) (fun cdv A outer s H vs Q E hr h => ?_)
  · unfold spIniX at h; split at h; rfl; exact h.elim
  unfold spIniX at h; split at h
  case h_2 => exact h.elim
  rename_i a v
  obtain ⟨C, fI, h1, h2, q⟩ := h
  refine ⟨_, (pss_one (ps_osX (pv 0) (pv 1))), ?_⟩
  walk_at "st"
  walk_at "vc"
  exact ⟨_, rfl, _, rfl, a, C, fI, rfl, h1, h2, q⟩
def ToldA (C : Addr) (f : Str) (v : V) (E : XK) (H : Hp) : Prop := ∀ H' d, Ex H H' → H' d = none → E (.ref C) (some d) (upd H' d (.xd [(f, v)]))
theorem ToldA.ex {C : Addr} {f : Str} {v : V} {E : XK} {H H' : Hp} (h : ToldA C f v E H) (e : Ex H H') : ToldA C f v E H' := fun H2 d e2 hd => h H2 d (e.trans e2) hd
/-- what is_integer says of a value, also later -/
def Fl (K : PySem.W.Frag) (H : Hp) (v : V) (b : Bool) : Prop := ∃ t c1, (∀ H', Ex H H' → TyX K H' v t) ∧ PySem.W.kitOne K t (.type "int") = some c1 ∧ (c1 = false → b = false) ∧ (c1 = true → ∃ c2, PySem.W.kitOne K t (.type "bool") = some c2 ∧ b = !c2)
theorem Fl.ex {H H' : Hp} {v : V} {b : Bool} (h : Fl K H v b) (e : Ex H H') : Fl K H' v b := by
  obtain ⟨t, c1, ty, r⟩ := h
  exact ⟨t, c1, fun H2 e2 => ty H2 (e.trans e2), r⟩
theorem fl_int (H : Hp) (i : Int) : Fl K H (.int i) true := ⟨_, true, fun _ _ => .base (.int _), kit_ty kb1, (fun h => by cases h), fun _ => ⟨false, kit_ty kb2, rfl⟩⟩
theorem fl_bl (H : Hp) (c : Bool) : Fl K H (.bl c) false := ⟨_, true, fun _ _ => .base (.bl _), kit_ty kb3, (fun h => by cases h), fun _ => ⟨true, kit_ty kb4, rfl⟩⟩
theorem fl_non (H : Hp) : Fl K H .non false := ⟨_, false, fun _ _ => .base .non, kit_ty kb5, (fun _ => rfl), fun h => by cases h⟩
theorem fl_str (H : Hp) (x : Str) : Fl K H (.str x) false := ⟨_, false, fun _ _ => .base (.str _), kit_ty kb6, (fun _ => rfl), fun h => by cases h⟩
theorem fl_lst {H : Hp} {a : Addr} {vs : List V} (h : H a = some (.lst vs)) : Fl K H (.ref a) false := ⟨_, false, fun H' e => .base (.lst (e _ _ h)), kit_ty kb7, (fun _ => rfl), fun h => by cases h⟩
theorem fl_tup {H : Hp} {a : Addr} {vs : List V} (h : H a = some (.tup vs)) : Fl K H (.ref a) false := ⟨_, false, fun H' e => .base (.tup (e _ _ h)), kit_ty kb8, (fun _ => rfl), fun h => by cases h⟩
/-- a row of values with what is_integer says of each -/
def FlS (K : PySem.W.Frag) (H : Hp) (vs : List V) (bs : List Bool) : Prop := vs.length = bs.length ∧ ∀ (i : Nat) (v : V), vs[i]? = some v → ∃ b, bs[i]? = some b ∧ Fl K H v b
theorem FlS.ex {H H' : Hp} {vs : List V} {bs : List Bool} (h : FlS K H vs bs) (e : Ex H H') : FlS K H' vs bs := ⟨h.1, fun i v hv => by
  obtain ⟨b, hb, f⟩ := h.2 i v hv
  exact ⟨b, hb, f.ex e⟩⟩
theorem flS_ints (H : Hp) (cs : List Int) : FlS K H (cs.map V.int) (List.replicate cs.length true) := ⟨by simp, fun i v hv => by
  rw [List.getElem?_map] at hv
  obtain ⟨c, hc, rfl⟩ := Option.map_eq_some_iff.mp hv
  have := (List.getElem?_eq_some_iff.mp hc).1
  exact ⟨true, by rw [List.getElem?_replicate, if_pos this], fl_int H c⟩⟩
def sp_is_integer (K : PySem.W.Frag) : Sp
  | [x], H, Q, _ => ∃ b, Fl K H x b ∧ Q (.bl b) H
  | _, _, _, _ => False
theorem ok_is_integer (T : Txt K mg a_is_integer a_reduced a_value a_law_deal a_law_draw a_law_gcd a_law_lowest a_law_value a_law_made a_law_row a_law_at a_law_refused a_law a_InvalidTerm_init a_Term_init a_Term_degree a_Term_call a_Term_eq a_InvalidTerm a_NotWhole a_FigureError a_Term d_is_integer d_reduced d_value d_law_deal d_law_draw d_law_gcd d_law_lowest d_law_value d_law_made d_law_row d_law_at d_law_refused d_law d_InvalidTerm_init d_Term_init d_Term_degree d_Term_call d_Term_eq) : FnOk P w K mg base CX0 1 a_is_integer d_is_integer ["value"] (sp_is_integer K) := by
  refine T.F_is_integer.ok sc_is_integer (fun vs H Q E h => ?_) (fun cdv A outer s H vs Q E hr h => ?_)
  · unfold sp_is_integer at h; split at h; rfl; exact h.elim
  unfold sp_is_integer at h; split at h
  case h_2 => exact h.elim
  rename_i x
  obtain ⟨b, ⟨t, c1, ty, k1, f1, f2⟩, q⟩ := h
  refine ⟨_, (pss_one (ps_ret (pe_and (pe_callB (call_isiK (K := K)) (by rfl) T.z_isinstance (by decide +kernel) (pa_cons (pv 0) (pa_cons (pe_bltn (v := .ty "int") (by rfl) T.z_int (by decide +kernel) rfl) pa_nil))) (pe_one (pe_not (pe_callB (call_isiK (K := K)) (by rfl) T.z_isinstance (by decide +kernel) (pa_cons (pv 0) (pa_cons (pe_bltn (v := .ty "bool") (by rfl) T.z_bool (by decide +kernel) rfl) pa_nil)))))))), ?_⟩
  walk_at "st"
  walk_at "vc"
  refine ⟨_, _, _, _, c1, rfl, .ty _, ty H (Ex.refl _), k1, _, rfl, ?_⟩
  cases c1 with
  | false =>
    rw [if_neg (by decide)]
    rw [f1 rfl] at q
    exact q
  | true =>
    rw [if_pos rfl]
    obtain ⟨c2, k2, rfl⟩ := f2 rfl
    exact ⟨_, _, _, _, c2, rfl, .ty _, ty H (Ex.refl _), k2, _, rfl, q⟩
end
end My
set_option Elab.async false
set_option linter.all false
set_option maxRecDepth 100000
set_option maxHeartbeats 4000000
set_option exponentiation.threshold 5000
namespace My
open PySem PySem.Spec PyProof.Rows L2 Evl
local macro_rules | `(tactic| walk_at "st") => `(tactic| simp only [L2.start, List.map_cons, List.map_nil, List.length_cons, List.length_nil, Nat.reduceAdd, Nat.reduceSub, List.replicate_succ, List.replicate_zero, List.cons_append, List.nil_append, cxOf, List.append_nil])
local macro_rules | `(tactic| walk_at "vc") => `(tactic| try simp only [tSeq, tAsg, tOp, tUn, tVar, tC, tNil, tCons, gName, rI, rI0, rU, tRet, tIfS, tNot, tAnd, tOr, tB, tTest, tCB, tCall, tAndV, tOrV, tNotV, tNext, tNever, tIf, tChain, tYes, tPart, tNoPart, tPar, tDrop, q_isi, q_vn, q_vb, q_vi, q_vs, kb1, kb2, kb3, kb4, kb5, kb6, kb7, kb8, q_int1, q_int2, q_min, q_max, q_repr, tLst, tTup, rEq, rNe, q_sii, q_sss, q_sbb, q_snn, q_sns, q_ssn, q_ix, q_sl, tSl, tBM, tBM0, q_app, q_pop, gSub, rSetL, L2.wipe, eq_self, decide_true, decide_false, tRevL,
  List.getElem?_cons_succ, List.getElem?_cons_zero, List.set_cons_succ, List.set_cons_zero, Option.some.injEq, exists_eq_left', exists_eq_left, V.int.injEq, V.bl.injEq, V.ref.injEq, V.str.injEq, List.cons.injEq, and_true, true_and, List.append_nil, List.nil_append, List.cons_append, exists_and_left, and_assoc, if_true, if_false, Bool.not_true, Bool.not_false, Bool.false_eq_true, Bool.true_eq_false, reduceIte, tRevL, tPar3, tRevT, tUnl, tCKw, forall_const, Bool.not_eq_true', decide_eq_true_eq, decide_eq_false_iff_not])
section
variable {P : Program} {w : World} {K : PySem.W.Frag} {mg : Str → Option Value} {base : Heap}
variable {a_is_integer a_reduced a_value a_law_deal a_law_draw a_law_gcd a_law_lowest a_law_value a_law_made a_law_row a_law_at a_law_refused a_law a_InvalidTerm_init a_Term_init a_Term_degree a_Term_call a_Term_eq a_InvalidTerm a_NotWhole a_FigureError a_Term : Addr} {d_is_integer d_reduced d_value d_law_deal d_law_draw d_law_gcd d_law_lowest d_law_value d_law_made d_law_row d_law_at d_law_refused d_law d_InvalidTerm_init d_Term_init d_Term_degree d_Term_call d_Term_eq : FuncData}
/-- what becomes of Term(*vs, over=o) -/
def Due (K : PySem.W.Frag) (CE : Addr) (H : Hp) (vs : List V) (bs : List Bool) (o : V) (E : XK) (ok : List Int → Int → Prop) : Prop :=
  (bs.all id = false ∧ ToldA CE "word" (.str "coefficients") E H) ∨
  ∃ cs : List Int, vs = cs.map V.int ∧ bs.all id = true ∧
    ((∃ b, Fl K H o b ∧ (b = false ∨ ∃ i, o = .int i ∧ b = true ∧ i < 1) ∧ ToldA CE "word" (.str "over") E H) ∨ ∃ u, o = .int u ∧ 1 ≤ u ∧ u < 2 ^ 250 ∧ ok cs u)
theorem Due.ex {CE : Addr} {H H' : Hp} {vs : List V} {bs : List Bool} {o : V} {E : XK} {ok ok' : List Int → Int → Prop} (h : Due K CE H vs bs o E ok) (e : Ex H H') (k : ∀ cs u, ok cs u → ok' cs u) : Due K CE H' vs bs o E ok' := by
  rcases h with ⟨h1, h2⟩ | ⟨cs, h1, h2, h3⟩
  · exact .inl ⟨h1, h2.ex e⟩
  · refine .inr ⟨cs, h1, h2, ?_⟩
    rcases h3 with ⟨b, f, r, t⟩ | ⟨u, h4, h5, h6, h7⟩
    · exact .inl ⟨b, f.ex e, r, t.ex e⟩
    · exact .inr ⟨u, h4, h5, h6, k cs u h7⟩
def sp_Term_init (K : PySem.W.Frag) (CT CE : Addr) : Sp
  | [.ref x, o, .ref c], H, Q, E => ∃ dx vs bs, H x = some (.ins CT dx []) ∧ SqT K H c vs ∧ FlS K H vs bs ∧ vs.length ≤ 1000 ∧
      Due K CE H vs bs o E fun cs u => ∀ H', Els x H H' → TermO K CT H' (lowM u cs) (.ref x) → Q .non H'
  | _, _, _, _ => False
theorem body_Term_init (T : Txt K mg a_is_integer a_reduced a_value a_law_deal a_law_draw a_law_gcd a_law_lowest a_law_value a_law_made a_law_row a_law_at a_law_refused a_law a_InvalidTerm_init a_Term_init a_Term_degree a_Term_call a_Term_eq a_InvalidTerm a_NotWhole a_FigureError a_Term d_is_integer d_reduced d_value d_law_deal d_law_draw d_law_gcd d_law_lowest d_law_value d_law_made d_law_row d_law_at d_law_refused d_law d_InvalidTerm_init d_Term_init d_Term_degree d_Term_call d_Term_eq) {A : Around} {outer : List Env} {s : Shared} {H : Hp} {vs : List V} {Q : VK} {E : XK} {cdv : Value} (hr : Room 5 (A.deeper (envOfC "Term.__init__" (defScope s_Term_init) s.heap.objs.size a_Term_init cdv))) (h : sp_Term_init K a_Term a_InvalidTerm vs H Q E) :
    ∃ t, PSs (cxOf (L2.CX P w) P w K mg base N_Term_init "Term.__init__" (defScope s_Term_init) a_Term_init cdv A outer s H E) (defBody s_Term_init) t ∧ t { nx := fun _ H' => Q .non H', rt := Q } (start N_Term_init vs) H := by
  have G_is_integer := ok_is_integer (P := P) (w := w) (base := base) T
  have G_reduced := ok_reduced (P := P) (w := w) (base := base) T
  have G_InvalidTerm_init := ok_InvalidTerm_init (P := P) (w := w) (base := base) T
  unfold sp_Term_init at h; split at h
  case h_2 => exact h.elim
  rename_i x o c
  obtain ⟨dx, vs, bs, hx, hc, hf, hl, q⟩ := h
  refine ⟨_, (pss_cons (ps_if (pt_not (pt_val (pe_callB (cr_all rfl) (by rfl) T.z_all (by decide +kernel) (pa_cons (pe_lc (own := [("one", 3)]) (g := gName 3) (by rfl) sc_Term_init.nd (pi_tup (pv 2)) (blkOk_by (own := [("one", 3)]) (N := N_Term_init) (sc := defScope s_Term_init) (by decide +kernel)) (fun _ _ _ _ _ => (pg_name (i := 3) sc_Term_init.nd rfl (by first | exact .inl rfl | exact .inr rfl))) (fun _ _ _ _ _ => pts_nil) (fun _ _ _ _ _ => (pe_call G_is_integer (hr.mono (by decide)) (by rfl) T.g_is_integer T.F_is_integer.kp T.b_is_integer .nil pass0 (pa_cons (pv 3) pa_nil)))) pa_nil))))
      (pss_one (ps_raise rfl (takes_of rfl rfl rfl rfl) (pmk_any T.E_InvalidTerm G_InvalidTerm_init (hr.mono (by omega)) T.b_InvalidTerm_init .nil pass0 (by rfl) (pa_cons pe_str pa_nil))))
      pss_nil)
      (pss_cons (ps_if (PW.pt (pw_or (pt_not (pt_val (pe_call G_is_integer (hr.mono (by decide)) (by rfl) T.g_is_integer T.F_is_integer.kp T.b_is_integer .nil pass0 (pa_cons (pv 1) pa_nil)))) (pw_or1 (pt_cmpR op_lt (pv 1) pe_int (nomark _)))))
      (pss_one (ps_raise rfl (takes_of rfl rfl rfl rfl) (pmk_any T.E_InvalidTerm G_InvalidTerm_init (hr.mono (by omega)) T.b_InvalidTerm_init .nil pass0 (by rfl) (pa_cons pe_str pa_nil))))
      pss_nil)
      (pss_cons (ps_fld (pv 0) (pe_call G_reduced (hr.mono (by decide)) (by rfl) T.g_reduced T.F_reduced.kp T.b_reduced .nil pass0 (pa_cons (pv 1) (pa_cons (pv 2) pa_nil))) (by rfl))
      (pss_cons (ps_fld (pv 0) (pe_slice sl_tupA (pe_fld (pv 0) (by rfl)) (po_some pe_int) po_none) (by rfl))
      (pss_one (ps_fld (pv 0) (pe_ix ix_tup (pe_fld (pv 0) (by rfl)) pe_int (fun _ _ => rfl)) (by rfl))))))), ?_⟩
  walk_at "st"
  walk_at "vc"
  have told : ∀ (H1 : Hp) (wd : Str), ToldA a_InvalidTerm "word" (.str wd) E H1 → [V.str wd].length ≤ 1000 ∧ ∀ a, H1 a = none → spIniX K "word" (.ref a :: ([V.str wd] ++ [])) (L2.upd H1 a (exo a a_InvalidTerm none))
    (fun u H2 => u = .non ∧ ∃ (d : Addr) (fs : List (Str × V)), H2 a = some (exo a a_InvalidTerm (some d)) ∧ H2 d = some (exd d fs) ∧ H1 d = none ∧ E (.ref a_InvalidTerm) (some d) (L2.upd (del H2 a) d (.xd fs))) (fun _ _ _ => False) :=
    fun H1 wd h => mkErrR T.E_InvalidTerm fun d hd => h H1 d (Ex.refl _) hd
  refine ⟨_, rfl, c, rfl, ⟨_, hc⟩, fun D hD => ?_⟩
  refine lc_it (walk_tup (xs := vs)) (fun i H' => H' D = some (.lst ((bs.take i).map V.bl)) ∧ Ex H H') ⟨upd_same, Ex.new hD⟩ (fun i H' _ hP => hP.2.sqt hc) (fun j u H6 H7 hj hP y => ?_) (fun H6 hP => ?_)
  · obtain ⟨rfl, hv2⟩ := y
    obtain ⟨g1, g4⟩ := hP
    obtain ⟨b, hb, fb⟩ := hf.2 j u hv2
    have hjl := (List.getElem?_eq_some_iff.mp hv2).1
    walk_at "vc"
    refine ⟨b, fb.ex g4, _, g1, sz_lt (by rw [List.length_map, List.length_take]; omega), ?_, g4.mut hD⟩
    rw [upd_same, List.take_add_one, hb, List.map_append]
    rfl
  · obtain ⟨g1, g4⟩ := hP
    rw [hf.1, List.take_length] at g1
    refine ⟨D, _, rfl, sq_of g1, _, rfl, ?_⟩
    rcases q with ⟨hb, ht⟩ | ⟨cs, rfl, hb, q⟩
    · rw [hb, if_pos (by decide)]
      exact told _ _ (ht.ex g4)
    rw [hb, if_neg (by decide)]
    rcases q with ⟨b, fo, r, ht⟩ | ⟨u, rfl, o1, o2, q⟩
    · refine ⟨b, fo.ex g4, _, rfl, ?_⟩
      rcases r with rfl | ⟨i, rfl, rfl, hi⟩
      · rw [if_pos (by decide)]
        exact told _ _ (ht.ex g4)
      · rw [if_neg (by decide)]
        refine ⟨_, rfl, ?_⟩
        rw [if_pos hi]
        exact told _ _ (ht.ex g4)
    refine ⟨true, fl_int _ _, _, rfl, ?_⟩
    rw [if_neg (by decide)]
    refine ⟨_, rfl, ?_⟩
    rw [if_neg (by omega)]
    rw [List.length_map] at hl
    refine ⟨_, rfl, _, rfl, cs, .inr (g4.sqt hc), o1, o2, hl, fun a1 H1 e1 s1 => ?_⟩
    have hx1 := e1 _ _ (g4 _ _ hx)
    have l1 : Els x H H1 := Els.of (g4.trans e1)
    refine ⟨_, rfl, x, a_Term, dx, [], rfl, hx1, T.oc_Term.cl, T.nF_Term_poly, by decide, ?_⟩
    have l2 : Els x H1 (upd H1 x (.ins a_Term dx [("poly", .ref a1)])) := (Els.of (Ex.refl _)).set
    have s2 : PolT K (upd H1 x (.ins a_Term dx [("poly", .ref a1)])) a1 (lowM u cs) := l2.sqt hx1 s1
    have hx2 : upd H1 x (.ins a_Term dx [("poly", .ref a1)]) x = some (.ins a_Term dx [("poly", .ref a1)]) := upd_same
    have l3 : Els x H (upd H1 x (.ins a_Term dx [("poly", .ref a1)])) := l1.set
    show tSeq _ _ _ _ (upd H1 x (.ins a_Term dx [("poly", .ref a1)]))
    generalize upd H1 x (.ins a_Term dx [("poly", .ref a1)]) = H2 at *
    refine ⟨_, rfl, x, a_Term, dx, [("poly", .ref a1)], .ref a1, rfl, hx2, T.oc_Term.cl, T.nF_Term_poly, rfl, 1, rfl, ?_⟩
    simp only [tNoPart]
    refine slA_of s2 fun t3 H3 e3 s3 => ?_
    rw [cut_one] at s3
    refine ⟨_, rfl, x, a_Term, dx, _, rfl, e3 _ _ hx2, T.oc_Term.cl, T.nF_Term_coefficients, (show (1 : Nat) < 1000 by decide), ?_⟩
    have hx3 := e3 _ _ hx2
    have l4 : Els x H3 (upd H3 x (.ins a_Term dx [("poly", .ref a1), ("coefficients", .ref t3)])) := (Els.of (Ex.refl _)).set
    have s4 := l4.sqt hx3 s3
    have s5 : PolT K (upd H3 x (.ins a_Term dx [("poly", .ref a1), ("coefficients", .ref t3)])) a1 (lowM u cs) := l4.sqt hx3 (s2.ex e3)
    have hx4 : upd H3 x (.ins a_Term dx [("poly", .ref a1), ("coefficients", .ref t3)]) x = some (.ins a_Term dx [("poly", .ref a1), ("coefficients", .ref t3)]) := upd_same
    have l5 : Els x H (upd H3 x (.ins a_Term dx [("poly", .ref a1), ("coefficients", .ref t3)])) := (l3.tex e3).set
    show sFld K _ _ _ _ _ (upd H3 x (.ins a_Term dx [("poly", .ref a1), ("coefficients", .ref t3)]))
    generalize upd H3 x (.ins a_Term dx [("poly", .ref a1), ("coefficients", .ref t3)]) = H4 at *
    refine ⟨_, rfl, x, a_Term, dx, _, .ref a1, rfl, hx4, T.oc_Term.cl, T.nF_Term_poly, rfl, ?_⟩
    simp only [tC]
    refine ixT_of s5 ?_
    refine ⟨_, rfl, x, a_Term, dx, _, rfl, hx4, T.oc_Term.cl, T.nF_Term_over, (show (2 : Nat) < 1000 by decide), ?_⟩
    have l6 : Els x H4 (upd H4 x (.ins a_Term dx [("poly", .ref a1), ("coefficients", .ref t3), ("over", .int (lowM u cs).1)])) := (Els.of (Ex.refl _)).set
    exact q _ l5.set ⟨x, dx, a1, t3, rfl, upd_same, l6.sqt hx4 s5, l6.sqt hx4 s4⟩
def sp_TermK (K : PySem.W.Frag) (CT CE : Addr) : List V → List V → Hp → VK → XK → Prop := fun vs zs H Q E => ∃ a d rest, vs = a :: rest ∧ zs = [d] ∧ rest.length ≤ sizeLine ∧ ∀ p, H p = Option.none → sp_Term_init K CT CE [a, d, V.ref p] (upd H p (.tup rest)) Q E
def sp_TermD (K : PySem.W.Frag) (CT CE : Addr) : List V → List V → Hp → VK → XK → Prop := fun vs zs H Q E => ∃ a rest, vs = a :: rest ∧ rest.length ≤ sizeLine ∧ ∀ p, H p = Option.none → sp_Term_init K CT CE [a, .int 1, V.ref p] (upd H p (.tup rest)) Q E
theorem ok_Term_initK (T : Txt K mg a_is_integer a_reduced a_value a_law_deal a_law_draw a_law_gcd a_law_lowest a_law_value a_law_made a_law_row a_law_at a_law_refused a_law a_InvalidTerm_init a_Term_init a_Term_degree a_Term_call a_Term_eq a_InvalidTerm a_NotWhole a_FigureError a_Term d_is_integer d_reduced d_value d_law_deal d_law_draw d_law_gcd d_law_lowest d_law_value d_law_made d_law_row d_law_at d_law_refused d_law d_InvalidTerm_init d_Term_init d_Term_degree d_Term_call d_Term_eq) : FnKW P w K mg base (L2.CX P w) 6 a_Term_init ["over"] (sp_TermK K a_Term a_InvalidTerm) := by
  obtain ⟨oc, od, dV, kV, doc, pm, an, cdv, ct, osl, hfd, lk, hcd, hD, hK⟩ := T.F_Term_init.ex
  rw [hfd] at lk
  rcases hD with ⟨_, rfl⟩ | ⟨e, _⟩
  · exact fn_starK (p1 := "self") (pk := "over") (pv := "coefficients") lk hcd sc_Term_init StX.cxUp (fun a v rest => by cases rest <;> rfl) fun A outer s H vs Q E hr h => body_Term_init T hr h
  · exact absurd rfl e
theorem ok_Term_initD (T : Txt K mg a_is_integer a_reduced a_value a_law_deal a_law_draw a_law_gcd a_law_lowest a_law_value a_law_made a_law_row a_law_at a_law_refused a_law a_InvalidTerm_init a_Term_init a_Term_degree a_Term_call a_Term_eq a_InvalidTerm a_NotWhole a_FigureError a_Term d_is_integer d_reduced d_value d_law_deal d_law_draw d_law_gcd d_law_lowest d_law_value d_law_made d_law_row d_law_at d_law_refused d_law d_InvalidTerm_init d_Term_init d_Term_degree d_Term_call d_Term_eq) : FnKW P w K mg base (L2.CX P w) 6 a_Term_init [] (sp_TermD K a_Term a_InvalidTerm) := by
  obtain ⟨oc, od, dV, kV, doc, pm, an, cdv, ct, osl, hfd, lk, hcd, hD, hK⟩ := T.F_Term_init.ex
  rw [hfd] at lk
  rcases hD with ⟨_, rfl⟩ | ⟨e, _⟩
  · rcases hK with e | ⟨D, rfl, hq⟩
    · cases e
    · exact fn_starD (p1 := "self") (pk := "over") (pv := "coefficients") (D := D) (d := .int 1) lk hcd sc_Term_init StX.cxUp (hq ("over", .int 1) (by simp)) (fun a v rest => by cases rest <;> exact ⟨_, _, _, _, _, _, rfl, rfl, rfl⟩) fun A outer s H vs Q E hr h => body_Term_init T hr h
  · exact absurd rfl e
end
end My
set_option Elab.async false
set_option linter.all false
set_option maxRecDepth 100000
set_option maxHeartbeats 4000000
set_option exponentiation.threshold 5000
namespace My
open PySem PySem.Spec PyProof.Rows L2 Evl
local macro_rules | `(tactic| walk_at "st") => `(tactic| simp only [L2.start, List.map_cons, List.map_nil, List.length_cons, List.length_nil, Nat.reduceAdd, Nat.reduceSub, List.replicate_succ, List.replicate_zero, List.cons_append, List.nil_append, cxOf, List.append_nil])
local macro_rules | `(tactic| walk_at "vc") => `(tactic| try simp only [tSeq, tAsg, tOp, tUn, tVar, tC, tNil, tCons, gName, rI, rI0, rU, tRet, tIfS, tNot, tAnd, tOr, tB, tTest, tCB, tCall, tAndV, tOrV, tNotV, tNext, tNever, tIf, tChain, tYes, tPart, tNoPart, tPar, tDrop, q_isi, q_vn, q_vb, q_vi, q_vs, kb1, kb2, kb3, kb4, kb5, kb6, kb7, kb8, q_int1, q_int2, q_min, q_max, q_repr, tLst, tTup, rEq, rNe, q_sii, q_sss, q_sbb, q_snn, q_sns, q_ssn, q_ix, q_sl, tSl, tBM, tBM0, q_app, q_pop, gSub, rSetL, L2.wipe, eq_self, decide_true, decide_false, tRevL,
  List.getElem?_cons_succ, List.getElem?_cons_zero, List.set_cons_succ, List.set_cons_zero, Option.some.injEq, exists_eq_left', exists_eq_left, V.int.injEq, V.bl.injEq, V.ref.injEq, V.str.injEq, List.cons.injEq, and_true, true_and, List.append_nil, List.nil_append, List.cons_append, exists_and_left, and_assoc, if_true, if_false, Bool.not_true, Bool.not_false, Bool.false_eq_true, Bool.true_eq_false, reduceIte, tRevL, tPar3, tRevT, tUnl, tCKw, forall_const, Bool.not_eq_true', decide_eq_true_eq, decide_eq_false_iff_not])
section
variable {P : Program} {w : World} {K : PySem.W.Frag} {mg : Str → Option Value} {base : Heap}
variable {a_is_integer a_reduced a_value a_law_deal a_law_draw a_law_gcd a_law_lowest a_law_value a_law_made a_law_row a_law_at a_law_refused a_law a_InvalidTerm_init a_Term_init a_Term_degree a_Term_call a_Term_eq a_InvalidTerm a_NotWhole a_FigureError a_Term : Addr} {d_is_integer d_reduced d_value d_law_deal d_law_draw d_law_gcd d_law_lowest d_law_value d_law_made d_law_row d_law_at d_law_refused d_law d_InvalidTerm_init d_Term_init d_Term_degree d_Term_call d_Term_eq : FuncData}
def sp_law_gcd : Sp
  | [.int a, .int b], H, Q, _ => Q (.int ((Nat.gcd a.natAbs b.natAbs : Nat) : Int)) H
  | _, _, _, _ => False
theorem ok_law_gcd (T : Txt K mg a_is_integer a_reduced a_value a_law_deal a_law_draw a_law_gcd a_law_lowest a_law_value a_law_made a_law_row a_law_at a_law_refused a_law a_InvalidTerm_init a_Term_init a_Term_degree a_Term_call a_Term_eq a_InvalidTerm a_NotWhole a_FigureError a_Term d_is_integer d_reduced d_value d_law_deal d_law_draw d_law_gcd d_law_lowest d_law_value d_law_made d_law_row d_law_at d_law_refused d_law d_InvalidTerm_init d_Term_init d_Term_degree d_Term_call d_Term_eq) : FnOk P w K mg base CX0 1 a_law_gcd d_law_gcd ["_law_one", "_law_other"] sp_law_gcd := by
  refine T.F_law_gcd.ok sc_law_gcd (fun vs H Q E h => ?_) (fun cdv A outer s H vs Q E hr h => ?_)
  · unfold sp_law_gcd at h; split at h; rfl; exact h.elim
  unfold sp_law_gcd at h; split at h
  case h_2 => exact h.elim
  rename_i a b
  refine ⟨_, (pss_cons (ps_par (i := 0) (j := 1) (by rfl) sc_law_gcd.nd rfl rfl (by decide) rfl rfl (pa_cons (pe_callB call_abs (by rfl) T.z_abs (by decide +kernel) (pa_cons (pv 0) pa_nil)) (pa_cons (pe_callB call_abs (by rfl) T.z_abs (by decide +kernel) (pa_cons (pv 1) pa_nil)) pa_nil)) (by rfl))
      (Evl.pss_cut (ps_while PassesOwn.never (pt_cmpR op_ne (pv 1) pe_int (nomark _))
      (pss_one (ps_par (i := 0) (j := 1) (by rfl) sc_law_gcd.nd rfl rfl (by decide) rfl rfl (pa_cons (pv 1) (pa_cons (pe_op op_mod (pe_callTy call_intM (by rfl) T.z_int (by decide +kernel) (pa_cons (pv 0) pa_nil)) (pv 1)) pa_nil)) (by rfl))))
      (pss_one (ps_ret (pv 0))))), ?_⟩
  walk_at "st"
  walk_at "vc"
  have e1 : (if a < 0 then -a else a) = (a.natAbs : Int) := by split <;> omega
  have e2 : (if b < 0 then -b else b) = (b.natAbs : Int) := by split <;> omega
  rw [e1, e2]
  refine ⟨fun σ H' => H = H' ∧ ∃ s1, σ = [some (.int ((Nat.gcd a.natAbs b.natAbs : Nat) : Int)), s1], ⟨fun k σ H' => H = H' ∧ ∃ m : Nat, σ = [some (.int m), some (.int k)] ∧ Nat.gcd m k = Nat.gcd a.natAbs b.natAbs, ⟨b.natAbs, rfl, _, rfl, rfl⟩, fun k σ H' hw => ?_⟩, fun σ H' hm => ?_⟩
  · obtain ⟨rfl, m, rfl, hg⟩ := hw
    walk_at "vc"
    refine ite2 (fun h0 => ?_) (fun h0 => ?_)
    · have hk : 0 < k := by omega
      refine ⟨_, fun _ _ hN => hN, by omega, m % k, Nat.mod_lt _ hk, rfl, k, by simp, ?_⟩
      rw [← hg, Nat.gcd_comm m k, Nat.gcd_rec k m, Nat.gcd_comm]
    · have hk : k = 0 := by omega
      subst hk
      rw [Nat.gcd_zero_right] at hg
      exact ⟨by rw [hg], _, rfl⟩
  · obtain ⟨rfl, s1, rfl⟩ := hm
    walk_at "vc"
    exact h
def sp_law_lowest (K : PySem.W.Frag) : Sp
  | [.ref p, .int u], H, Q, _ => ∃ cs : List Int, (SqL K H p (cs.map V.int) ∨ SqT K H p (cs.map V.int)) ∧ 1 ≤ u ∧ u < 2 ^ 250 ∧ cs.length ≤ 1000 ∧ ∀ v H', Ex H H' → PairT K H' v (lowM u cs) → Q v H'
  | _, _, _, _ => False
theorem ok_law_lowest (T : Txt K mg a_is_integer a_reduced a_value a_law_deal a_law_draw a_law_gcd a_law_lowest a_law_value a_law_made a_law_row a_law_at a_law_refused a_law a_InvalidTerm_init a_Term_init a_Term_degree a_Term_call a_Term_eq a_InvalidTerm a_NotWhole a_FigureError a_Term d_is_integer d_reduced d_value d_law_deal d_law_draw d_law_gcd d_law_lowest d_law_value d_law_made d_law_row d_law_at d_law_refused d_law d_InvalidTerm_init d_Term_init d_Term_degree d_Term_call d_Term_eq) : FnOk P w K mg base CX0 2 a_law_lowest d_law_lowest ["_law_row_here", "_law_under"] (sp_law_lowest K) := by
  have G_law_gcd := ok_law_gcd (P := P) (w := w) (base := base) T
  refine T.F_law_lowest.ok sc_law_lowest (fun vs H Q E h => ?_) (fun cdv A outer s H vs Q E hr h => ?_)
  · unfold sp_law_lowest at h; split at h; rfl; exact h.elim
  unfold sp_law_lowest at h; split at h
  case h_2 => exact h.elim
  rename_i p u
  obtain ⟨cs, hp, u1, u2, hl, q⟩ := h
  refine ⟨_, (pss_cons (ps_set (i := 0) sc_law_lowest.nd rfl (by first | exact .inl rfl | exact .inr rfl) (pe_callTy call_list_of (by rfl) T.z_list (by decide +kernel) (pa_cons (pv 0) pa_nil)))
      (Evl.pss_cut (ps_while PassesOwn.never (PW.pt (pw_and (pt_cmpR (op_neD hr.units) (pv 0) (pe_lst pa_nil) (nomark _)) (pw_and1 (pt_cmpR op_eq (pe_ix ix_listM (pv 0) (pe_un un_neg pe_int) (fun _ _ => rfl)) pe_int (nomark _)))))
      (pss_one (ps_expr (pe_bm0 PySem.F.plainAttrs_list PySem.F.slot_list_pop PySem.F.type_list_pop mt_popM (pv 0)))))
      (pss_cons (ps_set (i := 2) sc_law_lowest.nd rfl (by first | exact .inl rfl | exact .inr rfl) (pv 1))
      (Evl.pss_cut (ps_for PassesOwn.never rfl (pi_list (pv 0)) (pg_name (i := 3) sc_law_lowest.nd rfl (by first | exact .inl rfl | exact .inr rfl))
      (pss_one (ps_set (i := 2) sc_law_lowest.nd rfl (by first | exact .inl rfl | exact .inr rfl) (pe_call G_law_gcd (hr.mono (by decide)) (by rfl) T.g_law_gcd T.F_law_gcd.kp T.b_law_gcd .nil pass0 (pa_cons (pv 2) (pa_cons (pv 3) pa_nil))))))
      (pss_one (ps_ret (pe_tup (pa_cons (pe_callTy call_tuple_of (by rfl) T.z_tuple (by decide +kernel) (pa_cons (pe_lc (own := [("_law_one", 3)]) (g := gName 3) (by rfl) sc_law_lowest.nd (pi_list (pv 0)) (blkOk_by (own := [("_law_one", 3)]) (N := N_law_lowest) (sc := defScope s_law_lowest) (by decide +kernel)) (fun _ _ _ _ _ => (pg_name (i := 3) sc_law_lowest.nd rfl (by first | exact .inl rfl | exact .inr rfl))) (fun _ _ _ _ _ => pts_nil) (fun _ _ _ _ _ => (pe_op op_fdivW (pv 3) (pv 2)))) pa_nil)) (pa_cons (pe_op op_fdivW (pv 1) (pv 2)) pa_nil))))))))), ?_⟩
  walk_at "st"
  walk_at "vc"
  refine ⟨_, hp, fun l hl0 => ?_⟩
  refine ⟨fun σ H' => σ = [some (.ref l), some (.int u), none, none] ∧ Ex H H' ∧ H' l = some (.lst ((strip cs).map V.int)), ⟨fun k σ H' => σ = [some (.ref l), some (.int u), none, none] ∧ k ≤ cs.length ∧ Ex H H' ∧ H' l = some (.lst ((cs.take k).map V.int)) ∧ strip (cs.take k) = strip cs, ⟨cs.length, rfl, Nat.le_refl _, Ex.new hl0, by rw [upd_same, List.take_length], by rw [List.take_length]⟩, fun k σ H' hw => ?_⟩, fun σ H' hm => ?_⟩
  · obtain ⟨rfl, hk, e1, w1, hs⟩ := hw
    walk_at "vc"
    refine ⟨sz_le (Nat.zero_le _), fun t ht => neLists (xs := cs.take k) (ys := []) (sq_of (Ex.new ht _ _ w1)) (sq_of upd_same) ?_⟩
    have e2 := Ex.new ht (o := .lst [])
    walk_at "vc"
    refine ite2 (fun hne => ?_) (fun hne => ?_)
    · obtain ⟨j, rfl⟩ : ∃ j, k = j + 1 := ⟨k - 1, by have : k ≠ 0 := fun z => hne (by rw [z]; rfl); omega⟩
      have hj : j < cs.length := by omega
      have et : cs.take (j + 1) = cs.take j ++ [cs[j]] := by rw [List.take_add_one, List.getElem?_eq_getElem hj]; rfl
      rw [et] at w1 hs
      have w2 := e2 _ _ w1
      have w3 := w2
      rw [List.map_append] at w3
      refine ⟨_, sq_of w3, _, atI_last _ _, rfl, ?_⟩
      refine ite2 (fun h0 => ?_) (fun h0 => ?_)
      · have h0 : cs[j] = 0 := V.int.inj h0
        refine ⟨_, fun _ _ hN => hN, .inl ⟨rfl, _, sq_of w3⟩, _, w3, .int cs[j], by simp, j, by omega, rfl, by omega, (e1.trans e2).mut hl0, by rw [upd_same]; simp, ?_⟩
        rw [h0, strip_snoc0] at hs
        exact hs
      · have h0 : cs[j] ≠ 0 := fun e => h0 (by rw [e])
        rw [strip_snoc h0] at hs
        exact ⟨e1.trans e2, by rw [w2, hs]⟩
    · have hz : cs.take k = [] := Classical.not_not.mp hne
      rw [hz] at hs w1
      exact ⟨e1.trans e2, by rw [e2 _ _ w1, ← hs]; rfl⟩
  · obtain ⟨rfl, e1, w1⟩ := hm
    have hkl : (strip cs).length ≤ 1000 := Nat.le_trans (strip_len cs) hl
    walk_at "vc"
    refine ⟨fun σ H2 => H' = H2 ∧ ∃ s3, σ = [some (.ref l), some (.int u), some (.int (share u (strip cs))), s3], ?_, fun σ H2 hm2 => ?_⟩
    · refine ⟨_, rfl, l, rfl, ⟨_, sq_of w1⟩, ?_⟩
      refine for_list (xs := (strip cs).map V.int) (fun i σ H2 => H' = H2 ∧ ∃ s3, σ = [some (.ref l), some (.int u), some (.int (share u ((strip cs).take i))), s3]) ⟨rfl, _, rfl⟩ (fun i σ H2 _ hv => by obtain ⟨rfl, _⟩ := hv; exact sq_of w1) (fun i v σ H2 hi hv => ?_) (fun σ H2 hv => ?_)
      · obtain ⟨rfl, s3, rfl⟩ := hv
        rw [List.getElem?_map] at hi
        obtain ⟨c, hc, rfl⟩ := Option.map_eq_some_iff.mp hi
        have et : (strip cs).take (i + 1) = (strip cs).take i ++ [c] := by rw [List.take_add_one, hc]; rfl
        walk_at "vc"
        exact ⟨rfl, by rw [et, share_snoc], _, rfl⟩
      · obtain ⟨rfl, s3, rfl⟩ := hv
        rw [List.length_map, List.take_length]
        exact ⟨rfl, _, rfl⟩
    obtain ⟨rfl, s3, rfl⟩ := hm2
    walk_at "vc"
    have sp := share_pos (strip cs) u1
    have sl := share_le (strip cs) u1
    refine ⟨_, rfl, l, rfl, ⟨_, sq_of w1⟩, fun D hD => ?_⟩
    refine lc_it (walk_list (xs := (strip cs).map V.int)) (fun i H2 => H2 D = some (.lst ((((strip cs).take i).map (· / share u (strip cs))).map V.int)) ∧ Ex H' H2) ⟨upd_same, Ex.new hD⟩ (fun i H2 _ hP => sq_of (hP.2 _ _ w1)) (fun j z H6 H7 hj hP y => ?_) (fun H6 hP => ?_)
    · obtain ⟨rfl, hv2⟩ := y
      obtain ⟨g1, g4⟩ := hP
      rw [List.getElem?_map] at hv2
      obtain ⟨c, hc, rfl⟩ := Option.map_eq_some_iff.mp hv2
      walk_at "vc"
      refine ⟨divOk (by omega) (by omega), _, g1, sz_lt (by rw [List.length_map, List.length_map, List.length_take]; omega), ?_, g4.mut hD⟩
      rw [upd_same, List.take_add_one, hc, List.map_append, List.map_append]
      rfl
    · obtain ⟨g1, g4⟩ := hP
      rw [List.length_map, List.take_length] at g1
      refine ⟨D, rfl, _, .inl ⟨sq_of g1, fun t2 ht2 => ⟨divOk (by omega) (by omega), sz_le (by simp), fun t3 ht3 => ?_⟩⟩⟩
      have e6 := Ex.new ht2 (o := .tup (((strip cs).map (· / share u (strip cs))).map V.int))
      have e7 := Ex.new ht3 (o := .tup [.ref t2, .int (u / share u (strip cs))])
      exact q _ _ ((e1.trans g4).trans (e6.trans e7)) ⟨t3, t2, rfl, st_of upd_same, st_of (e7 _ _ upd_same)⟩
def sp_law_row (K : PySem.W.Frag) : Sp
  | [.ref d, .int n, .int m], H, Q, _ => ∃ L, Deal d L H ∧ 0 ≤ n ∧ n ≤ 100 ∧ 6 ≤ m ∧ m ≤ 2 ^ 100 ∧ ∀ p (cs : List Int) H', Mv d L H H' → H p = none → H' p = some (.lst (cs.map V.int)) → p ≠ d → p ≠ L → cs.length = n → Bd m.toNat cs → Q (.ref p) H'
  | _, _, _, _ => False
theorem ok_law_row (T : Txt K mg a_is_integer a_reduced a_value a_law_deal a_law_draw a_law_gcd a_law_lowest a_law_value a_law_made a_law_row a_law_at a_law_refused a_law a_InvalidTerm_init a_Term_init a_Term_degree a_Term_call a_Term_eq a_InvalidTerm a_NotWhole a_FigureError a_Term d_is_integer d_reduced d_value d_law_deal d_law_draw d_law_gcd d_law_lowest d_law_value d_law_made d_law_row d_law_at d_law_refused d_law d_InvalidTerm_init d_Term_init d_Term_degree d_Term_call d_Term_eq) : FnOk P w K mg base CX0 2 a_law_row d_law_row ["_law_deal_here", "_law_amount", "_law_most"] (sp_law_row K) := by
  have G_law_draw := ok_law_draw (P := P) (w := w) (base := base) T
  refine T.F_law_row.ok sc_law_row (fun vs H Q E h => ?_) (fun cdv A outer s H vs Q E hr h => ?_)
  · unfold sp_law_row at h; split at h; rfl; exact h.elim
  unfold sp_law_row at h; split at h
  case h_2 => exact h.elim
  rename_i d n m
  obtain ⟨L, D, n0, n1, m0, m1, q⟩ := h
  refine ⟨_, (pss_cons (ps_set (i := 3) sc_law_row.nd rfl (by first | exact .inl rfl | exact .inr rfl) (pe_lst pa_nil))
      (Evl.pss_cut (ps_for PassesOwn.never rfl (pi_range1 (by rfl) T.z_range (pa_cons (pv 1) pa_nil)) (pg_name (i := 4) sc_law_row.nd rfl (by first | exact .inl rfl | exact .inr rfl))
      (pss_cons (ps_set (i := 5) sc_law_row.nd rfl (by first | exact .inl rfl | exact .inr rfl) (pe_ix ix_listM (pe_lst (pa_cons pe_int (pa_cons pe_int (pa_cons (pv 2) pa_nil)))) (pe_call G_law_draw (hr.mono (by decide)) (by rfl) T.g_law_draw T.F_law_draw.kp T.b_law_draw .nil pass0 (pa_cons (pv 0) (pa_cons pe_int pa_nil))) (fun _ _ => rfl)))
      (pss_one (ps_expr (pe_bm PySem.F.plainAttrs_list PySem.F.slot_list_append PySem.F.type_list_append mt_appendM (pv 3) (pa_cons (pe_op op_sub (pe_call G_law_draw (hr.mono (by decide)) (by rfl) T.g_law_draw T.F_law_draw.kp T.b_law_draw .nil pass0 (pa_cons (pv 0) (pa_cons (pe_op op_add (pe_op op_mulX pe_int (pv 5)) pe_int) pa_nil))) (pv 5)) pa_nil))))))
      (pss_one (ps_ret (pv 3))))), ?_⟩
  walk_at "st"
  walk_at "vc"
  refine ⟨sz_le (Nat.zero_le _), fun p hp => ?_⟩
  have of := D.off hp
  obtain ⟨n, rfl⟩ := Int.eq_ofNat_of_zero_le n0
  refine ⟨fun σ H' => ∃ s4 s5 cs, σ = [some (.ref d), some (.int n), some (.int m), some (.ref p), s4, s5] ∧ Mv d L H H' ∧ H' p = some (.lst ((cs : List Int).map V.int)) ∧ cs.length = n ∧ Bd m.toNat cs, ?_, fun σ H' hm => ?_⟩
  · refine ⟨_, rfl, _, rfl, by omega, by omega, for_range (lo := 0) (n := n) (fun i σ H' => ∃ s4 s5 cs, σ = [some (.ref d), some (.int n), some (.int m), some (.ref p), s4, s5] ∧ Mv d L H H' ∧ H' p = some (.lst ((cs : List Int).map V.int)) ∧ cs.length = i ∧ Bd m.toNat cs) ⟨_, _, [], rfl, (Mv.refl D).new hp, upd_same, rfl, fun c hc => by cases hc⟩ (fun i σ H' hi hw => ?_) (fun σ H' hw => hw)⟩
    obtain ⟨s4, s5, cs, rfl, M, w1, l1, b1⟩ := hw
    walk_at "vc"
    refine ⟨sz_le (by simp), fun p1 hp1 => ?_⟩
    have M1 := M.new hp1 (o := .lst [V.int 1, V.int 6, V.int m])
    have o1 := M.dl.off hp1
    refine ⟨L, M1.dl, by decide, by decide, fun g H1 g0 g1 M2 => ?_⟩
    have w2 : H1 p1 = some (.lst [V.int 1, V.int 6, V.int m]) := M2.kp _ _ o1.1 o1.2 upd_same
    have w3 : H1 p = some (.lst (cs.map V.int)) := M2.kp _ _ of.1 of.2 (by rw [upd_ne (fun e => by rw [← e, w1] at hp1; cases hp1)]; exact w1)
    have M3 := M1.trans M2
    obtain ⟨span, hat, sp1, sp2⟩ : ∃ span : Int, atI [V.int 1, V.int 6, V.int m] g = some (.int span) ∧ 1 ≤ span ∧ span ≤ m := by
      have hg : g = 0 ∨ g = 1 ∨ g = 2 := by omega
      rcases hg with rfl | rfl | rfl
      · exact ⟨1, rfl, by omega, by omega⟩
      · exact ⟨6, rfl, by omega, by omega⟩
      · exact ⟨m, rfl, by omega, by omega⟩
    refine ⟨_, _, sq_of w2, hat, .inl ⟨rfl, _, sq_of w3⟩, span, rfl, mulOk (by omega) (by omega) (by omega) (by omega), L, M3.dl, by omega, by omega, fun v H4 v0 v1 M4 => ⟨v, rfl, span, rfl, _, M4.kp _ _ of.1 of.2 w3, sz_lt (by simp; omega), (M3.trans M4).mut hp of.1 of.2, cs ++ [v - span], by rw [upd_same, List.map_append]; rfl, by rw [List.length_append, l1]; rfl, fun c hc => ?_⟩⟩
    rcases List.mem_append.mp hc with hc | hc
    · exact b1 c hc
    · rw [List.mem_singleton.mp hc]
      omega
  · obtain ⟨s4, s5, cs, rfl, M, w1, l1, b1⟩ := hm
    walk_at "vc"
    exact q p cs H' M hp w1 of.1 of.2 (by omega) b1
end
end My
set_option Elab.async false
set_option linter.all false
set_option maxRecDepth 100000
set_option maxHeartbeats 4000000
set_option exponentiation.threshold 5000
namespace My
open PySem PySem.Spec PyProof.Rows L2 Evl
local macro_rules | `(tactic| walk_at "st") => `(tactic| simp only [L2.start, List.map_cons, List.map_nil, List.length_cons, List.length_nil, Nat.reduceAdd, Nat.reduceSub, List.replicate_succ, List.replicate_zero, List.cons_append, List.nil_append, cxOf, List.append_nil])
local macro_rules | `(tactic| walk_at "vc") => `(tactic| try simp only [tSeq, tAsg, tOp, tUn, tVar, tC, tNil, tCons, gName, rI, rI0, rU, tRet, tIfS, tNot, tAnd, tOr, tB, tTest, tCB, tCall, tAndV, tOrV, tNotV, tNext, tNever, tIf, tChain, tYes, tPart, tNoPart, tPar, tDrop, q_isi, q_vn, q_vb, q_vi, q_vs, kb1, kb2, kb3, kb4, kb5, kb6, kb7, kb8, q_int1, q_int2, q_min, q_max, q_repr, tLst, tTup, rEq, rNe, q_sii, q_sss, q_sbb, q_snn, q_sns, q_ssn, q_ix, q_sl, tSl, tBM, tBM0, q_app, q_pop, gSub, rSetL, L2.wipe, eq_self, decide_true, decide_false, tRevL,
  List.getElem?_cons_succ, List.getElem?_cons_zero, List.set_cons_succ, List.set_cons_zero, Option.some.injEq, exists_eq_left', exists_eq_left, V.int.injEq, V.bl.injEq, V.ref.injEq, V.str.injEq, List.cons.injEq, and_true, true_and, List.append_nil, List.nil_append, List.cons_append, exists_and_left, and_assoc, if_true, if_false, Bool.not_true, Bool.not_false, Bool.false_eq_true, Bool.true_eq_false, reduceIte, tRevL, tPar3, tRevT, tUnl, tCKw, forall_const, Bool.not_eq_true', decide_eq_true_eq, decide_eq_false_iff_not])
section
variable {P : Program} {w : World} {K : PySem.W.Frag} {mg : Str → Option Value} {base : Heap}
variable {a_is_integer a_reduced a_value a_law_deal a_law_draw a_law_gcd a_law_lowest a_law_value a_law_made a_law_row a_law_at a_law_refused a_law a_InvalidTerm_init a_Term_init a_Term_degree a_Term_call a_Term_eq a_InvalidTerm a_NotWhole a_FigureError a_Term : Addr} {d_is_integer d_reduced d_value d_law_deal d_law_draw d_law_gcd d_law_lowest d_law_value d_law_made d_law_row d_law_at d_law_refused d_law d_InvalidTerm_init d_Term_init d_Term_degree d_Term_call d_Term_eq : FuncData}
abbrev BB : Nat := 2 ^ 120
abbrev Ok (p : PM) : Prop := Sm 100 BB p
theorem evalL_drop (cs : List Int) (b : Int) {i : Nat} (h : i < cs.length) : evalL (cs.drop (cs.length - (i + 1))) b = evalL (cs.drop (cs.length - i)) b * b + cs[cs.length - 1 - i] := by
  rw [show cs.length - (i + 1) = cs.length - 1 - i by omega, List.drop_eq_getElem_cons (by omega), evalL, show cs.length - 1 - i + 1 = cs.length - i by omega]
def sp_value (K : PySem.W.Frag) : Sp
  | [.ref a, .int b], H, Q, _ => ∃ x, PolT K H a x ∧ 1 ≤ x.1 ∧ x.1 < 2 ^ 250 ∧ x.2.length ≤ 16 ∧ Bd (2 ^ 60) x.2 ∧ b.natAbs ≤ 2 ^ 100 ∧ ∀ H', Ex H H' → Q (if evalL x.2 b % x.1 = 0 then .int (evalL x.2 b / x.1) else .non) H'
  | _, _, _, _ => False
theorem ok_value (T : Txt K mg a_is_integer a_reduced a_value a_law_deal a_law_draw a_law_gcd a_law_lowest a_law_value a_law_made a_law_row a_law_at a_law_refused a_law a_InvalidTerm_init a_Term_init a_Term_degree a_Term_call a_Term_eq a_InvalidTerm a_NotWhole a_FigureError a_Term d_is_integer d_reduced d_value d_law_deal d_law_draw d_law_gcd d_law_lowest d_law_value d_law_made d_law_row d_law_at d_law_refused d_law d_InvalidTerm_init d_Term_init d_Term_degree d_Term_call d_Term_eq) : FnOk P w K mg base CX0 1 a_value d_value ["x", "base"] (sp_value K) := by
  refine T.F_value.ok sc_value (fun vs H Q E h => ?_) (fun cdv A outer s H vs Q E hr h => ?_)
  · unfold sp_value at h; split at h; rfl; exact h.elim
  unfold sp_value at h; split at h
  case h_2 => exact h.elim
  rename_i a b
  obtain ⟨x, hx, x1, x2, hl, hb, hk, q⟩ := h
  refine ⟨_, (pss_cons (ps_set (i := 2) sc_value.nd rfl (by first | exact .inl rfl | exact .inr rfl) pe_int)
      (Evl.pss_cut (ps_for PassesOwn.never rfl (pi_tup (pe_tailT (pv 0))) (pg_name (i := 3) sc_value.nd rfl (by first | exact .inl rfl | exact .inr rfl))
      (pss_one (ps_set (i := 2) sc_value.nd rfl (by first | exact .inl rfl | exact .inr rfl) (pe_op op_add (pe_op op_mulX (pv 2) (pv 1)) (pv 3)))))
      (pss_cons (ps_if (pt_cmpR op_eq (pe_ix ix_tup (pv 0) pe_int (fun _ _ => rfl)) pe_int (nomark _))
      (pss_one (ps_ret (pv 2)))
      pss_nil)
      (pss_one (ps_ret (pe_ifExp (pt_cmpR op_eq (pe_op op_mod (pv 2) (pe_ix ix_tup (pv 0) pe_int (fun _ _ => rfl))) pe_int (nomark _)) (pe_op op_fdivW (pv 2) (pe_ix ix_tup (pv 0) pe_int (fun _ _ => rfl))) pe_non)))))), ?_⟩
  walk_at "st"
  walk_at "vc"
  have bev : ∀ i, i ≤ x.2.length → (evalL (x.2.drop (x.2.length - i)) b).natAbs ≤ 2 ^ 1676 := fun i hi => by
    have h1 := evalL_bd hk (cs := x.2.drop (x.2.length - i)) fun z hz => hb z (List.mem_of_mem_drop hz)
    have h2 : (2 ^ 100 + 1 : Nat) ^ (x.2.drop (x.2.length - i)).length ≤ (2 ^ 101) ^ 16 := Nat.le_trans (Nat.pow_le_pow_left (by decide) _) (Nat.pow_le_pow_right (by decide) (by rw [List.length_drop]; omega))
    have h3 : 2 ^ 60 * (2 ^ 101 : Nat) ^ 16 ≤ 2 ^ 1676 := by decide +kernel
    exact Nat.le_trans h1 (Nat.le_trans (Nat.mul_le_mul_left _ h2) h3)
  refine ⟨fun σ H' => Ex H H' ∧ ∃ s3, σ = [some (.ref a), some (.int b), some (.int (evalL x.2 b)), s3], ?_, fun σ H' hm => ?_⟩
  · refine ⟨_, rfl, a, .int x.1, x.2.map V.int, rfl, hx, fun t H2 e2 s2 => ⟨t, rfl, ⟨_, s2⟩, ?_⟩⟩
    refine for_tup (K := K) (xs := (x.2.map V.int).reverse) (fun i σ H' => Ex H2 H' ∧ ∃ s3, σ = [some (.ref a), some (.int b), some (.int (evalL (x.2.drop (x.2.length - i)) b)), s3]) ⟨Ex.refl _, none, by rw [Nat.sub_zero, List.drop_length]; rfl⟩ (fun i σ H' _ hv => hv.1.sqt s2) (fun i v σ H' hi hv => ?_) (fun σ H' hv => ?_)
    · obtain ⟨e3, s3, rfl⟩ := hv
      have hin : i < x.2.length := by
        have := (List.getElem?_eq_some_iff.mp hi).1
        rwa [List.length_reverse, List.length_map] at this
      rw [List.getElem?_reverse (by rwa [List.length_map]), List.getElem?_map, List.length_map] at hi
      obtain ⟨c, hc, rfl⟩ := Option.map_eq_some_iff.mp hi
      have hb1 := bev i (by omega)
      have hcc : x.2[x.2.length - 1 - i] = c := by
        rw [List.getElem?_eq_getElem (by omega)] at hc
        exact Option.some.inj hc
      have hb2 : b.natAbs < 2 ^ 2000 := Nat.lt_of_le_of_lt hk (Nat.pow_lt_pow_right (by decide) (by decide))
      have hb3 : (evalL (x.2.drop (x.2.length - i)) b).natAbs < 2 ^ 2000 := Nat.lt_of_le_of_lt hb1 (Nat.pow_lt_pow_right (by decide) (by decide))
      walk_at "vc"
      refine ⟨mulOk20 (by omega) (by omega) (by omega) (by omega), e3, ?_⟩
      rw [evalL_drop _ _ hin, hcc]
      exact ⟨rfl, _, rfl⟩
    · obtain ⟨e3, s3, rfl⟩ := hv
      rw [List.length_reverse, List.length_map, Nat.sub_self, List.drop_zero]
      exact ⟨e2.trans e3, _, rfl⟩
  · obtain ⟨e1, s3, rfl⟩ := hm
    have hx1 := hx.ex e1
    have qq := q H' e1
    walk_at "vc"
    refine ixT_of hx1 ⟨rfl, ?_⟩
    refine ite2 (fun h1 => ?_) (fun h1 => ?_)
    · rw [V.int.inj h1, if_pos (by omega), Int.ediv_one] at qq
      exact qq
    · refine ixT_of hx1 ⟨_, rfl, by omega, ?_⟩
      refine ite2 (fun h2 => ?_) (fun h2 => ?_)
      · rw [if_pos h2] at qq
        exact ixT_of hx1 ⟨_, rfl, divOk (by omega) (by omega), qq⟩
      · rw [if_neg h2] at qq
        exact qq
def sp_Term_call (K : PySem.W.Frag) (CT CN : Addr) : Sp
  | [v, .int b], H, Q, E => ∃ x, TermO K CT H x v ∧ 1 ≤ x.1 ∧ x.1 < 2 ^ 250 ∧ x.2.length ≤ 16 ∧ Bd (2 ^ 60) x.2 ∧ b.natAbs ≤ 2 ^ 100 ∧
      (evalL x.2 b % x.1 = 0 → ∀ H', Ex H H' → Q (.int (evalL x.2 b / x.1)) H') ∧ (evalL x.2 b % x.1 ≠ 0 → ∀ H', Ex H H' → E (.ref CN) none H')
  | _, _, _, _ => False
theorem ok_Term_call (T : Txt K mg a_is_integer a_reduced a_value a_law_deal a_law_draw a_law_gcd a_law_lowest a_law_value a_law_made a_law_row a_law_at a_law_refused a_law a_InvalidTerm_init a_Term_init a_Term_degree a_Term_call a_Term_eq a_InvalidTerm a_NotWhole a_FigureError a_Term d_is_integer d_reduced d_value d_law_deal d_law_draw d_law_gcd d_law_lowest d_law_value d_law_made d_law_row d_law_at d_law_refused d_law d_InvalidTerm_init d_Term_init d_Term_degree d_Term_call d_Term_eq) : FnR P w K mg base (L2.CX P w) 9 a_Term_call (sp_Term_call K a_Term a_NotWhole) := by
  have G_value := ok_value (P := P) (w := w) (base := base) T
  have F : FnOk P w K mg base (L2.CX P w) 9 a_Term_call d_Term_call ["self", "base"] (sp_Term_call K a_Term a_NotWhole) := by
    refine T.F_Term_call.okX sc_Term_call (fun vs H Q E h => ?_) (fun cdv A outer s H vs Q E hr h => ?_)
    · unfold sp_Term_call at h; split at h; rfl; exact h.elim
    unfold sp_Term_call at h; split at h
    case h_2 => exact h.elim
    rename_i v b
    obtain ⟨x, ⟨a, dx, r, c, rfl, h1, h2, h3⟩, x1, x2, hl, hb, hk, qy, qn⟩ := h
    refine ⟨_, (pss_cons (ps_set (i := 2) sc_Term_call.nd rfl (by first | exact .inl rfl | exact .inr rfl) (pe_call G_value (hr.mono (by omega)) (by rfl) T.g_value T.F_value.kp T.b_value .nil pass0 (pa_cons (pe_fld (pv 0) (by rfl)) (pa_cons (pv 1) pa_nil))))
      (pss_cons (ps_if (pt_cmpR op_isN (pv 2) pe_non (nomark _))
      (pss_one (ps_raise rfl (takes_of rfl rfl rfl rfl) (pmk_own0 T.E_NotWhole (by rfl))))
      pss_nil)
      (pss_one (ps_ret (pv 2))))), ?_⟩
    walk_at "st"
    walk_at "vc"
    refine ⟨_, rfl, a, a_Term, dx, _, .ref r, rfl, h1, T.oc_Term.cl, T.nF_Term_poly, rfl, ?_⟩
    refine ⟨x, h2, x1, x2, hl, hb, hk, fun H1 e1 => ?_⟩
    by_cases hz : evalL x.2 b % x.1 = 0
    · rw [if_pos hz]
      exact ite2 (fun h => by cases h) (fun _ => qy hz H1 e1)
    · rw [if_neg hz]
      exact ite2 (fun _ => qn hz H1 e1) (fun h => absurd rfl h)
  exact (F.raw T.b_Term_call .nil).imp fun vs H Q E h => by rw [List.append_nil]; exact h
theorem cO_Term (T : Txt K mg a_is_integer a_reduced a_value a_law_deal a_law_draw a_law_gcd a_law_lowest a_law_value a_law_made a_law_row a_law_at a_law_refused a_law a_InvalidTerm_init a_Term_init a_Term_degree a_Term_call a_Term_eq a_InvalidTerm a_NotWhole a_FigureError a_Term d_is_integer d_reduced d_value d_law_deal d_law_draw d_law_gcd d_law_lowest d_law_value d_law_made d_law_row d_law_at d_law_refused d_law d_InvalidTerm_init d_Term_init d_Term_degree d_Term_call d_Term_eq) : StX.CallO K a_Term a_Term_call := callO_of T.mt_Term_call T.F_Term_call
def sp_Term_degree (K : PySem.W.Frag) (CT : Addr) : Sp
  | [v], H, Q, _ => ∃ x, TermO K CT H x v ∧ x.2.length ≤ 1000 ∧ Q (.int ((x.2.length : Int) - 1)) H
  | _, _, _, _ => False
theorem ok_Term_degree (T : Txt K mg a_is_integer a_reduced a_value a_law_deal a_law_draw a_law_gcd a_law_lowest a_law_value a_law_made a_law_row a_law_at a_law_refused a_law a_InvalidTerm_init a_Term_init a_Term_degree a_Term_call a_Term_eq a_InvalidTerm a_NotWhole a_FigureError a_Term d_is_integer d_reduced d_value d_law_deal d_law_draw d_law_gcd d_law_lowest d_law_value d_law_made d_law_row d_law_at d_law_refused d_law d_InvalidTerm_init d_Term_init d_Term_degree d_Term_call d_Term_eq) : FnOk P w K mg base CX0 1 a_Term_degree d_Term_degree ["self"] (sp_Term_degree K a_Term) := by
  refine T.F_Term_degree.ok sc_Term_degree (fun vs H Q E h => ?_) (fun cdv A outer s H vs Q E hr h => ?_)
  · unfold sp_Term_degree at h; split at h; rfl; exact h.elim
  unfold sp_Term_degree at h; split at h
  case h_2 => exact h.elim
  rename_i v
  obtain ⟨x, ⟨a, dx, r, c, rfl, h1, h2, h3⟩, hl, q⟩ := h
  refine ⟨_, (pss_one (ps_ret (pe_op op_sub (pe_callB call_len_seq (by rfl) T.z_len (by decide +kernel) (pa_cons (pe_fld (pv 0) (by rfl)) pa_nil)) pe_int))), ?_⟩
  walk_at "st"
  walk_at "vc"
  refine ⟨_, rfl, a, a_Term, dx, _, .ref c, rfl, h1, T.oc_Term.cl, T.nF_Term_coefficients, rfl, ?_⟩
  exact ⟨c, rfl, _, .inr h3, by rw [List.length_map]; exact q⟩
def sp_law_value (K : PySem.W.Frag) : Sp
  | [.ref p, .int b], H, Q, _ => ∃ cs : List Int, SqL K H p (cs.map V.int) ∧ Bd (10 ^ 10) cs ∧ cs.length ≤ 12 ∧ b.natAbs ≤ 2 ^ 100 ∧ ∀ H', Ex H H' → Q (.int (evalL cs b)) H'
  | _, _, _, _ => False
theorem ok_law_value (T : Txt K mg a_is_integer a_reduced a_value a_law_deal a_law_draw a_law_gcd a_law_lowest a_law_value a_law_made a_law_row a_law_at a_law_refused a_law a_InvalidTerm_init a_Term_init a_Term_degree a_Term_call a_Term_eq a_InvalidTerm a_NotWhole a_FigureError a_Term d_is_integer d_reduced d_value d_law_deal d_law_draw d_law_gcd d_law_lowest d_law_value d_law_made d_law_row d_law_at d_law_refused d_law d_InvalidTerm_init d_Term_init d_Term_degree d_Term_call d_Term_eq) : FnOk P w K mg base CX0 1 a_law_value d_law_value ["_law_row_here", "_law_base"] (sp_law_value K) := by
  refine T.F_law_value.ok sc_law_value (fun vs H Q E h => ?_) (fun cdv A outer s H vs Q E hr h => ?_)
  · unfold sp_law_value at h; split at h; rfl; exact h.elim
  unfold sp_law_value at h; split at h
  case h_2 => exact h.elim
  rename_i p b
  obtain ⟨cs, hp, hbd, hl, hb, q⟩ := h
  refine ⟨_, (pss_cons (ps_set (i := 2) sc_law_value.nd rfl (by first | exact .inl rfl | exact .inr rfl) pe_int)
      (Evl.pss_cut (ps_for PassesOwn.never rfl (pi_list (pe_revL (pv 0))) (pg_name (i := 3) sc_law_value.nd rfl (by first | exact .inl rfl | exact .inr rfl))
      (pss_one (ps_set (i := 2) sc_law_value.nd rfl (by first | exact .inl rfl | exact .inr rfl) (pe_op op_add (pe_op op_mulX (pv 2) (pv 1)) (pv 3)))))
      (pss_one (ps_ret (pv 2))))), ?_⟩
  walk_at "st"
  walk_at "vc"
  refine ⟨fun σ H' => ∃ s3, σ = [some (.ref p), some (.int b), some (.int (evalL cs b)), s3] ∧ Ex H H', ?_, fun σ H' hm => ?_⟩
  · refine ⟨_, rfl, p, _, rfl, hp, fun d hd => ⟨d, rfl, ⟨_, sq_of upd_same⟩, ?_⟩⟩
    have e3 := Ex.new hd (o := .lst (List.map V.int cs).reverse)
    refine for_list (K := K) (xs := (List.map V.int cs).reverse) (fun i σ H' => ∃ s3, σ = [some (.ref p), some (.int b), some (.int (evalL (cs.drop (cs.length - i)) b)), s3] ∧ Ex (upd H d (.lst (List.map V.int cs).reverse)) H') ⟨none, ?_, Ex.refl _⟩ (fun i σ H' _ hv => by obtain ⟨_, _, e4⟩ := hv; exact sq_of (e4 _ _ upd_same)) (fun i x σ H' hi hv => ?_) (fun σ H' hv => ?_)
    · rw [Nat.sub_zero, List.drop_length]
      rfl
    · obtain ⟨s3, rfl, e4⟩ := hv
      have hin : i < cs.length := by
        have := (List.getElem?_eq_some_iff.mp hi).1
        rwa [List.length_reverse, List.length_map] at this
      rw [List.getElem?_reverse (by rwa [List.length_map]), List.getElem?_map, List.length_map] at hi
      obtain ⟨c, hc, rfl⟩ := Option.map_eq_some_iff.mp hi
      have hd1 : cs.drop (cs.length - (i + 1)) = c :: cs.drop (cs.length - i) := by
        rw [show cs.length - (i + 1) = cs.length - 1 - i by omega, List.drop_eq_getElem_cons (by omega)]
        rw [List.getElem?_eq_getElem (by omega)] at hc
        rw [Option.some.inj hc, show cs.length - 1 - i + 1 = cs.length - i by omega]
      have hbt : Bd (10 ^ 10) (cs.drop (cs.length - i)) := fun z hz => hbd z (List.mem_of_mem_drop hz)
      have be := evalL_bd hb hbt
      have bp : (10 ^ 10 : Nat) * (2 ^ 100 + 1) ^ (cs.drop (cs.length - i)).length ≤ 10 ^ 10 * (2 ^ 100 + 1) ^ 12 := Nat.mul_le_mul_left _ (Nat.pow_le_pow_right (by decide) (by rw [List.length_drop]; omega))
      have bq : (10 ^ 10 : Nat) * (2 ^ 100 + 1) ^ 12 < 2 ^ 2000 := by decide +kernel
      have hb2 : b.natAbs < 2 ^ 2000 := Nat.lt_of_le_of_lt hb (Nat.pow_lt_pow_right (by decide) (by decide))
      walk_at "vc"
      refine ⟨mulOk20 (by omega) (by omega) (by omega) (by omega), ?_, e4⟩
      rw [hd1, evalL]
    · obtain ⟨s3, rfl, e4⟩ := hv
      rw [List.length_reverse, List.length_map, Nat.sub_self, List.drop_zero]
      exact ⟨_, rfl, e3.trans e4⟩
  · obtain ⟨s3, rfl, e2⟩ := hm
    walk_at "vc"
    exact q _ e2
/-! ### polynomials as what == looks at -/
def polD (p : PM) : PyData := .tuple ((p.1 :: p.2).map PyData.int)
theorem dp_pol {H : Hp} {a : Addr} {x : PM} (h : PolT K H a x) : Dp K H (.ref a) (polD x) := .tup h (dpInts (x.1 :: x.2))
theorem lay_pol (x : PM) : PyData.canLay0 (polD x) = true := by
  unfold polD
  rw [PyData.canLay0, canLayInts]
theorem shaped_pol {x : PM} (o : Ok x) : SeqAt.shaped (polD x) = true := by
  unfold SeqAt.shaped
  rw [lay_pol]
  unfold polD
  simp only [PyData.depth, depthInts]
  decide
theorem eqv_pol (x y : PM) : PyData.eqv (polD x) (polD y) = decide (x = y) := by
  unfold polD
  rw [PyData.eqv, eqvAllInts]
  obtain ⟨a, b⟩ := x
  obtain ⟨c, d⟩ := y
  by_cases h : a = c ∧ b = d <;> simp [h]
/-- == with a term, or with what is none -/
def sp_Term_eq (K : PySem.W.Frag) (CT : Addr) : Sp
  | [v, u], H, Q, _ => ∃ x, TermO K CT H x v ∧ Ok x ∧ ((∃ y, TermO K CT H y u ∧ Ok y ∧ ∀ H', Ex H H' → Q (.bl (decide (x = y))) H') ∨ ∃ t, TyX K H u t ∧ PySem.W.kitOne K t (.ref CT) = some false ∧ Q (.bl false) H)
  | _, _, _, _ => False
theorem ok_Term_eq (T : Txt K mg a_is_integer a_reduced a_value a_law_deal a_law_draw a_law_gcd a_law_lowest a_law_value a_law_made a_law_row a_law_at a_law_refused a_law a_InvalidTerm_init a_Term_init a_Term_degree a_Term_call a_Term_eq a_InvalidTerm a_NotWhole a_FigureError a_Term d_is_integer d_reduced d_value d_law_deal d_law_draw d_law_gcd d_law_lowest d_law_value d_law_made d_law_row d_law_at d_law_refused d_law d_InvalidTerm_init d_Term_init d_Term_degree d_Term_call d_Term_eq) : FnR P w K mg base CX0 9 a_Term_eq (sp_Term_eq K a_Term) := by
  have F : FnOk P w K mg base CX0 9 a_Term_eq d_Term_eq ["self", "other"] (sp_Term_eq K a_Term) := by
    refine T.F_Term_eq.ok sc_Term_eq (fun vs H Q E h => ?_) (fun cdv A outer s H vs Q E hr h => ?_)
    · unfold sp_Term_eq at h; split at h; rfl; exact h.elim
    unfold sp_Term_eq at h; split at h
    case h_2 => exact h.elim
    rename_i v u
    obtain ⟨x, ⟨a, dx, r, c, rfl, h1, h2, h3⟩, ox, q⟩ := h
    refine ⟨_, (pss_one (ps_ret (pe_and (pe_callB (call_isiK (K := K)) (by rfl) T.z_isinstance (by decide +kernel) (pa_cons (pv 1) (pa_cons (pe_glob (v := .ref a_Term) (by rfl) T.g_Term rfl) pa_nil))) (pe_one (pe_cmpR (op_eqD hr.units) (pe_fld (pv 0) (by rfl)) (pe_fld (pv 1) (by rfl)) (nomark _)))))), ?_⟩
    walk_at "st"
    walk_at "vc"
    rcases q with ⟨y, ⟨a2, dx2, r2, c2, rfl, k1, k2, k3⟩, oy, q⟩ | ⟨t, ty, kt, q⟩
    · refine ⟨_, _, _, _, true, rfl, .own _, T.oc_Term.ty k1, T.ks_Term, ?_⟩
      refine ⟨true, rfl, ?_⟩
      rw [if_pos rfl]
      refine ⟨_, rfl, a, a_Term, dx, _, .ref r, rfl, h1, T.oc_Term.cl, T.nF_Term_poly, rfl, ?_⟩
      refine ⟨_, rfl, a2, a_Term, dx2, _, .ref r2, rfl, k1, T.oc_Term.cl, T.nF_Term_poly, rfl, ?_⟩
      refine ⟨_, _, dp_pol h2, dp_pol k2, shaped_pol ox, shaped_pol oy, ?_⟩
      rw [eqv_pol]
      exact q H (Ex.refl _)
    · refine ⟨_, _, _, _, false, rfl, .own _, ty, kt, ?_⟩
      refine ⟨false, rfl, ?_⟩
      rw [if_neg (by decide)]
      exact q
  exact (F.raw T.b_Term_eq .nil).imp fun vs H Q E h => by rw [List.append_nil]; exact h
end
end My
set_option Elab.async false
set_option linter.all false
set_option maxRecDepth 100000
set_option maxHeartbeats 4000000
/-! the same makings, where what __init__ raises is taken by the place's own wish -/
namespace My
open PySem PySem.Spec PyProof.Rows L2 Evl
section
variable {X : Cx} {CX : CXT} {k : Nat} {f C : Addr} {ks : List Str} {sp : List V → List V → Hp → VK → XK → Prop} {E : XK} {ES : L2.St → XK} {x : Str} {p pos sp_ : Pos} {e : Expr} {es : List Expr} {kws : List Keyword} {t tk : TA} {te : TE}
theorem run_makeV {pins : List (Addr × Obj)} {σ : L2.St} {H : Hp} {s : Shared} {Q : VK} {us ws : List Value} {vs zs : List V} (M : Mk X.K C f) (F : FnKW X.prog X.w X.K X.mg X.base CX k f ks sp) (hr : Room (k + 1) X.A) (hx : PassesAt CX X σ E)
    (I : Inv X pins σ H s) (r : Vals vs us) (rz : Vals zs ws) (l : zs.length = ks.length) (h : tMakeW C sp E H Q vs zs) : wpAny (model X.prog X.w) X.A (call (.ref C) us (ks.zip ws)) (EP X pins σ Q) X.xe s := by
  have hq := h (s.heap.objs.size + 1) s.heap.objs.size (I.hok.fresh (Nat.le_succ _)) (I.hok.fresh (Nat.le_refl _)) (Nat.ne_of_lt (Nat.lt_succ_self _))
  have I2 := Inv.made (C := C) I
  have r1 : Vals (V.ref (s.heap.objs.size + 1) :: vs) (Value.ref (s.heap.objs.size + 1) :: us) := .cons rfl r
  refine wpAny_call (make_map (f := f) I.kIn M.makes M.init (beq_iff_eq.mp M.fn) (codeAny_mono (F _ X.stack _ _ (Value.ref (s.heap.objs.size + 1) :: us) ws _ zs _ E (hr.make C us (ks.zip ws)) (I2.env0.make C us (ks.zip ws)) r1 rz l hq) fun r s' hq' => ?_))
  cases r with
  | error e => exact hx pins _ _ e s' I2 hq'
  | ok fl =>
    cases fl with
    | ret u =>
      obtain ⟨v, H', I3, rv, ev, q3⟩ := I2.after hq'
      subst ev
      exact ⟨rv, ⟨V.ref (s.heap.objs.size + 1), H', I3, rfl, q3⟩⟩
    | next => exact False.elim hq'
    | brk => exact False.elim hq'
    | cont => exact False.elim hq'
/-- C(k=e) -/
theorem pe_makeV0 (M : Mk X.K C f) (F : FnKW X.prog X.w X.K X.mg X.base CX k f ks sp) (hr : Room (k + 1) X.A) (hg : Gl X x) (hm : X.mg x = some (.ref C)) (hx : ∀ σ, PassesAt CX X σ (ES σ)) (hkw : PK X kws tk)
    (hall : (backToKw pos (keywordEach kws X.env)).all (·.1.isSome) = true := by rfl) (hks : (backToKw pos (keywordEach kws X.env)).filterMap (·.1) = ks := by rfl) (hdb : (x == ("__debug__" : Str)) = false := by decide)
    (hpl : ((backTo pos (starEach [] X.env)).any (·.1) || (backToKw pos (keywordEach kws X.env)).any (·.1.isNone)) = false := by rfl) :
    PE X (.Call (.Name x p) [] kws pos) (fun σ H Q => tk σ H fun zs H2 => zs.length = ks.length ∧ tMakeW C sp (ES σ) H2 Q [] zs) := by
  refine ⟨fun pins s σ H Q I h => ?_⟩
  refine wpAny_Call_Name_kw (ld_glob I hg hm ?_ hdb)
  refine PySem.W.callWith_KW0 (h₀ := X.base) I.ok.mod.kin M.kp hall ?_ hpl
  refine thn (hkw.run pos pins s σ H _ I h) fun ws s2 ⟨zs, H2, I2, rz, l2, q2⟩ => ⟨I2.kIn, ?_⟩
  rw [hks]
  exact run_makeV (us := []) (vs := []) M F hr (hx σ) I2 .nil rz l2 q2
/-- C(e, .., k=e) -/
theorem pe_makeV (M : Mk X.K C f) (F : FnKW X.prog X.w X.K X.mg X.base CX k f ks sp) (hr : Room (k + 1) X.A) (hg : Gl X x) (hm : X.mg x = some (.ref C)) (hx : ∀ σ, PassesAt CX X σ (ES σ)) (ha : PA X (e :: es) t) (hkw : PK X kws tk)
    (hall : (backToKw pos (keywordEach kws X.env)).all (·.1.isSome) = true := by rfl) (hks : (backToKw pos (keywordEach kws X.env)).filterMap (·.1) = ks := by rfl) (hdb : (x == ("__debug__" : Str)) = false := by decide)
    (he : starEach (e :: es) X.env = (false, eval e X.env) :: starEach es X.env := by rfl) (hpl : ((backTo pos (starEach (e :: es) X.env)).any (·.1) || (backToKw pos (keywordEach kws X.env)).any (·.1.isNone)) = false := by rfl) :
    PE X (.Call (.Name x p) (e :: es) kws pos) (fun σ H Q => t σ H fun vs H1 => tk σ H1 fun zs H2 => zs.length = ks.length ∧ tMakeW C sp (ES σ) H2 Q vs zs) := by
  refine ⟨fun pins s σ H Q I h => ?_⟩
  refine wpAny_Call_Name_kw (ld_glob I hg hm ?_ hdb)
  refine PySem.W.callWith_KW (h₀ := X.base) I.ok.mod.kin M.kp hall (thn (ha.run pos pins s σ H _ I h) fun us s1 ⟨vs, H1, I1, r, q⟩ => ?_) hpl he
  refine thn (hkw.run pos pins s1 σ H1 _ I1 q) fun ws s2 ⟨zs, H2, I2, rz, l2, q2⟩ => ⟨I2.kIn, ?_⟩
  rw [hks]
  exact run_makeV M F hr (hx σ) I2 r rz l2 q2
/-- C(e, ..) -/
theorem pe_makeVP (M : Mk X.K C f) (F : FnKW X.prog X.w X.K X.mg X.base CX k f [] sp) (hr : Room (k + 1) X.A) (hg : Gl X x) (hm : X.mg x = some (.ref C)) (hx : ∀ σ, PassesAt CX X σ (ES σ)) (ha : PA X (e :: es) t) (hdb : (x == ("__debug__" : Str)) = false := by decide)
    (he : starEach (e :: es) X.env = (false, eval e X.env) :: starEach es X.env := by rfl) (hpl : (backTo pos (starEach es X.env)).any (·.1) = false := by rfl) :
    PE X (.Call (.Name x p) (e :: es) [] pos) (fun σ H Q => t σ H fun vs H1 => tMakeW C sp (ES σ) H1 Q vs []) := by
  refine ⟨fun pins s σ H Q I h => ?_⟩
  refine wpAny_Call_Name_kw (ld_glob I hg hm ?_ hdb)
  refine PySem.W.callWith_K (h₀ := X.base) I.ok.mod.kin M.kp (thn (ha.run pos pins s σ H _ I h) fun us s1 ⟨vs, H1, I1, r, q⟩ => ⟨I1.kIn, ?_⟩) he hpl
  exact run_makeV (ks := []) (ws := []) (zs := []) M F hr (hx σ) I1 r .nil rfl q
/-- C() -/
theorem pe_makeVN (M : Mk X.K C f) (F : FnKW X.prog X.w X.K X.mg X.base CX k f [] sp) (hr : Room (k + 1) X.A) (hg : Gl X x) (hm : X.mg x = some (.ref C)) (hx : ∀ σ, PassesAt CX X σ (ES σ)) (hdb : (x == ("__debug__" : Str)) = false := by decide) :
    PE X (.Call (.Name x p) [] [] pos) (fun σ H Q => tMakeW C sp (ES σ) H Q [] []) := by
  refine ⟨fun pins s σ H Q I h => ?_⟩
  refine wpAny_Call_Name_kw (ld_glob I hg hm ?_ hdb)
  exact PySem.W.callWith_K0 I.kIn M.kp (run_makeV (ks := []) (ws := []) (zs := []) (us := []) (vs := []) M F hr (hx σ) I .nil .nil rfl h)
/-- C(*e, k=e) -/
theorem pe_makeVS (M : Mk X.K C f) (F : FnKW X.prog X.w X.K X.mg X.base CX k f ks sp) (hr : Room (k + 1) X.A) (hg : Gl X x) (hm : X.mg x = some (.ref C)) (hx : ∀ σ, PassesAt CX X σ (ES σ)) (he : PE X e te) (hkw : PK X kws tk)
    (hall : (backToKw pos (keywordEach kws X.env)).all (·.1.isSome) = true := by rfl) (hks : (backToKw pos (keywordEach kws X.env)).filterMap (·.1) = ks := by rfl) (hdb : (x == ("__debug__" : Str)) = false := by decide)
    (hst : starEach [.Starred e sp_] X.env = [(true, eval e X.env)] := by rfl) :
    PE X (.Call (.Name x p) [.Starred e sp_] kws pos) (fun σ H Q => te σ H fun y H1 => ∃ a xs, y = V.ref a ∧ tk σ H1 fun zs H2 => (SqT X.K H2 a xs ∨ SqL X.K H2 a xs) ∧ zs.length = ks.length ∧ tMakeW C sp (ES σ) H2 Q xs zs) := by
  refine ⟨fun pins s σ H Q I h => ?_⟩
  refine wpAny_Call_Name_kw (ld_glob I hg hm ?_ hdb)
  rw [hst]
  refine call_starKK (K := X.K) rfl M.kp (args_starK hall (thn (he.run pins s σ H _ I h) fun v s1 ⟨y, H1, I1, ry, a, xs, ey, q⟩ => ?_))
  subst ey
  obtain rfl : v = Value.ref a := ry
  refine thn (hkw.run pos pins s1 σ H1 _ I1 q) fun ws s2 ⟨zs, H2, I2, rz, hxs, l2, q2⟩ => ?_
  refine StX.star_any I2 hxs fun us s3 I3 rv => ⟨I3.kIn, ?_⟩
  rw [hks]
  exact run_makeV M F hr (hx σ) I3 rv rz l2 q2
end
end My
set_option Elab.async false
set_option linter.all false
set_option maxRecDepth 100000
set_option maxHeartbeats 4000000
set_option exponentiation.threshold 5000
namespace My
open PySem PySem.Spec PyProof.Rows L2 Evl
local macro_rules | `(tactic| walk_at "st") => `(tactic| simp only [L2.start, List.map_cons, List.map_nil, List.length_cons, List.length_nil, Nat.reduceAdd, Nat.reduceSub, List.replicate_succ, List.replicate_zero, List.cons_append, List.nil_append, cxOf, List.append_nil])
local macro_rules | `(tactic| walk_at "vc") => `(tactic| try simp only [tSeq, tAsg, tOp, tUn, tVar, tC, tNil, tCons, gName, rI, rI0, rU, tRet, tIfS, tNot, tAnd, tOr, tB, tTest, tCB, tCall, tAndV, tOrV, tNotV, tNext, tNever, tIf, tChain, tYes, tPart, tNoPart, tPar, tDrop, q_isi, q_vn, q_vb, q_vi, q_vs, kb1, kb2, kb3, kb4, kb5, kb6, kb7, kb8, q_int1, q_int2, q_min, q_max, q_repr, tLst, tTup, rEq, rNe, q_sii, q_sss, q_sbb, q_snn, q_sns, q_ssn, q_ix, q_sl, tSl, tBM, tBM0, q_app, q_pop, gSub, rSetL, L2.wipe, eq_self, decide_true, decide_false, tRevL,
  List.getElem?_cons_succ, List.getElem?_cons_zero, List.set_cons_succ, List.set_cons_zero, Option.some.injEq, exists_eq_left', exists_eq_left, V.int.injEq, V.bl.injEq, V.ref.injEq, V.str.injEq, List.cons.injEq, and_true, true_and, List.append_nil, List.nil_append, List.cons_append, exists_and_left, and_assoc, if_true, if_false, Bool.not_true, Bool.not_false, Bool.false_eq_true, Bool.true_eq_false, reduceIte, tRevL, tPar3, tRevT, tUnl, tCKw, forall_const, Bool.not_eq_true', decide_eq_true_eq, decide_eq_false_iff_not])
section
variable {P : Program} {w : World} {K : PySem.W.Frag} {mg : Str → Option Value} {base : Heap}
variable {a_is_integer a_reduced a_value a_law_deal a_law_draw a_law_gcd a_law_lowest a_law_value a_law_made a_law_row a_law_at a_law_refused a_law a_InvalidTerm_init a_Term_init a_Term_degree a_Term_call a_Term_eq a_InvalidTerm a_NotWhole a_FigureError a_Term : Addr} {d_is_integer d_reduced d_value d_law_deal d_law_draw d_law_gcd d_law_lowest d_law_value d_law_made d_law_row d_law_at d_law_refused d_law d_InvalidTerm_init d_Term_init d_Term_degree d_Term_call d_Term_eq : FuncData}
/-- what a term made of these becomes -/
abbrev Made (K : PySem.W.Frag) (CT CE : Addr) (H : Hp) (vs : List V) (bs : List Bool) (o : V) (E : XK) (R : VK) : Prop := Due K CE H vs bs o E fun cs u => ∀ v H', Ex H H' → TermO K CT H' (lowM u cs) v → R v H'
theorem mkInit {CT CE : Addr} {H : Hp} {vs : List V} {bs : List Bool} {o : V} {x dx p : Addr} {E : XK} {R : VK} (hf : FlS K H vs bs) (hl : vs.length ≤ 1000) (hx : H x = none) (hd : H dx = none) (hn : dx ≠ x) (hp : upd (upd H dx (.own x)) x (.ins CT dx []) p = none)
    (q : Made K CT CE H vs bs o E R) : sp_Term_init K CT CE [.ref x, o, .ref p] (upd (upd (upd H dx (.own x)) x (.ins CT dx [])) p (.tup vs)) (fun v H3 => v = .non ∧ R (.ref x) H3) E := by
  have px : p ≠ x := fun e => by rw [e, upd_same] at hp; cases hp
  have ex : Ex H (upd (upd (upd H dx (.own x)) x (.ins CT dx [])) p (.tup vs)) := fun b u hb => by
    have b1 : b ≠ dx := fun e => by rw [e, hd] at hb; cases hb
    have b2 : b ≠ x := fun e => by rw [e, hx] at hb; cases hb
    have b3 : b ≠ p := fun e => by rw [← e, upd_ne b2, upd_ne b1, hb] at hp; cases hp
    rw [upd_ne b3, upd_ne b2, upd_ne b1]; exact hb
  refine ⟨dx, vs, bs, by rw [upd_ne px.symm, upd_same], st_of upd_same, hf.ex ex, hl, q.ex ex fun cs u k H' els hT => ⟨rfl, k _ H' (fun b u hb => ?_) hT⟩⟩
  have b2 : b ≠ x := fun e => by rw [e, hx] at hb; cases hb
  exact els b u b2 (ex _ _ hb)
theorem mkTermK {CT CE : Addr} {H : Hp} {vs : List V} {bs : List Bool} {o : V} {E : XK} {R : VK} (hf : FlS K H vs bs) (hl : vs.length ≤ 1000) (q : Made K CT CE H vs bs o E R) : tMakeW CT (sp_TermK K CT CE) E H R vs [o] := fun x dx hx hd hn =>
  ⟨.ref x, o, vs, rfl, rfl, sz_le (by omega), fun p hp => mkInit hf hl hx hd hn hp q⟩
theorem mkTermD {CT CE : Addr} {H : Hp} {cs : List Int} {E : XK} {R : VK} (hl : cs.length ≤ 1000) (q : ∀ v H', Ex H H' → TermO K CT H' (lowM 1 cs) v → R v H') : tMakeW CT (sp_TermD K CT CE) E H R (cs.map V.int) [] := fun x dx hx hd hn =>
  ⟨.ref x, cs.map V.int, rfl, sz_le (by rw [List.length_map]; omega), fun p hp => mkInit (bs := List.replicate cs.length true) (flS_ints H cs) (by rw [List.length_map]; exact hl) hx hd hn hp (.inr ⟨cs, rfl, by simp, .inr ⟨1, rfl, by decide, by decide, q⟩⟩)⟩
def sp_law_made (K : PySem.W.Frag) (CT CE : Addr) : Sp
  | [.ref p, o], H, Q, E => ∃ vs bs, SqL K H p vs ∧ FlS K H vs bs ∧ (vs.length ≤ 5 ∨ vs.length = 11) ∧ Made K CT CE H vs bs o E Q
  | _, _, _, _ => False
theorem ok_law_made (T : Txt K mg a_is_integer a_reduced a_value a_law_deal a_law_draw a_law_gcd a_law_lowest a_law_value a_law_made a_law_row a_law_at a_law_refused a_law a_InvalidTerm_init a_Term_init a_Term_degree a_Term_call a_Term_eq a_InvalidTerm a_NotWhole a_FigureError a_Term d_is_integer d_reduced d_value d_law_deal d_law_draw d_law_gcd d_law_lowest d_law_value d_law_made d_law_row d_law_at d_law_refused d_law d_InvalidTerm_init d_Term_init d_Term_degree d_Term_call d_Term_eq) : FnOk P w K mg base (L2.CX P w) 8 a_law_made d_law_made ["_law_row_here", "_law_under"] (sp_law_made K a_Term a_InvalidTerm) := by
  have G_Term_initK := ok_Term_initK (P := P) (w := w) (mg := mg) (base := base) T
  have G_Term_initD := ok_Term_initD (P := P) (w := w) (mg := mg) (base := base) T
  refine T.F_law_made.okX sc_law_made (fun vs H Q E h => ?_) (fun cdv A outer s H vs Q E hr h => ?_)
  · unfold sp_law_made at h; split at h; rfl; exact h.elim
  unfold sp_law_made at h; split at h
  case h_2 => exact h.elim
  rename_i p o
  obtain ⟨vs, bs, hp, hf, hl, q⟩ := h
  refine ⟨_, (pss_cons (ps_if (pt_cmpR op_eq (pe_callB call_len_seq (by rfl) T.z_len (by decide +kernel) (pa_cons (pv 0) pa_nil)) pe_int (nomark _))
      (pss_one (ps_ret (pe_makeV0 T.M_Term G_Term_initK (hr.mono (by omega)) (by rfl) T.g_Term (fun σ => passAt (takes_of rfl rfl rfl rfl) σ) (pk_cons (pv 1) pk_nil))))
      pss_nil)
      (pss_cons (ps_if (pt_cmpR op_eq (pe_callB call_len_seq (by rfl) T.z_len (by decide +kernel) (pa_cons (pv 0) pa_nil)) pe_int (nomark _))
      (pss_one (ps_ret (pe_makeV T.M_Term G_Term_initK (hr.mono (by omega)) (by rfl) T.g_Term (fun σ => passAt (takes_of rfl rfl rfl rfl) σ) (pa_cons (pe_ix ix_listM (pv 0) pe_int (fun _ _ => rfl)) pa_nil) (pk_cons (pv 1) pk_nil))))
      pss_nil)
      (pss_cons (ps_if (pt_cmpR op_eq (pe_callB call_len_seq (by rfl) T.z_len (by decide +kernel) (pa_cons (pv 0) pa_nil)) pe_int (nomark _))
      (pss_one (ps_ret (pe_makeV T.M_Term G_Term_initK (hr.mono (by omega)) (by rfl) T.g_Term (fun σ => passAt (takes_of rfl rfl rfl rfl) σ) (pa_cons (pe_ix ix_listM (pv 0) pe_int (fun _ _ => rfl)) (pa_cons (pe_ix ix_listM (pv 0) pe_int (fun _ _ => rfl)) pa_nil)) (pk_cons (pv 1) pk_nil))))
      pss_nil)
      (pss_cons (ps_if (pt_cmpR op_eq (pe_callB call_len_seq (by rfl) T.z_len (by decide +kernel) (pa_cons (pv 0) pa_nil)) pe_int (nomark _))
      (pss_one (ps_ret (pe_makeV T.M_Term G_Term_initK (hr.mono (by omega)) (by rfl) T.g_Term (fun σ => passAt (takes_of rfl rfl rfl rfl) σ) (pa_cons (pe_ix ix_listM (pv 0) pe_int (fun _ _ => rfl)) (pa_cons (pe_ix ix_listM (pv 0) pe_int (fun _ _ => rfl)) (pa_cons (pe_ix ix_listM (pv 0) pe_int (fun _ _ => rfl)) pa_nil))) (pk_cons (pv 1) pk_nil))))
      pss_nil)
      (pss_cons (ps_if (pt_cmpR op_eq (pe_callB call_len_seq (by rfl) T.z_len (by decide +kernel) (pa_cons (pv 0) pa_nil)) pe_int (nomark _))
      (pss_one (ps_ret (pe_makeV T.M_Term G_Term_initK (hr.mono (by omega)) (by rfl) T.g_Term (fun σ => passAt (takes_of rfl rfl rfl rfl) σ) (pa_cons (pe_ix ix_listM (pv 0) pe_int (fun _ _ => rfl)) (pa_cons (pe_ix ix_listM (pv 0) pe_int (fun _ _ => rfl)) (pa_cons (pe_ix ix_listM (pv 0) pe_int (fun _ _ => rfl)) (pa_cons (pe_ix ix_listM (pv 0) pe_int (fun _ _ => rfl)) pa_nil)))) (pk_cons (pv 1) pk_nil))))
      pss_nil)
      (pss_cons (ps_if (pt_cmpR op_eq (pe_callB call_len_seq (by rfl) T.z_len (by decide +kernel) (pa_cons (pv 0) pa_nil)) pe_int (nomark _))
      (pss_one (ps_ret (pe_makeV T.M_Term G_Term_initK (hr.mono (by omega)) (by rfl) T.g_Term (fun σ => passAt (takes_of rfl rfl rfl rfl) σ) (pa_cons (pe_ix ix_listM (pv 0) pe_int (fun _ _ => rfl)) (pa_cons (pe_ix ix_listM (pv 0) pe_int (fun _ _ => rfl)) (pa_cons (pe_ix ix_listM (pv 0) pe_int (fun _ _ => rfl)) (pa_cons (pe_ix ix_listM (pv 0) pe_int (fun _ _ => rfl)) (pa_cons (pe_ix ix_listM (pv 0) pe_int (fun _ _ => rfl)) pa_nil))))) (pk_cons (pv 1) pk_nil))))
      pss_nil)
      (pss_cons (ps_asg (pv 0) (pg_lst rfl (pgs_cons (pg_name (i := 2) sc_law_made.nd rfl (by first | exact .inl rfl | exact .inr rfl)) (pgs_cons (pg_name (i := 3) sc_law_made.nd rfl (by first | exact .inl rfl | exact .inr rfl)) (pgs_cons (pg_name (i := 4) sc_law_made.nd rfl (by first | exact .inl rfl | exact .inr rfl)) (pgs_cons (pg_name (i := 5) sc_law_made.nd rfl (by first | exact .inl rfl | exact .inr rfl)) (pgs_cons (pg_name (i := 6) sc_law_made.nd rfl (by first | exact .inl rfl | exact .inr rfl)) (pgs_cons (pg_name (i := 7) sc_law_made.nd rfl (by first | exact .inl rfl | exact .inr rfl)) (pgs_cons (pg_name (i := 8) sc_law_made.nd rfl (by first | exact .inl rfl | exact .inr rfl)) (pgs_cons (pg_name (i := 9) sc_law_made.nd rfl (by first | exact .inl rfl | exact .inr rfl)) (pgs_cons (pg_name (i := 10) sc_law_made.nd rfl (by first | exact .inl rfl | exact .inr rfl)) (pgs_cons (pg_name (i := 11) sc_law_made.nd rfl (by first | exact .inl rfl | exact .inr rfl)) (pgs_cons (pg_name (i := 12) sc_law_made.nd rfl (by first | exact .inl rfl | exact .inr rfl)) pgs_nil)))))))))))))
      (pss_one (ps_ret (pe_makeV T.M_Term G_Term_initK (hr.mono (by omega)) (by rfl) T.g_Term (fun σ => passAt (takes_of rfl rfl rfl rfl) σ) (pa_cons (pv 2) (pa_cons (pv 3) (pa_cons (pv 4) (pa_cons (pv 5) (pa_cons (pv 6) (pa_cons (pv 7) (pa_cons (pv 8) (pa_cons (pv 9) (pa_cons (pv 10) (pa_cons (pv 11) (pa_cons (pv 12) pa_nil))))))))))) (pk_cons (pv 1) pk_nil))))))))))), ?_⟩
  walk_at "st"
  walk_at "vc"
  match vs, hl with
  | [], _ =>
    refine ⟨_, .inl hp, ?_⟩
    rw [if_pos (by simp)]
    exact ⟨rfl, mkTermK hf (by simp) q⟩
  | [va], _ =>
    refine ⟨_, .inl hp, ?_⟩
    rw [if_neg (by simp)]
    refine ⟨_, .inl hp, ?_⟩
    rw [if_pos (by simp)]
    exact ⟨_, hp, _, rfl, rfl, mkTermK hf (by simp) q⟩
  | [va, vb], _ =>
    refine ⟨_, .inl hp, ?_⟩
    rw [if_neg (by simp)]
    refine ⟨_, .inl hp, ?_⟩
    rw [if_neg (by simp)]
    refine ⟨_, .inl hp, ?_⟩
    rw [if_pos (by simp)]
    exact ⟨_, hp, _, rfl, _, hp, _, rfl, rfl, mkTermK hf (by simp) q⟩
  | [va, vb, vc], _ =>
    refine ⟨_, .inl hp, ?_⟩
    rw [if_neg (by simp)]
    refine ⟨_, .inl hp, ?_⟩
    rw [if_neg (by simp)]
    refine ⟨_, .inl hp, ?_⟩
    rw [if_neg (by simp)]
    refine ⟨_, .inl hp, ?_⟩
    rw [if_pos (by simp)]
    exact ⟨_, hp, _, rfl, _, hp, _, rfl, _, hp, _, rfl, rfl, mkTermK hf (by simp) q⟩
  | [va, vb, vc, vd], _ =>
    refine ⟨_, .inl hp, ?_⟩
    rw [if_neg (by simp)]
    refine ⟨_, .inl hp, ?_⟩
    rw [if_neg (by simp)]
    refine ⟨_, .inl hp, ?_⟩
    rw [if_neg (by simp)]
    refine ⟨_, .inl hp, ?_⟩
    rw [if_neg (by simp)]
    refine ⟨_, .inl hp, ?_⟩
    rw [if_pos (by simp)]
    exact ⟨_, hp, _, rfl, _, hp, _, rfl, _, hp, _, rfl, _, hp, _, rfl, rfl, mkTermK hf (by simp) q⟩
  | [va, vb, vc, vd, ve], _ =>
    refine ⟨_, .inl hp, ?_⟩
    rw [if_neg (by simp)]
    refine ⟨_, .inl hp, ?_⟩
    rw [if_neg (by simp)]
    refine ⟨_, .inl hp, ?_⟩
    rw [if_neg (by simp)]
    refine ⟨_, .inl hp, ?_⟩
    rw [if_neg (by simp)]
    refine ⟨_, .inl hp, ?_⟩
    rw [if_neg (by simp)]
    refine ⟨_, .inl hp, ?_⟩
    rw [if_pos (by simp)]
    exact ⟨_, hp, _, rfl, _, hp, _, rfl, _, hp, _, rfl, _, hp, _, rfl, _, hp, _, rfl, rfl, mkTermK hf (by simp) q⟩
  | [va, vb, vc, vd, ve, vf, vg, vh, vi, vj, vk], _ =>
    refine ⟨_, .inl hp, ?_⟩
    rw [if_neg (by simp)]
    refine ⟨_, .inl hp, ?_⟩
    rw [if_neg (by simp)]
    refine ⟨_, .inl hp, ?_⟩
    rw [if_neg (by simp)]
    refine ⟨_, .inl hp, ?_⟩
    rw [if_neg (by simp)]
    refine ⟨_, .inl hp, ?_⟩
    rw [if_neg (by simp)]
    refine ⟨_, .inl hp, ?_⟩
    rw [if_neg (by simp)]
    refine ⟨p, _, rfl, hp, rfl, ?_⟩
    simp only [gCons, gNil]
    walk_at "vc"
    exact ⟨rfl, mkTermK hf (by simp) q⟩
  | va :: vb :: vc :: vd :: ve :: vf :: [], hl => exact absurd hl (by simp)
  | va :: vb :: vc :: vd :: ve :: vf :: vg :: [], hl => exact absurd hl (by simp)
  | va :: vb :: vc :: vd :: ve :: vf :: vg :: vh :: [], hl => exact absurd hl (by simp)
  | va :: vb :: vc :: vd :: ve :: vf :: vg :: vh :: vi :: [], hl => exact absurd hl (by simp)
  | va :: vb :: vc :: vd :: ve :: vf :: vg :: vh :: vi :: vj :: [], hl => exact absurd hl (by simp)
  | va :: vb :: vc :: vd :: ve :: vf :: vg :: vh :: vi :: vj :: vk :: vl :: r, hl => exact absurd hl (by simp)
/-- what a call tells, or the error's name -/
def sp_law_at (K : PySem.W.Frag) (CT : Addr) : Sp
  | [v, .int b], H, Q, _ => ∃ x, TermO K CT H x v ∧ 1 ≤ x.1 ∧ x.1 < 2 ^ 250 ∧ x.2.length ≤ 16 ∧ Bd (2 ^ 60) x.2 ∧ b.natAbs ≤ 2 ^ 100 ∧ ∀ H', Ex H H' → Q (if evalL x.2 b % x.1 = 0 then .int (evalL x.2 b / x.1) else .str "none") H'
  | _, _, _, _ => False
theorem ok_law_at (T : Txt K mg a_is_integer a_reduced a_value a_law_deal a_law_draw a_law_gcd a_law_lowest a_law_value a_law_made a_law_row a_law_at a_law_refused a_law a_InvalidTerm_init a_Term_init a_Term_degree a_Term_call a_Term_eq a_InvalidTerm a_NotWhole a_FigureError a_Term d_is_integer d_reduced d_value d_law_deal d_law_draw d_law_gcd d_law_lowest d_law_value d_law_made d_law_row d_law_at d_law_refused d_law d_InvalidTerm_init d_Term_init d_Term_degree d_Term_call d_Term_eq) : FnOk P w K mg base CX0 11 a_law_at d_law_at ["_law_term", "_law_base"] (sp_law_at K a_Term) := by
  have G_Term_call := ok_Term_call (P := P) (w := w) (mg := mg) (base := base) T
  refine T.F_law_at.ok sc_law_at (fun vs H Q E h => ?_) (fun cdv A outer s H vs Q E hr h => ?_)
  · unfold sp_law_at at h; split at h; rfl; exact h.elim
  unfold sp_law_at at h; split at h
  case h_2 => exact h.elim
  rename_i v b
  obtain ⟨x, hv, x1, x2, hl, hb, hk, q⟩ := h
  refine ⟨_, (pss_cons (ps_set (i := 2) sc_law_at.nd rfl (by first | exact .inl rfl | exact .inr rfl) pe_str)
      (pss_cons (ps_try_manyA rfl rfl sc_law_at.nd takes0 (fun W pn xe tk _ => (pss_one (ps_set (i := 2) sc_law_at.nd rfl (by first | exact .inl rfl | exact .inr rfl) (pe_callS2 (pv 0) (cO_Term T) G_Term_call (hr.mono (by omega)) (fun σ => passAt tk σ) (pa_cons (pv 1) pa_nil))))) (HdA.as (i := 3) rfl rfl ⟨rfl, by decide, .inl T.E_NotWhole.g⟩ (fun a oe cls d pn hz hf => (pss_one (ps_set (i := 2) sc_law_at.nd rfl (by first | exact .inl rfl | exact .inr rfl) (pe_ifExp (PW.pt (pw_and (pt_val (pe_callB (call_isR0 T.E_NotWhole hz hf) (by rfl) T.z_isinstance (by decide +kernel) (pa_cons (pv 3) (pa_cons (pe_glob (v := .ref a_FigureError) (by rfl) T.g_FigureError rfl) pa_nil)))) (pw_and1 (pt_not (pt_val (pe_callB (call_isR0 T.E_NotWhole hz hf) (by rfl) T.z_isinstance (by decide +kernel) (pa_cons (pv 3) (pa_cons (pe_glob (v := .ref a_InvalidTerm) (by rfl) T.E_InvalidTerm.g rfl) pa_nil)))))))) pe_str pe_str)))) HdA.nil))
      (pss_one (ps_ret (pv 2))))), ?_⟩
  walk_at "st"
  walk_at "vc"
  unfold tCallS2
  walk_at "vc"
  obtain ⟨a, dx, r, c, rfl, h1, h2, h3⟩ := id hv
  refine ⟨a, rfl, ⟨dx, _, h1⟩, x, hv, x1, x2, hl, hb, hk, fun hz H' e => ?_, fun hz H' e => ?_⟩
  · have := q H' e
    rwa [if_pos hz] at this
  · have q2 := q H' e
    rw [if_neg hz] at q2
    refine ⟨true, T.E_NotWhole.te, fun _ b hb => ?_, (fun z => by cases z)⟩
    walk_at "vc"
    refine ⟨.ref a_FigureError, .ref a_FigureError, true, rfl, fun u h => h, fun tp z => ⟨_, rfl⟩, rfl, rfl, T.kr_NotWhole_FigureError, _, rfl, ?_⟩
    rw [if_pos rfl]
    refine ⟨.ref a_InvalidTerm, .ref a_InvalidTerm, false, rfl, fun u h => h, fun tp z => ⟨_, rfl⟩, rfl, rfl, T.kr_NotWhole_InvalidTerm, _, rfl, ?_⟩
    exact q2
/-- the word that is told, or nothing -/
def sp_law_refused (K : PySem.W.Frag) : Sp
  | [.ref p, o], H, Q, _ => ∃ vs bs, SqL K H p vs ∧ FlS K H vs bs ∧ (vs.length ≤ 5 ∨ vs.length = 11) ∧
      ((bs.all id = false ∧ ∀ H', Ex H H' → Q (.str "coefficients") H') ∨ ∃ cs : List Int, vs = cs.map V.int ∧ bs.all id = true ∧
        ((∃ b, Fl K H o b ∧ (b = false ∨ ∃ i, o = .int i ∧ b = true ∧ i < 1) ∧ ∀ H', Ex H H' → Q (.str "over") H') ∨ ∃ u, o = .int u ∧ 1 ≤ u ∧ u < 2 ^ 250 ∧ ∀ H', Ex H H' → Q .non H'))
  | _, _, _, _ => False
theorem ok_law_refused (T : Txt K mg a_is_integer a_reduced a_value a_law_deal a_law_draw a_law_gcd a_law_lowest a_law_value a_law_made a_law_row a_law_at a_law_refused a_law a_InvalidTerm_init a_Term_init a_Term_degree a_Term_call a_Term_eq a_InvalidTerm a_NotWhole a_FigureError a_Term d_is_integer d_reduced d_value d_law_deal d_law_draw d_law_gcd d_law_lowest d_law_value d_law_made d_law_row d_law_at d_law_refused d_law d_InvalidTerm_init d_Term_init d_Term_degree d_Term_call d_Term_eq) : FnOk P w K mg base CX0 11 a_law_refused d_law_refused ["_law_row_here", "_law_under"] (sp_law_refused K) := by
  have G_law_made := ok_law_made (P := P) (w := w) (base := base) T
  refine T.F_law_refused.ok sc_law_refused (fun vs H Q E h => ?_) (fun cdv A outer s H vs Q E hr h => ?_)
  · unfold sp_law_refused at h; split at h; rfl; exact h.elim
  unfold sp_law_refused at h; split at h
  case h_2 => exact h.elim
  rename_i p o
  obtain ⟨vs, bs, hp, hf, hl, q⟩ := h
  refine ⟨_, (pss_cons (ps_set (i := 2) sc_law_refused.nd rfl (by first | exact .inl rfl | exact .inr rfl) pe_non)
      (pss_cons (ps_try_manyA rfl rfl sc_law_refused.nd takes0 (fun W pn xe tk _ => (pss_one (ps_expr (pe_callS G_law_made (hr.mono (by omega)) (by rfl) T.g_law_made T.F_law_made.kp T.b_law_made (fun σ => passAt tk σ) (pa_cons (pv 0) (pa_cons (pv 1) pa_nil)))))) (HdA.as (i := 3) rfl rfl ⟨rfl, by decide, .inl T.E_InvalidTerm.g⟩ (fun a oe cls d pn hz hf => (pss_one (ps_set (i := 2) sc_law_refused.nd rfl (by first | exact .inl rfl | exact .inr rfl) (pe_ifExp (PW.pt (pw_and (pt_val (pe_callB (call_isR T.E_InvalidTerm hz hf) (by rfl) T.z_isinstance (by decide +kernel) (pa_cons (pv 3) (pa_cons (pe_glob (v := .ref a_FigureError) (by rfl) T.g_FigureError rfl) pa_nil)))) (pw_and1 (pt_val (pe_callB (call_isR T.E_InvalidTerm hz hf) (by rfl) T.z_isinstance (by decide +kernel) (pa_cons (pv 3) (pa_cons (pe_bltn (v := .ty "ValueError") (by rfl) T.z_ValueError (by decide +kernel) rfl) pa_nil))))))) (pe_xf T.E_InvalidTerm.xf T.E_InvalidTerm.F.noF hz hf (pv 3)) pe_str)))) HdA.nil))
      (pss_one (ps_ret (pv 2))))), ?_⟩
  walk_at "st"
  walk_at "vc"
  unfold tCallS
  walk_at "vc"
  refine ⟨vs, bs, hp, hf, hl, ?_⟩
  have told : ∀ wd : Str, (∀ H', Ex H H' → Q (.str wd) H') → ToldA a_InvalidTerm "word" (.str wd) (WE
      (wManyA K (fun x x_1 x_2 x_3 => False) { nx := tRet (tVar 2) { nx := fun x H' => Q V.non H', rt := Q }, rt := Q }
        [(Value.ref a_InvalidTerm, some 3, fun a cls d =>
            tAsg
              (tIf
                (tAnd (tB (tCB (rIsR K a_InvalidTerm a cls d) (tCons (tVar 3) (tCons (tC (V.ref a_FigureError)) tNil))))
                  (tB (tCB (rIsR K a_InvalidTerm a cls d) (tCons (tVar 3) (tCons (tC (V.ty "ValueError")) tNil)))))
                (tXf a cls d a_InvalidTerm (Str.ofString "word") (tVar 3)) (tC (V.str (Str.ofString "other"))))
              (gName 2))]) [some (V.ref p), some o, some V.non, none]) H := fun wd qq H' d e hd => by
    refine ⟨true, T.E_InvalidTerm.te, fun _ b hb => ?_, (fun z => by cases z)⟩
    have wdd : L2.upd H' d (.xd [("word", .str wd)]) d = some (.xd [("word", .str wd)]) := upd_same
    walk_at "vc"
    refine ⟨d, _, .ref a_FigureError, .ref a_FigureError, true, rfl, fun u h => h, fun tp z => ⟨_, rfl⟩, rfl, rfl, wdd, T.kr_InvalidTerm_FigureError, _, rfl, ?_⟩
    rw [if_pos rfl]
    refine ⟨d, _, .ty "ValueError", .type "ValueError", true, rfl, fun u h => h, fun tp z => (by cases z), rfl, rfl, wdd, T.kr_InvalidTerm_ValueError, _, rfl, ?_⟩
    rw [if_pos rfl]
    exact ⟨_, rfl, rfl, rfl, d, _, .str wd, rfl, wdd, rfl, qq _ (e.trans (Ex.new hd))⟩
  rcases q with ⟨h1, h2⟩ | ⟨cs, h1, h2, ⟨b, h3, h4, h5⟩ | ⟨u, h3, h4, h5, h6⟩⟩
  · exact .inl ⟨h1, told _ h2⟩
  · exact .inr ⟨cs, h1, h2, .inl ⟨b, h3, h4, told _ h5⟩⟩
  · exact .inr ⟨cs, h1, h2, .inr ⟨u, h3, h4, h5, fun v H' e hv => h6 H' e⟩⟩
end
end My
set_option Elab.async false
set_option linter.all false
set_option maxRecDepth 100000
set_option maxHeartbeats 4000000
/-! names in order: sorted texts are told by what they hold; dicts whose values are all True -/
namespace My
open PySem PySem.Spec PyProof.Rows L2 Evl
theorem lt_cons (a b : Nat) (r t : List Nat) : ltCps (a :: r) (b :: t) = false ↔ b ≤ a ∧ (a = b → ltCps r t = false) := by
  show (decide (a < b) || (a == b && ltCps r t)) = false ↔ _
  rw [Bool.or_eq_false_iff, decide_eq_false_iff_not]
  constructor
  · rintro ⟨h1, h2⟩
    exact ⟨by omega, fun e => by rw [e, beq_self_eq_true, Bool.true_and] at h2; exact h2⟩
  · rintro ⟨h1, h2⟩
    refine ⟨by omega, ?_⟩
    by_cases e : a = b
    · rw [h2 e, Bool.and_false]
    · rw [show (a == b) = false from beq_eq_false_iff_ne.mpr e, Bool.false_and]
theorem le_tr : ∀ {a b c : List Nat}, ltCps b a = false → ltCps c b = false → ltCps c a = false
  | [], _, [], _, _ => rfl
  | [], _, _ :: _, _, _ => rfl
  | _ :: _, [], _, h, _ => by cases h
  | _ :: _, _ :: _, [], _, h => by cases h
  | x :: a, y :: b, z :: c, h1, h2 => by
    rw [lt_cons] at h1 h2 ⊢
    refine ⟨by omega, fun e => le_tr (h1.2 (by omega)) (h2.2 (by omega))⟩
theorem le_anti : ∀ {a b : List Nat}, ltCps b a = false → ltCps a b = false → a = b
  | [], [], _, _ => rfl
  | [], _ :: _, _, h => by cases h
  | _ :: _, [], h, _ => by cases h
  | x :: a, y :: b, h1, h2 => by
    rw [lt_cons] at h1 h2
    have e : x = y := by omega
    rw [e, le_anti (h1.2 e.symm) (h2.2 e)]
theorem rising_pw : ∀ {l : List Str} {p : Str}, risingS p l = true → (p :: l).Pairwise (fun a b => ltCps b.cps.toList a.cps.toList = false)
  | [], p, _ => List.pairwise_singleton ..
  | x :: r, p, h => by
    have h' : (!ltCps x.cps.toList p.cps.toList && risingS x r) = true := h
    rw [Bool.and_eq_true, Bool.not_eq_true'] at h'
    have ih := rising_pw h'.2
    refine List.pairwise_cons.mpr ⟨fun b hb => ?_, ih⟩
    rcases List.mem_cons.mp hb with rfl | hb
    · exact h'.1
    · exact le_tr h'.1 ((List.pairwise_cons.mp ih).1 b hb)
theorem sorted_pw {l : List Str} (h : sortedS l = true) : l.Pairwise (fun a b => ltCps b.cps.toList a.cps.toList = false) := by
  cases l with
  | nil => exact List.Pairwise.nil
  | cons x r => exact rising_pw h
theorem str_ext {a b : Str} (h : a.cps.toList = b.cps.toList) : a = b := by
  cases a; cases b
  simp only [Str.mk.injEq]
  exact Array.toList_inj.mp h
/-- sorted, each once, the same members: the same list -/
theorem sorted_uniq {xs ys : List Str} (h1 : sortedS xs = true) (h2 : sortedS ys = true) (n1 : xs.Nodup) (n2 : ys.Nodup) (h : ∀ z, z ∈ xs ↔ z ∈ ys) : xs = ys := by
  refine List.Perm.eq_of_pairwise (fun a b _ _ p q => str_ext (le_anti p q)) (sorted_pw h1) (sorted_pw h2) ?_
  exact (List.perm_ext_iff_of_nodup n1 n2).mpr h
/-- a dict whose values are all True -/
def asB (ks : List Str) : List (Key × V) := ks.map fun x => (.inr x, .bl true)
def addN (ks : List Str) (x : Str) : List Str := if x ∈ ks then ks else ks ++ [x]
theorem asB_any (ks : List Str) (x : Str) : ((asB ks).any fun kv => decide (kv.1 = .inr x)) = decide (x ∈ ks) := by
  unfold asB
  rw [List.any_map]
  rw [Bool.eq_iff_iff, List.any_eq_true, decide_eq_true_iff]
  constructor
  · rintro ⟨y, hy, h⟩
    have h' := of_decide_eq_true h
    cases h'
    exact hy
  · intro h
    exact ⟨x, h, decide_eq_true rfl⟩
theorem putK_asB (ks : List Str) (x : Str) : putK (asB ks) (.inr x) (.bl true) = asB (addN ks x) := by
  unfold putK addN
  rw [asB_any]
  by_cases h : x ∈ ks
  · rw [if_pos (decide_eq_true h), if_pos h]
    unfold asB
    rw [List.map_map]
    refine List.map_congr_left fun y _ => ?_
    show (if (Sum.inr y : Key) = .inr x then ((Sum.inr y : Key), V.bl true) else (.inr y, .bl true)) = _
    split <;> rfl
  · rw [if_neg (by rw [decide_eq_false h]; decide), if_neg h]
    unfold asB
    rw [List.map_append]
    rfl
def addAll (ks xs : List Str) : List Str := xs.foldl addN ks
theorem addN_mem (ks : List Str) (x z : Str) : z ∈ addN ks x ↔ z ∈ ks ∨ z = x := by
  unfold addN
  split
  · rename_i h
    exact ⟨.inl, fun k => k.elim id fun e => e ▸ h⟩
  · rw [List.mem_append, List.mem_singleton]
theorem addN_nodup {ks : List Str} (x : Str) (h : ks.Nodup) : (addN ks x).Nodup := by
  unfold addN
  split
  · exact h
  · rename_i hn
    rw [List.nodup_append]
    exact ⟨h, by simp, fun a ha b hb e => hn (by rw [List.mem_singleton] at hb; rw [← hb, ← e]; exact ha)⟩
theorem addAll_mem : ∀ (xs ks : List Str) (z : Str), z ∈ addAll ks xs ↔ z ∈ ks ∨ z ∈ xs
  | [], ks, z => by unfold addAll; simp
  | x :: xs, ks, z => by
    show z ∈ addAll (addN ks x) xs ↔ _
    rw [addAll_mem xs, addN_mem, List.mem_cons, or_assoc]
theorem addAll_nodup : ∀ (xs : List Str) {ks : List Str}, ks.Nodup → (addAll ks xs).Nodup
  | [], _, h => h
  | x :: xs, _, h => addAll_nodup xs (addN_nodup x h)
theorem addAll_app (ks xs ys : List Str) : addAll ks (xs ++ ys) = addAll (addAll ks xs) ys := List.foldl_append
theorem addAll_len : ∀ (xs ks : List Str), (addAll ks xs).length ≤ ks.length + xs.length
  | [], ks => by unfold addAll; simp
  | x :: xs, ks => by
    have h1 := addAll_len xs (addN ks x)
    have h2 : (addN ks x).length ≤ ks.length + 1 := by unfold addN; split <;> simp <;> omega
    show (addAll (addN ks x) xs).length ≤ _
    rw [List.length_cons]
    omega
theorem addAll_snoc (ks xs : List Str) (x : Str) : addAll ks (xs ++ [x]) = addN (addAll ks xs) x := by rw [addAll_app]; rfl
theorem asB_len (ks : List Str) : (asB ks).length = ks.length := by unfold asB; rw [List.length_map]
theorem merge_asB : ∀ (xs ks : List Str), mergeK (asB ks) (asB xs) = asB (addAll ks xs)
  | [], ks => rfl
  | x :: xs, ks => by
    show mergeK (putK (asB ks) (.inr x) (.bl true)) (asB xs) = _
    rw [putK_asB, merge_asB xs]
    rfl
/-- what sorted(..) of the keys gives -/
def NmOf (xs ys : List Str) : Prop := sortedS ys = true ∧ ys.Nodup ∧ ∀ z, z ∈ ys ↔ z ∈ xs
theorem NmOf.uniq {xs xs2 ys zs : List Str} (h : NmOf xs ys) (k : NmOf xs2 zs) (e : ∀ z, z ∈ xs ↔ z ∈ xs2) : ys = zs := sorted_uniq h.1 k.1 h.2.1 k.2.1 fun z => by rw [h.2.2, k.2.2, e]
theorem NmOf.of {xs ys : List Str} (p : ys.Perm (addAll [] xs)) (s : sortedS ys = true) : NmOf xs ys := ⟨s, p.nodup_iff.mpr (addAll_nodup xs List.nodup_nil), fun z => by rw [p.mem_iff, addAll_mem]; simp⟩
/-- all but lists and dicts stays -/
def Kd (H H' : Hp) : Prop := ∀ b o, (∀ xs, o ≠ .lst xs) → (∀ ks, o ≠ .dK ks) → H b = some o → H' b = some o
theorem Kd.tup {H H' : Hp} (e : Kd H H') {a : Addr} {xs : List V} (h : H a = some (.tup xs)) : H' a = some (.tup xs) := e _ _ (fun _ z => by cases z) (fun _ z => by cases z) h
theorem Kd.ins {H H' : Hp} (e : Kd H H') {a C dx : Addr} {fs : List (Str × V)} (h : H a = some (.ins C dx fs)) : H' a = some (.ins C dx fs) := e _ _ (fun _ z => by cases z) (fun _ z => by cases z) h
theorem Kd.sqt {K : PySem.W.Frag} {H H' : Hp} (e : Kd H H') {a : Addr} {xs : List V} (h : SqT K H a xs) : SqT K H' a xs := by
  rcases h with (h | ⟨o, h⟩) | h
  · exact .inl (.inl (e.tup h))
  · exact .inl (.inr ⟨o, e _ _ (fun _ z => by cases z) (fun _ z => by cases z) h⟩)
  · exact .inr h
section
variable {K : PySem.W.Frag} {A : ClsA} {H H' : Hp}
theorem TestO.kd (e : Kd H H') : ∀ {t : TestM} {v : V}, TestO K A H t v → TestO K A H' t v
  | .ask _ _, _, ⟨a, dx, q, h1, h2, h3⟩ => ⟨a, dx, q, h1, e.ins h2, e.sqt h3⟩
  | .not _, _, ⟨a, dx, u, h1, h2, h3⟩ => ⟨a, dx, u, h1, e.ins h2, h3.kd e⟩
mutual
theorem RowO.kd (e : Kd H H') : ∀ {r : RowM} {v : V}, RowO K A H r v → RowO K A H' r v
  | .stop, _, h => by
    obtain ⟨a, dx, h1, h2⟩ := h
    exact ⟨a, dx, h1, e.ins h2⟩
  | .put _ _ _, _, h => by
    obtain ⟨a, dx, q, h1, h2, h3⟩ := h
    exact ⟨a, dx, q, h1, e.ins h2, e.sqt h3⟩
  | .times _ rs, _, h => by
    obtain ⟨a, dx, q, vs, h1, h2, h3, h4⟩ := h
    exact ⟨a, dx, q, vs, h1, e.ins h2, e.sqt h3, RowOs.kd e h4⟩
  | .ifr _ rs os, _, h => by
    obtain ⟨a, dx, u, q, r, vs, ws, h1, h2, h3, h4, h5, h6, h7⟩ := h
    exact ⟨a, dx, u, q, r, vs, ws, h1, e.ins h2, h3.kd e, e.sqt h4, RowOs.kd e h5, e.sqt h6, RowOs.kd e h7⟩
theorem RowOs.kd (e : Kd H H') : ∀ {rs : List RowM} {vs : List V}, RowOs K A H rs vs → RowOs K A H' rs vs
  | [], _, h => h
  | r :: rs, _, h => by
    obtain ⟨v, ws, h1, h2, h3⟩ := h
    exact ⟨v, ws, h1, RowO.kd e h2, RowOs.kd e h3⟩
end
end
theorem pi_listK {X : Cx} {K : PySem.W.Frag} {tg l : Expr} {tl : TE} (hK : X.K = K) (hl : PE X l tl) : PI X tg l (iList K tl) := hK ▸ pi_list hl
theorem pi_tupK {X : Cx} {K : PySem.W.Frag} {tg l : Expr} {tl : TE} (hK : X.K = K) (hl : PE X l tl) : PI X tg l (iTup K tl) := hK ▸ pi_tup hl
theorem nf_own {K : PySem.W.Frag} {C : Addr} : PySem.W.notFirst K C (.ref C) = true := by
  unfold PySem.W.notFirst
  simp
end My
set_option Elab.async false
set_option linter.all false
set_option maxRecDepth 100000
set_option maxHeartbeats 4000000
set_option exponentiation.threshold 5000
/-! any values: None, bools, ints, texts, lists and tuples of such, as data -/
namespace My
open PySem PySem.Spec PyProof.Rows L2 Evl
def All2 {α β : Type} (R : α → β → Prop) : List α → List β → Prop
  | [], [] => True
  | a :: as, b :: bs => R a b ∧ All2 R as bs
  | _, _ => False
theorem All2.imp {α β : Type} {R S : α → β → Prop} (h : ∀ a b, R a b → S a b) : ∀ {as : List α} {bs : List β}, All2 R as bs → All2 S as bs
  | [], [], _ => trivial
  | _ :: _, _ :: _, ⟨x, y⟩ => ⟨h _ _ x, All2.imp h y⟩
  | [], _ :: _, x => x.elim
  | _ :: _, [], x => x.elim
theorem All2.len {α β : Type} {R : α → β → Prop} : ∀ {as : List α} {bs : List β}, All2 R as bs → bs.length = as.length
  | [], [], _ => rfl
  | _ :: _, _ :: _, ⟨_, y⟩ => by rw [List.length_cons, List.length_cons, All2.len y]
  | [], _ :: _, x => x.elim
  | _ :: _, [], x => x.elim
theorem All2.snoc {α β : Type} {R : α → β → Prop} {a : α} {b : β} (r : R a b) : ∀ {as : List α} {bs : List β}, All2 R as bs → All2 R (as ++ [a]) (bs ++ [b])
  | [], [], _ => ⟨r, trivial⟩
  | _ :: _, _ :: _, ⟨x, y⟩ => ⟨x, All2.snoc r y⟩
  | [], _ :: _, x => x.elim
  | _ :: _, [], x => x.elim
theorem All2.rep {α β : Type} {R : α → β → Prop} {a : α} {b : β} (r : R a b) : ∀ n : Nat, All2 R (List.replicate n a) (List.replicate n b)
  | 0 => trivial
  | n + 1 => ⟨r, All2.rep r n⟩
/-- a leaf -/
def Lf : V → PyData → Prop
  | .non, .none => True
  | .bl b, .bool c => b = c
  | .int i, .int j => i = j ∧ i.natAbs < 10 ^ 31
  | .str x, .str y => x = y ∧ x.cps.size ≤ 20 ∧ (x.cps.toList.all fun c => decide (c < 16 ^ 8)) = true
  | _, _ => False
/-- a value of depth n at most, none of whose objects is bad -/
def Av (bad : Addr → Prop) (H : Hp) : Nat → V → PyData → Prop
  | 0, v, d => Lf v d
  | n + 1, v, d => Lf v d ∨ ∃ p xs ds, v = .ref p ∧ ¬ bad p ∧ xs.length ≤ 4 ∧ All2 (Av bad H n) xs ds ∧ ((H p = some (.lst xs) ∧ d = .list ds) ∨ (H p = some (.tup xs) ∧ d = .tuple ds))
section
variable {bad : Addr → Prop} {H H' : Hp}
theorem Av.leaf {v : V} {d : PyData} (h : Lf v d) : ∀ n, Av bad H n v d
  | 0 => h
  | _ + 1 => .inl h
theorem Av.up : ∀ {n : Nat} {v : V} {d : PyData}, Av bad H n v d → Av bad H (n + 1) v d
  | 0, _, _, h => .inl h
  | n + 1, _, _, .inl h => .inl h
  | n + 1, _, _, .inr ⟨p, xs, ds, e, b, l, a, o⟩ => .inr ⟨p, xs, ds, e, b, l, a.imp fun _ _ => Av.up, o⟩
theorem Av.keep (k : ∀ b o, ¬ bad b → H b = some o → H' b = some o) : ∀ {n : Nat} {v : V} {d : PyData}, Av bad H n v d → Av bad H' n v d
  | 0, _, _, h => h
  | n + 1, _, _, .inl h => .inl h
  | n + 1, _, _, .inr ⟨p, xs, ds, e, b, l, a, o⟩ => .inr ⟨p, xs, ds, e, b, l, a.imp fun _ _ => Av.keep k, by
      rcases o with ⟨o, e⟩ | ⟨o, e⟩
      · exact .inl ⟨k _ _ b o, e⟩
      · exact .inr ⟨k _ _ b o, e⟩⟩
theorem Av.avoid {p : Addr} (hp : H p = none) : ∀ {n : Nat} {v : V} {d : PyData}, Av bad H n v d → Av (fun b => bad b ∨ b = p) H n v d
  | 0, _, _, h => h
  | n + 1, _, _, .inl h => .inl h
  | n + 1, _, _, .inr ⟨q, xs, ds, e, b, l, a, o⟩ => by
    have nq : ¬ (bad q ∨ q = p) := fun z => by
      rcases z with z | z
      · exact b z
      · subst z
        rcases o with ⟨o, _⟩ | ⟨o, _⟩ <;> (rw [hp] at o; cases o)
    exact .inr ⟨q, xs, ds, e, nq, l, a.imp fun _ _ => Av.avoid hp, o⟩
theorem Av.less {bad' : Addr → Prop} (k : ∀ b, bad' b → bad b) : ∀ {n : Nat} {v : V} {d : PyData}, Av bad H n v d → Av bad' H n v d
  | 0, _, _, h => h
  | n + 1, _, _, .inl h => .inl h
  | n + 1, _, _, .inr ⟨q, xs, ds, e, b, l, a, o⟩ => .inr ⟨q, xs, ds, e, fun z => b (k _ z), l, a.imp fun _ _ => Av.less k, o⟩
theorem Lf.dp {K : PySem.W.Frag} {v : V} {d : PyData} (h : Lf v d) : Dp K H v d := by
  unfold Lf at h
  split at h
  · exact .non
  · cases h; exact .bl _
  · obtain ⟨rfl, _⟩ := h; exact .int _
  · obtain ⟨rfl, _⟩ := h; exact .str _
  · exact h.elim
theorem All2.dp {K : PySem.W.Frag} {R : V → PyData → Prop} (r : ∀ v d, R v d → Dp K H v d) : ∀ {vs : List V} {ds : List PyData}, All2 R vs ds → DpAll K H vs ds
  | [], [], _ => .nil
  | _ :: _, _ :: _, ⟨x, y⟩ => .cons (r _ _ x) (All2.dp r y)
  | [], _ :: _, x => x.elim
  | _ :: _, [], x => x.elim
theorem Av.dp {K : PySem.W.Frag} : ∀ {n : Nat} {v : V} {d : PyData}, Av bad H n v d → Dp K H v d
  | 0, _, _, h => Lf.dp h
  | n + 1, _, _, .inl h => Lf.dp h
  | n + 1, _, _, .inr ⟨q, xs, ds, e, b, l, a, o⟩ => by
    subst e
    rcases o with ⟨o, rfl⟩ | ⟨o, rfl⟩
    · exact .lst (sq_of o) (a.dp fun _ _ => Av.dp)
    · exact .tup (st_of o) (a.dp fun _ _ => Av.dp)
/-- what repr asks of data -/
structure Fine (n b : Nat) (d : PyData) : Prop where
  sh : d.showable = true
  nd : d.hasDict = false
  ls : d.leavesShort 40 = true
  dp : d.depth ≤ n
  bk : d.bulk ≤ b
theorem intShort {i : Int} (h : i.natAbs < 10 ^ 31) : (PyData.shown (.int i)).length ≤ 40 := by
  have := int_text_length_le10 (a := i) (k := 31) (by decide) h
  have e : (PyData.shown (.int i)).length = (toString i).length := by
    show (PySem.Str.ofString (toString i)).length = _
    rw [PySem.ofString_length]
  omega
theorem log31 {i : Int} (h : i.natAbs < 10 ^ 31) : i.natAbs.log2 < 1920 :=
  Nat.lt_of_lt_of_le (PySem.Flt.log2_lt_of (k := 104) (by decide) (Nat.lt_of_lt_of_le h (by decide))) (by decide)
theorem Lf.fine {v : V} {d : PyData} (h : Lf v d) : Fine 0 20 d := by
  unfold Lf at h
  split at h
  · exact ⟨by rw [PyData.showable], by rw [PyData.hasDict], by rw [PyData.leavesShort], by rw [PyData.depth]; omega, by rw [PyData.bulk]; omega⟩
  · exact ⟨by rw [PyData.showable], by rw [PyData.hasDict], by rw [PyData.leavesShort], by rw [PyData.depth]; omega, by rw [PyData.bulk]; omega⟩
  · obtain ⟨rfl, h⟩ := h
    exact ⟨by rw [PyData.showable]; exact decide_eq_true (log31 h), by rw [PyData.hasDict], by rw [PyData.leavesShort]; exact decide_eq_true (intShort h), by rw [PyData.depth]; omega, by rw [PyData.bulk]; omega⟩
  · obtain ⟨rfl, h1, h2⟩ := h
    exact ⟨by rw [PyData.showable], by rw [PyData.hasDict], by rw [PyData.leavesShort]; exact h2, by rw [PyData.depth]; omega, by rw [PyData.bulk]; exact h1⟩
  · exact h.elim
theorem Fine.more {n b m c : Nat} {d : PyData} (f : Fine n b d) (h1 : n ≤ m) (h2 : b ≤ c) : Fine m c d := ⟨f.sh, f.nd, f.ls, Nat.le_trans f.dp h1, Nat.le_trans f.bk h2⟩
theorem All2.fine {R : V → PyData → Prop} {n b : Nat} (r : ∀ v d, R v d → Fine n b d) : ∀ {vs : List V} {ds : List PyData}, All2 R vs ds →
    PyData.showableAll ds = true ∧ PyData.hasDictAll ds = false ∧ PyData.leavesShortAll 40 ds = true ∧ PyData.depthAll ds ≤ n ∧ PyData.bulkAll ds ≤ vs.length * (b + 1)
  | [], [], _ => ⟨rfl, rfl, rfl, Nat.zero_le _, Nat.zero_le _⟩
  | v :: vs, d :: ds, ⟨x, y⟩ => by
    obtain ⟨a1, a2, a3, a4, a5⟩ := All2.fine r y
    have f := r _ _ x
    refine ⟨by rw [PyData.showableAll, f.sh, a1]; rfl, by rw [PyData.hasDictAll, f.nd, a2]; rfl, by rw [PyData.leavesShortAll, f.ls, a3]; rfl, by rw [PyData.depthAll]; exact Nat.max_le.mpr ⟨f.dp, a4⟩, ?_⟩
    rw [PyData.bulkAll, List.length_cons, Nat.add_mul, Nat.one_mul]
    have := f.bk
    omega
  | [], _ :: _, x => x.elim
  | _ :: _, [], x => x.elim
theorem Fine.list {R : V → PyData → Prop} {n b k : Nat} {vs : List V} {ds : List PyData} (r : ∀ v d, R v d → Fine n b d) (h : All2 R vs ds) (hl : vs.length ≤ k) : Fine (n + 1) (k * (b + 1)) (.list ds) := by
  obtain ⟨a1, a2, a3, a4, a5⟩ := h.fine r
  exact ⟨by rw [PyData.showable]; exact a1, by rw [PyData.hasDict]; exact a2, by rw [PyData.leavesShort]; exact a3, by rw [PyData.depth]; omega, by rw [PyData.bulk]; exact Nat.le_trans a5 (Nat.mul_le_mul_right _ hl)⟩
theorem Fine.tup {R : V → PyData → Prop} {n b k : Nat} {vs : List V} {ds : List PyData} (r : ∀ v d, R v d → Fine n b d) (h : All2 R vs ds) (hl : vs.length ≤ k) : Fine (n + 1) (k * (b + 1)) (.tuple ds) := by
  obtain ⟨a1, a2, a3, a4, a5⟩ := h.fine r
  exact ⟨by rw [PyData.showable]; exact a1, by rw [PyData.hasDict]; exact a2, by rw [PyData.leavesShort]; exact a3, by rw [PyData.depth]; omega, by rw [PyData.bulk]; exact Nat.le_trans a5 (Nat.mul_le_mul_right _ hl)⟩
def bkOf : Nat → Nat
  | 0 => 20
  | n + 1 => 4 * (bkOf n + 1)
theorem bkOf_ge : ∀ n, 20 ≤ bkOf n
  | 0 => Nat.le_refl _
  | n + 1 => by have := bkOf_ge n; rw [bkOf]; omega
theorem Av.fine : ∀ {n : Nat} {v : V} {d : PyData}, Av bad H n v d → Fine n (bkOf n) d
  | 0, _, _, h => Lf.fine h
  | n + 1, _, _, .inl h => (Lf.fine h).more (Nat.zero_le _) (bkOf_ge _)
  | n + 1, _, _, .inr ⟨q, xs, ds, e, b, l, a, o⟩ => by
    rcases o with ⟨_, rfl⟩ | ⟨_, rfl⟩
    · exact Fine.list (fun _ _ => Av.fine) a l
    · exact Fine.tup (fun _ _ => Av.fine) a l
/-- repr of fine data -/
theorem reprFine {K : PySem.W.Frag} {v : V} {d : PyData} {n b : Nat} {Q : VK} (hd : Dp K H v d) (f : Fine n b d) (h1 : n ≤ 100) (h2 : b ≤ 300000) (q : Q (.str d.shown) H) : rReprD K [v] H Q :=
  ⟨v, d, rfl, hd, f.sh, f.nd, Nat.le_trans f.dp h1, Nat.le_trans (PyData.shown_le_bulk 40 (by decide) d f.ls) (by have := f.bk; rw [sizeLine_eq]; omega), q⟩
end
/-- any value that is made: none of its objects is bad; n bounds the depth -/
structure AnyR (bad : Addr → Prop) (n : Nat) (H : Hp) (v : V) (D : PyData) : Prop where
  av : Av bad H (n + 1) v D
  ls : ∀ p xs, v = .ref p → H p = some (.lst xs) → ∃ ds, D = .list ds ∧ ¬ bad p ∧ xs.length ≤ 3 ∧ All2 (Av (fun b => bad b ∨ b = p) H n) xs ds
/-- what is not new behind H, or the source's -/
def BdA (d L : Addr) (H : Hp) : Addr → Prop := fun b => (b = d ∨ b = L) ∨ H b ≠ none
theorem AnyR.leaf {bad : Addr → Prop} {n : Nat} {H : Hp} {v : V} {D : PyData} (h : Lf v D) : AnyR bad n H v D :=
  ⟨Av.leaf h _, fun p xs e _ => by subst e; cases D <;> exact h.elim⟩
theorem AnyR.kp {bad : Addr → Prop} {n : Nat} {H H' : Hp} {v : V} {D : PyData} (h : AnyR bad n H v D) (k : ∀ b o, ¬ bad b → H b = some o → H' b = some o) : AnyR bad n H' v D := by
  refine ⟨h.av.keep k, fun p xs e hp => ?_⟩
  rcases h.av with h0 | ⟨q, ys, ds, e2, b, l, a, o⟩
  · subst e; cases D <;> exact h0.elim
  · rw [e] at e2
    cases e2
    rcases o with ⟨o, _⟩ | ⟨o, _⟩
    · have o2 := k _ _ b o
      rw [hp] at o2
      cases o2
      obtain ⟨es, x1, x2, x4, x5⟩ := h.ls p xs e o
      exact ⟨es, x1, x2, x4, x5.imp fun _ _ z => z.keep fun b o nb => k b o fun w => nb (.inl w)⟩
    · have o2 := k _ _ b o
      rw [hp] at o2
      cases o2
theorem AnyR.mv {d L : Addr} {n : Nat} {H0 H H' : Hp} {v : V} {D : PyData} (h : AnyR (BdA d L H0) n H v D) (m : Mv d L H H') : AnyR (BdA d L H0) n H' v D :=
  h.kp fun b o nb e => m.kp b o (fun z => nb (.inl (.inl z))) (fun z => nb (.inl (.inr z))) e
theorem AnyR.ex {bad : Addr → Prop} {n : Nat} {H H' : Hp} {v : V} {D : PyData} (h : AnyR bad n H v D) (m : Ex H H') : AnyR bad n H' v D :=
  h.kp fun b o _ e => m b o e
/-- whether it is a list -/
theorem AnyR.isL {bad : Addr → Prop} {n : Nat} {H : Hp} {v : V} {D : PyData} (h : AnyR bad n H v D) : (∃ p xs, v = .ref p ∧ H p = some (.lst xs)) ∨ (∃ t, vty H v = some t ∧ kitB t "list" = some false ∧ ∀ p xs, v = .ref p → H p ≠ some (.lst xs)) := by
  rcases h.av with h0 | ⟨q, ys, ds, rfl, b, l, a, o⟩
  · refine .inr ?_
    cases v <;> cases D <;> first | exact h0.elim | skip
    · exact ⟨_, rfl, by decide +kernel, fun p xs e => by cases e⟩
    · exact ⟨_, rfl, by decide +kernel, fun p xs e => by cases e⟩
    · exact ⟨_, rfl, by decide +kernel, fun p xs e => by cases e⟩
    · exact ⟨_, rfl, by decide +kernel, fun p xs e => by cases e⟩
  · rcases o with ⟨o, _⟩ | ⟨o, _⟩
    · exact .inl ⟨q, ys, rfl, o⟩
    · refine .inr ⟨"tuple", by simp [vty, o], kb11, fun p xs e z => ?_⟩
      cases e
      rw [o] at z; cases z
theorem AnyR.fine {bad : Addr → Prop} {n : Nat} {H : Hp} {v : V} {D : PyData} (h : AnyR bad n H v D) : Fine (n + 1) (bkOf (n + 1)) D := h.av.fine
end My
set_option Elab.async false
set_option linter.all false
set_option maxRecDepth 100000
set_option maxHeartbeats 4000000
set_option exponentiation.threshold 5000
namespace My
open PySem PySem.Spec PyProof.Rows L2 Evl
local macro_rules | `(tactic| walk_at "st") => `(tactic| simp only [L2.start, List.map_cons, List.map_nil, List.length_cons, List.length_nil, Nat.reduceAdd, Nat.reduceSub, List.replicate_succ, List.replicate_zero, List.cons_append, List.nil_append, cxOf, List.append_nil])
local macro_rules | `(tactic| walk_at "vc") => `(tactic| try simp only [tSeq, tAsg, tOp, tUn, tVar, tC, tNil, tCons, gName, rI, rI0, rU, tRet, tIfS, tNot, tAnd, tOr, tB, tTest, tCB, tCall, tAndV, tOrV, tNotV, tNext, tNever, tIf, tChain, tYes, tPart, tNoPart, tPar, tDrop, q_isi, q_vn, q_vb, q_vi, q_vs, kb1, kb2, kb3, kb4, kb5, kb6, kb7, kb8, q_int1, q_int2, q_min, q_max, q_repr, tLst, tTup, rEq, rNe, q_sii, q_sss, q_sbb, q_snn, q_sns, q_ssn, q_ix, q_sl, tSl, tBM, tBM0, q_app, q_pop, gSub, rSetL, L2.wipe, eq_self, decide_true, decide_false, tRevL,
  List.getElem?_cons_succ, List.getElem?_cons_zero, List.set_cons_succ, List.set_cons_zero, Option.some.injEq, exists_eq_left', exists_eq_left, V.int.injEq, V.bl.injEq, V.ref.injEq, V.str.injEq, List.cons.injEq, and_true, true_and, List.append_nil, List.nil_append, List.cons_append, exists_and_left, and_assoc, if_true, if_false, Bool.not_true, Bool.not_false, Bool.false_eq_true, Bool.true_eq_false, reduceIte, tRevL, tPar3, tRevT, tUnl, tCKw, forall_const, Bool.not_eq_true', decide_eq_true_eq, decide_eq_false_iff_not])
section
variable {P : Program} {w : World} {K : PySem.W.Frag} {mg : Str → Option Value} {base : Heap}
variable {a_is_integer a_reduced a_value a_law_deal a_law_draw a_law_gcd a_law_lowest a_law_value a_law_made a_law_row a_law_at a_law_refused a_law a_InvalidTerm_init a_Term_init a_Term_degree a_Term_call a_Term_eq a_InvalidTerm a_NotWhole a_FigureError a_Term : Addr} {d_is_integer d_reduced d_value d_law_deal d_law_draw d_law_gcd d_law_lowest d_law_value d_law_made d_law_row d_law_at d_law_refused d_law d_InvalidTerm_init d_Term_init d_Term_degree d_Term_call d_Term_eq : FuncData}
def pairD (p : PM) : PyData := .tuple [.tuple (p.2.map PyData.int), .int p.1]
theorem dp_pair {H : Hp} {v : V} {x : PM} (h : PairT K H v x) : Dp K H v (pairD x) := by
  obtain ⟨a, c, rfl, h1, h2⟩ := h
  exact .tup h1 (.cons (.tup h2 (dpInts _)) (.cons (.int _) .nil))
theorem lay_pair (x : PM) : PyData.canLay0 (pairD x) = true := by
  unfold pairD
  rw [PyData.canLay0, PyData.canLayAll0, PyData.canLayAll0, PyData.canLayAll0, PyData.canLay0, PyData.canLay0, canLayInts]
  rfl
theorem depth_pair (x : PM) : PyData.depth (pairD x) ≤ 3 := by
  unfold pairD
  simp only [PyData.depth, PyData.depthAll, depthInts]
  decide
theorem eqv_pair (x : PM) : PyData.eqv (pairD x) (pairD x) = true := by
  unfold pairD
  rw [PyData.eqv, PyData.eqvAll, PyData.eqvAll, PyData.eqvAll, PyData.eqv, PyData.eqv, eqvAllInts]
  simp
theorem shaped_pair (x : PM) : SeqAt.shaped (pairD x) = true := by
  have h := depth_pair x
  unfold SeqAt.shaped
  rw [lay_pair]
  simp
  omega
theorem ne_pair {H : Hp} {v u : V} {x : PM} {Q : VK} (h : PairT K H v x) (k : PairT K H u x) (q : Q (.bl false) H) : rNeD K v u H Q :=
  ⟨_, _, dp_pair h, dp_pair k, shaped_pair x, shaped_pair x, by rw [eqv_pair]; exact q⟩

theorem shaped_tups (cs : List Int) : SeqAt.shaped (.tuple (cs.map PyData.int)) = true := by
  unfold SeqAt.shaped
  rw [PyData.canLay0, canLayInts, PyData.depth, depthInts]
  simp
theorem eqv_tups (cs : List Int) : PyData.eqv (.tuple (cs.map PyData.int)) (.tuple (([] : List Int).map PyData.int)) = decide (cs = []) := by
  rw [PyData.eqv, eqvAllInts]
theorem ne_tups {H : Hp} {a b : Addr} {xs : List Int} {Q : VK} (h : SqT K H a (xs.map V.int)) (k : SqT K H b []) (q : Q (.bl (!decide (xs = []))) H) : rNeD K (.ref a) (.ref b) H Q :=
  ⟨_, _, .tup h (dpInts xs), .tup k (dpInts []), shaped_tups xs, shaped_tups [], by rw [eqv_tups]; exact q⟩
theorem eqv_pair2 (x y : PM) : PyData.eqv (pairD x) (pairD y) = decide (x = y) := by
  unfold pairD
  rw [PyData.eqv, PyData.eqvAll, PyData.eqvAll, PyData.eqvAll, PyData.eqv, PyData.eqv, eqvAllInts]
  obtain ⟨a, b⟩ := x
  obtain ⟨c, d⟩ := y
  by_cases h : a = c <;> by_cases k : b = d <;> simp [h, k]
theorem ifN {A B C : Prop} [Decidable A] (h : A) (c : C) : if ¬ A then B else C := by rw [if_neg (fun n => n h)]; exact c
theorem ifF {A B : Prop} {c : Bool} (h : c = false) (b : B) : if c = true then A else B := by rw [if_neg (by rw [h]; decide)]; exact b
theorem ifT {A B : Prop} {c : Bool} (h : c = true) (a : A) : if c = true then A else B := by rw [if_pos h]; exact a
theorem ifE {A B : Prop} {c : Bool} (h : c = true) (b : B) : if c = false then A else B := by rw [if_neg (by rw [h]; decide)]; exact b
theorem strip0 (cs : List Int) : strip (cs ++ [0]) = strip cs := strip_snoc0 cs
theorem wide_low {u f : Int} (hu : 1 ≤ u) (hf : 1 ≤ f) (cs : List Int) {k : Nat} (hk : cs.length ≤ k) : lowM (u * f) ((cs.map (f * ·) ++ [0]).take k) = lowM u cs := by
  have e : strip ((cs.map (f * ·) ++ [0]).take k) = strip (cs.map (f * ·)) := by
    by_cases h : k = cs.length
    · rw [h, List.take_append_of_le_length (by simp), List.take_of_length_le (by simp)]
    · rw [List.take_of_length_le (by simp; omega), strip0]
  rw [lowM_of e, Int.mul_comm u f]
  exact lowM_mul hf hu cs
theorem shaped_ints (cs : List Int) : SeqAt.shaped (.list (cs.map PyData.int)) = true := by
  unfold SeqAt.shaped
  rw [PyData.canLay0, canLayInts, PyData.depth, depthInts]
  simp
theorem eqv_ints (cs : List Int) : PyData.eqv (.list (cs.map PyData.int)) (.list []) = decide (cs = []) := by
  show PyData.eqv (.list (cs.map PyData.int)) (.list (([] : List Int).map PyData.int)) = _
  rw [PyData.eqv, eqvAllInts]
theorem all2_lf : ∀ cs : List Int, (∀ c ∈ cs, c.natAbs < 10 ^ 31) → All2 Lf (cs.map V.int) (cs.map PyData.int)
  | [], _ => trivial
  | c :: cs, h => ⟨⟨rfl, h c (by simp)⟩, all2_lf cs fun z hz => h z (by simp [hz])⟩
theorem finePair {x : PM} (h1 : x.1.natAbs < 10 ^ 31) (h2 : ∀ c ∈ x.2, c.natAbs < 10 ^ 31) (h3 : x.2.length ≤ 20) : Fine 2 2000 (pairD x) := by
  have f1 : Fine 1 420 (.tuple (x.2.map PyData.int)) := Fine.tup (n := 0) (b := 20) (k := 20) (R := Lf) (fun _ _ => Lf.fine) (all2_lf x.2 h2) (by rw [List.length_map]; exact h3)
  have f2 : Fine 1 420 (.int x.1) := (Lf.fine (v := .int x.1) (show Lf (.int x.1) (.int x.1) from ⟨rfl, h1⟩)).more (by decide) (by decide)
  exact (Fine.tup (n := 1) (b := 420) (k := 2) (R := fun _ d => Fine 1 420 d) (vs := [.non, .non]) (ds := [.tuple (x.2.map PyData.int), .int x.1]) (fun _ _ h => h) ⟨f1, f2, trivial⟩ (by decide)).more (by decide) (by decide)
theorem reprStr {H : Hp} {x : Str} {Q : VK} (h1 : x.cps.size ≤ 20) (h2 : (x.cps.toList.all fun c => decide (c < 16 ^ 8)) = true) (q : Q (.str (PyData.str x).shown) H) : rReprD K [.str x] H Q :=
  reprFine (n := 0) (b := 20) (.str x) (Lf.fine (v := .str x) (show Lf (.str x) (.str x) from ⟨rfl, h1, h2⟩)) (by decide) (by decide) q
theorem reprPair {H : Hp} {v : V} {x : PM} {Q : VK} (h : PairT K H v x) (h1 : x.1.natAbs < 10 ^ 31) (h2 : ∀ c ∈ x.2, c.natAbs < 10 ^ 31) (h3 : x.2.length ≤ 20) (q : Q (.str (pairD x).shown) H) : rReprD K [v] H Q :=
  reprFine (dp_pair h) (finePair h1 h2 h3) (by decide) (by decide) q
def SFs (CT g0 : Addr) : Addr → Addr → Prop := fun C g => C = CT ∧ g = g0
theorem eq_of {CT g0 : Addr} {H : Hp} {v u : V} {x y : PM} {Q : VK} {E : XK} (hc : ∀ {a dx fs}, H a = some (.ins CT dx fs) → TyX K H (.ref a) (.ref CT)) (h : TermO K CT H x v) (k : TermO K CT H y u) (ox : Ok x) (oy : Ok y) (q : ∀ H', Ex H H' → Q (.bl (decide (x = y))) H') : rEqO K (SFs CT g0) (sp_Term_eq K CT) E v u H Q := by
  obtain ⟨a, dx, r, c, rfl, h1, h2, h3⟩ := id h
  obtain ⟨a2, dx2, r2, c2, rfl, k1, k2, k3⟩ := id k
  exact ⟨a, CT, dx, _, g0, _, rfl, h1, ⟨rfl, rfl⟩, hc k1, nf_own, x, h, ox, .inl ⟨y, k, oy, q⟩⟩
theorem nf_of {K : PySem.W.Frag} {C : Addr} {t : Value} (h : PySem.W.kitOne K t (.ref C) = some false) : PySem.W.notFirst K C t = true := by
  unfold PySem.W.kitOne at h
  split at h
  · cases h
  · unfold PySem.W.kitCls at h
    simp only at h
    split at h
    · unfold PySem.W.notFirst
      rw [h]
      simp
    · cases h
theorem sqt_tyx {K : PySem.W.Frag} {H : Hp} {a : Addr} {xs : List V} (h : SqT K H a xs) : TyX K H (.ref a) (.type "tuple") := by
  rcases h with (h | ⟨o, h⟩) | ⟨o, its, n, l, c, _⟩
  · exact .base (.tup h)
  · exact .fTuple h
  · exact .kTuple l c
theorem eq_no {CT g0 : Addr} {H : Hp} {v u : V} {x : PM} {t : String} {Q : VK} {E : XK} (h : TermO K CT H x v) (ox : Ok x) (ty : TyX K H u (.type t)) (kt : PySem.W.kitOne K (.type t) (.ref CT) = some false) (q : Q (.bl false) H) : rEqO K (SFs CT g0) (sp_Term_eq K CT) E v u H Q := by
  obtain ⟨a, dx, r, c, rfl, h1, h2, h3⟩ := id h
  exact ⟨a, CT, dx, _, g0, _, rfl, h1, ⟨rfl, rfl⟩, ty, nf_of kt, x, h, ox, .inr ⟨_, ty, kt, q⟩⟩
theorem ne_same {H : Hp} {x : Str} {Q : VK} (h : SeqAt.shaped (.str x) = true) (q : Q (.bl false) H) : rNeD K (.str x) (.str x) H Q :=
  ⟨_, _, .str _, .str _, h, h, by rw [show PyData.eqv (.str x) (.str x) = true from by rw [PyData.eqv]; simp]; exact q⟩
/-- what is no integer, among the law's values -/
def Odd (K : PySem.W.Frag) (CT d L : Addr) (H : Hp) (v : V) : Prop := v = .non ∨ v = .bl true ∨ (∃ x, v = .str x) ∨ (∃ p, v = .ref p ∧ ((∃ vs, H p = some (.tup vs)) ∨ ∃ vs, H p = some (.lst vs)) ∧ p ≠ d ∧ p ≠ L) ∨ ∃ x, TermO K CT H x v
theorem Odd.mv {CT d L : Addr} {H H' : Hp} {v : V} (D : Deal d L H) (M : Mv d L H H') (h : Odd K CT d L H v) : Odd K CT d L H' v := by
  rcases h with h | h | h | ⟨p, rfl, h, h1, h2⟩ | ⟨x, h⟩
  · exact .inl h
  · exact .inr (.inl h)
  · exact .inr (.inr (.inl h))
  · refine .inr (.inr (.inr (.inl ⟨p, rfl, ?_, h1, h2⟩)))
    rcases h with ⟨vs, h⟩ | ⟨vs, h⟩
    · exact .inl ⟨vs, M.kp _ _ h1 h2 h⟩
    · exact .inr ⟨vs, M.kp _ _ h1 h2 h⟩
  · exact .inr (.inr (.inr (.inr ⟨x, h.mv D M⟩)))
theorem Odd.fl {CT d L : Addr} {H : Hp} {v : V} (oc : OC K CT) (kl : PySem.W.kitOne K (.ref CT) (.type "int") = some false) (h : Odd K CT d L H v) : Fl K H v false := by
  rcases h with rfl | rfl | ⟨x, rfl⟩ | ⟨p, rfl, ⟨vs, h⟩ | ⟨vs, h⟩, _, _⟩ | ⟨x, a, dx, r, c, rfl, h1, _⟩
  · exact fl_non H
  · exact fl_bl H true
  · exact fl_str H x
  · exact fl_tup h
  · exact fl_lst h
  · exact ⟨_, false, fun H' e => oc.ty (e _ _ h1), kl, fun _ => rfl, fun h => by cases h⟩
theorem FlS.app {H : Hp} {vs us : List V} {bs cs : List Bool} (h : FlS K H vs bs) (k : FlS K H us cs) : FlS K H (vs ++ us) (bs ++ cs) := ⟨by rw [List.length_append, List.length_append, h.1, k.1], fun i v hv => by
  have hl := h.1
  by_cases hi : i < vs.length
  · rw [List.getElem?_append_left hi] at hv
    rw [List.getElem?_append_left (by omega)]
    exact h.2 i v hv
  · rw [List.getElem?_append_right (by omega)] at hv
    rw [List.getElem?_append_right (by omega), ← hl]
    exact k.2 _ v hv⟩
theorem FlS.one {H : Hp} {v : V} {b : Bool} (h : Fl K H v b) : FlS K H [v] [b] := ⟨rfl, fun i u hu => by
  cases i with
  | zero => cases hu; exact ⟨b, rfl, h⟩
  | succ n => cases hu⟩
/-- made anew of a wider row, if that is asked: the same term -/
theorem made_if {CT CE g0 q7 a1 : Addr} {near : Bool} {B F : Hp → Prop} {H : Hp} {u : Int} {c : Prop} {E1 E2 : XK} {wide : List Int} {x : PM} (hc : ∀ {H : Hp} {a dx fs}, H a = some (.ins CT dx fs) → TyX K H (.ref a) (.ref CT)) (hm : c) (wr : SqL K H q7 (wide.map V.int)) (hl : wide.length ≤ 5 ∨ wide.length = 11)
    (u1 : 1 ≤ u) (u2 : u < 2 ^ 250) (hlow : lowM u wide = x) (hv : TermO K CT H x (.ref a1)) (ox : Ok x) (f : ∀ Hz, Ex H Hz → F Hz) :
    if near = true then c ∧ sp_law_made K CT CE [.ref q7, .int u] H (fun x4 H1 => rEqO K (SFs CT g0) (sp_Term_eq K CT) E1 x4 (.ref a1) H1 fun x5 H' => ∃ k, x5 = .bl k ∧ if k = false then B H' else F H') E2 else F H := by
  by_cases hn : near = true
  · rw [if_pos hn]
    refine ⟨hm, wide.map V.int, _, wr, flS_ints _ wide, by rw [List.length_map]; exact hl, .inr ⟨wide, rfl, by simp, .inr ⟨u, rfl, u1, u2, fun v5 H21 e21 hv5 => ?_⟩⟩⟩
    rw [hlow] at hv5
    exact eq_of hc hv5 (hv.ex e21) ox ox fun Hz e22 => ⟨_, rfl, ifE (decide_eq_true rfl) (f _ (e21.trans e22))⟩
  · rw [if_neg hn]
    exact f _ (Ex.refl _)
def sp_law (K : PySem.W.Frag) : Sp := fun vs H Q _ => ∃ (a : Addr) (ns : List Int), vs = [.ref a] ∧ SqL K H a (ns.map V.int) ∧ ns.length ≤ 63 ∧ ∀ H', Q (.bl true) H'
theorem ok_law (T : Txt K mg a_is_integer a_reduced a_value a_law_deal a_law_draw a_law_gcd a_law_lowest a_law_value a_law_made a_law_row a_law_at a_law_refused a_law a_InvalidTerm_init a_Term_init a_Term_degree a_Term_call a_Term_eq a_InvalidTerm a_NotWhole a_FigureError a_Term d_is_integer d_reduced d_value d_law_deal d_law_draw d_law_gcd d_law_lowest d_law_value d_law_made d_law_row d_law_at d_law_refused d_law d_InvalidTerm_init d_Term_init d_Term_degree d_Term_call d_Term_eq) : FnG P w K mg base CX0 40 a_law d_law ["_law_script"] (sp_law K) := by
  have G_law_deal := ok_law_deal (P := P) (w := w) (base := base) T
  have G_law_draw := ok_law_draw (P := P) (w := w) (base := base) T
  have G_law_row := ok_law_row (P := P) (w := w) (base := base) T
  have G_law_lowest := ok_law_lowest (P := P) (w := w) (base := base) T
  have G_law_value := ok_law_value (P := P) (w := w) (base := base) T
  have G_law_made := ok_law_made (P := P) (w := w) (base := base) T
  have G_law_at := ok_law_at (P := P) (w := w) (base := base) T
  have G_law_refused := ok_law_refused (P := P) (w := w) (base := base) T
  have G_Term_degree := ok_Term_degree (P := P) (w := w) (base := base) T
  have G_Term_initK := ok_Term_initK (P := P) (w := w) (mg := mg) (base := base) T
  have G_Term_initD := ok_Term_initD (P := P) (w := w) (mg := mg) (base := base) T
  have HE : ∀ C g, SFs a_Term a_Term_eq C g → MethC K "__eq__" C g := fun C g h => by obtain ⟨rfl, rfl⟩ := h; exact T.mt_Term_eq
  have GE : ∀ C g, SFs a_Term a_Term_eq C g → FnR P w K mg base CX0 9 g (onC C (sp_Term_eq K a_Term)) := fun C g h => by obtain ⟨rfl, rfl⟩ := h; exact (ok_Term_eq (P := P) (w := w) (mg := mg) (base := base) T).imp fun vs H Q E h => h.2
  refine okG T.F_law sc_law (fun vs H Q E h => ?_) (fun cdv A outer s H vs Q E hgd hr h => ?_)
  · obtain ⟨a, ns, rfl, _⟩ := h
    rfl
  obtain ⟨a, ns, rfl, hS, hlen, q⟩ := h
  refine ⟨_, (pss_cons (ps_set (i := 1) sc_law.nd rfl (by first | exact .inl rfl | exact .inr rfl) (pe_call G_law_deal (hr.mono (by omega)) (by rfl) T.g_law_deal T.F_law_deal.kp T.b_law_deal .nil pass0 (pa_cons (pv 0) (pa_cons pe_int pa_nil))))
      (Evl.pss_cut (ps_for PassesOwn.never rfl (pi_range1 (by rfl) T.z_range (pa_cons pe_int pa_nil)) (pg_name (i := 2) sc_law.nd rfl (by first | exact .inl rfl | exact .inr rfl))
      (pss_cons (ps_set (i := 3) sc_law.nd rfl (by first | exact .inl rfl | exact .inr rfl) (pe_call G_law_row (hr.mono (by omega)) (by rfl) T.g_law_row T.F_law_row.kp T.b_law_row .nil pass0 (pa_cons (pv 1) (pa_cons (pe_ix ix_listM (pe_lst (pa_cons pe_int (pa_cons pe_int (pa_cons pe_int (pa_cons pe_int (pa_cons pe_int (pa_cons pe_int pa_nil))))))) (pe_call G_law_draw (hr.mono (by omega)) (by rfl) T.g_law_draw T.F_law_draw.kp T.b_law_draw .nil pass0 (pa_cons (pv 1) (pa_cons pe_int pa_nil))) (fun _ _ => rfl)) (pa_cons (pe_op op_pow pe_int pe_int) pa_nil)))))
      (pss_cons (ps_asg (pe_tup (pa_cons (pe_op op_add pe_int (pe_call G_law_draw (hr.mono (by omega)) (by rfl) T.g_law_draw T.F_law_draw.kp T.b_law_draw .nil pass0 (pa_cons (pv 1) (pa_cons (pe_ix ix_listM (pe_lst (pa_cons pe_int (pa_cons pe_int (pa_cons (pe_op op_pow pe_int pe_int) pa_nil)))) (pe_call G_law_draw (hr.mono (by omega)) (by rfl) T.g_law_draw T.F_law_draw.kp T.b_law_draw .nil pass0 (pa_cons (pv 1) (pa_cons pe_int pa_nil))) (fun _ _ => rfl)) pa_nil)))) (pa_cons (pe_op op_add pe_int (pe_call G_law_draw (hr.mono (by omega)) (by rfl) T.g_law_draw T.F_law_draw.kp T.b_law_draw .nil pass0 (pa_cons (pv 1) (pa_cons pe_int pa_nil)))) pa_nil))) (pg_tup rfl (pgs_cons (pg_name (i := 4) sc_law.nd rfl (by first | exact .inl rfl | exact .inr rfl)) (pgs_cons (pg_name (i := 5) sc_law.nd rfl (by first | exact .inl rfl | exact .inr rfl)) pgs_nil))))
      (pss_cons (ps_par (i := 6) (j := 7) (by rfl) sc_law.nd rfl rfl (by decide) rfl rfl (pa_cons (pe_callS G_law_made (hr.mono (by omega)) (by rfl) T.g_law_made T.F_law_made.kp T.b_law_made (fun σ => passAt takes0 σ) (pa_cons (pv 3) (pa_cons (pv 4) pa_nil))) (pa_cons (pe_call G_law_lowest (hr.mono (by omega)) (by rfl) T.g_law_lowest T.F_law_lowest.kp T.b_law_lowest .nil pass0 (pa_cons (pv 3) (pa_cons (pv 4) pa_nil))) pa_nil)) (by rfl))
      (pss_cons (ps_if (pt_cmpR op_ne (pe_callB (call_reprD hgd (huD hr)) (by rfl) T.z_repr (by decide +kernel) (pa_cons (pe_tup (pa_cons (pe_fld (pv 6) (by rfl)) (pa_cons (pe_fld (pv 6) (by rfl)) pa_nil))) pa_nil)) (pe_callB (call_reprD hgd (huD hr)) (by rfl) T.z_repr (by decide +kernel) (pa_cons (pv 7) pa_nil)) (nomark _))
      (pss_one (ps_ret pe_bl))
      pss_nil)
      (pss_cons (ps_if (pt_cmpR op_ne (pe_callB (call_reprD hgd (huD hr)) (by rfl) T.z_repr (by decide +kernel) (pa_cons (pe_prop (pv 6) T.oc_Term.cl T.pp_Term_degree.choose_spec G_Term_degree (hr.mono (by omega)) T.b_Term_degree .nil pass0 (by rfl)) pa_nil)) (pe_callTy call_str_int (by rfl) T.z_str (by decide +kernel) (pa_cons (pe_op op_sub (pe_callB call_len_seq (by rfl) T.z_len (by decide +kernel) (pa_cons (pe_ix ix_tup (pv 7) pe_int (fun _ _ => rfl)) pa_nil)) pe_int) pa_nil)) (nomark _))
      (pss_one (ps_ret pe_bl))
      pss_nil)
      (pss_cons (ps_par (i := 8) (j := 9) (by rfl) sc_law.nd rfl rfl (by decide) rfl rfl (pa_cons (pe_lc (own := [("_law_one", 25)]) (g := gName 25) (by rfl) sc_law.nd (pi_list (pv 3)) (blkOk_by (own := [("_law_one", 25)]) (N := N_law) (sc := defScope s_law) (by decide +kernel)) (fun _ _ _ _ _ => (pg_name (i := 25) sc_law.nd rfl (by first | exact .inl rfl | exact .inr rfl))) (fun _ _ _ _ _ => pts_nil) (fun _ _ _ _ _ => (pe_op op_mulX (pv 5) (pv 25)))) (pa_cons (pe_lc (own := [("_law_one", 25)]) (g := gName 25) (by rfl) sc_law.nd (pi_list (pv 3)) (blkOk_by (own := [("_law_one", 25)]) (N := N_law) (sc := defScope s_law) (by decide +kernel)) (fun _ _ _ _ _ => (pg_name (i := 25) sc_law.nd rfl (by first | exact .inl rfl | exact .inr rfl))) (fun _ _ _ _ _ => pts_nil) (fun _ _ _ _ _ => (pe_op op_fdivW (pv 25) (pv 5)))) pa_nil)) (by rfl))
      (pss_cons (ps_set (i := 10) sc_law.nd rfl (by first | exact .inl rfl | exact .inr rfl) (pe_cmpR (op_eqD hr.units) (pe_lc (own := [("_law_one", 25)]) (g := gName 25) (by rfl) sc_law.nd (pi_list (pe_op op_cat (pv 8) (pe_lst (pa_cons (pe_op op_mulX (pv 4) (pv 5)) pa_nil)))) (blkOk_by (own := [("_law_one", 25)]) (N := N_law) (sc := defScope s_law) (by decide +kernel)) (fun _ _ _ _ _ => (pg_name (i := 25) sc_law.nd rfl (by first | exact .inl rfl | exact .inr rfl))) (fun _ _ _ _ _ => (pts_one (pt_cmpR op_gt (pe_callB call_abs (by rfl) T.z_abs (by decide +kernel) (pa_cons (pv 25) pa_nil)) (pe_op op_pow pe_int pe_int) (nomark _)))) (fun _ _ _ _ _ => (pv 25))) (pe_lst pa_nil) (nomark _)))
      (pss_cons (ps_set (i := 8) sc_law.nd rfl (by first | exact .inl rfl | exact .inr rfl) (pe_slice sl_listM (pe_op op_cat (pv 8) (pe_lst (pa_cons pe_int pa_nil))) po_none (po_some (pe_callB (call_maxM rfl) (by rfl) T.z_max (by decide +kernel) (pa_cons pe_int (pa_cons (pe_callB call_len_seq (by rfl) T.z_len (by decide +kernel) (pa_cons (pv 3) pa_nil)) pa_nil))))))
      (pss_cons (ps_if (PW.pt (pw_and (pt_val (pv 10)) (pw_and1 (pt_not (pt_cmpR (op_eqO HE GE (hr.mono (by omega)) pass0) (pe_callS G_law_made (hr.mono (by omega)) (by rfl) T.g_law_made T.F_law_made.kp T.b_law_made (fun σ => passAt takes0 σ) (pa_cons (pv 8) (pa_cons (pe_op op_mulX (pv 4) (pv 5)) pa_nil))) (pv 6) (nomark _))))))
      (pss_one (ps_ret pe_bl))
      pss_nil)
      (pss_cons (ps_par (i := 11) (j := 12) (by rfl) sc_law.nd rfl rfl (by decide) rfl rfl (pa_cons (pe_callS G_law_made (hr.mono (by omega)) (by rfl) T.g_law_made T.F_law_made.kp T.b_law_made (fun σ => passAt takes0 σ) (pa_cons (pv 9) (pa_cons (pv 4) pa_nil))) (pa_cons (pe_cmpR (op_eqD hr.units) (pe_call G_law_lowest (hr.mono (by omega)) (by rfl) T.g_law_lowest T.F_law_lowest.kp T.b_law_lowest .nil pass0 (pa_cons (pv 9) (pa_cons (pv 4) pa_nil))) (pv 7) (nomark _)) pa_nil)) (by rfl))
      (pss_cons (ps_if (PW.pt (pw_or (pt_cmpR op_ne (pe_cmpR (op_eqO HE GE (hr.mono (by omega)) pass0) (pv 11) (pv 6) (nomark _)) (pv 12) (nomark _)) (pw_or (pt_cmpR (op_eqO HE GE (hr.mono (by omega)) pass0) (pv 6) (pv 7) (nomark _)) (pw_or1 (pt_cmpR (op_eqO HE GE (hr.mono (by omega)) pass0) (pv 6) pe_int (nomark _))))))
      (pss_one (ps_ret pe_bl))
      pss_nil)
      (Evl.pss_cut (ps_for PassesOwn.never rfl (pi_range1 (by rfl) T.z_range (pa_cons pe_int pa_nil)) (pg_name (i := 13) sc_law.nd rfl (by first | exact .inl rfl | exact .inr rfl))
      (pss_cons (ps_par (i := 14) (j := 15) (by rfl) sc_law.nd rfl rfl (by decide) rfl rfl (pa_cons (pe_ix ix_listM (pe_lst (pa_cons pe_int (pa_cons pe_int (pa_cons (pe_op op_pow pe_int pe_int) pa_nil)))) (pe_call G_law_draw (hr.mono (by omega)) (by rfl) T.g_law_draw T.F_law_draw.kp T.b_law_draw .nil pass0 (pa_cons (pv 1) (pa_cons pe_int pa_nil))) (fun _ _ => rfl)) (pa_cons (pe_ix ix_listM (pe_lst (pa_cons pe_int (pa_cons (pe_op op_sub pe_int pe_int) pa_nil))) (pe_call G_law_draw (hr.mono (by omega)) (by rfl) T.g_law_draw T.F_law_draw.kp T.b_law_draw .nil pass0 (pa_cons (pv 1) (pa_cons pe_int pa_nil))) (fun _ _ => rfl)) pa_nil)) (by rfl))
      (pss_cons (ps_set (i := 16) sc_law.nd rfl (by first | exact .inl rfl | exact .inr rfl) (pe_op op_mulX (pe_call G_law_draw (hr.mono (by omega)) (by rfl) T.g_law_draw T.F_law_draw.kp T.b_law_draw .nil pass0 (pa_cons (pv 1) (pa_cons (pv 14) pa_nil))) (pv 15)))
      (pss_cons (ps_set (i := 17) sc_law.nd rfl (by first | exact .inl rfl | exact .inr rfl) (pe_call G_law_value (hr.mono (by omega)) (by rfl) T.g_law_value T.F_law_value.kp T.b_law_value .nil pass0 (pa_cons (pv 3) (pa_cons (pv 16) pa_nil))))
      (pss_cons (ps_set (i := 18) sc_law.nd rfl (by first | exact .inl rfl | exact .inr rfl) (pe_ix ix_listM (pe_lst (pa_cons (pe_op op_fdivW (pv 17) (pv 4)) (pa_cons pe_str pa_nil))) (pe_callTy call_intM (by rfl) T.z_int (by decide +kernel) (pa_cons (pe_cmpR op_ne (pe_op op_mod (pe_callTy call_intM (by rfl) T.z_int (by decide +kernel) (pa_cons (pv 17) pa_nil)) (pv 4)) pe_int (nomark _)) pa_nil)) (fun _ _ => rfl)))
      (pss_one (ps_if (pt_cmpR op_ne (pe_callB (call_reprD hgd (huD hr)) (by rfl) T.z_repr (by decide +kernel) (pa_cons (pe_call G_law_at (hr.mono (by omega)) (by rfl) T.g_law_at T.F_law_at.kp T.b_law_at .nil pass0 (pa_cons (pv 6) (pa_cons (pv 16) pa_nil))) pa_nil)) (pe_callB (call_reprD hgd (huD hr)) (by rfl) T.z_repr (by decide +kernel) (pa_cons (pv 18) pa_nil)) (nomark _))
      (pss_one (ps_ret pe_bl))
      pss_nil)))))))
      (pss_cons (ps_set (i := 19) sc_law.nd rfl (by first | exact .inl rfl | exact .inr rfl) (pe_ix ix_listM (pe_lst (pa_cons pe_non (pa_cons pe_bl (pa_cons pe_str (pa_cons (pe_tup (pa_cons pe_int pa_nil)) (pa_cons (pe_lst (pa_cons pe_int pa_nil)) (pa_cons (pv 6) (pa_cons (pe_tup pa_nil) pa_nil)))))))) (pe_call G_law_draw (hr.mono (by omega)) (by rfl) T.g_law_draw T.F_law_draw.kp T.b_law_draw .nil pass0 (pa_cons (pv 1) (pa_cons pe_int pa_nil))) (fun _ _ => rfl)))
      (pss_cons (ps_par (i := 20) (j := 21) (by rfl) sc_law.nd rfl rfl (by decide) rfl rfl (pa_cons (pe_call G_law_draw (hr.mono (by omega)) (by rfl) T.g_law_draw T.F_law_draw.kp T.b_law_draw .nil pass0 (pa_cons (pv 1) (pa_cons (pe_op op_add (pe_callB call_len_seq (by rfl) T.z_len (by decide +kernel) (pa_cons (pe_slice sl_listM (pv 3) po_none (po_some pe_int)) pa_nil)) pe_int) pa_nil))) (pa_cons (pe_slice sl_listM (pv 3) po_none (po_some pe_int)) pa_nil)) (by rfl))
      (pss_cons (ps_par (i := 22) (j := 23) (by rfl) sc_law.nd rfl rfl (by decide) rfl rfl (pa_cons (pe_op op_cat (pe_op op_cat (pe_slice sl_listM (pv 21) po_none (po_some (pv 20))) (pe_lst (pa_cons (pv 19) pa_nil))) (pe_slice sl_listM (pv 21) (po_some (pv 20)) po_none)) (pa_cons (pe_ix ix_listM (pe_lst (pa_cons (pv 4) (pa_cons pe_int (pa_cons pe_non pa_nil)))) (pe_call G_law_draw (hr.mono (by omega)) (by rfl) T.g_law_draw T.F_law_draw.kp T.b_law_draw .nil pass0 (pa_cons (pv 1) (pa_cons pe_int pa_nil))) (fun _ _ => rfl)) pa_nil)) (by rfl))
      (pss_cons (ps_if (pt_cmpR (op_neD hr.units) (pe_call G_law_refused (hr.mono (by omega)) (by rfl) T.g_law_refused T.F_law_refused.kp T.b_law_refused .nil pass0 (pa_cons (pv 22) (pa_cons (pv 23) pa_nil))) pe_str (nomark _))
      (pss_one (ps_ret pe_bl))
      pss_nil)
      (pss_cons (ps_set (i := 24) sc_law.nd rfl (by first | exact .inl rfl | exact .inr rfl) (pe_ix ix_listM (pe_lst (pa_cons pe_int (pa_cons (pe_op op_sub pe_int (pv 4)) (pa_cons pe_non (pa_cons pe_bl (pa_cons pe_str (pa_cons (pe_lst (pa_cons pe_int pa_nil)) pa_nil))))))) (pe_call G_law_draw (hr.mono (by omega)) (by rfl) T.g_law_draw T.F_law_draw.kp T.b_law_draw .nil pass0 (pa_cons (pv 1) (pa_cons pe_int pa_nil))) (fun _ _ => rfl)))
      (pss_one (ps_if (PW.pt (pw_or (pt_cmpR (op_neD hr.units) (pe_call G_law_refused (hr.mono (by omega)) (by rfl) T.g_law_refused T.F_law_refused.kp T.b_law_refused .nil pass0 (pa_cons (pv 3) (pa_cons (pv 24) pa_nil))) pe_str (nomark _)) (pw_or1 (pt_cmpR op_notN (pe_call G_law_refused (hr.mono (by omega)) (by rfl) T.g_law_refused T.F_law_refused.kp T.b_law_refused .nil pass0 (pa_cons (pv 3) (pa_cons (pv 4) pa_nil))) pe_non (nomark _)))))
      (pss_one (ps_ret pe_bl))
      pss_nil))))))))))))))))))))
      (pss_one (ps_ret (pe_and (pe_cmpR (op_eqD hr.units) (pe_prop (pe_makeVN T.M_Term G_Term_initD (hr.mono (by omega)) (by rfl) T.g_Term (fun σ => passAt takes0 σ)) T.oc_Term.cl T.pp_Term_degree.choose_spec G_Term_degree (hr.mono (by omega)) T.b_Term_degree .nil pass0 (by rfl)) (pe_op op_sub pe_int pe_int) (nomark _)) (pe_and (pe_cmpR op_eq (pe_fld (pe_makeVN T.M_Term G_Term_initD (hr.mono (by omega)) (by rfl) T.g_Term (fun σ => passAt takes0 σ)) (by rfl)) pe_int (nomark _)) (pe_one (pe_cmpR (op_eqO HE GE (hr.mono (by omega)) pass0) (pe_makeV T.M_Term G_Term_initK (hr.mono (by omega)) (by rfl) T.g_Term (fun σ => passAt takes0 σ) (pa_cons pe_int (pa_cons pe_int pa_nil)) (pk_cons pe_int pk_nil)) (pe_makeVN T.M_Term G_Term_initD (hr.mono (by omega)) (by rfl) T.g_Term (fun σ => passAt takes0 σ)) (nomark _))))))))), ?_⟩
  walk_at "st"
  walk_at "vc"
  refine ⟨ns, hS, hlen, by decide, by decide, fun d L H1 e1 D1 => ?_⟩
  refine ⟨fun σ H' => ∃ s2 s3 s4 s5 s6 s7 s8 s9 s10 s11 s12 s13 s14 s15 s16 s17 s18 s19 s20 s21 s22 s23 s24 s25, σ = [some (.ref a), some (.ref d), s2, s3, s4, s5, s6, s7, s8, s9, s10, s11, s12, s13, s14, s15, s16, s17, s18, s19, s20, s21, s22, s23, s24, s25] ∧ Deal d L H', ?_, fun σ H' hm => ?_⟩
  · refine ⟨_, rfl, by omega, by omega, for_range (lo := 0) (n := 5) (fun i σ H' => ∃ s2 s3 s4 s5 s6 s7 s8 s9 s10 s11 s12 s13 s14 s15 s16 s17 s18 s19 s20 s21 s22 s23 s24 s25, σ = [some (.ref a), some (.ref d), s2, s3, s4, s5, s6, s7, s8, s9, s10, s11, s12, s13, s14, s15, s16, s17, s18, s19, s20, s21, s22, s23, s24, s25] ∧ Deal d L H') ⟨_, _, _, _, _, _, _, _, _, _, _, _, _, _, _, _, _, _, _, _, _, _, _, _, rfl, D1⟩ (fun i σ H2 hi hw => ?_) (fun σ H' hw => hw)⟩
    obtain ⟨s2, s3, s4, s5, s6, s7, s8, s9, s10, s11, s12, s13, s14, s15, s16, s17, s18, s19, s20, s21, s22, s23, s24, s25, rfl, D2⟩ := hw
    clear D1 e1 H1
    walk_at "vc"
    refine ⟨sz_le (by simp), fun q1 hq1 => ?_⟩
    have o1 := D2.off hq1
    have D3 := D2.ex (Ex.new hq1 (o := .lst [V.int 0, V.int 1, V.int 2, V.int 3, V.int 4, V.int 11]))
    refine ⟨L, D3, by decide, by decide, fun g H3 g0 g1 M3 => ?_⟩
    have w3 : H3 q1 = some (.lst [V.int 0, V.int 1, V.int 2, V.int 3, V.int 4, V.int 11]) := M3.kp _ _ o1.1 o1.2 upd_same
    obtain ⟨n, hat, n0, n1⟩ : ∃ n : Int, atI [V.int 0, V.int 1, V.int 2, V.int 3, V.int 4, V.int 11] g = some (.int n) ∧ 0 ≤ n ∧ (n ≤ 4 ∨ n = 11) := by
      have hg : g = 0 ∨ g = 1 ∨ g = 2 ∨ g = 3 ∨ g = 4 ∨ g = 5 := by omega
      rcases hg with rfl | rfl | rfl | rfl | rfl | rfl
      · exact ⟨0, rfl, by omega, by omega⟩
      · exact ⟨1, rfl, by omega, by omega⟩
      · exact ⟨2, rfl, by omega, by omega⟩
      · exact ⟨3, rfl, by omega, by omega⟩
      · exact ⟨4, rfl, by omega, by omega⟩
      · exact ⟨11, rfl, by omega, by omega⟩
    refine ⟨_, _, sq_of w3, hat, powOk (by decide) (by decide) (by decide) (by decide), L, M3.dl, n0, by omega, by decide, by decide, fun r cs H4 M4 hr4 w4 rd rL lc bc => ?_⟩
    walk_at "vc"
    refine ⟨powOk (by decide) (by decide) (by decide) (by decide), sz_le (by simp), fun q2 hq2 => ?_⟩
    have M5 := (Mv.refl M4.dl).new hq2 (o := .lst [V.int 1, V.int 12, V.int (10 ^ Int.toNat 9)])
    have o2 := M4.dl.off hq2
    refine ⟨L, M5.dl, by decide, by decide, fun g2 H5 g20 g21 M6 => ?_⟩
    have w5 : H5 q2 = some (.lst [V.int 1, V.int 12, V.int (10 ^ Int.toNat 9)]) := M6.kp _ _ o2.1 o2.2 upd_same
    obtain ⟨m, hat2, m0, m1⟩ : ∃ m : Int, atI [V.int 1, V.int 12, V.int (10 ^ Int.toNat 9)] g2 = some (.int m) ∧ 1 ≤ m ∧ m ≤ 1000000000 := by
      have hg : g2 = 0 ∨ g2 = 1 ∨ g2 = 2 := by omega
      rcases hg with rfl | rfl | rfl
      · exact ⟨1, rfl, by omega, by omega⟩
      · exact ⟨12, rfl, by omega, by omega⟩
      · exact ⟨_, rfl, by decide, by decide⟩
    have M7 := M5.trans M6
    refine ⟨_, _, sq_of w5, hat2, L, M7.dl, by omega, by omega, fun un0 H6 u0 u1 M8 => ⟨un0, rfl, ?_⟩⟩
    have M9 := M7.trans M8
    refine ⟨L, M9.dl, by decide, by decide, fun ff0 H7 f0 f1 M10 => ⟨ff0, rfl, sz_le (by simp), fun t ht => ?_⟩⟩
    have M11 := M9.trans M10
    have w7 := M11.kp _ _ rd rL w4
    obtain ⟨un, hun, un1, un2⟩ : ∃ un : Int, 1 + un0 = un ∧ 1 ≤ un ∧ un ≤ 1000000000 := ⟨_, rfl, by omega, by omega⟩
    obtain ⟨ff, hff, ff1, ff2⟩ : ∃ ff : Int, 1 + ff0 = ff ∧ 1 ≤ ff ∧ ff ≤ 6 := ⟨_, rfl, by omega, by omega⟩
    rw [hun, hff]
    have et := Ex.new ht (o := .tup [V.int un, V.int ff])
    refine ⟨t, _, rfl, st_of upd_same, rfl, ?_⟩
    simp only [gCons, gNil]
    walk_at "vc"
    have D8 := M11.dl.ex et
    have w8 := et _ _ w7
    generalize upd H7 t (.tup [V.int un, V.int ff]) = H8 at *
    clear M11 M10 M9 M8 M7 M6 M5 M4 M3 w7 w5 w4 w3 et ht o1 o2 hq1 hq2 hr4 D3 D2 hun hff u0 u1 f0 f1 g20 g21 g0 g1
    have bc9 : Bd (10 ^ 9) cs := bc.mono (by decide)
    have lc2 : cs.length ≤ 4 ∨ cs.length = 11 := by omega
    unfold tCallS
    walk_at "vc"
    refine ⟨cs.map V.int, _, sq_of w8, flS_ints _ cs, by rw [List.length_map]; omega, .inr ⟨cs, rfl, by simp, .inr ⟨un, rfl, un1, by omega, fun v H9 e9 hv => ?_⟩⟩⟩
    refine ⟨cs, .inl (sq_of (e9 _ _ w8)), un1, by omega, by omega, fun v2 H10 e10 hp => ?_⟩
    have hv10 := hv.ex e10
    have w10 := e10 _ _ (e9 _ _ w8)
    have D10 := D8.ex (e9.trans e10)
    clear hv D8 w8 e9 e10
    have ux : Sm 11 (10 ^ 9) (lowM un cs) := lowM_sm un1 (by omega) bc9 (by omega)
    have lx : Low (lowM un cs) := lowM_low un1 _
    have ox : Ok (lowM un cs) := ux.mono (by decide) (by decide +kernel)
    have xo31 : (lowM un cs).1.natAbs < 10 ^ 31 := by have h1 := ux.o1; have h2 := ux.ob; have h3 : ((10 ^ 9 : Nat) : Int) = 1000000000 := by decide +kernel
                                                      rw [h3] at h2; omega
    have xc31 : ∀ c ∈ (lowM un cs).2, c.natAbs < 10 ^ 31 := fun c hc => Nat.lt_of_le_of_lt (ux.cb c hc) (by decide +kernel)
    have xl20 : (lowM un cs).2.length ≤ 20 := Nat.le_trans ux.len (by decide)
    obtain ⟨a1, dx1, r1, c1, rfl, h1, h2, h3⟩ := id hv10
    refine ⟨_, rfl, a1, a_Term, dx1, _, .ref c1, rfl, h1, T.oc_Term.cl, T.nF_Term_coefficients, rfl, ?_⟩
    refine ⟨_, rfl, a1, a_Term, dx1, _, .int (lowM un cs).1, rfl, h1, T.oc_Term.cl, T.nF_Term_over, rfl, sz_le (by simp), fun t2 ht2 => ?_⟩
    have e11 := Ex.new ht2 (o := .tup [.ref c1, .int (lowM un cs).1])
    refine reprPair (x := lowM un cs) ⟨t2, c1, rfl, st_of upd_same, e11.sqt h3⟩ xo31 xc31 xl20 ?_
    refine reprPair (hp.ex e11) xo31 xc31 xl20 ⟨rfl, ifN rfl ?_⟩
    have w11 := e11 _ _ w10
    have D11 := D10.ex e11
    have hv11 := hv10.ex e11
    have hp11 := hp.ex e11
    have h1' := e11 _ _ h1
    generalize upd H10 t2 (.tup [.ref c1, .int (lowM un cs).1]) = H11 at *
    clear e11 ht2 hp hv10 w10 D10 h1 h2 h3
    refine ⟨_, rfl, a1, dx1, _, rfl, h1', lowM un cs, hv11, by omega, ?_⟩
    have lg : (((lowM un cs).2.length : Int) - 1).natAbs.log2 < 1920 := log31 (by omega)
    refine reprIntD lg ?_
    obtain ⟨t3, c3, rfl, p1, p2⟩ := id hp11
    refine ⟨t3, _, 0, _, rfl, rfl, p1, atI_nat (j := 0) rfl, c3, rfl, _, .inr p2, by rw [List.length_map]; exact lg, rfl, ifN (by rw [List.length_map, PyData.shown]) ?_⟩
    generalize hx : lowM un cs = x at *
    clear p1 p2 h1' lg
    -- the rows made wider and smaller
    refine ⟨_, rfl, r, rfl, ⟨_, sq_of w11⟩, fun E1 hE1 => ?_⟩
    refine lc_it (walk_list (xs := cs.map V.int)) (fun j H3 => H3 E1 = some (.lst (((cs.take j).map (ff * ·)).map V.int)) ∧ Ex H11 H3) ⟨upd_same, Ex.new hE1⟩ (fun j H3 _ hP => sq_of (hP.2 _ _ w11)) (fun j z H3 H4 hj hP y2 => ?_) (fun H12 hP => ?_)
    · obtain ⟨rfl, hz⟩ := y2
      obtain ⟨g1, g2⟩ := hP
      rw [List.getElem?_map] at hz
      obtain ⟨c, hc, rfl⟩ := Option.map_eq_some_iff.mp hz
      have hcb := bc9 c (List.mem_of_getElem? hc)
      have h9 : (10 ^ 9 : Nat) = 1000000000 := by decide +kernel
      rw [h9] at hcb
      walk_at "vc"
      refine ⟨mulOk (by omega) (by omega) (by omega) (by omega), _, g1, sz_lt (by rw [List.length_map, List.length_map, List.length_take]; omega), ?_, g2.mut hE1⟩
      rw [upd_same, List.take_add_one, hc, List.map_append, List.map_append]
      rfl
    obtain ⟨g1, g2⟩ := hP
    rw [List.length_map, List.take_length] at g1
    have w12 := g2 _ _ w11
    refine ⟨_, rfl, r, rfl, ⟨_, sq_of w12⟩, fun E2 hE2 => ?_⟩
    refine lc_it (walk_list (xs := cs.map V.int)) (fun j H3 => H3 E2 = some (.lst (((cs.take j).map (· / ff)).map V.int)) ∧ Ex H12 H3) ⟨upd_same, Ex.new hE2⟩ (fun j H3 _ hP => sq_of (hP.2 _ _ w12)) (fun j z H3 H4 hj hP y2 => ?_) (fun H13 hP => ?_)
    · obtain ⟨rfl, hz⟩ := y2
      obtain ⟨k1, k2⟩ := hP
      rw [List.getElem?_map] at hz
      obtain ⟨c, hc, rfl⟩ := Option.map_eq_some_iff.mp hz
      walk_at "vc"
      refine ⟨divOk (by omega) (by omega), _, k1, sz_lt (by rw [List.length_map, List.length_map, List.length_take]; omega), ?_, k2.mut hE2⟩
      rw [upd_same, List.take_add_one, hc, List.map_append, List.map_append]
      rfl
    obtain ⟨k1, k2⟩ := hP
    rw [List.length_map, List.take_length] at k1
    have e13 := g2.trans k2
    have w13 := e13 _ _ w11
    have D13 := D11.ex e13
    have hv13 := hv11.ex e13
    have hp13 := hp11.ex e13
    have wa13 := k2 _ _ g1
    clear w11 D11 hv11 hp11 g1 g2 k2 e13 w12 hE1 hE2
    have h9 : (10 ^ 9 : Nat) = 1000000000 := by decide +kernel
    refine ⟨_, rfl, _, rfl, _, rfl, _, _, rfl, rfl, mulOk (by omega) (by omega) (by omega) (by omega), sz_le (by simp), fun q3 hq3 => ?_⟩
    have e14 := Ex.new hq3 (o := .lst [V.int (un * ff)])
    refine ⟨E1, q3, _, _, rfl, rfl, e14 _ _ wa13, upd_same, sz_le (by simp; omega), fun q4 hq4 => ?_⟩
    have e15 := Ex.new hq4 (o := .lst (List.map V.int (List.map (fun x => ff * x) cs) ++ [V.int (un * ff)]))
    have wq : upd (upd H13 q3 (.lst [V.int (un * ff)])) q4 (.lst (List.map V.int (List.map (fun x => ff * x) cs) ++ [V.int (un * ff)])) q4 = some (.lst ((List.map (fun x => ff * x) cs ++ [un * ff]).map V.int)) := by
      rw [upd_same, List.map_append]; rfl
    have e1415 := e14.trans e15
    generalize upd (upd H13 q3 (.lst [V.int (un * ff)])) q4 (.lst (List.map V.int (List.map (fun x => ff * x) cs) ++ [V.int (un * ff)])) = H14 at *
    clear e14 e15 hq3 hq4
    have wl : (List.map (fun x => ff * x) cs ++ [un * ff]).length ≤ 12 := by simp; omega
    generalize List.map (fun x => ff * x) cs ++ [un * ff] = wd at *
    refine ⟨q4, rfl, ⟨_, sq_of wq⟩, fun Dl hDl => ?_⟩
    refine lc_it (walk_list (xs := wd.map V.int)) (fun j H3 => H3 Dl = some (.lst (((wd.take j).filter fun z => decide ((10 : Int) ^ Int.toNat 9 < if z < 0 then -z else z)).map V.int)) ∧ Ex H14 H3) ⟨upd_same, Ex.new hDl⟩ (fun j H3 _ hP => sq_of (hP.2 _ _ wq)) (fun j z H3 H4 hj hP y2 => ?_) (fun H15 hP => ?_)
    · obtain ⟨rfl, hzz⟩ := y2
      obtain ⟨g1, g2⟩ := hP
      rw [List.getElem?_map] at hzz
      obtain ⟨c, hc, rfl⟩ := Option.map_eq_some_iff.mp hzz
      have et : wd.take (j + 1) = wd.take j ++ [c] := by rw [List.take_add_one, hc]; rfl
      rw [List.length_map] at hj
      walk_at "vc"
      refine ⟨powOk (by decide) (by decide) (by decide) (by decide), ?_⟩
      rw [et, List.filter_append]
      by_cases c0 : (10 : Int) ^ Int.toNat 9 < if c < 0 then -c else c
      · rw [if_pos c0]
        refine ⟨_, g1, sz_lt ?_, ?_, g2.mut hDl⟩
        · rw [List.length_map]
          have := List.length_filter_le (fun z : Int => decide ((10 : Int) ^ Int.toNat 9 < if z < 0 then -z else z)) (wd.take j)
          rw [List.length_take] at this
          omega
        · rw [upd_same, List.filter_cons_of_pos (by exact decide_eq_true c0), List.map_append]
          rfl
      · rw [if_neg c0]
        refine ⟨?_, g2⟩
        rw [g1, List.filter_cons_of_neg (by rw [decide_eq_false c0]; decide)]
        simp
    obtain ⟨g1, g2⟩ := hP
    rw [List.length_map, List.take_length] at g1
    generalize List.filter (fun z : Int => decide ((10 : Int) ^ Int.toNat 9 < if z < 0 then -z else z)) wd = fl at *
    refine ⟨sz_le (by simp), fun pn hpn => ?_⟩
    have e5 := Ex.new hpn (o := .lst [])
    refine ⟨_, _, .lst (sq_of (e5 _ _ g1)) (dpInts _), .lst (sq_of upd_same) .nil, shaped_ints _, shaped_ints [], ?_⟩
    rw [eqv_ints]
    have e16 := e1415.trans (g2.trans e5)
    have wa16 := e16 _ _ wa13
    have wb16 := e16 _ _ k1
    have w16 := e16 _ _ w13
    have D16 := D13.ex e16
    have hv16 := hv13.ex e16
    have hp16 := hp13.ex e16
    generalize upd H15 pn (.lst []) = H16 at *
    generalize decide (fl = []) = near
    clear e16 e5 hpn g1 g2 hDl wq wl e1415 wa13 k1 w13 D13 hv13 hp13
    refine ⟨sz_le (by simp), fun q5 hq5 => ?_⟩
    have e17 := Ex.new hq5 (o := .lst [V.int 0])
    refine ⟨E1, q5, _, _, rfl, rfl, e17 _ _ wa16, upd_same, sz_le (by simp; omega), fun q6 hq6 => ?_⟩
    have e18 := Ex.new hq6 (o := .lst (List.map V.int (List.map (fun x => ff * x) cs) ++ [V.int 0]))
    have wq : upd (upd H16 q5 (.lst [V.int 0])) q6 (.lst (List.map V.int (List.map (fun x => ff * x) cs) ++ [V.int 0])) q6 = some (.lst ((List.map (fun x => ff * x) cs ++ [0]).map V.int)) := by
      rw [upd_same, List.map_append]; rfl
    have e1718 := e17.trans e18
    generalize upd (upd H16 q5 (.lst [V.int 0])) q6 (.lst (List.map V.int (List.map (fun x => ff * x) cs) ++ [V.int 0])) = H17 at *
    refine ⟨_, .inl (sq_of (e1718 _ _ w16)), ?_⟩
    obtain ⟨kk, hkk, hk1, hk2⟩ : ∃ kk : Nat, (if ((cs.map V.int).length : Int) > 5 then ((cs.map V.int).length : Int) else 5) = (kk : Int) ∧ cs.length ≤ kk ∧ (min kk (cs.length + 1) ≤ 5 ∨ min kk (cs.length + 1) = 11) := by
      rw [List.length_map]
      by_cases h : (cs.length : Int) > 5
      · exact ⟨cs.length, by rw [if_pos h], by omega, by omega⟩
      · exact ⟨5, by rw [if_neg h]; rfl, by omega, by omega⟩
    rw [hkk]
    refine ⟨_, sq_of wq, fun q7 hq7 => ⟨near, rfl, ?_⟩⟩
    rw [cut_hi]
    have e19 := Ex.new hq7 (o := .lst (List.map V.int ((List.map (fun x => ff * x) cs ++ [0]).take kk)))
    have wr : upd H17 q7 (.lst (List.map V.int ((List.map (fun x => ff * x) cs ++ [0]).take kk))) q7 = some (.lst (List.map V.int ((List.map (fun x => ff * x) cs ++ [0]).take kk))) := upd_same
    have e20 := e1718.trans e19
    have wb20 := e20 _ _ wb16
    have w20 := e20 _ _ w16
    have D20 := D16.ex e20
    have hv20 := hv16.ex e20
    have hp20 := hp16.ex e20
    have hlow := wide_low un1 ff1 cs hk1
    rw [hx] at hlow
    have hwl : ((List.map (fun x => ff * x) cs ++ [0]).take kk).length = min kk (cs.length + 1) := by simp
    generalize upd H17 q7 (.lst (List.map V.int ((List.map (fun x => ff * x) cs ++ [0]).take kk))) = H20 at *
    generalize (List.map (fun x => ff * x) cs ++ [0]).take kk = wide at *
    clear e20 e19 hq7 e1718 e18 e17 hq6 hq5 wq wa16 wb16 w16 D16 hv16 hp16
    have uf1 := pos_mul un1 ff1
    have uf2 : un * ff ≤ 1000000000 * 6 := Int.mul_le_mul un2 ff2 (by omega) (by decide)
    have hc : ∀ {H : Hp} {a dx fs}, H a = some (.ins a_Term dx fs) → TyX K H (.ref a) (.ref a_Term) := fun h => T.oc_Term.ty h
    refine made_if hc (mulOk (by omega) (by omega) (by omega) (by omega)) (sq_of wr) (by rw [hwl]; exact hk2) uf1 (by omega) hlow hv20 ox fun Hz ez => ?_
    replace wb20 := ez _ _ wb20
    replace w20 := ez _ _ w20
    replace D20 := D20.ex ez
    replace hv20 := hv20.ex ez
    replace hp20 := hp20.ex ez
    clear wr ez hlow hwl hkk hk1 hk2
    have sl : (cs.map (· / ff)).length = cs.length := List.length_map _
    have sb : Bd (10 ^ 9) (cs.map (· / ff)) := fun z hz => by
      obtain ⟨c, hc, rfl⟩ := List.mem_map.mp hz
      exact Nat.le_trans (div_abs ff1) (bc9 c hc)
    generalize cs.map (· / ff) = small at *
    refine ⟨small.map V.int, _, sq_of wb20, flS_ints _ small, by rw [List.length_map, sl]; omega, .inr ⟨small, rfl, by simp, .inr ⟨un, rfl, un1, by omega, fun v6 H22 e22 hv6 => ?_⟩⟩⟩
    refine ⟨small, .inl (sq_of (e22 _ _ wb20)), un1, by omega, by omega, fun v7 H23 e23 hp7 => ?_⟩
    have e223 := e22.trans e23
    refine ⟨_, _, dp_pair hp7, dp_pair (hp20.ex e223), shaped_pair _, shaped_pair _, ?_⟩
    rw [eqv_pair2]
    have uy : Sm 11 (10 ^ 9) (lowM un small) := lowM_sm un1 (by omega) sb (by omega)
    refine eq_of hc (hv6.ex e23) (hv20.ex e223) (uy.mono (by decide) (by decide +kernel)) ox fun H24 e24 => ⟨rfl, ifN rfl ?_⟩
    have e24' := e223.trans e24
    replace w20 := e24' _ _ w20
    replace D20 := D20.ex e24'
    replace hv20 := hv20.ex e24'
    replace hp20 := hp20.ex e24'
    clear hv6 hp7 wb20 e22 e23 e24 e223 e24' uy sb sl
    obtain ⟨t4, c4, et4, p1, p2⟩ := id hp20
    cases et4
    refine eq_no hv20 ox (sqt_tyx p1) T.ky_Term_tuple ⟨_, rfl, ?_⟩
    rw [if_neg (by decide)]
    refine eq_no hv20 ox (.base (.int _)) T.ky_Term_int ⟨_, rfl, ?_⟩
    rw [if_neg (by decide)]
    clear p1 p2 hp20
    have hsc := low_scale un1 cs
    rw [hx] at hsc
    clear hx
    refine ⟨fun σ H' => ∃ s2 s5 s7 s8 s9 s10 s11 s12 s13 s14 s15 s16 s17 s18 s19 s20 s21 s22 s23 s24 s25, σ = [some (.ref a), some (.ref d), s2, some (.ref r), some (.int un), s5, some (.ref a1), s7, s8, s9, s10, s11, s12, s13, s14, s15, s16, s17, s18, s19, s20, s21, s22, s23, s24, s25] ∧ Deal d L H' ∧ H' r = some (.lst (cs.map V.int)) ∧ TermO K a_Term H' x (.ref a1), ?_, fun σ H' hm => ?_⟩
    · refine ⟨_, rfl, by omega, by omega, for_range (lo := 0) (n := 5) (fun j σ H' => ∃ s2 s5 s7 s8 s9 s10 s11 s12 s13 s14 s15 s16 s17 s18 s19 s20 s21 s22 s23 s24 s25, σ = [some (.ref a), some (.ref d), s2, some (.ref r), some (.int un), s5, some (.ref a1), s7, s8, s9, s10, s11, s12, s13, s14, s15, s16, s17, s18, s19, s20, s21, s22, s23, s24, s25] ∧ Deal d L H' ∧ H' r = some (.lst (cs.map V.int)) ∧ TermO K a_Term H' x (.ref a1)) ⟨_, _, _, _, _, _, _, _, _, _, _, _, _, _, _, _, _, _, _, _, _, rfl, D20, w20, hv20⟩ (fun j σ H2 hj hw => ?_) (fun σ H' hw => hw)⟩
      clear w20 D20 hv20
      obtain ⟨s2, s5, s7, s8, s9, s10, s11, s12, s13, s14, s15, s16, s17, s18, s19, s20, s21, s22, s23, s24, s25, rfl, D2, w2, hv2⟩ := hw
      walk_at "vc"
      refine ⟨powOk (by decide) (by decide) (by decide) (by decide), sz_le (by simp), fun q1 hq1 => ?_⟩
      have M1 := (Mv.refl D2).new hq1 (o := .lst [V.int 7, V.int 100, V.int (10 ^ Int.toNat 30)])
      have o1 := D2.off hq1
      refine ⟨L, M1.dl, by decide, by decide, fun g1 H3 g10 g11 M2 => ?_⟩
      have w3 : H3 q1 = some (.lst [V.int 7, V.int 100, V.int (10 ^ Int.toNat 30)]) := M2.kp _ _ o1.1 o1.2 upd_same
      obtain ⟨m, hat, m1, m2⟩ : ∃ m : Int, atI [V.int 7, V.int 100, V.int (10 ^ Int.toNat 30)] g1 = some (.int m) ∧ 1 ≤ m ∧ m ≤ 2 ^ 100 := by
        have hg : g1 = 0 ∨ g1 = 1 ∨ g1 = 2 := by omega
        rcases hg with rfl | rfl | rfl
        · exact ⟨7, rfl, by decide, by decide⟩
        · exact ⟨100, rfl, by decide, by decide⟩
        · exact ⟨_, rfl, by decide +kernel, by decide +kernel⟩
      have M3 := M1.trans M2
      refine ⟨_, _, sq_of w3, hat, sz_le (by simp), fun q2 hq2 => ?_⟩
      have M4 := M3.new hq2 (o := .lst [V.int 1, V.int (0 - 1)])
      have o2 := M3.dl.off hq2
      refine ⟨L, M4.dl, by decide, by decide, fun g2 H4 g20 g21 M5 => ?_⟩
      have w4 : H4 q2 = some (.lst [V.int 1, V.int (0 - 1)]) := M5.kp _ _ o2.1 o2.2 upd_same
      obtain ⟨way, hat2, hway⟩ : ∃ y : Int, atI [V.int 1, V.int (0 - 1)] g2 = some (.int y) ∧ (y = 1 ∨ y = -1) := by
        have hg : g2 = 0 ∨ g2 = 1 := by omega
        rcases hg with rfl | rfl
        · exact ⟨1, rfl, .inl rfl⟩
        · exact ⟨_, rfl, .inr rfl⟩
      have M6 := M4.trans M5
      refine ⟨_, _, sq_of w4, hat2, L, M6.dl, by omega, by omega, fun b0 H5 b00 b01 M7 => ⟨b0, rfl, way, rfl, mulOk (by omega) (by omega) (by omega) (by omega), ?_⟩⟩
      have M8 := M6.trans M7
      obtain ⟨b, hbb, hb⟩ : ∃ b : Int, b0 * way = b ∧ b.natAbs ≤ 2 ^ 100 := by
        rcases hway with rfl | rfl
        · exact ⟨_, rfl, by omega⟩
        · exact ⟨_, rfl, by omega⟩
      rw [hbb]
      have w5 := M8.kp _ _ rd rL w2
      have hv5 := hv2.mv D2 M8
      have D5 := M8.dl
      clear M1 M2 M3 M4 M5 M6 M7 M8 w3 w4 hat hat2 o1 o2 hq1 hq2 w2 hv2 D2 hbb b00 b01
      have bc10 : Bd (10 ^ 10) cs := bc9.mono (by decide +kernel)
      refine ⟨cs, sq_of w5, bc10, by omega, hb, fun H6 e6 => ⟨_, rfl, divOk (by omega) (by omega), sz_le (by simp), fun q3 hq3 => ?_⟩⟩
      have e7 := Ex.new hq3 (o := .lst [V.int (evalL cs b / un), V.str "none"])
      have w7 : upd H6 q3 (.lst [V.int (evalL cs b / un), V.str "none"]) q3 = some (.lst [V.int (evalL cs b / un), V.str "none"]) := upd_same
      have e67 := e6.trans e7
      have hv7 := hv5.ex e67
      have D7 := D5.ex e67
      have w7r := e67 _ _ w5
      generalize upd H6 q3 (.lst [V.int (evalL cs b / un), V.str "none"]) = H7 at *
      walk_at "vc"
      refine ⟨by omega, _, sq_of w7, ?_⟩
      obtain ⟨gg, gg1, hun, hev⟩ := hsc
      have hz : evalL cs b % un = 0 ↔ evalL x.2 b % x.1 = 0 := by
        rw [hun, hev b, Int.mul_emod_mul_of_pos _ _ (by omega)]
        constructor
        · intro h
          rcases Int.mul_eq_zero.mp h with h | h
          · omega
          · exact h
        · intro h
          rw [h, Int.mul_zero]
      have hd : evalL cs b / un = evalL x.2 b / x.1 := by
        rw [hun, hev b, Int.mul_ediv_mul_of_pos _ _ (by omega)]
      have x250 : x.1 < 2 ^ 250 := by have := ux.ob; have h3 : ((10 ^ 9 : Nat) : Int) < 2 ^ 250 := by decide +kernel
                                      omega
      have ebd : (evalL x.2 b).natAbs < 2 ^ 1900 := by
        have h1 := evalL_bd hb ux.cb
        have h2 : (2 ^ 100 + 1 : Nat) ^ x.2.length ≤ (2 ^ 100 + 1) ^ 11 := Nat.pow_le_pow_right (by decide) ux.len
        have h3 : 10 ^ 9 * (2 ^ 100 + 1 : Nat) ^ 11 < 2 ^ 1900 := by decide +kernel
        exact Nat.lt_of_le_of_lt (Nat.le_trans h1 (Nat.mul_le_mul_left _ h2)) h3
      have lgq : (evalL x.2 b / x.1).natAbs.log2 < 1920 := Nat.lt_of_lt_of_le (PySem.Flt.log2_lt_of (k := 1900) (by decide) (Nat.lt_of_le_of_lt (div_abs ux.o1) ebd)) (by decide)
      by_cases h0 : evalL cs b % un = 0
      · refine ⟨.int (evalL cs b / un), by rw [if_neg (by simpa using h0)]; rfl, ?_⟩
        rw [hd]
        refine ⟨x, hv7, ux.o1, x250, Nat.le_trans ux.len (by decide), ux.cb.mono (by decide +kernel), hb, fun H8 e8 => ?_⟩
        rw [if_pos (hz.mp h0)]
        refine reprIntD lgq (reprIntD lgq ⟨rfl, ifN rfl ?_⟩)
        exact ⟨D7.ex e8, e8 _ _ w7r, hv7.ex e8⟩
      · refine ⟨.str "none", by rw [if_pos h0]; rfl, ?_⟩
        refine ⟨x, hv7, ux.o1, x250, Nat.le_trans ux.len (by decide), ux.cb.mono (by decide +kernel), hb, fun H8 e8 => ?_⟩
        rw [if_neg (fun h => h0 (hz.mpr h))]
        refine reprStr (by decide) (by decide) (reprStr (by decide) (by decide) ⟨rfl, ifN rfl ?_⟩)
        exact ⟨D7.ex e8, e8 _ _ w7r, hv7.ex e8⟩
    obtain ⟨s2, s5, s7, s8, s9, s10, s11, s12, s13, s14, s15, s16, s17, s18, s19, s20, s21, s22, s23, s24, s25, rfl, D2, w2, hv2⟩ := hm
    clear w20 D20 hv20
    walk_at "vc"
    refine ⟨sz_le (by simp), fun p1 hp1 => ⟨sz_le (by simp), fun p2 hp2 => ⟨sz_le (by simp), fun p3 hp3 => ⟨sz_le (by simp), fun p4 hp4 => ?_⟩⟩⟩⟩
    have M1 := (Mv.refl D2).new hp1 (o := .tup [V.int 1])
    have o1 := D2.off hp1
    have f1 : upd H' p1 (.tup [V.int 1]) p1 = some (.tup [V.int 1]) := upd_same
    generalize upd H' p1 (.tup [V.int 1]) = Ha at *
    have M2 := M1.new hp2 (o := .lst [V.int 2])
    have o2 := M1.dl.off hp2
    have f2 : upd Ha p2 (.lst [V.int 2]) p2 = some (.lst [V.int 2]) := upd_same
    replace f1 := Ex.new hp2 (o := .lst [V.int 2]) _ _ f1
    generalize upd Ha p2 (.lst [V.int 2]) = Hb at *
    have M3 := M2.new hp3 (o := .tup [])
    have o3 := M2.dl.off hp3
    have f3 : upd Hb p3 (.tup []) p3 = some (.tup []) := upd_same
    replace f1 := Ex.new hp3 (o := .tup []) _ _ f1
    replace f2 := Ex.new hp3 (o := .tup []) _ _ f2
    generalize upd Hb p3 (.tup []) = Hc at *
    have M4 := M3.new hp4 (o := .lst [V.non, V.bl true, V.str "1", V.ref p1, V.ref p2, V.ref a1, V.ref p3])
    have o4 := M3.dl.off hp4
    have f4 : upd Hc p4 (.lst [V.non, V.bl true, V.str "1", V.ref p1, V.ref p2, V.ref a1, V.ref p3]) p4 = some (.lst [V.non, V.bl true, V.str "1", V.ref p1, V.ref p2, V.ref a1, V.ref p3]) := upd_same
    have e4 := Ex.new hp4 (o := .lst [V.non, V.bl true, V.str "1", V.ref p1, V.ref p2, V.ref a1, V.ref p3])
    replace f1 := e4 _ _ f1
    replace f2 := e4 _ _ f2
    replace f3 := e4 _ _ f3
    generalize upd Hc p4 (.lst [V.non, V.bl true, V.str "1", V.ref p1, V.ref p2, V.ref a1, V.ref p3]) = Hd at *
    have hv4 := hv2.mv D2 M4
    have w4 := M4.kp _ _ rd rL w2
    have D4 := M4.dl
    clear M1 M2 M3 M4 e4 hp1 hp2 hp3 hp4 w2 hv2 D2
    refine ⟨L, D4, by decide, by decide, fun g H5 g0 g1 M5 => ?_⟩
    have f4' := M5.kp _ _ o4.1 o4.2 f4
    obtain ⟨od, hat, hod⟩ : ∃ od : V, atI [V.non, V.bl true, V.str "1", V.ref p1, V.ref p2, V.ref a1, V.ref p3] g = some od ∧ Odd K a_Term d L Hd od := by
      have hg : g = 0 ∨ g = 1 ∨ g = 2 ∨ g = 3 ∨ g = 4 ∨ g = 5 ∨ g = 6 := by omega
      rcases hg with rfl | rfl | rfl | rfl | rfl | rfl | rfl
      · exact ⟨_, rfl, .inl rfl⟩
      · exact ⟨_, rfl, .inr (.inl rfl)⟩
      · exact ⟨_, rfl, .inr (.inr (.inl ⟨_, rfl⟩))⟩
      · exact ⟨_, rfl, .inr (.inr (.inr (.inl ⟨_, rfl, .inl ⟨_, f1⟩, o1.1, o1.2⟩)))⟩
      · exact ⟨_, rfl, .inr (.inr (.inr (.inl ⟨_, rfl, .inr ⟨_, f2⟩, o2.1, o2.2⟩)))⟩
      · exact ⟨_, rfl, .inr (.inr (.inr (.inr ⟨_, hv4⟩)))⟩
      · exact ⟨_, rfl, .inr (.inr (.inr (.inl ⟨_, rfl, .inl ⟨_, f3⟩, o3.1, o3.2⟩)))⟩
    refine ⟨_, _, sq_of f4', hat, ?_⟩
    have hod5 := hod.mv D4 M5
    have w5 := M5.kp _ _ rd rL w4
    have D5 := M5.dl
    clear hat hod f1 f2 f3 f4 f4' o1 o2 o3 o4 M5 D4 w4 hv4 g0 g1
    refine ⟨_, sq_of w5, fun q1 hq1 => ?_⟩
    have cu4 : cutV (cs.map V.int) none (some 4) = (cs.take 4).map V.int := cut_hi cs 4
    rw [cu4]
    have lfew : (cs.take 4).length ≤ 4 := by rw [List.length_take]; omega
    generalize hfew : cs.take 4 = few at *
    refine ⟨_, .inl (sq_of upd_same), L, D5.ex (Ex.new hq1), by omega, by rw [List.length_map]; omega, fun at0 H6 at00 at01 M6 => ?_⟩
    rw [List.length_map] at at01
    obtain ⟨at_, rfl⟩ : ∃ n : Nat, at0 = n := ⟨at0.toNat, by omega⟩
    have M56 := ((Mv.refl D5).new hq1 (o := .lst (few.map V.int))).trans M6
    have w6 := M56.kp _ _ rd rL w5
    have hod6 := hod5.mv D5 M56
    have D6 := M6.dl
    clear M56 M6 w5 hod5 D5 hq1
    refine ⟨_, sq_of w6, fun q2 hq2 => ?_⟩
    rw [cu4]
    have e2 := Ex.new hq2 (o := .lst (few.map V.int))
    have n2 : upd H6 q2 (.lst (few.map V.int)) q2 = some (.lst (few.map V.int)) := upd_same
    generalize upd H6 q2 (.lst (few.map V.int)) = H7 at *
    refine ⟨_, rfl, _, sq_of n2, fun q3 hq3 => ?_⟩
    rw [cut_hi]
    have lt1 : (few.take at_).length ≤ 4 := by rw [List.length_take]; omega
    have lt2 : (few.drop at_).length ≤ 4 := by rw [List.length_drop]; omega
    have lt3 : (few.take at_).length + (few.drop at_).length ≤ 4 := by rw [List.length_take, List.length_drop]; omega
    have n3 : upd H7 q3 (.lst ((few.take at_).map V.int)) q3 = some (.lst ((few.take at_).map V.int)) := upd_same
    have e3 := Ex.new hq3 (o := .lst ((few.take at_).map V.int))
    replace n2 := e3 _ _ n2
    replace e3 := e2.trans e3
    generalize upd H7 q3 (.lst ((few.take at_).map V.int)) = H8 at *
    refine ⟨sz_le (by simp), fun q4 hq4 => ?_⟩
    have e4 := Ex.new hq4 (o := .lst [od])
    refine ⟨q3, q4, _, _, rfl, rfl, e4 _ _ n3, upd_same, sz_le (by simp; omega), fun q5 hq5 => ?_⟩
    have e5 := Ex.new hq5 (o := .lst ((few.take at_).map V.int ++ [od]))
    have n5 : upd (upd H8 q4 (.lst [od])) q5 (.lst ((few.take at_).map V.int ++ [od])) q5 = some (.lst ((few.take at_).map V.int ++ [od])) := upd_same
    replace n2 := e5 _ _ (e4 _ _ n2)
    replace e5 := e3.trans (e4.trans e5)
    generalize upd (upd H8 q4 (.lst [od])) q5 (.lst ((few.take at_).map V.int ++ [od])) = H9 at *
    refine ⟨_, rfl, _, sq_of n2, fun q6 hq6 => ?_⟩
    rw [cut_lo]
    have e6 := Ex.new hq6 (o := .lst ((few.drop at_).map V.int))
    refine ⟨q5, q6, _, _, rfl, rfl, e6 _ _ n5, upd_same, sz_le (by simp; omega), fun q7 hq7 => ?_⟩
    have e7 := Ex.new hq7 (o := .lst ((few.take at_).map V.int ++ [od] ++ (few.drop at_).map V.int))
    have n7 : upd (upd H9 q6 (.lst ((few.drop at_).map V.int))) q7 (.lst ((few.take at_).map V.int ++ [od] ++ (few.drop at_).map V.int)) q7 = some (.lst ((few.take at_).map V.int ++ [od] ++ (few.drop at_).map V.int)) := upd_same
    have e67 := e5.trans (e6.trans e7)
    generalize upd (upd H9 q6 (.lst ((few.drop at_).map V.int))) q7 (.lst ((few.take at_).map V.int ++ [od] ++ (few.drop at_).map V.int)) = H10 at *
    have M10 := Mv.of_ex D6 e67
    have oq7 : q7 ≠ d ∧ q7 ≠ L := (Mv.of_ex D6 (e5.trans e6)).dl.off hq7
    clear e7 e6 e5 e4 e3 e2 hq2 hq3 hq4 hq5 hq6 hq7 n2 n3 n5
    refine ⟨sz_le (by simp), fun q8 hq8 => ?_⟩
    have M11 := M10.new hq8 (o := .lst [V.int un, V.int 0, V.non])
    have o8 := M10.dl.off hq8
    have e8 := Ex.new hq8 (o := .lst [V.int un, V.int 0, V.non])
    refine ⟨L, M11.dl, by decide, by decide, fun g H11 g0 g1 M12 => ?_⟩
    have n8 := M12.kp _ _ o8.1 o8.2 (upd_same (H := H10) (a := q8) (o := .lst [V.int un, V.int 0, V.non]))
    obtain ⟨be, hat⟩ : ∃ be : V, atI [V.int un, V.int 0, V.non] g = some be := by
      have hg : g = 0 ∨ g = 1 ∨ g = 2 := by omega
      rcases hg with rfl | rfl | rfl
      · exact ⟨_, rfl⟩
      · exact ⟨_, rfl⟩
      · exact ⟨_, rfl⟩
    refine ⟨_, _, sq_of n8, hat, ?_⟩
    have n7' := M12.kp _ _ oq7.1 oq7.2 (e8 _ _ n7)
    have M13 := M11.trans M12
    have w11 := M13.kp _ _ rd rL w6
    have hod11 := hod6.mv D6 M13
    have D11 := M13.dl
    clear M13 M12 M11 M10 e8 n7 n8 hat oq7 o8 hq8 hod6 w6 D6 e67 g0 g1
    have fl := ((flS_ints H11 (few.take at_)).app (FlS.one (hod11.fl T.oc_Term T.kl_Term_int))).app (flS_ints H11 (few.drop at_))
    refine ⟨_, _, sq_of n7', fl, .inl (by simp at lt3 ⊢; omega), .inl ⟨by simp, fun H12 e12 => ?_⟩⟩
    refine ne_same (by decide +kernel) ⟨_, rfl, ?_⟩
    rw [if_neg (by decide)]
    replace w11 := e12 _ _ w11
    replace D11 := D11.ex e12
    clear fl n7' hod11 e12
    refine ⟨sz_le (by simp), fun p5 hp5 => ?_⟩
    have M14 := (Mv.refl D11).new hp5 (o := .lst [V.int 1])
    have o5 := D11.off hp5
    have f5 : upd H12 p5 (.lst [V.int 1]) p5 = some (.lst [V.int 1]) := upd_same
    generalize upd H12 p5 (.lst [V.int 1]) = H13 at *
    refine ⟨sz_le (by simp), fun p6 hp6 => ?_⟩
    have M15 := M14.new hp6 (o := .lst [V.int 0, V.int (0 - un), V.non, V.bl true, V.str "2", V.ref p5])
    have o6 := M14.dl.off hp6
    have e15 := Ex.new hp6 (o := .lst [V.int 0, V.int (0 - un), V.non, V.bl true, V.str "2", V.ref p5])
    refine ⟨L, M15.dl, by decide, by decide, fun g H14 g0 g1 M16 => ?_⟩
    have f6 := M16.kp _ _ o6.1 o6.2 (upd_same (H := H13) (a := p6) (o := .lst [V.int 0, V.int (0 - un), V.non, V.bl true, V.str "2", V.ref p5]))
    have f5' := M16.kp _ _ o5.1 o5.2 (e15 _ _ f5)
    have M17 := M15.trans M16
    have w14 := M17.kp _ _ rd rL w11
    have D14 := M17.dl
    obtain ⟨bv, hat, b, fb, hb⟩ : ∃ bv : V, atI [V.int 0, V.int (0 - un), V.non, V.bl true, V.str "2", V.ref p5] g = some bv ∧ ∃ b, Fl K H14 bv b ∧ (b = false ∨ ∃ i, bv = .int i ∧ b = true ∧ i < 1) := by
      have hg : g = 0 ∨ g = 1 ∨ g = 2 ∨ g = 3 ∨ g = 4 ∨ g = 5 := by omega
      rcases hg with rfl | rfl | rfl | rfl | rfl | rfl
      · exact ⟨_, rfl, _, fl_int _ _, .inr ⟨_, rfl, rfl, by omega⟩⟩
      · exact ⟨_, rfl, _, fl_int _ _, .inr ⟨_, rfl, rfl, by omega⟩⟩
      · exact ⟨_, rfl, _, fl_non _, .inl rfl⟩
      · exact ⟨_, rfl, _, fl_bl _ _, .inl rfl⟩
      · exact ⟨_, rfl, _, fl_str _ _, .inl rfl⟩
      · exact ⟨_, rfl, _, fl_lst f5', .inl rfl⟩
    refine ⟨_, _, sq_of f6, hat, ?_⟩
    refine ⟨cs.map V.int, _, sq_of w14, flS_ints _ cs, by rw [List.length_map]; omega, .inr ⟨cs, rfl, by simp, .inl ⟨b, fb, hb, fun H15 e16 => ?_⟩⟩⟩
    refine ne_same (by decide +kernel) ⟨_, rfl, ?_⟩
    rw [if_neg (by decide)]
    refine ⟨cs.map V.int, _, sq_of (e16 _ _ w14), flS_ints _ cs, by rw [List.length_map]; omega, .inr ⟨cs, rfl, by simp, .inr ⟨un, rfl, un1, by omega, fun H17 e17 => ?_⟩⟩⟩
    exact ite2 (fun h => absurd rfl h) (fun _ => D14.ex (e16.trans e17))
  · obtain ⟨s2, s3, s4, s5, s6, s7, s8, s9, s10, s11, s12, s13, s14, s15, s16, s17, s18, s19, s20, s21, s22, s23, s24, s25, rfl, D2⟩ := hm
    walk_at "vc"
    have t0 : lowM 1 [] = (1, []) := by decide +kernel
    have t9 : lowM 9 [0, 0] = (1, []) := by decide +kernel
    unfold tProp
    refine mkTermD (cs := []) (by simp) fun v0 H3 e3 hv0 => ?_
    rw [t0] at hv0
    obtain ⟨a1, dx1, r1, c1, rfl, h1, h2, h3⟩ := id hv0
    refine ⟨a1, dx1, _, rfl, h1, (1, []), hv0, by decide, ?_⟩
    refine ⟨_, _, .int _, .int _, rfl, rfl, true, rfl, ?_⟩
    rw [if_pos rfl]
    unfold tFld
    refine mkTermD (cs := []) (by simp) fun v1 H4 e4 hv1 => ?_
    rw [t0] at hv1
    obtain ⟨a2, dx2, r2, c2, rfl, k1, k2, k3⟩ := id hv1
    refine ⟨a2, a_Term, dx2, _, .int 1, rfl, k1, T.oc_Term.cl, T.nF_Term_over, rfl, rfl, ?_⟩
    rw [if_pos rfl]
    refine ⟨rfl, mkTermK (vs := [.int 0, .int 0]) (flS_ints _ [0, 0]) (by simp) (.inr ⟨[0, 0], rfl, rfl, .inr ⟨9, rfl, by decide, by decide, fun v2 H5 e5 hv2 => ?_⟩⟩)⟩
    refine mkTermD (cs := []) (by simp) fun v3 H6 e6 hv3 => ?_
    rw [t9] at hv2
    rw [t0] at hv3
    have ok1 : Ok (1, []) := ⟨by decide, by decide +kernel, (fun c hc => by cases hc), by decide⟩
    exact eq_of (fun h => T.oc_Term.ty h) (hv2.ex e6) hv3 ok1 ok1 fun H7 e7 => q H7
end
end My
set_option Elab.async false
set_option linter.all false
set_option maxRecDepth 100000
set_option maxHeartbeats 4000000
set_option exponentiation.threshold 5000
namespace My
open PySem PySem.Spec PyProof.Rows L2 Evl
local macro_rules | `(tactic| walk_at "st") => `(tactic| simp only [L2.start, List.map_cons, List.map_nil, List.length_cons, List.length_nil, Nat.reduceAdd, Nat.reduceSub, List.replicate_succ, List.replicate_zero, List.cons_append, List.nil_append, cxOf, List.append_nil])
local macro_rules | `(tactic| walk_at "vc") => `(tactic| try simp only [tSeq, tAsg, tOp, tUn, tVar, tC, tNil, tCons, gName, rI, rI0, rU, tRet, tIfS, tNot, tAnd, tOr, tB, tTest, tCB, tCall, tAndV, tOrV, tNotV, tNext, tNever, tIf, tChain, tYes, tPart, tNoPart, tPar, tDrop, q_isi, q_vn, q_vb, q_vi, q_vs, kb1, kb2, kb3, kb4, kb5, kb6, kb7, kb8, q_int1, q_int2, q_min, q_max, q_repr, tLst, tTup, rEq, rNe, q_sii, q_sss, q_sbb, q_snn, q_sns, q_ssn, q_ix, q_sl, tSl, tBM, tBM0, q_app, q_pop, gSub, rSetL, L2.wipe, eq_self, decide_true, decide_false, tRevL,
  List.getElem?_cons_succ, List.getElem?_cons_zero, List.set_cons_succ, List.set_cons_zero, Option.some.injEq, exists_eq_left', exists_eq_left, V.int.injEq, V.bl.injEq, V.ref.injEq, V.str.injEq, List.cons.injEq, and_true, true_and, List.append_nil, List.nil_append, List.cons_append, exists_and_left, and_assoc, if_true, if_false, Bool.not_true, Bool.not_false, Bool.false_eq_true, Bool.true_eq_false, reduceIte, tRevL, tPar3, tRevT, tUnl, tCKw, forall_const, Bool.not_eq_true', decide_eq_true_eq, decide_eq_false_iff_not])
abbrev tlV : List Value := [.type "ValueError", .type "Exception", .type "BaseException", .type "object"]
def D_is_integer : He5.DefA := ⟨fun K => (He.ga K "is_integer"), "is_integer", "is_integer", defArgs s_is_integer, defBody s_is_integer, defScope s_is_integer, [], []⟩
def D_reduced : He5.DefA := ⟨fun K => (He.ga K "reduced"), "reduced", "reduced", defArgs s_reduced, defBody s_reduced, defScope s_reduced, [], []⟩
def D_value : He5.DefA := ⟨fun K => (He.ga K "value"), "value", "value", defArgs s_value, defBody s_value, defScope s_value, [], []⟩
def D_law_deal : He5.DefA := ⟨fun K => (He.ga K "_law_deal"), "_law_deal", "_law_deal", defArgs s_law_deal, defBody s_law_deal, defScope s_law_deal, [], []⟩
def D_law_draw : He5.DefA := ⟨fun K => (He.ga K "_law_draw"), "_law_draw", "_law_draw", defArgs s_law_draw, defBody s_law_draw, defScope s_law_draw, [], []⟩
def D_law_gcd : He5.DefA := ⟨fun K => (He.ga K "_law_gcd"), "_law_gcd", "_law_gcd", defArgs s_law_gcd, defBody s_law_gcd, defScope s_law_gcd, [], []⟩
def D_law_lowest : He5.DefA := ⟨fun K => (He.ga K "_law_lowest"), "_law_lowest", "_law_lowest", defArgs s_law_lowest, defBody s_law_lowest, defScope s_law_lowest, [], []⟩
def D_law_value : He5.DefA := ⟨fun K => (He.ga K "_law_value"), "_law_value", "_law_value", defArgs s_law_value, defBody s_law_value, defScope s_law_value, [], []⟩
def D_law_made : He5.DefA := ⟨fun K => (He.ga K "_law_made"), "_law_made", "_law_made", defArgs s_law_made, defBody s_law_made, defScope s_law_made, [], []⟩
def D_law_row : He5.DefA := ⟨fun K => (He.ga K "_law_row"), "_law_row", "_law_row", defArgs s_law_row, defBody s_law_row, defScope s_law_row, [], []⟩
def D_law_at : He5.DefA := ⟨fun K => (He.ga K "_law_at"), "_law_at", "_law_at", defArgs s_law_at, defBody s_law_at, defScope s_law_at, [], []⟩
def D_law_refused : He5.DefA := ⟨fun K => (He.ga K "_law_refused"), "_law_refused", "_law_refused", defArgs s_law_refused, defBody s_law_refused, defScope s_law_refused, [], []⟩
def D_law : He5.DefA := ⟨fun K => (He.ga K "law"), "law", "law", defArgs s_law, defBody s_law, defScope s_law, [], []⟩
def D_InvalidTerm_init : He5.DefA := ⟨fun K => (He.ma K (He.ga K "InvalidTerm") "__init__"), "__init__", "InvalidTerm.__init__", defArgs s_InvalidTerm_init, defBody s_InvalidTerm_init, defScope s_InvalidTerm_init, [], []⟩
def D_Term_init : He5.DefA := ⟨fun K => (He.ma K (He.ga K "Term") "__init__"), "__init__", "Term.__init__", defArgs s_Term_init, defBody s_Term_init, defScope s_Term_init, [], [("over", .int 1)]⟩
def D_Term_degree : He5.DefA := ⟨fun K => (pgAt K (He.ga K "Term") "degree"), "degree", "Term.degree", defArgs s_Term_degree, defBody s_Term_degree, defScope s_Term_degree, [], []⟩
def D_Term_call : He5.DefA := ⟨fun K => (He.ma K (He.ga K "Term") "__call__"), "__call__", "Term.__call__", defArgs s_Term_call, defBody s_Term_call, defScope s_Term_call, [], []⟩
def D_Term_eq : He5.DefA := ⟨fun K => (He.ma K (He.ga K "Term") "__eq__"), "__eq__", "Term.__eq__", defArgs s_Term_eq, defBody s_Term_eq, defScope s_Term_eq, [], []⟩
def fnL : List He5.DefA := [D_is_integer, D_reduced, D_value, D_law_deal, D_law_draw, D_law_gcd, D_law_lowest, D_law_value, D_law_made, D_law_row, D_law_at, D_law_refused, D_law, D_InvalidTerm_init, D_Term_init, D_Term_degree, D_Term_call, D_Term_eq]
def tsL : List He.Tab := []
def fs0 (K : PySem.W.Frag) : List Bool := [decide (PySem.W.nsIn K mainGlobals "is_integer" = some (some (.ref (He.ga K "is_integer")))),
  decide (PySem.W.nsIn K mainGlobals "reduced" = some (some (.ref (He.ga K "reduced")))),
  decide (PySem.W.nsIn K mainGlobals "value" = some (some (.ref (He.ga K "value")))),
  decide (PySem.W.nsIn K mainGlobals "_law_deal" = some (some (.ref (He.ga K "_law_deal")))),
  decide (PySem.W.nsIn K mainGlobals "_law_draw" = some (some (.ref (He.ga K "_law_draw")))),
  decide (PySem.W.nsIn K mainGlobals "_law_gcd" = some (some (.ref (He.ga K "_law_gcd")))),
  decide (PySem.W.nsIn K mainGlobals "_law_lowest" = some (some (.ref (He.ga K "_law_lowest")))),
  decide (PySem.W.nsIn K mainGlobals "_law_value" = some (some (.ref (He.ga K "_law_value")))),
  decide (PySem.W.nsIn K mainGlobals "_law_made" = some (some (.ref (He.ga K "_law_made")))),
  decide (PySem.W.nsIn K mainGlobals "_law_row" = some (some (.ref (He.ga K "_law_row")))),
  decide (PySem.W.nsIn K mainGlobals "_law_at" = some (some (.ref (He.ga K "_law_at")))),
  decide (PySem.W.nsIn K mainGlobals "_law_refused" = some (some (.ref (He.ga K "_law_refused")))),
  decide (PySem.W.nsIn K mainGlobals "law" = some (some (.ref (He.ga K "law")))),
  decide (PySem.W.nsIn K mainGlobals "gcd" = some (some (.builtin "math.gcd")))]
def fs1 (K : PySem.W.Frag) : List Bool := [decide (PySem.W.nsIn K mainGlobals "ValueError" = some none),
  decide (PySem.W.nsIn K mainGlobals "abs" = some none),
  decide (PySem.W.nsIn K mainGlobals "all" = some none),
  decide (PySem.W.nsIn K mainGlobals "bool" = some none),
  decide (PySem.W.nsIn K mainGlobals "int" = some none),
  decide (PySem.W.nsIn K mainGlobals "isinstance" = some none),
  decide (PySem.W.nsIn K mainGlobals "len" = some none),
  decide (PySem.W.nsIn K mainGlobals "list" = some none),
  decide (PySem.W.nsIn K mainGlobals "max" = some none),
  decide (PySem.W.nsIn K mainGlobals "range" = some none),
  decide (PySem.W.nsIn K mainGlobals "repr" = some none),
  decide (PySem.W.nsIn K mainGlobals "str" = some none),
  decide (PySem.W.nsIn K mainGlobals "tuple" = some none)]
def fs2 (K : PySem.W.Frag) : List Bool := [decide (PySem.W.nsIn K mainGlobals "InvalidTerm" = some (some (.ref (He.ga K "InvalidTerm")))),
  excB K (He.ga K "InvalidTerm") "ValueError.__new__" (refsTo tlV),
  decide (PySem.W.findIn K (.ref (He.ga K "InvalidTerm")) "__setattr__" = some (some (.builtin "object.__setattr__"))),
  decide (PySem.W.findIn K (.ref (He.ga K "InvalidTerm")) "__getattribute__" = some (some (.builtin "BaseException.__getattribute__"))),
  decide (PySem.W.findIn K (.ref (He.ga K "InvalidTerm")) "__getattr__" = some none),
  PySem.W.keepIn K (.ref (He.ga K "InvalidTerm")),
  decide (PySem.W.subIn K (.ref (He.ga K "InvalidTerm")) (.type "BaseException") = some true),
  PySem.W.hasDictIn K (He.ga K "InvalidTerm"),
  (PySem.W.clsIn K (He.ga K "InvalidTerm")).isSome,
  decide (PySem.W.findIn K (.ref (He.ga K "InvalidTerm")) "__class__" = some (some (.builtin "object.__class__"))),
  decide (PySem.W.mroIn K (He.ga K "InvalidTerm") (.type "object") = some true),
  decide (PySem.W.typeIn K (.ref (He.ga K "InvalidTerm")) = some (.type "type")),
  decide (PySem.W.exmOne K (.ref (He.ga K "InvalidTerm")) (.ref (He.ga K "InvalidTerm")) = some true),
  decide (PySem.W.exmOne K (.ref (He.ga K "InvalidTerm")) (.ref (He.ga K "NotWhole")) = some false),
  decide (PySem.W.kitOne K (.ref (He.ga K "InvalidTerm")) (.ref (He.ga K "FigureError")) = some true),
  decide (PySem.W.kitOne K (.ref (He.ga K "InvalidTerm")) (.type "ValueError") = some true),
  decide (PySem.W.findIn K (.ref (He.ga K "InvalidTerm")) "word" = some none),
  decide (PySem.W.findIn K (.ref (He.ga K "InvalidTerm")) "__init__" = some (some (.ref (He.ma K (He.ga K "InvalidTerm") "__init__")))),
  decide (PySem.W.typeIn K (.ref (He.ma K (He.ga K "InvalidTerm") "__init__")) = some (.type "function"))]
def fs3 (K : PySem.W.Frag) : List Bool := [decide (PySem.W.nsIn K mainGlobals "NotWhole" = some (some (.ref (He.ga K "NotWhole")))),
  excB K (He.ga K "NotWhole") "ValueError.__new__" (refsTo tlV),
  decide (PySem.W.findIn K (.ref (He.ga K "NotWhole")) "__setattr__" = some (some (.builtin "object.__setattr__"))),
  decide (PySem.W.findIn K (.ref (He.ga K "NotWhole")) "__getattribute__" = some (some (.builtin "BaseException.__getattribute__"))),
  decide (PySem.W.findIn K (.ref (He.ga K "NotWhole")) "__getattr__" = some none),
  PySem.W.keepIn K (.ref (He.ga K "NotWhole")),
  decide (PySem.W.subIn K (.ref (He.ga K "NotWhole")) (.type "BaseException") = some true),
  PySem.W.hasDictIn K (He.ga K "NotWhole"),
  (PySem.W.clsIn K (He.ga K "NotWhole")).isSome,
  decide (PySem.W.findIn K (.ref (He.ga K "NotWhole")) "__class__" = some (some (.builtin "object.__class__"))),
  decide (PySem.W.mroIn K (He.ga K "NotWhole") (.type "object") = some true),
  decide (PySem.W.typeIn K (.ref (He.ga K "NotWhole")) = some (.type "type")),
  decide (PySem.W.exmOne K (.ref (He.ga K "NotWhole")) (.ref (He.ga K "NotWhole")) = some true),
  decide (PySem.W.exmOne K (.ref (He.ga K "NotWhole")) (.ref (He.ga K "InvalidTerm")) = some false),
  decide (PySem.W.kitOne K (.ref (He.ga K "NotWhole")) (.ref (He.ga K "FigureError")) = some true),
  decide (PySem.W.kitOne K (.ref (He.ga K "NotWhole")) (.ref (He.ga K "InvalidTerm")) = some false),
  PySem.W.excIn K (He.ga K "NotWhole") tlV "ValueError.__new__"]
def fs4 (K : PySem.W.Frag) : List Bool := [decide (PySem.W.nsIn K mainGlobals "FigureError" = some (some (.ref (He.ga K "FigureError")))),
  decide (PySem.W.specialIn K (.builtin "object.__class__") "__get__" = some (some (.builtin "getset_descriptor.__get__"))),
  decide (PySem.W.takesIn K (.builtin "object.__class__") = some true)]
def fs5 (K : PySem.W.Frag) : List Bool := [decide (PySem.W.nsIn K mainGlobals "Term" = some (some (.ref (He.ga K "Term")))),
  PySem.W.plainGet K (He.ga K "Term") Str.empty,
  PySem.W.hasDictIn K (He.ga K "Term"),
  PySem.W.plainOver K (He.ga K "Term"),
  decide (PySem.W.findIn K (.ref (He.ga K "Term")) "__setattr__" = some (some (.builtin "object.__setattr__"))),
  decide (PySem.W.findIn K (.ref (He.ga K "Term")) "__class__" = some (some (.builtin "object.__class__"))),
  decide (PySem.W.mroIn K (He.ga K "Term") (.type "object") = some true),
  decide (PySem.W.findIn K (.ref (He.ga K "Term")) "__format__" = some (some (.builtin "object.__format__"))),
  decide (PySem.W.findIn K (.ref (He.ga K "Term")) "__ne__" = some (some (.builtin "object.__ne__"))),
  decide (PySem.W.kitOne K (.ref (He.ga K "Term")) (.ref (He.ga K "Term")) = some true),
  decide (PySem.W.kitOne K (.ref (He.ga K "Term")) (.type "int") = some false),
  decide (PySem.W.kitOne K (.type "int") (.ref (He.ga K "Term")) = some false),
  decide (PySem.W.kitOne K (.type "tuple") (.ref (He.ga K "Term")) = some false),
  decide (PySem.W.findIn K (.ref (He.ga K "Term")) "poly" = some none),
  decide (PySem.W.findIn K (.ref (He.ga K "Term")) "coefficients" = some none),
  decide (PySem.W.findIn K (.ref (He.ga K "Term")) "over" = some none),
  decide (PySem.W.findIn K (.ref (He.ga K "Term")) "__init__" = some (some (.ref (He.ma K (He.ga K "Term") "__init__")))),
  PySem.W.isFn K (.ref (He.ma K (He.ga K "Term") "__init__")),
  propB K (He.ga K "Term") "degree",
  decide (PySem.W.findIn K (.ref (He.ga K "Term")) "__call__" = some (some (.ref (He.ma K (He.ga K "Term") "__call__")))),
  PySem.W.isFn K (.ref (He.ma K (He.ga K "Term") "__call__")),
  decide (PySem.W.findIn K (.ref (He.ga K "Term")) "__eq__" = some (some (.ref (He.ma K (He.ga K "Term") "__eq__")))),
  PySem.W.isFn K (.ref (He.ma K (He.ga K "Term") "__eq__")),
  PySem.W.makesIn K (He.ga K "Term")]
def fs6 (K : PySem.W.Frag) : List Bool := [PySem.W.keepIn K (.ref (He.ga K "Term"))]
def fs7 (K : PySem.W.Frag) : List Bool := []
def fsL (K : PySem.W.Frag) : List (List Bool) := [fs0 K, fs1 K, fs2 K, fs3 K, fs4 K, fs5 K, fs6 K, fs7 K]
abbrev RL : PySem.W.OpenRow := PySem.W.OpenLaw.row PySem.Challenge.rw_everybase_k24_terms_made
def as0 : List Addr := [3, 173, 172, 59, 79, 91, 274, 6, 0, 58, 78, 90, 273, 160, 49, 100, 107, 114, 119, 124, 131, 138, 145, 152, 285, 292, 299, 306, 313, 318, 325, 332]
def as1 : List Addr := [337, 344, 351, 358, 365, 372, 377, 47, 76, 98, 105, 112, 117, 122, 129, 136, 143, 150, 165, 180, 187, 194, 201, 208, 215, 222, 229, 236, 243, 250, 257, 264]
def as2 : List Addr := [271, 283, 290, 297, 304, 311, 316, 323, 330, 335, 342, 349, 356, 363, 370, 375, 74, 163, 178, 185, 192, 199, 206, 213, 220, 227, 234, 241, 248, 255, 262, 269]
def as3 : List Addr := [170, 48, 99, 106, 113, 118, 123, 130, 137, 144, 151, 284, 291, 298, 305, 312, 317, 324, 331, 336, 343, 350, 357, 364, 371, 376, 75, 164, 179, 186, 193, 200]
def as4 : List Addr := [207, 214, 221, 228, 235, 242, 249, 256, 263, 270, 171, 4, 101, 102]
def asL : List Addr := as0 ++ (as1 ++ (as2 ++ (as3 ++ (as4))))
abbrev hkL : PySem.W.Hook := hookLA asL fnL tsL fsL
def obL (s : PySem.W.SharedT) : AlLA := obsLA asL fnL tsL fsL (HandSHeadRun.getT s)
theorem obL_eq (s : PySem.W.SharedT) : obL s = hkL.obs s.abs := obsLA_eq (HandSHeadRun.getT_eq s)
def loose0 : List Str := ["_wall", "__name__", "FigureError", "InvalidTerm", "NotWhole", "is_integer", "ZERO", "ONE", "reduced", "plain", "plus", "negative", "minus", "times", "power", "value"]
def loose1 : List Str := ["Term", "term_of", "_poly_of", "_text", "_part", "_letter", "_law_deal", "_law_draw", "_law_gcd", "_law_lowest", "_law_value", "_law_made", "_law_row", "_law_at", "_law_refused"]
def looseL : List Str := loose0 ++ loose1
theorem run_af (w : World) : (HandSHeadRun.wholeF (fun p => HandSHeadRun.stepQ (HandSHeadRun.denQ HandSHeadRun.tabQ) p (World.withFollow (w) "special-get-raises" false)) HandSHeadRun.fenceQ 100000 RL.prog).map (fun x => HandSHeadRun.looksF RL.prog x.1.heap x.2.abs) = some true := by
  kernel_rfl
theorem run_at (w : World) : (HandSHeadRun.wholeF (fun p => HandSHeadRun.stepQ (HandSHeadRun.denQ HandSHeadRun.tabQ) p (World.withFollow (w) "special-get-raises" true)) HandSHeadRun.fenceQ 100000 RL.prog).map (fun x => HandSHeadRun.looksF RL.prog x.1.heap x.2.abs) = some true := by
  kernel_rfl
theorem run_bf (w : World) : (HandSHeadRun.wholeF (fun p => HandSHeadRun.stepQ (HandSHeadRun.denQ HandSHeadRun.tabQ) p (World.withFollow (w) "special-get-raises" false)) HandSHeadRun.fenceQ 100000 RL.prog).map (fun x => HandSHeadRun.seenQ (PySem.W.view RL.prog [0, 36]) looseL (importedModules RL.prog.main.body) (fun s => PySem.W.xlAt (PySem.W.view RL.prog [0, 36]) [] s && PySem.W.recOk RL.toRowW.records s) x.2.abs) = some (PySem.W.openGood (PySem.W.view RL.prog [0, 36]) looseL) := by
  kernel_rfl
theorem run_bt (w : World) : (HandSHeadRun.wholeF (fun p => HandSHeadRun.stepQ (HandSHeadRun.denQ HandSHeadRun.tabQ) p (World.withFollow (w) "special-get-raises" true)) HandSHeadRun.fenceQ 100000 RL.prog).map (fun x => HandSHeadRun.seenQ (PySem.W.view RL.prog [0, 36]) looseL (importedModules RL.prog.main.body) (fun s => PySem.W.xlAt (PySem.W.view RL.prog [0, 36]) [] s && PySem.W.recOk RL.toRowW.records s) x.2.abs) = some (PySem.W.openGood (PySem.W.view RL.prog [0, 36]) looseL) := by
  kernel_rfl
theorem run_cf (w : World) : (HandSHeadRun.wholeF (fun p => HandSHeadRun.stepQ (HandSHeadRun.denQ HandSHeadRun.tabQ) p (World.withFollow (w) "special-get-raises" false)) HandSHeadRun.fenceQ 100000 RL.prog).map (fun x => obL x.2) = some (hkL.val (World.withFollow (w) "special-get-raises" false)) := by
  kernel_rfl
theorem run_ct (w : World) : (HandSHeadRun.wholeF (fun p => HandSHeadRun.stepQ (HandSHeadRun.denQ HandSHeadRun.tabQ) p (World.withFollow (w) "special-get-raises" true)) HandSHeadRun.fenceQ 100000 RL.prog).map (fun x => obL x.2) = some (hkL.val (World.withFollow (w) "special-get-raises" true)) := by
  kernel_rfl
theorem runL (w : World) : HandSHeadRun.RunEqI RL (PySem.W.view RL.prog [0, 36]) hkL obL 100000 looseL w := by
  refine PySem.W.byRow2 "special-get-raises" (P := fun w => HandSHeadRun.RunEqI RL (PySem.W.view RL.prog [0, 36]) hkL obL 100000 looseL w) ?_ ?_ w <;> intro w
  · exact runI_of (run_af w) (run_bf w) (run_cf w)
  · exact runI_of (run_at w) (run_bt w) (run_ct w)

end My
set_option Elab.async false
set_option linter.all false
set_option maxRecDepth 100000
set_option maxHeartbeats 4000000
set_option exponentiation.threshold 5000
namespace My
open PySem PySem.Spec PyProof.Rows L2 Evl
local macro_rules | `(tactic| walk_at "st") => `(tactic| simp only [L2.start, List.map_cons, List.map_nil, List.length_cons, List.length_nil, Nat.reduceAdd, Nat.reduceSub, List.replicate_succ, List.replicate_zero, List.cons_append, List.nil_append, cxOf, List.append_nil])
local macro_rules | `(tactic| walk_at "vc") => `(tactic| try simp only [tSeq, tAsg, tOp, tUn, tVar, tC, tNil, tCons, gName, rI, rI0, rU, tRet, tIfS, tNot, tAnd, tOr, tB, tTest, tCB, tCall, tAndV, tOrV, tNotV, tNext, tNever, tIf, tChain, tYes, tPart, tNoPart, tPar, tDrop, q_isi, q_vn, q_vb, q_vi, q_vs, kb1, kb2, kb3, kb4, kb5, kb6, kb7, kb8, q_int1, q_int2, q_min, q_max, q_repr, tLst, tTup, rEq, rNe, q_sii, q_sss, q_sbb, q_snn, q_sns, q_ssn, q_ix, q_sl, tSl, tBM, tBM0, q_app, q_pop, gSub, rSetL, L2.wipe, eq_self, decide_true, decide_false, tRevL,
  List.getElem?_cons_succ, List.getElem?_cons_zero, List.set_cons_succ, List.set_cons_zero, Option.some.injEq, exists_eq_left', exists_eq_left, V.int.injEq, V.bl.injEq, V.ref.injEq, V.str.injEq, List.cons.injEq, and_true, true_and, List.append_nil, List.nil_append, List.cons_append, exists_and_left, and_assoc, if_true, if_false, Bool.not_true, Bool.not_false, Bool.false_eq_true, Bool.true_eq_false, reduceIte, tRevL, tPar3, tRevT, tUnl, tCKw, forall_const, Bool.not_eq_true', decide_eq_true_eq, decide_eq_false_iff_not])
theorem factsL {P : Program} {w : World} {K : PySem.W.Frag} {h : Heap} {mg : Str → Option Value} {fa : Addr} (X : K.In h) (G : h.Ns mainGlobals mg) (hfa : mg "law" = some (.ref fa)) (c : SaysLA fnL tsL fsL w K) :
    ∃ fd : FuncData, (∀ (s : Shared) (v : Value), BindsTo s fd ⟨[v], []⟩ [("_law_script", v)]) ∧ ∀ base : Heap, K.In base → base.Ns mainGlobals mg → FnG P w K mg base CX0 40 fa fd ["_law_script"] (sp_law K) := by
  have e := hfa.symm.trans (PySem.W.mg_of X G (of_decide_eq_true (bitA c 0 12 rfl rfl)))
  cases e
  obtain ⟨d_is_integer, H_is_integer⟩ := c.d.def_ 0 (d := D_is_integer) rfl
  have F_is_integer : Fun K "is_integer" "is_integer" s_is_integer (He.ga K "is_integer") d_is_integer := toFun H_is_integer
  have b_is_integer := F_is_integer.binds (ps := ["value"]) fun _ _ _ _ _ _ us hl => match us, hl with | [_], _ => rfl
  obtain ⟨d_reduced, H_reduced⟩ := c.d.def_ 1 (d := D_reduced) rfl
  have F_reduced : Fun K "reduced" "reduced" s_reduced (He.ga K "reduced") d_reduced := toFun H_reduced
  have b_reduced := F_reduced.binds (ps := ["over", "coefficients"]) fun _ _ _ _ _ _ us hl => match us, hl with | [_, _], _ => rfl
  obtain ⟨d_value, H_value⟩ := c.d.def_ 2 (d := D_value) rfl
  have F_value : Fun K "value" "value" s_value (He.ga K "value") d_value := toFun H_value
  have b_value := F_value.binds (ps := ["x", "base"]) fun _ _ _ _ _ _ us hl => match us, hl with | [_, _], _ => rfl
  obtain ⟨d_law_deal, H_law_deal⟩ := c.d.def_ 3 (d := D_law_deal) rfl
  have F_law_deal : Fun K "_law_deal" "_law_deal" s_law_deal (He.ga K "_law_deal") d_law_deal := toFun H_law_deal
  have b_law_deal := F_law_deal.binds (ps := ["_law_script", "_law_base"]) fun _ _ _ _ _ _ us hl => match us, hl with | [_, _], _ => rfl
  obtain ⟨d_law_draw, H_law_draw⟩ := c.d.def_ 4 (d := D_law_draw) rfl
  have F_law_draw : Fun K "_law_draw" "_law_draw" s_law_draw (He.ga K "_law_draw") d_law_draw := toFun H_law_draw
  have b_law_draw := F_law_draw.binds (ps := ["_law_deal_here", "_law_amount"]) fun _ _ _ _ _ _ us hl => match us, hl with | [_, _], _ => rfl
  obtain ⟨d_law_gcd, H_law_gcd⟩ := c.d.def_ 5 (d := D_law_gcd) rfl
  have F_law_gcd : Fun K "_law_gcd" "_law_gcd" s_law_gcd (He.ga K "_law_gcd") d_law_gcd := toFun H_law_gcd
  have b_law_gcd := F_law_gcd.binds (ps := ["_law_one", "_law_other"]) fun _ _ _ _ _ _ us hl => match us, hl with | [_, _], _ => rfl
  obtain ⟨d_law_lowest, H_law_lowest⟩ := c.d.def_ 6 (d := D_law_lowest) rfl
  have F_law_lowest : Fun K "_law_lowest" "_law_lowest" s_law_lowest (He.ga K "_law_lowest") d_law_lowest := toFun H_law_lowest
  have b_law_lowest := F_law_lowest.binds (ps := ["_law_row_here", "_law_under"]) fun _ _ _ _ _ _ us hl => match us, hl with | [_, _], _ => rfl
  obtain ⟨d_law_value, H_law_value⟩ := c.d.def_ 7 (d := D_law_value) rfl
  have F_law_value : Fun K "_law_value" "_law_value" s_law_value (He.ga K "_law_value") d_law_value := toFun H_law_value
  have b_law_value := F_law_value.binds (ps := ["_law_row_here", "_law_base"]) fun _ _ _ _ _ _ us hl => match us, hl with | [_, _], _ => rfl
  obtain ⟨d_law_made, H_law_made⟩ := c.d.def_ 8 (d := D_law_made) rfl
  have F_law_made : Fun K "_law_made" "_law_made" s_law_made (He.ga K "_law_made") d_law_made := toFun H_law_made
  have b_law_made := F_law_made.binds (ps := ["_law_row_here", "_law_under"]) fun _ _ _ _ _ _ us hl => match us, hl with | [_, _], _ => rfl
  obtain ⟨d_law_row, H_law_row⟩ := c.d.def_ 9 (d := D_law_row) rfl
  have F_law_row : Fun K "_law_row" "_law_row" s_law_row (He.ga K "_law_row") d_law_row := toFun H_law_row
  have b_law_row := F_law_row.binds (ps := ["_law_deal_here", "_law_amount", "_law_most"]) fun _ _ _ _ _ _ us hl => match us, hl with | [_, _, _], _ => rfl
  obtain ⟨d_law_at, H_law_at⟩ := c.d.def_ 10 (d := D_law_at) rfl
  have F_law_at : Fun K "_law_at" "_law_at" s_law_at (He.ga K "_law_at") d_law_at := toFun H_law_at
  have b_law_at := F_law_at.binds (ps := ["_law_term", "_law_base"]) fun _ _ _ _ _ _ us hl => match us, hl with | [_, _], _ => rfl
  obtain ⟨d_law_refused, H_law_refused⟩ := c.d.def_ 11 (d := D_law_refused) rfl
  have F_law_refused : Fun K "_law_refused" "_law_refused" s_law_refused (He.ga K "_law_refused") d_law_refused := toFun H_law_refused
  have b_law_refused := F_law_refused.binds (ps := ["_law_row_here", "_law_under"]) fun _ _ _ _ _ _ us hl => match us, hl with | [_, _], _ => rfl
  obtain ⟨d_law, H_law⟩ := c.d.def_ 12 (d := D_law) rfl
  have F_law : Fun K "law" "law" s_law (He.ga K "law") d_law := toFun H_law
  have b_law := F_law.binds (ps := ["_law_script"]) fun _ _ _ _ _ _ us hl => match us, hl with | [_], _ => rfl
  obtain ⟨d_InvalidTerm_init, H_InvalidTerm_init⟩ := c.d.def_ 13 (d := D_InvalidTerm_init) rfl
  have F_InvalidTerm_init : Fun K "__init__" "InvalidTerm.__init__" s_InvalidTerm_init (He.ma K (He.ga K "InvalidTerm") "__init__") d_InvalidTerm_init := toFun H_InvalidTerm_init
  have b_InvalidTerm_init := F_InvalidTerm_init.binds (ps := ["self", "word"]) fun _ _ _ _ _ _ us hl => match us, hl with | [_, _], _ => rfl
  obtain ⟨d_Term_init, H_Term_init⟩ := c.d.def_ 14 (d := D_Term_init) rfl
  have F_Term_init := H_Term_init
  obtain ⟨d_Term_degree, H_Term_degree⟩ := c.d.def_ 15 (d := D_Term_degree) rfl
  have F_Term_degree : Fun K "degree" "Term.degree" s_Term_degree (pgAt K (He.ga K "Term") "degree") d_Term_degree := toFun H_Term_degree
  have b_Term_degree := F_Term_degree.binds (ps := ["self"]) fun _ _ _ _ _ _ us hl => match us, hl with | [_], _ => rfl
  obtain ⟨d_Term_call, H_Term_call⟩ := c.d.def_ 16 (d := D_Term_call) rfl
  have F_Term_call : Fun K "__call__" "Term.__call__" s_Term_call (He.ma K (He.ga K "Term") "__call__") d_Term_call := toFun H_Term_call
  have b_Term_call := F_Term_call.binds (ps := ["self", "base"]) fun _ _ _ _ _ _ us hl => match us, hl with | [_, _], _ => rfl
  obtain ⟨d_Term_eq, H_Term_eq⟩ := c.d.def_ 17 (d := D_Term_eq) rfl
  have F_Term_eq : Fun K "__eq__" "Term.__eq__" s_Term_eq (He.ma K (He.ga K "Term") "__eq__") d_Term_eq := toFun H_Term_eq
  have b_Term_eq := F_Term_eq.binds (ps := ["self", "other"]) fun _ _ _ _ _ _ us hl => match us, hl with | [_, _], _ => rfl
  have K_InvalidTerm : ErrK K (He.ga K "InvalidTerm") := { cls := errCls tailV (bitA c 2 1 rfl rfl), sa := (of_decide_eq_true (bitA c 2 2 rfl rfl)), ga := (of_decide_eq_true (bitA c 2 3 rfl rfl)), gg := (of_decide_eq_true (bitA c 2 4 rfl rfl)), exC := (of_decide_eq_true (bitA c 2 6 rfl rfl)), kC := (bitA c 2 5 rfl rfl), hdC := (bitA c 2 7 rfl rfl), isC := (bitA c 2 8 rfl rfl), ha := (of_decide_eq_true (bitA c 2 9 rfl rfl)), hn := (of_decide_eq_true (bitA c 4 1 rfl rfl)), ht := (of_decide_eq_true (bitA c 4 2 rfl rfl)), hm := (of_decide_eq_true (bitA c 2 10 rfl rfl)) }
  have E_InvalidTerm : ErrR K mg "InvalidTerm" "word" (He.ga K "InvalidTerm") (He.ma K (He.ga K "InvalidTerm") "__init__") := ⟨(PySem.W.mg_of X G (of_decide_eq_true (bitA c 2 0 rfl rfl))), ⟨K_InvalidTerm, (of_decide_eq_true (bitA c 2 17 rfl rfl)), (of_decide_eq_true (bitA c 2 18 rfl rfl)), (of_decide_eq_true (bitA c 2 16 rfl rfl))⟩, (of_decide_eq_true (bitA c 2 11 rfl rfl)), (of_decide_eq_true (bitA c 2 12 rfl rfl))⟩
  have K_NotWhole : ErrK K (He.ga K "NotWhole") := { cls := errCls tailV (bitA c 3 1 rfl rfl), sa := (of_decide_eq_true (bitA c 3 2 rfl rfl)), ga := (of_decide_eq_true (bitA c 3 3 rfl rfl)), gg := (of_decide_eq_true (bitA c 3 4 rfl rfl)), exC := (of_decide_eq_true (bitA c 3 6 rfl rfl)), kC := (bitA c 3 5 rfl rfl), hdC := (bitA c 3 7 rfl rfl), isC := (bitA c 3 8 rfl rfl), ha := (of_decide_eq_true (bitA c 3 9 rfl rfl)), hn := (of_decide_eq_true (bitA c 4 1 rfl rfl)), ht := (of_decide_eq_true (bitA c 4 2 rfl rfl)), hm := (of_decide_eq_true (bitA c 3 10 rfl rfl)) }
  have E_NotWhole : ErrR0 K mg "NotWhole" (He.ga K "NotWhole") := ⟨(PySem.W.mg_of X G (of_decide_eq_true (bitA c 3 0 rfl rfl))), ⟨K_NotWhole, (bitA c 3 16 rfl rfl)⟩, (of_decide_eq_true (bitA c 3 11 rfl rfl)), (of_decide_eq_true (bitA c 3 12 rfl rfl))⟩
  have T : Txt K mg (He.ga K "is_integer") (He.ga K "reduced") (He.ga K "value") (He.ga K "_law_deal") (He.ga K "_law_draw") (He.ga K "_law_gcd") (He.ga K "_law_lowest") (He.ga K "_law_value") (He.ga K "_law_made") (He.ga K "_law_row") (He.ga K "_law_at") (He.ga K "_law_refused") (He.ga K "law") (He.ma K (He.ga K "InvalidTerm") "__init__") (He.ma K (He.ga K "Term") "__init__") (pgAt K (He.ga K "Term") "degree") (He.ma K (He.ga K "Term") "__call__") (He.ma K (He.ga K "Term") "__eq__") (He.ga K "InvalidTerm") (He.ga K "NotWhole") (He.ga K "FigureError") (He.ga K "Term") d_is_integer d_reduced d_value d_law_deal d_law_draw d_law_gcd d_law_lowest d_law_value d_law_made d_law_row d_law_at d_law_refused d_law d_InvalidTerm_init d_Term_init d_Term_degree d_Term_call d_Term_eq := ⟨F_is_integer,
    b_is_integer,
    (PySem.W.mg_of X G (of_decide_eq_true (bitA c 0 0 rfl rfl))),
    F_reduced,
    b_reduced,
    (PySem.W.mg_of X G (of_decide_eq_true (bitA c 0 1 rfl rfl))),
    F_value,
    b_value,
    (PySem.W.mg_of X G (of_decide_eq_true (bitA c 0 2 rfl rfl))),
    F_law_deal,
    b_law_deal,
    (PySem.W.mg_of X G (of_decide_eq_true (bitA c 0 3 rfl rfl))),
    F_law_draw,
    b_law_draw,
    (PySem.W.mg_of X G (of_decide_eq_true (bitA c 0 4 rfl rfl))),
    F_law_gcd,
    b_law_gcd,
    (PySem.W.mg_of X G (of_decide_eq_true (bitA c 0 5 rfl rfl))),
    F_law_lowest,
    b_law_lowest,
    (PySem.W.mg_of X G (of_decide_eq_true (bitA c 0 6 rfl rfl))),
    F_law_value,
    b_law_value,
    (PySem.W.mg_of X G (of_decide_eq_true (bitA c 0 7 rfl rfl))),
    F_law_made,
    b_law_made,
    (PySem.W.mg_of X G (of_decide_eq_true (bitA c 0 8 rfl rfl))),
    F_law_row,
    b_law_row,
    (PySem.W.mg_of X G (of_decide_eq_true (bitA c 0 9 rfl rfl))),
    F_law_at,
    b_law_at,
    (PySem.W.mg_of X G (of_decide_eq_true (bitA c 0 10 rfl rfl))),
    F_law_refused,
    b_law_refused,
    (PySem.W.mg_of X G (of_decide_eq_true (bitA c 0 11 rfl rfl))),
    F_law,
    b_law,
    (PySem.W.mg_of X G (of_decide_eq_true (bitA c 0 12 rfl rfl))),
    F_InvalidTerm_init,
    b_InvalidTerm_init,
    F_Term_init,
    F_Term_degree,
    b_Term_degree,
    F_Term_call,
    b_Term_call,
    F_Term_eq,
    b_Term_eq,
    E_InvalidTerm,
    E_NotWhole,
    (of_decide_eq_true (bitA c 2 13 rfl rfl)),
    (of_decide_eq_true (bitA c 3 13 rfl rfl)),
    (of_decide_eq_true (bitA c 2 14 rfl rfl)),
    (of_decide_eq_true (bitA c 2 15 rfl rfl)),
    (of_decide_eq_true (bitA c 3 14 rfl rfl)),
    (of_decide_eq_true (bitA c 3 15 rfl rfl)),
    ⟨⟨(bitA c 5 1 rfl rfl), (bitA c 5 2 rfl rfl), (bitA c 5 3 rfl rfl), (of_decide_eq_true (bitA c 5 4 rfl rfl))⟩, (of_decide_eq_true (bitA c 5 5 rfl rfl)), (of_decide_eq_true (bitA c 4 1 rfl rfl)), (of_decide_eq_true (bitA c 4 2 rfl rfl)), (of_decide_eq_true (bitA c 5 6 rfl rfl)), (of_decide_eq_true (bitA c 5 7 rfl rfl))⟩,
    ⟨(of_decide_eq_true (bitA c 5 8 rfl rfl)), (of_decide_eq_true (bitA c 5 6 rfl rfl))⟩,
    (of_decide_eq_true (bitA c 5 9 rfl rfl)),
    (of_decide_eq_true (bitA c 5 10 rfl rfl)),
    (of_decide_eq_true (bitA c 5 11 rfl rfl)),
    (of_decide_eq_true (bitA c 5 12 rfl rfl)),
    (noA (bitA c 5 13 rfl rfl)),
    (noA (bitA c 5 14 rfl rfl)),
    (noA (bitA c 5 15 rfl rfl)),
    propB_ok (bitA c 5 18 rfl rfl),
    ⟨(of_decide_eq_true (bitA c 5 19 rfl rfl)), (bitA c 5 20 rfl rfl)⟩,
    ⟨(of_decide_eq_true (bitA c 5 21 rfl rfl)), (bitA c 5 22 rfl rfl)⟩,
    ⟨(bitA c 5 23 rfl rfl), (of_decide_eq_true (bitA c 5 16 rfl rfl)), (bitA c 5 17 rfl rfl), (bitA c 6 0 rfl rfl)⟩,
    (PySem.W.mg_of X G (of_decide_eq_true (bitA c 4 0 rfl rfl))),
    (PySem.W.mg_of X G (of_decide_eq_true (bitA c 5 0 rfl rfl))),
    (PySem.W.mg_of X G (of_decide_eq_true (bitA c 0 13 rfl rfl))),
    (PySem.W.mg_none_of X G (of_decide_eq_true (bitA c 1 0 rfl rfl))),
    (PySem.W.mg_none_of X G (of_decide_eq_true (bitA c 1 1 rfl rfl))),
    (PySem.W.mg_none_of X G (of_decide_eq_true (bitA c 1 2 rfl rfl))),
    (PySem.W.mg_none_of X G (of_decide_eq_true (bitA c 1 3 rfl rfl))),
    (PySem.W.mg_none_of X G (of_decide_eq_true (bitA c 1 4 rfl rfl))),
    (PySem.W.mg_none_of X G (of_decide_eq_true (bitA c 1 5 rfl rfl))),
    (PySem.W.mg_none_of X G (of_decide_eq_true (bitA c 1 6 rfl rfl))),
    (PySem.W.mg_none_of X G (of_decide_eq_true (bitA c 1 7 rfl rfl))),
    (PySem.W.mg_none_of X G (of_decide_eq_true (bitA c 1 8 rfl rfl))),
    (PySem.W.mg_none_of X G (of_decide_eq_true (bitA c 1 9 rfl rfl))),
    (PySem.W.mg_none_of X G (of_decide_eq_true (bitA c 1 10 rfl rfl))),
    (PySem.W.mg_none_of X G (of_decide_eq_true (bitA c 1 11 rfl rfl))),
    (PySem.W.mg_none_of X G (of_decide_eq_true (bitA c 1 12 rfl rfl)))⟩
  exact ⟨d_law, fun s v => FunD.bindsA (ps := ["_law_script"]) H_law (fun _ _ _ _ _ _ us hl => match us, hl with | [_], _ => rfl) s [v] rfl, fun base _ _ => ok_law T⟩
end My
open PySem PySem.W PySem.Calls PyProof.Rows
set_option maxHeartbeats 0 in
theorem PySem.Challenge.cw_everybase_k24_terms_made_holds : PySem.Challenge.rw_everybase_k24_terms_made.Holds := by
  w_on; o_law
  refine HandSHeadRun.head_imp (r := OpenLaw.row PySem.Challenge.rw_everybase_k24_terms_made) (q := PySem.W.view My.RL.prog [0, 36]) (H := My.hkL) (ob := My.obL) (M := 100000) (loose := My.looseL) (d := HandSHeadRun.topDef (OpenLaw.row PySem.Challenge.rw_everybase_k24_terms_made).prog 36) (kwd := []) My.obL_eq
    My.runL (by kernel_rfl) (by kernel_rfl) (by kernel_rfl) (by rfl) (by first | assumption | decide +kernel) (by decide +kernel) ⟨rfl, rfl, rfl, rfl, rfl, by decide +kernel⟩ ?hw ?hc
  case hw => w_witness2
  case hc =>
    refine My.walkGE (l := PySem.Challenge.rw_everybase_k24_terms_made) (n := 63) (k := 40) (x := "_law_script") (CX := L2.CX0) rfl (by decide) (by kernel_rfl) ⟨rfl, by decide, by decide⟩ ?F (fun _ _ _ _ z => z)
    intro w mg fa h Y G hmg0
    obtain ⟨K, KX, c⟩ := Y
    have hmg : mg ("law" : PySem.Str) = some (.ref fa) := by
      have e : (HandSHeadRun.topDef (OpenLaw.row PySem.Challenge.rw_everybase_k24_terms_made).prog 36).name = ("law" : PySem.Str) := by kernel_rfl
      rw [← e]
      exact hmg0
    obtain ⟨fd, hb, hF⟩ := My.factsL (P := (PySem.Challenge.rw_everybase_k24_terms_made).prog) (w := w) KX G hmg c
    exact ⟨K, fd, My.sp_law K, KX, hb, fun H a ns hl _ hS => ⟨a, ns, rfl, hS, hl, fun _ => rfl⟩, hF⟩
