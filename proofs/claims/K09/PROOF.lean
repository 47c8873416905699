import PyProof.Rows.All
import Wide.All
import OpenK.AllK
import Wide.FinOn
import HandS.ForMost
import HandS.Wide
import HandS.WideBits
import HandS.IsInst
import HandS.Flow
import HandS.ForExc
import HandS.ExcIs
import HandS.SortKw
import HandS.SortRule
import HandS.SortInts
import HandS.Sort
import HandS.Deep
import HandS.Style
import HandS.Conv
import HandS.RevRange
import HandS.TryOnly
import HandS.Strs
import HandS.Rev
import KE.DatumOrd
import HandS.TryElse
import HandS.SetFor
import HandS.Gcd

import PySem.Challenge.RW_timekernel_k09_rates_seen_gone_through
set_option Elab.async false
set_option linter.all false
set_option maxRecDepth 100000
/-! Defs of the text by their names, and calls of them. -/
namespace TK
open PySem PySem.Spec PyProof.Rows L2
/-- fd stands at f, under the module's name x, and takes its arguments by place -/
structure Stands (K : PySem.W.Frag) (mg : Str → Option Value) (x : Str) (ps : List Str) (f : Addr) (fd : FuncData) : Prop where
  lk : ∃ (oc : Value) (od : Option Addr) (osl : Array (Option Value)), K.lookup f = some ⟨oc, od, .func fd, osl⟩
  mg : mg x = some (.ref f)
  kp : PySem.W.keepIn K (.ref f) = true
  bd : ∀ us : List Value, us.length = ps.length → bindArgs fd ⟨us, []⟩ = pure (ps.zip us)
theorem Stands.same {K : PySem.W.Frag} {mg : Str → Option Value} {x : Str} {ps qs : List Str} {f g : Addr} {fd gd : FuncData} (a : Stands K mg x ps f fd) (b : Stands K mg x qs g gd) : f = g ∧ fd = gd := by
  have e : f = g := by
    have h := a.mg.symm.trans b.mg
    exact Value.ref.inj (Option.some.inj h)
  subst e
  obtain ⟨_, _, _, h1⟩ := a.lk
  obtain ⟨_, _, _, h2⟩ := b.lk
  rw [h1] at h2
  cases h2
  exact ⟨rfl, rfl⟩
/-- the def st stands under the module's name x -/
structure DefAt (K : PySem.W.Frag) (mg : Str → Option Value) (x : Str) (st : Stmt) (ps : List Str) : Prop where
  ex : ∃ (f : Addr) (fd : FuncData), Fun K x x st f fd ∧ Stands K mg x ps f fd
/-- what stands under the module's name x keeps the promise sp -/
structure Cal (P : Program) (w : World) (K : PySem.W.Frag) (mg : Str → Option Value) (base : Heap) (x : Str) (ps : List Str) (k : Nat) (sp : Sp) : Prop where
  ex : ∃ (f : Addr) (fd : FuncData), FnOk P w K mg base CX0 k f fd ps sp ∧ Stands K mg x ps f fd
section
variable {P : Program} {w : World} {K : PySem.W.Frag} {mg : Str → Option Value} {base : Heap} {x : Str} {st : Stmt} {N ps : List Str} {k : Nat} {sp : Sp}
theorem DefAt.cal (D : DefAt K mg x st ps) (S : FnScope N ps (defScope st)) (len : ∀ vs H Q E, sp vs H Q E → vs.length = ps.length)
    (hbody : ∀ (f : Addr) (cdv : Value) (A : Around) (outer : List Env) (s : Shared) (H : Hp) (vs : List V) (Q : VK) (E : XK), Room k (A.deeper (envOfC x (defScope st) s.heap.objs.size f cdv)) → sp vs H Q E →
      ∃ t, PSs (cxOf CX0 P w K mg base N x (defScope st) f cdv A outer s H E).nox (defBody st) t ∧ t { nx := fun _ H' => Q .non H', rt := Q } (start N vs) H) : Cal P w K mg base x ps (k + 1) sp := by
  obtain ⟨f, fd, F, b⟩ := D.ex
  exact ⟨f, fd, F.ok S len (hbody f), b⟩
theorem Cal.mono {j : Nat} (C : Cal P w K mg base x ps j sp) (h : j ≤ k) : Cal P w K mg base x ps k sp := by
  obtain ⟨f, fd, F, b⟩ := C.ex
  exact ⟨f, fd, F.mono h, b⟩
end
section
variable {X : Cx} {x : Str} {ps : List Str} {k : Nat} {sp : Sp} {p pos : Pos} {e : Expr} {es : List Expr} {t : TA}
theorem pe_cal {j : Nat} (C : Cal X.prog X.w X.K X.mg X.base x ps j sp) (hr : Room k X.A) (hg : Gl X x) (ha : PA X (e :: es) t) (hj : j ≤ k := by decide) (hdb : (x == ("__debug__" : Str)) = false := by decide)
    (he : starEach (e :: es) X.env = (false, eval e X.env) :: starEach es X.env := by rfl) (hpl : (backTo pos (starEach es X.env)).any (·.1) = false := by rfl) :
    PE X (.Call (.Name x p) (e :: es) [] pos) (tCall sp [] E0 t) := by
  obtain ⟨f, fd, F, b⟩ := C.ex
  exact pe_call F (hr.mono hj) hg b.mg b.kp (.all b.bd) .nil pass0 ha hdb he hpl
end
theorem defAt_mk {K : PySem.W.Frag} {h : Heap} {mg : Str → Option Value} {x : Str} {st : Stmt} {ps : List Str} {f : Addr} {oc : Value} {od an : Option Addr} {osl : Array (Option Value)} {kV doc pm cdv ct : Value} (X : K.In h) (G : h.Ns mainGlobals mg)
    (a : PySem.W.nsIn K mainGlobals x = some (some (.ref f)))
    (l : K.lookup f = some ⟨oc, od, .func (PySem.W.fnOf x x (defArgs st) (defBody st) (defScope st) .none kV doc pm an cdv ct), osl⟩)
    (c : PySem.W.codeIn K cdv x = true) (k : PySem.W.keepIn K (.ref f) = true)
    (b : ∀ (kV doc pm : Value) (an : Option Addr) (cdv ct : Value) (us : List Value), us.length = ps.length → bindArgs (PySem.W.fnOf x x (defArgs st) (defBody st) (defScope st) .none kV doc pm an cdv ct) ⟨us, []⟩ = pure (ps.zip us)) :
    DefAt K mg x st ps := ⟨f, _, fun_mk (st := st) l c k, ⟨_, _, _, l⟩, PySem.W.mg_of X G a, k, b kV doc pm an cdv ct⟩
theorem use {A B : Prop} (a : A) (f : A → B) : B := f a
/-- the law's own end -/
theorem law_end {P : Program} {w : World} {K : PySem.W.Frag} {mg : Str → Option Value} {st : Stmt} {fa : Addr} {k : Nat} {sp : Sp} {y : Str} (D : DefAt K mg "law" st [y]) (hfa : mg "law" = some (.ref fa))
    (F : ∀ base : Heap, K.In base → base.Ns mainGlobals mg → Cal P w K mg base "law" [y] k sp) :
    ∃ fd : FuncData, (∀ (s : Shared) (v : Value), BindsTo s fd ⟨[v], []⟩ [(y, v)]) ∧ ∀ base : Heap, K.In base → base.Ns mainGlobals mg → FnOk P w K mg base CX0 k fa fd [y] sp := by
  obtain ⟨f, fd, _, b⟩ := D.ex
  have e : f = fa := Value.ref.inj (Option.some.inj (b.mg.symm.trans hfa))
  subst e
  refine ⟨fd, fun s v => .of_eq (b.bd [v] rfl), fun base h1 h2 => ?_⟩
  obtain ⟨g, gd, G, b2⟩ := (F base h1 h2).ex
  obtain ⟨e1, e2⟩ := b.same b2
  subst e1 e2
  exact G
/-- what a def reckons without touching what is tracked -/
theorem same_upd {H : Hp} {p : Addr} {o : HO} (h : H p = none) : Same H (upd H p o) := fun b x e => by
  rw [upd_ne (ne_of_none e h)]
  exact e
theorem same_set {H H1 : Hp} {p : Addr} {o : HO} (s : Same H H1) (h : H p = none) : Same H (upd H1 p o) := fun b u e => by
  rw [upd_ne (ne_of_none e h)]
  exact s b u e
/-- what was tracked elsewhere than at a is as it was -/
def SameBut (a : Addr) (H H' : Hp) : Prop := ∀ b o, b ≠ a → H b = some o → H' b = some o
theorem SameBut.refl (a : Addr) (H : Hp) : SameBut a H H := fun _ _ _ h => h
theorem SameBut.trans {a : Addr} {H H1 H2 : Hp} (x : SameBut a H H1) (y : SameBut a H1 H2) : SameBut a H H2 := fun b o n h => y b o n (x b o n h)
theorem SameBut.of {a : Addr} {H H1 : Hp} (x : Same H H1) : SameBut a H H1 := fun b o _ h => x b o h
theorem sb_upd {H : Hp} {a : Addr} {o : HO} : SameBut a H (upd H a o) := fun b x n e => by
  rw [upd_ne n]
  exact e
theorem sb_new {H : Hp} {a p : Addr} {o : HO} (h : H p = none) : SameBut a H (upd H p o) := SameBut.of (same_upd h)
theorem SameBut.lst {a b : Addr} {H H1 : Hp} {xs : List V} {K : PySem.W.Frag} (s : SameBut a H H1) (n : b ≠ a) (h : SqL K H b xs) : SqL K H1 b xs := by
  rcases h with (h | ⟨o, h⟩) | h
  · exact .inl (.inl (s _ _ n h))
  · exact .inl (.inr ⟨o, s _ _ n h⟩)
  · exact .inr h
end TK
namespace TK
open PySem PySem.Spec PyProof.Rows L2
section
variable {X : Cx} {x : Str} {pos : Pos}
/-- a module's name for a whole number -/
theorem pe_gint {i : Int} (hg : Gl X x) (hm : ∃ t, X.mg x = some (.int i t)) (hd : (x == ("__debug__" : Str)) = false := by decide) : PE X (.Name x pos) (tC (.int i)) := by
  obtain ⟨t, hm⟩ := hm
  exact pe_glob hg hm ⟨_, rfl⟩ hd
end
theorem gint_mk {K : PySem.W.Frag} {h : Heap} {mg : Str → Option Value} {x : Str} {i : Int} {t : Tok} (X : K.In h) (G : h.Ns mainGlobals mg) (a : PySem.W.nsIn K mainGlobals x = some (some (.int i t))) : ∃ t, mg x = some (.int i t) := ⟨t, PySem.W.mg_of X G a⟩
end TK
namespace TK
open PySem PySem.Spec PyProof.Rows L2
/-- * of two numbers, one of them below 2 ^ 64 in size, or both below 2 ^ 400 -/
def CMulE (i j : Int) : Prop := CMul i j ∨ CMulX i j
theorem mulE1 {i j : Int} (h0 : -18446744073709551616 < i) (h1 : i < 18446744073709551616) : CMulE i j := .inl (.inl ⟨by omega, by omega⟩)
theorem mulE2 {i j : Int} (h0 : -18446744073709551616 < j) (h1 : j < 18446744073709551616) : CMulE i j := .inl (.inr ⟨by omega, by omega⟩)
theorem mulE3 {i j : Int} (h0 : i.natAbs < 2 ^ 400) (h1 : j.natAbs < 2 ^ 400) : CMulE i j := .inr (mulx_ok h0 h1 (by decide))
/-- e comes out as r -/
structure IsR (e r : Int) : Prop where
  eq : e = r
section
variable {X : Cx}
theorem op_mulE : OpR X (binaryOp .Mult) (rI CMulE fun i j => .int (i * j)) := opI fun _ _ _ _ _ _ _ hc q => mul_int q (hc.elim CMul.ok CMulX.ok)
/-- a power, a shift to the left, with what comes out told by an equation -/
theorem op_powE : OpR X (binaryOp .Pow) (fun x y H Q => ∃ i j, x = .int i ∧ y = .int j ∧ CPow i j ∧ ∃ r, IsR (i ^ j.toNat) r ∧ Q (.int r) H) := by
  intro pins s σ H x y v u Q I rx ry h
  obtain ⟨i, j, rfl, rfl, c, r, ⟨rfl⟩, q⟩ := h
  exact op_pow pins s σ H _ _ v u Q I rx ry ⟨_, _, rfl, rfl, c, q⟩
theorem op_shlE : OpR X (binaryOp .LShift) (fun x y H Q => ∃ i j, x = .int i ∧ y = .int j ∧ CShl i j ∧ ∃ r, IsR (i * 2 ^ j.toNat) r ∧ Q (.int r) H) := by
  intro pins s σ H x y v u Q I rx ry h
  obtain ⟨i, j, rfl, rfl, c, r, ⟨rfl⟩, q⟩ := h
  exact op_shlW pins s σ H _ _ v u Q I rx ry ⟨_, _, rfl, rfl, c, q⟩
end
theorem posLen {n : Nat} (h : Nat.ble 1 n = true) : (0 : Int) < n := by
  have := Nat.le_of_ble_eq_true h
  omega
theorem ltLen {n : Nat} (h : Nat.ble n 1000 = true) : (n : Int) < 1606938044258990275541962092341162602522202993782792835301376 := by
  have := Nat.le_of_ble_eq_true h
  omega
theorem w200 {i m : Int} (h0 : 0 < m) (h : m  < 1606938044258990275541962092341162602522202993782792835301376) : CDivW i m := wide_div h0 (b := 200) (by omega) (by decide) (by decide)
theorem shl400 {i j : Int} (h : i.natAbs < 2 ^ 400) (h0 : 0 ≤ j) (h1 : j ≤ 1000) : CShl i j := by
  have e : j = (j.toNat : Int) := by omega
  rw [e]
  exact shl_ok h (by omega)
/-- a list of whole numbers with a property -/
def AllI (p : Int → Prop) (xs : List V) : Prop := ∀ v ∈ xs, ∃ i, v = .int i ∧ p i
theorem AllI.nil {p : Int → Prop} : AllI p [] := fun _ h => by cases h
theorem AllI.cons {p : Int → Prop} {i : Int} {xs : List V} (h : p i) (t : AllI p xs) : AllI p (.int i :: xs) := fun v hv => by
  rcases List.mem_cons.mp hv with e | e
  · exact ⟨i, e, h⟩
  · exact t v e
theorem AllI.app {p : Int → Prop} {xs ys : List V} (h : AllI p xs) (t : AllI p ys) : AllI p (xs ++ ys) := fun v hv => by
  rcases List.mem_append.mp hv with e | e
  · exact h v e
  · exact t v e
theorem AllI.pick {p : Int → Prop} {xs : List V} (h : AllI p xs) {r : Int} (h0 : 0 ≤ r) (h1 : r < xs.length) : ∃ i, atI xs r = some (.int i) ∧ p i := by
  have hk : r.toNat < xs.length := by omega
  obtain ⟨i, e, hp⟩ := h _ (List.getElem_mem hk)
  refine ⟨i, at_of (j := r.toNat) (by omega) ?_, hp⟩
  rw [List.getElem?_eq_getElem hk, e]
theorem mul_le {x y a b : Int} (x0 : 0 ≤ x) (x1 : x ≤ a) (y0 : 0 ≤ y) (y1 : y ≤ b) : 0 ≤ x * y ∧ x * y ≤ a * b :=
  ⟨Int.mul_nonneg x0 y0, Int.mul_le_mul x1 y1 y0 (Int.le_trans x0 x1)⟩
theorem pos_pow (s : Nat) : (0 : Int) < 2 ^ s := Int.pow_pos (by decide)
theorem ifD {c A B : Prop} [Decidable c] (h : c) (a : A) : if decide c = true then A else B := by
  rw [if_pos (decide_eq_true h)]
  exact a
theorem ifN {c A B : Prop} [Decidable c] (h : ¬ c) (b : B) : if decide c = true then A else B := by
  rw [if_neg (by rw [decide_eq_false h]; decide)]
  exact b
theorem ifDn {c A B : Prop} [Decidable c] (h : c) (b : B) : if (!decide c) = true then A else B := by
  rw [decide_eq_true h]
  exact iteF b
theorem ifNn {c A B : Prop} [Decidable c] (h : ¬ c) (a : A) : if (!decide c) = true then A else B := by
  rw [decide_eq_false h]
  exact iteT a
theorem ifE {x y : Int} {A B : Prop} (h : x = y) (a : A) : if decide (V.int x = V.int y) = true then A else B := ifD (by rw [h]) a
theorem ifNE {x y : Int} {A B : Prop} (h : ¬ x = y) (b : B) : if decide (V.int x = V.int y) = true then A else B := ifN (fun e => h (V.int.inj e)) b
theorem ifEn {x y : Int} {A B : Prop} (h : x = y) (b : B) : if (!decide (V.int x = V.int y)) = true then A else B := by
  rw [decide_eq_true (show V.int x = V.int y by rw [h])]
  exact iteF b
theorem ifNEn {x y : Int} {A B : Prop} (h : ¬ x = y) (a : A) : if (!decide (V.int x = V.int y)) = true then A else B := by
  rw [decide_eq_false (show ¬ V.int x = V.int y from fun e => h (V.int.inj e))]
  exact iteT a
/-- a source of draws stands at a -/
def Src (H : Hp) (a : Addr) : Prop := ∃ x y n : Int, H a = some (.lst [.int x, .int y, .int n])
/-- draws were made of the source at a -/
structure Dr (a : Addr) (H H' : Hp) : Prop where
  src : Src H' a
  but : SameBut a H H'
theorem Dr.trans {a : Addr} {H H1 H2 : Hp} (x : Dr a H H1) (y : Dr a H1 H2) : Dr a H H2 := ⟨y.src, x.but.trans y.but⟩
theorem Dr.refl {a : Addr} {H : Hp} (x : Src H a) : Dr a H H := ⟨x, .refl _ _⟩
theorem Src.new {a p : Addr} {H : Hp} {o : HO} (x : Src H a) (h : H p = none) : Src (upd H p o) a := by
  obtain ⟨u, v, n, e⟩ := x
  exact ⟨u, v, n, by rw [upd_ne (ne_of_none e h)]; exact e⟩
theorem Dr.new {a p : Addr} {H H1 : Hp} {o : HO} (x : Dr a H H1) (h : H1 p = none) : Dr a H (upd H1 p o) := ⟨x.src.new h, x.but.trans (sb_new h)⟩
theorem Src.ne {a p : Addr} {H : Hp} (x : Src H a) (h : H p = none) : p ≠ a := by
  obtain ⟨u, v, n, e⟩ := x
  exact (ne_of_none e h).symm
theorem Dr.free {a p : Addr} {H H1 : Hp} (x : Dr a H H1) (h : H1 p = none) : H p = none := by
  cases q : H p with
  | none => rfl
  | some o =>
    rw [x.but p o (x.src.ne h) q] at h
    cases h
theorem Dr.at {a p : Addr} {H H1 : Hp} {o : HO} (d : Dr a H H1) (n : p ≠ a) (h : H p = some o) : H1 p = some o := d.but p o n h
theorem upd_at {p q : Addr} {H : Hp} {o u : HO} (h : H p = some o) (n : H q = none) : upd H q u p = some o := (upd_ne (ne_of_none h n)).trans h
theorem upd_at' {p q : Addr} {H : Hp} {o u : HO} (h : H p = some o) (n : p ≠ q) : upd H q u p = some o := (upd_ne n).trans h
theorem Src.set {a p : Addr} {H : Hp} {o : HO} (x : Src H a) (n : p ≠ a) : Src (upd H p o) a := by
  obtain ⟨u, v, m, e⟩ := x
  exact ⟨u, v, m, by rw [upd_ne n.symm]; exact e⟩
theorem Dr.set {a p : Addr} {H H1 : Hp} {o : HO} (x : Dr a H H1) (h : H p = none) (n : p ≠ a) : Dr a H (upd H1 p o) := ⟨x.src.set n, fun b u nb e => by
  rw [upd_ne (ne_of_none e h)]
  exact x.but b u nb e⟩
theorem Dr.same {p : Addr} {H H1 : Hp} {o : HO} (d : Dr p (upd H p o) H1) (h : H p = none) : Same H H1 := fun b u e => by
  have n := ne_of_none e h
  exact d.but b u n (by rw [upd_ne n]; exact e)
theorem Src.made {p : Addr} {H : Hp} {x y n : Int} : Src (upd H p (.lst [.int x, .int y, .int n])) p := ⟨x, y, n, upd_same⟩
theorem Src.same {a : Addr} {H H' : Hp} (x : Src H a) (s : Same H H') : Src H' a := by
  obtain ⟨u, v, n, e⟩ := x
  exact ⟨u, v, n, s _ _ e⟩
end TK

/-! ### comprehensions whose elements change nothing -/
namespace TK
open PySem PySem.Spec PyProof.Rows L2
section
variable {K : PySem.W.Frag} {a : Addr} {g : TG} {tt : TT} {te : TE} {vs : List Nat} {σ : L2.St} {H : Hp} {D : Addr} {Qd : Hp → Prop}
theorem take_snoc {ys : List V} {i : Nat} {y : V} (h : ys[i]? = some y) : ys.take i ++ [y] = ys.take (i + 1) := by
  rw [List.take_add_one, h]
  rfl
theorem lc_listP {xs ys : List V} (hD : H D = none) (hl : SqL K H a xs) (n : ys.length = xs.length) (sz : ys.length ≤ sizeLine)
    (hs : ∀ (i : Nat) (x y : V) (R : V → Hp → Prop) (F : Hp → Prop), xs[i]? = some x → ys[i]? = some y → R y (upd H D (.lst (ys.take i))) →
      g x (wipe σ vs) (upd H D (.lst (ys.take i))) fun σ2 H2 => wipe σ2 vs = wipe σ vs ∧ tt σ2 H2 fun b H3 => if b = true then te σ2 H3 R else F H3)
    (hd : Qd (upd H D (.lst ys))) :
    ∃ W : Nat → Nat → Hp → Prop, (∃ m, W 0 m (upd H D (.lst []))) ∧ ∀ i m H, W i m H →
      ((Itl K a).stop i H ∧ Qd H) ∨ ((Itl K a).go i H ∧ ∃ Nx : Hp → Prop, (∀ H', Nx H' → ∃ m', m' < m ∧ W (i + 1) m' H') ∧ ∀ x H', (Itl K a).yld i H x H' → g x (wipe σ vs) H' fun σ2 H2 => wipe σ2 vs = wipe σ vs ∧ tt σ2 H2 fun b H3 =>
        if b = true then te σ2 H3 fun y H4 => ∃ acc, H4 D = some (.lst acc) ∧ acc.length < sizeLine ∧ Nx (upd H4 D (.lst (acc ++ [y]))) else Nx H3) := by
  refine lc_list (K := K) (a := a) (xs := xs) (H1 := H) (Qd := Qd) (fun i H' => H' = upd H D (.lst (ys.take i))) (by rw [List.take_zero]) (fun i H' _ e => ?_) (fun i x H' hx e => ?_) (fun H' e => ?_)
  · subst e
    exact (same_upd hD).seq hl
  · subst e
    have hi : i < xs.length := (List.getElem?_eq_some_iff.mp hx).1
    have hy : ys[i]? = some ys[i] := List.getElem?_eq_getElem (by omega)
    refine hs i x ys[i] _ _ hx hy ⟨ys.take i, upd_same, ?_, ?_⟩
    · rw [List.length_take]
      omega
    · rw [upd_upd, take_snoc hy]
  · subst e
    rw [List.take_of_length_le (by omega)]
    exact hd
theorem lc_rangeP {lo : Int} {m : Nat} {ys : List V} (hD : H D = none) (n : ys.length = m) (sz : ys.length ≤ sizeLine)
    (hs : ∀ (i : Nat) (y : V) (R : V → Hp → Prop) (F : Hp → Prop), i < m → ys[i]? = some y → R y (upd H D (.lst (ys.take i))) →
      g (.int (lo + i)) (wipe σ vs) (upd H D (.lst (ys.take i))) fun σ2 H2 => wipe σ2 vs = wipe σ vs ∧ tt σ2 H2 fun b H3 => if b = true then te σ2 H3 R else F H3)
    (hd : Qd (upd H D (.lst ys))) :
    ∃ W : Nat → Nat → Hp → Prop, (∃ m, W 0 m (upd H D (.lst []))) ∧ ∀ i k H, W i k H →
      ((Itr lo m).stop i H ∧ Qd H) ∨ ((Itr lo m).go i H ∧ ∃ Nx : Hp → Prop, (∀ H', Nx H' → ∃ m', m' < k ∧ W (i + 1) m' H') ∧ ∀ x H', (Itr lo m).yld i H x H' → g x (wipe σ vs) H' fun σ2 H2 => wipe σ2 vs = wipe σ vs ∧ tt σ2 H2 fun b H3 =>
        if b = true then te σ2 H3 fun y H4 => ∃ acc, H4 D = some (.lst acc) ∧ acc.length < sizeLine ∧ Nx (upd H4 D (.lst (acc ++ [y]))) else Nx H3) := by
  refine lc_range (H1 := H) (Qd := Qd) (fun i H' => H' = upd H D (.lst (ys.take i))) (by rw [List.take_zero]) (fun i H' hi e => ?_) (fun H' e => ?_)
  · subst e
    have hy : ys[i]? = some ys[i] := List.getElem?_eq_getElem (by omega)
    refine hs i ys[i] _ _ hi hy ⟨ys.take i, upd_same, ?_, ?_⟩
    · rw [List.length_take]
      omega
    · rw [upd_upd, take_snoc hy]
  · subst e
    rw [List.take_of_length_le (by omega)]
    exact hd
theorem rep_at {α : Type} {n i : Nat} {x y : α} (h : (List.replicate n x)[i]? = some y) : y = x := List.eq_of_mem_replicate (List.mem_of_getElem? h)
theorem rep_bl (n : Nat) : (List.replicate n true).map V.bl = List.replicate n (V.bl true) := List.map_replicate
theorem all_rep (n : Nat) : (List.replicate n true).all id = true := by
  rw [List.all_eq_true]
  intro x hx
  rw [List.eq_of_mem_replicate hx]
  rfl
/-- the numbers below n that pass p -/
def kept (p : Nat → Bool) (n : Nat) : List Nat := (List.range n).filter p
theorem kept_succ (p : Nat → Bool) (n : Nat) : kept p (n + 1) = if p n = true then kept p n ++ [n] else kept p n := by
  unfold kept
  rw [List.range_succ, List.filter_append]
  cases h : p n with
  | true => simp [h]
  | false => simp [h]
theorem kept_len (p : Nat → Bool) (n : Nat) : (kept p n).length ≤ n := by
  unfold kept
  exact Nat.le_trans (List.length_filter_le _ _) (by rw [List.length_range]; exact Nat.le_refl _)
theorem lc_rangeF {lo : Int} {m : Nat} {p : Nat → Bool} {f : Nat → V} (hD : H D = none) (sz : m ≤ sizeLine)
    (hs : ∀ (i : Nat) (R : V → Hp → Prop) (F : Hp → Prop), i < m → (p i = true → R (f i) (upd H D (.lst ((kept p i).map f)))) → (p i = false → F (upd H D (.lst ((kept p i).map f)))) →
      g (.int (lo + i)) (wipe σ vs) (upd H D (.lst ((kept p i).map f))) fun σ2 H2 => wipe σ2 vs = wipe σ vs ∧ tt σ2 H2 fun b H3 => if b = true then te σ2 H3 R else F H3)
    (hd : Qd (upd H D (.lst ((kept p m).map f)))) :
    ∃ W : Nat → Nat → Hp → Prop, (∃ m, W 0 m (upd H D (.lst []))) ∧ ∀ i k H, W i k H →
      ((Itr lo m).stop i H ∧ Qd H) ∨ ((Itr lo m).go i H ∧ ∃ Nx : Hp → Prop, (∀ H', Nx H' → ∃ m', m' < k ∧ W (i + 1) m' H') ∧ ∀ x H', (Itr lo m).yld i H x H' → g x (wipe σ vs) H' fun σ2 H2 => wipe σ2 vs = wipe σ vs ∧ tt σ2 H2 fun b H3 =>
        if b = true then te σ2 H3 fun y H4 => ∃ acc, H4 D = some (.lst acc) ∧ acc.length < sizeLine ∧ Nx (upd H4 D (.lst (acc ++ [y]))) else Nx H3) := by
  refine lc_range (H1 := H) (Qd := Qd) (fun i H' => H' = upd H D (.lst ((kept p i).map f))) rfl (fun i H' hi e => ?_) (fun H' e => ?_)
  · subst e
    refine hs i _ _ hi (fun hp => ⟨(kept p i).map f, upd_same, ?_, ?_⟩) (fun hp => ?_)
    · rw [List.length_map]
      have := kept_len p i
      omega
    · rw [upd_upd, kept_succ, if_pos hp, List.map_append]
      rfl
    · rw [kept_succ, if_neg (by rw [hp]; decide)]
  · subst e
    exact hd
end
end TK
/-! ### == of lists of whole numbers -/
namespace TK
open PySem PySem.Spec PyProof.Rows L2
section
variable {X : Cx} {K : PySem.W.Frag}
/-- within a comprehension the written part is the same -/
theorem ix_listK (h : X.K = K := by rfl) : IxR X (rIxL K) := by
  subst h
  exact ix_list
theorem ix_tupK (h : X.K = K := by rfl) : IxR X (rIxT K) := by
  subst h
  exact ix_tup
theorem pg_tupK {es : List Expr} {k : Nat} {t : TGs} (n : Nat) {pos : Pos} (h : PGs X es t) (hK : X.K = K := by rfl) (hc : X.calm = true := by rfl)
    (hn : (assignEach es X.env).length = n := by rfl) (hst : (assignEach es X.env).findIdx? (·.1) = none := by rfl) : PG X (.Tuple es k pos) (gTup K n t) := by
  subst hK
  exact pg_tup hc h hn hst
theorem call_lenK (h : X.K = K := by rfl) : CallR X (.builtin "len") (fun xs H Q => ∃ p ys, xs = [.ref p] ∧ (SqL K H p ys ∨ SqT K H p ys) ∧ Q (.int ys.length) H) := by
  subst h
  exact call_len_seq
end
theorem eqvAll_int : ∀ ns ms : List Int, PyData.eqvAll (ns.map PyData.int) (ms.map PyData.int) = decide (ns = ms)
  | [], [] => by simp [PyData.eqvAll]
  | [], _ :: _ => by simp [PyData.eqvAll]
  | _ :: _, [] => by simp [PyData.eqvAll]
  | a :: r, b :: t => by
    simp only [List.map_cons, PyData.eqvAll, PyData.eqv, eqvAll_int r t]
    by_cases h : a = b <;> by_cases h' : r = t <;> simp [h, h']
theorem lay_int : ∀ ns : List Int, PyData.canLayAll0 (ns.map PyData.int) = true
  | [] => rfl
  | _ :: r => by simp [PyData.canLayAll0, PyData.canLay0, lay_int r]
theorem deep_int : ∀ ns : List Int, PyData.depthAll (ns.map PyData.int) = 0
  | [] => rfl
  | _ :: r => by simp [PyData.depthAll, PyData.depth, deep_int r]
theorem shaped_int (ns : List Int) : SeqAt.shaped (.list (ns.map PyData.int)) = true := by
  simp [SeqAt.shaped, PyData.canLay0, PyData.depth, lay_int, deep_int]
theorem dpAll_int {K : PySem.W.Frag} {H : Hp} : ∀ ns : List Int, DpAll K H (ns.map V.int) (ns.map PyData.int)
  | [] => .nil
  | n :: r => .cons (.int n) (dpAll_int r)
section
variable {X : Cx}
theorem op_eqIL (hu : X.A.units + 64 < cLine) : OpR X (compareOp .Eq) (fun x y H Q => ∃ (a b : Addr) (ns ms : List Int), x = .ref a ∧ y = .ref b ∧ SqL X.K H a (ns.map V.int) ∧ SqL X.K H b (ms.map V.int) ∧ Q (.bl (decide (ns = ms))) H) := by
  intro pins s σ H x y v u Q I rx ry h
  obtain ⟨a, b, ns, ms, rfl, rfl, h1, h2, q⟩ := h
  refine op_eqD hu pins s σ H _ _ v u Q I rx ry ⟨_, _, .lst h1 (dpAll_int ns), .lst h2 (dpAll_int ms), shaped_int ns, shaped_int ms, ?_⟩
  rw [PyData.eqv, eqvAll_int]
  exact q
theorem op_neIL (hu : X.A.units + 64 < cLine) : OpR X (compareOp .NotEq) (fun x y H Q => ∃ (a b : Addr) (ns ms : List Int), x = .ref a ∧ y = .ref b ∧ SqL X.K H a (ns.map V.int) ∧ SqL X.K H b (ms.map V.int) ∧ Q (.bl (!decide (ns = ms))) H) := by
  intro pins s σ H x y v u Q I rx ry h
  obtain ⟨a, b, ns, ms, rfl, rfl, h1, h2, q⟩ := h
  refine op_neD hu pins s σ H _ _ v u Q I rx ry ⟨_, _, .lst h1 (dpAll_int ns), .lst h2 (dpAll_int ms), shaped_int ns, shaped_int ms, ?_⟩
  rw [PyData.eqv, eqvAll_int]
  exact q
end
theorem kept_first {p : Nat → Bool} {c n : Nat} (hp : p c = true) (hn : ∀ k, k < c → p k = false) (hc : c < n) : ∃ r, kept p n = c :: r := by
  have h0 : ∀ k, k ≤ c → kept p k = [] := by
    intro k
    induction k with
    | zero => intro _; rfl
    | succ k ih =>
      intro hk
      rw [kept_succ, if_neg (by rw [hn k (by omega)]; decide), ih (by omega)]
  have h1 : ∀ d, ∃ r, kept p (c + 1 + d) = c :: r := by
    intro d
    induction d with
    | zero => exact ⟨[], by rw [Nat.add_zero, kept_succ, if_pos hp, h0 c (Nat.le_refl _)]; rfl⟩
    | succ d ih =>
      obtain ⟨r, e⟩ := ih
      rw [show c + 1 + (d + 1) = (c + 1 + d) + 1 by omega, kept_succ, e]
      split
      · exact ⟨r ++ [c + 1 + d], rfl⟩
      · exact ⟨r, rfl⟩
  have := h1 (n - (c + 1))
  rw [show c + 1 + (n - (c + 1)) = n by omega] at this
  exact this
/-- the first n values of a function -/
def tab (f : Nat → Int) (n : Nat) : List Int := (List.range n).map f
theorem tab_len (f : Nat → Int) (n : Nat) : ((tab f n).map V.int).length = n := by
  unfold tab
  rw [List.length_map, List.length_map, List.length_range]
theorem tab_at {f : Nat → Int} {n i : Nat} {y : V} (h : ((tab f n).map V.int)[i]? = some y) : y = .int (f i) := by
  unfold tab at h
  rw [List.getElem?_map, List.getElem?_map] at h
  cases e : (List.range n)[i]? with
  | none => rw [e] at h; cases h
  | some k =>
    rw [e] at h
    obtain ⟨h1, h2⟩ := List.getElem?_eq_some_iff.mp e
    rw [List.getElem_range] at h2
    subst h2
    exact (Option.some.inj h).symm
theorem tab_get (f : Nat → Int) {n i : Nat} (h : i < n) : ((tab f n).map V.int)[i]? = some (.int (f i)) := by
  unfold tab
  rw [List.getElem?_map, List.getElem?_map, List.getElem?_range h]
  rfl
end TK
/-! ### a comprehension over zip; rows of pairs -/
namespace TK
open PySem PySem.Spec PyProof.Rows L2
section
variable {K : PySem.W.Frag} {a b : Addr} {g : TG} {tt : TT} {te : TE} {vs : List Nat} {σ : L2.St} {H : Hp} {D : Addr} {Qd : Hp → Prop}
theorem lc_zipS {xs ys zs : List V} (hD : H D = none) (hx : SqL K H a xs) (hy : SqL K H b ys) (n : zs.length = min xs.length ys.length) (sz : zs.length ≤ sizeLine)
    (hs : ∀ (i : Nat) (x y z : V) (T : Addr) (Hi : Hp) (R : V → Hp → Prop) (F : Hp → Prop), xs[i]? = some x → ys[i]? = some y → zs[i]? = some z → Same H Hi → Hi T = none → R z (upd Hi T (.tup [x, y])) →
      g (.ref T) (wipe σ vs) (upd Hi T (.tup [x, y])) fun σ2 H2 => wipe σ2 vs = wipe σ vs ∧ tt σ2 H2 fun b H3 => if b = true then te σ2 H3 R else F H3)
    (hd : ∀ H', Same H H' → H' D = some (.lst zs) → Qd H') :
    ∃ W : Nat → Nat → Hp → Prop, (∃ m, W 0 m (upd H D (.lst []))) ∧ ∀ i m H, W i m H →
      ((Itz K a b).stop i H ∧ Qd H) ∨ ((Itz K a b).go i H ∧ ∃ Nx : Hp → Prop, (∀ H', Nx H' → ∃ m', m' < m ∧ W (i + 1) m' H') ∧ ∀ x H', (Itz K a b).yld i H x H' → g x (wipe σ vs) H' fun σ2 H2 => wipe σ2 vs = wipe σ vs ∧ tt σ2 H2 fun b H3 =>
        if b = true then te σ2 H3 fun y H4 => ∃ acc, H4 D = some (.lst acc) ∧ acc.length < sizeLine ∧ Nx (upd H4 D (.lst (acc ++ [y]))) else Nx H3) := by
  refine ⟨fun i m H' => i + m = zs.length ∧ Same H H' ∧ H' D = some (.lst (zs.take i)), ⟨zs.length, by omega, same_upd hD, upd_same⟩, fun i m H' hW => ?_⟩
  obtain ⟨em, sm, eD⟩ := hW
  have hA : SqL K H' a xs := sm.seq hx
  have hB : SqL K H' b ys := sm.seq hy
  by_cases hi : i < zs.length
  · have h1 : i < xs.length := by omega
    have h2 : i < ys.length := by omega
    have g1 := List.getElem?_eq_getElem h1
    have g2 := List.getElem?_eq_getElem h2
    have g3 := List.getElem?_eq_getElem hi
    refine .inr ⟨⟨_, _, _, _, hA, hB, g1, g2⟩, fun H'' => Same H H'' ∧ H'' D = some (.lst (zs.take (i + 1))), fun H'' hN => ⟨m - 1, by omega, by omega, hN⟩, fun x H'' hy' => ?_⟩
    obtain ⟨T, x1, x2, rfl, nT, rfl, f1, f2⟩ := hy'
    have ex1 : x1 = xs[i] := Option.some.inj ((f1 _ hA).symm.trans g1)
    have ex2 : x2 = ys[i] := Option.some.inj ((f2 _ hB).symm.trans g2)
    subst ex1 ex2
    refine hs i _ _ zs[i] T H' _ _ g1 g2 g3 sm nT ⟨zs.take i, upd_at eD nT, ?_, ?_, ?_⟩
    · rw [List.length_take]
      omega
    · refine fun c o e => ?_
      rw [upd_ne (ne_of_none e hD)]
      exact same_upd nT _ _ (sm _ _ e)
    · rw [upd_same, take_snoc g3]
  · refine .inl ⟨⟨_, _, hA, hB, ?_⟩, hd _ sm ?_⟩
    · omega
    · rw [List.take_of_length_le (by omega)] at eD
      exact eD
end
theorem cut1 (xs : List V) : cutV xs (some 1) none = xs.drop 1 := by
  unfold cutV
  rw [show HT.sIx xs.length 0 (some 1) = min 1 xs.length from HT.sIx_nat xs.length 0 1, HT.sIx_none]
  cases xs with
  | nil => rfl
  | cons x r =>
    rw [show min 1 (x :: r).length = 1 by
      rw [List.length_cons]
      omega]
    show (List.take ((x :: r).length - 1) r) = r
    rw [List.length_cons, Nat.add_sub_cancel]
    exact List.take_length
/-- rows (i, m) as tuples -/
def Pairs (H : Hp) : List V → List (Int × Int) → Prop
  | [], [] => True
  | x :: xs, r :: rs => (∃ a, x = .ref a ∧ H a = some (.tup [.int r.1, .int r.2])) ∧ Pairs H xs rs
  | _, _ => False
theorem Pairs.same {H H' : Hp} (s : Same H H') : ∀ {xs : List V} {rs : List (Int × Int)}, Pairs H xs rs → Pairs H' xs rs
  | [], [], _ => trivial
  | _ :: _, _ :: _, h => ⟨by obtain ⟨a, e, h1⟩ := h.1; exact ⟨a, e, s _ _ h1⟩, Pairs.same s h.2⟩
  | [], _ :: _, h => h.elim
  | _ :: _, [], h => h.elim
/-- a list that is written over is none of the tuples -/
theorem Pairs.keep {H : Hp} {l : Addr} {ys zs : List V} (hl : H l = some (.lst ys)) : ∀ {xs : List V} {rs : List (Int × Int)}, Pairs H xs rs → Pairs (upd H l (.lst zs)) xs rs
  | [], [], _ => trivial
  | _ :: _, _ :: _, h => ⟨by
      obtain ⟨a, e, h1⟩ := h.1
      exact ⟨a, e, upd_at' h1 (ne_of h1 hl (by intro z; cases z))⟩, Pairs.keep hl h.2⟩
  | [], _ :: _, h => h.elim
  | _ :: _, [], h => h.elim
theorem Pairs.snoc {H : Hp} {p : Addr} {i m : Int} (hp : H p = some (.tup [.int i, .int m])) : ∀ {xs : List V} {rs : List (Int × Int)}, Pairs H xs rs → Pairs H (xs ++ [.ref p]) (rs ++ [(i, m)])
  | [], [], _ => ⟨⟨p, rfl, hp⟩, trivial⟩
  | _ :: _, _ :: _, h => ⟨h.1, Pairs.snoc hp h.2⟩
  | [], _ :: _, h => h.elim
  | _ :: _, [], h => h.elim
def pD (r : Int × Int) : PyData := .tuple [.int r.1, .int r.2]
theorem Pairs.dp {K : PySem.W.Frag} {H : Hp} : ∀ {xs : List V} {rs : List (Int × Int)}, Pairs H xs rs → DpAll K H xs (rs.map pD)
  | [], [], _ => .nil
  | _ :: _, _ :: _, h => by
    obtain ⟨a, e, h1⟩ := h.1
    subst e
    exact .cons (.tup (SqT.of h1) (.cons (.int _) (.cons (.int _) .nil))) (Pairs.dp h.2)
  | [], _ :: _, h => h.elim
  | _ :: _, [], h => h.elim
theorem lay_pairs : ∀ rs : List (Int × Int), PyData.canLayAll0 (rs.map pD) = true
  | [] => rfl
  | _ :: r => by simp [PyData.canLayAll0, PyData.canLay0, pD, lay_pairs r]
theorem deep_pairs : ∀ rs : List (Int × Int), PyData.depthAll (rs.map pD) ≤ 2
  | [] => by simp [PyData.depthAll]
  | _ :: r => by
    have := deep_pairs r
    simp [PyData.depthAll, PyData.depth, pD]
    omega
theorem shaped_pairs (rs : List (Int × Int)) : SeqAt.shaped (.list (rs.map pD)) = true := by
  have := deep_pairs rs
  simp [SeqAt.shaped, PyData.canLay0, PyData.depth, lay_pairs]
  omega
theorem Pairs.length {H : Hp} : ∀ {xs : List V} {rs : List (Int × Int)}, Pairs H xs rs → xs.length = rs.length
  | [], [], _ => rfl
  | _ :: _, _ :: _, h => by rw [List.length_cons, List.length_cons, Pairs.length h.2]
  | [], _ :: _, h => h.elim
  | _ :: _, [], h => h.elim
theorem eqv_pairs : ∀ rs ss : List (Int × Int), PyData.eqvAll (rs.map pD) (ss.map pD) = decide (rs = ss)
  | [], [] => by simp [PyData.eqvAll]
  | [], _ :: _ => by simp [PyData.eqvAll]
  | _ :: _, [] => by simp [PyData.eqvAll]
  | (a, b) :: r, (c, d) :: t => by
    simp only [List.map_cons, PyData.eqvAll, eqv_pairs r t]
    by_cases h1 : a = c <;> by_cases h2 : b = d <;> by_cases h' : r = t <;> simp [pD, PyData.eqv, PyData.eqvAll, h1, h2, h']
/-- a list of rows stands at l -/
structure Rows (H : Hp) (l : Addr) (rs : List (Int × Int)) : Prop where
  ex : ∃ xs, H l = some (.lst xs) ∧ Pairs H xs rs
theorem Rows.same {H H' : Hp} {l : Addr} {rs : List (Int × Int)} (s : Same H H') (h : Rows H l rs) : Rows H' l rs := by
  obtain ⟨xs, e, p⟩ := h.ex
  exact ⟨xs, s _ _ e, p.same s⟩
theorem Rows.add {H : Hp} {l t : Addr} {xs : List V} {rs : List (Int × Int)} {i m : Int} (hl : H l = some (.lst xs)) (p : Pairs H xs rs) (ht : H t = some (.tup [.int i, .int m])) : Rows (upd H l (.lst (xs ++ [.ref t]))) l (rs ++ [(i, m)]) :=
  ⟨_, upd_same, (Pairs.snoc ht p).keep hl⟩
section
variable {X : Cx}
theorem op_eqPL (hu : X.A.units + 64 < cLine) : OpR X (compareOp .Eq) (fun x y H Q => ∃ (a b : Addr) (rs ss : List (Int × Int)), x = .ref a ∧ y = .ref b ∧ Rows H a rs ∧ Rows H b ss ∧ Q (.bl (decide (rs = ss))) H) := by
  intro pins s σ H x y v u Q I rx ry h
  obtain ⟨a, b, ns, ms, rfl, rfl, ⟨⟨xs, h1, p1⟩⟩, ⟨⟨ys, h2, p2⟩⟩, q⟩ := h
  refine op_eqD hu pins s σ H _ _ v u Q I rx ry ⟨_, _, .lst (SqL.of h1) p1.dp, .lst (SqL.of h2) p2.dp, shaped_pairs ns, shaped_pairs ms, ?_⟩
  rw [PyData.eqv, eqv_pairs]
  exact q
theorem op_nePL (hu : X.A.units + 64 < cLine) : OpR X (compareOp .NotEq) (fun x y H Q => ∃ (a b : Addr) (rs ss : List (Int × Int)), x = .ref a ∧ y = .ref b ∧ Rows H a rs ∧ Rows H b ss ∧ Q (.bl (!decide (rs = ss))) H) := by
  intro pins s σ H x y v u Q I rx ry h
  obtain ⟨a, b, ns, ms, rfl, rfl, ⟨⟨xs, h1, p1⟩⟩, ⟨⟨ys, h2, p2⟩⟩, q⟩ := h
  refine op_neD hu pins s σ H _ _ v u Q I rx ry ⟨_, _, .lst (SqL.of h1) p1.dp, .lst (SqL.of h2) p2.dp, shaped_pairs ns, shaped_pairs ms, ?_⟩
  rw [PyData.eqv, eqv_pairs]
  exact q
end
end TK
namespace TK
open PySem PySem.Spec PyProof.Rows L2
/-- the i-th number of a list -/
def nth (ns : List Int) (i : Nat) : Int := ns.getD i 0
theorem nth_get {ns : List Int} {i : Nat} (h : i < ns.length) : (ns.map V.int)[i]? = some (.int (nth ns i)) := by
  unfold nth
  rw [List.getElem?_map, List.getElem?_eq_getElem h, List.getD_eq_getElem?_getD, List.getElem?_eq_getElem h]
  rfl
theorem nth_of {ns : List Int} {i : Nat} {y : V} (h : (ns.map V.int)[i]? = some y) : i < ns.length ∧ y = .int (nth ns i) := by
  have hi : i < ns.length := by
    have := (List.getElem?_eq_some_iff.mp h).1
    rw [List.length_map] at this
    exact this
  refine ⟨hi, ?_⟩
  rw [nth_get hi] at h
  exact (Option.some.inj h).symm
theorem at_nth {ns : List Int} {z : Int} (h0 : 0 ≤ z) (h1 : z < ns.length) : atI (ns.map V.int) z = some (.int (nth ns z.toNat)) := at_of (j := z.toNat) (by omega) (nth_get (by omega))
end TK
namespace TK
open PySem PySem.Spec PyProof.Rows L2
/-- a loop over zip of two lists, the shorter one's length -/
theorem for_zipS {K : PySem.W.Frag} {a b : Addr} {xs ys : List V} {g : TG} {tb : TS} {D : Ends} {σ : L2.St} {H : Hp} {n : Nat} (hn : n = min xs.length ys.length) (Pv : Nat → L2.St → Hp → Prop) (h0 : Pv 0 σ H)
    (hq : ∀ i σ H, Pv i σ H → SqL K H a xs ∧ SqL K H b ys)
    (hs : ∀ i x y T σ H, xs[i]? = some x → ys[i]? = some y → Pv i σ H → H T = none → g (.ref T) σ (upd H T (.tup [x, y])) fun σ2 H2 => tb { D with nx := Pv (i + 1), ct := Pv (i + 1), bk := D.nx } σ2 H2)
    (hd : ∀ σ H, Pv n σ H → D.nx σ H) :
    ∃ W : Nat → Nat → L2.St → Hp → Prop, (∃ m, W 0 m σ H) ∧ ∀ i m σ H, W i m σ H →
      ((Itz K a b).stop i H ∧ D.nx σ H) ∨ ((Itz K a b).go i H ∧ ∃ N : L2.St → Hp → Prop, (∀ σ' H', N σ' H' → ∃ m', m' < m ∧ W (i + 1) m' σ' H') ∧ ∀ v H', (Itz K a b).yld i H v H' → g v σ H' fun σ2 H2 => tb { D with nx := N, ct := N, bk := D.nx } σ2 H2) := by
  refine ⟨fun i m σ H => m = n - i ∧ i ≤ n ∧ Pv i σ H, ⟨n, by simp, Nat.zero_le _, h0⟩, ?_⟩
  rintro i m σ H ⟨rfl, hi, p⟩
  obtain ⟨hA, hB⟩ := hq i σ H p
  by_cases hlt : i < n
  · have h1 : i < xs.length := by omega
    have h2 : i < ys.length := by omega
    have g1 := List.getElem?_eq_getElem h1
    have g2 := List.getElem?_eq_getElem h2
    refine .inr ⟨⟨_, _, _, _, hA, hB, g1, g2⟩, Pv (i + 1), fun σ' H' p' => ⟨n - (i + 1), by omega, rfl, hlt, p'⟩, fun v H' hy => ?_⟩
    obtain ⟨T, x1, x2, rfl, nT, rfl, f1, f2⟩ := hy
    have ex1 : x1 = xs[i] := Option.some.inj ((f1 _ hA).symm.trans g1)
    have ex2 : x2 = ys[i] := Option.some.inj ((f2 _ hB).symm.trans g2)
    subst ex1 ex2
    exact hs i _ _ T σ H g1 g2 p nT
  · have e : i = n := by omega
    subst e
    exact .inl ⟨⟨_, _, hA, hB, by omega⟩, hd σ H p⟩
/-- a and b as a test, where b may add to the heap: what comes of False is told once -/
theorem and_cut {c : Bool} {T2 : Hp → (Bool → Hp → Prop) → Prop} {R : Bool → Hp → Prop} {H5 : Hp} (hr : ∀ H6, Same H5 H6 → R false H6) (ht : c = true → (∀ H6, Same H5 H6 → R false H6) → T2 H5 R) : if c = true then T2 H5 R else R false H5 := by
  cases c with
  | true => exact iteT (ht rfl hr)
  | false => exact iteF (hr H5 (Same.refl H5))
theorem cutLast (xs : List V) : cutV xs none (some (-1)) = xs.dropLast := by
  unfold cutV
  rw [HT.sIx_none]
  show (xs.drop 0).take ((if (-1 : Int) < 0 then (-1 + (xs.length : Int)).toNat else min (-1 : Int).toNat xs.length) - 0) = _
  rw [if_pos (by decide), List.drop_zero, List.dropLast_eq_take, show (-1 + (xs.length : Int)).toNat - 0 = xs.length - 1 by omega]
end TK
namespace TK
open PySem PySem.Spec PyProof.Rows L2
/-- while, with a number that falls; what comes of a turn is told once -/
theorem while_m {c : TT} {tb : TS} {D : Ends} {σ : L2.St} {H : Hp} (Pv : Nat → L2.St → Hp → Prop) {m0 : Nat} (h0 : Pv m0 σ H)
    (hs : ∀ m σ H, Pv m σ H → ∀ Bt : Hp → Prop, (∀ H1, tb { D with nx := fun σ' H' => ∃ m', m' < m ∧ Pv m' σ' H', ct := fun σ' H' => ∃ m', m' < m ∧ Pv m' σ' H', bk := D.nx } σ H1 → Bt H1) →
      c σ H fun b H1 => if b = true then Bt H1 else D.nx σ H1) : tWhile c tb D σ H :=
  ⟨Pv, ⟨m0, h0⟩, fun m σ H p => hs m σ H p _ (fun H1 h => ⟨_, fun σ' H' x => x, h⟩)⟩
/-- numbers of a list of numbers, by place -/
theorem mapI {f : Nat → Int} {l : List Nat} : l.map (fun k => V.int (f k)) = (l.map f).map V.int := by
  rw [List.map_map]
  rfl
theorem kept_nil {p : Nat → Bool} : ∀ {n : Nat}, (∀ k, k < n → p k = false) → kept p n = []
  | 0, _ => rfl
  | n + 1, h => by
    rw [kept_succ, if_neg (by rw [h n (by omega)]; decide)]
    exact kept_nil (fun k hk => h k (by omega))
theorem kept_last {p : Nat → Bool} {d n : Nat} (hp : p d = true) (hd : d < n) (hn : ∀ k, d < k → k < n → p k = false) : ∃ r, kept p n = r ++ [d] := by
  induction n with
  | zero => omega
  | succ n ih =>
    rw [kept_succ]
    by_cases e : d = n
    · subst e
      rw [if_pos hp]
      exact ⟨_, rfl⟩
    · rw [if_neg (by rw [hn n (by omega) (by omega)]; decide)]
      exact ih (by omega) (fun k h1 h2 => hn k h1 (by omega))
end TK
/-! ### comprehensions with a test, over lists and tuples -/
namespace TK
open PySem PySem.Spec PyProof.Rows L2
section
variable {K : PySem.W.Frag} {a : Addr} {g : TG} {tt : TT} {te : TE} {vs : List Nat} {σ : L2.St} {H : Hp} {D : Addr} {Qd : Hp → Prop}
theorem lc_itF {J : It} {xs : List V} {p : Nat → Bool} {f : Nat → V} (hD : H D = none) (jg : ∀ i H', Same H H' → i < xs.length → J.go i H') (jy : ∀ i H' x H'', Same H H' → J.yld i H' x H'' → H'' = H' ∧ xs[i]? = some x) (js : ∀ H', Same H H' → J.stop xs.length H') (sz : xs.length ≤ sizeLine)
    (hs : ∀ (i : Nat) (x : V) (R : V → Hp → Prop) (F : Hp → Prop), xs[i]? = some x → (p i = true → R (f i) (upd H D (.lst ((kept p i).map f)))) → (p i = false → F (upd H D (.lst ((kept p i).map f)))) →
      g x (wipe σ vs) (upd H D (.lst ((kept p i).map f))) fun σ2 H2 => wipe σ2 vs = wipe σ vs ∧ tt σ2 H2 fun b H3 => if b = true then te σ2 H3 R else F H3)
    (hd : Qd (upd H D (.lst ((kept p xs.length).map f)))) :
    ∃ W : Nat → Nat → Hp → Prop, (∃ m, W 0 m (upd H D (.lst []))) ∧ ∀ i m H, W i m H →
      (J.stop i H ∧ Qd H) ∨ (J.go i H ∧ ∃ Nx : Hp → Prop, (∀ H', Nx H' → ∃ m', m' < m ∧ W (i + 1) m' H') ∧ ∀ x H', J.yld i H x H' → g x (wipe σ vs) H' fun σ2 H2 => wipe σ2 vs = wipe σ vs ∧ tt σ2 H2 fun b H3 =>
        if b = true then te σ2 H3 fun y H4 => ∃ acc, H4 D = some (.lst acc) ∧ acc.length < sizeLine ∧ Nx (upd H4 D (.lst (acc ++ [y]))) else Nx H3) := by
  refine ⟨fun i m H' => i + m = xs.length ∧ H' = upd H D (.lst ((kept p i).map f)), ⟨xs.length, by omega, rfl⟩, fun i m H' hW => ?_⟩
  obtain ⟨em, e⟩ := hW
  have sm : Same H H' := by
    subst e
    exact same_upd hD
  by_cases hi : i < xs.length
  · refine .inr ⟨jg i H' sm hi, fun H'' => H'' = upd H D (.lst ((kept p (i + 1)).map f)), fun H'' hN => ⟨m - 1, by omega, by omega, hN⟩, fun x H'' hy => ?_⟩
    obtain ⟨e1, hx⟩ := jy i H' x H'' sm hy
    subst e1 e
    refine hs i x _ _ hx (fun hp => ⟨(kept p i).map f, upd_same, ?_, ?_⟩) (fun hp => ?_)
    · have := kept_len p i
      rw [List.length_map]
      omega
    · rw [upd_upd, kept_succ, if_pos hp, List.map_append]
      rfl
    · rw [kept_succ, if_neg (by rw [hp]; decide)]
  · have ei : i = xs.length := by omega
    subst ei e
    exact .inl ⟨js _ sm, hd⟩
theorem lc_listF {xs : List V} {p : Nat → Bool} {f : Nat → V} (hD : H D = none) (hl : SqL K H a xs) (sz : xs.length ≤ sizeLine)
    (hs : ∀ (i : Nat) (x : V) (R : V → Hp → Prop) (F : Hp → Prop), xs[i]? = some x → (p i = true → R (f i) (upd H D (.lst ((kept p i).map f)))) → (p i = false → F (upd H D (.lst ((kept p i).map f)))) →
      g x (wipe σ vs) (upd H D (.lst ((kept p i).map f))) fun σ2 H2 => wipe σ2 vs = wipe σ vs ∧ tt σ2 H2 fun b H3 => if b = true then te σ2 H3 R else F H3)
    (hd : Qd (upd H D (.lst ((kept p xs.length).map f)))) :
    ∃ W : Nat → Nat → Hp → Prop, (∃ m, W 0 m (upd H D (.lst []))) ∧ ∀ i m H, W i m H →
      ((Itl K a).stop i H ∧ Qd H) ∨ ((Itl K a).go i H ∧ ∃ Nx : Hp → Prop, (∀ H', Nx H' → ∃ m', m' < m ∧ W (i + 1) m' H') ∧ ∀ x H', (Itl K a).yld i H x H' → g x (wipe σ vs) H' fun σ2 H2 => wipe σ2 vs = wipe σ vs ∧ tt σ2 H2 fun b H3 =>
        if b = true then te σ2 H3 fun y H4 => ∃ acc, H4 D = some (.lst acc) ∧ acc.length < sizeLine ∧ Nx (upd H4 D (.lst (acc ++ [y]))) else Nx H3) :=
  lc_itF (J := Itl K a) hD (fun i H' sm hi => ⟨xs, _, sm.seq hl, List.getElem?_eq_getElem hi⟩) (fun i H' x H'' sm hy => ⟨hy.1, hy.2 _ (sm.seq hl)⟩) (fun H' sm => ⟨xs, sm.seq hl, Nat.le_refl _⟩) sz hs hd
theorem lc_tupF {xs : List V} {p : Nat → Bool} {f : Nat → V} (hD : H D = none) (hl : H a = some (.tup xs)) (sz : xs.length ≤ sizeLine)
    (hs : ∀ (i : Nat) (x : V) (R : V → Hp → Prop) (F : Hp → Prop), xs[i]? = some x → (p i = true → R (f i) (upd H D (.lst ((kept p i).map f)))) → (p i = false → F (upd H D (.lst ((kept p i).map f)))) →
      g x (wipe σ vs) (upd H D (.lst ((kept p i).map f))) fun σ2 H2 => wipe σ2 vs = wipe σ vs ∧ tt σ2 H2 fun b H3 => if b = true then te σ2 H3 R else F H3)
    (hd : Qd (upd H D (.lst ((kept p xs.length).map f)))) :
    ∃ W : Nat → Nat → Hp → Prop, (∃ m, W 0 m (upd H D (.lst []))) ∧ ∀ i m H, W i m H →
      ((Itt K a).stop i H ∧ Qd H) ∨ ((Itt K a).go i H ∧ ∃ Nx : Hp → Prop, (∀ H', Nx H' → ∃ m', m' < m ∧ W (i + 1) m' H') ∧ ∀ x H', (Itt K a).yld i H x H' → g x (wipe σ vs) H' fun σ2 H2 => wipe σ2 vs = wipe σ vs ∧ tt σ2 H2 fun b H3 =>
        if b = true then te σ2 H3 fun y H4 => ∃ acc, H4 D = some (.lst acc) ∧ acc.length < sizeLine ∧ Nx (upd H4 D (.lst (acc ++ [y]))) else Nx H3) :=
  lc_itF (J := Itt K a) hD (fun i H' sm hi => ⟨xs, _, SqT.of (sm _ _ hl), List.getElem?_eq_getElem hi⟩) (fun i H' x H'' sm hy => ⟨hy.1, hy.2 _ (SqT.of (sm _ _ hl))⟩) (fun H' sm => ⟨xs, SqT.of (sm _ _ hl), Nat.le_refl _⟩) sz hs hd
end
end TK
namespace TK
open PySem PySem.Spec PyProof.Rows L2
/-- a loop over enumerate of a list -/
theorem for_enumS {K : PySem.W.Frag} {a : Addr} {xs : List V} {g : TG} {tb : TS} {D : Ends} {σ : L2.St} {H : Hp} (Pv : Nat → L2.St → Hp → Prop) (h0 : Pv 0 σ H)
    (hq : ∀ i σ H, Pv i σ H → SqL K H a xs)
    (hs : ∀ i x T σ H, xs[i]? = some x → Pv i σ H → H T = none → g (.ref T) σ (upd H T (.tup [.int (i : Nat), x])) fun σ2 H2 => tb { D with nx := Pv (i + 1), ct := Pv (i + 1), bk := D.nx } σ2 H2)
    (hd : ∀ σ H, Pv xs.length σ H → D.nx σ H) :
    ∃ W : Nat → Nat → L2.St → Hp → Prop, (∃ m, W 0 m σ H) ∧ ∀ i m σ H, W i m σ H →
      ((Ite K a).stop i H ∧ D.nx σ H) ∨ ((Ite K a).go i H ∧ ∃ N : L2.St → Hp → Prop, (∀ σ' H', N σ' H' → ∃ m', m' < m ∧ W (i + 1) m' σ' H') ∧ ∀ v H', (Ite K a).yld i H v H' → g v σ H' fun σ2 H2 => tb { D with nx := N, ct := N, bk := D.nx } σ2 H2) := by
  refine ⟨fun i m σ H => m = xs.length - i ∧ i ≤ xs.length ∧ Pv i σ H, ⟨xs.length, by simp, Nat.zero_le _, h0⟩, ?_⟩
  rintro i m σ H ⟨rfl, hi, p⟩
  have hA := hq i σ H p
  by_cases hlt : i < xs.length
  · have g1 := List.getElem?_eq_getElem hlt
    refine .inr ⟨⟨_, _, hA, g1⟩, Pv (i + 1), fun σ' H' p' => ⟨xs.length - (i + 1), by omega, rfl, hlt, p'⟩, fun v H' hy => ?_⟩
    obtain ⟨T, x1, rfl, nT, rfl, f1⟩ := hy
    have ex1 : x1 = xs[i] := Option.some.inj ((f1 _ hA).symm.trans g1)
    subst ex1
    exact hs i _ T σ H g1 p nT
  · have e : i = xs.length := by omega
    subst e
    exact .inl ⟨⟨_, hA, by omega⟩, hd σ H p⟩
/-- a and b as a test, where b may change the heap: what comes of False is told once -/
theorem and_cutP {c : Bool} {T2 : Hp → (Bool → Hp → Prop) → Prop} {R : Bool → Hp → Prop} {H5 : Hp} (P : Hp → Prop) (h5 : P H5) (hr : ∀ H6, P H6 → R false H6) (ht : c = true → (∀ H6, P H6 → R false H6) → T2 H5 R) : if c = true then T2 H5 R else R false H5 := by
  cases c with
  | true => exact iteT (ht rfl hr)
  | false => exact iteF (hr H5 h5)
theorem ofF {A B : Prop} (h : if false = true then A else B) : B := by simpa using h
end TK
namespace TK
open PySem PySem.Spec PyProof.Rows L2
/-- an if whose two ways go on alike: what follows is told once -/
theorem ifs_cut {c : Bool} {tb tb2 : TS} {D : Ends} {σ : L2.St} {H : Hp} (Inv : L2.St → Hp → Prop) (hR : ∀ σ' H', Inv σ' H' → D.nx σ' H')
    (ht : c = true → (∀ σ' H', Inv σ' H' → D.nx σ' H') → tb D σ H) (he : c = false → (∀ σ' H', Inv σ' H' → D.nx σ' H') → tb2 D σ H) : if c = true then tb D σ H else tb2 D σ H := by
  cases c with
  | true => exact iteT (ht rfl hR)
  | false => exact iteF (he rfl hR)
end TK

/-! ### defs that raise errors of the program's own -/
namespace TK
open PySem PySem.Spec PyProof.Rows L2
/-- the error class under the module's name x, at C -/
structure ErrAt (K : PySem.W.Frag) (mg : Str → Option Value) (x : Str) (C : Addr) : Prop where
  g : mg x = some (.ref C)
  x : PySem.W.excIn K C [.type "ValueError", .type "Exception", .type "BaseException", .type "object"] "ValueError.__new__" = true
  k : PySem.W.keepIn K (.ref C) = true
  b : PySem.W.subIn K (.ref C) (.type "BaseException") = some true
  t : PySem.W.typeIn K (.ref C) = some (.type "type")
theorem errAt_mk {K : PySem.W.Frag} {h : Heap} {mg : Str → Option Value} {x : Str} {C : Addr} (X : K.In h) (G : h.Ns mainGlobals mg) (a : PySem.W.nsIn K mainGlobals x = some (some (.ref C)))
    (hx : PySem.W.excIn K C [.type "ValueError", .type "Exception", .type "BaseException", .type "object"] "ValueError.__new__" = true) (hk : PySem.W.keepIn K (.ref C) = true) (hb : PySem.W.subIn K (.ref C) (.type "BaseException") = some true) (ht : PySem.W.typeIn K (.ref C) = some (.type "type")) :
    ErrAt K mg x C := ⟨PySem.W.mg_of X G a, hx, hk, hb, ht⟩
structure CalX (P : Program) (w : World) (K : PySem.W.Frag) (mg : Str → Option Value) (base : Heap) (x : Str) (ps : List Str) (k : Nat) (sp : Sp) : Prop where
  ex : ∃ (f : Addr) (fd : FuncData), FnOk P w K mg base (L2.CX P w) k f fd ps sp ∧ Stands K mg x ps f fd
section
variable {P : Program} {w : World} {K : PySem.W.Frag} {mg : Str → Option Value} {base : Heap} {x : Str} {st : Stmt} {N ps : List Str} {k : Nat} {sp : Sp}
theorem DefAt.calX (D : DefAt K mg x st ps) (S : FnScope N ps (defScope st)) (len : ∀ vs H Q E, sp vs H Q E → vs.length = ps.length)
    (hbody : ∀ (f : Addr) (cdv : Value) (A : Around) (outer : List Env) (s : Shared) (H : Hp) (vs : List V) (Q : VK) (E : XK), Room k (A.deeper (envOfC x (defScope st) s.heap.objs.size f cdv)) → sp vs H Q E →
      ∃ t, PSs (cxOf (L2.CX P w) P w K mg base N x (defScope st) f cdv A outer s H E) (defBody st) t ∧ t { nx := fun _ H' => Q .non H', rt := Q } (start N vs) H) : CalX P w K mg base x ps (k + 1) sp := by
  obtain ⟨f, fd, F, b⟩ := D.ex
  exact ⟨f, fd, F.okX S len (hbody f), b⟩
end
section
variable {X : Cx} {x : Str} {ps : List Str} {k : Nat} {sp : Sp} {p p2 pos pos2 : Pos} {e : Expr} {es : List Expr} {t : TA} {C : Addr} {W : WX} {E : XK} {m : Str} {j : Nat}
theorem pe_calX {i : Nat} (C : CalX X.prog X.w X.K X.mg X.base x ps i sp) (hr : Room k X.A) (hg : Gl X x) (tk : Takes X (fun cls d _ H => E cls d H)) (ha : PA X (e :: es) t) (hj : i ≤ k := by decide) (hdb : (x == ("__debug__" : Str)) = false := by decide)
    (he : starEach (e :: es) X.env = (false, eval e X.env) :: starEach es X.env := by rfl) (hpl : (backTo pos (starEach es X.env)).any (·.1) = false := by rfl) :
    PE X (.Call (.Name x p) (e :: es) [] pos) (tCall sp [] E t) := by
  obtain ⟨f, fd, F, b⟩ := C.ex
  exact pe_call F (hr.mono hj) hg b.mg b.kp (.all b.bd) .nil (passes_call tk fun _ _ _ _ h => h) ha hdb he hpl
/-- the same in a try's body -/
theorem pe_calT {i : Nat} (C : CalX X.prog X.w X.K X.mg X.base x ps i sp) (hr : Room k X.A) (hg : Gl X x) (tk : Takes X W) (ha : PA X (e :: es) t) (hj : i ≤ k := by decide) (hdb : (x == ("__debug__" : Str)) = false := by decide)
    (he : starEach (e :: es) X.env = (false, eval e X.env) :: starEach es X.env := by rfl) (hpl : (backTo pos (starEach es X.env)).any (·.1) = false := by rfl) :
    PE X (.Call (.Name x p) (e :: es) [] pos) (tCallS sp (WE W) t) := by
  obtain ⟨f, fd, F, b⟩ := C.ex
  exact pe_callS F (hr.mono hj) hg b.mg b.kp (.all b.bd) (fun σ => passAt tk σ) ha hdb he hpl
/-- raise x('..') -/
theorem ps_raiseE (T : ErrAt X.K X.mg x C) (hc : X.calm = true) (tk : Takes X W) (hg : Gl X x) (hdb : (x == ("__debug__" : Str)) = false := by decide) :
    PS X (.Raise (some (.Call (.Name x p) [.Constant (.str m) j p2] [] pos)) none pos2) (fun _ σ H => W (.ref C) none σ H) :=
  ps_raise hc tk (pmk_own PySem.F.excBase_ValueError T.x T.g T.k (raises_own T.b T.t) hg hdb)
end
end TK

/-! ### min with default=None -/
namespace TK
open PySem PySem.Spec PyProof.Rows L2
def rMinDef (K : PySem.W.Frag) : List V → List V → Hp → VK → Prop := fun vs zs H Q => ∃ (a : Addr) (ns : List Int), vs = [V.ref a] ∧ zs = [V.non] ∧ SqL K H a (ns.map V.int) ∧ (ns = [] → Q .non H) ∧ (∀ n r, ns = n :: r → Q (.int (r.foldl min n)) H)
theorem cr_minDef {X : Cx} (hc : X.calm = true) (hu : X.A.units + 64 < cLine) : CallRK X (.builtin "min") [Str.ofString "default"] (rMinDef X.K) := by
  intro pins s σ H vs zs us ws Q I r rz h
  obtain ⟨a, ns, rfl, rfl, hs, q0, q1⟩ := h
  obtain rfl := Vals.ref1 r
  obtain ⟨w1, rfl, e1⟩ := vals1 rz
  obtain rfl : w1 = Value.none := e1
  obtain ⟨its, rv, hl, _⟩ := I.list hs
  obtain ⟨as, ra⟩ := Dp.readsAll I (ns.map PyData.int) _ _ (dpAll_int ns) rv
  refine PySem.W.min_list_default (xs := ns.map PyData.int) (as := as) (I.ok.hd hc) hl.isList (by first | exact ra | (rw [List.toList_toArray]; exact ra)) ⟨?_, ?_⟩ (by rw [deep_int]; omega) (fun e h' tk hk => ?_) (fun y ys i v h' tk bs e hi rd hk => ?_)
  · intro x hx y hy
    obtain ⟨i, _, rfl⟩ := List.mem_map.mp hx
    obtain ⟨j, _, rfl⟩ := List.mem_map.mp hy
    rfl
  · intro x hx
    obtain ⟨i, _, rfl⟩ := List.mem_map.mp hx
    intro h
    cases h
  · exact ⟨.non, H, I.kept hk, rfl, q0 (List.map_eq_nil_iff.mp e)⟩
  · cases ns with
    | nil => cases e
    | cons n r2 =>
      rw [List.map_cons] at e
      injection e with e1 e2
      subst e1 e2
      rw [PySem.W.minD_ints] at rd
      cases rd
      exact ⟨.int _, H, I.kept hk, ⟨_, rfl⟩, q1 n r2 rfl⟩
end TK
namespace TK
open PySem PySem.Spec PyProof.Rows L2
def rMinT (K : PySem.W.Frag) : List V → Hp → VK → Prop := fun vs H Q => ∃ (a : Addr) (x y : Int), vs = [V.ref a] ∧ SqT K H a [V.int x, V.int y] ∧ Q (.int (min x y)) H
theorem cr_minT {X : Cx} (hc : X.calm = true) (hu : X.A.units + 64 < cLine) : CallR X (.builtin "min") (rMinT X.K) := by
  intro pins s σ H vs us Q I r h
  obtain ⟨a, x, y, rfl, hs, q⟩ := h
  obtain rfl := Vals.ref1 r
  obtain ⟨its, rv, hl, _⟩ := I.tuple hs
  obtain ⟨as, ra⟩ := Dp.readsAll I [PyData.int x, PyData.int y] _ _ (.cons (.int x) (.cons (.int y) .nil)) rv
  refine PySem.W.min_tuple_data (x := PyData.int x) (xs := [PyData.int y]) (as := as) (I.ok.hd hc) hl (by first | exact ra | (rw [List.toList_toArray]; exact ra)) ⟨?_, ?_⟩ (by simp [PyData.depthAll, PyData.depth]; omega) (fun i v h' tk bs hi rd hk => ?_)
  · intro x hx y hy
    simp only [List.mem_cons, List.mem_nil_iff, or_false] at hx hy
    rcases hx with rfl | rfl <;> rcases hy with rfl | rfl <;> rfl
  · intro x hx
    simp only [List.mem_cons, List.mem_nil_iff, or_false] at hx
    rcases hx with rfl | rfl <;> (intro h; cases h)
  · have e := PySem.W.minD_ints x [y]
    rw [List.map_cons, List.map_nil] at e
    rw [e] at rd
    cases rd
    exact ⟨.int _, H, I.kept hk, ⟨_, rfl⟩, q⟩
end TK

/-! DM: what stands in the heap is told as data; slots hold data, lists of one's own stay writable. -/
namespace DM
open PySem PySem.Spec PyProof.Rows L2 TK
/-- data: what a value is, told without addresses (ref: a thing that is shared and may change) -/
inductive D where
  | non | bl (b : Bool) | int (i : Int) | str (x : Str) | ty (n : String) | ref (a : Addr)
  | tup (ds : List D) | lst (ds : List D) | kl (ds : List D) | kt (ds : List D) | dK (ks : List Key) (ds : List D)
/-- what is shared and may change: a source of draws, a list -/
inductive MO where
  | src | lst (ds : List D) | dk (es : List (Int × Int))
/-- a dict of whole numbers -/
def dkI (es : List (Int × Int)) : List (Key × V) := es.map fun p => (.inl p.1, .int p.2)
abbrev Mm := Addr → Option MO
def SqTa (K : PySem.W.Frag) (Av : Addr → Prop) (H : Hp) (a : Addr) (xs : List V) : Prop :=
  (¬ Av a ∧ Rd H a (.tup xs)) ∨
    ∃ (o : Obj) (its : Array Value) (n : Nat), K.lookup a = some o ∧ o.cls = .type "tuple" ∧ o.data = .seq its n ∧ its.size ≤ sizeLine ∧ Vals xs its.toList
def SqLa (K : PySem.W.Frag) (Av : Addr → Prop) (H : Hp) (a : Addr) (xs : List V) : Prop :=
  (¬ Av a ∧ Rd H a (.lst xs)) ∨
    ∃ (o : Obj) (its : Array Value) (n : Nat), K.lookup a = some o ∧ o.cls = .type "list" ∧ o.dict = none ∧ o.data = .seq its n ∧ its.size ≤ sizeLine ∧ Vals xs its.toList
theorem SqTa.sq {K : PySem.W.Frag} {Av : Addr → Prop} {H : Hp} {a : Addr} {xs : List V} (h : SqTa K Av H a xs) : SqT K H a xs := h.elim (fun h => .inl h.2) .inr
theorem SqLa.sq {K : PySem.W.Frag} {Av : Addr → Prop} {H : Hp} {a : Addr} {xs : List V} (h : SqLa K Av H a xs) : SqL K H a xs := h.elim (fun h => .inl h.2) .inr
mutual
/-- the value v is the data d, by what is not changed -/
inductive Hd (K : PySem.W.Frag) (Av : Addr → Prop) (H : Hp) : D → V → Prop
  | non : Hd K Av H .non .non
  | bl (b : Bool) : Hd K Av H (.bl b) (.bl b)
  | int (i : Int) : Hd K Av H (.int i) (.int i)
  | str (x : Str) : Hd K Av H (.str x) (.str x)
  | ty (n : String) : Hd K Av H (.ty n) (.ty n)
  | ref (a : Addr) : Hd K Av H (.ref a) (.ref a)
  | tup {a : Addr} {vs : List V} {ds : List D} : ¬ Av a → H a = some (.tup vs) → HdL K Av H ds vs → Hd K Av H (.tup ds) (.ref a)
  | kt {a : Addr} {vs : List V} {ds : List D} : SqTa K Av H a vs → HdL K Av H ds vs → Hd K Av H (.kt ds) (.ref a)
  | lst {a : Addr} {vs : List V} {ds : List D} : ¬ Av a → H a = some (.lst vs) → HdL K Av H ds vs → Hd K Av H (.lst ds) (.ref a)
  | kl {a : Addr} {vs : List V} {ds : List D} : SqLa K Av H a vs → HdL K Av H ds vs → Hd K Av H (.kl ds) (.ref a)
  | dK {a : Addr} {ks : List Key} {vs : List V} {ds : List D} : ¬ Av a → H a = some (.dK (ks.zip vs)) → ks.length = vs.length → HdL K Av H ds vs → Hd K Av H (.dK ks ds) (.ref a)
inductive HdL (K : PySem.W.Frag) (Av : Addr → Prop) (H : Hp) : List D → List V → Prop
  | nil : HdL K Av H [] []
  | cons {d : D} {v : V} {ds : List D} {vs : List V} : Hd K Av H d v → HdL K Av H ds vs → HdL K Av H (d :: ds) (v :: vs)
end
/-- what is not to be changed stays -/
def Fr (Av Av' : Addr → Prop) (H H' : Hp) : Prop := ∀ b o, ¬ Av b → H b = some o → H' b = some o ∧ ¬ Av' b
theorem Fr.refl {Av : Addr → Prop} {H : Hp} : Fr Av Av H H := fun _ _ n h => ⟨h, n⟩
theorem Fr.trans {Av Av1 Av2 : Addr → Prop} {H H1 H2 : Hp} (a : Fr Av Av1 H H1) (b : Fr Av1 Av2 H1 H2) : Fr Av Av2 H H2 := fun c o n h => by
  obtain ⟨h1, n1⟩ := a c o n h
  exact b c o n1 h1
theorem Fr.less {Av Av' : Addr → Prop} {H : Hp} (h : ∀ b, Av' b → Av b) : Fr Av Av' H H := fun b _ n e => ⟨e, fun q => n (h b q)⟩
section
variable {K : PySem.W.Frag} {Av Av' : Addr → Prop} {H H' : Hp}
theorem Fr.rd (f : Fr Av Av' H H') {a : Addr} {o : HO} (n : ¬ Av a) (h : Rd H a o) : ¬ Av' a ∧ Rd H' a o := by
  rcases h with h | ⟨ob, h⟩
  · exact ⟨(f _ _ n h).2, .inl (f _ _ n h).1⟩
  · exact ⟨(f _ _ n h).2, .inr ⟨ob, (f _ _ n h).1⟩⟩
theorem SqTa.fr (f : Fr Av Av' H H') {a : Addr} {xs : List V} (h : SqTa K Av H a xs) : SqTa K Av' H' a xs := h.elim (fun h => .inl (f.rd h.1 h.2)) .inr
theorem SqLa.fr (f : Fr Av Av' H H') {a : Addr} {xs : List V} (h : SqLa K Av H a xs) : SqLa K Av' H' a xs := h.elim (fun h => .inl (f.rd h.1 h.2)) .inr
mutual
theorem Hd.fr (f : Fr Av Av' H H') : ∀ {d : D} {v : V}, Hd K Av H d v → Hd K Av' H' d v
  | _, _, .non => .non
  | _, _, .bl b => .bl b
  | _, _, .int b => .int b
  | _, _, .str b => .str b
  | _, _, .ty b => .ty b
  | _, _, .ref b => .ref b
  | _, _, .tup n h l => .tup (f _ _ n h).2 (f _ _ n h).1 (HdL.fr f l)
  | _, _, .kt s l => .kt (s.fr f) (HdL.fr f l)
  | _, _, .lst n h l => .lst (f _ _ n h).2 (f _ _ n h).1 (HdL.fr f l)
  | _, _, .kl s l => .kl (s.fr f) (HdL.fr f l)
  | _, _, .dK n h e l => .dK (f _ _ n h).2 (f _ _ n h).1 e (HdL.fr f l)
theorem HdL.fr (f : Fr Av Av' H H') : ∀ {d : List D} {v : List V}, HdL K Av H d v → HdL K Av' H' d v
  | _, _, .nil => .nil
  | _, _, .cons a b => .cons (Hd.fr f a) (HdL.fr f b)
end
theorem HdL.length : ∀ {ds : List D} {vs : List V}, HdL K Av H ds vs → ds.length = vs.length
  | _, _, .nil => rfl
  | _, _, .cons _ t => by rw [List.length_cons, List.length_cons, HdL.length t]
theorem HdL.app : ∀ {ds es : List D} {vs us : List V}, HdL K Av H ds vs → HdL K Av H es us → HdL K Av H (ds ++ es) (vs ++ us)
  | _, _, _, _, .nil, s => s
  | _, _, _, _, .cons r t, s => .cons r (HdL.app t s)
theorem HdL.one {d : D} {v : V} (h : Hd K Av H d v) : HdL K Av H [d] [v] := .cons h .nil
theorem HdL.get : ∀ {ds : List D} {vs : List V} {i : Nat} {d : D}, HdL K Av H ds vs → ds[i]? = some d → ∃ v, vs[i]? = some v ∧ Hd K Av H d v
  | _, _, _, _, .nil, e => by simp at e
  | _, _, 0, _, .cons r _, e => by simp at e; subst e; exact ⟨_, rfl, r⟩
  | _, _, i + 1, d, .cons _ t, e => by
    obtain ⟨u, h1, h2⟩ := HdL.get (i := i) (d := d) t (by simpa using e)
    exact ⟨u, by simpa using h1, h2⟩
theorem HdL.get' : ∀ {ds : List D} {vs : List V} {i : Nat} {v : V}, HdL K Av H ds vs → vs[i]? = some v → ∃ d, ds[i]? = some d ∧ Hd K Av H d v
  | _, _, _, _, .nil, e => by simp at e
  | _, _, 0, _, .cons r _, e => by simp at e; subst e; exact ⟨_, rfl, r⟩
  | _, _, i + 1, d, .cons _ t, e => by
    obtain ⟨u, h1, h2⟩ := HdL.get' (i := i) (v := d) t (by simpa using e)
    exact ⟨u, by simpa using h1, h2⟩
theorem HdL.take : ∀ {ds : List D} {vs : List V} (n : Nat), HdL K Av H ds vs → HdL K Av H (ds.take n) (vs.take n)
  | _, _, 0, _ => .nil
  | _, _, _ + 1, .nil => .nil
  | _, _, n + 1, .cons r t => .cons r (HdL.take n t)
theorem HdL.drop : ∀ {ds : List D} {vs : List V} (n : Nat), HdL K Av H ds vs → HdL K Av H (ds.drop n) (vs.drop n)
  | _, _, 0, r => r
  | _, _, _ + 1, .nil => .nil
  | _, _, n + 1, .cons _ t => HdL.drop n t
theorem HdL.set : ∀ {ds : List D} {vs : List V} {d : D} {v : V} (n : Nat), Hd K Av H d v → HdL K Av H ds vs → HdL K Av H (ds.set n d) (vs.set n v)
  | _, _, _, _, _, _, .nil => .nil
  | _, _, _, _, 0, h, .cons _ t => .cons h t
  | _, _, _, _, n + 1, h, .cons r t => .cons r (HdL.set n h t)
theorem HdL.rev : ∀ {ds : List D} {vs : List V}, HdL K Av H ds vs → HdL K Av H ds.reverse vs.reverse
  | _, _, .nil => .nil
  | _, _, .cons r t => by
    rw [List.reverse_cons, List.reverse_cons]
    exact (HdL.rev t).app (.one r)
theorem HdL.dropLast {ds : List D} {vs : List V} (h : HdL K Av H ds vs) : HdL K Av H ds.dropLast vs.dropLast := by
  rw [List.dropLast_eq_take, List.dropLast_eq_take, h.length]
  exact h.take _
theorem HdL.rep {ds : List D} {vs : List V} (h : HdL K Av H ds vs) : ∀ k : Nat, HdL K Av H (List.replicate k ds).flatten (List.replicate k vs).flatten
  | 0 => .nil
  | k + 1 => by
    rw [List.replicate_succ, List.replicate_succ, List.flatten_cons, List.flatten_cons]
    exact h.app (HdL.rep h k)
theorem HdL.ints : ∀ {ns : List Int} {vs : List V}, HdL K Av H (ns.map D.int) vs → vs = ns.map V.int
  | [], _, .nil => rfl
  | n :: ns, _, .cons r t => by cases r; rw [List.map_cons, HdL.ints t]
theorem HdL.ofInts : ∀ {ns : List Int}, HdL K Av H (ns.map D.int) (ns.map V.int)
  | [] => .nil
  | n :: ns => .cons (.int n) HdL.ofInts
theorem HdL.bls : ∀ {ns : List Bool} {vs : List V}, HdL K Av H (ns.map D.bl) vs → vs = ns.map V.bl
  | [], _, .nil => rfl
  | n :: ns, _, .cons r t => by cases r; rw [List.map_cons, HdL.bls t]
theorem HdL.strs : ∀ {ns : List Str} {vs : List V}, HdL K Av H (ns.map D.str) vs → vs = ns.map V.str
  | [], _, .nil => rfl
  | n :: ns, _, .cons r t => by cases r; rw [List.map_cons, HdL.strs t]
end
/-- slots -/
inductive Sl where
  | un | val (d : D) | own (ds : List D)
abbrev Env := List Sl
/-- the callers' own lists, and which things are shared -/
structure CA where
  h : Hp
  d : Addr → Prop
def Av (A : CA) (B : Nat → Option Addr) (M : Mm) (b : Addr) : Prop := A.h b ≠ none ∨ (∃ i, B i = some b) ∨ M b ≠ none
def MOk (K : PySem.W.Frag) (Av : Addr → Prop) (H : Hp) (a : Addr) : MO → Prop
  | .src => ∃ x y n : Int, H a = some (.lst [.int x, .int y, .int n])
  | .lst ds => ∃ vs, H a = some (.lst vs) ∧ HdL K Av H ds vs
  | .dk es => H a = some (.dK (dkI es))
def SlOk (K : PySem.W.Frag) (Av : Addr → Prop) (H : Hp) (b : Option Addr) (v : Option V) : Sl → Prop
  | .un => True
  | .val d => ∃ x, v = some x ∧ Hd K Av H d x
  | .own ds => ∃ a vs, b = some a ∧ v = some (.ref a) ∧ H a = some (.lst vs) ∧ HdL K Av H ds vs
def CA.add (A : CA) (a : Addr) (o : HO) : CA := ⟨upd A.h a o, A.d⟩
/-- what is kept in mind of the beginning, as long as nothing else is written -/
class Gd where
  F : CA → (Addr → Prop) → Hp → Prop
  cl : ∀ {A : CA} {Av Av' : Addr → Prop} {H H' : Hp}, Fr Av Av' H H' → F A Av H → F A Av' H'
  add : ∀ {A : CA} {Av : Addr → Prop} {H : Hp} {a : Addr} {o : HO}, A.h a = none → F A Av H → F (A.add a o) Av H
instance (priority := low) Gd.triv : Gd := ⟨fun _ _ _ => True, fun _ _ => trivial, fun _ _ => trivial⟩
variable [Gd]
/-- the slots and the shared things, as they are told -/
structure ER (K : PySem.W.Frag) (A : CA) (B : Nat → Option Addr) (M : Mm) (ρ : Env) (σ : L2.St) (H : Hp) : Prop where
  len : σ.length = ρ.length
  sl : ∀ i s v, ρ[i]? = some s → σ[i]? = some v → SlOk K (Av A B M) H (B i) v s
  inj : ∀ i j a, B i = some a → B j = some a → i = j
  ob : ∀ a mo, M a = some mo → MOk K (Av A B M) H a mo
  tr : ∀ b, Av A B M b → H b ≠ none
  sepM : ∀ i a, B i = some a → M a = none
  sepA : ∀ a, A.h a ≠ none → M a = none
  sepB : ∀ i a, B i = some a → A.h a = none
  sn : ∀ b o, A.h b = some o → H b = some o
  md : ∀ b, A.d b → M b ≠ none
  gd : Gd.F A (Av A B M) H
/-- the shared things stay what they are; all else is as it was -/
def FrM (M M' : Mm) (H H' : Hp) : Prop := ∀ b o, M b = none → H b = some o → H' b = some o ∧ M' b = none
theorem FrM.refl {M : Mm} {H : Hp} : FrM M M H H := fun _ _ n h => ⟨h, n⟩
theorem FrM.trans {M M1 M2 : Mm} {H H1 H2 : Hp} (a : FrM M M1 H H1) (b : FrM M1 M2 H1 H2) : FrM M M2 H H2 := fun c o n h => by
  obtain ⟨h1, n1⟩ := a c o n h
  exact b c o n1 h1
/-- what may be read: also a list of one's own -/
def HdB (K : PySem.W.Frag) (A : CA) (B : Nat → Option Addr) (M : Mm) (H : Hp) (d : D) (v : V) : Prop :=
  Hd K (Av A B M) H d v ∨ ∃ ds a vs, d = .lst ds ∧ v = .ref a ∧ M a = none ∧ H a = some (.lst vs) ∧ HdL K (Av A B M) H ds vs
abbrev TED := Env → Mm → (D → Env → Mm → Prop) → Prop
abbrev TEN := Env → Mm → (List D → Env → Mm → Prop) → Prop
abbrev TTD := Env → Mm → (Bool → Env → Mm → Prop) → Prop
abbrev TAD := Env → Mm → (List D → Env → Mm → Prop) → Prop
def SimE (K : PySem.W.Frag) (t : TE) (t' : TED) : Prop := ∀ (A : CA) B M ρ σ H Q Q', ER K A B M ρ σ H → t' ρ M Q' →
  (∀ d ρ' M' B' v H', ER K A B' M' ρ' σ H' → Fr (Av A B M) (Av A B' M') H H' → FrM M M' H H' → Hd K (Av A B' M') H' d v → Q' d ρ' M' → Q v H') → t σ H Q
def SimB (K : PySem.W.Frag) (t : TE) (t' : TED) : Prop := ∀ (A : CA) B M ρ σ H Q Q', ER K A B M ρ σ H → t' ρ M Q' →
  (∀ d ρ' M' B' v H', ER K A B' M' ρ' σ H' → Fr (Av A B M) (Av A B' M') H H' → FrM M M' H H' → HdB K A B' M' H' d v → Q' d ρ' M' → Q v H') → t σ H Q
/-- .. a new list, in nobody else's hands: its address stands behind the slots -/
def SimN (K : PySem.W.Frag) (t : TE) (t' : TEN) : Prop := ∀ (A : CA) B M ρ σ H Q Q', ER K A B M ρ σ H → t' ρ M Q' →
  (∀ ds ρ' M' B' a vs H', ER K A B' M' ρ' σ H' → Fr (Av A B M) (Av A B' M') H H' → FrM M M' H H' → B' σ.length = some a → H' a = some (.lst vs) → HdL K (Av A B' M') H' ds vs → Q' ds ρ' M' → Q (.ref a) H') → t σ H Q
def SimT (K : PySem.W.Frag) (t : TT) (t' : TTD) : Prop := ∀ (A : CA) B M ρ σ H Q Q', ER K A B M ρ σ H → t' ρ M Q' →
  (∀ c ρ' M' B' H', ER K A B' M' ρ' σ H' → Fr (Av A B M) (Av A B' M') H H' → FrM M M' H H' → Q' c ρ' M' → Q c H') → t σ H Q
def SimA (K : PySem.W.Frag) (t : TA) (t' : TAD) : Prop := ∀ (A : CA) B M ρ σ H Q Q', ER K A B M ρ σ H → t' ρ M Q' →
  (∀ ds ρ' M' B' vs H', ER K A B' M' ρ' σ H' → Fr (Av A B M) (Av A B' M') H H' → FrM M M' H H' → HdL K (Av A B' M') H' ds vs → Q' ds ρ' M' → Q vs H') → t σ H Q
structure EndsD where
  nx : Env → Mm → Prop
  rt : D → Mm → Prop
  rn : List D → Mm → Prop := fun _ _ => False
  bk : Env → Mm → Prop := fun _ _ => False
  ct : Env → Mm → Prop := fun _ _ => False
abbrev TSD := EndsD → Env → Mm → Prop
structure EndsOk (K : PySem.W.Frag) (A : CA) (Av0 : Addr → Prop) (H0 : Hp) (D' : EndsD) (E : Ends) : Prop where
  nx : ∀ ρ M B σ H, ER K A B M ρ σ H → Fr Av0 (Av A B M) H0 H → D'.nx ρ M → E.nx σ H
  rt : ∀ d v ρ M B σ H, ER K A B M ρ σ H → Fr Av0 (Av A B M) H0 H → Hd K (Av A B M) H d v → D'.rt d M → E.rt v H
  rn : ∀ ds a vs ρ M B σ H, ER K A B M ρ σ H → Fr Av0 (Av A B M) H0 H → (∃ i, B i = some a) → H a = some (.lst vs) → HdL K (Av A B M) H ds vs → D'.rn ds M → E.rt (.ref a) H
  bk : ∀ ρ M B σ H, ER K A B M ρ σ H → Fr Av0 (Av A B M) H0 H → D'.bk ρ M → E.bk σ H
  ct : ∀ ρ M B σ H, ER K A B M ρ σ H → Fr Av0 (Av A B M) H0 H → D'.ct ρ M → E.ct σ H
def SimS (K : PySem.W.Frag) (t : TS) (t' : TSD) : Prop := ∀ (A : CA) B M ρ σ H E D', ER K A B M ρ σ H → t' D' ρ M → EndsOk K A (Av A B M) H D' E → t E σ H
theorem EndsOk.from {K : PySem.W.Frag} {A : CA} {Av0 Av1 : Addr → Prop} {H0 H1 : Hp} {D' : EndsD} {E : Ends} (f : Fr Av0 Av1 H0 H1) (e : EndsOk K A Av0 H0 D' E) : EndsOk K A Av1 H1 D' E :=
  ⟨fun ρ M B σ H r g q => e.nx ρ M B σ H r (f.trans g) q, fun d v ρ M B σ H r g h q => e.rt d v ρ M B σ H r (f.trans g) h q,
   fun ds a vs ρ M B σ H r g i h l q => e.rn ds a vs ρ M B σ H r (f.trans g) i h l q, fun ρ M B σ H r g q => e.bk ρ M B σ H r (f.trans g) q, fun ρ M B σ H r g q => e.ct ρ M B σ H r (f.trans g) q⟩
end DM

namespace DM
open PySem PySem.Spec PyProof.Rows L2 TK
variable [Gd]
section
variable {K : PySem.W.Frag} {A : CA} {B : Nat → Option Addr} {M : Mm} {ρ : Env} {σ : L2.St} {H : Hp}
def put (B : Nat → Option Addr) (i : Nat) (o : Option Addr) : Nat → Option Addr := fun j => if j = i then o else B j
theorem put_same {B : Nat → Option Addr} {i : Nat} {o : Option Addr} : put B i o i = o := by unfold put; rw [if_pos rfl]
theorem put_ne {B : Nat → Option Addr} {i j : Nat} {o : Option Addr} (h : j ≠ i) : put B i o j = B j := by unfold put; rw [if_neg h]
theorem av_put_none {i : Nat} {b : Addr} (h : Av A (put B i none) M b) : Av A B M b := by
  rcases h with h | ⟨j, h⟩ | h
  · exact .inl h
  · by_cases e : j = i
    · subst e; rw [put_same] at h; cases h
    · rw [put_ne e] at h; exact .inr (.inl ⟨j, h⟩)
  · exact .inr (.inr h)
theorem av_put_some {i : Nat} {a b : Addr} (h : Av A (put B i (some a)) M b) : Av A B M b ∨ b = a := by
  rcases h with h | ⟨j, h⟩ | h
  · exact .inl (.inl h)
  · by_cases e : j = i
    · subst e; rw [put_same] at h; exact .inr (Option.some.inj h).symm
    · rw [put_ne e] at h; exact .inl (.inr (.inl ⟨j, h⟩))
  · exact .inl (.inr (.inr h))
theorem SlOk.fr {Av Av' : Addr → Prop} {H H' : Hp} (f : Fr Av Av' H H') {b b' : Option Addr} {v : Option V} {s : Sl} (hb : ∀ a, b = some a → b' = some a ∧ ∀ o, H a = some o → H' a = some o) (h : SlOk K Av H b v s) : SlOk K Av' H' b' v s := by
  cases s with
  | un => trivial
  | val d => obtain ⟨x, e, q⟩ := h; exact ⟨x, e, q.fr f⟩
  | own ds =>
    obtain ⟨a, vs, e, ev, hl, q⟩ := h
    exact ⟨a, vs, (hb a e).1, ev, (hb a e).2 _ hl, q.fr f⟩
theorem MOk.fr {Av Av' : Addr → Prop} {H H' : Hp} (f : Fr Av Av' H H') {a : Addr} {mo : MO} (k : ∀ o, H a = some o → H' a = some o) (h : MOk K Av H a mo) : MOk K Av' H' a mo := by
  cases mo with
  | src => obtain ⟨x, y, n, e⟩ := h; exact ⟨x, y, n, k _ e⟩
  | lst ds => obtain ⟨vs, e, q⟩ := h; exact ⟨vs, k _ e, q.fr f⟩
  | dk es => exact k _ h
/-- one more shared thing -/
def addM (M : Mm) (p : Addr) (mo : MO) : Mm := fun b => if b = p then some mo else M b
theorem addM_same {M : Mm} {p : Addr} {mo : MO} : addM M p mo p = some mo := by unfold addM; rw [if_pos rfl]
theorem addM_ne {M : Mm} {p b : Addr} {mo : MO} (h : b ≠ p) : addM M p mo b = M b := by unfold addM; rw [if_neg h]
/-- an address that nobody tells of any more -/
theorem ER.drop (r : ER K A B M ρ σ H) {i : Nat} (hi : ρ.length ≤ i) : ER K A (put B i none) M ρ σ H ∧ Fr (Av A B M) (Av A (put B i none) M) H H := by
  have f : Fr (Av A B M) (Av A (put B i none) M) H H := .less fun b => av_put_none
  refine ⟨⟨r.len, fun j s v e1 e2 => ?_, fun j k a e1 e2 => ?_, fun a mo e => (r.ob a mo e).fr f fun _ h => h, fun b h => r.tr b (av_put_none h), fun j a e => ?_, r.sepA, fun j a e => ?_, r.sn, r.md, Gd.cl f r.gd⟩, f⟩
  · have hj : j ≠ i := by
      have := (List.getElem?_eq_some_iff.mp e1).1
      omega
    exact (r.sl j s v e1 e2).fr f fun a e => ⟨by rw [put_ne hj]; exact e, fun _ h => h⟩
  · have hj : j ≠ i := fun z => by subst z; rw [put_same] at e1; cases e1
    have hk : k ≠ i := fun z => by subst z; rw [put_same] at e2; cases e2
    rw [put_ne hj] at e1
    rw [put_ne hk] at e2
    exact r.inj j k a e1 e2
  · have hj : j ≠ i := fun z => by subst z; rw [put_same] at e; cases e
    rw [put_ne hj] at e
    exact r.sepM j a e
  · have hj : j ≠ i := fun z => by subst z; rw [put_same] at e; cases e
    rw [put_ne hj] at e
    exact r.sepB j a e
/-- a slot's own list is no longer written -/
theorem ER.fz (r : ER K A B M ρ σ H) {i : Nat} {ds : List D} (hi : ρ[i]? = some (.own ds)) : ∃ a vs, B i = some a ∧ σ[i]? = some (some (.ref a)) ∧ H a = some (.lst vs) ∧
    ER K A (put B i none) M (ρ.set i (.val (.lst ds))) σ H ∧ Fr (Av A B M) (Av A (put B i none) M) H H ∧ Hd K (Av A (put B i none) M) H (.lst ds) (.ref a) := by
  have hil : i < ρ.length := (List.getElem?_eq_some_iff.mp hi).1
  obtain ⟨sv, hsv⟩ : ∃ sv, σ[i]? = some sv := ⟨_, List.getElem?_eq_getElem (by rw [r.len]; exact hil)⟩
  obtain ⟨a, vs, eb, ev, hl, q⟩ := r.sl i _ sv hi hsv
  have f : Fr (Av A B M) (Av A (put B i none) M) H H := .less fun b => av_put_none
  have na : ¬ Av A (put B i none) M a := by
    rintro (h | ⟨j, h⟩ | h)
    · exact h (r.sepB i a eb)
    · have hj : j ≠ i := fun z => by subst z; rw [put_same] at h; cases h
      rw [put_ne hj] at h
      exact hj (r.inj j i a h eb)
    · exact h (r.sepM i a eb)
  have hd : Hd K (Av A (put B i none) M) H (.lst ds) (.ref a) := .lst na hl (q.fr f)
  refine ⟨a, vs, eb, by rw [hsv, ev], hl, ⟨by rw [List.length_set]; exact r.len, fun j s v e1 e2 => ?_, fun j k a e1 e2 => ?_, fun a mo e => (r.ob a mo e).fr f fun _ h => h, fun b h => r.tr b (av_put_none h), fun j a e => ?_, r.sepA, fun j a e => ?_, r.sn, r.md, Gd.cl f r.gd⟩, f, hd⟩
  · by_cases hj : j = i
    · subst hj
      rw [List.getElem?_set_self hil] at e1
      cases e1
      rw [hsv] at e2
      cases e2
      exact ⟨_, ev, hd⟩
    · rw [List.getElem?_set_ne (Ne.symm hj)] at e1
      exact (r.sl j s v e1 e2).fr f fun a e => ⟨by rw [put_ne hj]; exact e, fun _ h => h⟩
  · have hj : j ≠ i := fun z => by subst z; rw [put_same] at e1; cases e1
    have hk : k ≠ i := fun z => by subst z; rw [put_same] at e2; cases e2
    rw [put_ne hj] at e1
    rw [put_ne hk] at e2
    exact r.inj j k a e1 e2
  · have hj : j ≠ i := fun z => by subst z; rw [put_same] at e; cases e
    rw [put_ne hj] at e
    exact r.sepM j a e
  · have hj : j ≠ i := fun z => by subst z; rw [put_same] at e; cases e
    rw [put_ne hj] at e
    exact r.sepB j a e
/-- a slot takes data -/
theorem ER.set (r : ER K A B M ρ σ H) {i : Nat} {d : D} {v : V} (h : Hd K (Av A B M) H d v) : ER K A B M (ρ.set i (.val d)) (σ.set i (some v)) H := by
  refine ⟨by rw [List.length_set, List.length_set]; exact r.len, fun j s u e1 e2 => ?_, r.inj, r.ob, r.tr, r.sepM, r.sepA, r.sepB, r.sn, r.md, r.gd⟩
  by_cases hj : j = i
  · subst hj
    have h1 : j < ρ.length := by
      have := (List.getElem?_eq_some_iff.mp e1).1
      rwa [List.length_set] at this
    rw [List.getElem?_set_self h1] at e1
    rw [List.getElem?_set_self (by rw [r.len]; exact h1)] at e2
    cases e1
    cases e2
    exact ⟨v, rfl, h⟩
  · rw [List.getElem?_set_ne (Ne.symm hj)] at e1 e2
    exact r.sl j s u e1 e2
/-- a slot is forgotten -/
theorem ER.unset (r : ER K A B M ρ σ H) {i : Nat} {o : Option V} : ER K A B M (ρ.set i .un) (σ.set i o) H := by
  refine ⟨by rw [List.length_set, List.length_set]; exact r.len, fun j s u e1 e2 => ?_, r.inj, r.ob, r.tr, r.sepM, r.sepA, r.sepB, r.sn, r.md, r.gd⟩
  by_cases hj : j = i
  · subst hj
    have h1 : j < ρ.length := by
      have := (List.getElem?_eq_some_iff.mp e1).1
      rwa [List.length_set] at this
    rw [List.getElem?_set_self h1] at e1
    cases e1
    trivial
  · rw [List.getElem?_set_ne (Ne.symm hj)] at e1 e2
    exact r.sl j s u e1 e2
/-- a slot takes the new list that stands behind the slots -/
theorem ER.setOwn (r : ER K A B M ρ σ H) {i : Nat} {a : Addr} {vs : List V} {ds : List D} (hb : B σ.length = some a) (hl : H a = some (.lst vs)) (h : HdL K (Av A B M) H ds vs) :
    ∃ B', ER K A B' M (ρ.set i (.own ds)) (σ.set i (some (.ref a))) H ∧ Fr (Av A B M) (Av A B' M) H H := by
  by_cases hi : i < ρ.length
  case neg =>
    refine ⟨B, ?_, .refl⟩
    rw [List.set_eq_of_length_le (by omega), List.set_eq_of_length_le (by rw [r.len]; omega)]
    exact r
  have hne : i ≠ σ.length := by rw [r.len]; omega
  have less : ∀ b, Av A (put (put B i (some a)) σ.length none) M b → Av A B M b := fun b h => by
    rcases av_put_some (av_put_none h) with h | h
    · exact h
    · subst h; exact .inr (.inl ⟨_, hb⟩)
  have f := Fr.less (H := H) less
  have at_ : ∀ j c, put (put B i (some a)) σ.length none j = some c → j ≠ σ.length ∧ ((j = i ∧ c = a) ∨ (j ≠ i ∧ B j = some c)) := fun j c e => by
    have h1 : j ≠ σ.length := fun z => by subst z; rw [put_same] at e; cases e
    rw [put_ne h1] at e
    refine ⟨h1, ?_⟩
    by_cases hj : j = i
    · subst hj; rw [put_same] at e; exact .inl ⟨rfl, (Option.some.inj e).symm⟩
    · rw [put_ne hj] at e; exact .inr ⟨hj, e⟩
  refine ⟨_, ⟨by rw [List.length_set, List.length_set]; exact r.len, fun j s u e1 e2 => ?_, fun j k c e1 e2 => ?_, fun a mo e => (r.ob a mo e).fr f fun _ h => h, fun b h => r.tr b (less b h), fun j c e => ?_, r.sepA, fun j c e => ?_, r.sn, r.md, Gd.cl f r.gd⟩, f⟩
  · by_cases hj : j = i
    · subst hj
      rw [List.getElem?_set_self hi] at e1
      rw [List.getElem?_set_self (by rw [r.len]; exact hi)] at e2
      cases e1
      cases e2
      exact ⟨a, vs, by rw [put_ne hne, put_same], rfl, hl, h.fr f⟩
    · rw [List.getElem?_set_ne (Ne.symm hj)] at e1 e2
      have h1 : j ≠ σ.length := by
        have := (List.getElem?_eq_some_iff.mp e1).1
        rw [r.len]
        omega
      exact (r.sl j s u e1 e2).fr f fun c e => ⟨by rw [put_ne h1, put_ne hj]; exact e, fun _ h => h⟩
  · obtain ⟨n1, h1⟩ := at_ j c e1
    obtain ⟨n2, h2⟩ := at_ k c e2
    rcases h1 with ⟨rfl, rfl⟩ | ⟨q1, h1⟩
    · rcases h2 with ⟨rfl, _⟩ | ⟨q2, h2⟩
      · rfl
      · exact absurd (r.inj _ _ _ h2 hb) n2
    · rcases h2 with ⟨rfl, rfl⟩ | ⟨q2, h2⟩
      · exact absurd (r.inj _ _ _ h1 hb) n1
      · exact r.inj _ _ _ h1 h2
  · obtain ⟨n1, h1⟩ := at_ j c e
    rcases h1 with ⟨_, rfl⟩ | ⟨_, h1⟩
    · exact r.sepM _ _ hb
    · exact r.sepM _ _ h1
  · obtain ⟨n1, h1⟩ := at_ j c e
    rcases h1 with ⟨_, rfl⟩ | ⟨_, h1⟩
    · exact r.sepB _ _ hb
    · exact r.sepB _ _ h1
/-- a new thing that is not changed -/
theorem ER.new (r : ER K A B M ρ σ H) {p : Addr} {o : HO} (hp : H p = none) : ER K A B M ρ σ (upd H p o) ∧ Fr (Av A B M) (Av A B M) H (upd H p o) ∧ FrM M M H (upd H p o) ∧ ¬ Av A B M p ∧ M p = none := by
  have k : ∀ b u, H b = some u → upd H p o b = some u := fun b u e => by rw [upd_ne (ne_of_none e hp)]; exact e
  have f : Fr (Av A B M) (Av A B M) H (upd H p o) := fun b u n e => ⟨k b u e, n⟩
  have np : ¬ Av A B M p := fun h => r.tr p h hp
  refine ⟨⟨r.len, fun j s v e1 e2 => (r.sl j s v e1 e2).fr f fun a e => ⟨e, fun o h => k _ _ h⟩, r.inj, fun a mo e => (r.ob a mo e).fr f fun o h => k _ _ h, fun b h => ?_, r.sepM, r.sepA, r.sepB, fun b u e => k b u (r.sn b u e), r.md, Gd.cl f r.gd⟩, f, fun b u n e => ⟨k b u e, n⟩, np, ?_⟩
  · have := r.tr b h
    by_cases hb : b = p
    · subst hb; exact absurd h np
    · rw [upd_ne hb]; exact this
  · cases q : M p with
    | none => rfl
    | some mo => exact absurd (.inr (.inr (by rw [q]; simp))) np
/-- a new list in our hands: behind the slots -/
theorem ER.newOwn (r : ER K A B M ρ σ H) {p : Addr} {vs : List V} {ds : List D} (hp : H p = none) (h : HdL K (Av A B M) H ds vs) : ∃ B', ER K A B' M ρ σ (upd H p (.lst vs)) ∧ Fr (Av A B M) (Av A B' M) H (upd H p (.lst vs)) ∧ FrM M M H (upd H p (.lst vs)) ∧
    B' σ.length = some p ∧ HdL K (Av A B' M) (upd H p (.lst vs)) ds vs := by
  obtain ⟨r1, f1, m1, np, mp⟩ := r.new (o := .lst vs) hp
  have f : Fr (Av A B M) (Av A (put B σ.length (some p)) M) H (upd H p (.lst vs)) := fun b u n e => by
    refine ⟨(f1 b u n e).1, fun h => ?_⟩
    rcases av_put_some h with h | h
    · exact n h
    · subst h; rw [hp] at e; cases e
  have at_ : ∀ j c, put B σ.length (some p) j = some c → (j = σ.length ∧ c = p) ∨ (j ≠ σ.length ∧ B j = some c) := fun j c e => by
    by_cases hj : j = σ.length
    · subst hj; rw [put_same] at e; exact .inl ⟨rfl, (Option.some.inj e).symm⟩
    · rw [put_ne hj] at e; exact .inr ⟨hj, e⟩
  have nb : ∀ j c, B j = some c → c ≠ p := fun j c e z => np (.inr (.inl ⟨j, z ▸ e⟩))
  refine ⟨put B σ.length (some p), ⟨r.len, fun j s v e1 e2 => ?_, fun j k c e1 e2 => ?_, fun a mo e => (r.ob a mo e).fr f fun o h => ?_, fun b h => ?_, fun j c e => ?_, r.sepA, fun j c e => ?_, r1.sn, r1.md, Gd.cl f r.gd⟩, f, m1, put_same, h.fr f⟩
  · have h1 : j ≠ σ.length := by
      have := (List.getElem?_eq_some_iff.mp e1).1
      rw [r.len]
      omega
    exact (r.sl j s v e1 e2).fr f fun a e => ⟨by rw [put_ne h1]; exact e, fun o h => by rw [upd_ne (ne_of_none h hp)]; exact h⟩
  · rcases at_ j c e1 with ⟨rfl, rfl⟩ | ⟨n1, h1⟩
    · rcases at_ k c e2 with ⟨rfl, _⟩ | ⟨n2, h2⟩
      · rfl
      · exact absurd rfl (nb _ _ h2)
    · rcases at_ k c e2 with ⟨rfl, rfl⟩ | ⟨n2, h2⟩
      · exact absurd rfl (nb _ _ h1)
      · exact r.inj _ _ _ h1 h2
  · rw [upd_ne (ne_of_none h hp)]; exact h
  · rcases av_put_some h with h | h
    · exact r1.tr b h
    · subst h; rw [upd_same]; simp
  · rcases at_ j c e with ⟨_, rfl⟩ | ⟨_, h1⟩
    · exact mp
    · exact r.sepM _ _ h1
  · rcases at_ j c e with ⟨_, rfl⟩ | ⟨_, h1⟩
    · cases q : A.h c with
      | none => rfl
      | some u => exact absurd (.inl (by rw [q]; simp)) np
    · exact r.sepB _ _ h1
/-- a list of one's own is written -/
theorem ER.write (r : ER K A B M ρ σ H) {i : Nat} {a : Addr} {ds ds' : List D} {vs' : List V} (hi : ρ[i]? = some (.own ds)) (hb : B i = some a) (h : HdL K (Av A B M) H ds' vs') :
    ER K A B M (ρ.set i (.own ds')) σ (upd H a (.lst vs')) ∧ Fr (Av A B M) (Av A B M) H (upd H a (.lst vs')) := by
  have av : Av A B M a := .inr (.inl ⟨i, hb⟩)
  have k : ∀ b u, b ≠ a → H b = some u → upd H a (.lst vs') b = some u := fun b u n e => by rw [upd_ne n]; exact e
  have f : Fr (Av A B M) (Av A B M) H (upd H a (.lst vs')) := fun b u n e => ⟨k b u (fun z => n (z ▸ av)) e, n⟩
  have hil : i < ρ.length := (List.getElem?_eq_some_iff.mp hi).1
  refine ⟨⟨by rw [List.length_set]; exact r.len, fun j s v e1 e2 => ?_, r.inj, fun c mo e => (r.ob c mo e).fr f fun o h => k _ _ (fun z => ?_) h, fun b hb' => ?_, r.sepM, r.sepA, r.sepB, fun b u e => k b u (fun z => ?_) (r.sn b u e), r.md, Gd.cl f r.gd⟩, f⟩
  · by_cases hj : j = i
    · subst hj
      rw [List.getElem?_set_self hil] at e1
      cases e1
      obtain ⟨a', vs, eb, ev, _, _⟩ := r.sl j _ v hi e2
      rw [hb] at eb
      cases eb
      exact ⟨a, vs', hb, ev, upd_same, h.fr f⟩
    · rw [List.getElem?_set_ne (Ne.symm hj)] at e1
      refine (r.sl j s v e1 e2).fr f fun c e => ⟨e, fun o h => k _ _ (fun z => ?_) h⟩
      subst z
      exact hj (r.inj _ _ _ e hb)
  · subst z
    rw [r.sepM _ _ hb] at e
    cases e
  · have := r.tr b hb'
    by_cases e : b = a
    · subst e; rw [upd_same]; simp
    · rw [upd_ne e]; exact this
  · subst z
    rw [r.sepB _ _ hb] at e
    cases e
end
end DM

namespace DM
open PySem PySem.Spec PyProof.Rows L2 TK
variable [Gd]
structure DE (X : Cx) (K : PySem.W.Frag) (e : Expr) (t : TE) (t' : TED) : Prop where
  pe : PE X e t
  sim : SimE K t t'
structure DB (X : Cx) (K : PySem.W.Frag) (e : Expr) (t : TE) (t' : TED) : Prop where
  pe : PE X e t
  sim : SimB K t t'
structure DN (X : Cx) (K : PySem.W.Frag) (e : Expr) (t : TE) (t' : TEN) : Prop where
  pe : PE X e t
  sim : SimN K t t'
structure DT (X : Cx) (K : PySem.W.Frag) (e : Expr) (t : TT) (t' : TTD) : Prop where
  pt : PT X e t
  sim : SimT K t t'
structure DW (X : Cx) (K : PySem.W.Frag) (e : Expr) (t : TT) (t' : TTD) : Prop where
  pw : PW X e t
  sim : SimT K t t'
structure DA (X : Cx) (K : PySem.W.Frag) (es : List Expr) (t : TA) (t' : TAD) : Prop where
  pa : PA X es t
  sim : SimA K t t'
section
variable {X : Cx} {K : PySem.W.Frag} {A : CA} {a b c e : Expr} {es : List Expr} {ta tb tc t : TE} {ta' tb' tc' t' : TED} {tn' : TEN} {pos p : Pos} {x : Str}
theorem HdB.fr {B B' : Nat → Option Addr} {M M' : Mm} {H H' : Hp} {d : D} {v : V} (f : Fr (Av A B M) (Av A B' M') H H') (m : FrM M M' H H') (h : HdB K A B M H d v) : HdB K A B' M' H' d v := by
  rcases h with h | ⟨ds, a, vs, e1, e2, e3, e4, e5⟩
  · exact .inl (h.fr f)
  · exact .inr ⟨ds, a, vs, e1, e2, (m _ _ e3 e4).2, (m _ _ e3 e4).1, e5.fr f⟩
theorem de_db (h : DE X K e t t') : DB X K e t t' := ⟨h.pe, fun A B M ρ σ H Q Q' r q k => h.sim A B M ρ σ H Q Q' r q fun d ρ' M' B' v H' r' f m hd q' => k d ρ' M' B' v H' r' f m (.inl hd) q'⟩
def dN (tn' : TEN) : TED := fun ρ M Q => tn' ρ M fun ds ρ' M' => Q (.lst ds) ρ' M'
theorem simN_E (h : SimN K t tn') : SimE K t (dN tn') := fun A B M ρ σ H Q Q' r q k => h A B M ρ σ H Q _ r q fun ds ρ' M' B' a vs H' r' f m hb hl hd q' => by
  obtain ⟨r2, f2⟩ := r'.drop (i := σ.length) (by rw [r'.len]; exact Nat.le_refl _)
  refine k (.lst ds) ρ' M' _ (.ref a) H' r2 (f.trans f2) m (.lst ?_ hl (hd.fr f2)) q'
  rintro (h | ⟨j, h⟩ | h)
  · exact h (r'.sepB _ _ hb)
  · have hj : j ≠ σ.length := fun z => by subst z; rw [put_same] at h; cases h
    rw [put_ne hj] at h
    exact hj (r'.inj _ _ _ h hb)
  · exact h (r'.sepM _ _ hb)
theorem dn_de (h : DN X K e t tn') : DE X K e t (dN tn') := ⟨h.pe, simN_E h.sim⟩
/-! names -/
def rdS (i : Nat) (s : Sl) (ρ : Env) (M : Mm) (Q : D → Env → Mm → Prop) : Prop := match s with
  | .un => False
  | .val d => Q d ρ M
  | .own ds => Q (.lst ds) (ρ.set i (.val (.lst ds))) M
def rbS (s : Sl) (ρ : Env) (M : Mm) (Q : D → Env → Mm → Prop) : Prop := match s with
  | .un => False
  | .val d => Q d ρ M
  | .own ds => Q (.lst ds) ρ M
def dVar (i : Nat) : TED := fun ρ M Q => ∃ s, ρ[i]? = some s ∧ rdS i s ρ M Q
def dVarB (i : Nat) : TED := fun ρ M Q => ∃ s, ρ[i]? = some s ∧ rbS s ρ M Q
theorem ER.at (r : ER K A B M ρ σ H) {i : Nat} {s : Sl} (h : ρ[i]? = some s) : ∃ v, σ[i]? = some v ∧ SlOk K (Av A B M) H (B i) v s := by
  have hil : i < ρ.length := (List.getElem?_eq_some_iff.mp h).1
  have e : σ[i]? = some (σ[i]'(by rw [r.len]; exact hil)) := List.getElem?_eq_getElem _
  exact ⟨_, e, r.sl i s _ h e⟩
theorem sim_var {i : Nat} : SimE K (tVar i) (dVar i) := fun A B M ρ σ H Q Q' r q k => by
  obtain ⟨s, e, q⟩ := q
  obtain ⟨v, ev, ok⟩ := r.at e
  cases s with
  | un => exact False.elim q
  | val d =>
    obtain ⟨y, rfl, hd⟩ := ok
    exact ⟨y, ev, k d ρ M B y H r .refl .refl hd q⟩
  | own ds =>
    obtain ⟨a, vs, hb, es, hl, r2, f, hd⟩ := r.fz e
    exact ⟨_, es, k (.lst ds) _ M _ _ H r2 f .refl hd q⟩
theorem sim_varB {i : Nat} : SimB K (tVar i) (dVarB i) := fun A B M ρ σ H Q Q' r q k => by
  obtain ⟨s, e, q⟩ := q
  obtain ⟨v, ev, ok⟩ := r.at e
  cases s with
  | un => exact False.elim q
  | val d =>
    obtain ⟨y, rfl, hd⟩ := ok
    exact ⟨y, ev, k d ρ M B y H r .refl .refl (.inl hd) q⟩
  | own ds =>
    obtain ⟨a, vs, hb, rfl, hl, hd⟩ := ok
    exact ⟨_, ev, k (.lst ds) ρ M B _ H r .refl .refl (.inr ⟨ds, a, vs, rfl, rfl, r.sepM _ _ hb, hl, hd⟩) q⟩
theorem dv (i : Nat) (hN : X.N[i]? = some x := by rfl) (hv : Vis X.env.scope x := by first | exact .inl rfl | exact .inr (.inl rfl) | exact .inr (.inr rfl)) (hd : (x == ("__debug__" : Str)) = false := by decide) (hcd : (x == ("__classdict__" : Str)) = false := by decide) : DE X K (.Name x pos) (tVar i) (dVar i) :=
  ⟨pe_var hN hv hd hcd, sim_var⟩
theorem db (i : Nat) (hN : X.N[i]? = some x := by rfl) (hv : Vis X.env.scope x := by first | exact .inl rfl | exact .inr (.inl rfl) | exact .inr (.inr rfl)) (hd : (x == ("__debug__" : Str)) = false := by decide) (hcd : (x == ("__classdict__" : Str)) = false := by decide) : DB X K (.Name x pos) (tVar i) (dVarB i) :=
  ⟨pe_var hN hv hd hcd, sim_varB⟩
/-! constants -/
def dC (d : D) : TED := fun ρ M Q => Q d ρ M
theorem sim_c {v : V} {d : D} (h : ∀ (Av : Addr → Prop) (H : Hp), Hd K Av H d v) : SimE K (tC v) (dC d) := fun A B M ρ σ H Q Q' r q k => k d ρ M B v H r .refl .refl (h _ _) q
theorem de_int {i j} : DE X K (.Constant (.int i) j pos) (tC (.int i)) (dC (.int i)) := ⟨pe_int, sim_c fun _ _ => .int _⟩
theorem de_bl {i j} : DE X K (.Constant (.bool i) j pos) (tC (.bl i)) (dC (.bl i)) := ⟨pe_bl, sim_c fun _ _ => .bl _⟩
theorem de_non {j} : DE X K (.Constant .none j pos) (tC .non) (dC .non) := ⟨pe_non, sim_c fun _ _ => .non⟩
theorem de_str {i j} : DE X K (.Constant (.str i) j pos) (tC (.str i)) (dC (.str i)) := ⟨pe_str, sim_c fun _ _ => .str _⟩
theorem de_gint {i : Int} (hg : Gl X x) (hm : ∃ t, X.mg x = some (.int i t)) (hd : (x == ("__debug__" : Str)) = false := by decide) : DE X K (.Name x pos) (tC (.int i)) (dC (.int i)) := ⟨pe_gint hg hm hd, sim_c fun _ _ => .int _⟩
theorem de_ty {n : String} (hg : Gl X x) (hm : X.mg x = none) (hv : bootBuiltins x = some (.type n)) (hn : x ≠ "__name__" := by decide) (hd : (x == ("__debug__" : Str)) = false := by decide) : DE X K (.Name x pos) (tC (.ty n)) (dC (.ty n)) :=
  ⟨pe_bltn (v := .ty n) hg hm hv rfl hn hd, sim_c fun _ _ => .ty _⟩
/-! operators of two values -/
abbrev R2D := D → D → (D → Prop) → Prop
def SimR (K : PySem.W.Frag) (r : R2) (r' : R2D) : Prop := ∀ (A : CA) (B : Nat → Option Addr) (M : Mm) (H : Hp) (d e : D) (x y : V) (Q : VK) (Q' : D → Prop), HdB K A B M H d x → HdB K A B M H e y → r' d e Q' →
  (∀ c v, Hd K (Av A B M) H c v → Q' c → Q v H) → r x y H Q
def dOp (r' : R2D) (ta' tb' : TED) : TED := fun ρ M Q => ta' ρ M fun d ρ1 M1 => tb' ρ1 M1 fun e ρ2 M2 => r' d e fun c => Q c ρ2 M2
theorem sim_op {r : R2} {r' : R2D} (s : SimR K r r') (ha : SimB K ta ta') (hb : SimB K tb tb') : SimE K (tOp r ta tb) (dOp r' ta' tb') := fun A B M ρ σ H Q Q' R q k =>
  ha A B M ρ σ H _ _ R q fun d ρ1 M1 B1 v H1 R1 f1 m1 h1 q1 => hb A B1 M1 ρ1 σ H1 _ _ R1 q1 fun e ρ2 M2 B2 u H2 R2 f2 m2 h2 q2 =>
    s A B2 M2 H2 d e v u Q _ (h1.fr f2 m2) h2 q2 fun c w hw q3 => k c ρ2 M2 B2 w H2 R2 (f1.trans f2) (m1.trans m2) hw q3
theorem de_op {op : Operator} {r : R2} {r' : R2D} (o : OpR X (binaryOp op) r ∧ SimR K r r') (ha : DB X K a ta ta') (hb : DB X K b tb tb') : DE X K (.BinOp a op b pos) (tOp r ta tb) (dOp r' ta' tb') := ⟨pe_op o.1 ha.pe hb.pe, sim_op o.2 ha.sim hb.sim⟩
theorem de_cmp {op : CmpOp} {r : R2} {r' : R2D} (o : OpR X (compareOp op) r ∧ SimR K r r') (ha : DB X K a ta ta') (hb : DB X K b tb tb') (hm : behindInMarks op b = false) : DE X K (.Compare a [op] [b] pos) (tOp r ta tb) (dOp r' ta' tb') := ⟨pe_cmpR o.1 ha.pe hb.pe hm, sim_op o.2 ha.sim hb.sim⟩
theorem de_ix {r : R2} {r' : R2D} (o : IxR X r ∧ SimR K r r') (ha : DB X K a ta ta') (hb : DB X K b tb tb') (hs : PlainIx b) : DE X K (.Subscript a b pos) (tOp r ta tb) (dOp r' ta' tb') := ⟨pe_ix o.1 ha.pe hb.pe hs, sim_op o.2 ha.sim hb.sim⟩
/-- the value is a bool -/
def dTest (t' : TED) : TTD := fun ρ M Q => t' ρ M fun d ρ1 M1 => ∃ k, d = .bl k ∧ Q k ρ1 M1
theorem sim_test (h : SimE K t t') : SimT K (tTest t) (dTest t') := fun A B M ρ σ H Q Q' R q k => h A B M ρ σ H _ _ R q fun d ρ1 M1 B1 v H1 R1 f1 m1 h1 q1 => by
  obtain ⟨c, rfl, q1⟩ := q1
  cases h1
  exact ⟨c, rfl, k c ρ1 M1 B1 H1 R1 f1 m1 q1⟩
theorem dt_cmp {op : CmpOp} {r : R2} {r' : R2D} (o : OpR X (compareOp op) r ∧ SimR K r r') (ha : DB X K a ta ta') (hb : DB X K b tb tb') (hm : behindInMarks op b = false) : DT X K (.Compare a [op] [b] pos) (tTest (tOp r ta tb)) (dTest (dOp r' ta' tb')) := ⟨pt_cmpR o.1 ha.pe hb.pe hm, sim_test (sim_op o.2 ha.sim hb.sim)⟩
theorem dt_val (h : DE X K e t t') (he : ∀ whole, isTrue e X.env whole = (do let v ← whole; standAt e.pos; holding [v] (truthy v)) := by intro _; rfl) : DT X K e (tB t) (dTest t') := ⟨pt_val h.pe he, sim_test h.sim⟩
def dChain (r r' : R2D) (ta' tb' tc' : TED) : TED := fun ρ M Q => ta' ρ M fun d ρ1 M1 => tb' ρ1 M1 fun e ρ2 M2 => r d e fun z => ∃ k, z = .bl k ∧ (if k = true then tc' ρ2 M2 fun f ρ3 M3 => r' e f fun c => Q c ρ3 M3 else Q (.bl false) ρ2 M2)
theorem sim_chain {r1 r2 : R2} {r1' r2' : R2D} (s : SimR K r1 r1') (s' : SimR K r2 r2') (ha : SimB K ta ta') (hb : SimB K tb tb') (hc : SimB K tc tc') : SimE K (tChain r1 r2 ta tb tc) (dChain r1' r2' ta' tb' tc') := fun A B M ρ σ H Q Q' R q k =>
  ha A B M ρ σ H _ _ R q fun d ρ1 M1 B1 v H1 R1 f1 m1 h1 q1 => hb A B1 M1 ρ1 σ H1 _ _ R1 q1 fun e ρ2 M2 B2 u H2 R2 f2 m2 h2 q2 =>
    s A B2 M2 H2 d e v u _ _ (h1.fr f2 m2) h2 q2 fun z w hw q3 => by
      obtain ⟨kk, rfl, q3⟩ := q3
      cases hw
      refine ⟨kk, rfl, ?_⟩
      cases kk with
      | false => exact k (.bl false) ρ2 M2 B2 _ H2 R2 (f1.trans f2) (m1.trans m2) (.bl _) q3
      | true => exact hc A B2 M2 ρ2 σ H2 _ _ R2 q3 fun f ρ3 M3 B3 w' H3 R3 f3 m3 h3 q4 => s' A B3 M3 H3 e f u w' Q _ (h2.fr f3 m3) h3 q4 fun c w2 hw2 q5 => k c ρ3 M3 B3 w2 H3 R3 ((f1.trans f2).trans f3) ((m1.trans m2).trans m3) hw2 q5
theorem de_chain {op op' : CmpOp} {r1 r2 : R2} {r1' r2' : R2D} (o : OpR X (compareOp op) r1 ∧ SimR K r1 r1') (o' : OpR X (compareOp op') r2 ∧ SimR K r2 r2') (ha : DB X K a ta ta') (hb : DB X K b tb tb') (hc : DB X K c tc tc')
    (hm : lastMarks [op, op'] [b, c] = false := by with_unfolding_all rfl) : DE X K (.Compare a [op, op'] [b, c] pos) (tChain r1 r2 ta tb tc) (dChain r1' r2' ta' tb' tc') := ⟨pe_chain o.1 o'.1 ha.pe hb.pe hc.pe hm, sim_chain o.2 o'.2 ha.sim hb.sim hc.sim⟩
theorem dt_chain {op op' : CmpOp} {r1 r2 : R2} {r1' r2' : R2D} (o : OpR X (compareOp op) r1 ∧ SimR K r1 r1') (o' : OpR X (compareOp op') r2 ∧ SimR K r2 r2') (ha : DB X K a ta ta') (hb : DB X K b tb tb') (hc : DB X K c tc tc')
    (hm : lastMarks [op, op'] [b, c] = false := by with_unfolding_all rfl) : DT X K (.Compare a [op, op'] [b, c] pos) (tTest (tChain r1 r2 ta tb tc)) (dTest (dChain r1' r2' ta' tb' tc')) := ⟨pt_chain o.1 o'.1 ha.pe hb.pe hc.pe hm, sim_test (sim_chain o.2 o'.2 ha.sim hb.sim hc.sim)⟩
/-! operators of one value -/
abbrev R1D := D → (D → Prop) → Prop
def SimU (K : PySem.W.Frag) (r : V → Hp → VK → Prop) (r' : R1D) : Prop := ∀ (A : CA) (B : Nat → Option Addr) (M : Mm) (H : Hp) (d : D) (x : V) (Q : VK) (Q' : D → Prop), HdB K A B M H d x → r' d Q' →
  (∀ c v, Hd K (Av A B M) H c v → Q' c → Q v H) → r x H Q
def dUn (r' : R1D) (ta' : TED) : TED := fun ρ M Q => ta' ρ M fun d ρ1 M1 => r' d fun c => Q c ρ1 M1
theorem sim_un {r : V → Hp → VK → Prop} {r' : R1D} (s : SimU K r r') (ha : SimB K ta ta') : SimE K (tUn r ta) (dUn r' ta') := fun A B M ρ σ H Q Q' R q k =>
  ha A B M ρ σ H _ _ R q fun d ρ1 M1 B1 v H1 R1 f1 m1 h1 q1 => s A B1 M1 H1 d v Q _ h1 q1 fun c w hw q3 => k c ρ1 M1 B1 w H1 R1 f1 m1 hw q3
theorem de_un {op : UnaryOp} {r : V → Hp → VK → Prop} {r' : R1D} (o : UnR X (unaryOp op) r ∧ SimU K r r') (ha : DB X K a ta ta') : DE X K (.UnaryOp op a pos) (tUn r ta) (dUn r' ta') := ⟨pe_un o.1 ha.pe, sim_un o.2 ha.sim⟩
/-! calls of built-in things by one, two values -/
def SimC (K : PySem.W.Frag) (r : List V → Hp → VK → Prop) (r' : R1D) : Prop := SimU K (fun x H Q => r [x] H Q) r'
theorem sim_call1 {r : List V → Hp → VK → Prop} {r' : R1D} (s : SimC K r r') (ha : SimB K ta ta') : SimE K (tCB r (tCons ta tNil)) (dUn r' ta') := fun A B M ρ σ H Q Q' R q k => sim_un s ha A B M ρ σ H Q Q' R q k
theorem de_call1 {id : String} {r : List V → Hp → VK → Prop} {r' : R1D} (o : CallR X (.builtin id) r ∧ SimC K r r') (hg : Gl X x) (hm : X.mg x = none) (hv : bootBuiltins x = some (.builtin id)) (ha : DB X K e ta ta')
    (hs : starEach [e] X.env = (false, eval e X.env) :: starEach [] X.env := by rfl) (hn : x ≠ "__name__" := by decide) (hdb : (x == ("__debug__" : Str)) = false := by decide) : DE X K (.Call (.Name x p) [e] [] pos) (tCB r (tCons ta tNil)) (dUn r' ta') :=
  ⟨pe_callB o.1 hg hm hv (pa_cons ha.pe pa_nil hs) hn hdb hs rfl, sim_call1 o.2 ha.sim⟩
theorem de_callT1 {T : String} {r : List V → Hp → VK → Prop} {r' : R1D} (o : CallR X (.type T) r ∧ SimC K r r') (hg : Gl X x) (hm : X.mg x = none) (hv : bootBuiltins x = some (.type T)) (ha : DB X K e ta ta')
    (hs : starEach [e] X.env = (false, eval e X.env) :: starEach [] X.env := by rfl) (hn : x ≠ "__name__" := by decide) (hdb : (x == ("__debug__" : Str)) = false := by decide) : DE X K (.Call (.Name x p) [e] [] pos) (tCB r (tCons ta tNil)) (dUn r' ta') :=
  ⟨pe_callTy o.1 hg hm hv (pa_cons ha.pe pa_nil hs) hn hdb hs rfl, sim_call1 o.2 ha.sim⟩
def SimC2 (K : PySem.W.Frag) (r : List V → Hp → VK → Prop) (r' : R2D) : Prop := SimR K (fun x y H Q => r [x, y] H Q) r'
theorem sim_call2 {r : List V → Hp → VK → Prop} {r' : R2D} (s : SimC2 K r r') (ha : SimB K ta ta') (hb : SimB K tb tb') : SimE K (tCB r (tCons ta (tCons tb tNil))) (dOp r' ta' tb') := fun A B M ρ σ H Q Q' R q k => sim_op s ha hb A B M ρ σ H Q Q' R q k
theorem de_call2 {id : String} {r : List V → Hp → VK → Prop} {r' : R2D} (o : CallR X (.builtin id) r ∧ SimC2 K r r') (hg : Gl X x) (hm : X.mg x = none) (hv : bootBuiltins x = some (.builtin id)) (ha : DB X K a ta ta') (hb : DB X K b tb tb')
    (hs : starEach [a, b] X.env = (false, eval a X.env) :: starEach [b] X.env := by rfl) (hs2 : starEach [b] X.env = (false, eval b X.env) :: starEach [] X.env := by rfl) (hpl : (backTo pos (starEach [b] X.env)).any (·.1) = false := by rfl)
    (hn : x ≠ "__name__" := by decide) (hdb : (x == ("__debug__" : Str)) = false := by decide) : DE X K (.Call (.Name x p) [a, b] [] pos) (tCB r (tCons ta (tCons tb tNil))) (dOp r' ta' tb') :=
  ⟨pe_callB o.1 hg hm hv (pa_cons ha.pe (pa_cons hb.pe pa_nil hs2) hs) hn hdb hs hpl, sim_call2 o.2 ha.sim hb.sim⟩
/-! and, or, not, if -/
variable {tA tB' : TT} {dA dB' : TTD} {rest : List Expr}
def dAnd (t u : TTD) : TTD := fun ρ M Q => t ρ M fun c ρ1 M1 => if c = true then u ρ1 M1 Q else Q false ρ1 M1
def dOr (t u : TTD) : TTD := fun ρ M Q => t ρ M fun c ρ1 M1 => if c = true then Q true ρ1 M1 else u ρ1 M1 Q
def dNot (t : TTD) : TTD := fun ρ M Q => t ρ M fun c ρ1 M1 => Q (!c) ρ1 M1
theorem sim_and (h : SimT K tA dA) (h2 : SimT K tB' dB') : SimT K (tAnd tA tB') (dAnd dA dB') := fun A B M ρ σ H Q Q' R q k => h A B M ρ σ H _ _ R q fun c ρ1 M1 B1 H1 R1 f1 m1 q1 => by
  cases c with
  | true => exact h2 A B1 M1 ρ1 σ H1 _ _ R1 q1 fun c ρ2 M2 B2 H2 R2 f2 m2 q2 => k c ρ2 M2 B2 H2 R2 (f1.trans f2) (m1.trans m2) q2
  | false => exact k false ρ1 M1 B1 H1 R1 f1 m1 q1
theorem sim_or (h : SimT K tA dA) (h2 : SimT K tB' dB') : SimT K (tOr tA tB') (dOr dA dB') := fun A B M ρ σ H Q Q' R q k => h A B M ρ σ H _ _ R q fun c ρ1 M1 B1 H1 R1 f1 m1 q1 => by
  cases c with
  | false => exact h2 A B1 M1 ρ1 σ H1 _ _ R1 q1 fun c ρ2 M2 B2 H2 R2 f2 m2 q2 => k c ρ2 M2 B2 H2 R2 (f1.trans f2) (m1.trans m2) q2
  | true => exact k true ρ1 M1 B1 H1 R1 f1 m1 q1
theorem sim_not (h : SimT K tA dA) : SimT K (tNot tA) (dNot dA) := fun A B M ρ σ H Q Q' R q k => h A B M ρ σ H _ _ R q fun c ρ1 M1 B1 H1 R1 f1 m1 q1 => k (!c) ρ1 M1 B1 H1 R1 f1 m1 q1
theorem dw_and1 (h : DT X K a tA dA) : DW X K (.BoolOp .And [a] pos) tA dA := ⟨pw_and1 h.pt, h.sim⟩
theorem dw_or1 (h : DT X K a tA dA) : DW X K (.BoolOp .Or [a] pos) tA dA := ⟨pw_or1 h.pt, h.sim⟩
theorem dw_and (h : DT X K a tA dA) (h2 : DW X K (.BoolOp .And (b :: rest) pos) tB' dB') : DW X K (.BoolOp .And (a :: b :: rest) pos) (tAnd tA tB') (dAnd dA dB') := ⟨pw_and h.pt h2.pw, sim_and h.sim h2.sim⟩
theorem dw_or (h : DT X K a tA dA) (h2 : DW X K (.BoolOp .Or (b :: rest) pos) tB' dB') : DW X K (.BoolOp .Or (a :: b :: rest) pos) (tOr tA tB') (dOr dA dB') := ⟨pw_or h.pt h2.pw, sim_or h.sim h2.sim⟩
theorem dt_w (h : DW X K a tA dA) : DT X K a tA dA := ⟨h.pw.pt, h.sim⟩
theorem dt_not (h : DT X K a tA dA) : DT X K (.UnaryOp .Not a pos) (tNot tA) (dNot dA) := ⟨pt_not h.pt, sim_not h.sim⟩
def dAndV (ta' tb' : TED) : TED := fun ρ M Q => ta' ρ M fun d ρ1 M1 => ∃ c, d = .bl c ∧ if c = true then tb' ρ1 M1 Q else Q (.bl false) ρ1 M1
def dOrV (ta' tb' : TED) : TED := fun ρ M Q => ta' ρ M fun d ρ1 M1 => ∃ c, d = .bl c ∧ if c = true then Q (.bl true) ρ1 M1 else tb' ρ1 M1 Q
def dNotV (ta' : TED) : TED := fun ρ M Q => ta' ρ M fun d ρ1 M1 => ∃ c, d = .bl c ∧ Q (.bl (!c)) ρ1 M1
theorem sim_andV (ha : SimE K ta ta') (hb : SimE K tb tb') : SimE K (tAndV ta tb) (dAndV ta' tb') := fun A B M ρ σ H Q Q' R q k => ha A B M ρ σ H _ _ R q fun d ρ1 M1 B1 v H1 R1 f1 m1 h1 q1 => by
  obtain ⟨c, rfl, q1⟩ := q1
  cases h1
  refine ⟨c, rfl, ?_⟩
  cases c with
  | true => exact hb A B1 M1 ρ1 σ H1 _ _ R1 q1 fun d ρ2 M2 B2 v H2 R2 f2 m2 h2 q2 => k d ρ2 M2 B2 v H2 R2 (f1.trans f2) (m1.trans m2) h2 q2
  | false => exact k _ ρ1 M1 B1 _ H1 R1 f1 m1 (.bl _) q1
theorem sim_orV (ha : SimE K ta ta') (hb : SimE K tb tb') : SimE K (tOrV ta tb) (dOrV ta' tb') := fun A B M ρ σ H Q Q' R q k => ha A B M ρ σ H _ _ R q fun d ρ1 M1 B1 v H1 R1 f1 m1 h1 q1 => by
  obtain ⟨c, rfl, q1⟩ := q1
  cases h1
  refine ⟨c, rfl, ?_⟩
  cases c with
  | false => exact hb A B1 M1 ρ1 σ H1 _ _ R1 q1 fun d ρ2 M2 B2 v H2 R2 f2 m2 h2 q2 => k d ρ2 M2 B2 v H2 R2 (f1.trans f2) (m1.trans m2) h2 q2
  | true => exact k _ ρ1 M1 B1 _ H1 R1 f1 m1 (.bl _) q1
theorem sim_notV (ha : SimE K ta ta') : SimE K (tNotV ta) (dNotV ta') := fun A B M ρ σ H Q Q' R q k => ha A B M ρ σ H _ _ R q fun d ρ1 M1 B1 v H1 R1 f1 m1 h1 q1 => by
  obtain ⟨c, rfl, q1⟩ := q1
  cases h1
  exact ⟨c, rfl, k _ ρ1 M1 B1 _ H1 R1 f1 m1 (.bl _) q1⟩
theorem de_one {op} (h : DE X K a ta ta') : DE X K (.BoolOp op [a] pos) ta ta' := ⟨pe_one h.pe, h.sim⟩
theorem de_and (ha : DE X K a ta ta') (hb : DE X K (.BoolOp .And (b :: rest) pos) tb tb') : DE X K (.BoolOp .And (a :: b :: rest) pos) (tAndV ta tb) (dAndV ta' tb') := ⟨pe_and ha.pe hb.pe, sim_andV ha.sim hb.sim⟩
theorem de_or (ha : DE X K a ta ta') (hb : DE X K (.BoolOp .Or (b :: rest) pos) tb tb') : DE X K (.BoolOp .Or (a :: b :: rest) pos) (tOrV ta tb) (dOrV ta' tb') := ⟨pe_or ha.pe hb.pe, sim_orV ha.sim hb.sim⟩
theorem de_not (ha : DE X K a ta ta') : DE X K (.UnaryOp .Not a pos) (tNotV ta) (dNotV ta') := ⟨pe_not ha.pe, sim_notV ha.sim⟩
def dIf (t : TTD) (ta' tb' : TED) : TED := fun ρ M Q => t ρ M fun c ρ1 M1 => if c = true then ta' ρ1 M1 Q else tb' ρ1 M1 Q
theorem sim_if (h : SimT K tA dA) (ha : SimE K ta ta') (hb : SimE K tb tb') : SimE K (tIf tA ta tb) (dIf dA ta' tb') := fun A B M ρ σ H Q Q' R q k => h A B M ρ σ H _ _ R q fun c ρ1 M1 B1 H1 R1 f1 m1 q1 => by
  cases c with
  | true => exact ha A B1 M1 ρ1 σ H1 _ _ R1 q1 fun d ρ2 M2 B2 v H2 R2 f2 m2 h2 q2 => k d ρ2 M2 B2 v H2 R2 (f1.trans f2) (m1.trans m2) h2 q2
  | false => exact hb A B1 M1 ρ1 σ H1 _ _ R1 q1 fun d ρ2 M2 B2 v H2 R2 f2 m2 h2 q2 => k d ρ2 M2 B2 v H2 R2 (f1.trans f2) (m1.trans m2) h2 q2
theorem de_ifExp (h : DT X K c tA dA) (ha : DE X K a ta ta') (hb : DE X K b tb tb') : DE X K (.IfExp c a b pos) (tIf tA ta tb) (dIf dA ta' tb') := ⟨pe_ifExp h.pt ha.pe hb.pe, sim_if h.sim ha.sim hb.sim⟩
/-! arguments, displays -/
variable {tr : TA} {tr' : TAD}
def dNil : TAD := fun ρ M Q => Q [] ρ M
def dCons (ta' : TED) (tr' : TAD) : TAD := fun ρ M Q => ta' ρ M fun d ρ1 M1 => tr' ρ1 M1 fun ds ρ2 M2 => Q (d :: ds) ρ2 M2
theorem da_nil : DA X K [] tNil dNil := ⟨pa_nil, fun A B M ρ σ H Q Q' R q k => k [] ρ M B [] H R .refl .refl .nil q⟩
theorem da_cons (ha : DE X K e ta ta') (hr : DA X K es tr tr') (hs : starEach (e :: es) X.env = (false, eval e X.env) :: starEach es X.env := by rfl) : DA X K (e :: es) (tCons ta tr) (dCons ta' tr') :=
  ⟨pa_cons ha.pe hr.pa hs, fun A B M ρ σ H Q Q' R q k => ha.sim A B M ρ σ H _ _ R q fun d ρ1 M1 B1 v H1 R1 f1 m1 h1 q1 => hr.sim A B1 M1 ρ1 σ H1 _ _ R1 q1 fun ds ρ2 M2 B2 vs H2 R2 f2 m2 h2 q2 =>
    k (d :: ds) ρ2 M2 B2 (v :: vs) H2 R2 (f1.trans f2) (m1.trans m2) (.cons (h1.fr f2) h2) q2⟩
def dTup (tr' : TAD) : TED := fun ρ M Q => tr' ρ M fun ds ρ1 M1 => ds.length ≤ sizeLine ∧ Q (.tup ds) ρ1 M1
theorem sim_tup (h : SimA K tr tr') : SimE K (tTup tr) (dTup tr') := fun A B M ρ σ H Q Q' R q k => h A B M ρ σ H _ _ R q fun ds ρ1 M1 B1 vs H1 R1 f1 m1 h1 q1 => by
  refine ⟨by rw [← h1.length]; exact q1.1, fun p hp => ?_⟩
  obtain ⟨R2, f2, m2, np, _⟩ := R1.new (o := .tup vs) hp
  exact k (.tup ds) ρ1 M1 B1 _ _ R2 (f1.trans f2) (m1.trans m2) (.tup np upd_same (h1.fr f2)) q1.2
theorem de_tup {k} (h : DA X K es tr tr') : DE X K (.Tuple es k pos) (tTup tr) (dTup tr') := ⟨pe_tup h.pa, sim_tup h.sim⟩
def dLst (tr' : TAD) : TEN := fun ρ M Q => tr' ρ M fun ds ρ1 M1 => ds.length ≤ sizeLine ∧ Q ds ρ1 M1
theorem sim_lst (h : SimA K tr tr') : SimN K (tLst tr) (dLst tr') := fun A B M ρ σ H Q Q' R q k => h A B M ρ σ H _ _ R q fun ds ρ1 M1 B1 vs H1 R1 f1 m1 h1 q1 => by
  refine ⟨by rw [← h1.length]; exact q1.1, fun p hp => ?_⟩
  obtain ⟨B2, R2, f2, m2, hb, h2⟩ := R1.newOwn hp h1
  exact k ds ρ1 M1 B2 p vs _ R2 (f1.trans f2) (m1.trans m2) hb upd_same h2 q1.2
theorem dn_lst (h : DA X K es tr tr') : DN X K (.List es pos) (tLst tr) (dLst tr') := ⟨pe_lst h.pa, sim_lst h.sim⟩
/-! what makes a new list of two values: list + list, list * number -/
abbrev R2N := D → D → (List D → Prop) → Prop
def SimRN (K : PySem.W.Frag) (r : R2) (r' : R2N) : Prop := ∀ (A : CA) (B : Nat → Option Addr) (M : Mm) (H : Hp) (d e : D) (x y : V) (Q : VK) (Q' : List D → Prop), HdB K A B M H d x → HdB K A B M H e y → r' d e Q' →
  (∀ ds vs p, HdL K (Av A B M) H ds vs → H p = none → Q' ds → Q (.ref p) (upd H p (.lst vs))) → r x y H Q
def dOpN (r' : R2N) (ta' tb' : TED) : TEN := fun ρ M Q => ta' ρ M fun d ρ1 M1 => tb' ρ1 M1 fun e ρ2 M2 => r' d e fun c => Q c ρ2 M2
theorem sim_opN {r : R2} {r' : R2N} (s : SimRN K r r') (ha : SimB K ta ta') (hb : SimB K tb tb') : SimN K (tOp r ta tb) (dOpN r' ta' tb') := fun A B M ρ σ H Q Q' R q k =>
  ha A B M ρ σ H _ _ R q fun d ρ1 M1 B1 v H1 R1 f1 m1 h1 q1 => hb A B1 M1 ρ1 σ H1 _ _ R1 q1 fun e ρ2 M2 B2 u H2 R2 f2 m2 h2 q2 =>
    s A B2 M2 H2 d e v u Q _ (h1.fr f2 m2) h2 q2 fun ds vs p hl hp q3 => by
      obtain ⟨B3, R3, f3, m3, hb3, h3⟩ := R2.newOwn hp hl
      exact k ds ρ2 M2 B3 p vs _ R3 ((f1.trans f2).trans f3) ((m1.trans m2).trans m3) hb3 upd_same h3 q3
theorem dn_op {op : Operator} {r : R2} {r' : R2N} (o : OpR X (binaryOp op) r ∧ SimRN K r r') (ha : DB X K a ta ta') (hb : DB X K b tb tb') : DN X K (.BinOp a op b pos) (tOp r ta tb) (dOpN r' ta' tb') := ⟨pe_op o.1 ha.pe hb.pe, sim_opN o.2 ha.sim hb.sim⟩
abbrev R1N := D → (List D → Prop) → Prop
def SimUN (K : PySem.W.Frag) (r : List V → Hp → VK → Prop) (r' : R1N) : Prop := ∀ (A : CA) (B : Nat → Option Addr) (M : Mm) (H : Hp) (d : D) (x : V) (Q : VK) (Q' : List D → Prop), HdB K A B M H d x → r' d Q' →
  (∀ ds vs p, HdL K (Av A B M) H ds vs → H p = none → Q' ds → Q (.ref p) (upd H p (.lst vs))) → r [x] H Q
def dUnN (r' : R1N) (ta' : TED) : TEN := fun ρ M Q => ta' ρ M fun d ρ1 M1 => r' d fun c => Q c ρ1 M1
theorem sim_unN {r : List V → Hp → VK → Prop} {r' : R1N} (s : SimUN K r r') (ha : SimB K ta ta') : SimN K (tCB r (tCons ta tNil)) (dUnN r' ta') := fun A B M ρ σ H Q Q' R q k =>
  ha A B M ρ σ H _ _ R q fun d ρ1 M1 B1 v H1 R1 f1 m1 h1 q1 => s A B1 M1 H1 d v Q _ h1 q1 fun ds vs p hl hp q3 => by
      obtain ⟨B3, R3, f3, m3, hb3, h3⟩ := R1.newOwn hp hl
      exact k ds ρ1 M1 B3 p vs _ R3 (f1.trans f3) (m1.trans m3) hb3 upd_same h3 q3
theorem dn_call1 {id : String} {r : List V → Hp → VK → Prop} {r' : R1N} (o : CallR X (.builtin id) r ∧ SimUN K r r') (hg : Gl X x) (hm : X.mg x = none) (hv : bootBuiltins x = some (.builtin id)) (ha : DB X K e ta ta')
    (hs : starEach [e] X.env = (false, eval e X.env) :: starEach [] X.env := by rfl) (hn : x ≠ "__name__" := by decide) (hdb : (x == ("__debug__" : Str)) = false := by decide) : DN X K (.Call (.Name x p) [e] [] pos) (tCB r (tCons ta tNil)) (dUnN r' ta') :=
  ⟨pe_callB o.1 hg hm hv (pa_cons ha.pe pa_nil hs) hn hdb hs rfl, sim_unN o.2 ha.sim⟩
theorem dn_callT1 {T : String} {r : List V → Hp → VK → Prop} {r' : R1N} (o : CallR X (.type T) r ∧ SimUN K r r') (hg : Gl X x) (hm : X.mg x = none) (hv : bootBuiltins x = some (.type T)) (ha : DB X K e ta ta')
    (hs : starEach [e] X.env = (false, eval e X.env) :: starEach [] X.env := by rfl) (hn : x ≠ "__name__" := by decide) (hdb : (x == ("__debug__" : Str)) = false := by decide) : DN X K (.Call (.Name x p) [e] [] pos) (tCB r (tCons ta tNil)) (dUnN r' ta') :=
  ⟨pe_callTy o.1 hg hm hv (pa_cons ha.pe pa_nil hs) hn hdb hs rfl, sim_unN o.2 ha.sim⟩
end
end DM

namespace DM
open PySem PySem.Spec PyProof.Rows L2 TK
variable [Gd]
section
variable {X : Cx} {K : PySem.W.Frag} {A : CA} {B : Nat → Option Addr} {M : Mm} {H : Hp}
theorem HdB.cases' {d : D} {v : V} (h : HdB K A B M H d v) (hd : ∀ ds, d ≠ .lst ds) : Hd K (Av A B M) H d v := h.elim id fun ⟨ds, _, _, e, _⟩ => absurd e (hd ds)
theorem HdB.int {i : Int} {v : V} (h : HdB K A B M H (.int i) v) : v = .int i := by cases h.cases' (fun _ e => nomatch e); rfl
theorem HdB.bl {i : Bool} {v : V} (h : HdB K A B M H (.bl i) v) : v = .bl i := by cases h.cases' (fun _ e => nomatch e); rfl
theorem HdB.str {i : Str} {v : V} (h : HdB K A B M H (.str i) v) : v = .str i := by cases h.cases' (fun _ e => nomatch e); rfl
theorem HdB.non {v : V} (h : HdB K A B M H .non v) : v = .non := by cases h.cases' (fun _ e => nomatch e); rfl
theorem HdB.ty {n : String} {v : V} (h : HdB K A B M H (.ty n) v) : v = .ty n := by cases h.cases' (fun _ e => nomatch e); rfl
/-- a list's items -/
def D.lq : D → Option (List D)
  | .lst ds => some ds
  | .kl ds => some ds
  | _ => none
theorem HdB.list {d : D} {ds : List D} {v : V} (h : HdB K A B M H d v) (e : d.lq = some ds) : ∃ a vs, v = .ref a ∧ SqL K H a vs ∧ HdL K (Av A B M) H ds vs := by
  rcases h with h | ⟨es, a, vs, e1, e2, e3, e4, e5⟩
  · cases h with
    | @lst a vs _ n h l => cases e; exact ⟨a, vs, rfl, SqL.of h, l⟩
    | @kl a vs _ s l => cases e; exact ⟨a, vs, rfl, s.sq, l⟩
    | _ => cases e
  · subst e1
    cases e
    exact ⟨a, vs, e2, SqL.of e4, e5⟩
theorem HdB.lst {ds : List D} {v : V} (h : HdB K A B M H (.lst ds) v) : ∃ a vs, v = .ref a ∧ H a = some (.lst vs) ∧ HdL K (Av A B M) H ds vs := by
  rcases h with h | ⟨es, a, vs, e1, e2, e3, e4, e5⟩
  · cases h with
    | @lst a vs _ n h l => exact ⟨a, vs, rfl, h, l⟩
  · cases e1
    exact ⟨a, vs, e2, e4, e5⟩
def D.tq : D → Option (List D)
  | .tup ds => some ds
  | .kt ds => some ds
  | _ => none
theorem Hd.tq {d : D} {ds : List D} {v : V} (h : Hd K (Av A B M) H d v) (e : d.tq = some ds) : ∃ a vs, v = .ref a ∧ SqT K H a vs ∧ HdL K (Av A B M) H ds vs := by
  cases h with
  | @tup a vs _ n s l => cases e; exact ⟨a, vs, rfl, SqT.of s, l⟩
  | @kt a vs _ s l => cases e; exact ⟨a, vs, rfl, s.sq, l⟩
  | _ => cases e
theorem HdB.tup {d : D} {ds : List D} {v : V} (h : HdB K A B M H d v) (e : d.tq = some ds) : ∃ a vs, v = .ref a ∧ SqT K H a vs ∧ HdL K (Av A B M) H ds vs :=
  (h.cases' (fun _ z => by subst z; cases e)).tq e
/-! numbers -/
def dI (C : Int → Int → Prop) (g : Int → Int → D) : R2D := fun d e Q => ∃ i j, d = .int i ∧ e = .int j ∧ C i j ∧ Q (g i j)
def dI0 (g : Int → Int → D) : R2D := fun d e Q => ∃ i j, d = .int i ∧ e = .int j ∧ Q (g i j)
theorem sim_rI {C : Int → Int → Prop} {g : Int → Int → V} {g' : Int → Int → D} (h : ∀ i j (Av : Addr → Prop) (H : Hp), Hd K Av H (g' i j) (g i j)) : SimR K (rI C g) (dI C g') := fun A B M H d e x y Q Q' hx hy q k => by
  obtain ⟨i, j, rfl, rfl, c, q⟩ := q
  exact ⟨i, j, hx.int, hy.int, c, k _ _ (h _ _ _ _) q⟩
theorem sim_rI0 {g : Int → Int → V} {g' : Int → Int → D} (h : ∀ i j (Av : Addr → Prop) (H : Hp), Hd K Av H (g' i j) (g i j)) : SimR K (rI0 g) (dI0 g') := fun A B M H d e x y Q Q' hx hy q k => by
  obtain ⟨i, j, rfl, rfl, q⟩ := q
  exact ⟨i, j, hx.int, hy.int, k _ _ (h _ _ _ _) q⟩
theorem o_add : OpR X (binaryOp .Add) (rI0 fun i j => .int (i + j)) ∧ SimR K (rI0 fun i j => .int (i + j)) (dI0 fun i j => .int (i + j)) := ⟨op_add, sim_rI0 fun _ _ _ _ => .int _⟩
theorem o_sub : OpR X (binaryOp .Sub) (rI0 fun i j => .int (i - j)) ∧ SimR K (rI0 fun i j => .int (i - j)) (dI0 fun i j => .int (i - j)) := ⟨op_sub, sim_rI0 fun _ _ _ _ => .int _⟩
theorem o_mul : OpR X (binaryOp .Mult) (rI CMulE fun i j => .int (i * j)) ∧ SimR K (rI CMulE fun i j => .int (i * j)) (dI CMulE fun i j => .int (i * j)) := ⟨op_mulE, sim_rI fun _ _ _ _ => .int _⟩
theorem o_mod : OpR X (binaryOp .Mod) (rI (fun _ j => 0 < j) fun i j => .int (i % j)) ∧ SimR K (rI (fun _ j => 0 < j) fun i j => .int (i % j)) (dI (fun _ j => 0 < j) fun i j => .int (i % j)) := ⟨op_mod, sim_rI fun _ _ _ _ => .int _⟩
theorem o_fdiv : OpR X (binaryOp .FloorDiv) (rI CDivW fun i j => .int (i / j)) ∧ SimR K (rI CDivW fun i j => .int (i / j)) (dI CDivW fun i j => .int (i / j)) := ⟨op_fdivW, sim_rI fun _ _ _ _ => .int _⟩
theorem o_shr : OpR X (binaryOp .RShift) (rI (fun _ j => 0 ≤ j) fun i j => .int (i / 2 ^ j.toNat)) ∧ SimR K (rI (fun _ j => 0 ≤ j) fun i j => .int (i / 2 ^ j.toNat)) (dI (fun _ j => 0 ≤ j) fun i j => .int (i / 2 ^ j.toNat)) := ⟨op_shr, sim_rI fun _ _ _ _ => .int _⟩
def dPow : R2D := fun d e Q => ∃ i j, d = .int i ∧ e = .int j ∧ CPow i j ∧ ∃ r, IsR (i ^ j.toNat) r ∧ Q (.int r)
theorem o_pow : OpR X (binaryOp .Pow) (fun x y H Q => ∃ i j, x = .int i ∧ y = .int j ∧ CPow i j ∧ ∃ r, IsR (i ^ j.toNat) r ∧ Q (.int r) H) ∧ SimR K (fun x y H Q => ∃ i j, x = .int i ∧ y = .int j ∧ CPow i j ∧ ∃ r, IsR (i ^ j.toNat) r ∧ Q (.int r) H) dPow :=
  ⟨op_powE, fun A B M H d e x y Q Q' hx hy q k => by
    obtain ⟨i, j, rfl, rfl, c, r, er, q⟩ := q
    exact ⟨i, j, hx.int, hy.int, c, r, er, k _ _ (.int _) q⟩⟩
def dShl : R2D := fun d e Q => ∃ i j, d = .int i ∧ e = .int j ∧ CShl i j ∧ ∃ r, IsR (i * 2 ^ j.toNat) r ∧ Q (.int r)
theorem o_shl : OpR X (binaryOp .LShift) (fun x y H Q => ∃ i j, x = .int i ∧ y = .int j ∧ CShl i j ∧ ∃ r, IsR (i * 2 ^ j.toNat) r ∧ Q (.int r) H) ∧ SimR K (fun x y H Q => ∃ i j, x = .int i ∧ y = .int j ∧ CShl i j ∧ ∃ r, IsR (i * 2 ^ j.toNat) r ∧ Q (.int r) H) dShl :=
  ⟨op_shlE, fun A B M H d e x y Q Q' hx hy q k => by
    obtain ⟨i, j, rfl, rfl, c, r, er, q⟩ := q
    exact ⟨i, j, hx.int, hy.int, c, r, er, k _ _ (.int _) q⟩⟩
def dNeg : R1D := fun d Q => ∃ i, d = .int i ∧ Q (.int (-i))
theorem o_neg : UnR X (unaryOp .USub) (rU fun i => .int (-i)) ∧ SimU K (rU fun i => .int (-i)) dNeg := ⟨un_neg, fun A B M H d x Q Q' hx q k => by
  obtain ⟨i, rfl, q⟩ := q
  exact ⟨i, hx.int, k _ _ (.int _) q⟩⟩
theorem o_lt : OpR X (compareOp .Lt) (rI0 fun i j => .bl (decide (i < j))) ∧ SimR K (rI0 fun i j => .bl (decide (i < j))) (dI0 fun i j => .bl (decide (i < j))) := ⟨op_lt, sim_rI0 fun _ _ _ _ => .bl _⟩
theorem o_le : OpR X (compareOp .LtE) (rI0 fun i j => .bl (decide (i ≤ j))) ∧ SimR K (rI0 fun i j => .bl (decide (i ≤ j))) (dI0 fun i j => .bl (decide (i ≤ j))) := ⟨op_le, sim_rI0 fun _ _ _ _ => .bl _⟩
theorem o_gt : OpR X (compareOp .Gt) (rI0 fun i j => .bl (decide (i > j))) ∧ SimR K (rI0 fun i j => .bl (decide (i > j))) (dI0 fun i j => .bl (decide (i > j))) := ⟨op_gt, sim_rI0 fun _ _ _ _ => .bl _⟩
theorem o_ge : OpR X (compareOp .GtE) (rI0 fun i j => .bl (decide (i ≥ j))) ∧ SimR K (rI0 fun i j => .bl (decide (i ≥ j))) (dI0 fun i j => .bl (decide (i ≥ j))) := ⟨op_ge, sim_rI0 fun _ _ _ _ => .bl _⟩
/-- == of numbers -/
def dEqI : R2D := dI0 fun i j => .bl (decide (i = j))
def dNeI : R2D := dI0 fun i j => .bl (!decide (i = j))
theorem dec_int (i j : Int) : decide (V.int i = V.int j) = decide (i = j) := by
  by_cases h : i = j
  · rw [decide_eq_true h, decide_eq_true (by rw [h])]
  · rw [decide_eq_false h, decide_eq_false (fun e => h (V.int.inj e))]
theorem o_eqI : OpR X (compareOp .Eq) rEq ∧ SimR K rEq dEqI := ⟨op_eq, fun A B M H d e x y Q Q' hx hy q k => by
  obtain ⟨i, j, rfl, rfl, q⟩ := q
  rw [hx.int, hy.int]
  exact ⟨rfl, by rw [dec_int]; exact k _ _ (.bl _) q⟩⟩
theorem o_neI : OpR X (compareOp .NotEq) rNe ∧ SimR K rNe dNeI := ⟨op_ne, fun A B M H d e x y Q Q' hx hy q k => by
  obtain ⟨i, j, rfl, rfl, q⟩ := q
  rw [hx.int, hy.int]
  exact ⟨rfl, by rw [dec_int]; exact k _ _ (.bl _) q⟩⟩
def dEqS : R2D := fun d e Q => ∃ i j, d = .str i ∧ e = .str j ∧ Q (.bl (decide (i = j)))
def dNeS : R2D := fun d e Q => ∃ i j, d = .str i ∧ e = .str j ∧ Q (.bl (!decide (i = j)))
theorem dec_str (i j : Str) : decide (V.str i = V.str j) = decide (i = j) := by
  by_cases h : i = j
  · rw [decide_eq_true h, decide_eq_true (by rw [h])]
  · rw [decide_eq_false h, decide_eq_false (fun e => h (V.str.inj e))]
theorem o_eqS : OpR X (compareOp .Eq) rEq ∧ SimR K rEq dEqS := ⟨op_eq, fun A B M H d e x y Q Q' hx hy q k => by
  obtain ⟨i, j, rfl, rfl, q⟩ := q
  rw [hx.str, hy.str]
  exact ⟨rfl, by rw [dec_str]; exact k _ _ (.bl _) q⟩⟩
theorem o_neS : OpR X (compareOp .NotEq) rNe ∧ SimR K rNe dNeS := ⟨op_ne, fun A B M H d e x y Q Q' hx hy q k => by
  obtain ⟨i, j, rfl, rfl, q⟩ := q
  rw [hx.str, hy.str]
  exact ⟨rfl, by rw [dec_str]; exact k _ _ (.bl _) q⟩⟩
/-! is None -/
def D.isN : D → Bool
  | .non => true
  | _ => false
theorem HdB.isN {d : D} {v : V} (h : HdB K A B M H d v) : decide (v = .non) = d.isN := by
  rcases h with h | ⟨es, a, vs, e1, e2, e3, e4, e5⟩
  · cases h <;> first | rfl | exact decide_eq_false (fun e => nomatch e)
  · subst e1 e2
    exact decide_eq_false (fun e => nomatch e)
def dIsN : R2D := fun d e Q => e = .non ∧ Q (.bl d.isN)
def dNotN : R2D := fun d e Q => e = .non ∧ Q (.bl (!d.isN))
theorem o_isN : OpR X (compareOp .Is) (fun x y H Q => y = .non ∧ Q (.bl (decide (x = .non))) H) ∧ SimR K (fun x y H Q => y = .non ∧ Q (.bl (decide (x = .non))) H) dIsN := ⟨op_isN, fun A B M H d e x y Q Q' hx hy q k => by
  obtain ⟨rfl, q⟩ := q
  exact ⟨hy.non, by rw [hx.isN]; exact k _ _ (.bl _) q⟩⟩
theorem o_notN : OpR X (compareOp .IsNot) (fun x y H Q => y = .non ∧ Q (.bl (!decide (x = .non))) H) ∧ SimR K (fun x y H Q => y = .non ∧ Q (.bl (!decide (x = .non))) H) dNotN := ⟨op_notN, fun A B M H d e x y Q Q' hx hy q k => by
  obtain ⟨rfl, q⟩ := q
  exact ⟨hy.non, by rw [hx.isN]; exact k _ _ (.bl _) q⟩⟩
/-! == of data -/
mutual
def D.pd : D → PyData
  | .bl b => .bool b
  | .int i => .int i
  | .str x => .str x
  | .tup ds => .tuple (D.pdL ds)
  | .lst ds => .list (D.pdL ds)
  | .kl ds => .list (D.pdL ds)
  | .kt ds => .tuple (D.pdL ds)
  | .non => .none
  | .ty _ => .none
  | .ref _ => .none
  | .dK _ _ => .none
def D.pdL : List D → List PyData
  | [] => []
  | d :: ds => D.pd d :: D.pdL ds
end
mutual
/-- of a depth of at most n, without what is not compared -/
def okN : Nat → D → Prop
  | _, .non => True
  | _, .bl _ => True
  | _, .int _ => True
  | _, .str x => PyData.strOk x = true
  | n + 1, .tup ds => okL n ds
  | n + 1, .lst ds => okL n ds
  | n + 1, .kl ds => okL n ds
  | n + 1, .kt ds => okL n ds
  | _, _ => False
def okL : Nat → List D → Prop
  | _, [] => True
  | n, d :: ds => okN n d ∧ okL n ds
end
theorem okL_of {n : Nat} : ∀ {ds : List D}, (∀ d ∈ ds, okN n d) → okL n ds
  | [], _ => by unfold okL; trivial
  | d :: ds, h => by unfold okL; exact ⟨h d List.mem_cons_self, okL_of fun e he => h e (List.mem_cons_of_mem _ he)⟩
theorem okL_mem {n : Nat} : ∀ {ds : List D}, okL n ds → ∀ d ∈ ds, okN n d
  | [], _, _, h => by cases h
  | d :: ds, h, e, he => by
    unfold okL at h
    rcases List.mem_cons.mp he with r | r
    · subst r; exact h.1
    · exact okL_mem h.2 e r
mutual
theorem ok_lay : ∀ (n : Nat) (d : D), okN n d → d.pd.canLay0 = true ∧ d.pd.depth ≤ n
  | n, .non, _ => by unfold D.pd; exact ⟨by rw [PyData.canLay0], by rw [PyData.depth]; omega⟩
  | n, .bl _, _ => by unfold D.pd; exact ⟨by rw [PyData.canLay0], by rw [PyData.depth]; omega⟩
  | n, .int _, _ => by unfold D.pd; exact ⟨by rw [PyData.canLay0], by rw [PyData.depth]; omega⟩
  | n, .str x, h => by unfold D.pd; unfold okN at h; exact ⟨by rw [PyData.canLay0]; exact h, by rw [PyData.depth]; omega⟩
  | n + 1, .tup ds, h => by
    unfold D.pd
    unfold okN at h
    have := okL_lay n ds h
    exact ⟨by rw [PyData.canLay0]; exact this.1, by rw [PyData.depth]; omega⟩
  | n + 1, .lst ds, h => by
    unfold D.pd
    unfold okN at h
    have := okL_lay n ds h
    exact ⟨by rw [PyData.canLay0]; exact this.1, by rw [PyData.depth]; omega⟩
  | n + 1, .kl ds, h => by
    unfold D.pd
    unfold okN at h
    have := okL_lay n ds h
    exact ⟨by rw [PyData.canLay0]; exact this.1, by rw [PyData.depth]; omega⟩
  | n + 1, .kt ds, h => by
    unfold D.pd
    unfold okN at h
    have := okL_lay n ds h
    exact ⟨by rw [PyData.canLay0]; exact this.1, by rw [PyData.depth]; omega⟩
  | 0, .kt ds, h => by unfold okN at h; exact h.elim
  | 0, .tup ds, h => by unfold okN at h; exact h.elim
  | 0, .lst ds, h => by unfold okN at h; exact h.elim
  | 0, .kl ds, h => by unfold okN at h; exact h.elim
  | n, .ty _, h => by unfold okN at h; exact h.elim
  | n, .ref _, h => by unfold okN at h; exact h.elim
  | n, .dK _ _, h => by unfold okN at h; exact h.elim
theorem okL_lay : ∀ (n : Nat) (ds : List D), okL n ds → PyData.canLayAll0 (D.pdL ds) = true ∧ PyData.depthAll (D.pdL ds) ≤ n
  | n, [], _ => by unfold D.pdL; exact ⟨by rw [PyData.canLayAll0], by rw [PyData.depthAll]; omega⟩
  | n, d :: ds, h => by
    unfold D.pdL
    unfold okL at h
    have h1 := ok_lay n d h.1
    have h2 := okL_lay n ds h.2
    exact ⟨by rw [PyData.canLayAll0, h1.1, h2.1]; rfl, by rw [PyData.depthAll]; omega⟩
end
theorem ok_shaped {n : Nat} {d : D} (h : okN n d) (hn : n ≤ 60) : SeqAt.shaped d.pd = true := by
  obtain ⟨h1, h2⟩ := ok_lay n d h
  unfold SeqAt.shaped
  rw [h1, decide_eq_true (show d.pd.depth ≤ 64 by omega)]
  rfl
mutual
theorem dp_of {Av : Addr → Prop} : ∀ (n : Nat) (d : D) {v : V}, okN n d → Hd K Av H d v → Dp K H v d.pd
  | n, .non, _, _, h => by cases h; exact .non
  | n, .bl _, _, _, h => by cases h; exact .bl _
  | n, .int _, _, _, h => by cases h; exact .int _
  | n, .str x, _, _, h => by cases h; exact .str _
  | n + 1, .tup ds, _, o, h => by
    unfold okN at o
    cases h with
    | tup a s l => unfold D.pd; exact .tup (SqT.of s) (dpL_of n ds o l)
  | n + 1, .lst ds, _, o, h => by
    unfold okN at o
    cases h with
    | lst a s l => unfold D.pd; exact .lst (SqL.of s) (dpL_of n ds o l)
  | n + 1, .kl ds, _, o, h => by
    unfold okN at o
    cases h with
    | kl s l => unfold D.pd; exact .lst s.sq (dpL_of n ds o l)
  | n + 1, .kt ds, _, o, h => by
    unfold okN at o
    cases h with
    | kt s l => unfold D.pd; exact .tup s.sq (dpL_of n ds o l)
  | 0, .kt ds, _, h, _ => by unfold okN at h; exact h.elim
  | 0, .tup ds, _, h, _ => by unfold okN at h; exact h.elim
  | 0, .lst ds, _, h, _ => by unfold okN at h; exact h.elim
  | 0, .kl ds, _, h, _ => by unfold okN at h; exact h.elim
  | n, .ty _, _, h, _ => by unfold okN at h; exact h.elim
  | n, .ref _, _, h, _ => by unfold okN at h; exact h.elim
  | n, .dK _ _, _, h, _ => by unfold okN at h; exact h.elim
theorem dpL_of {Av : Addr → Prop} : ∀ (n : Nat) (ds : List D) {vs : List V}, okL n ds → HdL K Av H ds vs → DpAll K H vs (D.pdL ds)
  | n, [], _, _, h => by cases h; exact .nil
  | n, d :: ds, _, o, h => by
    unfold okL at o
    cases h with
    | cons a b => exact .cons (dp_of n d o.1 a) (dpL_of n ds o.2 b)
end
theorem HdB.dp {n : Nat} {d : D} {v : V} (o : okN n d) (h : HdB K A B M H d v) : Dp K H v d.pd := by
  rcases h with h | ⟨es, a, vs, e1, e2, e3, e4, e5⟩
  · exact dp_of n d o h
  · subst e1 e2
    cases n with
    | zero => unfold okN at o; exact o.elim
    | succ n =>
      unfold okN at o
      unfold D.pd
      exact .lst (SqL.of e4) (dpL_of n es o e5)
def eqD (d e : D) : Bool := PyData.eqv d.pd e.pd
def dEqD : R2D := fun d e Q => ∃ n, n ≤ 60 ∧ okN n d ∧ okN n e ∧ Q (.bl (eqD d e))
def dNeD : R2D := fun d e Q => ∃ n, n ≤ 60 ∧ okN n d ∧ okN n e ∧ Q (.bl (!eqD d e))
theorem o_eqD (hu : X.A.units + 64 < cLine) (hK : X.K = K := by rfl) : OpR X (compareOp .Eq) (rEqD K) ∧ SimR K (rEqD K) dEqD := by
  subst hK
  refine ⟨op_eqD hu, fun A B M H d e x y Q Q' hx hy q k => ?_⟩
  obtain ⟨n, hn, o1, o2, q⟩ := q
  exact ⟨_, _, hx.dp o1, hy.dp o2, ok_shaped o1 hn, ok_shaped o2 hn, k _ _ (.bl _) q⟩
theorem o_neD (hu : X.A.units + 64 < cLine) (hK : X.K = K := by rfl) : OpR X (compareOp .NotEq) (rNeD K) ∧ SimR K (rNeD K) dNeD := by
  subst hK
  refine ⟨op_neD hu, fun A B M H d e x y Q Q' hx hy q k => ?_⟩
  obtain ⟨n, hn, o1, o2, q⟩ := q
  exact ⟨_, _, hx.dp o1, hy.dp o2, ok_shaped o1 hn, ok_shaped o2 hn, k _ _ (.bl _) q⟩
/-! items, len -/
theorem HdL.at {Av : Addr → Prop} {ds : List D} {vs : List V} {i : Int} {c : D} (h : HdL K Av H ds vs) (e : atI ds i = some c) : ∃ v, atI vs i = some v ∧ Hd K Av H c v := by
  unfold atI at e ⊢
  rw [← h.length]
  cases q : ixN ds.length i with
  | none => rw [q] at e; cases e
  | some j =>
    rw [q] at e
    exact h.get e
def dIxL : R2D := fun d e Q => ∃ ds i c, d.lq = some ds ∧ e = .int i ∧ atI ds i = some c ∧ Q c
def dIxT : R2D := fun d e Q => ∃ ds i c, d.tq = some ds ∧ e = .int i ∧ atI ds i = some c ∧ Q c
theorem o_ixL (hK : X.K = K := by rfl) : IxR X (rIxL K) ∧ SimR K (rIxL K) dIxL := by
  subst hK
  refine ⟨ix_list, fun A B M H d e x y Q Q' hx hy q k => ?_⟩
  obtain ⟨ds, i, c, e1, rfl, e3, q⟩ := q
  obtain ⟨a, vs, rfl, s, l⟩ := hx.list e1
  obtain ⟨v, ev, hv⟩ := l.at e3
  exact ⟨a, vs, i, v, rfl, hy.int, s, ev, k c v hv q⟩
theorem o_ixT (hK : X.K = K := by rfl) : IxR X (rIxT K) ∧ SimR K (rIxT K) dIxT := by
  subst hK
  refine ⟨ix_tup, fun A B M H d e x y Q Q' hx hy q k => ?_⟩
  obtain ⟨ds, i, c, e1, rfl, e3, q⟩ := q
  obtain ⟨a, vs, rfl, s, l⟩ := hx.tup e1
  obtain ⟨v, ev, hv⟩ := l.at e3
  exact ⟨a, vs, i, v, rfl, hy.int, s, ev, k c v hv q⟩
def D.lenQ : D → Option Nat
  | .lst ds => some ds.length
  | .kl ds => some ds.length
  | .tup ds => some ds.length
  | .kt ds => some ds.length
  | _ => none
def dLen : R1D := fun d Q => ∃ n, d.lenQ = some n ∧ Q (.int n)
theorem HdB.len {d : D} {n : Nat} {v : V} (h : HdB K A B M H d v) (e : d.lenQ = some n) : ∃ p ys, v = .ref p ∧ (SqL K H p ys ∨ SqT K H p ys) ∧ ys.length = n := by
  cases d with
  | lst ds => cases e; obtain ⟨a, vs, e, s, l⟩ := h.lst; exact ⟨a, vs, e, .inl (SqL.of s), l.length.symm⟩
  | kl ds => cases e; obtain ⟨a, vs, e, s, l⟩ := h.list rfl; exact ⟨a, vs, e, .inl s, l.length.symm⟩
  | tup ds => cases e; obtain ⟨a, vs, e, s, l⟩ := h.tup rfl; exact ⟨a, vs, e, .inr s, l.length.symm⟩
  | kt ds => cases e; obtain ⟨a, vs, e, s, l⟩ := h.tup rfl; exact ⟨a, vs, e, .inr s, l.length.symm⟩
  | _ => cases e
theorem o_len (hK : X.K = K := by rfl) : CallR X (.builtin "len") (fun xs H Q => ∃ p ys, xs = [.ref p] ∧ (SqL K H p ys ∨ SqT K H p ys) ∧ Q (.int ys.length) H) ∧ SimC K (fun xs H Q => ∃ p ys, xs = [.ref p] ∧ (SqL K H p ys ∨ SqT K H p ys) ∧ Q (.int ys.length) H) dLen := by
  subst hK
  refine ⟨call_len_seq, fun A B M H d x Q Q' hx q k => ?_⟩
  obtain ⟨n, e, q⟩ := q
  obtain ⟨p, ys, rfl, s, l⟩ := hx.len e
  subst l
  exact ⟨p, ys, rfl, s, k _ _ (.int _) q⟩
def dLenS : R1D := fun d Q => ∃ x, d = .str x ∧ x.length ≤ sizeLine ∧ Q (.int x.length)
theorem o_lenS : CallR X (.builtin "len") (fun xs H Q => ∃ z, xs = [.str z] ∧ z.length ≤ sizeLine ∧ Q (.int z.length) H) ∧ SimC K (fun xs H Q => ∃ z, xs = [.str z] ∧ z.length ≤ sizeLine ∧ Q (.int z.length) H) dLenS := by
  refine ⟨call_len_str, fun A B M H d x Q Q' hx q k => ?_⟩
  obtain ⟨z, rfl, hz, q⟩ := q
  rw [hx.str]
  exact ⟨z, rfl, hz, k _ _ (.int _) q⟩
/-! sum, any, all, min, max, abs, int -/
def dSum : R1D := fun d Q => ∃ ns : List Int, d.lq = some (ns.map .int) ∧ Q (.int ns.sum)
theorem o_sum (hc : X.calm = true) (hK : X.K = K := by rfl) : CallR X (.builtin "sum") (rSum K) ∧ SimC K (rSum K) dSum := by
  subst hK
  refine ⟨cr_sum hc, fun A B M H d x Q Q' hx q k => ?_⟩
  obtain ⟨ns, e, q⟩ := q
  obtain ⟨a, vs, rfl, s, l⟩ := hx.list e
  rw [l.ints] at s
  exact ⟨a, ns, rfl, s, k _ _ (.int _) q⟩
def dAny : R1D := fun d Q => ∃ ns : List Bool, d.lq = some (ns.map .bl) ∧ Q (.bl (ns.any id))
def dAll : R1D := fun d Q => ∃ ns : List Bool, d.lq = some (ns.map .bl) ∧ Q (.bl (ns.all id))
theorem o_any (hc : X.calm = true) (hK : X.K = K := by rfl) : CallR X (.builtin "any") (rAny K) ∧ SimC K (rAny K) dAny := by
  subst hK
  refine ⟨cr_any hc, fun A B M H d x Q Q' hx q k => ?_⟩
  obtain ⟨ns, e, q⟩ := q
  obtain ⟨a, vs, rfl, s, l⟩ := hx.list e
  rw [l.bls] at s
  exact ⟨a, ns, rfl, s, k _ _ (.bl _) q⟩
theorem o_all (hc : X.calm = true) (hK : X.K = K := by rfl) : CallR X (.builtin "all") (rAll K) ∧ SimC K (rAll K) dAll := by
  subst hK
  refine ⟨cr_all hc, fun A B M H d x Q Q' hx q k => ?_⟩
  obtain ⟨ns, e, q⟩ := q
  obtain ⟨a, vs, rfl, s, l⟩ := hx.list e
  rw [l.bls] at s
  exact ⟨a, ns, rfl, s, k _ _ (.bl _) q⟩
def dMax : R1D := fun d Q => ∃ ns : List Int, d.lq = some (ns.map .int) ∧ 0 < ns.length ∧ ∀ m, m ∈ ns → (∀ y, y ∈ ns → y ≤ m) → Q (.int m)
def dMin : R1D := fun d Q => ∃ ns : List Int, d.lq = some (ns.map .int) ∧ 0 < ns.length ∧ ∀ m, m ∈ ns → (∀ y, y ∈ ns → m ≤ y) → Q (.int m)
theorem o_max (hc : X.calm = true) (hK : X.K = K := by rfl) : CallR X (.builtin "max") (rMax K) ∧ SimC K (rMax K) dMax := by
  subst hK
  refine ⟨cr_max hc, fun A B M H d x Q Q' hx q k => ?_⟩
  obtain ⟨ns, e, h0, q⟩ := q
  obtain ⟨a, vs, rfl, s, l⟩ := hx.list e
  rw [l.ints] at s
  exact ⟨a, ns, rfl, s, h0, fun m h1 h2 => k _ _ (.int _) (q m h1 h2)⟩
theorem o_min (hc : X.calm = true) (hK : X.K = K := by rfl) : CallR X (.builtin "min") (rMin K) ∧ SimC K (rMin K) dMin := by
  subst hK
  refine ⟨cr_min hc, fun A B M H d x Q Q' hx q k => ?_⟩
  obtain ⟨ns, e, h0, q⟩ := q
  obtain ⟨a, vs, rfl, s, l⟩ := hx.list e
  rw [l.ints] at s
  exact ⟨a, ns, rfl, s, h0, fun m h1 h2 => k _ _ (.int _) (q m h1 h2)⟩
def dMin2 : R2D := dI0 fun i j => .int (if j < i then j else i)
def dMax2 : R2D := dI0 fun i j => .int (if j > i then j else i)
theorem o_min2 (hc : X.calm = true) : CallR X (.builtin "min") (fun xs H Q => ∃ i j, xs = [.int i, .int j] ∧ Q (.int (if j < i then j else i)) H) ∧ SimC2 K (fun xs H Q => ∃ i j, xs = [.int i, .int j] ∧ Q (.int (if j < i then j else i)) H) dMin2 :=
  ⟨call_min2 hc, fun A B M H d e x y Q Q' hx hy q k => by
    obtain ⟨i, j, rfl, rfl, q⟩ := q
    rw [hx.int, hy.int]
    exact ⟨i, j, rfl, k _ _ (.int _) q⟩⟩
theorem o_max2 (hc : X.calm = true) : CallR X (.builtin "max") (fun xs H Q => ∃ i j, xs = [.int i, .int j] ∧ Q (.int (if j > i then j else i)) H) ∧ SimC2 K (fun xs H Q => ∃ i j, xs = [.int i, .int j] ∧ Q (.int (if j > i then j else i)) H) dMax2 :=
  ⟨call_max2 hc, fun A B M H d e x y Q Q' hx hy q k => by
    obtain ⟨i, j, rfl, rfl, q⟩ := q
    rw [hx.int, hy.int]
    exact ⟨i, j, rfl, k _ _ (.int _) q⟩⟩
def dAbs : R1D := fun d Q => ∃ i, d = .int i ∧ Q (.int (if i < 0 then -i else i))
theorem o_abs : CallR X (.builtin "abs") (fun xs H Q => ∃ i, xs = [.int i] ∧ Q (.int (if i < 0 then -i else i)) H) ∧ SimC K (fun xs H Q => ∃ i, xs = [.int i] ∧ Q (.int (if i < 0 then -i else i)) H) dAbs :=
  ⟨call_abs, fun A B M H d x Q Q' hx q k => by
    obtain ⟨i, rfl, q⟩ := q
    rw [hx.int]
    exact ⟨i, rfl, k _ _ (.int _) q⟩⟩
def D.toI : D → Option Int
  | .int i => some i
  | .bl b => some (if b then 1 else 0)
  | _ => none
def dInt : R1D := fun d Q => ∃ i, d.toI = some i ∧ Q (.int i)
theorem o_int : CallR X (.type "int") (fun xs H Q => (∃ i, xs = [.int i] ∧ Q (.int i) H) ∨ ∃ k, xs = [.bl k] ∧ Q (.int (if k then 1 else 0)) H) ∧ SimC K (fun xs H Q => (∃ i, xs = [.int i] ∧ Q (.int i) H) ∨ ∃ k, xs = [.bl k] ∧ Q (.int (if k then 1 else 0)) H) dInt :=
  ⟨call_int1, fun A B M H d x Q Q' hx q k => by
    obtain ⟨i, e, q⟩ := q
    cases d with
    | int j => cases e; rw [hx.int]; exact .inl ⟨_, rfl, k _ _ (.int _) q⟩
    | bl b => cases e; rw [hx.bl]; exact .inr ⟨_, rfl, k _ _ (.int _) q⟩
    | _ => cases e⟩
/-! isinstance -/
def D.tn : D → String
  | .non => "NoneType"
  | .bl _ => "bool"
  | .int _ => "int"
  | .str _ => "str"
  | .tup _ => "tuple"
  | .kt _ => "tuple"
  | .lst _ => "list"
  | .kl _ => "list"
  | .dK _ _ => "dict"
  | _ => "?"
theorem SqTa.ty {Av : Addr → Prop} {a : Addr} {vs : List V} (s : SqTa K Av H a vs) : TyX K H (.ref a) (.type "tuple") := by
  rcases s with ⟨_, h | ⟨o, h⟩⟩ | ⟨o, its, n, hk, hc, _⟩
  · exact .base (.tup h)
  · exact .fTuple h
  · exact .kTuple hk hc
theorem SqLa.ty {Av : Addr → Prop} {a : Addr} {vs : List V} (s : SqLa K Av H a vs) : TyX K H (.ref a) (.type "list") := by
  rcases s with ⟨_, h | ⟨o, h⟩⟩ | ⟨o, its, n, hk, hc, _⟩
  · exact .base (.lst h)
  · exact .base (.frz h)
  · exact .kList hk hc
def D.tk : D → Bool
  | .ty _ => false
  | .ref _ => false
  | _ => true
theorem HdB.tyx {d : D} {v : V} (h : HdB K A B M H d v) (k : d.tk = true) : TyX K H v (.type d.tn) := by
  rcases h with h | ⟨es, a, vs, e1, e2, e3, e4, e5⟩
  · cases h with
    | non => exact .base .non
    | bl b => exact .base (.bl b)
    | int i => exact .base (.int i)
    | str x => exact .base (.str x)
    | tup n s l => exact .base (.tup s)
    | kt s l => exact s.ty
    | lst a s l => exact .base (.lst s)
    | kl s l => exact s.ty
    | dK n s _ l => exact .base (.dK s)
    | _ => cases k
  · subst e1 e2
    exact .base (.lst e4)
def dIsi : R2D := fun d e Q => ∃ n b, e = .ty n ∧ d.tk = true ∧ kitB d.tn n = some b ∧ Q (.bl b)
theorem o_isi (hK : X.K = K := by rfl) : CallR X (.builtin "isinstance") (rIsi K) ∧ SimC2 K (rIsi K) dIsi := by
  subst hK
  refine ⟨call_isi, fun A B M H d e x y Q Q' hx hy q k => ?_⟩
  obtain ⟨n, b, rfl, hk, hb, q⟩ := q
  rw [hy.ty]
  exact ⟨x, _, _, _, b, rfl, .ty n, hx.tyx hk, kit_ty hb, k _ _ (.bl _) q⟩
/-! new lists -/
def dCat : R2N := fun d e Q => ∃ ds es, d = .lst ds ∧ e = .lst es ∧ ds.length + es.length ≤ sizeLine ∧ Q (ds ++ es)
theorem o_cat : OpR X (binaryOp .Add) rCat ∧ SimRN K rCat dCat := ⟨op_cat, fun A B M H d e x y Q Q' hx hy q k => by
  obtain ⟨ds, es, rfl, rfl, hz, q⟩ := q
  obtain ⟨a, vs, rfl, s, l⟩ := hx.lst
  obtain ⟨b, us, rfl, s2, l2⟩ := hy.lst
  exact ⟨a, b, vs, us, rfl, rfl, s, s2, by rw [← l.length, ← l2.length]; exact hz, fun p hp => k _ _ p (l.app l2) hp q⟩⟩
def dRep : R2N := fun d e Q => ∃ ds i, d = .lst ds ∧ e = .int i ∧ -(2 ^ 63) ≤ i ∧ i < 2 ^ 63 ∧ ds.length * i.toNat ≤ sizeLine ∧ Q (List.replicate i.toNat ds).flatten
theorem o_rep : OpR X (binaryOp .Mult) rRep ∧ SimRN K rRep dRep := ⟨op_rep, fun A B M H d e x y Q Q' hx hy q k => by
  obtain ⟨ds, i, rfl, rfl, h0, h1, hz, q⟩ := q
  obtain ⟨a, vs, rfl, s, l⟩ := hx.lst
  exact ⟨a, i, vs, rfl, hy.int, s, h0, h1, by rw [← l.length]; exact hz, fun p hp => k _ _ p (l.rep _) hp q⟩⟩
def D.itQ : D → Option (List D)
  | .lst ds => some ds
  | .kl ds => some ds
  | .tup ds => some ds
  | .kt ds => some ds
  | _ => none
theorem HdB.its {d : D} {ds : List D} {v : V} (h : HdB K A B M H d v) (e : d.itQ = some ds) : ∃ a vs, v = .ref a ∧ (SqL K H a vs ∨ SqT K H a vs) ∧ HdL K (Av A B M) H ds vs := by
  cases d with
  | lst ds => cases e; obtain ⟨a, vs, e, s, l⟩ := h.lst; exact ⟨a, vs, e, .inl (SqL.of s), l⟩
  | kl ds => cases e; obtain ⟨a, vs, e, s, l⟩ := h.list rfl; exact ⟨a, vs, e, .inl s, l⟩
  | tup ds => cases e; obtain ⟨a, vs, e, s, l⟩ := h.tup rfl; exact ⟨a, vs, e, .inr s, l⟩
  | kt ds => cases e; obtain ⟨a, vs, e, s, l⟩ := h.tup rfl; exact ⟨a, vs, e, .inr s, l⟩
  | _ => cases e
def dListOf : R1N := fun d Q => ∃ ds, d.itQ = some ds ∧ Q ds
theorem o_listOf (hK : X.K = K := by rfl) : CallR X (.type "list") (fun xs H Q => ∃ p ys, xs = [.ref p] ∧ (SqL K H p ys ∨ SqT K H p ys) ∧ ∀ l, H l = none → Q (.ref l) (upd H l (.lst ys))) ∧ SimUN K (fun xs H Q => ∃ p ys, xs = [.ref p] ∧ (SqL K H p ys ∨ SqT K H p ys) ∧ ∀ l, H l = none → Q (.ref l) (upd H l (.lst ys))) dListOf := by
  subst hK
  refine ⟨call_list_of, fun A B M H d x Q Q' hx q k => ?_⟩
  obtain ⟨ds, e, q⟩ := q
  obtain ⟨a, vs, rfl, s, l⟩ := hx.its e
  exact ⟨a, vs, rfl, s, fun p hp => k _ _ p l hp q⟩
def dSorted : R1N := fun d Q => ∃ ns : List Int, d.lq = some (ns.map .int) ∧ ns.length < 64 ∧ ∀ ms : List Int, ms.Perm ns → ms.Pairwise (· ≤ ·) → Q (ms.map .int)
theorem o_sorted (hK : X.K = K := by rfl) : CallR X (.builtin "sorted") (rSorted K) ∧ SimUN K (rSorted K) dSorted := by
  subst hK
  refine ⟨cr_sorted, fun A B M H d x Q Q' hx q k => ?_⟩
  obtain ⟨ns, e, h64, q⟩ := q
  obtain ⟨a, vs, rfl, s, l⟩ := hx.list e
  rw [l.ints] at s
  exact ⟨a, ns, rfl, s, h64, fun ms p h1 h2 hp => k _ _ p .ofInts hp (q ms h1 h2)⟩
/-! slices -/
def cutD (ds : List D) (lo hi : Option Int) : List D := (ds.drop (HT.sIx ds.length 0 lo)).take (HT.sIx ds.length ds.length hi - HT.sIx ds.length 0 lo)
theorem HdL.cut {Av : Addr → Prop} {ds : List D} {vs : List V} (h : HdL K Av H ds vs) (lo hi : Option Int) : HdL K Av H (cutD ds lo hi) (cutV vs lo hi) := by
  unfold cutD cutV
  rw [h.length]
  exact (h.drop _).take _
end
abbrev TOD := Env → Mm → (Option Int → Env → Mm → Prop) → Prop
def SimO (K : PySem.W.Frag) (t : TO) (t' : TOD) : Prop := ∀ A B M ρ σ H Q Q', ER K A B M ρ σ H → t' ρ M Q' →
  (∀ o ρ' M' B' H', ER K A B' M' ρ' σ H' → Fr (Av A B M) (Av A B' M') H H' → FrM M M' H H' → Q' o ρ' M' → Q o H') → t σ H Q
structure DO (X : Cx) (K : PySem.W.Frag) (e : Option Expr) (t : TO) (t' : TOD) : Prop where
  po : PO X e t
  sim : SimO K t t'
section
variable {X : Cx} {K : PySem.W.Frag} {A : CA} {e : Expr} {lo hi : Option Expr} {te : TE} {tl th : TO} {te' : TED} {tl' th' : TOD} {pos p2 : Pos}
def dNoPart : TOD := fun ρ M Q => Q none ρ M
def dPart (t : TED) : TOD := fun ρ M Q => t ρ M fun d ρ1 M1 => ∃ i, d = .int i ∧ Q (some i) ρ1 M1
theorem do_none : DO X K none tNoPart dNoPart := ⟨po_none, fun A B M ρ σ H Q Q' r q k => k none ρ M B H r .refl .refl q⟩
theorem do_some (h : DE X K e te te') : DO X K (some e) (tPart te) (dPart te') := ⟨po_some h.pe, fun A B M ρ σ H Q Q' R q k => h.sim A B M ρ σ H _ _ R q fun d ρ1 M1 B1 v H1 R1 f1 m1 h1 q1 => by
  obtain ⟨i, rfl, q1⟩ := q1
  cases h1
  exact ⟨i, rfl, k _ ρ1 M1 B1 H1 R1 f1 m1 q1⟩⟩
def dSlL (t : TED) (tl th : TOD) : TEN := fun ρ M Q => t ρ M fun d ρ1 M1 => tl ρ1 M1 fun l ρ2 M2 => th ρ2 M2 fun u ρ3 M3 => ∃ ds, d.lq = some ds ∧ Q (cutD ds l u) ρ3 M3
theorem dn_sl (he : DB X K e te te') (hl : DO X K lo tl tl') (hu : DO X K hi th th') (hK : X.K = K := by rfl) : DN X K (.Subscript e (.Slice lo hi none p2) pos) (tSl (rSlL K) te tl th) (dSlL te' tl' th') := by
  subst hK
  refine ⟨pe_slice sl_list he.pe hl.po hu.po, fun A B M ρ σ H Q Q' R q k => he.sim A B M ρ σ H _ _ R q fun d ρ1 M1 B1 v H1 R1 f1 m1 h1 q1 => hl.sim A B1 M1 ρ1 σ H1 _ _ R1 q1 fun l ρ2 M2 B2 H2 R2 f2 m2 q2 =>
    hu.sim A B2 M2 ρ2 σ H2 _ _ R2 q2 fun u ρ3 M3 B3 H3 R3 f3 m3 q3 => ?_⟩
  obtain ⟨ds, e, q3⟩ := q3
  obtain ⟨a, vs, rfl, s, hd⟩ := ((h1.fr f2 m2).fr f3 m3).list e
  refine ⟨a, vs, rfl, s, fun p hp => ?_⟩
  obtain ⟨B4, R4, f4, m4, hb4, h4⟩ := R3.newOwn hp (hd.cut l u)
  exact k _ ρ3 M3 B4 p _ _ R4 (((f1.trans f2).trans f3).trans f4) (((m1.trans m2).trans m3).trans m4) hb4 upd_same h4 q3
def dSlT (t : TED) (tl th : TOD) : TED := fun ρ M Q => t ρ M fun d ρ1 M1 => tl ρ1 M1 fun l ρ2 M2 => th ρ2 M2 fun u ρ3 M3 => ∃ ds, d.tq = some ds ∧ ¬ (HT.sIx ds.length 0 l = 0 ∧ HT.sIx ds.length ds.length u = ds.length) ∧ Q (.tup (cutD ds l u)) ρ3 M3
theorem de_slT (he : DB X K e te te') (hl : DO X K lo tl tl') (hu : DO X K hi th th') (hK : X.K = K := by rfl) : DE X K (.Subscript e (.Slice lo hi none p2) pos) (tSl (rSlT K) te tl th) (dSlT te' tl' th') := by
  subst hK
  refine ⟨pe_slice sl_tup he.pe hl.po hu.po, fun A B M ρ σ H Q Q' R q k => he.sim A B M ρ σ H _ _ R q fun d ρ1 M1 B1 v H1 R1 f1 m1 h1 q1 => hl.sim A B1 M1 ρ1 σ H1 _ _ R1 q1 fun l ρ2 M2 B2 H2 R2 f2 m2 q2 =>
    hu.sim A B2 M2 ρ2 σ H2 _ _ R2 q2 fun u ρ3 M3 B3 H3 R3 f3 m3 q3 => ?_⟩
  obtain ⟨ds, e1, nw, q3⟩ := q3
  obtain ⟨a, vs, rfl, s, hd⟩ := ((h1.fr f2 m2).fr f3 m3).tup e1
  refine ⟨a, vs, rfl, s, by rw [← hd.length]; exact nw, fun p hp => ?_⟩
  obtain ⟨R4, f4, m4, np, _⟩ := R3.new (o := .tup (cutV vs l u)) hp
  exact k _ ρ3 M3 B3 _ _ R4 (((f1.trans f2).trans f3).trans f4) (((m1.trans m2).trans m3).trans m4) (.tup np upd_same ((hd.cut l u).fr f4)) q3
end
end DM

namespace DM
open PySem PySem.Spec PyProof.Rows L2 TK
variable [Gd]
/-- a promise told by data: arguments, shared things, what is wanted of a value, of a new list, of an error of a class -/
abbrev SpD := List D → Mm → (D → Mm → Prop) → (List D → Mm → Prop) → (Addr → Mm → Prop) → Prop
/-- what is not to be changed by a callee: the callers' own lists, the shared things -/
abbrev Avc (A : CA) (M : Mm) : Addr → Prop := Av A (fun _ => none) M
structure ROk (K : PySem.W.Frag) (A : CA) (M : Mm) (H : Hp) : Prop where
  ob : ∀ a mo, M a = some mo → MOk K (Avc A M) H a mo
  tr : ∀ b, M b ≠ none → H b ≠ none
  sep : ∀ a, A.h a ≠ none → M a = none
  sn : ∀ b o, A.h b = some o → H b = some o
  md : ∀ b, A.d b → M b ≠ none
/-- the promise by values: A, what the callers write -/
def ofD (K : PySem.W.Frag) (sp : SpD) : Sp := fun vs H Q E => ∃ (A : CA) (M : Mm) (ds : List D), ROk K A M H ∧ HdL K (Avc A M) H ds vs ∧
  sp ds M (fun d M' => ∀ v H', ROk K A M' H' → FrM M M' H H' → Hd K (Avc A M') H' d v → Q v H')
    (fun es M' => ∀ a us H', H a = none → ROk K (A.add a (.lst us)) M' H' → FrM M M' H H' → HdL K (Avc (A.add a (.lst us)) M') H' es us → Q (.ref a) H')
    (fun C M' => ∀ H', ROk K A M' H' → FrM M M' H H' → E (.ref C) none H')
section
variable {K : PySem.W.Frag} {A : CA} {B : Nat → Option Addr} {M : Mm} {ρ : Env} {σ : L2.St} {H : Hp}
open Classical in
/-- what a callee is to leave alone -/
noncomputable def AB (A : CA) (B : Nat → Option Addr) (M : Mm) (H : Hp) : CA := ⟨fun b => if A.h b ≠ none ∨ ∃ i, B i = some b then H b else none, fun b => M b ≠ none⟩
theorem ab_h {b : Addr} : (AB A B M H).h b = (open Classical in if A.h b ≠ none ∨ ∃ i, B i = some b then H b else none) := rfl
theorem ab_some {b : Addr} {o : HO} (h : (AB A B M H).h b = some o) : H b = some o ∧ (A.h b ≠ none ∨ ∃ i, B i = some b) := by
  rw [ab_h] at h
  split at h
  case isTrue q => exact ⟨h, q⟩
  case isFalse q => cases h
theorem ER.ab (r : ER K A B M ρ σ H) {b : Addr} : (AB A B M H).h b ≠ none ↔ (A.h b ≠ none ∨ ∃ i, B i = some b) := by
  rw [ab_h]
  constructor
  · intro h
    split at h
    case isTrue q => exact q
    case isFalse q => exact absurd rfl h
  · intro h
    rw [if_pos h]
    exact r.tr b (h.elim .inl fun h => .inr (.inl h))
theorem ER.av_ab (r : ER K A B M ρ σ H) (M' : Mm) : Avc (AB A B M H) M' = Av A B M' := by
  funext b
  unfold Avc Av
  refine propext ⟨fun h => ?_, fun h => ?_⟩
  · rcases h with h | ⟨i, h⟩ | h
    · rcases r.ab.mp h with h | h
      · exact .inl h
      · exact .inr (.inl h)
    · cases h
    · exact .inr (.inr h)
  · rcases h with h | h | h
    · exact .inl (r.ab.mpr (.inl h))
    · exact .inl (r.ab.mpr (.inr h))
    · exact .inr (.inr h)
theorem ER.rok (r : ER K A B M ρ σ H) : ROk K (AB A B M H) M H := by
  refine ⟨fun a mo e => ?_, fun b h => r.tr b (.inr (.inr h)), fun a h => ?_, fun b o h => (ab_some h).1, fun b h => h⟩
  · rw [r.av_ab]; exact r.ob a mo e
  · rcases r.ab.mp h with h | ⟨i, h⟩
    · exact r.sepA a h
    · exact r.sepM i a h
theorem none_of_not_av {b : Addr} (n : ¬ Av A B M b) : M b = none := by
  cases q : M b with
  | none => rfl
  | some mo => exact absurd (.inr (.inr (by rw [q]; simp))) n
/-- behind a call -/
theorem ER.back {M' : Mm} {H' : Hp} (r : ER K A B M ρ σ H) (o : ROk K (AB A B M H) M' H') (m : FrM M M' H H') : ER K A B M' ρ σ H' ∧ Fr (Av A B M) (Av A B M') H H' := by
  have ownM : ∀ i a, B i = some a → M' a = none := fun i a e => o.sep a (r.ab.mpr (.inr ⟨i, e⟩))
  have f : Fr (Av A B M) (Av A B M') H H' := fun b u n e => by
    obtain ⟨e1, n2⟩ := m b u (none_of_not_av n) e
    refine ⟨e1, fun h => ?_⟩
    rcases h with h | h | h
    · exact n (.inl h)
    · exact n (.inr (.inl h))
    · exact h n2
  refine ⟨⟨r.len, fun j s v e1 e2 => (r.sl j s v e1 e2).fr f fun a e => ⟨e, fun u h => (m a u (r.sepM j a e) h).1⟩, r.inj, fun a mo e => ?_, fun b h => ?_, ownM, fun a h => o.sep a (r.ab.mpr (.inl h)), r.sepB, fun b u e => ?_, fun b h => o.md b (r.md b h), Gd.cl f r.gd⟩, f⟩
  · have := o.ob a mo e
    rwa [r.av_ab] at this
  · have at_ : (A.h b ≠ none ∨ ∃ i, B i = some b) → H' b ≠ none := fun h => by
      have h1 := r.ab.mpr h
      cases q : (AB A B M H).h b with
      | none => exact absurd q h1
      | some u => rw [o.sn b u q]; simp
    rcases h with h | h | h
    · exact at_ (.inl h)
    · exact at_ (.inr h)
    · exact o.tr b h
  · have h1 := r.sn b u e
    exact o.sn b u (by rw [ab_h, if_pos (.inl (by rw [e]; simp))]; exact h1)
theorem ER.args {ds : List D} {vs : List V} (r : ER K A B M ρ σ H) (h : HdL K (Av A B M) H ds vs) : HdL K (Avc (AB A B M H) M) H ds vs := by rw [r.av_ab]; exact h
/-- behind a call that hands back a new list -/
theorem ER.backN {M' : Mm} {H' : Hp} {a : Addr} {us : List V} {es : List D} (r : ER K A B M ρ σ H) (hn : H a = none) (o : ROk K ((AB A B M H).add a (.lst us)) M' H') (m : FrM M M' H H')
    (h : HdL K (Avc ((AB A B M H).add a (.lst us)) M') H' es us) : ∃ B', ER K A B' M' ρ σ H' ∧ Fr (Av A B M) (Av A B' M') H H' ∧ B' σ.length = some a ∧ H' a = some (.lst us) ∧ HdL K (Av A B' M') H' es us := by
  have hl : H' a = some (.lst us) := o.sn a _ upd_same
  have nab : (AB A B M H).h a = none := by
    cases q : (AB A B M H).h a with
    | none => rfl
    | some u => rw [(ab_some q).1] at hn; cases hn
  have up : ∀ b, (AB A B M H).h b ≠ none → ((AB A B M H).add a (.lst us)).h b ≠ none := fun b h => by
    show upd _ _ _ b ≠ none
    by_cases e : b = a
    · subst e; rw [upd_same]; simp
    · rw [upd_ne e]; exact h
  have nB : ∀ j c, B j = some c → c ≠ a := fun j c e z => r.tr c (.inr (.inl ⟨j, e⟩)) (z ▸ hn)
  have nA : A.h a = none := by
    cases q : A.h a with
    | none => rfl
    | some u => rw [r.sn a u q] at hn; cases hn
  have av : ∀ b, Av A (put B σ.length (some a)) M' b → Avc ((AB A B M H).add a (.lst us)) M' b := fun b h => by
    rcases av_put_some h with h | h
    · rcases h with h | h | h
      · exact .inl (up b (r.ab.mpr (.inl h)))
      · exact .inl (up b (r.ab.mpr (.inr h)))
      · exact .inr (.inr h)
    · subst h; exact .inl (by show upd _ _ _ b ≠ none; rw [upd_same]; simp)
  have f : Fr (Av A B M) (Av A (put B σ.length (some a)) M') H H' := fun b u n e => by
    obtain ⟨e1, n2⟩ := m b u (none_of_not_av n) e
    refine ⟨e1, fun h => ?_⟩
    rcases av_put_some h with h | h
    · rcases h with h | h | h
      · exact n (.inl h)
      · exact n (.inr (.inl h))
      · exact h n2
    · subst h; rw [hn] at e; cases e
  have at_ : ∀ j c, put B σ.length (some a) j = some c → (j = σ.length ∧ c = a) ∨ (j ≠ σ.length ∧ B j = some c) := fun j c e => by
    by_cases hj : j = σ.length
    · subst hj; rw [put_same] at e; exact .inl ⟨rfl, (Option.some.inj e).symm⟩
    · rw [put_ne hj] at e; exact .inr ⟨hj, e⟩
  refine ⟨put B σ.length (some a), ⟨r.len, fun j s v e1 e2 => ?_, fun j k c e1 e2 => ?_, fun c mo e => ?_, fun b h => ?_, fun j c e => ?_, fun c h => o.sep c (up c (r.ab.mpr (.inl h))), fun j c e => ?_, fun b u e => ?_, fun b h => o.md b (r.md b h), Gd.cl f r.gd⟩, f, put_same, hl, h.fr (.less av)⟩
  · have h1 : j ≠ σ.length := by
      have := (List.getElem?_eq_some_iff.mp e1).1
      rw [r.len]
      omega
    exact (r.sl j s v e1 e2).fr f fun c e => ⟨by rw [put_ne h1]; exact e, fun u h => (m c u (r.sepM j c e) h).1⟩
  · rcases at_ j c e1 with ⟨rfl, rfl⟩ | ⟨n1, h1⟩
    · rcases at_ k c e2 with ⟨rfl, _⟩ | ⟨n2, h2⟩
      · rfl
      · exact absurd rfl (nB _ _ h2)
    · rcases at_ k c e2 with ⟨rfl, rfl⟩ | ⟨n2, h2⟩
      · exact absurd rfl (nB _ _ h1)
      · exact r.inj _ _ _ h1 h2
  · exact (o.ob c mo e).fr (.less av) fun _ h => h
  · rcases av b h with h | ⟨i, h⟩ | h
    · cases q : ((AB A B M H).add a (.lst us)).h b with
      | none => exact absurd q h
      | some u => rw [o.sn b u q]; simp
    · cases h
    · exact o.tr b h
  · rcases at_ j c e with ⟨_, rfl⟩ | ⟨_, h1⟩
    · exact o.sep _ (by show upd _ _ _ _ ≠ none; rw [upd_same]; simp)
    · exact o.sep _ (up _ (r.ab.mpr (.inr ⟨_, h1⟩)))
  · rcases at_ j c e with ⟨_, rfl⟩ | ⟨_, h1⟩
    · exact nA
    · exact r.sepB _ _ h1
  · have h1 : (AB A B M H).h b = some u := by rw [ab_h, if_pos (.inl (by rw [e]; simp))]; exact r.sn b u e
    have h2 : b ≠ a := fun z => by subst z; rw [nab] at h1; cases h1
    exact o.sn b u (by show upd _ _ _ b = _; rw [upd_ne h2]; exact h1)
end
section
variable {X : Cx} {K : PySem.W.Frag} {e : Expr} {es : List Expr} {ta : TA} {ta' : TAD} {x : Str} {ps : List Str} {sp : SpD} {p pos : Pos} {k : Nat}
/-- f(..) of a def that lets no error out: a value -/
def dCall (sp : SpD) (ta' : TAD) : TED := fun ρ M Q => ta' ρ M fun ds ρ1 M1 => sp ds M1 (fun d M2 => Q d ρ1 M2) (fun es M2 => Q (.lst es) ρ1 M2) (fun _ _ => False)
def dCallN (sp : SpD) (ta' : TAD) : TEN := fun ρ M Q => ta' ρ M fun ds ρ1 M1 => sp ds M1 (fun _ _ => False) (fun es M2 => Q es ρ1 M2) (fun _ _ => False)
/-- promises that may be asked with less -/
structure SpMono (sp : SpD) : Prop where
  mono : ∀ ds M Q N E Q' N' E', sp ds M Q N E → (∀ d M', Q d M' → Q' d M') → (∀ d M', N d M' → N' d M') → (∀ d M', E d M' → E' d M') → sp ds M Q' N' E'
theorem sim_call (hm : SpMono sp) (h : SimA K ta ta') : SimE K (tCall (ofD K sp) [] E0 ta) (dCall sp ta') := fun A B M ρ σ H Q Q' R q kk => h A B M ρ σ H _ _ R q fun ds ρ1 M1 B1 vs H1 R1 f1 m1 h1 q1 => by
  refine ⟨AB A B1 M1 H1, M1, ds, R1.rok, ?_, hm.mono _ _ _ _ _ _ _ _ q1 (fun d M2 q2 => ?_) (fun es M2 q2 => ?_) (fun _ _ z => z.elim)⟩
  · rw [List.append_nil]
    exact R1.args h1
  · intro v H2 o m hd
    obtain ⟨R2, f2⟩ := R1.back o m
    rw [R1.av_ab] at hd
    exact kk d ρ1 M2 B1 v H2 R2 (f1.trans f2) (m1.trans m) hd q2
  · intro a us H2 hn o m hd
    obtain ⟨B2, R2, f2, hb, hl, h2⟩ := R1.backN hn o m hd
    obtain ⟨R3, f3⟩ := R2.drop (i := σ.length) (by rw [R2.len]; exact Nat.le_refl _)
    refine kk (.lst es) ρ1 M2 _ (.ref a) H2 R3 ((f1.trans f2).trans f3) (m1.trans m) (.lst ?_ hl (h2.fr f3)) q2
    rintro (h | ⟨j, h⟩ | h)
    · exact h (R2.sepB _ _ hb)
    · have hj : j ≠ σ.length := fun z => by subst z; rw [put_same] at h; cases h
      rw [put_ne hj] at h
      exact hj (R2.inj _ _ _ h hb)
    · exact h (R2.sepM _ _ hb)
theorem sim_callN (hm : SpMono sp) (h : SimA K ta ta') : SimN K (tCall (ofD K sp) [] E0 ta) (dCallN sp ta') := fun A B M ρ σ H Q Q' R q kk => h A B M ρ σ H _ _ R q fun ds ρ1 M1 B1 vs H1 R1 f1 m1 h1 q1 => by
  refine ⟨AB A B1 M1 H1, M1, ds, R1.rok, ?_, hm.mono _ _ _ _ _ _ _ _ q1 (fun _ _ z => z.elim) (fun es M2 q2 => ?_) (fun _ _ z => z.elim)⟩
  · rw [List.append_nil]
    exact R1.args h1
  · intro a us H2 hn o m hd
    obtain ⟨B2, R2, f2, hb, hl, h2⟩ := R1.backN hn o m hd
    exact kk es ρ1 M2 B2 a us H2 R2 (f1.trans f2) (m1.trans m) hb hl h2 q2
theorem de_cal {j : Nat} (C : Cal X.prog X.w X.K X.mg X.base x ps j (ofD K sp)) (hm : SpMono sp) (hr : Room k X.A) (hg : Gl X x) (ha : DA X K (e :: es) ta ta') (hj : j ≤ k := by decide) (hdb : (x == ("__debug__" : Str)) = false := by decide)
    (he : starEach (e :: es) X.env = (false, eval e X.env) :: starEach es X.env := by rfl) (hpl : (backTo pos (starEach es X.env)).any (·.1) = false := by rfl) : DE X K (.Call (.Name x p) (e :: es) [] pos) (tCall (ofD K sp) [] E0 ta) (dCall sp ta') :=
  ⟨pe_cal C hr hg ha.pa hj hdb he hpl, sim_call hm ha.sim⟩
theorem dn_cal {j : Nat} (C : Cal X.prog X.w X.K X.mg X.base x ps j (ofD K sp)) (hm : SpMono sp) (hr : Room k X.A) (hg : Gl X x) (ha : DA X K (e :: es) ta ta') (hj : j ≤ k := by decide) (hdb : (x == ("__debug__" : Str)) = false := by decide)
    (he : starEach (e :: es) X.env = (false, eval e X.env) :: starEach es X.env := by rfl) (hpl : (backTo pos (starEach es X.env)).any (·.1) = false := by rfl) : DN X K (.Call (.Name x p) (e :: es) [] pos) (tCall (ofD K sp) [] E0 ta) (dCallN sp ta') :=
  ⟨pe_cal C hr hg ha.pa hj hdb he hpl, sim_callN hm ha.sim⟩
end
/-! statements -/
structure DS (X : Cx) (K : PySem.W.Frag) (st : Stmt) (t : TS) (t' : TSD) : Prop where
  ps : PS X st t
  sim : SimS K t t'
structure DSs (X : Cx) (K : PySem.W.Frag) (st : List Stmt) (t : TS) (t' : TSD) : Prop where
  ps : PSs X st t
  sim : SimS K t t'
structure DG (X : Cx) (K : PySem.W.Frag) (tg : Expr) (t : TG) (t' : D → TSD) : Prop where
  pg : PG X tg t
  sim : ∀ (A : CA) (B : Nat → Option Addr) (M : Mm) (ρ : Env) (σ : L2.St) (H : Hp) (d : D) (v : V) (D' : EndsD) (Q : L2.St → Hp → Prop), ER K A B M ρ σ H → Hd K (Av A B M) H d v → t' d D' ρ M →
    (∀ ρ' M' B' σ' H', ER K A B' M' ρ' σ' H' → Fr (Av A B M) (Av A B' M') H H' → D'.nx ρ' M' → Q σ' H') → t v σ H Q
structure DGs (X : Cx) (K : PySem.W.Frag) (tg : List Expr) (t : TGs) (t' : List D → TSD) : Prop where
  pg : PGs X tg t
  sim : ∀ (A : CA) (B : Nat → Option Addr) (M : Mm) (ρ : Env) (σ : L2.St) (H : Hp) (ds : List D) (vs : List V) (D' : EndsD) (Q : L2.St → Hp → Prop), ER K A B M ρ σ H → HdL K (Av A B M) H ds vs → t' ds D' ρ M →
    (∀ ρ' M' B' σ' H', ER K A B' M' ρ' σ' H' → Fr (Av A B M) (Av A B' M') H H' → D'.nx ρ' M' → Q σ' H') → t vs σ H Q
section
variable {X : Cx} {K : PySem.W.Frag} {A : CA} {st : Stmt} {rest : List Stmt} {t u : TS} {t' u' : TSD} {e : Expr} {te : TE} {te' : TED} {tn' : TEN} {pos : Pos} {x : Str}
theorem SimS.ends (h : SimS K t t') {A : CA} {B M ρ σ H E D'} {Av0 : Addr → Prop} {H0 : Hp} (r : ER K A B M ρ σ H) (f : Fr Av0 (Av A B M) H0 H) (q : t' D' ρ M) (k : EndsOk K A Av0 H0 D' E) : t E σ H := h A B M ρ σ H E D' r q (k.from f)
def dNext : TSD := fun D ρ M => D.nx ρ M
def dSeq (t u : TSD) : TSD := fun D ρ M => t { D with nx := u D } ρ M
theorem dss_nil : DSs X K [] tNext dNext := ⟨pss_nil, fun A B M ρ σ H E D r q k => k.nx ρ M B σ H r .refl q⟩
theorem dss_cons (h1 : DS X K st t t') (h2 : DSs X K rest u u') : DSs X K (st :: rest) (tSeq t u) (dSeq t' u') :=
  ⟨pss_cons h1.ps h2.ps, fun A B M ρ σ H E D r q k => h1.sim A B M ρ σ H _ _ r q ⟨fun ρ' M' B' σ' H' r' f q' => h2.sim.ends r' f q' k, k.rt, k.rn, k.bk, k.ct⟩⟩
theorem dss_one (h : DS X K st t t') : DSs X K [st] t t' := ⟨pss_one h.ps, h.sim⟩
def dBreak : TSD := fun D ρ M => D.bk ρ M
def dCont : TSD := fun D ρ M => D.ct ρ M
theorem ds_pass : DS X K (.Pass pos) tNext dNext := ⟨ps_pass, fun A B M ρ σ H E D r q k => k.nx ρ M B σ H r .refl q⟩
theorem ds_break : DS X K (.Break pos) tBreak dBreak := ⟨ps_break, fun A B M ρ σ H E D r q k => k.bk ρ M B σ H r .refl q⟩
theorem ds_continue : DS X K (.Continue pos) tCont dCont := ⟨ps_continue, fun A B M ρ σ H E D r q k => k.ct ρ M B σ H r .refl q⟩
def dDrop (te' : TED) : TSD := fun D ρ M => te' ρ M fun _ ρ1 M1 => D.nx ρ1 M1
theorem ds_expr (h : DE X K e te te') (hs : swapsWith e none pos.line X.env = pure false := by rfl) : DS X K (.Expr e pos) (tDrop te) (dDrop te') :=
  ⟨ps_expr h.pe hs, fun A B M ρ σ H E D r q k => h.sim A B M ρ σ H _ _ r q fun d ρ' M' B' v H' r' f m hd q' => k.nx ρ' M' B' σ H' r' f q'⟩
def dRet (te' : TED) : TSD := fun D ρ M => te' ρ M fun d _ M1 => D.rt d M1
theorem ds_ret (h : DE X K e te te') : DS X K (.Return (some e) pos) (tRet te) (dRet te') :=
  ⟨ps_ret h.pe, fun A B M ρ σ H E D r q k => h.sim A B M ρ σ H _ _ r q fun d ρ' M' B' v H' r' f m hd q' => k.rt d v ρ' M' B' σ H' r' f hd q'⟩
/-- a new list is handed back -/
def dRetNew (tn' : TEN) : TSD := fun D ρ M => tn' ρ M fun ds _ M1 => D.rn ds M1
theorem ds_retNew (h : DN X K e te tn') : DS X K (.Return (some e) pos) (tRet te) (dRetNew tn') :=
  ⟨ps_ret h.pe, fun A B M ρ σ H E D r q k => h.sim A B M ρ σ H _ _ r q fun ds ρ' M' B' a vs H' r' f m hb hl hd q' => k.rn ds a vs ρ' M' B' σ H' r' f ⟨_, hb⟩ hl hd q'⟩
/-- a list of one's own is handed back -/
def dRetOwn (i : Nat) : TSD := fun D ρ M => ∃ ds, ρ[i]? = some (.own ds) ∧ D.rn ds M
theorem ds_retOwn (i : Nat) (hN : X.N[i]? = some x := by rfl) (hv : Vis X.env.scope x := by first | exact .inl rfl | exact .inr (.inl rfl) | exact .inr (.inr rfl)) (hd : (x == ("__debug__" : Str)) = false := by decide) (hcd : (x == ("__classdict__" : Str)) = false := by decide) {pos2 : Pos} :
    DS X K (.Return (some (.Name x pos2)) pos) (tRet (tVar i)) (dRetOwn i) :=
  ⟨ps_ret (pe_var hN hv hd hcd), fun A B M ρ σ H E D r q k => by
    obtain ⟨ds, e, q⟩ := q
    obtain ⟨v, ev, a, vs, hb, rfl, hl, hh⟩ := r.at e
    exact ⟨_, ev, k.rn ds a vs ρ M B σ H r .refl ⟨i, hb⟩ hl hh q⟩⟩
def dRetN : TSD := fun D _ M => D.rt .non M
theorem ds_retN : DS X K (.Return none pos) tRetN dRetN := ⟨ps_retN, fun A B M ρ σ H E D r q k => k.rt .non .non ρ M B σ H r .refl .non q⟩
def dIfS (c : TTD) (t u : TSD) : TSD := fun D ρ M => c ρ M fun b ρ1 M1 => if b = true then t D ρ1 M1 else u D ρ1 M1
theorem ds_if {c : Expr} {a b : List Stmt} {tc : TT} {tc' : TTD} (hc : DT X K c tc tc') (ha : DSs X K a t t') (hb : DSs X K b u u') : DS X K (.If c a b pos) (tIfS tc t u) (dIfS tc' t' u') :=
  ⟨ps_if hc.pt ha.ps hb.ps, fun A B M ρ σ H E D r q k => hc.sim A B M ρ σ H _ _ r q fun c ρ' M' B' H' r' f m q' => by
    cases c with
    | true => exact ha.sim.ends r' f q' k
    | false => exact hb.sim.ends r' f q' k⟩
def dNever : TSD := fun _ _ _ => False
theorem ds_never : DS X K st tNever dNever := ⟨ps_never, fun A B M ρ σ H E D r q k => q.elim⟩
theorem dss_never : DSs X K rest tNever dNever := ⟨pss_never, fun A B M ρ σ H E D r q k => q.elim⟩
/-! targets -/
def gdName (i : Nat) : D → TSD := fun d D ρ M => D.nx (ρ.set i (.val d)) M
theorem dg_name (i : Nat) (hN : X.N.Nodup) (hi : X.N[i]? = some x := by rfl) (hx : Loc X.env.scope x := by first | exact .inl rfl | exact .inr rfl) (hf : X.fn x = true ∨ X.env.scope.names.lookup x = some .local := by first | exact .inl rfl | exact .inr rfl | assumption) : DG X K (.Name x pos) (gName i) (gdName i) :=
  ⟨pg_name hN hi hx hf, fun A B M ρ σ H d v D Q r hd q k => k _ M B _ H (r.set hd) .refl q⟩
def gdNil : List D → TSD := fun ds D ρ M => ds = [] ∧ D.nx ρ M
def gdCons (t : D → TSD) (u : List D → TSD) : List D → TSD := fun ds D ρ M => ∃ d r, ds = d :: r ∧ t d { D with nx := fun ρ' M' => u r D ρ' M' } ρ M
theorem dgs_nil : DGs X K [] gNil gdNil := ⟨pgs_nil, fun A B M ρ σ H ds vs D Q r hd q k => by
  obtain ⟨rfl, q⟩ := q
  cases hd
  exact ⟨rfl, k ρ M B σ H r .refl q⟩⟩
theorem dgs_cons {es : List Expr} {tg : TG} {ug : TGs} {tg' : D → TSD} {ug' : List D → TSD} (h1 : DG X K e tg tg') (h2 : DGs X K es ug ug') (hs : (assignEach (e :: es) X.env).map (·.2) = assign e X.env :: (assignEach es X.env).map (·.2) := by rfl) : DGs X K (e :: es) (gCons tg ug) (gdCons tg' ug') :=
  ⟨pgs_cons h1.pg h2.pg hs, fun A B M ρ σ H ds vs D Q r hd q k => by
    obtain ⟨d, rr, rfl, q⟩ := q
    cases hd with
    | cons a b => exact ⟨_, _, rfl, h1.sim A B M ρ σ H d _ _ _ r a q fun ρ' M' B' σ' H' r' f q' => h2.sim A B' M' ρ' σ' H' rr _ D Q r' (b.fr f) q' fun ρ2 M2 B2 σ2 H2 r2 f2 q2 => k ρ2 M2 B2 σ2 H2 r2 (f.trans f2) q2⟩⟩
def gdTup (n : Nat) (t : List D → TSD) : D → TSD := fun d D ρ M => ∃ ds, d.tq = some ds ∧ ds.length = n ∧ t ds D ρ M
theorem dg_tup {es : List Expr} {k n : Nat} {tg : TGs} {tg' : List D → TSD} (h : DGs X K es tg tg') (hK : X.K = K := by rfl) (hc : X.calm = true := by rfl) (hn : (assignEach es X.env).length = n := by rfl) (hst : (assignEach es X.env).findIdx? (·.1) = none := by rfl) : DG X K (.Tuple es k pos) (gTup K n tg) (gdTup n tg') := by
  subst hK
  refine ⟨pg_tup hc h.pg hn hst, fun A B M ρ σ H d v D Q r hd q kk => ?_⟩
  obtain ⟨ds, e1, hl, q⟩ := q
  obtain ⟨a, vs, rfl, s, l⟩ := hd.tq e1
  exact ⟨a, vs, rfl, s, by rw [← l.length]; exact hl, h.sim A B M ρ σ H ds _ D Q r l q kk⟩
def dAsg (te' : TED) (g : D → TSD) : TSD := fun D ρ M => te' ρ M fun d ρ1 M1 => g d D ρ1 M1
theorem ds_asg {tg : Expr} {g : TG} {g' : D → TSD} (he : DE X K e te te') (hg : DG X K tg g g') (hs : swapsWithSole [tg] e pos.line X.env = pure false := by rfl) (hw : swappedStores [tg] e X.env = pure none := by rfl)
    (h1 : (assignEach [tg] X.env).map (·.2) = [assign tg X.env] := by rfl) : DS X K (.Assign [tg] e pos) (tAsg te g) (dAsg te' g') :=
  ⟨ps_asg he.pe hg.pg hs hw h1, fun A B M ρ σ H E D r q k => he.sim A B M ρ σ H _ _ r q fun d ρ' M' B' v H' r' f m hd q' => hg.sim A B' M' ρ' σ H' d v D _ r' hd q' fun ρ2 M2 B2 σ2 H2 r2 f2 q2 => k.nx ρ2 M2 B2 σ2 H2 r2 (f.trans f2) q2⟩
theorem ds_set (i : Nat) {pos' : Pos} (hN : X.N.Nodup) (he : DE X K e te te') (hi : X.N[i]? = some x := by rfl) (hx : Loc X.env.scope x := by first | exact .inl rfl | exact .inr rfl) (hs : swapsWith e (some (.Name x pos')) pos.line X.env = pure false := by rfl) (hf : X.fn x = true ∨ X.env.scope.names.lookup x = some .local := by first | exact .inl rfl | exact .inr rfl | assumption) :
    DS X K (.Assign [.Name x pos'] e pos) (tAsg te (gName i)) (dAsg te' (gdName i)) :=
  ⟨ps_set hN hi hx he.pe hs hf, fun A B M ρ σ H E D r q k => he.sim A B M ρ σ H _ _ r q fun d ρ' M' B' v H' r' f m hd q' => k.nx _ M' B' _ H' (r'.set hd) f q'⟩
/-- a new list to a name: it may be written -/
def dOwn (tn' : TEN) (i : Nat) : TSD := fun D ρ M => tn' ρ M fun ds ρ1 M1 => D.nx (ρ1.set i (.own ds)) M1
theorem sim_own (i : Nat) (h : SimN K te tn') : SimS K (tAsg te (gName i)) (dOwn tn' i) := fun A B M ρ σ H E D r q k => h A B M ρ σ H _ _ r q fun ds ρ' M' B' a vs H' r' f m hb hl hd q' => by
  obtain ⟨B2, r2, f2⟩ := r'.setOwn (i := i) hb hl hd
  exact k.nx _ M' B2 _ H' r2 (f.trans f2) q'
theorem ds_own (i : Nat) {pos' : Pos} (hN : X.N.Nodup) (he : DN X K e te tn') (hi : X.N[i]? = some x := by rfl) (hx : Loc X.env.scope x := by first | exact .inl rfl | exact .inr rfl) (hs : swapsWith e (some (.Name x pos')) pos.line X.env = pure false := by rfl) (hf : X.fn x = true ∨ X.env.scope.names.lookup x = some .local := by first | exact .inl rfl | exact .inr rfl | assumption) :
    DS X K (.Assign [.Name x pos'] e pos) (tAsg te (gName i)) (dOwn tn' i) := ⟨ps_set hN hi hx he.pe hs hf, sim_own i he.sim⟩
/-- a, b = x, y -/
def dPar (i j : Nat) (ta' : TAD) : TSD := fun D ρ M => ta' ρ M fun ds ρ1 M1 => ∃ d e, ds = [d, e] ∧ D.nx ((ρ1.set i (.val d)).set j (.val e)) M1
theorem ds_par (i j : Nat) {y : Str} {a b : Expr} {ta : TA} {ta' : TAD} {px py pt : Pos} {kt k2 pt2} (hN : X.N.Nodup) (ha : DA X K [a, b] ta ta') (hc : X.calm = true := by rfl) (hi : X.N[i]? = some x := by rfl) (hj : X.N[j]? = some y := by rfl) (hij : i ≠ j := by decide)
    (hx : X.env.scope.names.lookup x = some .local := by rfl) (hy : X.env.scope.names.lookup y = some .local := by rfl)
    (hw : swappedStores [.Tuple [.Name x px, .Name y py] kt pt] (.Tuple [a, b] k2 pt2) X.env = pure (some [x, y]) := by rfl)
    (hs : swapsWithSole [.Tuple [.Name x px, .Name y py] kt pt] (.Tuple [a, b] k2 pt2) pos.line X.env = pure false := by rfl) :
    DS X K (.Assign [.Tuple [.Name x px, .Name y py] kt pt] (.Tuple [a, b] k2 pt2) pos) (tPar i j ta) (dPar i j ta') :=
  ⟨ps_par hc hN hi hj hij hx hy ha.pa hw hs, fun A B M ρ σ H E D r q k => ha.sim A B M ρ σ H _ _ r q fun ds ρ' M' B' vs H' r' f m hd q' => by
    obtain ⟨d, e, rfl, q'⟩ := q'
    cases hd with
    | cons h1 h2 =>
      cases h2 with
      | cons h3 h4 =>
        cases h4
        exact ⟨_, _, rfl, k.nx _ M' B' _ H' ((r'.set h1).set h3) f q'⟩⟩
/-- name += e, of numbers -/
def dAug (i : Nat) (te' : TED) (g : Int → Int → Int) : TSD := fun D ρ M => ∃ a, ρ[i]? = some (.val (.int a)) ∧ te' ρ M fun d ρ1 M1 => ∃ b, d = .int b ∧ D.nx (ρ1.set i (.val (.int (g a b)))) M1
theorem ds_aug (i : Nat) {op : Operator} {g : Int → Int → Int} {pos' : Pos} (hN : X.N.Nodup) (he : DE X K e te te') (ho : PIp X op (ipI g)) (hi : X.N[i]? = some x := by rfl) (hx : Loc X.env.scope x := by first | exact .inl rfl | exact .inr rfl) (hf : X.fn x = true ∨ X.env.scope.names.lookup x = some .local := by first | exact .inl rfl | exact .inr rfl | assumption) :
    DS X K (.AugAssign (.Name x pos') op e pos) (tAug i te (ipI g)) (dAug i te' g) :=
  ⟨ps_aug hN hi hx he.pe ho hf, fun A B M ρ σ H E D r q k => by
    obtain ⟨a, e1, q⟩ := q
    obtain ⟨v, ev, y, rfl, hd⟩ := r.at e1
    cases hd
    refine ⟨_, ev, he.sim A B M ρ σ H _ _ r q fun d ρ' M' B' v H' r' f m hd q' => ?_⟩
    obtain ⟨b, rfl, q'⟩ := q'
    cases hd
    exact ⟨a, b, rfl, rfl, k.nx _ M' B' _ H' (r'.set (.int _)) f q'⟩⟩
end
end DM

namespace DM
open PySem PySem.Spec PyProof.Rows L2 TK
variable [Gd]
section
variable {X : Cx} {K : PySem.W.Frag} {st : Stmt} {t : TS} {t' u' : TSD} {e : Expr} {te : TE} {te' : TED} {tn' : TEN} {pos apos cpos pos2 : Pos} {x : Str}
/-- xs.append(e): a list of one's own -/
def dAppend (i : Nat) (te' : TED) : TSD := fun D ρ M => ∃ ds0, ρ[i]? = some (.own ds0) ∧ te' ρ M fun d ρ1 M1 => ∃ ds, ρ1[i]? = some (.own ds) ∧ ds.length < sizeLine ∧ D.nx (ρ1.set i (.own (ds ++ [d]))) M1
theorem sim_append (i : Nat) (h : SimE K te te') : SimS K (tDrop (tBM K "list" rAppend (tVar i) (tCons te tNil))) (dAppend i te') := fun A B M ρ σ H E D r q k => by
  obtain ⟨ds0, e0, q⟩ := q
  obtain ⟨v, ev, a, vs, hb, rfl, hl, _⟩ := r.at e0
  refine ⟨_, ev, Or.inl ⟨rfl, _, SqL.of hl⟩, h A B M ρ σ H _ _ r q fun d ρ1 M1 B1 y H1 r1 f1 m1 hd q1 => ?_⟩
  obtain ⟨ds, e1, hz, q1⟩ := q1
  obtain ⟨v1, ev1, a1, vs1, hb1, rfl, hl1, hds⟩ := r1.at e1
  rw [ev] at ev1
  cases ev1
  refine ⟨a, vs1, y, rfl, rfl, hl1, by rw [← hds.length]; exact hz, ?_⟩
  obtain ⟨r2, f2⟩ := r1.write e1 hb1 (hds.app (.one hd))
  exact k.nx _ M1 B1 σ _ r2 (f1.trans f2) q1
theorem ds_append (i : Nat) (he : DE X K e te te') (hN : X.N[i]? = some x := by rfl) (hv : Vis X.env.scope x := by first | exact .inl rfl | exact .inr (.inl rfl) | exact .inr (.inr rfl)) (hK : X.K = K := by rfl) (hd : (x == ("__debug__" : Str)) = false := by decide) (hcd : (x == ("__classdict__" : Str)) = false := by decide)
    (hbase : attributeBase (.Name x pos2) "append" X.env (eval (.Name x pos2) X.env) = eval (.Name x pos2) X.env := by rfl)
    (hfew : ((backTo cpos (starEach [e] X.env)).all (fun x => !x.1) && (backToKw cpos (keywordEach [] X.env)).all (fun x => x.1.isSome)
      && decide (([e] : List Expr).length + ([] : List Keyword).length + (if ([] : List Keyword).isEmpty then 0 else 1) < 30)) = true := by rfl)
    (hline : (apos.endLine == cpos.line) = true := by rfl) (hs : starEach [e] X.env = (false, eval e X.env) :: starEach [] X.env := by rfl) (hplain : (backTo cpos (starEach [] X.env)).any (·.1) = false := by rfl)
    (hsw : swapsWith (.Call (.Attribute (.Name x pos2) "append" apos) [e] [] cpos) none pos.line X.env = pure false := by rfl) :
    DS X K (.Expr (.Call (.Attribute (.Name x pos2) "append" apos) [e] [] cpos) pos) (tDrop (tBM K "list" rAppend (tVar i) (tCons te tNil))) (dAppend i te') := by
  subst hK
  exact ⟨ps_expr (pe_bm PySem.F.plainAttrs_list PySem.F.slot_list_append PySem.F.type_list_append mt_append (pe_var hN hv hd hcd) (pa_cons he.pe pa_nil hs) hbase hfew hline hs hplain) hsw, sim_append i he.sim⟩
/-- xs[k] = e: a list of one's own -/
def gdSetI (i : Nat) (ti' : TED) : D → TSD := fun d D ρ M => ∃ ds0, ρ[i]? = some (.own ds0) ∧ ti' ρ M fun c ρ1 M1 => ∃ ds k j, ρ1[i]? = some (.own ds) ∧ c = .int k ∧ ixN ds.length k = some j ∧ D.nx (ρ1.set i (.own (ds.set j d))) M1
theorem dg_setI (i : Nat) {ie : Expr} {ti : TE} {ti' : TED} (hi : DE X K ie ti ti') (hN : X.N[i]? = some x := by rfl) (hv : Vis X.env.scope x := by first | exact .inl rfl | exact .inr (.inl rfl) | exact .inr (.inr rfl)) (hd : (x == ("__debug__" : Str)) = false := by decide) (hcd : (x == ("__classdict__" : Str)) = false := by decide)
    (ha : ∀ v, assign (.Subscript (.Name x pos2) ie pos) X.env v = (do
      let ov ← holding [v] (eval (.Name x pos2) X.env)
      let iv ← holding [v, ov] (eval ie X.env)
      standAt pos
      holding [v, ov, iv] (setItem ov iv v)
      release [v, ov, iv] []) := by intro _; rfl) :
    DG X K (.Subscript (.Name x pos2) ie pos) (gSub (tVar i) ti rSetL) (gdSetI i ti') :=
  ⟨pg_sub (pe_var hN hv hd hcd) hi.pe set_list ha, fun A B M ρ σ H d v D Q r hd q k => by
    obtain ⟨ds0, e0, q⟩ := q
    obtain ⟨w, ev, a, vs, hb, rfl, hl, _⟩ := r.at e0
    refine ⟨_, ev, hi.sim A B M ρ σ H _ _ r q fun c ρ1 M1 B1 y H1 r1 f1 m1 hc q1 => ?_⟩
    obtain ⟨ds, kk, j, e1, rfl, hj, q1⟩ := q1
    cases hc
    obtain ⟨v1, ev1, a1, vs1, hb1, rfl, hl1, hds⟩ := r1.at e1
    rw [ev] at ev1
    cases ev1
    refine ⟨a, vs1, kk, j, rfl, rfl, hl1, by rw [← hds.length]; exact hj, ?_⟩
    obtain ⟨r2, f2⟩ := r1.write e1 hb1 (hds.set j (hd.fr f1))
    exact k _ M1 B1 σ _ r2 (f1.trans f2) q1⟩
/-- slot i is not written any more -/
def fzS (i : Nat) (ρ : Env) : Env := match ρ[i]? with
  | some (.own ds) => ρ.set i (.val (.lst ds))
  | _ => ρ
theorem ds_fz (i : Nat) (h : DS X K st t t') : DS X K st t (fun D ρ M => t' D (fzS i ρ) M) := ⟨h.ps, fun A B M ρ σ H E D r q k => by
  unfold fzS at q
  split at q
  case h_1 ds e =>
    obtain ⟨a, vs, _, _, _, r2, f, _⟩ := r.fz e
    exact h.sim.ends r2 f q k
  case h_2 => exact h.sim A B M ρ σ H E D r q k⟩
end
/-! what a for walks -/
abbrev TID := Env → Mm → (List D → Env → Mm → Prop) → Prop
structure ItIs (K : PySem.W.Frag) (J : It) (ds : List D) (Av0 : Addr → Prop) (H0 : Hp) : Prop where
  go : ∀ Av H, Fr Av0 Av H0 H → ∀ i, i < ds.length → J.go i H
  stop : ∀ Av H, Fr Av0 Av H0 H → J.stop ds.length H
  yld : ∀ Av H, Fr Av0 Av H0 H → ∀ i d x H', ds[i]? = some d → J.yld i H x H' → (H' = H ∧ Hd K Av H d x) ∨ (∃ p vs es, d = .tup es ∧ x = .ref p ∧ H p = none ∧ H' = upd H p (.tup vs) ∧ HdL K Av H es vs)
theorem ItIs.fr {K : PySem.W.Frag} {J : It} {ds : List D} {Av0 Av1 : Addr → Prop} {H0 H1 : Hp} (h : ItIs K J ds Av0 H0) (f : Fr Av0 Av1 H0 H1) : ItIs K J ds Av1 H1 :=
  ⟨fun Av H g => h.go Av H (f.trans g), fun Av H g => h.stop Av H (f.trans g), fun Av H g => h.yld Av H (f.trans g)⟩
def SimI (K : PySem.W.Frag) (t : TI) (t' : TID) : Prop := ∀ (A : CA) B M ρ σ H R Q', ER K A B M ρ σ H → t' ρ M Q' →
  (∀ ds ρ' M' B' J H', ER K A B' M' ρ' σ H' → Fr (Av A B M) (Av A B' M') H H' → FrM M M' H H' → ItIs K J ds (Av A B' M') H' → Q' ds ρ' M' → R J H') → t σ H R
structure DI (X : Cx) (K : PySem.W.Frag) (tg iter : Expr) (t : TI) (t' : TID) : Prop where
  pi : PI X tg iter t
  sim : SimI K t t'
section
variable {X : Cx} {K : PySem.W.Frag} {tg e l : Expr} {te tb : TE} {te' tb' : TED} {pos p tpos : Pos} {x : Str}
def diList (te' : TED) : TID := fun ρ M Q => te' ρ M fun d ρ1 M1 => ∃ ds, d.lq = some ds ∧ Q ds ρ1 M1
theorem Hd.list {Av : Addr → Prop} {H : Hp} {d : D} {ds : List D} {v : V} (h : Hd K Av H d v) (e : d.lq = some ds) : ∃ a vs, v = .ref a ∧ SqLa K Av H a vs ∧ HdL K Av H ds vs := by
  cases h with
  | @lst a vs _ n h l => cases e; exact ⟨a, vs, rfl, .inl ⟨n, .inl h⟩, l⟩
  | @kl a vs _ s l => cases e; exact ⟨a, vs, rfl, s, l⟩
  | _ => cases e
theorem itIs_list {Av : Addr → Prop} {H : Hp} {a : Addr} {vs : List V} {ds : List D} (s : SqLa K Av H a vs) (l : HdL K Av H ds vs) : ItIs K (Itl K a) ds Av H :=
  ⟨fun Av1 H1 f i hi => by
    obtain ⟨v, hv, _⟩ := l.get (List.getElem?_eq_getElem hi)
    exact ⟨vs, v, (s.fr f).sq, hv⟩,
   fun Av1 H1 f => ⟨vs, (s.fr f).sq, by rw [l.length]; exact Nat.le_refl _⟩,
   fun Av1 H1 f i d x H' hi y => by
    obtain ⟨rfl, y⟩ := y
    obtain ⟨v, hv, hd⟩ := l.get hi
    have := y vs (s.fr f).sq
    rw [hv] at this
    cases this
    exact .inl ⟨rfl, hd.fr f⟩⟩
theorem di_list (he : DE X K l te te') (hK : X.K = K := by rfl) : DI X K tg l (iList K te) (diList te') := by
  subst hK
  refine ⟨pi_list he.pe, fun A B M ρ σ H R Q' r q k => he.sim A B M ρ σ H _ _ r q fun d ρ1 M1 B1 v H1 r1 f1 m1 hd q1 => ?_⟩
  obtain ⟨ds, e1, q1⟩ := q1
  obtain ⟨a, vs, rfl, s, l⟩ := hd.list e1
  exact ⟨a, rfl, ⟨vs, s.sq⟩, k ds ρ1 M1 B1 _ H1 r1 f1 m1 (itIs_list s l) q1⟩
def diTup (te' : TED) : TID := fun ρ M Q => te' ρ M fun d ρ1 M1 => ∃ ds, d.tq = some ds ∧ Q ds ρ1 M1
theorem Hd.tqa {Av : Addr → Prop} {H : Hp} {d : D} {ds : List D} {v : V} (h : Hd K Av H d v) (e : d.tq = some ds) : ∃ a vs, v = .ref a ∧ SqTa K Av H a vs ∧ HdL K Av H ds vs := by
  cases h with
  | @tup a vs _ n s l => cases e; exact ⟨a, vs, rfl, .inl ⟨n, .inl s⟩, l⟩
  | @kt a vs _ s l => cases e; exact ⟨a, vs, rfl, s, l⟩
  | _ => cases e
theorem di_tup (he : DE X K l te te') (hK : X.K = K := by rfl) : DI X K tg l (iTup K te) (diTup te') := by
  subst hK
  refine ⟨pi_tup he.pe, fun A B M ρ σ H R Q' r q k => he.sim A B M ρ σ H _ _ r q fun d ρ1 M1 B1 v H1 r1 f1 m1 hd q1 => ?_⟩
  obtain ⟨ds, e1, q1⟩ := q1
  obtain ⟨a, vs, rfl, s, l⟩ := hd.tqa e1
  refine ⟨a, rfl, ⟨vs, s.sq⟩, k ds ρ1 M1 B1 _ H1 r1 f1 m1 ⟨fun Av1 H1 f i hi => ?_, fun Av1 H1 f => ⟨vs, (s.fr f).sq, by rw [l.length]; exact Nat.le_refl _⟩, fun Av1 H1 f i d x H' hi y => ?_⟩ q1⟩
  · obtain ⟨v, hv, _⟩ := l.get (List.getElem?_eq_getElem hi)
    exact ⟨vs, v, (s.fr f).sq, hv⟩
  · obtain ⟨rfl, y⟩ := y
    obtain ⟨v, hv, hd⟩ := l.get hi
    have := y vs (s.fr f).sq
    rw [hv] at this
    cases this
    exact .inl ⟨rfl, hd.fr f⟩
/-- lo, lo + 1, .. -/
def rng (lo : Int) (n : Nat) : List D := (List.range n).map fun (k : Nat) => D.int (lo + (k : Int))
theorem rng_len (lo : Int) (n : Nat) : (rng lo n).length = n := by unfold rng; rw [List.length_map, List.length_range]
theorem rng_get {lo : Int} {n i : Nat} {d : D} (h : (rng lo n)[i]? = some d) : i < n ∧ d = .int (lo + (i : Int)) := by
  have h1 := (List.getElem?_eq_some_iff.mp h).1
  rw [rng_len] at h1
  unfold rng at h
  rw [List.getElem?_map, List.getElem?_range h1] at h
  cases h
  exact ⟨h1, rfl⟩
theorem itIs_rng {Av : Addr → Prop} {H : Hp} {lo : Int} {n : Nat} : ItIs K (Itr lo n) (rng lo n) Av H :=
  ⟨fun _ _ _ i hi => by rw [rng_len] at hi; exact hi, fun _ _ _ => by rw [rng_len]; exact Nat.le_refl _, fun Av1 H1 f i d x H' hi y => by
    obtain ⟨rfl, rfl⟩ := y
    obtain ⟨_, rfl⟩ := rng_get hi
    exact .inl ⟨rfl, .int _⟩⟩
def diRng1 (ta' : TED) : TID := fun ρ M Q => ta' ρ M fun d ρ1 M1 => ∃ j, d = .int j ∧ -(2 ^ 62) ≤ j ∧ j < 2 ^ 62 ∧ Q (rng 0 j.toNat) ρ1 M1
theorem di_rng1 {a : Expr} (hg : Gl X "range") (hm : X.mg "range" = none) (ha : DE X K a te te') (hs : starEach [a] X.env = [(false, eval a X.env)] := by rfl) : DI X K tg (.Call (.Name "range" p) [a] [] pos) (iRng1 (tCons te tNil)) (diRng1 te') :=
  ⟨pi_range1 hg hm (pa_cons ha.pe pa_nil hs) hs, fun A B M ρ σ H R Q' r q k => ha.sim A B M ρ σ H _ _ r q fun d ρ1 M1 B1 v H1 r1 f1 m1 hd q1 => by
    obtain ⟨j, rfl, h0, h1, q1⟩ := q1
    cases hd
    exact ⟨j, rfl, h0, h1, k _ ρ1 M1 B1 _ H1 r1 f1 m1 itIs_rng q1⟩⟩
def diRng2 (ta' tb' : TED) : TID := fun ρ M Q => ta' ρ M fun d ρ1 M1 => tb' ρ1 M1 fun e ρ2 M2 => ∃ i j, d = .int i ∧ e = .int j ∧ (-(2 ^ 62) ≤ i ∧ i < 2 ^ 62 ∧ -(2 ^ 62) ≤ j ∧ j < 2 ^ 62) ∧ Q (rng i (j - i).toNat) ρ2 M2
theorem di_rng2 {a b : Expr} (hg : Gl X "range") (hm : X.mg "range" = none) (ha : DE X K a te te') (hb : DE X K b tb tb') (hs : starEach [a, b] X.env = [(false, eval a X.env), (false, eval b X.env)] := by rfl) (hs2 : starEach [b] X.env = [(false, eval b X.env)] := by rfl) :
    DI X K tg (.Call (.Name "range" p) [a, b] [] pos) (iRng2 (tCons te (tCons tb tNil))) (diRng2 te' tb') :=
  ⟨pi_range2 hg hm (pa_cons ha.pe (pa_cons hb.pe pa_nil hs2) (by rw [hs, hs2])) hs hs2, fun A B M ρ σ H R Q' r q k => ha.sim A B M ρ σ H _ _ r q fun d ρ1 M1 B1 v H1 r1 f1 m1 hd q1 => hb.sim A B1 M1 ρ1 σ H1 _ _ r1 q1 fun e ρ2 M2 B2 w H2 r2 f2 m2 he q2 => by
    obtain ⟨i, j, rfl, rfl, hij, q2⟩ := q2
    cases hd
    cases he
    exact ⟨i, j, rfl, hij, k _ ρ2 M2 B2 _ H2 r2 (f1.trans f2) (m1.trans m2) itIs_rng q2⟩⟩
/-- zip: pairs -/
def zipD (ds es : List D) : List D := (ds.zip es).map fun p => .tup [p.1, p.2]
theorem zipD_get {ds es : List D} {i : Nat} {d : D} (h : (zipD ds es)[i]? = some d) : ∃ a b, ds[i]? = some a ∧ es[i]? = some b ∧ d = .tup [a, b] := by
  unfold zipD at h
  rw [List.getElem?_map] at h
  cases q : (ds.zip es)[i]? with
  | none => rw [q] at h; cases h
  | some p =>
    rw [q] at h
    cases h
    obtain ⟨h1, h2⟩ := List.getElem?_zip_eq_some.mp q
    exact ⟨p.1, p.2, h1, h2, rfl⟩
def diZip (ta' tb' : TED) : TID := fun ρ M Q => ta' ρ M fun d ρ1 M1 => tb' ρ1 M1 fun e ρ2 M2 => ∃ ds es, d.lq = some ds ∧ e.lq = some es ∧ Q (zipD ds es) ρ2 M2
theorem di_zip {a b : Expr} {elts : List Expr} {kk : Nat} (hg : Gl X "zip") (hm : X.mg "zip" = none) (ha : DE X K a te te') (hb : DE X K b tb tb') (hs : starEach [a, b] X.env = (false, eval a X.env) :: starEach [b] X.env := by rfl) (hs2 : starEach [b] X.env = (false, eval b X.env) :: starEach [] X.env := by rfl) (hpl : (backTo pos (starEach [b] X.env)).any (·.1) = false := by rfl) (hK : X.K = K := by rfl) :
    DI X K (.Tuple elts kk tpos) (.Call (.Name "zip" p) [a, b] [] pos) (iZip K (tCons te (tCons tb tNil))) (diZip te' tb') := by
  subst hK
  refine ⟨pi_zip hg hm (pa_cons ha.pe (pa_cons hb.pe pa_nil hs2) hs) hs hpl, fun A B M ρ σ H R Q' r q k => ha.sim A B M ρ σ H _ _ r q fun d ρ1 M1 B1 v H1 r1 f1 m1 hd q1 => hb.sim A B1 M1 ρ1 σ H1 _ _ r1 q1 fun e ρ2 M2 B2 w H2 r2 f2 m2 he q2 => ?_⟩
  obtain ⟨ds, es, e1, e2, q2⟩ := q2
  obtain ⟨a, vs, rfl, s, l⟩ := (hd.fr f2).list e1
  obtain ⟨b, us, rfl, s2, l2⟩ := he.list e2
  refine ⟨a, b, vs, us, rfl, s.sq, s2.sq, k _ ρ2 M2 B2 _ H2 r2 (f1.trans f2) (m1.trans m2) ⟨fun Av1 H1 f i hi => ?_, fun Av1 H1 f => ?_, fun Av1 H1 f i d x H' hi y => ?_⟩ q2⟩
  · obtain ⟨c1, c2, g1, g2, _⟩ := zipD_get (List.getElem?_eq_getElem hi)
    obtain ⟨v, hv, _⟩ := l.get g1
    obtain ⟨u, hu, _⟩ := l2.get g2
    exact ⟨vs, us, v, u, (s.fr f).sq, (s2.fr f).sq, hv, hu⟩
  · refine ⟨vs, us, (s.fr f).sq, (s2.fr f).sq, ?_⟩
    unfold zipD
    rw [List.length_map, List.length_zip, ← l.length, ← l2.length]
    omega
  · obtain ⟨p, v, u, rfl, hp, rfl, y1, y2⟩ := y
    obtain ⟨c1, c2, g1, g2, rfl⟩ := zipD_get hi
    obtain ⟨v', hv, hd1⟩ := l.get g1
    obtain ⟨u', hu, hd2⟩ := l2.get g2
    have := y1 vs (s.fr f).sq
    rw [hv] at this
    cases this
    have := y2 us (s2.fr f).sq
    rw [hu] at this
    cases this
    exact .inr ⟨p, _, _, rfl, rfl, hp, rfl, .cons (hd1.fr f) (.cons (hd2.fr f) .nil)⟩
/-- enumerate -/
def enumD (ds : List D) : List D := zipD (rng 0 ds.length) ds
theorem enumD_get {ds : List D} {i : Nat} {d : D} (h : (enumD ds)[i]? = some d) : ∃ a, ds[i]? = some a ∧ d = .tup [.int (i : Nat), a] := by
  obtain ⟨a, b, h1, h2, rfl⟩ := zipD_get h
  obtain ⟨_, rfl⟩ := rng_get h1
  exact ⟨b, h2, by rw [Int.zero_add]⟩
theorem enumD_len (ds : List D) : (enumD ds).length = ds.length := by
  unfold enumD zipD
  rw [List.length_map, List.length_zip, rng_len, Nat.min_self]
def diEnum (ta' : TED) : TID := fun ρ M Q => ta' ρ M fun d ρ1 M1 => ∃ ds, d.lq = some ds ∧ Q (enumD ds) ρ1 M1
theorem di_enum {a : Expr} {elts : List Expr} {kk : Nat} (hg : Gl X "enumerate") (hm : X.mg "enumerate" = none) (ha : DE X K a te te') (hs : starEach [a] X.env = [(false, eval a X.env)] := by rfl) (hK : X.K = K := by rfl) :
    DI X K (.Tuple elts kk tpos) (.Call (.Name "enumerate" p) [a] [] pos) (iEnum K (tCons te tNil)) (diEnum te') := by
  subst hK
  refine ⟨pi_enum hg hm (pa_cons ha.pe pa_nil hs) hs, fun A B M ρ σ H R Q' r q k => ha.sim A B M ρ σ H _ _ r q fun d ρ1 M1 B1 v H1 r1 f1 m1 hd q1 => ?_⟩
  obtain ⟨ds, e1, q1⟩ := q1
  obtain ⟨a, vs, rfl, s, l⟩ := hd.list e1
  refine ⟨a, vs, rfl, s.sq, k _ ρ1 M1 B1 _ H1 r1 f1 m1 ⟨fun Av1 H1 f i hi => ?_, fun Av1 H1 f => ?_, fun Av1 H1 f i d x H' hi y => ?_⟩ q1⟩
  · obtain ⟨c, g1, _⟩ := enumD_get (List.getElem?_eq_getElem hi)
    obtain ⟨v, hv, _⟩ := l.get g1
    exact ⟨vs, v, (s.fr f).sq, hv⟩
  · exact ⟨vs, (s.fr f).sq, by rw [enumD_len, l.length]; exact Nat.le_refl _⟩
  · obtain ⟨p, v, rfl, hp, rfl, y1⟩ := y
    obtain ⟨c, g1, rfl⟩ := enumD_get hi
    obtain ⟨v', hv, hd1⟩ := l.get g1
    have := y1 vs (s.fr f).sq
    rw [hv] at this
    cases this
    exact .inr ⟨p, _, _, rfl, rfl, hp, rfl, .cons (.int _) (.cons (hd1.fr f) .nil)⟩
end
/-! for, while -/
section
variable {X : Cx} {K : PySem.W.Frag} {tg iter : Expr} {wi : TI} {wi' : TID} {g : TG} {g' : D → TSD} {body : List Stmt} {tb : TS} {tb' : TSD} {pos : Pos}
def dFor (wi' : TID) (g' : D → TSD) (tb' : TSD) : TSD := fun D ρ M => wi' ρ M fun ds ρ1 M1 => ∃ Pv : Nat → Env → Mm → Prop, Pv 0 ρ1 M1 ∧
  (∀ i d ρ M, ds[i]? = some d → Pv i ρ M → g' d { D with nx := fun ρ2 M2 => tb' { D with nx := Pv (i + 1), ct := Pv (i + 1), bk := D.nx } ρ2 M2 } ρ M) ∧ ∀ ρ M, Pv ds.length ρ M → D.nx ρ M
theorem ER.tup {A : CA} {B : Nat → Option Addr} {M : Mm} {ρ : Env} {σ : L2.St} {H H' : Hp} {d : D} {x : V} (r : ER K A B M ρ σ H) (h : (H' = H ∧ Hd K (Av A B M) H d x) ∨ (∃ p vs es, d = .tup es ∧ x = .ref p ∧ H p = none ∧ H' = upd H p (.tup vs) ∧ HdL K (Av A B M) H es vs)) :
    ER K A B M ρ σ H' ∧ Fr (Av A B M) (Av A B M) H H' ∧ FrM M M H H' ∧ Hd K (Av A B M) H' d x := by
  rcases h with ⟨rfl, h⟩ | ⟨p, vs, es, rfl, rfl, hp, rfl, h⟩
  · exact ⟨r, .refl, .refl, h⟩
  · obtain ⟨r2, f2, m2, np, _⟩ := r.new (o := .tup vs) hp
    exact ⟨r2, f2, m2, .tup np upd_same (h.fr f2)⟩
theorem ds_for (hp : PassesOwn (model X.prog X.w) X.A X.env X.xe) (hi : DI X K tg iter wi wi') (hg : DG X K tg g g') (hb : DSs X K body tb tb') (hc : X.calm = true := by rfl) (hs : ∀ x, foldedSetIterable iter X.env x = pure x := by intro _; rfl) :
    DS X K (.For tg iter body [] pos) (tFor wi g tb) (dFor wi' g' tb') := by
  refine ⟨ps_for hp hc hi.pi hg.pg hb.ps hs, fun A B M ρ σ H E D r q k => hi.sim A B M ρ σ H _ _ r q fun ds ρ1 M1 B1 J H1 r1 f1 m1 it q1 => ?_⟩
  obtain ⟨Pv, p0, step, done⟩ := q1
  refine ⟨fun i m σ' H' => m = ds.length - i ∧ i ≤ ds.length ∧ ∃ ρ' M' B', ER K A B' M' ρ' σ' H' ∧ Fr (Av A B1 M1) (Av A B' M') H1 H' ∧ Pv i ρ' M', ⟨_, rfl, Nat.zero_le _, ρ1, M1, B1, r1, .refl, p0⟩, ?_⟩
  rintro i m σ' H' ⟨rfl, hi', ρ', M', B', r', f', pv⟩
  by_cases hlt : i < ds.length
  · refine .inr ⟨it.go _ _ f' i hlt, fun σ2 H2 => ∃ ρ2 M2 B2, ER K A B2 M2 ρ2 σ2 H2 ∧ Fr (Av A B1 M1) (Av A B2 M2) H1 H2 ∧ Pv (i + 1) ρ2 M2, fun σ2 H2 h2 => ⟨_, by omega, rfl, hlt, h2⟩, fun x H2 y => ?_⟩
    obtain ⟨r2, f2, _, hd⟩ := r'.tup (it.yld _ _ f' i _ x H2 (List.getElem?_eq_getElem hlt) y)
    refine hg.sim A B' M' ρ' σ' H2 _ x _ _ r2 hd (step i _ ρ' M' (List.getElem?_eq_getElem hlt) pv) fun ρ3 M3 B3 σ3 H3 r3 f3 q3 => ?_
    have f13 := (f'.trans f2).trans f3
    refine hb.sim A B3 M3 ρ3 σ3 H3 _ _ r3 q3 ⟨fun ρ4 M4 B4 σ4 H4 r4 f4 p4 => ⟨ρ4, M4, B4, r4, f13.trans f4, p4⟩, fun d v ρ4 M4 B4 σ4 H4 r4 f4 h4 q4 => k.rt d v ρ4 M4 B4 σ4 H4 r4 ((f1.trans f13).trans f4) h4 q4,
      fun ds a vs ρ4 M4 B4 σ4 H4 r4 f4 i4 l4 h4 q4 => k.rn ds a vs ρ4 M4 B4 σ4 H4 r4 ((f1.trans f13).trans f4) i4 l4 h4 q4, fun ρ4 M4 B4 σ4 H4 r4 f4 p4 => k.nx ρ4 M4 B4 σ4 H4 r4 ((f1.trans f13).trans f4) p4, fun ρ4 M4 B4 σ4 H4 r4 f4 p4 => ⟨ρ4, M4, B4, r4, f13.trans f4, p4⟩⟩
  · have e : i = ds.length := by omega
    subst e
    exact .inl ⟨it.stop _ _ f', k.nx ρ' M' B' σ' H' r' (f1.trans f') (done ρ' M' pv)⟩
def dWhile (c' : TTD) (tb' : TSD) : TSD := fun D ρ M => ∃ Pv : Nat → Env → Mm → Prop, (∃ m, Pv m ρ M) ∧ ∀ m ρ M, Pv m ρ M → c' ρ M fun b ρ1 M1 => if b = true then
  tb' { D with nx := fun ρ M => ∃ m', m' < m ∧ Pv m' ρ M, ct := fun ρ M => ∃ m', m' < m ∧ Pv m' ρ M, bk := D.nx } ρ1 M1 else D.nx ρ1 M1
theorem ds_while {c : Expr} {tc : TT} {tc' : TTD} (hp : PassesOwn (model X.prog X.w) X.A X.env X.xe) (hc : DT X K c tc tc') (hb : DSs X K body tb tb') : DS X K (.While c body [] pos) (tWhile tc tb) (dWhile tc' tb') := by
  refine ⟨ps_while hp hc.pt hb.ps, fun A B M ρ σ H E D r q k => ?_⟩
  obtain ⟨Pv, ⟨m0, p0⟩, step⟩ := q
  refine ⟨fun m σ' H' => ∃ ρ' M' B', ER K A B' M' ρ' σ' H' ∧ Fr (Av A B M) (Av A B' M') H H' ∧ Pv m ρ' M', ⟨m0, ρ, M, B, r, .refl, p0⟩, ?_⟩
  rintro m σ' H' ⟨ρ', M', B', r', f', pv⟩
  refine hc.sim A B' M' ρ' σ' H' _ _ r' (step m ρ' M' pv) fun b ρ2 M2 B2 H2 r2 f2 _ q2 => ?_
  cases b with
  | false => exact k.nx ρ2 M2 B2 σ' H2 r2 (f'.trans f2) q2
  | true =>
    have f13 := f'.trans f2
    refine ⟨fun σ3 H3 => ∃ m', m' < m ∧ ∃ ρ3 M3 B3, ER K A B3 M3 ρ3 σ3 H3 ∧ Fr (Av A B M) (Av A B3 M3) H H3 ∧ Pv m' ρ3 M3, fun σ3 H3 h3 => h3, ?_⟩
    exact hb.sim A B2 M2 ρ2 σ' H2 _ _ r2 q2 ⟨fun ρ4 M4 B4 σ4 H4 r4 f4 ⟨m', hm, p4⟩ => ⟨m', hm, ρ4, M4, B4, r4, f13.trans f4, p4⟩, fun d v ρ4 M4 B4 σ4 H4 r4 f4 h4 q4 => k.rt d v ρ4 M4 B4 σ4 H4 r4 (f13.trans f4) h4 q4,
      fun ds a vs ρ4 M4 B4 σ4 H4 r4 f4 i4 l4 h4 q4 => k.rn ds a vs ρ4 M4 B4 σ4 H4 r4 (f13.trans f4) i4 l4 h4 q4, fun ρ4 M4 B4 σ4 H4 r4 f4 p4 => k.nx ρ4 M4 B4 σ4 H4 r4 (f13.trans f4) p4, fun ρ4 M4 B4 σ4 H4 r4 f4 ⟨m', hm, p4⟩ => ⟨m', hm, ρ4, M4, B4, r4, f13.trans f4, p4⟩⟩
end
/-! a def -/
def startD (N : List Str) (ds : List D) : Env := ds.map .val ++ List.replicate (N.length - ds.length) .un
theorem start_er {K : PySem.W.Frag} {A : CA} {M : Mm} {H : Hp} {N : List Str} {ds : List D} {vs : List V} (o : ROk K A M H) (h : HdL K (Avc A M) H ds vs) (g : Gd.F A (Avc A M) H) : ER K A (fun _ => none) M (startD N ds) (L2.start N vs) H := by
  refine ⟨?_, fun i s v e1 e2 => ?_, fun i j a e _ => (nomatch e), o.ob, fun b hb => ?_, fun i a e => (nomatch e), o.sep, fun i a e => (nomatch e), o.sn, o.md, g⟩
  · unfold startD L2.start
    rw [List.length_append, List.length_append, List.length_map, List.length_map, List.length_replicate, List.length_replicate, h.length]
  · unfold startD at e1
    unfold L2.start at e2
    by_cases hi : i < ds.length
    · rw [List.getElem?_append_left (by rw [List.length_map]; exact hi), List.getElem?_map, List.getElem?_eq_getElem hi] at e1
      rw [List.getElem?_append_left (by rw [List.length_map, ← h.length]; exact hi), List.getElem?_map] at e2
      obtain ⟨w, hw, hd⟩ := h.get (List.getElem?_eq_getElem hi)
      rw [hw] at e2
      cases e1
      cases e2
      exact ⟨w, rfl, hd⟩
    · rw [List.getElem?_append_right (by rw [List.length_map]; omega)] at e1
      have := List.mem_of_getElem? e1
      rw [List.eq_of_mem_replicate this]
      trivial
  · rcases hb with hb | ⟨i, hb⟩ | hb
    · cases q : A.h b with
      | none => exact absurd q hb
      | some u => rw [o.sn b u q]; simp
    · cases hb
    · exact o.tr b hb
/-- what a body's end hands to the caller -/
theorem ends_of {K : PySem.W.Frag} {A : CA} {M : Mm} {H : Hp} {Q : VK} (o : ROk K A M H) (hd : ∀ b, M b ≠ none → A.d b) :
    EndsOk K A (Avc A M) H ⟨(fun _ M' => ∀ v H', ROk K A M' H' → FrM M M' H H' → Hd K (Avc A M') H' .non v → Q v H'), (fun d M' => ∀ v H', ROk K A M' H' → FrM M M' H H' → Hd K (Avc A M') H' d v → Q v H'),
      (fun es M' => ∀ a us H', H a = none → ROk K (A.add a (.lst us)) M' H' → FrM M M' H H' → HdL K (Avc (A.add a (.lst us)) M') H' es us → Q (.ref a) H'), (fun _ _ => False), (fun _ _ => False)⟩ { nx := fun _ H' => Q .non H', rt := Q } := by
  have less : ∀ {M' : Mm} {B : Nat → Option Addr} {b : Addr}, Avc A M' b → Av A B M' b := fun h => by
    rcases h with h | ⟨i, h⟩ | h
    · exact .inl h
    · cases h
    · exact .inr (.inr h)
  have rok : ∀ {ρ M' B σ H'}, ER K A B M' ρ σ H' → ROk K A M' H' := fun r => ⟨fun a mo e => (r.ob a mo e).fr (.less fun b => less) fun _ h => h, fun b h => r.tr b (.inr (.inr h)), r.sepA, r.sn, r.md⟩
  have frm : ∀ {ρ M' B σ H'}, ER K A B M' ρ σ H' → Fr (Avc A M) (Av A B M') H H' → FrM M M' H H' := fun {ρ M' B σ H'} r f b u n e => by
    cases q : A.h b with
    | some w =>
      have e1 := o.sn b w q
      rw [e] at e1
      cases e1
      exact ⟨r.sn b _ q, r.sepA b (by rw [q]; simp)⟩
    | none =>
      obtain ⟨h1, h2⟩ := f b u (by rintro (h | ⟨i, h⟩ | h); exact h q; cases h; exact h n) e
      exact ⟨h1, none_of_not_av h2⟩
  refine ⟨fun ρ M' B σ H' r f q => q _ _ (rok r) (frm r f) .non, fun d v ρ M' B σ H' r f h q => q v H' (rok r) (frm r f) (h.fr (.less fun b => less)), fun ds a vs ρ M' B σ H' r f hi hl h q => ?_, fun _ _ _ _ _ _ _ z => z.elim, fun _ _ _ _ _ _ _ z => z.elim⟩
  obtain ⟨i, hi⟩ := hi
  have aa : A.h a = none := r.sepB i a hi
  have ma : M' a = none := r.sepM i a hi
  have hn : H a = none := by
    cases e : H a with
    | none => rfl
    | some u =>
      have q : M a = none := by
        cases q : M a with
        | none => rfl
        | some mo => exact absurd ma (r.md a (hd a (by rw [q]; simp)))
      exact absurd (.inr (.inl ⟨i, hi⟩)) (f a u (by rintro (h | ⟨j, h⟩ | h); exact h aa; cases h; exact h q) e).2
  have avl : ∀ b, Avc (A.add a (.lst vs)) M' b → Av A B M' b := fun b h => by
    rcases h with h | ⟨j, h⟩ | h
    · by_cases e : b = a
      · subst e; exact .inr (.inl ⟨i, hi⟩)
      · refine .inl fun q => h ?_
        show upd _ _ _ b = none
        rw [upd_ne e]
        exact q
    · cases h
    · exact .inr (.inr h)
  refine q a vs H' hn ⟨fun c mo e => (r.ob c mo e).fr (.less avl) fun _ h => h, fun b h => r.tr b (.inr (.inr h)), fun c h => ?_, fun b u e => ?_, r.md⟩ (frm r f) (h.fr (.less avl))
  · by_cases e : c = a
    · subst e; exact ma
    · refine r.sepA c fun q => h ?_
      show upd _ _ _ c = none
      rw [upd_ne e]
      exact q
  · by_cases e2 : b = a
    · subst e2
      have e : upd A.h b (.lst vs) b = some u := e
      rw [upd_same] at e
      cases e
      exact hl
    · have e : upd A.h a (.lst vs) b = some u := e
      rw [upd_ne e2] at e
      exact r.sn b u e
end DM

namespace DM
open PySem PySem.Spec PyProof.Rows L2 TK
variable [Gd]
def wipeD (ρ : Env) : List Nat → Env
  | [] => ρ
  | v :: vs => (wipeD ρ vs).set v .un
section
variable {K : PySem.W.Frag} {A : CA} {B : Nat → Option Addr} {M : Mm} {ρ : Env} {σ : L2.St} {H : Hp}
theorem ER.wipe (r : ER K A B M ρ σ H) : ∀ vs : List Nat, ER K A B M (wipeD ρ vs) (wipe σ vs) H
  | [] => r
  | v :: vs => (ER.wipe r vs).unset
theorem wipeD_length (ρ : Env) : ∀ vs : List Nat, (wipeD ρ vs).length = ρ.length
  | [] => rfl
  | v :: vs => by unfold wipeD; rw [List.length_set, wipeD_length ρ vs]
theorem wipeD_own {i : Nat} {ds : List D} : ∀ {vs : List Nat}, (wipeD ρ vs)[i]? = some (.own ds) → ρ[i]? = some (.own ds) ∧ i ∉ vs
  | [], h => ⟨h, by simp⟩
  | v :: vs, h => by
    unfold wipeD at h
    by_cases hi : v = i
    · subst hi
      by_cases hl : v < (wipeD ρ vs).length
      · rw [List.getElem?_set_self hl] at h; cases h
      · rw [List.set_eq_of_length_le (by omega), List.getElem?_eq_none (by omega)] at h
        cases h
    · rw [List.getElem?_set_ne hi] at h
      obtain ⟨h1, h2⟩ := wipeD_own h
      exact ⟨h1, fun m => (List.mem_cons.mp m).elim (fun e => hi e.symm) h2⟩
theorem wipeD_out {i : Nat} : ∀ {vs : List Nat}, i ∉ vs → (wipeD ρ vs)[i]? = ρ[i]?
  | [], _ => rfl
  | v :: vs, h => by
    have h1 : v ≠ i := fun e => h (by rw [e]; exact List.mem_cons_self)
    unfold wipeD
    rw [List.getElem?_set_ne h1]
    exact wipeD_out fun m => h (List.mem_cons_of_mem _ m)
/-- the places of the lists of one's own alone -/
def canon (ρ : Env) (B : Nat → Option Addr) : Nat → Option Addr := fun i => match ρ[i]? with
  | some (.own _) => B i
  | _ => none
theorem canon_some {i : Nat} {a : Addr} (h : canon ρ B i = some a) : B i = some a ∧ ∃ ds, ρ[i]? = some (.own ds) := by
  unfold canon at h
  split at h
  case h_1 ds e => exact ⟨h, ds, e⟩
  case h_2 => cases h
theorem canon_own {i : Nat} {ds : List D} (h : ρ[i]? = some (.own ds)) : canon ρ B i = B i := by
  unfold canon
  rw [h]
theorem ER.can (r : ER K A B M ρ σ H) : ER K A (canon ρ B) M ρ σ H ∧ Fr (Av A B M) (Av A (canon ρ B) M) H H := by
  have less : ∀ b, Av A (canon ρ B) M b → Av A B M b := fun b h => by
    rcases h with h | ⟨i, h⟩ | h
    · exact .inl h
    · exact .inr (.inl ⟨i, (canon_some h).1⟩)
    · exact .inr (.inr h)
  have f : Fr (Av A B M) (Av A (canon ρ B) M) H H := .less less
  refine ⟨⟨r.len, fun i s v e1 e2 => ?_, fun i j a e1 e2 => r.inj i j a (canon_some e1).1 (canon_some e2).1, fun a mo e => (r.ob a mo e).fr f fun _ h => h, fun b h => r.tr b (less b h), fun i a e => r.sepM i a (canon_some e).1, r.sepA, fun i a e => r.sepB i a (canon_some e).1, r.sn, r.md, Gd.cl f r.gd⟩, f⟩
  have h := r.sl i s v e1 e2
  cases s with
  | un => trivial
  | val d => obtain ⟨x, e, q⟩ := h; exact ⟨x, e, q.fr f⟩
  | own ds => obtain ⟨a, vs, e, ev, hl, q⟩ := h; exact ⟨a, vs, by rw [canon_own e1]; exact e, ev, hl, q.fr f⟩
/-- another hand's list is kept from us -/
theorem ER.hide (r : ER K A B M ρ σ H) {D : Addr} {vs : List V} (hD : H D = none) : ER K (A.add D (.lst vs)) B M ρ σ (upd H D (.lst vs)) ∧ Fr (Av A B M) (Av (A.add D (.lst vs)) B M) H (upd H D (.lst vs)) ∧ FrM M M H (upd H D (.lst vs)) := by
  obtain ⟨r1, f1, m1, np, mp⟩ := r.new (o := .lst vs) hD
  have aD : A.h D = none := by
    cases q : A.h D with
    | none => rfl
    | some u => rw [r.sn D u q] at hD; cases hD
  have av : ∀ b, Av (A.add D (.lst vs)) B M b → Av A B M b ∨ b = D := fun b h => by
    rcases h with h | h | h
    · by_cases e : b = D
      · exact .inr e
      · refine .inl (.inl fun q => h ?_)
        show upd _ _ _ b = none
        rw [upd_ne e]
        exact q
    · exact .inl (.inr (.inl h))
    · exact .inl (.inr (.inr h))
  have f : Fr (Av A B M) (Av (A.add D (.lst vs)) B M) H (upd H D (.lst vs)) := fun b u n e => ⟨(f1 b u n e).1, fun h => by
    rcases av b h with h | h
    · exact n h
    · subst h; rw [hD] at e; cases e⟩
  refine ⟨⟨r.len, fun i s v e1 e2 => (r.sl i s v e1 e2).fr f fun a e => ⟨e, fun o h => by rw [upd_ne (ne_of_none h hD)]; exact h⟩, r.inj, fun a mo e => (r.ob a mo e).fr f fun o h => by rw [upd_ne (ne_of_none h hD)]; exact h, fun b h => ?_, r.sepM, fun a h => ?_, fun i a e => ?_, fun b o e => ?_, r.md, Gd.add aD (Gd.cl f r.gd)⟩, f, m1⟩
  · rcases av b h with h | h
    · exact r1.tr b h
    · subst h; rw [upd_same]; simp
  · by_cases e : a = D
    · subst e; exact mp
    · refine r.sepA a fun q => h ?_
      show upd _ _ _ a = none
      rw [upd_ne e]
      exact q
  · have ne : a ≠ D := fun z => r.tr a (.inr (.inl ⟨i, e⟩)) (z ▸ hD)
    show upd _ _ _ a = none
    rw [upd_ne ne]
    exact r.sepB i a e
  · by_cases e2 : b = D
    · subst e2
      have e : upd A.h b (.lst vs) b = some o := e
      rw [upd_same] at e
      cases e
      exact upd_same
    · have e : upd A.h D (.lst vs) b = some o := e
      rw [upd_ne e2] at e
      rw [upd_ne e2]
      exact r.sn b o e
/-- behind an element's reckoning: the slots as they were -/
theorem ER.keep {A : CA} {B' : Nat → Option Addr} {M' : Mm} {ρ' : Env} {σ' : L2.St} {H' : Hp} (r : ER K A B M ρ σ H) (r' : ER K A B' M' ρ' σ' H') (f : Fr (Av A B M) (Av A B' M') H H') (m : FrM M M' H H') (le : ∀ i a, B i = some a → ∃ j, B' j = some a) :
    ER K A B M' ρ σ H' ∧ Fr (Av A B M) (Av A B M') H H' ∧ Fr (Av A B' M') (Av A B M') H' H' := by
  have less : ∀ b, Av A B M' b → Av A B' M' b := fun b h => by
    rcases h with h | ⟨i, h⟩ | h
    · exact .inl h
    · exact .inr (.inl (le i b h))
    · exact .inr (.inr h)
  have f2 : Fr (Av A B' M') (Av A B M') H' H' := .less less
  have f1 := f.trans f2
  exact ⟨⟨r.len, fun i s v e1 e2 => (r.sl i s v e1 e2).fr f1 fun a e => ⟨e, fun o h => (m a o (r.sepM i a e) h).1⟩, r.inj, fun a mo e => (r'.ob a mo e).fr f2 fun _ h => h, fun b h => r'.tr b (less b h), fun i a e => let ⟨j, q⟩ := le i a e; r'.sepM j a q, r'.sepA, r.sepB, r'.sn, r'.md, Gd.cl f2 r'.gd⟩, f1, f2⟩
/-- a hidden list grows -/
theorem ER.grow {D : Addr} {vs ws : List V} (r : ER K (A.add D (.lst vs)) B M ρ σ H) (aD : A.h D = none) (g : Gd.F A (Av (A.add D (.lst vs)) B M) H) : ER K (A.add D (.lst ws)) B M ρ σ (upd H D (.lst ws)) ∧ Fr (Av (A.add D (.lst vs)) B M) (Av (A.add D (.lst ws)) B M) H (upd H D (.lst ws)) := by
  have avD : Av (A.add D (.lst vs)) B M D := .inl (by show upd _ _ _ D ≠ none; rw [upd_same]; simp)
  have av : ∀ b, Av (A.add D (.lst ws)) B M b → Av (A.add D (.lst vs)) B M b := fun b h => by
    rcases h with h | h | h
    · refine .inl fun q => h ?_
      have q : upd A.h D (.lst vs) b = none := q
      show upd A.h D (.lst ws) b = none
      by_cases e : b = D
      · subst e; rw [upd_same] at q; cases q
      · rw [upd_ne e] at q ⊢; exact q
    · exact .inr (.inl h)
    · exact .inr (.inr h)
  have k : ∀ b u, b ≠ D → H b = some u → upd H D (.lst ws) b = some u := fun b u n e => by rw [upd_ne n]; exact e
  have f : Fr (Av (A.add D (.lst vs)) B M) (Av (A.add D (.lst ws)) B M) H (upd H D (.lst ws)) := fun b u n e => ⟨k b u (fun z => n (z ▸ avD)) e, fun h => n (av b h)⟩
  have mD : M D = none := r.sepA D (by show upd _ _ _ D ≠ none; rw [upd_same]; simp)
  have bD : ∀ i a, B i = some a → a ≠ D := fun i a e z => by
    have := r.sepB i a e
    subst z
    have : upd A.h a (.lst vs) a = none := this
    rw [upd_same] at this
    cases this
  refine ⟨⟨r.len, fun i s v e1 e2 => (r.sl i s v e1 e2).fr f fun a e => ⟨e, fun o h => k _ _ (bD i a e) h⟩, r.inj, fun a mo e => (r.ob a mo e).fr f fun o h => k _ _ (fun z => by subst z; rw [mD] at e; cases e) h, fun b h => ?_, r.sepM, fun a h => ?_, fun i a e => ?_, fun b o e => ?_, r.md, Gd.add aD (Gd.cl f g)⟩, f⟩
  · have := r.tr b (av b h)
    by_cases e : b = D
    · subst e; rw [upd_same]; simp
    · rw [upd_ne e]; exact this
  · by_cases e : a = D
    · subst e; exact mD
    · refine r.sepA a fun q => h ?_
      have q : upd A.h D (.lst vs) a = none := q
      show upd A.h D (.lst ws) a = none
      rw [upd_ne e] at q ⊢
      exact q
  · have := r.sepB i a e
    have : upd A.h D (.lst vs) a = none := this
    show upd A.h D (.lst ws) a = none
    rw [upd_ne (bD i a e)] at this ⊢
    exact this
  · have e : upd A.h D (.lst ws) b = some o := e
    by_cases e2 : b = D
    · subst e2; rw [upd_same] at e ⊢; exact e
    · rw [upd_ne e2] at e ⊢
      exact r.sn b o (by show upd A.h D (.lst vs) b = _; rw [upd_ne e2]; exact e)
/-- the hidden list is ours, behind the slots -/
theorem ER.unhide {D : Addr} {vs : List V} (r : ER K (A.add D (.lst vs)) B M ρ σ H) (aD : A.h D = none) (hB : B σ.length = none) (h1 : ∀ b o, A.h b = some o → H b = some o) (g : Gd.F A (Av (A.add D (.lst vs)) B M) H) : ER K A (put B σ.length (some D)) M ρ σ H ∧ Fr (Av (A.add D (.lst vs)) B M) (Av A (put B σ.length (some D)) M) H H := by
  have av : ∀ b, Av A (put B σ.length (some D)) M b → Av (A.add D (.lst vs)) B M b := fun b h => by
    rcases av_put_some h with h | h
    · rcases h with h | h | h
      · refine .inl fun q => h ?_
        have q : upd A.h D (.lst vs) b = none := q
        by_cases e : b = D
        · subst e; rw [upd_same] at q; cases q
        · rw [upd_ne e] at q; exact q
      · exact .inr (.inl h)
      · exact .inr (.inr h)
    · subst h
      exact .inl (by show upd _ _ _ b ≠ none; rw [upd_same]; simp)
  have f : Fr (Av (A.add D (.lst vs)) B M) (Av A (put B σ.length (some D)) M) H H := .less av
  have up : ∀ b, A.h b ≠ none → (A.add D (.lst vs)).h b ≠ none := fun b h => by
    show upd _ _ _ b ≠ none
    by_cases e : b = D
    · subst e; rw [upd_same]; simp
    · rw [upd_ne e]; exact h
  have dD : (A.add D (.lst vs)).h D ≠ none := by show upd _ _ _ D ≠ none; rw [upd_same]; simp
  have bD : ∀ i a, B i = some a → a ≠ D := fun i a e z => by subst z; exact dD (r.sepB i a e)
  have at_ : ∀ j c, put B σ.length (some D) j = some c → (j = σ.length ∧ c = D) ∨ (j ≠ σ.length ∧ B j = some c) := fun j c e => by
    by_cases hj : j = σ.length
    · subst hj; rw [put_same] at e; exact .inl ⟨rfl, (Option.some.inj e).symm⟩
    · rw [put_ne hj] at e; exact .inr ⟨hj, e⟩
  refine ⟨⟨r.len, fun j s v e1 e2 => ?_, fun j k c e1 e2 => ?_, fun a mo e => (r.ob a mo e).fr f fun _ h => h, fun b h => r.tr b (av b h), fun j c e => ?_, fun a h => r.sepA a (up a h), fun j c e => ?_, h1, r.md, Gd.cl f g⟩, f⟩
  · have h1 : j ≠ σ.length := by
      have := (List.getElem?_eq_some_iff.mp e1).1
      rw [r.len]
      omega
    exact (r.sl j s v e1 e2).fr f fun a e => ⟨by rw [put_ne h1]; exact e, fun _ h => h⟩
  · rcases at_ j c e1 with ⟨rfl, rfl⟩ | ⟨n1, h1⟩
    · rcases at_ k c e2 with ⟨rfl, _⟩ | ⟨n2, h2⟩
      · rfl
      · exact absurd rfl (bD _ _ h2)
    · rcases at_ k c e2 with ⟨rfl, rfl⟩ | ⟨n2, h2⟩
      · exact absurd rfl (bD _ _ h1)
      · exact r.inj _ _ _ h1 h2
  · rcases at_ j c e with ⟨_, rfl⟩ | ⟨_, h1⟩
    · exact r.sepA _ dD
    · exact r.sepM _ _ h1
  · rcases at_ j c e with ⟨_, rfl⟩ | ⟨_, h1⟩
    · exact aD
    · have := r.sepB _ _ h1
      have : upd A.h D (.lst vs) c = none := this
      rw [upd_ne (bD _ _ h1)] at this
      exact this
end
/-! a comprehension's target -/
abbrev TGC := D → Env → (Env → Prop) → Prop
structure DGc (X : Cx) (K : PySem.W.Frag) (vs : List Nat) (tg : Expr) (t : TG) (t' : TGC) : Prop where
  pg : PG X tg t
  sim : ∀ (A : CA) (B : Nat → Option Addr) (M : Mm) (ρ : Env) (σ : L2.St) (H : Hp) (d : D) (v : V) (Q' : Env → Prop) (Q : L2.St → Hp → Prop), ER K A B M ρ σ H → Hd K (Av A B M) H d v → t' d ρ Q' →
    (∀ ρ' σ', ER K A B M ρ' σ' H → wipe σ' vs = wipe σ vs → wipeD ρ' vs = wipeD ρ vs → Q' ρ' → Q σ' H) → t v σ H Q
structure DGcs (X : Cx) (K : PySem.W.Frag) (vs : List Nat) (tg : List Expr) (t : TGs) (t' : List D → Env → (Env → Prop) → Prop) : Prop where
  pg : PGs X tg t
  sim : ∀ (A : CA) (B : Nat → Option Addr) (M : Mm) (ρ : Env) (σ : L2.St) (H : Hp) (ds : List D) (us : List V) (Q' : Env → Prop) (Q : L2.St → Hp → Prop), ER K A B M ρ σ H → HdL K (Av A B M) H ds us → t' ds ρ Q' →
    (∀ ρ' σ', ER K A B M ρ' σ' H → wipe σ' vs = wipe σ vs → wipeD ρ' vs = wipeD ρ vs → Q' ρ' → Q σ' H) → t us σ H Q
theorem wipe_set {σ : L2.St} {i : Nat} {x : Option V} : ∀ {vs : List Nat}, i ∈ vs → wipe (σ.set i x) vs = wipe σ vs
  | [], h => by cases h
  | v :: vs, h => by
    unfold wipe
    by_cases e : i ∈ vs
    · rw [wipe_set e]
    · rcases List.mem_cons.mp h with rfl | h
      · have : ∀ {us : List Nat}, wipe (σ.set i x) us = (wipe σ us).set i x ∨ wipe (σ.set i x) us = wipe σ us := by
          intro us
          induction us with
          | nil => exact .inl rfl
          | cons u us ih =>
            unfold wipe
            rcases ih with ih | ih
            · rw [ih]
              by_cases e : i = u
              · subst e; exact .inr (by rw [List.set_set])
              · exact .inl (by rw [List.set_comm _ _ e])
            · exact .inr (by rw [ih])
        rcases this (us := vs) with ih | ih
        · rw [ih, List.set_set]
        · rw [ih]
      · exact absurd h e
theorem wipeD_set {σ : Env} {i : Nat} {x : Sl} : ∀ {vs : List Nat}, i ∈ vs → wipeD (σ.set i x) vs = wipeD σ vs
  | [], h => by cases h
  | v :: vs, h => by
    unfold wipeD
    by_cases e : i ∈ vs
    · rw [wipeD_set e]
    · rcases List.mem_cons.mp h with rfl | h
      · have : ∀ {us : List Nat}, wipeD (σ.set i x) us = (wipeD σ us).set i x ∨ wipeD (σ.set i x) us = wipeD σ us := by
          intro us
          induction us with
          | nil => exact .inl rfl
          | cons u us ih =>
            unfold wipeD
            rcases ih with ih | ih
            · rw [ih]
              by_cases e : i = u
              · subst e; exact .inr (by rw [List.set_set])
              · exact .inl (by rw [List.set_comm _ _ e])
            · exact .inr (by rw [ih])
        rcases this (us := vs) with ih | ih
        · rw [ih, List.set_set]
        · rw [ih]
      · exact absurd h e
section
variable {X : Cx} {K : PySem.W.Frag} {e : Expr} {es : List Expr} {pos : Pos} {x : Str} {vs : List Nat}
def gcName (i : Nat) : TGC := fun d ρ Q => Q (ρ.set i (.val d))
theorem dgc_name (i : Nat) (hv : i ∈ vs := by decide) (hN : X.N.Nodup) (hi : X.N[i]? = some x := by rfl) (hx : Loc X.env.scope x := by first | exact .inl rfl | exact .inr rfl) (hf : X.fn x = true ∨ X.env.scope.names.lookup x = some .local := by first | exact .inl rfl | exact .inr rfl | assumption) : DGc X K vs (.Name x pos) (gName i) (gcName i) :=
  ⟨pg_name hN hi hx hf, fun A B M ρ σ H d v Q' Q r hd q k => k _ _ (r.set hd) (wipe_set hv) (wipeD_set hv) q⟩
def gcNil : List D → Env → (Env → Prop) → Prop := fun ds ρ Q => ds = [] ∧ Q ρ
def gcCons (t : TGC) (u : List D → Env → (Env → Prop) → Prop) : List D → Env → (Env → Prop) → Prop := fun ds ρ Q => ∃ d r, ds = d :: r ∧ t d ρ fun ρ' => u r ρ' Q
theorem dgcs_nil : DGcs X K vs [] gNil gcNil := ⟨pgs_nil, fun A B M ρ σ H ds us Q' Q r hd q k => by
  obtain ⟨rfl, q⟩ := q
  cases hd
  exact ⟨rfl, k ρ σ r rfl rfl q⟩⟩
theorem dgcs_cons {tg : TG} {ug : TGs} {tg' : TGC} {ug' : List D → Env → (Env → Prop) → Prop} (h1 : DGc X K vs e tg tg') (h2 : DGcs X K vs es ug ug') (hs : (assignEach (e :: es) X.env).map (·.2) = assign e X.env :: (assignEach es X.env).map (·.2) := by rfl) : DGcs X K vs (e :: es) (gCons tg ug) (gcCons tg' ug') :=
  ⟨pgs_cons h1.pg h2.pg hs, fun A B M ρ σ H ds us Q' Q r hd q k => by
    obtain ⟨d, rr, rfl, q⟩ := q
    cases hd with
    | cons a b => exact ⟨_, _, rfl, h1.sim A B M ρ σ H d _ _ _ r a q fun ρ' σ' r' w' w2 q' => h2.sim A B M ρ' σ' H rr _ _ _ r' b q' fun ρ3 σ3 r3 w3 w4 q3 => k ρ3 σ3 r3 (w3.trans w') (w4.trans w2) q3⟩⟩
def gcTup (n : Nat) (t : List D → Env → (Env → Prop) → Prop) : TGC := fun d ρ Q => ∃ ds, d.tq = some ds ∧ ds.length = n ∧ t ds ρ Q
theorem dgc_tup (n : Nat) {k : Nat} {tg : TGs} {tg' : List D → Env → (Env → Prop) → Prop} (h : DGcs X K vs es tg tg') (hK : X.K = K := by rfl) (hc : X.calm = true := by rfl) (hn : (assignEach es X.env).length = n := by rfl) (hst : (assignEach es X.env).findIdx? (·.1) = none := by rfl) : DGc X K vs (.Tuple es k pos) (gTup K n tg) (gcTup n tg') := by
  subst hK
  refine ⟨pg_tup hc h.pg hn hst, fun A B M ρ σ H d v Q' Q r hd q kk => ?_⟩
  obtain ⟨ds, e1, hl, q⟩ := q
  obtain ⟨a, us, rfl, s, l⟩ := hd.tq e1
  exact ⟨a, us, rfl, s, by rw [← l.length]; exact hl, h.sim A B M ρ σ H ds _ Q' Q r l q kk⟩
/-- tests of a clause -/
structure DTs (X : Cx) (K : PySem.W.Frag) (ifs : List Expr) (t : TT) (t' : TTD) : Prop where
  pts : PTs X ifs t
  sim : SimT K t t'
def dYes : TTD := fun ρ M Q => Q true ρ M
theorem dts_nil : DTs X K [] tYes dYes := ⟨pts_nil, fun A B M ρ σ H Q Q' r q k => k true ρ M B H r .refl .refl q⟩
theorem dts_one {c : Expr} {t : TT} {t' : TTD} (h : DT X K c t t') : DTs X K [c] t t' := ⟨pts_one h.pt, h.sim⟩
/-- the names of a comprehension are no lists of one's own -/
def noOwn (ρ : Env) (vs : List Nat) : Bool := vs.all fun j => match ρ[j]? with
  | some (.own _) => false
  | _ => true
theorem noOwn_out {ρ : Env} {vs : List Nat} (h : noOwn ρ vs = true) {j : Nat} {ds : List D} (e : ρ[j]? = some (.own ds)) : j ∉ vs := fun m => by
  have := List.all_eq_true.mp h j m
  rw [e] at this
  cases this
def dLc (wi' : TID) (g' : TGC) (tt' : TTD) (te' : TED) (vs : List Nat) : TEN := fun ρ M Q => wi' ρ M fun ds ρ1 M1 => noOwn ρ1 vs = true ∧ ∃ Pv : Nat → List D → Mm → Prop, Pv 0 [] M1 ∧
  (∀ i d acc M, ds[i]? = some d → Pv i acc M → g' d (wipeD ρ1 vs) fun ρ2 => tt' ρ2 M fun b ρ3 M3 => if b = true then te' ρ3 M3 fun y ρ4 M4 => wipeD ρ4 vs = wipeD ρ1 vs ∧ acc.length < sizeLine ∧ Pv (i + 1) (acc ++ [y]) M4 else wipeD ρ3 vs = wipeD ρ1 vs ∧ Pv (i + 1) acc M3) ∧
  ∀ acc M, Pv ds.length acc M → Q acc ρ1 M
theorem sim_lc {wi : TI} {wi' : TID} {g : TG} {g' : TGC} {tt : TT} {tt' : TTD} {te : TE} {te' : TED} (hi : SimI K wi wi')
    (hg : ∀ (A : CA) (B : Nat → Option Addr) (M : Mm) (ρ : Env) (σ : L2.St) (H : Hp) (d : D) (v : V) (Q' : Env → Prop) (Q : L2.St → Hp → Prop), ER K A B M ρ σ H → Hd K (Av A B M) H d v → g' d ρ Q' →
      (∀ ρ' σ', ER K A B M ρ' σ' H → wipe σ' vs = wipe σ vs → wipeD ρ' vs = wipeD ρ vs → Q' ρ' → Q σ' H) → g v σ H Q)
    (ht : SimT K tt tt') (he : SimE K te te') : SimN K (tLc wi g tt te vs) (dLc wi' g' tt' te' vs) := by
  intro A B M ρ σ H Q Q' r q k
  refine hi A B M ρ σ H _ _ r q fun ds ρ1 M1 B1 J H1 r1 f1 m1 it q1 => ?_
  obtain ⟨w1, Pv, p0, step, done⟩ := q1
  obtain ⟨r1c, f1c⟩ := r1.can
  intro D hD
  obtain ⟨r2, f2, m2⟩ := r1c.hide (vs := []) hD
  have aD : A.h D = none := by
    cases q : A.h D with
    | none => rfl
    | some u => rw [r1.sn D u q] at hD; cases hD
  refine ⟨fun i m H' => m = ds.length - i ∧ i ≤ ds.length ∧ ∃ M' acc us, ER K (A.add D (.lst us)) (canon ρ1 B1) M' ρ1 σ H' ∧ Fr (Av A B1 M1) (Av (A.add D (.lst us)) (canon ρ1 B1) M') H1 H' ∧ FrM M1 M' H1 H' ∧ HdL K (Av (A.add D (.lst us)) (canon ρ1 B1) M') H' acc us ∧ Pv i acc M',
    ⟨_, rfl, Nat.zero_le _, M1, [], [], r2, f1c.trans f2, m2, .nil, p0⟩, ?_⟩
  rintro i m H' ⟨rfl, hi', M', acc, us, r', f', m', ha, pv⟩
  have hl : H' D = some (.lst us) := r'.sn D _ upd_same
  by_cases hlt : i < ds.length
  · refine .inr ⟨it.go _ _ f' i hlt, fun H2 => ∃ M2 acc2 us2, ER K (A.add D (.lst us2)) (canon ρ1 B1) M2 ρ1 σ H2 ∧ Fr (Av A B1 M1) (Av (A.add D (.lst us2)) (canon ρ1 B1) M2) H1 H2 ∧ FrM M1 M2 H1 H2 ∧ HdL K (Av (A.add D (.lst us2)) (canon ρ1 B1) M2) H2 acc2 us2 ∧ Pv (i + 1) acc2 M2,
      fun H2 h2 => ⟨_, by omega, rfl, hlt, h2⟩, fun x H2 y => ?_⟩
    obtain ⟨r3, f3, m3, hd⟩ := r'.tup (it.yld _ _ f' i _ x H2 (List.getElem?_eq_getElem hlt) y)
    have r3w : ER K (A.add D (.lst us)) (canon ρ1 B1) M' (wipeD ρ1 vs) (wipe σ vs) H2 := r3.wipe vs
    refine hg _ _ M' (wipeD ρ1 vs) (wipe σ vs) H2 _ x _ _ r3w hd (step i _ acc M' (List.getElem?_eq_getElem hlt) pv) fun ρ4 σ4 r4 ws wd q4 => ⟨ws.trans ?_, ?_⟩
    · have e : ∀ us : List Nat, wipe (wipe σ vs) us = wipe σ vs ∨ True := fun _ => .inr trivial
      have hh : ∀ us : List Nat, (∀ v ∈ us, v ∈ vs) → wipe (wipe σ vs) us = wipe σ vs := by
        intro us
        induction us with
        | nil => intro _; rfl
        | cons u us ih =>
          intro h
          show (wipe (wipe σ vs) us).set u none = wipe σ vs
          rw [ih fun v hv => h v (List.mem_cons_of_mem _ hv)]
          have hu := h u List.mem_cons_self
          have : ∀ {ws : List Nat}, u ∈ ws → (wipe σ ws).set u none = wipe σ ws := by
            intro ws
            induction ws with
            | nil => intro h; cases h
            | cons w ws ih2 =>
              intro h
              unfold wipe
              by_cases e : u = w
              · subst e; rw [List.set_set]
              · rw [List.set_comm _ _ (Ne.symm e), ih2 ((List.mem_cons.mp h).resolve_left e)]
          exact this hu
      exact hh vs fun v hv => hv
    -- what an element's reckoning leaves
    have owns : ∀ {ρ5 : Env} {B5 : Nat → Option Addr} {M5 : Mm} {H5 : Hp}, ER K (A.add D (.lst us)) B5 M5 ρ5 σ4 H5 → wipeD ρ5 vs = wipeD ρ1 vs → ∀ j a, canon ρ1 B1 j = some a → ∃ j', B5 j' = some a := fun {ρ5 B5 M5 H5} r5 w5 j a e => by
      obtain ⟨eb, es, eo⟩ := canon_some e
      have nj := noOwn_out w1 eo
      have eo5 := eo
      rw [← wipeD_out nj, ← w5] at eo5
      obtain ⟨e5, _⟩ := wipeD_own eo5
      obtain ⟨v5, ev5, a5, _, hb5, hs5, _, _⟩ := r5.at e5
      obtain ⟨v3, ev3, a3, _, hb3, hs3, _, _⟩ := r3.at eo
      rw [canon_own eo, eb] at hb3
      cases hb3
      have : σ4[j]? = σ[j]? := by
        have h1 : (wipe σ4 vs)[j]? = σ4[j]? := wipe_out nj
        have h2 : (wipe (wipe σ vs) vs)[j]? = σ[j]? := by rw [wipe_out nj, wipe_out nj]
        rw [← h1, ws, h2]
      rw [ev5, ev3] at this
      subst hs5
      subst hs3
      cases this
      exact ⟨j, hb5⟩
    refine ht _ _ M' ρ4 σ4 H2 _ _ r4 q4 fun b ρ5 M5 B5 H5 r5 f5 m5 q5 => ?_
    cases b with
    | false =>
      obtain ⟨w5, p5⟩ := q5
      obtain ⟨r6, f6, f7⟩ := r3.keep r5 f5 m5 (owns r5 w5)
      have fin : ∃ M2 acc2 us2, ER K (A.add D (.lst us2)) (canon ρ1 B1) M2 ρ1 σ H5 ∧ Fr (Av A B1 M1) (Av (A.add D (.lst us2)) (canon ρ1 B1) M2) H1 H5 ∧ FrM M1 M2 H1 H5 ∧ HdL K (Av (A.add D (.lst us2)) (canon ρ1 B1) M2) H5 acc2 us2 ∧ Pv (i + 1) acc2 M2 :=
        ⟨M5, acc, us, r6, (f'.trans f3).trans f6, (m'.trans m3).trans m5, (ha.fr f3).fr f6, p5⟩
      exact fin
    | true =>
      refine he _ _ M5 ρ5 σ4 H5 _ _ r5 q5 fun y ρ6 M6 B6 v H6 r6 f6 m6 h6 q6 => ?_
      obtain ⟨w6, z6, p6⟩ := q6
      obtain ⟨r7, f7, f8⟩ := r3.keep r6 (f5.trans f6) (m5.trans m6) (owns r6 w6)
      have hl6 : H6 D = some (.lst us) := r7.sn D _ upd_same
      have ha6 := ((ha.fr f3).fr f7)
      obtain ⟨r8, f9⟩ := r7.grow (ws := us ++ [v]) aD (Gd.cl ((f'.trans f3).trans f7) r1.gd)
      refine ⟨us, hl6, by rw [← ha6.length]; exact z6, ?_⟩
      have m9 : FrM M1 M6 H1 (upd H6 D (.lst (us ++ [v]))) := fun b o n e => by
        obtain ⟨h1, h2⟩ := ((m'.trans m3).trans (m5.trans m6)) b o n e
        exact ⟨by rw [upd_ne (ne_of_none e hD)]; exact h1, h2⟩
      have fin : ∃ M2 acc2 us2, ER K (A.add D (.lst us2)) (canon ρ1 B1) M2 ρ1 σ (upd H6 D (.lst (us ++ [v]))) ∧ Fr (Av A B1 M1) (Av (A.add D (.lst us2)) (canon ρ1 B1) M2) H1 (upd H6 D (.lst (us ++ [v]))) ∧ FrM M1 M2 H1 (upd H6 D (.lst (us ++ [v]))) ∧
          HdL K (Av (A.add D (.lst us2)) (canon ρ1 B1) M2) (upd H6 D (.lst (us ++ [v]))) acc2 us2 ∧ Pv (i + 1) acc2 M2 :=
        ⟨M6, acc ++ [y], us ++ [v], r8, ((f'.trans f3).trans f7).trans f9, m9, (ha6.fr f9).app (.one ((h6.fr f8).fr f9)), p6⟩
      exact fin
  · have e : i = ds.length := by omega
    subst e
    have nB : canon ρ1 B1 σ.length = none := by
      unfold canon
      rw [List.getElem?_eq_none (by rw [r1.len]; exact Nat.le_refl _)]
    obtain ⟨r3, f3⟩ := r'.unhide aD nB (fun b o e => r'.sn b o (by
      show upd A.h D (.lst us) b = _
      rw [upd_ne fun z => by subst z; rw [aD] at e; cases e]
      exact e)) (Gd.cl f' r1.gd)
    exact .inl ⟨it.stop _ _ f', k acc ρ1 M' _ D us H' r3 (f1.trans (f'.trans f3)) (m1.trans m') put_same hl (ha.fr f3) (done acc M' pv)⟩
theorem dn_lc {elt tg iter : Expr} {ifs : List Expr} {scope : Scope} {own : List (Str × Nat)} {wi : TI} {wi' : TID} {g : TG} {g' : TGC} {tt : TT} {tt' : TTD} {te : TE} {te' : TED} (hN : X.N.Nodup) (hi : DI X K tg iter wi wi') (ok : BlkOk X.N X.env.scope scope own)
    (hg : ∀ (s : Shared) (H : Hp) (C : Addr) (cl : List (Str × Addr)) (fp : List Addr), DGc (X.blk s H scope (compEnvC scope cl C X.env) fp) K (own.map (·.2)) tg g g') (ht : ∀ (s : Shared) (H : Hp) (C : Addr) (cl : List (Str × Addr)) (fp : List Addr), DTs (X.blk s H scope (compEnvC scope cl C X.env) fp) K ifs tt tt')
    (he : ∀ (s : Shared) (H : Hp) (C : Addr) (cl : List (Str × Addr)) (fp : List Addr), DE (X.blk s H scope (compEnvC scope cl C X.env) fp) K elt te te') (hc : X.calm = true := by rfl) (hs : ∀ x, foldedSetIterable iter X.env x = pure x := by intro _; rfl) :
    DN X K (.ListComp elt [⟨tg, iter, ifs, 0⟩] scope pos) (tLc wi g tt te (own.map (·.2))) (dLc wi' g' tt' te' (own.map (·.2))) := by
  refine ⟨pe_lc hc hN hi.pi ok (fun s H C cl fp => (hg s H C cl fp).pg) (fun s H C cl fp => (ht s H C cl fp).pts) (fun s H C cl fp => (he s H C cl fp).pe) hs, ?_⟩
  exact sim_lc hi.sim (hg {} (fun _ => none) 0 [] []).sim (ht {} (fun _ => none) 0 [] []).sim (he {} (fun _ => none) 0 [] []).sim
end
end DM

namespace DM
open PySem PySem.Spec PyProof.Rows L2 TK
section
variable [Gd]
variable {X : Cx} {K : PySem.W.Frag}
/-- name = [..] on one line -/
theorem ds_ownLc (i : Nat) {y : Str} {py : Pos} {elt tg iter : Expr} {ifs : List Expr} {scope : Scope} {own : List (Str × Nat)} {pos spos : Pos} {wi : TI} {wi' : TID} {g : TG} {g' : TGC} {tt : TT} {tt' : TTD} {te : TE} {te' : TED} (hN : X.N.Nodup)
    (hsw : swapsWith (.ListComp elt [⟨tg, iter, ifs, 0⟩] scope pos) (some (.Name y py)) spos.line X.env = pure true) (hi : DI X K tg iter wi wi') (ok : BlkOk X.N X.env.scope scope own)
    (hg : ∀ (s : Shared) (H : Hp) (C : Addr) (cl : List (Str × Addr)) (fp : List Addr), DGc (X.blk s H scope (compEnvC scope cl C X.env) fp) K (own.map (·.2)) tg g g') (ht : ∀ (s : Shared) (H : Hp) (C : Addr) (cl : List (Str × Addr)) (fp : List Addr), DTs (X.blk s H scope (compEnvC scope cl C X.env) fp) K ifs tt tt')
    (he : ∀ (s : Shared) (H : Hp) (C : Addr) (cl : List (Str × Addr)) (fp : List Addr), DE (X.blk s H scope (compEnvC scope cl C X.env) fp) K elt te te') (hy : X.N[i]? = some y := by rfl) (hyl : X.env.scope.names.lookup y = some .local := by rfl) (hc : X.calm = true := by rfl) (hs : ∀ x, foldedSetIterable iter X.env x = pure x := by intro _; rfl) :
    DS X K (.Assign [.Name y py] (.ListComp elt [⟨tg, iter, ifs, 0⟩] scope pos) spos) (tAsg (tLc wi g tt te (own.map (·.2))) (gName i)) (dOwn (dLc wi' g' tt' te' (own.map (·.2))) i) := by
  refine ⟨ps_setLc hc hN hy hyl hsw hi.pi ok (fun s H C cl fp => (hg s H C cl fp).pg) (fun s H C cl fp => (ht s H C cl fp).pts) (fun s H C cl fp => (he s H C cl fp).pe) hs, ?_⟩
  exact sim_own i (sim_lc hi.sim (hg {} (fun _ => none) 0 [] []).sim (ht {} (fun _ => none) 0 [] []).sim (he {} (fun _ => none) 0 [] []).sim)
theorem ds_setLc (i : Nat) {y : Str} {py : Pos} {elt tg iter : Expr} {ifs : List Expr} {scope : Scope} {own : List (Str × Nat)} {pos spos : Pos} {wi : TI} {wi' : TID} {g : TG} {g' : TGC} {tt : TT} {tt' : TTD} {te : TE} {te' : TED} (hN : X.N.Nodup)
    (hsw : swapsWith (.ListComp elt [⟨tg, iter, ifs, 0⟩] scope pos) (some (.Name y py)) spos.line X.env = pure true) (hi : DI X K tg iter wi wi') (ok : BlkOk X.N X.env.scope scope own)
    (hg : ∀ (s : Shared) (H : Hp) (C : Addr) (cl : List (Str × Addr)) (fp : List Addr), DGc (X.blk s H scope (compEnvC scope cl C X.env) fp) K (own.map (·.2)) tg g g') (ht : ∀ (s : Shared) (H : Hp) (C : Addr) (cl : List (Str × Addr)) (fp : List Addr), DTs (X.blk s H scope (compEnvC scope cl C X.env) fp) K ifs tt tt')
    (he : ∀ (s : Shared) (H : Hp) (C : Addr) (cl : List (Str × Addr)) (fp : List Addr), DE (X.blk s H scope (compEnvC scope cl C X.env) fp) K elt te te') (hy : X.N[i]? = some y := by rfl) (hyl : X.env.scope.names.lookup y = some .local := by rfl) (hc : X.calm = true := by rfl) (hs : ∀ x, foldedSetIterable iter X.env x = pure x := by intro _; rfl) :
    DS X K (.Assign [.Name y py] (.ListComp elt [⟨tg, iter, ifs, 0⟩] scope pos) spos) (tAsg (tLc wi g tt te (own.map (·.2))) (gName i)) (dAsg (dN (dLc wi' g' tt' te' (own.map (·.2)))) (gdName i)) := by
  refine ⟨ps_setLc hc hN hy hyl hsw hi.pi ok (fun s H C cl fp => (hg s H C cl fp).pg) (fun s H C cl fp => (ht s H C cl fp).pts) (fun s H C cl fp => (he s H C cl fp).pe) hs, ?_⟩
  have h := sim_lc hi.sim (hg {} (fun _ => none) 0 [] []).sim (ht {} (fun _ => none) 0 [] []).sim (he {} (fun _ => none) 0 [] []).sim
  have h2 := simN_E h
  exact fun A B M ρ σ H E D r q k => h2 A B M ρ σ H _ _ r q fun d ρ' M' B' v H' r' f m hd q' => k.nx _ M' B' _ H' (r'.set hd) f q'
end
section
variable {P : Program} {w : World} {K : PySem.W.Frag} {mg : Str → Option Value} {base : Heap} {x : Str} {st : Stmt} {N ps : List Str} {k : Nat} {sp : SpD}
theorem EndsOk.imp [Gd] {K : PySem.W.Frag} {A : CA} {Av0 : Addr → Prop} {H0 : Hp} {D1 D2 : EndsD} {E : Ends} (e : EndsOk K A Av0 H0 D2 E) (h1 : ∀ ρ M, D1.nx ρ M → D2.nx ρ M) (h2 : ∀ ρ M, D1.rt ρ M → D2.rt ρ M) (h3 : ∀ ρ M, D1.rn ρ M → D2.rn ρ M) (h4 : ∀ ρ M, D1.bk ρ M → D2.bk ρ M) (h5 : ∀ ρ M, D1.ct ρ M → D2.ct ρ M) : EndsOk K A Av0 H0 D1 E :=
  ⟨fun ρ M B σ H r f q => e.nx ρ M B σ H r f (h1 _ _ q), fun d v ρ M B σ H r f h q => e.rt d v ρ M B σ H r f h (h2 _ _ q), fun ds a vs ρ M B σ H r f i l h q => e.rn ds a vs ρ M B σ H r f i l h (h3 _ _ q),
   fun ρ M B σ H r f q => e.bk ρ M B σ H r f (h4 _ _ q), fun ρ M B σ H r f q => e.ct ρ M B σ H r f (h5 _ _ q)⟩
theorem body_runG {g : Gd} {t : TS} {t' : TSD} {A : CA} {M : Mm} {H : Hp} {vs : List V} {ds : List DM.D} {Q : VK} (h : SimS K t t') (o : ROk K A M H) (hd : HdL K (Avc A M) H ds vs)
    (gd : g.F ⟨A.h, fun b => M b ≠ none⟩ (Avc A M) H) (q : t' ⟨(fun _ M' => ∀ v H', ROk K A M' H' → FrM M M' H H' → Hd K (Avc A M') H' .non v → Q v H'), (fun d M' => ∀ v H', ROk K A M' H' → FrM M M' H H' → Hd K (Avc A M') H' d v → Q v H'),
      (fun es M' => ∀ a us H', H a = none → ROk K (A.add a (.lst us)) M' H' → FrM M M' H H' → HdL K (Avc (A.add a (.lst us)) M') H' es us → Q (.ref a) H'), (fun _ _ => False), (fun _ _ => False)⟩ (startD N ds) M) : t { nx := fun _ H' => Q .non H', rt := Q } (L2.start N vs) H := by
  have o' : ROk K ⟨A.h, fun b => M b ≠ none⟩ M H := ⟨o.ob, o.tr, o.sep, o.sn, fun b h => h⟩
  have back : ∀ {M' H'}, ROk K ⟨A.h, fun b => M b ≠ none⟩ M' H' → ROk K A M' H' := fun h => ⟨h.ob, h.tr, h.sep, h.sn, fun b hb => h.md b (o.md b hb)⟩
  have backN : ∀ {M' H' a us}, ROk K ((⟨A.h, fun b => M b ≠ none⟩ : CA).add a (.lst us)) M' H' → ROk K (A.add a (.lst us)) M' H' := fun h => ⟨h.ob, h.tr, h.sep, h.sn, fun b hb => h.md b (o.md b hb)⟩
  have r0 : ER K ⟨A.h, fun b => M b ≠ none⟩ (fun _ => none) M (startD N ds) (L2.start N vs) H := start_er o' hd gd
  refine h ⟨A.h, fun b => M b ≠ none⟩ _ M (startD N ds) _ H _ _ r0 q ?_
  refine (ends_of (Q := Q) o' fun b h => h).imp (fun ρ M' q v H' r => q v H' (back r)) (fun ρ M' q v H' r => q v H' (back r)) (fun ρ M' q a us H' hn r => q a us H' hn (backN r)) (fun _ _ z => z) (fun _ _ z => z)
theorem body_run {t : TS} {t' : TSD} {A : CA} {M : Mm} {H : Hp} {vs : List V} {ds : List DM.D} {Q : VK} (h : SimS K t t') (o : ROk K A M H) (hd : HdL K (Avc A M) H ds vs)
    (q : t' ⟨(fun _ M' => ∀ v H', ROk K A M' H' → FrM M M' H H' → Hd K (Avc A M') H' .non v → Q v H'), (fun d M' => ∀ v H', ROk K A M' H' → FrM M M' H H' → Hd K (Avc A M') H' d v → Q v H'),
      (fun es M' => ∀ a us H', H a = none → ROk K (A.add a (.lst us)) M' H' → FrM M M' H H' → HdL K (Avc (A.add a (.lst us)) M') H' es us → Q (.ref a) H'), (fun _ _ => False), (fun _ _ => False)⟩ (startD N ds) M) : t { nx := fun _ H' => Q .non H', rt := Q } (L2.start N vs) H := body_runG h o hd trivial q
/-- a def that lets no error out, by its promise told by data -/
theorem defD (D : DefAt K mg x st ps) (S : FnScope N ps (defScope st)) (len : ∀ ds M Q N' E, sp ds M Q N' E → ds.length = ps.length)
    (hbody : ∀ (f : Addr) (cdv : Value) (Ar : Around) (outer : List PySem.Env) (s : Shared) (H : Hp) (E : XK) (ds : List DM.D) (M : Mm) (Q : DM.D → Mm → Prop) (N' : List DM.D → Mm → Prop) (E' : Addr → Mm → Prop), Room k (Ar.deeper (envOfC x (defScope st) s.heap.objs.size f cdv)) → sp ds M Q N' E' →
      ∃ t t', DSs (cxOf CX0 P w K mg base N x (defScope st) f cdv Ar outer s H E).nox K (defBody st) t t' ∧ t' ⟨(fun _ M' => Q .non M'), Q, N', (fun _ _ => False), (fun _ _ => False)⟩ (startD N ds) M) : Cal P w K mg base x ps (k + 1) (ofD K sp) :=
  D.cal S (fun vs H Q E ⟨A, M, ds, o, hd, q⟩ => by rw [← hd.length]; exact len _ _ _ _ _ q) fun f cdv Ar outer s H vs Q E hr ⟨A, M, ds, o, hd, q⟩ => by
    obtain ⟨t, t', h, q'⟩ := hbody f cdv Ar outer s H E ds M _ _ _ hr q
    exact ⟨t, h.ps, body_run h.sim o hd q'⟩
/-- a def's promise by values, told by data -/
theorem calD {sp' : Sp} (C : Cal P w K mg base x ps k sp') (h : ∀ vs H Q E, ofD K sp vs H Q E → sp' vs H Q E) : Cal P w K mg base x ps k (ofD K sp) := by
  obtain ⟨f, fd, F, b⟩ := C.ex
  exact ⟨f, fd, ⟨fun vs H Q E q => F.len vs H Q E (h vs H Q E q), fun A outer s H as us vs Q E hr e0 bb r q => F.run A outer s H as us vs Q E hr e0 bb r (h vs H Q E q)⟩, b⟩
end
/-! errors -/
section
variable {X : Cx} {K : PySem.W.Frag} {e : Expr} {es : List Expr} {ta : TA} {ta' : TAD} {x : Str} {ps : List Str} {sp : SpD} {p pos p2 pos2 : Pos} {k : Nat} {C : Addr} {m : Str}
end
end DM

namespace DM
open PySem PySem.Spec PyProof.Rows L2 TK
variable [Gd]
section
variable {X : Cx} {K : PySem.W.Frag} {A : CA} {B : Nat → Option Addr} {M : Mm} {H : Hp} {e a b : Expr} {te ta tb : TE} {te' ta' tb' : TED} {pos p p1 p2 p3 : Pos} {x : Str}
/-! truth -/
def D.tru : D → Option Bool
  | .non => some false
  | .bl b => some b
  | .int i => some (i != 0)
  | .lst ds => some (!ds.isEmpty)
  | .kl ds => some (!ds.isEmpty)
  | .tup ds => some (!ds.isEmpty)
  | .kt ds => some (!ds.isEmpty)
  | _ => none
theorem HdL.empty {Av : Addr → Prop} {ds : List D} {vs : List V} (h : HdL K Av H ds vs) : ds.isEmpty = vs.isEmpty := by cases h <;> rfl
theorem HdB.tru {d : D} {v : V} {k : Bool} (h : HdB K A B M H d v) (e : d.tru = some k) : TruV K v H k := by
  cases d with
  | non => cases e; rw [h.non]; exact rfl
  | bl b => cases e; rw [h.bl]; exact rfl
  | int i => cases e; rw [h.int]; exact rfl
  | lst ds => cases e; obtain ⟨a, vs, rfl, s, l⟩ := h.lst; exact .inl ⟨vs, SqL.of s, by rw [l.empty]⟩
  | kl ds => cases e; obtain ⟨a, vs, rfl, s, l⟩ := h.list rfl; exact .inl ⟨vs, s, by rw [l.empty]⟩
  | tup ds => cases e; obtain ⟨a, vs, rfl, s, l⟩ := h.tup rfl; exact .inr (.inl ⟨vs, s, by rw [l.empty]⟩)
  | kt ds => cases e; obtain ⟨a, vs, rfl, s, l⟩ := h.tup rfl; exact .inr (.inl ⟨vs, s, by rw [l.empty]⟩)
  | _ => cases e
def dTru (t' : TED) : TTD := fun ρ M Q => t' ρ M fun d ρ1 M1 => ∃ k, d.tru = some k ∧ Q k ρ1 M1
theorem dt_truth (h : DB X K e te te') (he : ∀ whole, isTrue e X.env whole = (do let v ← whole; standAt e.pos; holding [v] (truthy v)) := by intro _; rfl) (hK : X.K = K := by rfl) : DT X K e (fun σ H Q => te σ H fun x H' => ∃ k, TruV K x H' k ∧ Q k H') (dTru te') := by
  subst hK
  refine ⟨pt_truth h.pe he, fun A B M ρ σ H Q Q' r q kk => h.sim A B M ρ σ H _ _ r q fun d ρ1 M1 B1 v H1 r1 f1 m1 h1 q1 => ?_⟩
  obtain ⟨k, e1, q1⟩ := q1
  exact ⟨k, h1.tru e1, kk k ρ1 M1 B1 H1 r1 f1 m1 q1⟩
/-! & -/
theorem o_and : OpR X (binaryOp .BitAnd) (rI0 fun i j => .int (Builtin.bitAnd i j)) ∧ SimR K (rI0 fun i j => .int (Builtin.bitAnd i j)) (dI0 fun i j => .int (Builtin.bitAnd i j)) := ⟨op_and, sim_rI0 fun _ _ _ _ => .int _⟩
/-! xs[::-1] -/
def dRev (te' : TED) : TEN := fun ρ M Q => te' ρ M fun d ρ1 M1 => ∃ ds, d.lq = some ds ∧ Q ds.reverse ρ1 M1
theorem dn_rev {k : Nat} (he : DB X K e te te') (hK : X.K = K := by rfl) : DN X K (.Subscript e (.Slice none none (some (.UnaryOp .USub (.Constant (.int 1) k p1) p2)) p3) pos) (tRevL K te) (dRev te') := by
  subst hK
  refine ⟨pe_revL he.pe, fun A B M ρ σ H Q Q' r q kk => he.sim A B M ρ σ H _ _ r q fun d ρ1 M1 B1 v H1 r1 f1 m1 h1 q1 => ?_⟩
  obtain ⟨ds, e1, q1⟩ := q1
  obtain ⟨a, vs, rfl, s, l⟩ := h1.list e1
  refine ⟨a, vs, rfl, s, fun p hp => ?_⟩
  obtain ⟨B2, R2, f2, m2, hb, h2⟩ := r1.newOwn hp l.rev
  exact kk _ ρ1 M1 B2 p _ _ R2 (f1.trans f2) (m1.trans m2) hb upd_same h2 q1
/-! tuple(xs) -/
def dTupOf (te' : TED) : TED := fun ρ M Q => te' ρ M fun d ρ1 M1 => ∃ ds, d.lq = some ds ∧ Q (.tup ds) ρ1 M1
theorem de_tupOf (hg : Gl X "tuple") (hm : X.mg "tuple" = none) (ha : DE X K a ta ta') (na : starEach [a] X.env = (false, eval a X.env) :: starEach [] X.env := by rfl) (hK : X.K = K := by rfl) : DE X K (.Call (.Name "tuple" p) [a] [] pos) (tThen ta (kTup K)) (dTupOf ta') := by
  subst hK
  refine ⟨pe_tupleOf hg hm ha.pe na, fun A B M ρ σ H Q Q' r q kk => ha.sim A B M ρ σ H _ _ r q fun d ρ1 M1 B1 v H1 r1 f1 m1 h1 q1 => ?_⟩
  obtain ⟨ds, e1, q1⟩ := q1
  obtain ⟨a, vs, rfl, s, l⟩ := h1.list e1
  refine .inl ⟨a, vs, rfl, s.sq, fun p hp => ?_⟩
  obtain ⟨R2, f2, m2, np, _⟩ := r1.new (o := .tup vs) hp
  exact kk (.tup ds) ρ1 M1 B1 _ _ R2 (f1.trans f2) (m1.trans m2) (.tup np upd_same (l.fr f2)) q1
/-! {} -/
theorem de_dict0 : DE X K (.Dict [] [] pos) tDNewK (dC (.dK [] [])) := ⟨pe_dnewK, fun A B M ρ σ H Q Q' r q kk => fun p hp => by
  obtain ⟨R2, f2, m2, np, _⟩ := r.new (o := .dK []) hp
  exact kk _ ρ M B _ _ R2 f2 m2 (.dK (vs := []) np upd_same rfl .nil) q⟩
/-! in -/
theorem u65 {k : Nat} {A : Around} (r : Room k A) : A.units + 65 < cLine := by have := r.un; omega
def dInD : R2D := fun d e Q => ∃ n es, n ≤ 60 ∧ okN n d ∧ e.lq = some es ∧ okL n es ∧ Q (.bl (es.any fun z => eqD z d))
def dNotInD : R2D := fun d e Q => ∃ n es, n ≤ 60 ∧ okN n d ∧ e.lq = some es ∧ okL n es ∧ Q (.bl (!es.any fun z => eqD z d))
theorem pdL_any {d : D} : ∀ es : List D, (D.pdL es).any (fun z => PyData.eqv z d.pd) = es.any fun z => eqD z d
  | [] => rfl
  | e :: es => by
    unfold D.pdL
    rw [List.any_cons, List.any_cons, pdL_any es]
    rfl
theorem HdB.dpl {n : Nat} {d : D} {es : List D} {v : V} (e : d.lq = some es) (o : okL n es) (h : HdB K A B M H d v) : Dp K H v (.list (D.pdL es)) := by
  obtain ⟨a, vs, rfl, s, l⟩ := h.list e
  exact .lst s (dpL_of n es o l)
theorem okl_shaped {n : Nat} {es : List D} (h : okL n es) (hn : n ≤ 60) : SeqAt.shaped (.list (D.pdL es)) = true := by
  have := ok_shaped (d := .lst es) (n := n + 1) (by unfold okN; exact h)
  obtain ⟨h1, h2⟩ := okL_lay n es h
  unfold SeqAt.shaped
  rw [PyData.canLay0, h1, PyData.depth, decide_eq_true (show PyData.depthAll (D.pdL es) + 1 ≤ 64 by omega)]
  rfl
theorem o_inD (hu : X.A.units + 65 < cLine) (hK : X.K = K := by rfl) : OpR X (compareOp .In) (rInD K) ∧ SimR K (rInD K) dInD := by
  subst hK
  refine ⟨op_inD hu, fun A B M H d e x y Q Q' hx hy q k => ?_⟩
  obtain ⟨n, es, hn, o1, e2, o2, q⟩ := q
  exact ⟨_, _, hx.dp o1, hy.dpl e2 o2, ok_shaped o1 hn, okl_shaped o2 hn, k _ _ (.bl _) (by rw [pdL_any]; exact q)⟩
theorem o_notInD (hu : X.A.units + 65 < cLine) (hK : X.K = K := by rfl) : OpR X (compareOp .NotIn) (rNotInD K) ∧ SimR K (rNotInD K) dNotInD := by
  subst hK
  refine ⟨op_notInD hu, fun A B M H d e x y Q Q' hx hy q k => ?_⟩
  obtain ⟨n, es, hn, o1, e2, o2, q⟩ := q
  exact ⟨_, _, hx.dp o1, hy.dpl e2 o2, ok_shaped o1 hn, okl_shaped o2 hn, k _ _ (.bl _) (by rw [pdL_any]; exact q)⟩
/-! sorted: pairs (in some order) -/
theorem HdL.perm {Av : Addr → Prop} {ys : List V} {xs : List V} (h : ys.Perm xs) : ∀ {ds : List D}, HdL K Av H ds xs → ∃ es, es.Perm ds ∧ HdL K Av H es ys := by
  induction h with
  | nil => intro ds l; exact ⟨ds, .refl _, l⟩
  | cons x _ ih =>
    intro ds l
    cases l with
    | cons a b =>
      obtain ⟨es, pe, le⟩ := ih b
      exact ⟨_, pe.cons _, .cons a le⟩
  | swap x y l =>
    intro ds l
    cases l with
    | cons a b =>
      cases b with
      | cons c d => exact ⟨_, .swap _ _ _, .cons c (.cons a d)⟩
  | trans _ _ ih1 ih2 =>
    intro ds l
    obtain ⟨es, pe, le⟩ := ih2 l
    obtain ⟨fs, pf, lf⟩ := ih1 le
    exact ⟨fs, pf.trans pe, lf⟩
def ipD (q : Int × Int) : D := .tup [.int q.1, .int q.2]
def dSortedP : R1N := fun d Q => ∃ ws : List (Int × Int), d.lq = some (ws.map ipD) ∧ ∀ us : List (Int × Int), us.Perm ws → Q (us.map ipD)
theorem o_sortedP (hK : X.K = K := by rfl) : CallR X (.builtin "sorted") (rSortedP K) ∧ SimUN K (rSortedP K) dSortedP := by
  subst hK
  refine ⟨cr_sortedP, fun A B M H d x Q Q' hx q k => ?_⟩
  obtain ⟨ws, e, q⟩ := q
  obtain ⟨a, vs, rfl, s, l⟩ := hx.list e
  refine ⟨a, vs, rfl, s, fun v hv => ?_, fun ys p hp hn => ?_⟩
  · obtain ⟨i, hi, rfl⟩ := List.getElem_of_mem hv
    obtain ⟨d, hd, hh⟩ := l.get' (List.getElem?_eq_getElem hi)
    obtain ⟨w, _, rfl⟩ := List.mem_map.mp (List.mem_of_getElem? hd)
    unfold ipD at hh
    generalize vs[i] = u at hh ⊢
    cases hh with
    | tup n s l => cases l with
      | cons a b => cases b with
        | cons c d => cases d; cases a; cases c; exact ⟨_, _, _, rfl, s⟩
  · obtain ⟨es, pe, le⟩ := HdL.perm hp l
    obtain ⟨us, rfl, pu⟩ : ∃ us : List (Int × Int), es = us.map ipD ∧ us.Perm ws := by
      have : ∀ (es ds : List D), es.Perm ds → ∀ ws : List (Int × Int), ds = ws.map ipD → ∃ us : List (Int × Int), es = us.map ipD ∧ us.Perm ws := by
        intro es ds h
        induction h with
        | nil => intro ws e; cases ws with | nil => exact ⟨[], rfl, .refl _⟩ | cons _ _ => cases e
        | cons x _ ih => intro ws e; cases ws with
          | nil => cases e
          | cons w ws => cases e; obtain ⟨us, rfl, pu⟩ := ih ws rfl; exact ⟨w :: us, rfl, pu.cons _⟩
        | swap x y l => intro ws e; cases ws with
          | nil => cases e
          | cons w ws => cases ws with
            | nil => cases e
            | cons u ws => cases e; exact ⟨u :: w :: ws, rfl, .swap _ _ _⟩
        | trans _ _ ih1 ih2 => intro ws e; obtain ⟨us, rfl, pu⟩ := ih2 ws e; obtain ⟨us2, rfl, pu2⟩ := ih1 us rfl; exact ⟨us2, rfl, pu2.trans pu⟩
      exact this es _ pe ws rfl
    exact k _ _ p le hn (q us pu)
/-! list(range(..)) -/
def dRg2 (ta' tb' : TED) : TEN := fun ρ M Q => ta' ρ M fun d ρ1 M1 => tb' ρ1 M1 fun e ρ2 M2 => ∃ i j, d = .int i ∧ e = .int j ∧ RgOk i j ∧ Q (rng i (j - i).toNat) ρ2 M2
theorem HdL.rng {Av : Addr → Prop} (i : Int) (n : Nat) : HdL K Av H (rng i n) ((List.range n).map fun (k : Nat) => V.int (i + (k : Int))) := by
  have h : ∀ l : List Nat, HdL K Av H (l.map fun (k : Nat) => D.int (i + (k : Int))) (l.map fun (k : Nat) => V.int (i + (k : Int))) := by
    intro l
    induction l with
    | nil => exact .nil
    | cons a l ih => exact .cons (.int _) ih
  exact h _
theorem dn_listR2 {p' pos' : Pos} (hg : Gl X "list") (hm : X.mg "list" = none) (hg2 : Gl X "range") (hm2 : X.mg "range" = none) (ha : DE X K a ta ta') (hb : DE X K b tb tb') (hc : X.calm = true := by rfl)
    (na : starEach [a, b] X.env = (false, eval a X.env) :: starEach [b] X.env := by rfl) (nb : starEach [b] X.env = (false, eval b X.env) :: starEach [] X.env := by rfl) (hp : (backTo pos' (starEach [b] X.env)).any (·.1) = false := by rfl)
    (nl : starEach [.Call (.Name "range" p') [a, b] [] pos'] X.env = (false, eval (.Call (.Name "range" p') [a, b] [] pos') X.env) :: starEach [] X.env := by rfl) :
    DN X K (.Call (.Name "list" p) [.Call (.Name "range" p') [a, b] [] pos'] [] pos) (tLstRg (tRg2 ta tb)) (dRg2 ta' tb') :=
  ⟨pe_listRg hc hg hm (prg_2 hg2 hm2 ha.pe hb.pe na nb hp) nl, fun A B M ρ σ H Q Q' r q kk => ha.sim A B M ρ σ H _ _ r q fun d ρ1 M1 B1 v H1 r1 f1 m1 hd q1 => hb.sim A B1 M1 ρ1 σ H1 _ _ r1 q1 fun e ρ2 M2 B2 w H2 r2 f2 m2 he q2 => by
    obtain ⟨i, j, rfl, rfl, ok, q2⟩ := q2
    cases hd
    cases he
    refine ⟨i, j, rfl, rfl, ok, fun p hp => ?_⟩
    obtain ⟨B3, R3, f3, m3, hb3, h3⟩ := r2.newOwn hp (HdL.rng i (j - i).toNat)
    exact kk _ ρ2 M2 B3 p _ _ R3 ((f1.trans f2).trans f3) ((m1.trans m2).trans m3) hb3 upd_same h3 q2⟩
def dRg1 (ta' : TED) : TEN := fun ρ M Q => ta' ρ M fun d ρ1 M1 => ∃ j, d = .int j ∧ RgOk 0 j ∧ Q (rng 0 j.toNat) ρ1 M1
theorem dn_listR1 {p' pos' : Pos} (hg : Gl X "list") (hm : X.mg "list" = none) (hg2 : Gl X "range") (hm2 : X.mg "range" = none) (ha : DE X K a ta ta') (hc : X.calm = true := by rfl)
    (na : starEach [a] X.env = (false, eval a X.env) :: starEach [] X.env := by rfl)
    (nl : starEach [.Call (.Name "range" p') [a] [] pos'] X.env = (false, eval (.Call (.Name "range" p') [a] [] pos') X.env) :: starEach [] X.env := by rfl) :
    DN X K (.Call (.Name "list" p) [.Call (.Name "range" p') [a] [] pos'] [] pos) (tLstRg (tRg1 ta)) (dRg1 ta') :=
  ⟨pe_listRg hc hg hm (prg_1 hg2 hm2 ha.pe na) nl, fun A B M ρ σ H Q Q' r q kk => ha.sim A B M ρ σ H _ _ r q fun d ρ1 M1 B1 v H1 r1 f1 m1 hd q1 => by
    obtain ⟨j, rfl, ok, q2⟩ := q1
    cases hd
    refine ⟨j, rfl, ok, fun p hp => ?_⟩
    have e0 : rgV 0 j = (List.range j.toNat).map fun (k : Nat) => V.int (0 + (k : Int)) := by unfold rgV; rw [Int.sub_zero]
    have l0 : HdL K (Av A B1 M1) H1 (rng 0 j.toNat) (rgV 0 j) := by rw [e0]; exact HdL.rng 0 j.toNat
    obtain ⟨B3, R3, f3, m3, hb3, h3⟩ := r1.newOwn hp l0
    exact kk _ ρ1 M1 B3 p _ _ R3 (f1.trans f3) (m1.trans m3) hb3 upd_same h3 q2⟩
/-! reversed(range(..)) -/
def diRev1 (ta' : TED) : TID := fun ρ M Q => ta' ρ M fun d ρ1 M1 => ∃ j, d = .int j ∧ 0 ≤ j ∧ j < 2 ^ 62 ∧ Q (rng 0 j.toNat).reverse ρ1 M1
/-! more -/
def dSortedI : R1N := fun d Q => ∃ ns : List Int, d.lq = some (ns.map .int) ∧ ∀ ms : List Int, ms.Perm ns → ms.Pairwise (· ≤ ·) → Q (ms.map .int)
theorem o_sortedI (hK : X.K = K := by rfl) : CallR X (.builtin "sorted") (rSortedI K) ∧ SimUN K (rSortedI K) dSortedI := by
  subst hK
  refine ⟨cr_sortedI, fun A B M H d x Q Q' hx q k => ?_⟩
  obtain ⟨ns, e, q⟩ := q
  obtain ⟨a, vs, rfl, s, l⟩ := hx.list e
  rw [l.ints] at s
  exact ⟨a, ns, rfl, s, fun ms p h1 h2 hp => k _ _ p .ofInts hp (q ms h1 h2)⟩
end
end DM

namespace DM
open PySem PySem.Spec PyProof.Rows L2 TK
variable [Gd]
/-- the law's script, told by data -/
theorem law_in {K : PySem.W.Frag} {H : Hp} {a : Addr} {ns : List Int} {sp : SpD} {E : XK} (hS : SqL K H a (ns.map V.int)) (h : ∀ Q N E', (∀ M', Q (.bl true) M') → sp [.kl (ns.map .int)] (fun _ => none) Q N E') : ofD K sp [.ref a] H (fun v _ => v = .bl true) E := by
  refine ⟨⟨fun _ => none, fun _ => False⟩, fun _ => none, [.kl (ns.map .int)], ⟨fun a mo e => (nomatch e), fun b hb => absurd rfl hb, fun b hb => absurd rfl hb, fun b o e => (nomatch e), fun b hb => hb.elim⟩, .cons (.kl ?_ .ofInts) .nil, h _ _ _ fun M' v H' _ _ hd => by cases hd; rfl⟩
  rcases hS with hS | hS
  · refine .inl ⟨?_, hS⟩
    rintro (h | ⟨i, h⟩ | h)
    · exact h rfl
    · cases h
    · exact h rfl
  · exact .inr hS
end DM

namespace DM
open PySem PySem.Spec PyProof.Rows L2 TK
variable [Gd]
section
variable {K : PySem.W.Frag} {A : CA} {B : Nat → Option Addr} {M : Mm} {ρ : Env} {σ : L2.St} {H : Hp}
/-- the new list behind the slots is put away -/
theorem ER.stash (r : ER K A B M ρ σ H) {a : Addr} {vs : List V} (hb : B σ.length = some a) (hl : H a = some (.lst vs)) : ER K (A.add a (.lst vs)) (put B σ.length none) M ρ σ H ∧ Fr (Av A B M) (Av (A.add a (.lst vs)) (put B σ.length none) M) H H := by
  have av : ∀ b, Av (A.add a (.lst vs)) (put B σ.length none) M b → Av A B M b := fun b h => by
    rcases h with h | ⟨i, h⟩ | h
    · by_cases e : b = a
      · subst e; exact .inr (.inl ⟨_, hb⟩)
      · refine .inl fun q => h ?_
        show upd _ _ _ b = none
        rw [upd_ne e]
        exact q
    · by_cases e : i = σ.length
      · subst e; rw [put_same] at h; cases h
      · rw [put_ne e] at h; exact .inr (.inl ⟨i, h⟩)
    · exact .inr (.inr h)
  have f := Fr.less (H := H) av
  have ne : ∀ {j c}, put B σ.length none j = some c → j ≠ σ.length ∧ B j = some c ∧ c ≠ a := fun {j c} e => by
    have h1 : j ≠ σ.length := fun z => by subst z; rw [put_same] at e; cases e
    rw [put_ne h1] at e
    exact ⟨h1, e, fun z => h1 (r.inj _ _ _ (z ▸ e) hb)⟩
  refine ⟨⟨r.len, fun j s v e1 e2 => ?_, fun i j c e1 e2 => r.inj i j c (ne e1).2.1 (ne e2).2.1, fun c mo e => (r.ob c mo e).fr f fun _ h => h, fun b h => r.tr b (av b h), fun j c e => r.sepM j c (ne e).2.1, fun c h => ?_, fun j c e => ?_, fun b o e => ?_, r.md, Gd.add (r.sepB _ _ hb) (Gd.cl f r.gd)⟩, f⟩
  · have h1 : j ≠ σ.length := by
      have := (List.getElem?_eq_some_iff.mp e1).1
      rw [r.len]
      omega
    exact (r.sl j s v e1 e2).fr f fun c e => ⟨by rw [put_ne h1]; exact e, fun _ h => h⟩
  · by_cases e : c = a
    · subst e; exact r.sepM _ _ hb
    · refine r.sepA c fun q => h ?_
      show upd _ _ _ c = none
      rw [upd_ne e]
      exact q
  · show upd _ _ _ c = none
    rw [upd_ne (ne e).2.2]
    exact r.sepB j c (ne e).2.1
  · have e : upd A.h a (.lst vs) b = some o := e
    by_cases e2 : b = a
    · subst e2; rw [upd_same] at e; cases e; exact hl
    · rw [upd_ne e2] at e; exact r.sn b o e
end
section
variable {X : Cx} {K : PySem.W.Frag} {x : Str}
/-- a, b = [..], e: the first one is our own -/
def dParO (i j : Nat) (tn' : TEN) (tb' : TED) : TSD := fun D ρ M => tn' ρ M fun ds ρ1 M1 => tb' ρ1 M1 fun e ρ2 M2 => D.nx ((ρ2.set i (.own ds)).set j (.val e)) M2
theorem ds_parO (i j : Nat) {y : Str} {a b : Expr} {tn tb : TE} {tn' : TEN} {tb' : TED} {px py pt : Pos} {kt k2 pt2} {pos : Pos} (hN : X.N.Nodup) (ha : DN X K a tn tn') (hb : DE X K b tb tb') (hc : X.calm = true := by rfl) (hi : X.N[i]? = some x := by rfl) (hj : X.N[j]? = some y := by rfl) (hij : i ≠ j := by decide)
    (hx : X.env.scope.names.lookup x = some .local := by rfl) (hy : X.env.scope.names.lookup y = some .local := by rfl)
    (hs1 : starEach [a, b] X.env = (false, eval a X.env) :: starEach [b] X.env := by rfl) (hs2 : starEach [b] X.env = (false, eval b X.env) :: starEach [] X.env := by rfl)
    (hw : swappedStores [.Tuple [.Name x px, .Name y py] kt pt] (.Tuple [a, b] k2 pt2) X.env = pure (some [x, y]) := by rfl)
    (hs : swapsWithSole [.Tuple [.Name x px, .Name y py] kt pt] (.Tuple [a, b] k2 pt2) pos.line X.env = pure false := by rfl) :
    DS X K (.Assign [.Tuple [.Name x px, .Name y py] kt pt] (.Tuple [a, b] k2 pt2) pos) (tPar i j (tCons tn (tCons tb tNil))) (dParO i j tn' tb') := by
  refine ⟨ps_par hc hN hi hj hij hx hy (pa_cons ha.pe (pa_cons hb.pe pa_nil hs2) hs1) hw hs, fun A B M ρ σ H E D r q k => ha.sim A B M ρ σ H _ _ r q fun ds ρ1 M1 B1 a1 vs H1 r1 f1 m1 hb1 hl hd q1 => ?_⟩
  obtain ⟨r2, f2⟩ := r1.stash hb1 hl
  refine hb.sim _ _ M1 ρ1 σ H1 _ _ r2 q1 fun e ρ2 M2 B2 w H2 r3 f3 m3 he q2 => ?_
  obtain ⟨r4, f4⟩ := r3.drop (i := σ.length) (by rw [r3.len]; exact Nat.le_refl _)
  have hl2 : H2 a1 = some (.lst vs) := r4.sn a1 _ upd_same
  have aD : A.h a1 = none := r1.sepB _ _ hb1
  obtain ⟨r5, f5⟩ := r4.unhide aD put_same (fun b o e => r4.sn b o (by
    show upd A.h a1 (.lst vs) b = _
    rw [upd_ne fun z => by subst z; rw [aD] at e; cases e]
    exact e)) (Gd.cl ((f2.trans f3).trans f4) r1.gd)
  have f25 := ((f2.trans f3).trans f4).trans f5
  obtain ⟨B6, r6, f6⟩ := r5.setOwn (i := i) put_same hl2 (hd.fr f25)
  have he6 := ((he.fr f4).fr f5).fr f6
  exact ⟨_, _, rfl, k.nx _ M2 B6 _ H2 (r6.set he6) ((f1.trans f25).trans f6) q2⟩
/-- the same where one of the names is a cell: a pair that is unpacked -/
theorem ds_parT (i j : Nat) {y : Str} {a b : Expr} {tn tb : TE} {tn' : TEN} {tb' : TED} {px py pt : Pos} {kt k2 pt2} {pos : Pos} (hN : X.N.Nodup) (ha : DN X K a tn tn') (hb : DE X K b tb tb') (hc : X.calm = true := by rfl) (hi : X.N[i]? = some x := by rfl) (hj : X.N[j]? = some y := by rfl)
    (hx : Loc X.env.scope x := by first | exact .inl rfl | exact .inr rfl) (hy : Loc X.env.scope y := by first | exact .inl rfl | exact .inr rfl)
    (fx : X.fn x = true ∨ X.env.scope.names.lookup x = some .local := by first | exact .inl rfl | exact .inr rfl | assumption) (fy : X.fn y = true ∨ X.env.scope.names.lookup y = some .local := by first | exact .inl rfl | exact .inr rfl | assumption)
    (hs1 : starEach [a, b] X.env = (false, eval a X.env) :: starEach [b] X.env := by rfl) (hs2 : starEach [b] X.env = (false, eval b X.env) :: starEach [] X.env := by rfl)
    (hsw : swapsWithSole [.Tuple [.Name x px, .Name y py] kt pt] (.Tuple [a, b] k2 pt2) pos.line X.env = pure false := by rfl) (hw : swappedStores [.Tuple [.Name x px, .Name y py] kt pt] (.Tuple [a, b] k2 pt2) X.env = pure none := by rfl)
    (h1 : (assignEach [.Tuple [.Name x px, .Name y py] kt pt] X.env).map (·.2) = [assign (.Tuple [.Name x px, .Name y py] kt pt) X.env] := by rfl)
    (ha1 : (assignEach [.Name x px, .Name y py] X.env).map (·.2) = assign (.Name x px) X.env :: (assignEach [.Name y py] X.env).map (·.2) := by rfl) (ha2 : (assignEach [.Name y py] X.env).map (·.2) = assign (.Name y py) X.env :: (assignEach [] X.env).map (·.2) := by rfl)
    (hn : (assignEach [.Name x px, .Name y py] X.env).length = 2 := by rfl) (hst : (assignEach [.Name x px, .Name y py] X.env).findIdx? (·.1) = none := by rfl) (hK : X.K = K := by rfl) :
    DS X K (.Assign [.Tuple [.Name x px, .Name y py] kt pt] (.Tuple [a, b] k2 pt2) pos) (tAsg (tTup (tCons tn (tCons tb tNil))) (gTup K 2 (gCons (gName i) (gCons (gName j) gNil)))) (dParO i j tn' tb') := by
  subst hK
  refine ⟨ps_asg (pe_tup (pa_cons ha.pe (pa_cons hb.pe pa_nil hs2) hs1)) (pg_tup hc (pgs_cons (pg_name hN hi hx fx) (pgs_cons (pg_name hN hj hy fy) pgs_nil ha2) ha1) hn hst) hsw hw h1, fun A B M ρ σ H E D r q k => ha.sim A B M ρ σ H _ _ r q fun ds ρ1 M1 B1 a1 vs H1 r1 f1 m1 hb1 hl hd q1 => ?_⟩
  obtain ⟨r2, f2⟩ := r1.stash hb1 hl
  refine hb.sim _ _ M1 ρ1 σ H1 _ _ r2 q1 fun e ρ2 M2 B2 w H2 r3 f3 m3 he q2 => ?_
  refine ⟨Nat.le_of_ble_eq_true rfl, fun p hp => ?_⟩
  obtain ⟨r4, f4⟩ := r3.drop (i := σ.length) (by rw [r3.len]; exact Nat.le_refl _)
  obtain ⟨r4', f4', _, _, _⟩ := r4.new (o := .tup [.ref a1, w]) hp
  have hl2 : upd H2 p (.tup [.ref a1, w]) a1 = some (.lst vs) := r4'.sn a1 _ upd_same
  have aD : A.h a1 = none := r1.sepB _ _ hb1
  obtain ⟨r5, f5⟩ := r4'.unhide aD put_same (fun b o e => r4'.sn b o (by
    show upd A.h a1 (.lst vs) b = _
    rw [upd_ne fun z => by subst z; rw [aD] at e; cases e]
    exact e)) (Gd.cl (((f2.trans f3).trans f4).trans f4') r1.gd)
  have f25 := (((f2.trans f3).trans f4).trans f4').trans f5
  obtain ⟨B6, r6, f6⟩ := r5.setOwn (i := i) put_same hl2 (hd.fr f25)
  have he6 := (((he.fr f4).fr f4').fr f5).fr f6
  exact ⟨p, _, rfl, SqT.of upd_same, rfl, _, _, rfl, _, _, rfl, rfl, k.nx _ M2 B6 _ _ (r6.set he6) ((f1.trans f25).trans f6) q2⟩
end
/-! a op1 b op2 c op3 d -/
section
variable {X : Cx} {K : PySem.W.Frag} {a b c d : Expr} {ta tb tc td : TE} {ta' tb' tc' td' : TED} {pos : Pos}
def tChain3 (r1 r2 r3 : R2) (ta tb tc td : TE) : TE := fun σ H Q => ta σ H fun x H1 => tb σ H1 fun y H2 => r1 x y H2 fun z H3 => ∃ k, z = .bl k ∧
  (if k = true then tc σ H3 fun w' H4 => r2 y w' H4 fun z2 H5 => ∃ k2, z2 = .bl k2 ∧ (if k2 = true then td σ H5 fun v' H6 => r3 w' v' H6 Q else Q (.bl false) H5) else Q (.bl false) H3)
theorem pe_chain3 {op op' op2 : CmpOp} {r1 r2 r3 : R2} (ho : OpR X (compareOp op) r1) (ho' : OpR X (compareOp op') r2) (ho2 : OpR X (compareOp op2) r3) (ha : PE X a ta) (hb : PE X b tb) (hc : PE X c tc) (hd : PE X d td)
    (hm : lastMarks [op, op', op2] [b, c, d] = false := by with_unfolding_all rfl) : PE X (.Compare a [op, op', op2] [b, c, d] pos) (tChain3 r1 r2 r3 ta tb tc td) := by
  refine ⟨fun pins s σ H Q I h => ?_⟩
  refine Compare_chain (thn (ha.run pins s σ H _ I h) fun v s1 ⟨x, H1, I1, r1, q1⟩ => chain_link (thn (hb.run pins s1 σ H1 _ I1 q1) fun u s2 ⟨y, H2, I2, r2, q2⟩ =>
    thn (ho pins s2 σ H2 x y v u _ I2 r1 r2 q2) fun d s3 ⟨z, H3, I3, r3, k, e, q3⟩ => ?_)) hm
  subst e
  cases r3
  refine wpAny_truthy_bool ?_
  cases k with
  | false => exact ite_ff ⟨.bl false, H3, I3, rfl, q3⟩
  | true =>
    refine ite_tt (chain_link (thn (hc.run pins s3 σ H3 _ I3 q3) fun w' s4 ⟨z', H4, I4, r4, q4⟩ => thn (ho' pins s4 σ H4 y z' u w' _ I4 r2 r4 q4) fun d2 s5 ⟨z2, H5, I5, r5, k2, e2, q5⟩ => ?_))
    subst e2
    cases r5
    refine wpAny_truthy_bool ?_
    cases k2 with
    | false => exact ite_ff ⟨.bl false, H5, I5, rfl, q5⟩
    | true => exact ite_tt (chain_last (thn (hd.run pins s5 σ H5 _ I5 q5) fun w2 s6 ⟨z3, H6, I6, r6, q6⟩ => ho2 pins s6 σ H6 z' z3 w' w2 Q I6 r4 r6 q6))
theorem pt_chain3 {op op' op2 : CmpOp} {r1 r2 r3 : R2} (ho : OpR X (compareOp op) r1) (ho' : OpR X (compareOp op') r2) (ho2 : OpR X (compareOp op2) r3) (ha : PE X a ta) (hb : PE X b tb) (hc : PE X c tc) (hd : PE X d td)
    (hm : lastMarks [op, op', op2] [b, c, d] = false := by with_unfolding_all rfl) : PT X (.Compare a [op, op', op2] [b, c, d] pos) (tTest (tChain3 r1 r2 r3 ta tb tc td)) := by
  refine ⟨fun pins s σ H Q I h => ?_⟩
  refine isTrue_chain (thn (ha.run pins s σ H _ I h) fun v s1 ⟨x, H1, I1, r1, q1⟩ => test_link (thn (hb.run pins s1 σ H1 _ I1 q1) fun u s2 ⟨y, H2, I2, r2, q2⟩ =>
    thn (ho pins s2 σ H2 x y v u _ I2 r1 r2 q2) fun d s3 ⟨z, H3, I3, r3, k, e, q3⟩ => ?_)) hm
  subst e
  cases r3
  refine wpAny_truthy_bool ?_
  cases k with
  | false =>
    obtain ⟨k', e', q'⟩ := q3
    cases e'
    exact ite_ff ⟨H3, I3, q'⟩
  | true =>
    refine ite_tt (test_link (thn (hc.run pins s3 σ H3 _ I3 q3) fun w' s4 ⟨z', H4, I4, r4, q4⟩ => thn (ho' pins s4 σ H4 y z' u w' _ I4 r2 r4 q4) fun d2 s5 ⟨z2, H5, I5, r5, k2, e2, q5⟩ => ?_))
    subst e2
    cases r5
    refine wpAny_truthy_bool ?_
    cases k2 with
    | false =>
      obtain ⟨k', e', q'⟩ := q5
      cases e'
      exact ite_ff ⟨H5, I5, q'⟩
    | true =>
      refine ite_tt (test_last (thn (hd.run pins s5 σ H5 _ I5 q5) fun w2 s6 ⟨z3, H6, I6, r6, q6⟩ => thn (ho2 pins s6 σ H6 z' z3 w' w2 _ I6 r4 r6 q6) fun d' s7 ⟨z4, H7, I7, r7, k4, e4, q7⟩ => ?_))
      subst e4
      cases r7
      exact wpAny_truthy_bool ⟨H7, I7, q7⟩
def dChain3 (r1 r2 r3 : R2D) (ta' tb' tc' td' : TED) : TED := fun ρ M Q => ta' ρ M fun d ρ1 M1 => tb' ρ1 M1 fun e ρ2 M2 => r1 d e fun z => ∃ k, z = .bl k ∧
  (if k = true then tc' ρ2 M2 fun f ρ3 M3 => r2 e f fun z2 => ∃ k2, z2 = .bl k2 ∧ (if k2 = true then td' ρ3 M3 fun g ρ4 M4 => r3 f g fun c => Q c ρ4 M4 else Q (.bl false) ρ3 M3) else Q (.bl false) ρ2 M2)
theorem sim_chain3 {r1 r2 r3 : R2} {r1' r2' r3' : R2D} (s : SimR K r1 r1') (s' : SimR K r2 r2') (s2 : SimR K r3 r3') (ha : SimB K ta ta') (hb : SimB K tb tb') (hc : SimB K tc tc') (hd : SimB K td td') : SimE K (tChain3 r1 r2 r3 ta tb tc td) (dChain3 r1' r2' r3' ta' tb' tc' td') := fun A B M ρ σ H Q Q' R q k =>
  ha A B M ρ σ H _ _ R q fun d ρ1 M1 B1 v H1 R1 f1 m1 h1 q1 => hb A B1 M1 ρ1 σ H1 _ _ R1 q1 fun e ρ2 M2 B2 u H2 R2 f2 m2 h2 q2 =>
    s A B2 M2 H2 d e v u _ _ (h1.fr f2 m2) h2 q2 fun z w hw q3 => by
      obtain ⟨kk, rfl, q3⟩ := q3
      cases hw
      refine ⟨kk, rfl, ?_⟩
      cases kk with
      | false => exact k (.bl false) ρ2 M2 B2 _ H2 R2 (f1.trans f2) (m1.trans m2) (.bl _) q3
      | true =>
        refine hc A B2 M2 ρ2 σ H2 _ _ R2 q3 fun f ρ3 M3 B3 w' H3 R3 f3 m3 h3 q4 => s' A B3 M3 H3 e f u w' _ _ (h2.fr f3 m3) h3 q4 fun z2 w2 hw2 q5 => ?_
        obtain ⟨k2, rfl, q5⟩ := q5
        cases hw2
        refine ⟨k2, rfl, ?_⟩
        cases k2 with
        | false => exact k (.bl false) ρ3 M3 B3 _ H3 R3 ((f1.trans f2).trans f3) ((m1.trans m2).trans m3) (.bl _) q5
        | true => exact hd A B3 M3 ρ3 σ H3 _ _ R3 q5 fun g ρ4 M4 B4 v4 H4 R4 f4 m4 h4 q6 => s2 A B4 M4 H4 f g w' v4 Q _ (h3.fr f4 m4) h4 q6 fun c w5 hw5 q7 => k c ρ4 M4 B4 w5 H4 R4 (((f1.trans f2).trans f3).trans f4) (((m1.trans m2).trans m3).trans m4) hw5 q7
theorem de_chain3 {op op' op2 : CmpOp} {r1 r2 r3 : R2} {r1' r2' r3' : R2D} (o : OpR X (compareOp op) r1 ∧ SimR K r1 r1') (o' : OpR X (compareOp op') r2 ∧ SimR K r2 r2') (o2 : OpR X (compareOp op2) r3 ∧ SimR K r3 r3') (ha : DB X K a ta ta') (hb : DB X K b tb tb') (hc : DB X K c tc tc') (hd : DB X K d td td')
    (hm : lastMarks [op, op', op2] [b, c, d] = false := by with_unfolding_all rfl) : DE X K (.Compare a [op, op', op2] [b, c, d] pos) (tChain3 r1 r2 r3 ta tb tc td) (dChain3 r1' r2' r3' ta' tb' tc' td') := ⟨pe_chain3 o.1 o'.1 o2.1 ha.pe hb.pe hc.pe hd.pe hm, sim_chain3 o.2 o'.2 o2.2 ha.sim hb.sim hc.sim hd.sim⟩
theorem dt_chain3 {op op' op2 : CmpOp} {r1 r2 r3 : R2} {r1' r2' r3' : R2D} (o : OpR X (compareOp op) r1 ∧ SimR K r1 r1') (o' : OpR X (compareOp op') r2 ∧ SimR K r2 r2') (o2 : OpR X (compareOp op2) r3 ∧ SimR K r3 r3') (ha : DB X K a ta ta') (hb : DB X K b tb tb') (hc : DB X K c tc tc') (hd : DB X K d td td')
    (hm : lastMarks [op, op', op2] [b, c, d] = false := by with_unfolding_all rfl) : DT X K (.Compare a [op, op', op2] [b, c, d] pos) (tTest (tChain3 r1 r2 r3 ta tb tc td)) (dTest (dChain3 r1' r2' r3' ta' tb' tc' td')) := ⟨pt_chain3 o.1 o'.1 o2.1 ha.pe hb.pe hc.pe hd.pe hm, sim_test (sim_chain3 o.2 o'.2 o2.2 ha.sim hb.sim hc.sim hd.sim)⟩
end
/-! short lists -/
theorem line {n : Nat} (h : n ≤ 16000000) : n ≤ sizeLine := Nat.le_trans h (Nat.le_of_ble_eq_true rfl)
theorem lineL {n : Nat} (h : n < 16000000) : n < sizeLine := Nat.lt_of_lt_of_le h (Nat.le_of_ble_eq_true rfl)
/-! slices, items of mapped lists -/
def cutL {α : Type} (xs : List α) (lo hi : Option Int) : List α := (xs.drop (HT.sIx xs.length 0 lo)).take (HT.sIx xs.length xs.length hi - HT.sIx xs.length 0 lo)
theorem cutD_map {α : Type} {f : α → D} (xs : List α) (lo hi : Option Int) : cutD (xs.map f) lo hi = (cutL xs lo hi).map f := by
  unfold cutD cutL
  rw [List.length_map, ← List.map_drop, ← List.map_take]
theorem cutL_sub {α : Type} {xs : List α} {lo hi : Option Int} {x : α} (h : x ∈ cutL xs lo hi) : x ∈ xs := List.mem_of_mem_drop (List.mem_of_mem_take h)
theorem cutL_len {α : Type} (xs : List α) (lo hi : Option Int) : (cutL xs lo hi).length ≤ xs.length := by
  unfold cutL
  rw [List.length_take, List.length_drop]
  omega
theorem at_map {α : Type} {f : α → D} {xs : List α} {r : Int} (h0 : 0 ≤ r) (h1 : r < xs.length) : ∃ x, x ∈ xs ∧ xs[r.toNat]? = some x ∧ atI (xs.map f) r = some (f x) := by
  have hk : r.toNat < xs.length := by omega
  refine ⟨xs[r.toNat], List.getElem_mem hk, List.getElem?_eq_getElem hk, ?_⟩
  have h : (xs.map f)[r.toNat]? = some (f xs[r.toNat]) := by
    rw [List.getElem?_map, List.getElem?_eq_getElem hk]
    rfl
  have := atI_nat h
  rwa [show ((r.toNat : Nat) : Int) = r by omega] at this
/-- an item of a written list, by a draw -/
theorem at_pick {ds : List D} {r : Int} (h0 : 0 ≤ r) (h1 : r < ds.length) : ∃ d, d ∈ ds ∧ atI ds r = some d := by
  have hk : r.toNat < ds.length := by omega
  have := atI_nat (List.getElem?_eq_getElem hk)
  rw [show ((r.toNat : Nat) : Int) = r by omega] at this
  exact ⟨_, List.getElem_mem hk, this⟩
end DM

namespace DM
open PySem PySem.Spec PyProof.Rows L2 TK
variable [Gd]
/-! == of the same data -/
mutual
theorem eqv_same : ∀ (d : PyData), d.canLay0 = true → PyData.eqv d d = true
  | .none, _ => by rw [PyData.eqv]
  | .bool b, _ => by rw [PyData.eqv]; exact beq_self_eq_true b
  | .int b, _ => by rw [PyData.eqv]; exact beq_self_eq_true b
  | .str b, _ => by rw [PyData.eqv]; exact beq_self_eq_true b
  | .list ds, h => by rw [PyData.eqv]; rw [PyData.canLay0] at h; exact eqvAll_same ds h
  | .tuple ds, h => by rw [PyData.eqv]; rw [PyData.canLay0] at h; exact eqvAll_same ds h
  | .dict _, h => by rw [PyData.canLay0] at h; cases h
theorem eqvAll_same : ∀ (ds : List PyData), PyData.canLayAll0 ds = true → PyData.eqvAll ds ds = true
  | [], _ => by rw [PyData.eqvAll]
  | d :: ds, h => by
    rw [PyData.canLayAll0, Bool.and_eq_true] at h
    rw [PyData.eqvAll, eqv_same d h.1, eqvAll_same ds h.2]
    rfl
end
theorem eqD_same {n : Nat} {d : D} (h : okN n d) : eqD d d = true := eqv_same _ (ok_lay n d h).1
theorem okN_ints {n : Nat} (ns : List Int) : okN (n + 1) (.lst (ns.map .int)) := by
  unfold okN
  refine okL_of fun d hd => ?_
  obtain ⟨i, _, rfl⟩ := List.mem_map.mp hd
  unfold okN
  trivial
theorem pdL_ints : ∀ ns : List Int, D.pdL (ns.map .int) = ns.map PyData.int
  | [] => rfl
  | n :: ns => by
    rw [List.map_cons, List.map_cons, D.pdL, pdL_ints ns]
    rfl
theorem eqD_ints (ns ms : List Int) : eqD (.lst (ns.map .int)) (.lst (ms.map .int)) = decide (ns = ms) := by
  unfold eqD
  rw [D.pd, D.pd, pdL_ints, pdL_ints, PyData.eqv]
  exact eqvAll_int ns ms
theorem eqD_nil (es : List D) : eqD (.lst es) (.lst []) = es.isEmpty := by
  cases es with
  | nil => simp [eqD, D.pd, D.pdL, PyData.eqv, PyData.eqvAll]
  | cons e es => simp [eqD, D.pd, D.pdL, PyData.eqv, PyData.eqvAll]
theorem okN_nil {n : Nat} : okN (n + 1) (.lst []) := by unfold okN okL; trivial
/-! < and > of lists of numbers -/
def lexL : List Int → List Int → Bool
  | [], [] => false
  | [], _ :: _ => true
  | _ :: _, [] => false
  | x :: xs, y :: ys => if x = y then lexL xs ys else decide (x < y)
theorem lexL_eq : ∀ xs ys : List Int, PySem.W.listLt xs ys = lexL xs ys
  | [], [] => rfl
  | [], _ :: _ => rfl
  | _ :: _, [] => rfl
  | x :: xs, y :: ys => by
    show (if x = y then PySem.W.listLt xs ys else _) = (if x = y then lexL xs ys else _)
    rw [lexL_eq xs ys]
    rfl
theorem dataLt_ints (xs ys : List Int) : PySem.W.dataLt (.list (xs.map PyData.int)) (.list (ys.map PyData.int)) = lexL xs ys := by
  rw [← lexL_eq]
  exact (PySem.W.dataLt_list _ _).trans (PySem.W.lexAll_map xs ys)
theorem alike_ints (xs ys : List Int) : PySem.W.alike (.list (xs.map PyData.int)) (.list (ys.map PyData.int)) = true := by
  simp only [PySem.W.alike]
  exact PySem.W.alikeAll_map xs ys
section
variable {X : Cx} {K : PySem.W.Frag}
def rLtIL (K : PySem.W.Frag) (f : List Int → List Int → Bool) : R2 := fun x y H Q => ∃ (a b : Addr) (ns ms : List Int), x = .ref a ∧ y = .ref b ∧ SqL K H a (ns.map V.int) ∧ SqL K H b (ms.map V.int) ∧ Q (.bl (f ns ms)) H
theorem op_ltIL (hu : X.A.units + 64 < cLine) : OpR X (compareOp .Lt) (rLtIL X.K fun ns ms => lexL ns ms) := by
  intro pins s σ H x y v u Q I rx ry h
  obtain ⟨a, b, ns, ms, rfl, rfl, h1, h2, q⟩ := h
  obtain ⟨as, r1⟩ := Dp.reads I (.list (ns.map PyData.int)) _ v (.lst h1 (dpAll_int ns)) rx
  obtain ⟨bs, r2⟩ := Dp.reads I (.list (ms.map PyData.int)) _ u (.lst h2 (dpAll_int ms)) ry
  refine PySem.W.lt_data r1 r2 (alike_ints ns ms) (fun e => nomatch e) ?_ ?_
  · rw [PyData.depth, PyData.depth, deep_int, deep_int]
    omega
  · rw [dataLt_ints]
    exact ⟨.bl _, H, I, rfl, q⟩
theorem op_gtIL (hu : X.A.units + 64 < cLine) : OpR X (compareOp .Gt) (rLtIL X.K fun ns ms => lexL ms ns) := by
  intro pins s σ H x y v u Q I rx ry h
  obtain ⟨a, b, ns, ms, rfl, rfl, h1, h2, q⟩ := h
  obtain ⟨as, r1⟩ := Dp.reads I (.list (ns.map PyData.int)) _ v (.lst h1 (dpAll_int ns)) rx
  obtain ⟨bs, r2⟩ := Dp.reads I (.list (ms.map PyData.int)) _ u (.lst h2 (dpAll_int ms)) ry
  refine PySem.W.gt_data r1 r2 (alike_ints ns ms) (fun e => nomatch e) ?_ ?_
  · rw [PyData.depth, PyData.depth, deep_int, deep_int]
    omega
  · rw [dataLt_ints]
    exact ⟨.bl _, H, I, rfl, q⟩
def dLtIL (f : List Int → List Int → Bool) : R2D := fun d e Q => ∃ ns ms : List Int, d.lq = some (ns.map .int) ∧ e.lq = some (ms.map .int) ∧ Q (.bl (f ns ms))
theorem sim_ltIL {f : List Int → List Int → Bool} : SimR K (rLtIL K f) (dLtIL f) := fun A B M H d e x y Q Q' hx hy q k => by
  obtain ⟨ns, ms, e1, e2, q⟩ := q
  obtain ⟨a, vs, rfl, s, l⟩ := hx.list e1
  obtain ⟨b, us, rfl, s2, l2⟩ := hy.list e2
  rw [l.ints] at s
  rw [l2.ints] at s2
  exact ⟨a, b, ns, ms, rfl, rfl, s, s2, k _ _ (.bl _) q⟩
theorem o_ltL (hu : X.A.units + 64 < cLine) (hK : X.K = K := by rfl) : OpR X (compareOp .Lt) (rLtIL K fun ns ms => lexL ns ms) ∧ SimR K (rLtIL K fun ns ms => lexL ns ms) (dLtIL fun ns ms => lexL ns ms) := by
  subst hK
  exact ⟨op_ltIL hu, sim_ltIL⟩
theorem o_gtL (hu : X.A.units + 64 < cLine) (hK : X.K = K := by rfl) : OpR X (compareOp .Gt) (rLtIL K fun ns ms => lexL ms ns) ∧ SimR K (rLtIL K fun ns ms => lexL ms ns) (dLtIL fun ns ms => lexL ms ns) := by
  subst hK
  exact ⟨op_gtIL hu, sim_ltIL⟩
end
end DM

namespace DM
open PySem PySem.Spec PyProof.Rows L2 TK
/-- the beginning is kept in mind -/
@[reducible] def GdAt (A0 : CA) (Av0 : Addr → Prop) (H0 : Hp) : Gd := ⟨fun A Av1 H => (∀ b o, A0.h b = some o → A.h b = some o) ∧ (∀ b, A0.d b → A.d b) ∧ Fr Av0 Av1 H0 H,
  fun f h => ⟨h.1, h.2.1, h.2.2.trans f⟩, fun {A Av1 H a o} n h => ⟨fun b u e => by
    have h1 := h.1 b u e
    show upd A.h a o b = some u
    rw [upd_ne (ne_of_none h1 n)]
    exact h1, h.2.1, h.2.2⟩⟩
section
variable {K : PySem.W.Frag} {A A' : CA} {B : Nat → Option Addr} {M : Mm} {ρ : Env} {σ : L2.St} {H : Hp}
/-- with less of the callers', and another thing in mind -/
theorem ER.sub {g g2 : Gd} (r : @ER g2 K A' B M ρ σ H) (h1 : ∀ b o, A.h b = some o → A'.h b = some o) (h2 : ∀ b, A.d b → A'.d b) (q : g.F A (Av A B M) H) : @ER g K A B M ρ σ H ∧ Fr (Av A' B M) (Av A B M) H H := by
  have up : ∀ b, A.h b ≠ none → A'.h b ≠ none := fun b h => by
    cases e : A.h b with
    | none => exact absurd e h
    | some o => rw [h1 b o e]; simp
  have less : ∀ b, Av A B M b → Av A' B M b := fun b h => h.elim (fun h => .inl (up b h)) .inr
  have f : Fr (Av A' B M) (Av A B M) H H := .less less
  refine ⟨@ER.mk g _ _ _ _ _ _ _ r.len (fun i s v e1 e2 => (r.sl i s v e1 e2).fr f fun a e => ⟨e, fun _ h => h⟩) r.inj (fun a mo e => (r.ob a mo e).fr f fun _ h => h) (fun b h => r.tr b (less b h)) r.sepM (fun a h => r.sepA a (up a h)) (fun i a e => ?_) (fun b o e => r.sn b o (h1 b o e)) (fun b h => r.md b (h2 b h)) q, f⟩
  have := r.sepB i a e
  cases e2 : A.h a with
  | none => rfl
  | some o => rw [h1 a o e2] at this; cases this
theorem EndsOk.chg {g2 g : Gd} {Av0 : Addr → Prop} {H0 : Hp} {D : EndsD} {E : Ends} (k : @EndsOk g K A Av0 H0 D E) (c : ∀ Av1 H1, Fr Av0 Av1 H0 H1 → g.F A Av1 H1) : @EndsOk g2 K A Av0 H0 D E :=
  @EndsOk.mk g2 _ _ _ _ _ _ (fun ρ M B σ H r f q => k.nx ρ M B σ H (ER.sub (g := g) r (fun _ _ h => h) (fun _ h => h) (c _ _ f)).1 f q) (fun d v ρ M B σ H r f h q => k.rt d v ρ M B σ H (ER.sub (g := g) r (fun _ _ h => h) (fun _ h => h) (c _ _ f)).1 f h q)
   (fun ds a vs ρ M B σ H r f i l h q => k.rn ds a vs ρ M B σ H (ER.sub (g := g) r (fun _ _ h => h) (fun _ h => h) (c _ _ f)).1 f i l h q)
   (fun ρ M B σ H r f q => k.bk ρ M B σ H (ER.sub (g := g) r (fun _ _ h => h) (fun _ h => h) (c _ _ f)).1 f q) (fun ρ M B σ H r f q => k.ct ρ M B σ H (ER.sub (g := g) r (fun _ _ h => h) (fun _ h => h) (c _ _ f)).1 f q)
end
abbrev WD := Addr → Env → Mm → Prop
/-- an error may be let out with what is wished of it -/
def Esc [Gd] (K : PySem.W.Frag) (W : WX) (W' : WD) : Prop := ∀ (A : CA) (B : Nat → Option Addr) (M : Mm) (ρ : Env) (σ : L2.St) (H : Hp) (C : Addr), ER K A B M ρ σ H → W' C ρ M → W (.ref C) none σ H
theorem Esc.no [Gd] {K : PySem.W.Frag} : Esc K (fun _ _ _ _ => False) (fun _ _ _ => False) := fun _ _ _ _ _ _ _ _ h => h
theorem takes_no {X : Cx} : Takes X (fun _ _ _ _ => False) := fun _ _ ⟨_, _, _, _, _, _, _, _, _, _, _, _, _, _, _, _, w⟩ => w.elim
section
variable [Gd] {X : Cx} {K : PySem.W.Frag} {e : Expr} {es : List Expr} {ta : TA} {ta' : TAD} {x : Str} {ps : List Str} {sp : SpD} {p pos p2 pos2 : Pos} {k : Nat} {C : Addr} {m : Str} {W : WX} {W' : WD}
/-- f(..) of a def that may let an error out: a value -/
def dCallX (W' : WD) (sp : SpD) (ta' : TAD) : TED := fun ρ M Q => ta' ρ M fun ds ρ1 M1 => sp ds M1 (fun d M2 => Q d ρ1 M2) (fun es M2 => Q (.lst es) ρ1 M2) (fun C M2 => W' C ρ1 M2)
def dCallNX (W' : WD) (sp : SpD) (ta' : TAD) : TEN := fun ρ M Q => ta' ρ M fun ds ρ1 M1 => sp ds M1 (fun _ _ => False) (fun es M2 => Q es ρ1 M2) (fun C M2 => W' C ρ1 M2)
theorem sim_callX (hx : Esc K W W') (hm : SpMono sp) (h : SimA K ta ta') : SimE K (tCallS (ofD K sp) (WE W) ta) (dCallX W' sp ta') := fun A B M ρ σ H Q Q' R q kk => h A B M ρ σ H _ _ R q fun ds ρ1 M1 B1 vs H1 R1 f1 m1 h1 q1 => by
  refine ⟨AB A B1 M1 H1, M1, ds, R1.rok, R1.args h1, hm.mono _ _ _ _ _ _ _ _ q1 (fun d M2 q2 => ?_) (fun es M2 q2 => ?_) (fun C M2 q2 => ?_)⟩
  · intro v H2 o m hd
    obtain ⟨R2, f2⟩ := R1.back o m
    rw [R1.av_ab] at hd
    exact kk d ρ1 M2 B1 v H2 R2 (f1.trans f2) (m1.trans m) hd q2
  · intro a us H2 hn o m hd
    obtain ⟨B2, R2, f2, hb, hl, h2⟩ := R1.backN hn o m hd
    obtain ⟨R3, f3⟩ := R2.drop (i := σ.length) (by rw [R2.len]; exact Nat.le_refl _)
    refine kk (.lst es) ρ1 M2 _ (.ref a) H2 R3 ((f1.trans f2).trans f3) (m1.trans m) (.lst ?_ hl (h2.fr f3)) q2
    rintro (h | ⟨j, h⟩ | h)
    · exact h (R2.sepB _ _ hb)
    · have hj : j ≠ σ.length := fun z => by subst z; rw [put_same] at h; cases h
      rw [put_ne hj] at h
      exact hj (R2.inj _ _ _ h hb)
    · exact h (R2.sepM _ _ hb)
  · intro H2 o m
    obtain ⟨R2, f2⟩ := R1.back o m
    exact hx _ _ _ _ _ _ _ R2 q2
theorem sim_callNX (hx : Esc K W W') (hm : SpMono sp) (h : SimA K ta ta') : SimN K (tCallS (ofD K sp) (WE W) ta) (dCallNX W' sp ta') := fun A B M ρ σ H Q Q' R q kk => h A B M ρ σ H _ _ R q fun ds ρ1 M1 B1 vs H1 R1 f1 m1 h1 q1 => by
  refine ⟨AB A B1 M1 H1, M1, ds, R1.rok, R1.args h1, hm.mono _ _ _ _ _ _ _ _ q1 (fun _ _ z => z.elim) (fun es M2 q2 => ?_) (fun C M2 q2 => ?_)⟩
  · intro a us H2 hn o m hd
    obtain ⟨B2, R2, f2, hb, hl, h2⟩ := R1.backN hn o m hd
    exact kk es ρ1 M2 B2 a us H2 R2 (f1.trans f2) (m1.trans m) hb hl h2 q2
  · intro H2 o m
    obtain ⟨R2, f2⟩ := R1.back o m
    exact hx _ _ _ _ _ _ _ R2 q2
theorem de_calX {j : Nat} (C : CalX X.prog X.w X.K X.mg X.base x ps j (ofD K sp)) (hm : SpMono sp) (hr : Room k X.A) (hg : Gl X x) (tk : Takes X W) (hx : Esc K W W') (ha : DA X K (e :: es) ta ta') (hj : j ≤ k := by decide) (hdb : (x == ("__debug__" : Str)) = false := by decide)
    (he : starEach (e :: es) X.env = (false, eval e X.env) :: starEach es X.env := by rfl) (hpl : (backTo pos (starEach es X.env)).any (·.1) = false := by rfl) : DE X K (.Call (.Name x p) (e :: es) [] pos) (tCallS (ofD K sp) (WE W) ta) (dCallX W' sp ta') :=
  ⟨pe_calT C hr hg tk ha.pa hj hdb he hpl, sim_callX hx hm ha.sim⟩
theorem dn_calX {j : Nat} (C : CalX X.prog X.w X.K X.mg X.base x ps j (ofD K sp)) (hm : SpMono sp) (hr : Room k X.A) (hg : Gl X x) (tk : Takes X W) (hx : Esc K W W') (ha : DA X K (e :: es) ta ta') (hj : j ≤ k := by decide) (hdb : (x == ("__debug__" : Str)) = false := by decide)
    (he : starEach (e :: es) X.env = (false, eval e X.env) :: starEach es X.env := by rfl) (hpl : (backTo pos (starEach es X.env)).any (·.1) = false := by rfl) : DN X K (.Call (.Name x p) (e :: es) [] pos) (tCallS (ofD K sp) (WE W) ta) (dCallNX W' sp ta') :=
  ⟨pe_calT C hr hg tk ha.pa hj hdb he hpl, sim_callNX hx hm ha.sim⟩
/-- raise x('..') -/
def dRaise (W' : WD) (C : Addr) : TSD := fun _ ρ M => W' C ρ M
theorem ds_raise (T : ErrAt X.K X.mg x C) (tk : Takes X W) (hx : Esc K W W') (hg : Gl X x) {j : Nat} (hc : X.calm = true := by rfl) (hdb : (x == ("__debug__" : Str)) = false := by decide) :
    DS X K (.Raise (some (.Call (.Name x p) [.Constant (.str m) j p2] [] pos)) none pos2) (fun _ σ H => W (.ref C) none σ H) (dRaise W' C) :=
  ⟨ps_raiseE T hc tk hg hdb, fun A B M ρ σ H E D r q _ => hx _ _ _ _ _ _ _ r q⟩
end
/-! try -/
inductive HSim [Gd] (K : PySem.W.Frag) : List (Value × (Addr → Value → Option Addr → TS)) → List (Value × TSD) → Prop
  | nil : HSim K [] []
  | cons {c : Value} {ts : Addr → Value → Option Addr → TS} {th' : TSD} {l : List (Value × (Addr → Value → Option Addr → TS))} {l' : List (Value × TSD)} (h : ∀ a cls d, SimS K (ts a cls d) th') (r : HSim K l l') : HSim K ((c, ts) :: l) ((c, th') :: l')
structure DHds [Gd] (X : Cx) (K : PySem.W.Frag) (hds : List ExceptHandler) (l : List (Value × (Addr → Value → Option Addr → TS))) (l' : List (Value × TSD)) : Prop where
  ok : HdsOk X hds l
  sim : HSim K l l'
def dHds (K : PySem.W.Frag) (W' : WD) (D : EndsD) : List (Value × TSD) → WD
  | [] => W'
  | (c, th') :: r => fun C ρ M => ∃ b, PySem.W.exmOne K (.ref C) c = some b ∧ if b = true then th' D ρ M else dHds K W' D r C ρ M
def dTry (K : PySem.W.Frag) (tb' : WD → TSD) (W' : WD) (l' : List (Value × TSD)) (u' : TSD) : TSD := fun D ρ M => tb' (dHds K W' D l') { D with nx := u' D } ρ M
section
variable [g : Gd] {X : Cx} {K : PySem.W.Frag} {W : WX} {W' : WD}
theorem dhds_nil : DHds X K [] [] [] := ⟨.nil, .nil⟩
theorem dhds_cons {x : Str} {c : Value} {th : TS} {th' : TSD} {b₀ : Stmt} {suite : List Stmt} {np pos' : Pos} {hds : List ExceptHandler} {l : List (Value × (Addr → Value → Option Addr → TS))} {l' : List (Value × TSD)} (hc : Names X x c)
    (hsu : ∀ (a : Addr) (pn : List (Addr × Obj)), DSs (X.suite a pn) K (b₀ :: suite) th th') (r : DHds X K hds l l') : DHds X K (.ExceptHandler (some (.Name x np)) none (b₀ :: suite) pos' :: hds) ((c, fun _ _ _ => th) :: l) ((c, th') :: l') :=
  ⟨.cons hc (fun a _ _ _ _ _ _ => (hsu a _).ps) r.ok, .cons (fun _ _ _ => (hsu 0 []).sim) r.sim⟩
theorem hds_run (hx : Esc K W W') {A : CA} {B M ρ σ H E D} {C : Addr} (r : ER K A B M ρ σ H) (k : EndsOk K A (Av A B M) H D E) : ∀ {l l'}, HSim K l l' → dHds K W' D l' C ρ M → wMany K W E l (.ref C) none σ H
  | _, _, .nil, q => hx _ _ _ _ _ _ _ r q
  | _, _, .cons h t, q => by
    obtain ⟨b, e, q⟩ := q
    refine ⟨b, e, fun hb a _ => ?_, fun hb => ?_⟩
    · rw [if_pos hb] at q
      exact h a _ _ A B M ρ σ H E D r q k
    · rw [if_neg (by rw [hb]; decide)] at q
      exact hds_run hx r k t q
theorem sim_try {tb : WX → TS} {tb' : WD → TSD} {l : List (Value × (Addr → Value → Option Addr → TS))} {l' : List (Value × TSD)} {u : TS} {u' : TSD} (hx : Esc K W W') (hb : ∀ (g2 : Gd) (W2 : WX) (W2' : WD), @Esc g2 K W2 W2' → @SimS g2 K (tb W2) (tb' W2')) (hh : HSim K l l') (hu : SimS K u u') :
    SimS K (fun D σ H => tb (wMany K W D l) { D with nx := u D } σ H) (dTry K tb' W' l' u') := fun A B M ρ σ H E D r q k => by
  have c : ∀ Av1 H1, Fr (Av A B M) Av1 H H1 → g.F A Av1 H1 := fun _ _ f => g.cl f r.gd
  obtain ⟨r2, _⟩ := ER.sub (g := GdAt A (Av A B M) H) r (fun _ _ h => h) (fun _ h => h) ⟨fun _ _ h => h, fun _ h => h, .refl⟩
  refine hb (GdAt A (Av A B M) H) (wMany K W E l) (dHds K W' D l') (fun A1 B1 M1 ρ1 σ1 H1 C r1 q1 => ?_) A B M ρ σ H _ _ r2 q ?_
  · obtain ⟨h1, h2, f⟩ := @ER.gd (GdAt A (Av A B M) H) _ _ _ _ _ _ _ r1
    have f2 : Fr (Av A B M) (Av A B1 M1) H H1 := f.trans (.less fun b h => h.elim (fun h => .inl (by
      cases e : A.h b with
      | none => exact absurd e h
      | some o => rw [h1 b o e]; simp)) .inr)
    obtain ⟨r3, _⟩ := ER.sub (g := g) r1 h1 h2 (c _ _ f2)
    exact hds_run hx r3 (k.from f2) hh q1
  · have k1 : EndsOk K A (Av A B M) H { D with nx := u' D } { E with nx := u E } :=
      ⟨fun ρ1 M1 B1 σ1 H1 r1 f q => hu A B1 M1 ρ1 σ1 H1 E D r1 q (k.from f), k.rt, k.rn, k.bk, k.ct⟩
    exact k1.chg c
theorem ds_try {body : List Stmt} {h₀ : ExceptHandler} {hds : List ExceptHandler} {orelse : List Stmt} {pos : Pos} {tb : WX → TS} {tb' : WD → TSD} {l : List (Value × (Addr → Value → Option Addr → TS))} {l' : List (Value × TSD)} {u : TS} {u' : TSD} (ho : DSs X K orelse u u')
    (tk : Takes X W) (hx : Esc K W W') (hb : ∀ (g2 : Gd) (W2 : WX) (W2' : WD) (pn : List (Addr × Obj)) (xe : Value → Shared → Prop), Takes (X.tr pn xe) W2 → @Esc g2 K W2 W2' → @DSs g2 (X.tr pn xe) K body (tb W2) (tb' W2'))
    (hh : DHds X K (h₀ :: hds) l l') (hs : X.stack = X.env :: X.outer := by rfl) (hf : X.env.frame = some X.env.locals := by rfl) (hK : X.K = K := by rfl) : DS X K (.Try body (h₀ :: hds) orelse [] pos) (fun D σ H => tb (wMany X.K W D l) { D with nx := u D } σ H) (dTry K tb' W' l' u') := by
  subst hK
  exact ⟨ps_try_manyE ho.ps hs hf tk (fun W2 pn xe t _ => @DSs.ps Gd.triv _ _ _ _ _ (hb Gd.triv W2 (fun _ _ _ => False) pn xe t (fun _ _ _ _ _ _ _ _ z => z.elim))) hh.ok, sim_try hx (fun g2 W2 W2' e => @DSs.sim g2 _ _ _ _ _ (hb g2 W2 W2' [] (fun _ _ => True) (fun _ _ _ => trivial) e)) hh.sim ho.sim⟩
end
/-! a def that may let errors out -/
section
variable {P : Program} {w : World} {K : PySem.W.Frag} {mg : Str → Option Value} {base : Heap} {x : Str} {st : Stmt} {N ps : List Str} {k : Nat} {sp : SpD}
theorem defDX (D : DefAt K mg x st ps) (S : FnScope N ps (defScope st)) (len : ∀ ds M Q N' E, sp ds M Q N' E → ds.length = ps.length)
    (hbody : ∀ (g : Gd) (f : Addr) (cdv : Value) (Ar : Around) (outer : List PySem.Env) (s : Shared) (H : Hp) (E : XK) (ds : List DM.D) (M : Mm) (Q : DM.D → Mm → Prop) (N' : List DM.D → Mm → Prop) (E' : Addr → Mm → Prop), Room k (Ar.deeper (envOfC x (defScope st) s.heap.objs.size f cdv)) → Esc K (fun cls d _ H => E cls d H) (fun C _ M => E' C M) → sp ds M Q N' E' →
      ∃ t t', DSs (cxOf (L2.CX P w) P w K mg base N x (defScope st) f cdv Ar outer s H E) K (defBody st) t t' ∧ t' ⟨(fun _ M' => Q .non M'), Q, N', (fun _ _ => False), (fun _ _ => False)⟩ (startD N ds) M) : CalX P w K mg base x ps (k + 1) (ofD K sp) :=
  D.calX S (fun vs H Q E ⟨A, M, ds, o, hd, q⟩ => by rw [← hd.length]; exact len _ _ _ _ _ q) fun f cdv Ar outer s H vs Q E hr ⟨A, M, ds, o, hd, q⟩ => by
    have o' : ROk K ⟨A.h, fun b => M b ≠ none⟩ M H := ⟨o.ob, o.tr, o.sep, o.sn, fun b h => h⟩
    obtain ⟨t, t', h, q'⟩ := hbody (GdAt ⟨A.h, fun b => M b ≠ none⟩ (Avc A M) H) f cdv Ar outer s H E ds M _ _ _ hr (fun A1 B1 M1 ρ1 σ1 H1 C r1 q1 => by
      obtain ⟨h1, h2, fr⟩ := @ER.gd (GdAt ⟨A.h, fun b => M b ≠ none⟩ (Avc A M) H) _ _ _ _ _ _ _ r1
      obtain ⟨r1, _⟩ := ER.sub (g := Gd.triv) r1 (fun _ _ h => h) (fun _ h => h) trivial
      have less : ∀ b, Avc A M1 b → Av A1 B1 M1 b := fun b h => by
        rcases h with h | ⟨i, h⟩ | h
        · refine .inl ?_
          cases e : A.h b with
          | none => exact absurd e h
          | some o => rw [h1 b o e]; simp
        · cases h
        · exact .inr (.inr h)
      refine q1 H1 ⟨fun a mo e => (r1.ob a mo e).fr (.less less) fun _ h => h, fun b h => r1.tr b (.inr (.inr h)), fun a h => r1.sepA a (by
          cases e : A.h a with
          | none => exact absurd e h
          | some o => rw [h1 a o e]; simp), fun b u e => r1.sn b u (h1 b u e), fun b h => r1.md b (h2 b (o.md b h))⟩ fun b u n e => ?_
      cases qq : A.h b with
      | some w =>
        have e1 := o.sn b w qq
        rw [e] at e1
        cases e1
        exact ⟨r1.sn b _ (h1 b _ qq), r1.sepA b (by rw [h1 b _ qq]; simp)⟩
      | none =>
        obtain ⟨e1, e2⟩ := fr b u (by rintro (h | ⟨i, h⟩ | h); exact h qq; cases h; exact h n) e
        exact ⟨e1, none_of_not_av e2⟩) q
    refine ⟨t, @DSs.ps (GdAt ⟨A.h, fun b => M b ≠ none⟩ (Avc A M) H) _ _ _ _ _ h, ?_⟩
    exact body_runG (@DSs.sim (GdAt ⟨A.h, fun b => M b ≠ none⟩ (Avc A M) H) _ _ _ _ _ h) o hd ⟨fun _ _ h => h, fun _ h => h, .refl⟩ q'
end
end DM

namespace DM
open PySem PySem.Spec PyProof.Rows L2 TK
theorem lexL_trans : ∀ (a b c : List Int), lexL a b = false → lexL b c = false → lexL a c = false
  | [], [], c, _, h => h
  | [], _ :: _, _, h, _ => by cases h
  | _ :: _, _, [], _, _ => rfl
  | _ :: _, [], _ :: _, _, h => by cases h
  | x :: xs, y :: ys, z :: zs, h, h2 => by
    have h : (if x = y then lexL xs ys else decide (x < y)) = false := h
    have h2 : (if y = z then lexL ys zs else decide (y < z)) = false := h2
    show (if x = z then lexL xs zs else decide (x < z)) = false
    by_cases e1 : x = y
    · rw [if_pos e1] at h
      by_cases e2 : y = z
      · rw [if_pos e2] at h2
        rw [if_pos (e1.trans e2)]
        exact lexL_trans xs ys zs h h2
      · rw [if_neg e2] at h2
        rw [if_neg (by omega), e1]
        exact h2
    · rw [if_neg e1] at h
      have h := of_decide_eq_false h
      by_cases e2 : y = z
      · rw [if_neg (by omega)]
        exact decide_eq_false (by omega)
      · rw [if_neg e2] at h2
        have h2 := of_decide_eq_false h2
        rw [if_neg (by omega)]
        exact decide_eq_false (by omega)
theorem lexL_asym : ∀ (a b : List Int), lexL a b = true → lexL b a = false
  | [], _ :: _, _ => rfl
  | [], [], h => by cases h
  | _ :: _, [], h => by cases h
  | x :: xs, y :: ys, h => by
    have h : (if x = y then lexL xs ys else decide (x < y)) = true := h
    show (if y = x then lexL ys xs else decide (y < x)) = false
    by_cases e1 : x = y
    · subst e1
      rw [if_pos rfl] at h ⊢
      exact lexL_asym xs ys h
    · rw [if_neg e1] at h
      rw [if_neg (fun z => e1 z.symm)]
      have h := of_decide_eq_true h
      exact decide_eq_false (by omega)
theorem lexL_irr (a : List Int) : lexL a a = false := by
  cases h : lexL a a with
  | false => rfl
  | true => rw [lexL_asym a a h] at h; cases h
/-! min of a list of pairs -/
abbrev prL (w : Int × Int) : List Int := [w.1, w.2]
def ppD (w : Int × Int) : PyData := .tuple ((prL w).map .int)
theorem dataLt_pair (a b : Int × Int) : PySem.W.dataLt (ppD a) (ppD b) = lexL (prL a) (prL b) := by
  rw [← lexL_eq]
  exact (PySem.W.dataLt_tuple _ _).trans (PySem.W.lexAll_map (prL a) (prL b))
theorem alike_pair (a b : Int × Int) : PySem.W.alike (ppD a) (ppD b) = true := by
  unfold ppD
  simp only [PySem.W.alike]
  exact PySem.W.alikeAll_map (prL a) (prL b)
def minP (w : Int × Int) (ws : List (Int × Int)) : Int × Int := ws.foldl (fun a y => if lexL (prL y) (prL a) then y else a) w
theorem minD_pairs : ∀ (ws : List (Int × Int)) (w : Int × Int), PySem.W.minD (ppD w) (ws.map ppD) = ppD (minP w ws)
  | [], _ => rfl
  | y :: ws, w => by
    show PySem.W.minD (if PySem.W.dataLt (ppD y) (ppD w) then ppD y else ppD w) (ws.map ppD) = ppD (minP (if lexL (prL y) (prL w) then y else w) ws)
    rw [dataLt_pair]
    cases lexL (prL y) (prL w) with
    | true => exact minD_pairs ws y
    | false => exact minD_pairs ws w
theorem minP_low : ∀ (ws : List (Int × Int)) (w : Int × Int), ∀ y ∈ w :: ws, lexL (prL y) (prL (minP w ws)) = false
  | [], w, y, hy => by
    rcases List.mem_singleton.mp hy with rfl
    exact lexL_irr _
  | z :: ws, w, y, hy => by
    show lexL (prL y) (prL (minP (if lexL (prL z) (prL w) then z else w) ws)) = false
    have ih := minP_low ws (if lexL (prL z) (prL w) then z else w)
    have h0 := ih _ List.mem_cons_self
    cases h : lexL (prL z) (prL w) with
    | true =>
      rw [h] at ih h0
      rcases List.mem_cons.mp hy with rfl | hy
      · exact lexL_trans _ _ _ (lexL_asym _ _ h) h0
      · rcases List.mem_cons.mp hy with rfl | hy
        · exact h0
        · exact ih _ (List.mem_cons_of_mem _ hy)
    | false =>
      rw [h] at ih h0
      rcases List.mem_cons.mp hy with rfl | hy
      · exact h0
      · rcases List.mem_cons.mp hy with rfl | hy
        · exact lexL_trans _ _ _ h h0
        · exact ih _ (List.mem_cons_of_mem _ hy)
theorem ppD_inj {a b : Int × Int} (h : ppD a = ppD b) : a = b := by
  unfold ppD prL at h
  injection h with h
  injection h with h1 h
  injection h with h2 _
  injection h1 with h1
  injection h2 with h2
  cases a
  cases b
  cases h1
  cases h2
  rfl
theorem deep_pairs (ws : List (Int × Int)) : PyData.depthAll (ws.map ppD) ≤ 5 := by
  induction ws with
  | nil => simp [PyData.depthAll]
  | cons w ws ih =>
    rw [List.map_cons, PyData.depthAll]
    unfold ppD prL
    simp only [List.map_cons, List.map_nil, PyData.depth, PyData.depthAll]
    unfold ppD prL at ih
    simp only [List.map_cons, List.map_nil] at ih
    omega
theorem lay_pairs (ws : List (Int × Int)) : PyData.canLayAll0 (ws.map ppD) = true := by
  induction ws with
  | nil => simp [PyData.canLayAll0]
  | cons w ws ih =>
    rw [List.map_cons, PyData.canLayAll0, ih]
    unfold ppD prL
    simp [PyData.canLay0, PyData.canLayAll0]
section
variable {X : Cx} {K : PySem.W.Frag}
def rMinP (K : PySem.W.Frag) : List V → Hp → VK → Prop := fun vs H Q => ∃ (a : Addr) (us : List V) (ws : List (Int × Int)), vs = [V.ref a] ∧ ws ≠ [] ∧ SqL K H a us ∧ DpAll K H us (ws.map ppD) ∧
  ∀ (i : Nat) (u : V) (w : Int × Int), us[i]? = some u → ws[i]? = some w → (∀ y ∈ ws, lexL (prL y) (prL w) = false) → Q u H
theorem cr_minP (hc : X.calm = true) (hu : X.A.units + 64 < cLine) : CallR X (.builtin "min") (rMinP X.K) := by
  intro pins s σ H vs us Q I r h
  obtain ⟨a, xs, ws, rfl, hne, hs, hd, q⟩ := h
  obtain rfl := Vals.ref1 r
  obtain ⟨its, rv, hl, _⟩ := I.list hs
  obtain ⟨as, ra⟩ := Dp.readsAll I (ws.map ppD) _ _ hd rv
  have hmap := SeqAt.readsAll_map (ws.map ppD) its as (lay_pairs ws) ra
  cases ws with
  | nil => exact absurd rfl hne
  | cons w ws =>
    refine PySem.W.min_list_data (x := ppD w) (xs := ws.map ppD) (as := as) (I.ok.hd hc) hl.isList (by first | exact ra | (rw [List.toList_toArray]; exact ra)) ⟨?_, ?_⟩ ?_ (fun i v h' tk bs hi rd hk => ?_)
    · intro x hx y hy
      obtain ⟨p, _, rfl⟩ := List.mem_map.mp (show x ∈ (w :: ws).map ppD from hx)
      obtain ⟨p2, _, rfl⟩ := List.mem_map.mp (show y ∈ (w :: ws).map ppD from hy)
      exact alike_pair _ _
    · intro x hx
      obtain ⟨p, _, rfl⟩ := List.mem_map.mp (show x ∈ (w :: ws).map ppD from hx)
      intro h
      cases h
    · have := deep_pairs (w :: ws)
      rw [List.map_cons] at this
      omega
    · rw [minD_pairs] at rd
      have hi : its[i]? = some v := by simpa using hi
      have hil := (List.getElem?_eq_some_iff.mp hi).1
      have e1 : ((w :: ws).map ppD)[i]? = some (SeqAt.readOf s.heap v) := by rw [← hmap, List.getElem?_map, hi]; rfl
      obtain ⟨p, hp, ep⟩ : ∃ p, (w :: ws)[i]? = some p ∧ ppD p = SeqAt.readOf s.heap v := by
        rw [List.getElem?_map] at e1
        cases e : (w :: ws)[i]? with
        | none => rw [e] at e1; cases e1
        | some p => rw [e] at e1; exact ⟨p, rfl, Option.some.inj e1⟩
      obtain ⟨x, hx⟩ : ∃ x, xs[i]? = some x := ⟨_, List.getElem?_eq_getElem (by rw [rv.length]; exact hil)⟩
      obtain ⟨v2, hv2, rx⟩ := rv.get hx
      rw [hi] at hv2
      cases hv2
      obtain ⟨cs, rp, _⟩ := PySem.W.readsAll_at ra i v hi
      have eg : ((w :: ws).map ppD).getD i .none = ppD p := by rw [List.getD_eq_getElem?_getD, List.getElem?_map, hp]; rfl
      rw [eg] at rp
      have lay : ∀ q : Int × Int, (ppD q).canLay0 = true := fun q => by
        have := lay_pairs [q]
        rw [List.map_cons, PyData.canLayAll0, Bool.and_eq_true] at this
        exact this.1
      have e2 := SeqAt.readOf_eq (lay _) rd
      rw [SeqAt.readOf_eq (lay _) (PySem.W.reads_keeps hk rp)] at e2
      have e3 := ppD_inj e2
      refine ⟨x, H, I.kept hk, rx, q i x p hx hp ?_⟩
      rw [e3]
      exact minP_low ws w
theorem HdL.pairs {A : CA} {B : Nat → Option Addr} {M : Mm} {H : Hp} : ∀ {ws : List (Int × Int)} {vs : List V}, HdL K (Av A B M) H (ws.map ipD) vs → DpAll K H vs (ws.map ppD)
  | [], _, .nil => .nil
  | w :: ws, _, .cons r t => .cons (dp_of 5 (ipD w) (by unfold ipD okN okL okN okL okN okL; exact ⟨trivial, trivial, trivial⟩) r) (HdL.pairs t)
def dMinP : R1D := fun d Q => ∃ ws : List (Int × Int), d.lq = some (ws.map ipD) ∧ ws ≠ [] ∧ ∀ m, m ∈ ws → (∀ y ∈ ws, lexL (prL y) (prL m) = false) → Q (ipD m)
theorem o_minP [Gd] (hc : X.calm = true) (hu : X.A.units + 64 < cLine) (hK : X.K = K := by rfl) : CallR X (.builtin "min") (rMinP K) ∧ SimC K (rMinP K) dMinP := by
  subst hK
  refine ⟨cr_minP hc hu, fun A B M H d x Q Q' hx q k => ?_⟩
  obtain ⟨ws, e, hne, q⟩ := q
  obtain ⟨a, vs, rfl, s, l⟩ := hx.list e
  refine ⟨a, vs, ws, rfl, hne, s, l.pairs, fun i u w hu hw hl => ?_⟩
  obtain ⟨v, hv, hd⟩ := l.get (show (ws.map ipD)[i]? = some (ipD w) by rw [List.getElem?_map, hw]; rfl)
  rw [hu] at hv
  cases hv
  exact k _ _ hd (q w (List.mem_of_getElem? hw) hl)
end
end DM

namespace DM
open PySem PySem.Spec PyProof.Rows L2 TK
variable [Gd]
section
variable {X : Cx} {K : PySem.W.Frag} {x : Str}
/-- a, b, c = e, [..], f: the middle one is our own -/
def dParM (i j l : Nat) (ta' : TED) (tn' : TEN) (tc' : TED) : TSD := fun D ρ M => ta' ρ M fun d ρ1 M1 => tn' ρ1 M1 fun ds ρ2 M2 => tc' ρ2 M2 fun e ρ3 M3 => D.nx (((ρ3.set i (.val d)).set j (.own ds)).set l (.val e)) M3
theorem ds_parM (i j l : Nat) {y z : Str} {a b c : Expr} {ta tn tc : TE} {ta' tc' : TED} {tn' : TEN} {px py pz pt : Pos} {kt k2 pt2} {pos : Pos} (hN : X.N.Nodup) (ha : DE X K a ta ta') (hb : DN X K b tn tn') (hd : DE X K c tc tc') (hc : X.calm = true := by rfl) (hi : X.N[i]? = some x := by rfl) (hj : X.N[j]? = some y := by rfl) (hl : X.N[l]? = some z := by rfl)
    (hx : Loc X.env.scope x := by first | exact .inl rfl | exact .inr rfl) (hy : Loc X.env.scope y := by first | exact .inl rfl | exact .inr rfl) (hz : Loc X.env.scope z := by first | exact .inl rfl | exact .inr rfl)
    (fx : X.fn x = true ∨ X.env.scope.names.lookup x = some .local := by first | exact .inl rfl | exact .inr rfl | assumption) (fy : X.fn y = true ∨ X.env.scope.names.lookup y = some .local := by first | exact .inl rfl | exact .inr rfl | assumption) (fz : X.fn z = true ∨ X.env.scope.names.lookup z = some .local := by first | exact .inl rfl | exact .inr rfl | assumption)
    (hs1 : starEach [a, b, c] X.env = (false, eval a X.env) :: starEach [b, c] X.env := by rfl) (hs2 : starEach [b, c] X.env = (false, eval b X.env) :: starEach [c] X.env := by rfl) (hs3 : starEach [c] X.env = (false, eval c X.env) :: starEach [] X.env := by rfl)
    (hsw : swapsWithSole [.Tuple [.Name x px, .Name y py, .Name z pz] kt pt] (.Tuple [a, b, c] k2 pt2) pos.line X.env = pure false := by rfl) (hw : swappedStores [.Tuple [.Name x px, .Name y py, .Name z pz] kt pt] (.Tuple [a, b, c] k2 pt2) X.env = pure none := by rfl)
    (h1 : (assignEach [.Tuple [.Name x px, .Name y py, .Name z pz] kt pt] X.env).map (·.2) = [assign (.Tuple [.Name x px, .Name y py, .Name z pz] kt pt) X.env] := by rfl)
    (ha1 : (assignEach [.Name x px, .Name y py, .Name z pz] X.env).map (·.2) = assign (.Name x px) X.env :: (assignEach [.Name y py, .Name z pz] X.env).map (·.2) := by rfl) (ha2 : (assignEach [.Name y py, .Name z pz] X.env).map (·.2) = assign (.Name y py) X.env :: (assignEach [.Name z pz] X.env).map (·.2) := by rfl) (ha3 : (assignEach [.Name z pz] X.env).map (·.2) = assign (.Name z pz) X.env :: (assignEach [] X.env).map (·.2) := by rfl)
    (hn : (assignEach [.Name x px, .Name y py, .Name z pz] X.env).length = 3 := by rfl) (hst : (assignEach [.Name x px, .Name y py, .Name z pz] X.env).findIdx? (·.1) = none := by rfl) (hK : X.K = K := by rfl) :
    DS X K (.Assign [.Tuple [.Name x px, .Name y py, .Name z pz] kt pt] (.Tuple [a, b, c] k2 pt2) pos) (tAsg (tTup (tCons ta (tCons tn (tCons tc tNil)))) (gTup K 3 (gCons (gName i) (gCons (gName j) (gCons (gName l) gNil))))) (dParM i j l ta' tn' tc') := by
  subst hK
  refine ⟨ps_asg (pe_tup (pa_cons ha.pe (pa_cons hb.pe (pa_cons hd.pe pa_nil hs3) hs2) hs1)) (pg_tup hc (pgs_cons (pg_name hN hi hx fx) (pgs_cons (pg_name hN hj hy fy) (pgs_cons (pg_name hN hl hz fz) pgs_nil ha3) ha2) ha1) hn hst) hsw hw h1, fun A B M ρ σ H E D r q k => ha.sim A B M ρ σ H _ _ r q fun d ρ1 M1 B1 v H1 r1 f1 m1 hd1 q1 => ?_⟩
  refine hb.sim A B1 M1 ρ1 σ H1 _ _ r1 q1 fun ds ρ2 M2 B2 a1 vs H2 r2 f2 m2 hb2 hl2 hds q2 => ?_
  obtain ⟨r3, f3⟩ := r2.stash hb2 hl2
  refine hd.sim _ _ M2 ρ2 σ H2 _ _ r3 q2 fun e ρ3 M3 B3 w H3 r4 f4 m4 he q3 => ?_
  refine ⟨Nat.le_of_ble_eq_true rfl, fun p hp => ?_⟩
  obtain ⟨r5, f5⟩ := r4.drop (i := σ.length) (by rw [r4.len]; exact Nat.le_refl _)
  obtain ⟨r6, f6, _, _, _⟩ := r5.new (o := .tup [v, .ref a1, w]) hp
  have hl3 : upd H3 p (.tup [v, .ref a1, w]) a1 = some (.lst vs) := r6.sn a1 _ upd_same
  have aD : A.h a1 = none := r2.sepB _ _ hb2
  have f36 := ((f3.trans f4).trans f5).trans f6
  obtain ⟨r7, f7⟩ := r6.unhide aD put_same (fun b o e => r6.sn b o (by
    show upd A.h a1 (.lst vs) b = _
    rw [upd_ne fun z => by subst z; rw [aD] at e; cases e]
    exact e)) (Gd.cl f36 r2.gd)
  have f27 := f36.trans f7
  have r8 := r7.set (i := i) ((hd1.fr f2).fr f27)
  obtain ⟨B9, r9, f9⟩ := r8.setOwn (i := j) (by rw [List.length_set]; exact put_same) hl3 (hds.fr f27)
  have he9 := (((he.fr f5).fr f6).fr f7).fr f9
  exact ⟨p, _, rfl, SqT.of upd_same, rfl, _, _, rfl, _, _, rfl, _, _, rfl, rfl, k.nx _ M3 B9 _ _ (r9.set he9) (((f1.trans f2).trans f27).trans f9) q3⟩
/-- a, b = e, [..]: the second one is our own -/
def dParS (i j : Nat) (ta' : TED) (tn' : TEN) : TSD := fun D ρ M => ta' ρ M fun d ρ1 M1 => tn' ρ1 M1 fun ds ρ2 M2 => D.nx ((ρ2.set i (.val d)).set j (.own ds)) M2
theorem ds_parS (i j : Nat) {y : Str} {a b : Expr} {ta tn : TE} {ta' : TED} {tn' : TEN} {px py pt : Pos} {kt k2 pt2} {pos : Pos} (hN : X.N.Nodup) (ha : DE X K a ta ta') (hb : DN X K b tn tn') (hc : X.calm = true := by rfl) (hi : X.N[i]? = some x := by rfl) (hj : X.N[j]? = some y := by rfl) (hij : i ≠ j := by decide)
    (hx : X.env.scope.names.lookup x = some .local := by rfl) (hy : X.env.scope.names.lookup y = some .local := by rfl)
    (hs1 : starEach [a, b] X.env = (false, eval a X.env) :: starEach [b] X.env := by rfl) (hs2 : starEach [b] X.env = (false, eval b X.env) :: starEach [] X.env := by rfl)
    (hw : swappedStores [.Tuple [.Name x px, .Name y py] kt pt] (.Tuple [a, b] k2 pt2) X.env = pure (some [x, y]) := by rfl)
    (hs : swapsWithSole [.Tuple [.Name x px, .Name y py] kt pt] (.Tuple [a, b] k2 pt2) pos.line X.env = pure false := by rfl) :
    DS X K (.Assign [.Tuple [.Name x px, .Name y py] kt pt] (.Tuple [a, b] k2 pt2) pos) (tPar i j (tCons ta (tCons tn tNil))) (dParS i j ta' tn') := by
  refine ⟨ps_par hc hN hi hj hij hx hy (pa_cons ha.pe (pa_cons hb.pe pa_nil hs2) hs1) hw hs, fun A B M ρ σ H E D r q k => ha.sim A B M ρ σ H _ _ r q fun d ρ1 M1 B1 v H1 r1 f1 m1 hd1 q1 => ?_⟩
  refine hb.sim A B1 M1 ρ1 σ H1 _ _ r1 q1 fun ds ρ2 M2 B2 a1 vs H2 r2 f2 m2 hb2 hl2 hds q2 => ?_
  have r8 := r2.set (i := i) (hd1.fr f2)
  obtain ⟨B9, r9, f9⟩ := r8.setOwn (i := j) (by rw [List.length_set]; exact hb2) hl2 hds
  exact ⟨_, _, rfl, k.nx _ M2 B9 _ _ r9 ((f1.trans f2).trans f9) q2⟩
theorem ds_parM3 (i j l : Nat) {y z : Str} {a b c : Expr} {ta tn tc : TE} {ta' tc' : TED} {tn' : TEN} {px py pz pt : Pos} {kt k2 pt2} {pos : Pos} (hN : X.N.Nodup) (ha : DE X K a ta ta') (hb : DN X K b tn tn') (hd : DE X K c tc tc') (hc : X.calm = true := by rfl) (hi : X.N[i]? = some x := by rfl) (hj : X.N[j]? = some y := by rfl) (hl : X.N[l]? = some z := by rfl) (hij : i ≠ j := by decide) (hil : i ≠ l := by decide) (hjl : j ≠ l := by decide)
    (hx : X.env.scope.names.lookup x = some .local := by rfl) (hy : X.env.scope.names.lookup y = some .local := by rfl) (hz : X.env.scope.names.lookup z = some .local := by rfl)
    (hs1 : starEach [a, b, c] X.env = (false, eval a X.env) :: starEach [b, c] X.env := by rfl) (hs2 : starEach [b, c] X.env = (false, eval b X.env) :: starEach [c] X.env := by rfl) (hs3 : starEach [c] X.env = (false, eval c X.env) :: starEach [] X.env := by rfl)
    (hw : swappedStores [.Tuple [.Name x px, .Name y py, .Name z pz] kt pt] (.Tuple [a, b, c] k2 pt2) X.env = pure (some [x, y, z]) := by rfl)
    (hs : swapsWithSole [.Tuple [.Name x px, .Name y py, .Name z pz] kt pt] (.Tuple [a, b, c] k2 pt2) pos.line X.env = pure false := by rfl) :
    DS X K (.Assign [.Tuple [.Name x px, .Name y py, .Name z pz] kt pt] (.Tuple [a, b, c] k2 pt2) pos) (tPar3 i j l (tCons ta (tCons tn (tCons tc tNil)))) (dParM i j l ta' tn' tc') := by
  refine ⟨ps_par3 hc hN hi hj hl hij hil hjl hx hy hz (pa_cons ha.pe (pa_cons hb.pe (pa_cons hd.pe pa_nil hs3) hs2) hs1) hw hs, fun A B M ρ σ H E D r q k => ha.sim A B M ρ σ H _ _ r q fun d ρ1 M1 B1 v H1 r1 f1 m1 hd1 q1 => ?_⟩
  refine hb.sim A B1 M1 ρ1 σ H1 _ _ r1 q1 fun ds ρ2 M2 B2 a1 vs H2 r2 f2 m2 hb2 hl2 hds q2 => ?_
  obtain ⟨r3, f3⟩ := r2.stash hb2 hl2
  refine hd.sim _ _ M2 ρ2 σ H2 _ _ r3 q2 fun e ρ3 M3 B3 w H3 r4 f4 m4 he q3 => ?_
  obtain ⟨r5, f5⟩ := r4.drop (i := σ.length) (by rw [r4.len]; exact Nat.le_refl _)
  have hl3 : H3 a1 = some (.lst vs) := r5.sn a1 _ upd_same
  have aD : A.h a1 = none := r2.sepB _ _ hb2
  have f36 := (f3.trans f4).trans f5
  obtain ⟨r7, f7⟩ := r5.unhide aD put_same (fun b o e => r5.sn b o (by
    show upd A.h a1 (.lst vs) b = _
    rw [upd_ne fun z => by subst z; rw [aD] at e; cases e]
    exact e)) (Gd.cl f36 r2.gd)
  have f27 := f36.trans f7
  have r8 := r7.set (i := i) ((hd1.fr f2).fr f27)
  obtain ⟨B9, r9, f9⟩ := r8.setOwn (i := j) (by rw [List.length_set]; exact put_same) hl3 (hds.fr f27)
  have he9 := ((he.fr f5).fr f7).fr f9
  exact ⟨_, _, _, rfl, k.nx _ M3 B9 _ _ (r9.set he9) (((f1.trans f2).trans f27).trans f9) q3⟩
/-- is, is not of bools -/
def dIsB : R2D := fun d e Q => ∃ a b : Bool, d = .bl a ∧ e = .bl b ∧ Q (.bl (decide (a = b)))
theorem o_isB : OpR X (compareOp .Is) rIsB ∧ SimR K rIsB dIsB := ⟨op_isBl, fun A B M H d e x y Q Q' hx hy q k => by
  obtain ⟨a, b, rfl, rfl, q⟩ := q
  exact ⟨a, b, hx.bl, hy.bl, k _ _ (.bl _) q⟩⟩
end
end DM
namespace TK
open PySem PySem.Spec PyProof.Rows L2
/-- an error of a class is caught, or not, by a clause -/
theorem exm_mk {K : PySem.W.Frag} {A B : Addr} {r : Bool} (b : PySem.W.subIn K (.ref B) (.type "BaseException") = some true) (t : PySem.W.typeIn K (.ref B) = some (.type "type")) (c : PySem.W.isClsIn K B = true) (s : PySem.W.subIn K (.ref A) (.ref B) = some r) : PySem.W.exmOne K (.ref A) (.ref B) = some r := by
  have c2 : (PySem.W.clsIn K B).isSome = true := by
    first
    | exact c
    | (unfold PySem.W.isClsIn at c; simp_all)
  unfold PySem.W.exmOne PySem.W.kitCls
  rw [b]
  simp only [beq_self_eq_true, if_true]
  rw [c2, t]
  simp only [beq_self_eq_true, Bool.and_self, if_true]
  exact s
end TK

namespace TK
open PySem PySem.Spec PyProof.Rows L2
section
variable {P : Program} {w : World} {A : Around} {E : Value → Shared → Prop} {s : Shared}
/-- a set as it is made, with nothing in it -/
abbrev es0 (w : World) : Obj := { cls := .type "set", dict := none, data := .set #[] 0 (.fresh 0 0 (!w.params.followText "set-order")) }
abbrev s0 (w : World) (s : Shared) : Heap := s.heap.push (es0 w)
set_option maxRecDepth 100000 in
set_option maxHeartbeats 3200000 in
/-- set(xs) of a list of whole numbers, with what is to be known of its order -/
theorem setL {l : Addr} {items : Array Value} (ns : List Int) {Q : Value → Shared → Prop} (hh : A.handled = none) (hl : s.heap.IsList l items) (hit : IntsAre items.toList ns) (hb : ns.length + 1 < scanBound)
    (q : ∀ (hp : Heap) (tk c : Nat), SetR w hp s.heap.objs.size (fun j => decide (j ∈ ns)) c → c ≤ ns.length → (∀ b o, s.heap.get? b = some o → hp.get? b = some o) → Q (.ref s.heap.objs.size) { s with heap := hp, toks := tk }) : wpAny (model P w) A (call (.type "set") [.ref l]) Q E s := by
  have hsz : items.size = ns.length := by have z := IntsAre.length hit; rw [Array.length_toList] at z; exact z
  obtain ⟨_, _, m1⟩ := F.called_set.mro; have m2 := F.called_set.made; have m3 := F.called_set.sub
  refine wpAny_call (codeAny_of_tree ?_); show wpAny _ _ (callAny (.type "set") _) _ _ _
  refine wpAny_pure ⟨Code.quiet_builtin _ (by decide +kernel), codeAny_builtin F.entry_type_call ?_⟩; rw [Around.under_plain (weight_type_call_type "set" [.ref l] []) rfl]
  have m4 := F.called_set.notType; have m5 := F.called_set.canCreate; have m6 := F.typeCall_set_1 (.ref l)
  repeat (any_goals (first | assumption | wp_step))
  refine codeAny_mono (code_set_led1 (.ref l) (E := E) (Q₁ := fun x s1 => x = .ref s.heap.objs.size ∧ s1 = { s with heap := s0 w s }) ⟨rfl, rfl⟩) fun r s1 hr => ?_
  cases r with
  | error e => exact hr
  | ok fl => cases fl with
    | ret x =>
      obtain ⟨rfl, rfl⟩ := hr
      have gS : (s0 w s).get? s.heap.objs.size = some (es0 w) := Heap.get?_push_size _ rfl
      have tS : Shared.TypeIs { s with heap := s0 w s } (.ref s.heap.objs.size) "set" := ⟨_, gS, rfl⟩
      have m7 := F.called_set.init.lookup; have m8 := F.called_set.init.bind (.ref s.heap.objs.size)
      repeat (any_goals (first | assumption | wp_step))
      refine codeAny_mono (codeAny_call_builtin (R := wants (fun r s2 => r = .none ∧ ∃ hp tk c, s2 = { s with heap := hp, toks := tk } ∧ SetR w hp s.heap.objs.size (fun j => decide (j ∈ ns)) c ∧ c ≤ ns.length ∧ (∀ b o, s.heap.get? b = some o → hp.get? b = some o)) E) F.called_set.init.plain F.entry_set_init (check_set_init_1 tS ?_)) fun r2 s2 hr2 => ?_
      · obtain ⟨⟨c1, c2, c3, c4⟩, ho, hcl, nl, hdl⟩ := hl
        simp only at hcl hdl; subst hcl; subst hdl
        have ho1 : (s0 w s).get? l = some { cls := .type "list", dict := c2, data := .seq items nl, slots := c4 } := Heap.get?_push_of_some _ ho
        have n1 := F.sub_list_set; have n2 := F.sub_list_frozenset
        have n3 : (Value.type "list" == Value.type "dict") = false := by decide
        have hl1 : (s0 w s).IsList l items := ⟨_, ho1, rfl, nl, rfl⟩
        unfold Builtin.«set.__init__» noKeywords Builtin.Frozenset.updateFrom
        generalize hPI : pyIter = PI; wp_walk; subst hPI
        refine wpAny_pyIter_list hl1 ?_; refine wpAny_bind (wpAny_runValue ?_)
        have lt : l < s.heap.objs.size := Heap.lt_size ho
        have sz : (s0 w s).objs.size = s.heap.objs.size + 1 := Heap.size_push ..
        have hhh : A.in1.in1.in1.handled = none := by simp [hh]
        have nI : l ≠ (s0 w s).objs.size := by rw [sz]; exact Nat.ne_of_lt (Nat.lt_succ_of_lt lt)
        have nS : s.heap.objs.size ∉ [(s0 w s).objs.size, l] := by
          rw [sz]; simp only [List.mem_cons, List.not_mem_nil, or_false, not_or]; exact ⟨Nat.ne_of_lt (Nat.lt_succ_self _), Nat.ne_of_gt lt⟩
        have hval : ∀ (i : Nat) (v : Value), items[i]? = some v → ∃ k t, ns[i]? = some k ∧ v = .int k t := fun i v hv => by
          have hi : i < ns.length := by rw [← hsz]; exact (Array.getElem?_eq_some_iff.mp hv).1
          obtain ⟨t, e⟩ := IntsAre.int_at hit i v (by rw [Array.getElem?_toList]; exact hv)
          exact ⟨ns[i], t, List.getElem?_eq_getElem hi, by rw [e, List.getD_eq_getElem?_getD, List.getElem?_eq_getElem hi]; rfl⟩
        refine set_update_ints ((Walks.list hhh _ l nI items).toS) s.heap.objs.size nS ns hsz hb hval (items.size - 0) 0 _ (by omega) (Nat.zero_le _) ⟨⟨_, Heap.get?_push_size _ rfl, rfl, rfl⟩, (hl1.push _)⟩ ⟨0, Nat.le_refl 0, setR_new_at (Heap.get?_push_of_some _ gS)⟩ ?fin
        intro s3 c3 hm hc hS
        obtain ⟨hp, g3, d3, tk, os3⟩ := s3
        obtain rfl : g3 = s.gens := hm.gens
        obtain rfl : d3 = s.drawn := hm.drawn
        obtain rfl : os3 = s.os := hm.os
        show wpAny _ _ _ _ _ _
        refine wpAny_pure ?_; show wpAny _ _ (ret Value.none) _ _ _; rw [hsz] at hc
        refine wpAny_pure ⟨rfl, hp, tk, c3, rfl, hS, hc, fun b o e => ?_⟩
        have lb := Heap.lt_size e
        exact hm.heap b o (by rw [sz]; simp only [List.mem_cons, List.not_mem_nil, or_false, not_or]; exact ⟨Nat.ne_of_lt lb, Nat.ne_of_lt (Nat.lt_succ_of_lt lb)⟩) (Heap.get?_push_of_some _ (Heap.get?_push_of_some _ e))
      · cases r2 with
        | error e => exact hr2
        | ok fl2 => cases fl2 with
          | ret r =>
            obtain ⟨rfl, hp, tk, c, rfl, hS, hc, hk⟩ := hr2
            repeat (any_goals (first | assumption | wp_step))
            exact q _ _ _ hS hc hk
          | _ => exact hr2.elim
    | _ => exact hr.elim
end
section
variable {X : Cx}
def rSetL (K : PySem.W.Frag) (w : World) : List V → Hp → VK → Prop := fun xs H Q => ∃ (l : Addr) (ns : List Int), xs = [V.ref l] ∧ SqL K H l (ns.map V.int) ∧ ns.length ≤ 1000 ∧ ∀ (p : Addr) (c : Nat), c ≤ ns.length → H p = none → Q (.ref p) (upd H p (SetO w p (fun j => decide (j ∈ ns)) c))
theorem cr_setL (hc : X.calm = true) : CallR X (.type "set") (rSetL X.K X.w) := by
  intro pins s σ H xs us Q I r h
  obtain ⟨l, ns, rfl, hs, hz, q⟩ := h
  obtain rfl := Vals.ref1 r
  obtain ⟨its, rv, hl, _⟩ := I.list hs
  refine setL (items := its.toArray) ns (I.ok.hd hc) hl.isList (ints_of_vals rv) (by unfold scanBound; omega) fun hp tk c R hcn k => ?_
  exact ⟨.ref _, _, I.laid (t' := tk) k (Nat.le_refl _) (setO_new R), rfl, q _ c hcn (I.hok.fresh (Nat.le_refl _))⟩
end
end TK
namespace DM
open PySem PySem.Spec PyProof.Rows L2 TK
variable [Gd]
section
variable {X : Cx} {K : PySem.W.Frag} {a : Expr} {ta : TE} {ta' : TED} {p p2 pos pos2 : Pos}
/-- sorted(set(xs)) of whole numbers -/
def dSoSet (ta' : TED) : TEN := fun ρ M Q => ta' ρ M fun d ρ1 M1 => ∃ ns : List Int, d.lq = some (ns.map .int) ∧ ns.length < 64 ∧ ∀ ms : List Int, ms.Pairwise (· < ·) → (∀ k, k ∈ ms ↔ k ∈ ns) → Q (ms.map .int) ρ1 M1
theorem dn_soSet (hg : Gl X "sorted") (hm : X.mg "sorted" = none) (hg2 : Gl X "set") (hm2 : X.mg "set" = none) (ha : DB X K a ta ta') (hc : X.calm = true := by rfl) (hK : X.K = K := by rfl)
    (hs : starEach [.Call (.Name "set" p2) [a] [] pos2] X.env = (false, eval (.Call (.Name "set" p2) [a] [] pos2) X.env) :: starEach [] X.env := by rfl) (hs2 : starEach [a] X.env = (false, eval a X.env) :: starEach [] X.env := by rfl) :
    DN X K (.Call (.Name "sorted" p) [.Call (.Name "set" p2) [a] [] pos2] [] pos) (tCB (rSortedSet X.w) (tCons (tCB (rSetL X.K X.w) (tCons ta tNil)) tNil)) (dSoSet ta') := by
  subst hK
  refine ⟨pe_callB (cr_sortedSet hc) hg hm (by rfl) (pa_cons (pe_callTy (cr_setL hc) hg2 hm2 (by rfl) (pa_cons ha.pe pa_nil hs2) (by decide) (by decide) hs2 rfl) pa_nil hs) (by decide) (by decide) hs rfl, fun A B M ρ σ H Q Q' r q kk => ha.sim A B M ρ σ H _ _ r q fun d ρ1 M1 B1 v H1 r1 f1 m1 h1 q1 => ?_⟩
  obtain ⟨ns, e, hl, q1⟩ := q1
  obtain ⟨l, vs, rfl, s, lv⟩ := h1.list e
  rw [lv.ints] at s
  refine ⟨l, ns, rfl, s, by omega, fun p c hcn hp => ?_⟩
  obtain ⟨r2, f2, m2, np, _⟩ := r1.new (o := SetO X.w p (fun j => decide (j ∈ ns)) c) hp
  refine ⟨p, _, c, rfl, upd_same, by omega, fun ms p2 hpw hmem _ hp2 => ?_⟩
  obtain ⟨B3, r3, f3, m3, hb3, h3⟩ := r2.newOwn hp2 (HdL.ofInts (ns := ms))
  exact kk _ ρ1 M1 B3 p2 _ _ r3 ((f1.trans f2).trans f3) ((m1.trans m2).trans m3) hb3 upd_same h3 (q1 ms hpw fun k => by rw [hmem k]; exact decide_eq_true_iff)
end
end DM
namespace DM
open PySem PySem.Spec PyProof.Rows L2 TK
variable [Gd]
section
variable {X : Cx} {K : PySem.W.Frag} {sp : SpD} {e : Expr} {es : List Expr} {ta : TA} {ta' : TAD} {x y : Str} {ps : List Str} {p pos : Pos} {k : Nat}
/-- name = f(..), where f gives a value, or a list that is our own from now on -/
def dSetM (sp : SpD) (ta' : TAD) (i : Nat) : TSD := fun D ρ M => ta' ρ M fun ds ρ1 M1 => sp ds M1 (fun d M2 => D.nx (ρ1.set i (.val d)) M2) (fun es M2 => D.nx (ρ1.set i (.own es)) M2) (fun _ _ => False)
theorem sim_setM (i : Nat) (hm : SpMono sp) (h : SimA K ta ta') : SimS K (tAsg (tCall (ofD K sp) [] E0 ta) (gName i)) (dSetM sp ta' i) := fun A B M ρ σ H E D R q kk => h A B M ρ σ H _ _ R q fun ds ρ1 M1 B1 vs H1 R1 f1 m1 h1 q1 => by
  refine ⟨AB A B1 M1 H1, M1, ds, R1.rok, ?_, hm.mono _ _ _ _ _ _ _ _ q1 (fun d M2 q2 => ?_) (fun es M2 q2 => ?_) (fun _ _ z => z.elim)⟩
  · rw [List.append_nil]
    exact R1.args h1
  · intro v H2 o m hd
    obtain ⟨R2, f2⟩ := R1.back o m
    rw [R1.av_ab] at hd
    exact kk.nx _ M2 B1 _ H2 (R2.set hd) (f1.trans f2) q2
  · intro a us H2 hn o m hd
    obtain ⟨B2, R2, f2, hb, hl, h2⟩ := R1.backN hn o m hd
    obtain ⟨B3, R3, f3⟩ := R2.setOwn (i := i) hb hl h2
    exact kk.nx _ M2 B3 _ H2 R3 ((f1.trans f2).trans f3) q2
theorem ds_setM (i : Nat) {pos' : Pos} {j : Nat} (hN : X.N.Nodup) (C : Cal X.prog X.w X.K X.mg X.base x ps j (ofD K sp)) (hm : SpMono sp) (hr : Room k X.A) (hg : Gl X x) (ha : DA X K (e :: es) ta ta') (hj : j ≤ k := by decide) (hdb : (x == ("__debug__" : Str)) = false := by decide)
    (he : starEach (e :: es) X.env = (false, eval e X.env) :: starEach es X.env := by rfl) (hpl : (backTo pos (starEach es X.env)).any (·.1) = false := by rfl) {spos : Pos} (hi : X.N[i]? = some y := by rfl) (hx : Loc X.env.scope y := by first | exact .inl rfl | exact .inr rfl) (hs : swapsWith (.Call (.Name x p) (e :: es) [] pos) (some (.Name y pos')) spos.line X.env = pure false := by rfl) (hf : X.fn y = true ∨ X.env.scope.names.lookup y = some .local := by first | exact .inl rfl | exact .inr rfl | assumption) :
    DS X K (.Assign [.Name y pos'] (.Call (.Name x p) (e :: es) [] pos) spos) (tAsg (tCall (ofD K sp) [] E0 ta) (gName i)) (dSetM sp ta' i) :=
  ⟨ps_set hN hi hx (pe_cal C hr hg ha.pa hj hdb he hpl) hs hf, sim_setM i hm ha.sim⟩
end
end DM
namespace DM
open PySem PySem.Spec PyProof.Rows L2 TK
variable [Gd]
section
variable {X : Cx} {K : PySem.W.Frag} {st : Stmt} {t : TS} {t' : TSD}
/-- what holds behind a statement, told once for all its ways -/
def dCut (t' : TSD) : TSD := fun D ρ M => ∀ G : Prop, (∀ P : Env → Mm → Prop, t' { D with nx := P } ρ M → (∀ ρ M, P ρ M → D.nx ρ M) → G) → G
theorem ds_cut (h : DS X K st t t') : DS X K st t (dCut t') := ⟨h.ps, fun A B M ρ σ H E D r q k => q _ fun P q hP => h.sim A B M ρ σ H E _ r q ⟨fun ρ M B σ H r f z => k.nx ρ M B σ H r f (hP _ _ z), k.rt, k.rn, k.bk, k.ct⟩⟩
theorem cutD_ {t' : TSD} {D : EndsD} {ρ : Env} {M : Mm} (P : Env → Mm → Prop) (h : t' { D with nx := P } ρ M) (h2 : ∀ ρ M, P ρ M → D.nx ρ M) : dCut t' D ρ M := fun _ k => k P h h2
end
end DM

/-! ### calls of defs by keywords, gcd -/
namespace TK
open PySem PySem.Spec PyProof.Rows L2
def pick {α : Type} (π : List Nat) (xs : List α) : List α := π.filterMap fun i => xs[i]?
/-- what stands under x takes n arguments by place and the rest by the names ks; π puts all of them in the parameters' order -/
structure KwAt (K : PySem.W.Frag) (mg : Str → Option Value) (x : Str) (ps : List Str) (n : Nat) (ks : List Str) (π : List Nat) : Prop where
  ex : ∃ (f : Addr) (fd : FuncData), (∃ (oc : Value) (od : Option Addr) (osl : Array (Option Value)), K.lookup f = some ⟨oc, od, .func fd, osl⟩) ∧ mg x = some (.ref f) ∧ ∀ us ws : List Value, us.length = n → ws.length = ks.length → bindArgs fd ⟨us, ks.zip ws⟩ = pure (ps.zip (pick π (us ++ ws)))
theorem kwAt_mk {K : PySem.W.Frag} {h : Heap} {mg : Str → Option Value} {x : Str} {st : Stmt} {ps : List Str} {n : Nat} {ks : List Str} {π : List Nat} {f : Addr} {oc : Value} {od an : Option Addr} {osl : Array (Option Value)} {kV doc pm cdv ct : Value} (X : K.In h) (G : h.Ns mainGlobals mg)
    (a : PySem.W.nsIn K mainGlobals x = some (some (.ref f)))
    (l : K.lookup f = some ⟨oc, od, .func (PySem.W.fnOf x x (defArgs st) (defBody st) (defScope st) .none kV doc pm an cdv ct), osl⟩)
    (b : ∀ (kV doc pm : Value) (an : Option Addr) (cdv ct : Value) (us ws : List Value), us.length = n → ws.length = ks.length → bindArgs (PySem.W.fnOf x x (defArgs st) (defBody st) (defScope st) .none kV doc pm an cdv ct) ⟨us, ks.zip ws⟩ = pure (ps.zip (pick π (us ++ ws)))) :
    KwAt K mg x ps n ks π := ⟨f, _, ⟨_, _, _, l⟩, PySem.W.mg_of X G a, b kV doc pm an cdv ct⟩
theorem pick_vals {π : List Nat} {vs : List V} {us : List Value} (r : Vals vs us) : Vals (pick π vs) (pick π us) := by
  have hl := r.length
  induction π with
  | nil => exact .nil
  | cons i π ih =>
    unfold pick at ih ⊢
    by_cases h : i < vs.length
    · obtain ⟨u, hu, ru⟩ := r.get (List.getElem?_eq_getElem h)
      rw [List.filterMap_cons, List.filterMap_cons, hu, List.getElem?_eq_getElem h]
      exact .cons ru ih
    · rw [List.filterMap_cons, List.filterMap_cons, List.getElem?_eq_none (by omega), List.getElem?_eq_none (by omega)]
      exact ih
section
variable {X : Cx} {x : Str} {ps ks : List Str} {k : Nat} {sp : Sp} {p pos : Pos} {kws : List Keyword} {t : TA} {π : List Nat}
def tPick (π : List Nat) (t : TA) : TA := fun σ H Q => t σ H fun zs H1 => zs.length = π.length ∧ Q (pick π zs) H1
theorem pe_calK0 {j : Nat} (C : Cal X.prog X.w X.K X.mg X.base x ps j sp) (W : KwAt X.K X.mg x ps 0 ks π) (hr : Room k X.A) (hg : Gl X x) (ha : PK X kws t) (hl : ks.length = π.length := by rfl) (hj : j ≤ k := by decide) (hdb : (x == ("__debug__" : Str)) = false := by decide)
    (hall : (backToKw pos (keywordEach kws X.env)).all (·.1.isSome) = true := by rfl) (hks : (backToKw pos (keywordEach kws X.env)).filterMap (·.1) = ks := by rfl)
    (hpl : ((backTo pos (starEach [] X.env)).any (·.1) || (backToKw pos (keywordEach kws X.env)).any (·.1.isNone)) = false := by rfl) : PE X (.Call (.Name x p) [] kws pos) (tCall sp [] E0 (tPick π t)) := by
  obtain ⟨f, fd, F, b⟩ := C.ex
  obtain ⟨f2, fd2, ⟨_, _, _, lk⟩, mg2, bd⟩ := W.ex
  have e : f2 = f := Value.ref.inj (Option.some.inj (mg2.symm.trans b.mg))
  subst e
  obtain ⟨_, _, _, lk2⟩ := b.lk
  rw [lk] at lk2
  cases lk2
  refine ⟨fun pins s σ H Q I h => wpAny_Call_Name_kw (ld_glob I hg b.mg ?_ hdb)⟩
  refine PySem.W.callWith_KW0 (h₀ := X.base) I.ok.mod.kin b.kp hall (thn (ha.run pos pins s σ H _ I h) fun ws s2 ⟨zs, H2, I2, rz, hz, q2⟩ => ⟨I2.kIn, ?_⟩) hpl
  rw [hks]
  have q2 : sp (pick π zs ++ []) H2 Q E0 := q2
  rw [List.append_nil] at q2
  have hwl : ws.length = ks.length := by rw [← rz.length, hz, hl]
  have rp := pick_vals (π := π) rz
  have b2 : BindsTo s2 fd ⟨[] ++ [], ks.zip ws⟩ (ps.zip (pick π ws)) := .of_eq (by
    have := bd [] ws rfl hwl
    rw [List.nil_append] at this
    exact this)
  refine wpAny_call (codeAny_mono (F.run X.A X.stack s2 H2 ⟨[] ++ [], ks.zip ws⟩ (pick π ws) (pick π zs) Q E0 (hr.mono hj) I2.env0 b2 rp q2) fun r s3 hq => ?_)
  cases r with
  | error er => exact pass0 pins σ H2 s2 er s3 I2 hq
  | ok fl => cases fl with
    | ret u => exact I2.after hq
    | _ => exact hq.elim
end
end TK
namespace DM
open PySem PySem.Spec PyProof.Rows L2 TK
variable [Gd]
section
variable {X : Cx} {K : PySem.W.Frag} {kws : List Keyword} {t : TA} {t' : TAD} {e : Expr} {te : TE} {te' : TED} {nm : Option Str} {kpos : Pos}
structure DK (X : Cx) (K : PySem.W.Frag) (kws : List Keyword) (t : TA) (t' : TAD) : Prop where
  pk : PK X kws t
  sim : SimA K t t'
theorem dk_nil : DK X K [] tNil dNil := ⟨pk_nil, fun A B M ρ σ H Q Q' R q k => k [] ρ M B [] H R .refl .refl .nil q⟩
theorem dk_cons (ha : DE X K e te te') (hr : DK X K kws t t') : DK X K (⟨nm, e, kpos⟩ :: kws) (tCons te t) (dCons te' t') :=
  ⟨pk_cons ha.pe hr.pk, fun A B M ρ σ H Q Q' R q k => ha.sim A B M ρ σ H _ _ R q fun d ρ1 M1 B1 v H1 R1 f1 m1 h1 q1 => hr.sim A B1 M1 ρ1 σ H1 _ _ R1 q1 fun ds ρ2 M2 B2 vs H2 R2 f2 m2 h2 q2 =>
    k (d :: ds) ρ2 M2 B2 (v :: vs) H2 R2 (f1.trans f2) (m1.trans m2) (.cons (h1.fr f2) h2) q2⟩
theorem pick_hdl {Av : Addr → Prop} {H : Hp} {π : List Nat} {ds : List D} {vs : List V} (h : HdL K Av H ds vs) : HdL K Av H (pick π ds) (pick π vs) := by
  have hl := h.length
  induction π with
  | nil => exact .nil
  | cons i π ih =>
    unfold pick at ih ⊢
    by_cases hi : i < ds.length
    · obtain ⟨v, hv, hd⟩ := h.get (List.getElem?_eq_getElem hi)
      rw [List.filterMap_cons, List.filterMap_cons, hv, List.getElem?_eq_getElem hi]
      exact .cons hd ih
    · rw [List.filterMap_cons, List.filterMap_cons, List.getElem?_eq_none (by omega), List.getElem?_eq_none (by omega)]
      exact ih
def dPick (π : List Nat) (t' : TAD) : TAD := fun ρ M Q => t' ρ M fun ds ρ1 M1 => ds.length = π.length ∧ Q (pick π ds) ρ1 M1
theorem sim_pick {π : List Nat} (h : SimA K t t') : SimA K (tPick π t) (dPick π t') := fun A B M ρ σ H Q Q' R q kk => h A B M ρ σ H _ _ R q fun ds ρ1 M1 B1 vs H1 R1 f1 m1 h1 q1 =>
  ⟨by rw [← h1.length]; exact q1.1, kk _ ρ1 M1 B1 _ H1 R1 f1 m1 (pick_hdl h1) q1.2⟩
variable {sp : SpD} {x : Str} {ps ks : List Str} {p pos : Pos} {k : Nat} {π : List Nat}
/-- f(k = e, ..): all by name -/
theorem de_calK0 {j : Nat} (C : Cal X.prog X.w X.K X.mg X.base x ps j (ofD K sp)) (hm : SpMono sp) (W : KwAt X.K X.mg x ps 0 ks π) (hr : Room k X.A) (hg : Gl X x) (ha : DK X K kws t t') (hl : ks.length = π.length := by rfl) (hj : j ≤ k := by decide) (hdb : (x == ("__debug__" : Str)) = false := by decide)
    (hall : (backToKw pos (keywordEach kws X.env)).all (·.1.isSome) = true := by rfl) (hks : (backToKw pos (keywordEach kws X.env)).filterMap (·.1) = ks := by rfl)
    (hpl : ((backTo pos (starEach [] X.env)).any (·.1) || (backToKw pos (keywordEach kws X.env)).any (·.1.isNone)) = false := by rfl) : DE X K (.Call (.Name x p) [] kws pos) (tCall (ofD K sp) [] E0 (tPick π t)) (dCall sp (dPick π t')) :=
  ⟨pe_calK0 C W hr hg ha.pk hl hj hdb hall hks hpl, sim_call hm (sim_pick ha.sim)⟩
theorem dn_calK0 {j : Nat} (C : Cal X.prog X.w X.K X.mg X.base x ps j (ofD K sp)) (hm : SpMono sp) (W : KwAt X.K X.mg x ps 0 ks π) (hr : Room k X.A) (hg : Gl X x) (ha : DK X K kws t t') (hl : ks.length = π.length := by rfl) (hj : j ≤ k := by decide) (hdb : (x == ("__debug__" : Str)) = false := by decide)
    (hall : (backToKw pos (keywordEach kws X.env)).all (·.1.isSome) = true := by rfl) (hks : (backToKw pos (keywordEach kws X.env)).filterMap (·.1) = ks := by rfl)
    (hpl : ((backTo pos (starEach [] X.env)).any (·.1) || (backToKw pos (keywordEach kws X.env)).any (·.1.isNone)) = false := by rfl) : DN X K (.Call (.Name x p) [] kws pos) (tCall (ofD K sp) [] E0 (tPick π t)) (dCallN sp (dPick π t')) :=
  ⟨pe_calK0 C W hr hg ha.pk hl hj hdb hall hks hpl, sim_callN hm (sim_pick ha.sim)⟩
/-! gcd -/
def dGcd : R2D := fun d e Q => ∃ a b : Int, d = .int a ∧ e = .int b ∧ Q (.int ((Nat.gcd a.natAbs b.natAbs : Nat) : Int))
theorem sim_gcd : SimC2 K rGcd dGcd := fun A B M H d e x y Q Q' hx hy q k => by
  obtain ⟨a, b, rfl, rfl, q⟩ := q
  exact ⟨a, b, by rw [hx.int, hy.int], k _ _ (.int _) q⟩
theorem de_gcd {y : Str} {a b : Expr} {ta tb : TE} {ta' tb' : TED} {p2 : Pos} (hg : Gl X y) (hm : X.mg y = some (.builtin "math.gcd")) (ha : DB X K a ta ta') (hb : DB X K b tb tb')
    (hs : starEach [a, b] X.env = (false, eval a X.env) :: starEach [b] X.env := by rfl) (hs2 : starEach [b] X.env = (false, eval b X.env) :: starEach [] X.env := by rfl) (hpl : (backTo pos (starEach [b] X.env)).any (·.1) = false := by rfl) (hdb : (y == ("__debug__" : Str)) = false := by decide) :
    DE X K (.Call (.Name y p2) [a, b] [] pos) (tCB rGcd (tCons ta (tCons tb tNil))) (dOp dGcd ta' tb') :=
  ⟨pe_callBfun cr_gcd hg hm (pa_cons ha.pe (pa_cons hb.pe pa_nil hs2) hs) hdb hs hpl, sim_call2 sim_gcd ha.sim hb.sim⟩
end
end DM

/-! ### list.count, list.index of data -/
namespace DM
open PySem PySem.Spec PyProof.Rows L2 TK
section
variable [Gd] {K : PySem.W.Frag} {X : Cx} {ta tb : TE} {ta' tb' : TED} {a b : Expr} {pos apos : Pos}
def dMt (r' : R2D) (ta' tb' : TED) : TED := fun ρ M Q => ta' ρ M fun d ρ1 M1 => ∃ ds, d.lq = some ds ∧ tb' ρ1 M1 fun e ρ2 M2 => r' d e fun c => Q c ρ2 M2
theorem sim_mt {r : V → List V → Hp → VK → Prop} {r' : R2D} (s : SimR K (fun x y H Q => r x [y] H Q) r') (ha : SimB K ta ta') (hb : SimB K tb tb') : SimE K (tBM K "list" r ta (tCons tb tNil)) (dMt r' ta' tb') := fun A B M ρ σ H Q Q' R q k =>
  ha A B M ρ σ H _ _ R q fun d ρ1 M1 B1 v H1 R1 f1 m1 h1 q1 => by
    obtain ⟨ds, e1, q1⟩ := q1
    obtain ⟨p, vs, rfl, sq, _⟩ := h1.list e1
    exact ⟨.inl ⟨rfl, vs, sq⟩, hb A B1 M1 ρ1 σ H1 _ _ R1 q1 fun e ρ2 M2 B2 u H2 R2 f2 m2 h2 q2 => s A B2 M2 H2 d e _ u Q _ (h1.fr f2 m2) h2 q2 fun c w hw q3 => k c ρ2 M2 B2 w H2 R2 (f1.trans f2) (m1.trans m2) hw q3⟩
theorem de_mt {id : String} {name : Str} {r : V → List V → Hp → VK → Prop} {r' : R2D} (slot : Slot "list" name id) (hty : typeOf (.builtin id) = pure (.type "method_descriptor")) (o : MtR X id r ∧ SimR K (fun x y H Q => r x [y] H Q) r') (ha : DB X K a ta ta') (hb : DB X K b tb tb')
    (h1 : attributeBase a name X.env (eval a X.env) = eval a X.env := by rfl)
    (h2 : ((backTo pos (starEach [b] X.env)).all (fun x => !x.1) && (backToKw pos (keywordEach [] X.env)).all (fun x => x.1.isSome) && decide ([b].length + ([] : List Keyword).length + (if ([] : List Keyword).isEmpty then 0 else 1) < 30)) = true := by rfl)
    (h3 : (apos.endLine == pos.line) = true := by rfl) (h4 : starEach [b] X.env = (false, eval b X.env) :: starEach [] X.env := by rfl) (h5 : (backTo pos (starEach [] X.env)).any (·.1) = false := by rfl) (hK : X.K = K := by rfl) :
    DE X K (.Call (.Attribute a name apos) [b] [] pos) (tBM K "list" r ta (tCons tb tNil)) (dMt r' ta' tb') := by
  subst hK
  exact ⟨pe_bm PySem.F.plainAttrs_list slot hty o.1 ha.pe (pa_cons hb.pe pa_nil h4) h1 h2 h3 h4 h5, sim_mt o.2 ha.sim hb.sim⟩
def rCntD (K : PySem.W.Frag) : V → List V → Hp → VK → Prop := fun x xs H Q => ∃ (p : Addr) (y : V) (d : PyData) (es : List PyData), x = V.ref p ∧ xs = [y] ∧ Dp K H (V.ref p) (.list es) ∧ Dp K H y d ∧ SeqAt.shaped (.list es) = true ∧ SeqAt.shaped d = true ∧ Q (.int (es.countP fun z => PyData.eqv z d : Nat)) H
theorem mt_cntD (hu : X.A.units + 65 < cLine) : MtR X "list.count" (rCntD X.K) := by
  intro pins s σ H x xs v us Q I rx0 rs0 h
  obtain ⟨p, y, d, es, rfl, rfl, hl, hy, sl, sd, q⟩ := h
  cases rx0
  obtain ⟨uy, rfl, ry⟩ := rs0.one
  obtain ⟨bs, hr1⟩ := Dp.reads I d y uy hy ry
  have hlay : PyData.canLayAll0 es = true := SeqAt.canLay_of_shaped sl
  have hrm : X.A.units + 1 + min (PyData.depthAll es) d.depth < cLine := room_in_shaped sd hu
  cases hl with
  | lst hs ha =>
    obtain ⟨ws, rw', ⟨⟨cc, d0, dt, sz⟩, n, ho, hc, hn0, hdt⟩, hlen⟩ := I.list hs
    simp only at hc hdt
    subst hc hdt
    obtain ⟨as, hr2⟩ := Dp.readsAll I es _ ws ha rw'
    have hm : ws.map (SeqAt.readOf s.heap) = es := SeqAt.readsAll_map es ws as hlay hr2
    refine call_meets PySem.F.slot_list_count ⟨_, ho, rfl⟩ PySem.F.entry_list_count (PySem.F.args_list_count_2 _ _) (SeqAt.list_countAt p ws.toArray n d0 sz uy (fun u => PyData.eqv (SeqAt.readOf s.heap u) d)) ⟨ho, SeqAt.items_eqAt (vs := ws.toArray) (show ReadsAll s.heap ws.toArray.toList es as from hr2) hr1 hlay (SeqAt.canLay_of_shaped sd) hrm, ?_⟩
    have ec : ws.countP (fun u => PyData.eqv (SeqAt.readOf s.heap u) d) = es.countP fun z => PyData.eqv z d := by rw [← hm, List.countP_map]; rfl
    refine ⟨.int (es.countP fun z => PyData.eqv z d : Nat), H, I.tok _, ⟨s.toks, ?_⟩, q⟩
    rw [← ec]
def dCnt : R2D := fun d e Q => ∃ n ds, n ≤ 60 ∧ d = .lst ds ∧ okN n d ∧ okN n e ∧ Q (.int (ds.countP fun z => eqD z e : Nat))
theorem countL (e : D) : ∀ ds : List D, (D.pdL ds).countP (fun z => PyData.eqv z e.pd) = ds.countP fun z => eqD z e
  | [] => by unfold D.pdL; rfl
  | d :: ds => by
    unfold D.pdL
    rw [List.countP_cons, List.countP_cons, countL e ds]
    rfl
theorem o_cnt (hu : X.A.units + 65 < cLine) (hK : X.K = K := by rfl) : MtR X "list.count" (rCntD K) ∧ SimR K (fun x y H Q => rCntD K x [y] H Q) dCnt := by
  subst hK
  refine ⟨mt_cntD hu, fun A B M H d e x y Q Q' hx hy q k => ?_⟩
  obtain ⟨n, ds, hn, rfl, o1, o2, q⟩ := q
  obtain ⟨p, vs, rfl, _, _⟩ := hx.list (ds := ds) rfl
  have h1 := hx.dp o1
  have h2 := ok_shaped o1 hn
  unfold D.pd at h1 h2
  exact ⟨p, y, e.pd, D.pdL ds, rfl, rfl, h1, hy.dp o2, h2, ok_shaped o2 hn, k _ _ (.int _) (by rw [countL]; exact q)⟩
def dIdx : R2D := fun d e Q => ∃ n ds j z, n ≤ 60 ∧ d = .lst ds ∧ okN n d ∧ okN n e ∧ ds[j]? = some z ∧ eqD z e = true ∧ (∀ (m : Nat) (y : D), m < j → ds[m]? = some y → eqD y e = false) ∧ Q (.int (j : Nat))
theorem pdL_get : ∀ (ds : List D) (j : Nat), (D.pdL ds)[j]? = ds[j]?.map D.pd
  | [], j => by unfold D.pdL; rfl
  | d :: ds, 0 => by unfold D.pdL; rfl
  | d :: ds, j + 1 => by
    unfold D.pdL
    exact pdL_get ds j
theorem o_idx (hu : X.A.units + 65 < cLine) (hK : X.K = K := by rfl) : MtR X "list.index" (rIndexD K) ∧ SimR K (fun x y H Q => rIndexD K x [y] H Q) dIdx := by
  subst hK
  refine ⟨mt_indexD hu, fun A B M H d e x y Q Q' hx hy q k => ?_⟩
  obtain ⟨n, ds, j, z, hn, rfl, o1, o2, hz, hzj, hno, q⟩ := q
  obtain ⟨p, vs, rfl, _, _⟩ := hx.list (ds := ds) rfl
  have h1 := hx.dp o1
  have h2 := ok_shaped o1 hn
  unfold D.pd at h1 h2
  refine ⟨p, y, e.pd, D.pdL ds, j, z.pd, rfl, rfl, h1, hy.dp o2, h2, ok_shaped o2 hn, by rw [pdL_get, hz]; rfl, hzj, fun m z' hm hz' => ?_, k _ _ (.int _) q⟩
  rw [pdL_get] at hz'
  cases hd : ds[m]? with
  | none => rw [hd] at hz'; cases hz'
  | some w => rw [hd] at hz'; cases hz'; exact hno m w hm hd
/-- {i: j} of two whole numbers -/
theorem de_dictI {i j : Int} {t u : Nat} {p1 p2 : Pos} : DE X K (.Dict [some (.Constant (.int i) t p1)] [.Constant (.int j) u p2] pos) (tDisp [(tC (.int i), tC (.int j))]) (dC (.dK [.inl i] [.int j])) :=
  ⟨pe_disp (pps_cons pe_int pe_int pps_nil) rfl rfl (by simp) (Nat.le_of_ble_eq_true rfl), fun A B M ρ σ H Q Q' r q kk => fun p hp => by
    refine ⟨upd_same, [(.inl i, .int j)], rfl, Nat.le_of_ble_eq_true rfl, ?_⟩
    rw [upd_upd]
    obtain ⟨R2, f2, m2, np, _⟩ := r.new (o := .dK (mergeK [] [(.inl i, .int j)])) hp
    exact kk _ ρ M B _ _ R2 f2 m2 (.dK (ks := [.inl i]) (vs := [.int j]) np upd_same rfl (.cons (.int j) .nil)) q⟩
end
end DM

/-! ### dicts of whole numbers that are written: shared things -/
namespace DM
open PySem PySem.Spec PyProof.Rows L2 TK
def getI (es : List (Int × Int)) (k : Int) : Option Int := (es.find? fun p => decide (p.1 = k)).map (·.2)
def putI (es : List (Int × Int)) (k v : Int) : List (Int × Int) := if (es.any fun p => decide (p.1 = k)) = true then es.map (fun p => if p.1 = k then (p.1, v) else p) else es ++ [(k, v)]
theorem dkI_cons (p : Int × Int) (es : List (Int × Int)) : dkI (p :: es) = (.inl p.1, .int p.2) :: dkI es := rfl
theorem dkI_val (k : Int) : ∀ es : List (Int × Int), valV (dkI es) (.inl k) = (getI es k).map V.int
  | [] => rfl
  | p :: es => by
    by_cases h : p.1 = k
    · rw [dkI_cons, valV_pos (by rw [h])]
      unfold getI
      rw [List.find?_cons_of_pos (by simp [h])]
      rfl
    · rw [dkI_cons, valV_neg (fun e => h (Sum.inl.inj e)), dkI_val k es]
      unfold getI
      rw [List.find?_cons_of_neg (by simp [h])]
theorem dkI_any (k : Int) : ∀ es : List (Int × Int), ((dkI es).any fun kv => decide (kv.1 = Sum.inl k)) = (es.any fun p => decide (p.1 = k))
  | [] => rfl
  | p :: es => by
    rw [dkI_cons, List.any_cons, List.any_cons, dkI_any k es]
    congr 1
    by_cases h : p.1 = k
    · rw [decide_eq_true h, decide_eq_true (by rw [h])]
    · rw [decide_eq_false h, decide_eq_false (fun e => h (Sum.inl.inj e))]
theorem dkI_map (k v : Int) : ∀ es : List (Int × Int), (dkI es).map (fun kv => if kv.1 = Sum.inl k then (kv.1, V.int v) else kv) = dkI (es.map fun p => if p.1 = k then (p.1, v) else p)
  | [] => rfl
  | p :: es => by
    rw [dkI_cons, List.map_cons, List.map_cons, dkI_cons, dkI_map k v es]
    congr 1
    by_cases h : p.1 = k
    · rw [if_pos h, if_pos (by rw [h])]
    · rw [if_neg h, if_neg (fun e => h (Sum.inl.inj e))]
theorem dkI_put (es : List (Int × Int)) (k v : Int) : putK (dkI es) (.inl k) (.int v) = dkI (putI es k v) := by
  unfold putK putI
  rw [dkI_any]
  by_cases h : (es.any fun p => decide (p.1 = k)) = true
  · rw [if_pos h, if_pos h, dkI_map]
  · rw [if_neg h, if_neg h]
    unfold dkI
    rw [List.map_append]
    rfl
theorem dkI_keys (es : List (Int × Int)) : (dkI es).map (·.1) = (es.map (·.1)).map Sum.inl := by
  unfold dkI
  rw [List.map_map, List.map_map]
  rfl
theorem dkI_vals (es : List (Int × Int)) : (dkI es).map (·.2) = (es.map (·.2)).map V.int := by
  unfold dkI
  rw [List.map_map, List.map_map]
  rfl
theorem dkI_length (es : List (Int × Int)) : (dkI es).length = es.length := by
  unfold dkI
  rw [List.length_map]
theorem u1 {k : Nat} {A : Around} (r : Room k A) : A.units + 1 < cLine := by have := r.un; omega
variable [Gd]
section
variable {K : PySem.W.Frag} {A : CA} {B : Nat → Option Addr} {M : Mm} {ρ : Env} {σ : L2.St} {H : Hp}
/-- a new thing that is shared -/
theorem ER.newM (r : ER K A B M ρ σ H) {p : Addr} {o : HO} {mo : MO} (hp : H p = none) (hm : MOk K (Av A B (addM M p mo)) (upd H p o) p mo) : ER K A B (addM M p mo) ρ σ (upd H p o) ∧ Fr (Av A B M) (Av A B (addM M p mo)) H (upd H p o) ∧ FrM M (addM M p mo) H (upd H p o) ∧ M p = none := by
  obtain ⟨r1, f1, m1, np, mp⟩ := r.new (o := o) hp
  have av : ∀ b, Av A B (addM M p mo) b → Av A B M b ∨ b = p := fun b h => by
    rcases h with h | h | h
    · exact .inl (.inl h)
    · exact .inl (.inr (.inl h))
    · by_cases e : b = p
      · exact .inr e
      · rw [addM_ne e] at h; exact .inl (.inr (.inr h))
  have k : ∀ b u, H b = some u → upd H p o b = some u := fun b u e => by rw [upd_ne (ne_of_none e hp)]; exact e
  have f : Fr (Av A B M) (Av A B (addM M p mo)) H (upd H p o) := fun b u n e => ⟨k b u e, fun h => by
    rcases av b h with h | h
    · exact n h
    · subst h; rw [hp] at e; cases e⟩
  refine ⟨⟨r.len, fun j s v e1 e2 => (r.sl j s v e1 e2).fr f fun a e => ⟨e, fun o h => k _ _ h⟩, r.inj, fun a mo' e => ?_, fun b h => ?_, fun j a e => ?_, fun a ha => ?_, r.sepB, r1.sn, fun b hb => ?_, Gd.cl f r.gd⟩, f, fun b u n e => ⟨k b u e, ?_⟩, mp⟩
  · by_cases h : a = p
    · subst h
      rw [addM_same] at e
      cases e
      exact hm
    · rw [addM_ne h] at e
      exact (r.ob a mo' e).fr f fun o h => k _ _ h
  · rcases av b h with h | h
    · exact r1.tr b h
    · subst h; rw [upd_same]; simp
  · rw [addM_ne (fun z => ?_)]
    · exact r.sepM j a e
    · subst z; exact np (.inr (.inl ⟨j, e⟩))
  · rw [addM_ne (fun z => ?_)]
    · exact r.sepA a ha
    · subst z; exact np (.inl ha)
  · by_cases h : b = p
    · subst h; rw [addM_same]; simp
    · rw [addM_ne h]; exact r.md b hb
  · rw [addM_ne (fun z => ?_)]
    · exact n
    · subst z; rw [hp] at e; cases e
/-- a shared thing is written -/
theorem ER.writeM (r : ER K A B M ρ σ H) {a : Addr} {o : HO} {mo mo' : MO} (ha : M a = some mo) (hm : MOk K (Av A B (addM M a mo')) (upd H a o) a mo') : ER K A B (addM M a mo') ρ σ (upd H a o) ∧ Fr (Av A B M) (Av A B (addM M a mo')) H (upd H a o) ∧ FrM M (addM M a mo') H (upd H a o) := by
  have ava : Av A B M a := .inr (.inr (by rw [ha]; simp))
  have av : ∀ b, Av A B (addM M a mo') b → Av A B M b := fun b h => by
    rcases h with h | h | h
    · exact .inl h
    · exact .inr (.inl h)
    · by_cases e : b = a
      · subst e; exact ava
      · rw [addM_ne e] at h; exact .inr (.inr h)
  have k : ∀ b u, b ≠ a → H b = some u → upd H a o b = some u := fun b u n e => by rw [upd_ne n]; exact e
  have f : Fr (Av A B M) (Av A B (addM M a mo')) H (upd H a o) := fun b u n e => ⟨k b u (fun z => n (z ▸ ava)) e, fun h => n (av b h)⟩
  have nb : ∀ j c, B j = some c → c ≠ a := fun j c e z => by subst z; rw [r.sepM _ _ e] at ha; cases ha
  have na : ∀ c, A.h c ≠ none → c ≠ a := fun c e z => by subst z; rw [r.sepA _ e] at ha; cases ha
  refine ⟨⟨r.len, fun j s v e1 e2 => (r.sl j s v e1 e2).fr f fun c e => ⟨e, fun o h => k _ _ (nb j c e) h⟩, r.inj, fun c mo2 e => ?_, fun b h => ?_, fun j c e => ?_, fun c hc => ?_, r.sepB, fun b u e => k b u (na b (by rw [e]; simp)) (r.sn b u e), fun b hb => ?_, Gd.cl f r.gd⟩, f, fun b u n e => ?_⟩
  · by_cases h : c = a
    · subst h
      rw [addM_same] at e
      cases e
      exact hm
    · rw [addM_ne h] at e
      exact (r.ob c mo2 e).fr f fun o h2 => k _ _ h h2
  · have := r.tr b (av b h)
    by_cases e : b = a
    · subst e; rw [upd_same]; simp
    · rw [upd_ne e]; exact this
  · rw [addM_ne (nb j c e)]; exact r.sepM j c e
  · rw [addM_ne (na c hc)]; exact r.sepA c hc
  · by_cases h : b = a
    · subst h; rw [addM_same]; simp
    · rw [addM_ne h]; exact r.md b hb
  · have : b ≠ a := fun z => by subst z; rw [n] at ha; cases ha
    exact ⟨k b u this e, by rw [addM_ne this]; exact n⟩
end
section
variable {K : PySem.W.Frag} {X : Cx} {ta tb tc : TE} {ta' tb' tc' : TED} {a b c : Expr} {pos apos : Pos}
theorem Hd.refM {Av : Addr → Prop} {H : Hp} {p : Addr} {v : V} (h : Hd K Av H (.ref p) v) : v = .ref p := by cases h; rfl
theorem HdB.refM {A : CA} {B : Nat → Option Addr} {M : Mm} {H : Hp} {p : Addr} {v : V} (h : HdB K A B M H (.ref p) v) : v = .ref p := by
  rcases h with h | ⟨_, _, _, e, _⟩
  · exact h.refM
  · cases e
/-- {}, {i: j} -/
def dMNew (es : List (Int × Int)) : TED := fun ρ M Q => ∀ p, M p = none → Q (.ref p) ρ (addM M p (.dk es))
theorem de_mdict0 : DE X K (.Dict [] [] pos) tDNewK (dMNew []) := ⟨pe_dnewK, fun A B M ρ σ H Q Q' r q kk p hp => by
  obtain ⟨R2, f2, m2, mp⟩ := r.newM (o := .dK []) (mo := .dk []) hp upd_same
  exact kk _ ρ _ B _ _ R2 f2 m2 (.ref p) (q p mp)⟩
theorem de_mdict1 {i j : Int} {t u : Nat} {p1 p2 : Pos} : DE X K (.Dict [some (.Constant (.int i) t p1)] [.Constant (.int j) u p2] pos) (tDisp [(tC (.int i), tC (.int j))]) (dMNew [(i, j)]) :=
  ⟨pe_disp (pps_cons pe_int pe_int pps_nil) rfl rfl (by simp) (Nat.le_of_ble_eq_true rfl), fun A B M ρ σ H Q Q' r q kk => fun p hp => by
    refine ⟨upd_same, [(.inl i, .int j)], rfl, Nat.le_of_ble_eq_true rfl, ?_⟩
    rw [upd_upd]
    obtain ⟨R2, f2, m2, mp⟩ := r.newM (o := .dK (mergeK [] [(.inl i, .int j)])) (mo := .dk [(i, j)]) hp upd_same
    exact kk _ ρ _ B _ _ R2 f2 m2 (.ref p) (q p mp)⟩
/-- d[k] -/
def dIxM (ta' tb' : TED) : TED := fun ρ M Q => ta' ρ M fun d ρ1 M1 => tb' ρ1 M1 fun e ρ2 M2 => ∃ p es k v, d = .ref p ∧ M2 p = some (.dk es) ∧ e = .int k ∧ getI es k = some v ∧ Q (.int v) ρ2 M2
theorem de_ixM (hu : X.A.units + 1 < cLine) (ha : DB X K a ta ta') (hb : DB X K b tb tb') (hs : NoSl b) : DE X K (.Subscript a b pos) (tDGet ta tb) (dIxM ta' tb') :=
  ⟨pe_dget hu ha.pe hb.pe hs, fun A B M ρ σ H Q Q' r q kk => ha.sim A B M ρ σ H _ _ r q fun d ρ1 M1 B1 v H1 R1 f1 m1 h1 q1 => hb.sim A B1 M1 ρ1 σ H1 _ _ R1 q1 fun e ρ2 M2 B2 u H2 R2 f2 m2 h2 q2 => by
    obtain ⟨p, es, k, w, rfl, hM, rfl, hg, q2⟩ := q2
    have hH : H2 p = some (.dK (dkI es)) := R2.ob p _ hM
    obtain rfl := h1.refM
    obtain rfl := h2.int
    exact ⟨p, .int w, rfl, .inl ⟨dkI es, .inl k, .inl hH, rfl, by rw [dkI_val, hg]; rfl⟩, kk _ ρ2 M2 B2 _ H2 R2 (f1.trans f2) (m1.trans m2) (.int w) q2⟩⟩
/-- d.get(k, x) -/
def dGetM (ta' tb' tc' : TED) : TED := fun ρ M Q => ta' ρ M fun d ρ1 M1 => ∃ p es0, d = .ref p ∧ M1 p = some (.dk es0) ∧ tb' ρ1 M1 fun e ρ2 M2 => tc' ρ2 M2 fun f ρ3 M3 => ∃ es k x, M3 p = some (.dk es) ∧ e = .int k ∧ f = .int x ∧ Q (.int ((getI es k).getD x)) ρ3 M3
theorem de_getM (hu : X.A.units + 1 < cLine) (ha : DB X K a ta ta') (hb : DB X K b tb tb') (hc : DB X K c tc tc')
    (h1 : attributeBase a "get" X.env (eval a X.env) = eval a X.env := by rfl)
    (h2 : ((backTo pos (starEach [b, c] X.env)).all (fun x => !x.1) && (backToKw pos (keywordEach [] X.env)).all (fun x => x.1.isSome)
    && decide (([b, c] : List Expr).length + ([] : List Keyword).length + (if ([] : List Keyword).isEmpty then 0 else 1) < 30)) = true := by rfl)
    (h3 : (apos.endLine == pos.line) = true := by rfl) (h4 : backTo pos (starEach [b, c] X.env) = [(false, eval b X.env), (false, eval c X.env)] := by rfl) :
    DE X K (.Call (.Attribute a "get" apos) [b, c] [] pos) (tDGet2 ta tb tc) (dGetM ta' tb' tc') :=
  ⟨pe_dget2 hu ha.pe hb.pe hc.pe ⟨h1, h2, h3, h4⟩, fun A B M ρ σ H Q Q' r q kk => ha.sim A B M ρ σ H _ _ r q fun d ρ1 M1 B1 v H1 R1 f1 m1 h1 q1 => by
    obtain ⟨p, es0, rfl, hM0, q1⟩ := q1
    obtain rfl := h1.refM
    refine ⟨p, rfl, .inl ⟨_, .inl (R1.ob p _ hM0)⟩, hb.sim A B1 M1 ρ1 σ H1 _ _ R1 q1 fun e ρ2 M2 B2 u H2 R2 f2 m2 h2 q2 => hc.sim A B2 M2 ρ2 σ H2 _ _ R2 q2 fun f ρ3 M3 B3 z H3 R3 f3 m3 h3 q3 => ?_⟩
    obtain ⟨es, k, x, hM, rfl, rfl, q3⟩ := q3
    obtain rfl := h2.int
    obtain rfl := h3.int
    refine ⟨_, .inl ⟨dkI es, .inl k, .inl (R3.ob p _ hM), rfl, rfl⟩, ?_⟩
    rw [dkI_val]
    have e : ((getI es k).map V.int).getD (.int x) = .int ((getI es k).getD x) := by cases getI es k <;> rfl
    rw [e]
    exact kk _ ρ3 M3 B3 _ H3 R3 ((f1.trans f2).trans f3) ((m1.trans m2).trans m3) (.int _) q3⟩
/-- d[k] = v -/
def dPutM (ta' tb' tc' : TED) : TSD := fun D ρ M => tc' ρ M fun f ρ1 M1 => ta' ρ1 M1 fun d ρ2 M2 => tb' ρ2 M2 fun e ρ3 M3 => ∃ p es k v, d = .ref p ∧ M3 p = some (.dk es) ∧ e = .int k ∧ f = .int v ∧ es.length < sizeLine ∧ D.nx ρ3 (addM M3 p (.dk (putI es k v)))
theorem ds_putM {pos' : Pos} (hu : X.A.units + 1 < cLine) (ha : DB X K a ta ta') (hb : DB X K b tb tb') (hc : DB X K c tc tc') (hs : swapsWith c (some (.Subscript a b pos')) pos.line X.env = pure false := by rfl) :
    DS X K (.Assign [.Subscript a b pos'] c pos) (sDPut ta tb tc) (dPutM ta' tb' tc') :=
  ⟨ps_dput hu ha.pe hb.pe hc.pe hs, fun A B M ρ σ H E D r q k => hc.sim A B M ρ σ H _ _ r q fun f ρ1 M1 B1 z H1 R1 f1 m1 h1 q1 => ha.sim A B1 M1 ρ1 σ H1 _ _ R1 q1 fun d ρ2 M2 B2 v H2 R2 f2 m2 h2 q2 => hb.sim A B2 M2 ρ2 σ H2 _ _ R2 q2 fun e ρ3 M3 B3 u H3 R3 f3 m3 h3 q3 => by
    obtain ⟨p, es, i, w, rfl, hM, rfl, rfl, hl, q3⟩ := q3
    obtain rfl := h2.refM
    obtain rfl := h3.int
    obtain rfl := h1.int
    have hH : H3 p = some (.dK (dkI es)) := R3.ob p _ hM
    obtain ⟨R4, f4, m4⟩ := R3.writeM (o := .dK (putK (dkI es) (.inl i) (.int w))) (mo' := .dk (putI es i w)) hM (by
      show upd H3 p _ p = _
      rw [upd_same, dkI_put])
    exact ⟨p, _, rfl, .inl ⟨dkI es, .inl i, hH, rfl, by rw [dkI_length]; exact hl, rfl⟩, k.nx ρ3 _ B3 σ _ R4 (((f1.trans f2).trans f3).trans f4) q3⟩⟩
/-- sorted(d) -/
def dSortM (ta' : TED) : TEN := fun ρ M Q => ta' ρ M fun d ρ1 M1 => ∃ p es, d = .ref p ∧ M1 p = some (.dk es) ∧ es.length < 64 ∧ ∀ ms : List Int, ms.Perm (es.map (·.1)) → ms.Pairwise (· ≤ ·) → Q (ms.map .int) ρ1 M1
abbrev rSortDI : List V → Hp → VK → Prop := fun xs H Q => ∃ (a : Addr) (kvs : List (Key × V)) (ks : List Int), xs = [.ref a] ∧ Rd H a (.dK kvs) ∧ kvs.map (·.1) = ks.map Sum.inl ∧ ks.length < 64 ∧
    ∀ (ys : List Int) (p : Addr), ys.Perm ks → ys.Pairwise (· ≤ ·) → H p = none → Q (.ref p) (upd H p (.lst (ys.map V.int)))
theorem dn_sortM {x : Str} {p : Pos} (hc : X.calm = true) (hg : Gl X x) (hm : X.mg x = none) (hv : bootBuiltins x = some (.builtin "sorted")) (ha : DB X K a ta ta')
    (hs : starEach [a] X.env = (false, eval a X.env) :: starEach [] X.env := by rfl) (hn : x ≠ "__name__" := by decide) (hdb : (x == ("__debug__" : Str)) = false := by decide) : DN X K (.Call (.Name x p) [a] [] pos) (tCB rSortDI (tCons ta tNil)) (dSortM ta') :=
  ⟨pe_callB (call_sortedDI hc) hg hm hv (pa_cons ha.pe pa_nil hs) hn hdb hs rfl, fun A B M ρ σ H Q Q' r q kk => ha.sim A B M ρ σ H _ _ r q fun d ρ1 M1 B1 v H1 R1 f1 m1 h1 q1 => by
    obtain ⟨p, es, rfl, hM, h64, q1⟩ := q1
    obtain rfl := h1.refM
    refine ⟨p, dkI es, es.map (·.1), rfl, .inl (R1.ob p _ hM), dkI_keys es, by rw [List.length_map]; exact h64, fun ys b h1 h2 hb => ?_⟩
    obtain ⟨B2, R2, f2, m2, hb2, h3⟩ := R1.newOwn (ds := ys.map .int) hb .ofInts
    exact kk _ ρ1 M1 B2 b _ _ R2 (f1.trans f2) (m1.trans m2) hb2 upd_same h3 (q1 ys h1 h2)⟩
/-- sum(d.values()) -/
def tSumVals (td : TE) : TE := fun σ H Q => td σ H fun x H1 => ∃ (p : Addr) (kvs : List (Key × V)) (is : List Int), x = V.ref p ∧ H1 p = some (.dK kvs) ∧ kvs.map (·.2) = is.map V.int ∧ Q (.int is.sum) H1
theorem pe_sumVals {p mpos : Pos} {o : Expr} {td : TE} (hc : X.calm = true) (hg : Gl X "sum") (hm : X.mg "sum" = none) (hd : PE X o td) (hbase : attributeBase o "values" X.env (eval o X.env) = eval o X.env := by rfl) (hline : (apos.endLine == mpos.line) = true := by rfl)
    (hse : starEach [Expr.Call (.Attribute o "values" apos) [] [] mpos] X.env = [(false, eval (Expr.Call (.Attribute o "values" apos) [] [] mpos) X.env)] := by rfl) :
    PE X (.Call (.Name "sum" p) [.Call (.Attribute o "values" apos) [] [] mpos] [] pos) (tSumVals td) := by
  refine ⟨fun pins s σ H Q I h => ?_⟩
  refine wpAny_Call_Name_kw (ld_blt I hg hm (u := .builtin "sum") (by first | rfl | decide +kernel) ?_ (by first | decide +kernel | decide) (by first | decide +kernel | decide))
  rw [hse]
  refine PySem.callWith_builtin1 (wpAny_Call_method0_late hbase hline (thn (hd.run pins s σ H _ I h) fun v s1 ⟨x, H1, I1, r1, a, kvs, is, ex, ha, hv, q⟩ => ?_))
  subst ex
  obtain rfl : v = Value.ref a := r1
  obtain ⟨_, hsys, vs, rel, dof⟩ := dk_of I1.hok ha
  obtain ⟨ep, dat⟩ := dof.dictAt
  have hdat := dat
  obtain ⟨ob, es, ho, ex, hdat, hko, hpr, hnd⟩ := hdat
  refine ⟨"dict", "dict.values", F.plainAttrs_dict, F.slot_dict_values, F.type_dict_values, ⟨ob, ho, ex.1⟩, fun b e => ?_, Calls.callWith_builtin rfl (PySem.evalArgs_none ?_)⟩
  · cases e
    exact ⟨ob, ho, ex.2.1⟩
  refine call_meetsIn F.slot_dict_values ⟨ob, ho, ex.1⟩ F.entry_dict_values (F.args_dict_values_1 _) (meets_dict_values (mixKind X.prog X.w) a hsys) ⟨⟨vs, dof⟩, ?_⟩
  have k1 : ∀ b u, s1.heap.get? b = some u → (s1.heap.push { cls := .type "dict_values", data := .fields #[.ref a] }).get? b = some u := fun b u e => Heap.get?_push_of_some _ e
  have dat1 : (s1.heap.push { cls := .type "dict_values", data := .fields #[.ref a] }).DictAt (mixKind X.prog X.w) a vs ep := dat.keep k1
  have hlv : vs.length = is.length := by
    have e1 := congrArg List.length hv
    rw [List.length_map, List.length_map] at e1
    rw [← e1]
    exact (KV.length rel).symm
  have hval : ∀ (i : Nat) (v : Value), (∃ k, vs[i]? = some (k, v)) → ∃ t, v = Value.int (is.getD i 0) t := fun i v ⟨k, hk⟩ => by
    obtain ⟨x, h1, h2⟩ := KV.at' rel hk
    have e1 : (kvs.map (·.2))[i]? = some x := by rw [List.getElem?_map, h1] <;> rfl
    rw [hv, List.getElem?_map] at e1
    obtain ⟨j, hj, e2⟩ := Option.map_eq_some_iff.mp e1
    subst e2
    obtain ⟨t, e3⟩ := h2
    refine ⟨t, ?_⟩
    rw [e3, List.getD_eq_getElem?_getD, hj] <;> rfl
  refine call_sum_walkG (wpAny_pyIter_values (v := s1.heap.objs.size) (d := a) ⟨_, Heap.get?_push_size _ rfl, rfl, rfl⟩ dat1 ?_)
  have hlt : a < s1.heap.objs.size := Heap.lt_size ho
  have hsz : (s1.heap.push { cls := .type "dict_values", data := .fields #[.ref a] }).objs.size = s1.heap.objs.size + 1 := Heap.size_push _ _
  refine ⟨_, _, _, _, _, _, _, rfl, Walks.dictValues (knd := mixKind X.prog X.w) (A := X.A.in1) (I.ok.hd hc) (s1.heap.push { cls := .type "dict_values", data := .fields #[.ref a] }).objs.size a (by rw [hsz]; exact Nat.ne_of_lt (Nat.lt_succ_of_lt hlt)) vs ep,
    ⟨⟨_, Heap.get?_push_size _ rfl, rfl, rfl⟩, dat1.keep fun b u e => Heap.get?_push_of_some _ e⟩, fun b hb => ?_, hval, fun h' tk t' hk => ?_⟩
  · show b < ((s1.heap.push _).push _).objs.size
    rw [Heap.size_push, Heap.size_push]
    rw [hsz] at hb
    rcases List.mem_cons.mp hb with e | hb
    · rw [e]
      exact Nat.lt_succ_self _
    · have e : b = a := List.mem_singleton.mp hb
      rw [e]
      exact Nat.lt_succ_of_lt (Nat.lt_succ_of_lt hlt)
  · refine ⟨.int _, H1, I1.kept (t' := tk) fun b u e => hk b u (fun hmem => ?_) (Heap.get?_push_of_some _ (k1 b u e)), ⟨t', rfl⟩, ?_⟩
    · have e1 : b = (s1.heap.push { cls := .type "dict_values", data := .fields #[.ref a] }).objs.size := List.mem_singleton.mp hmem
      have e2 := Heap.lt_size e
      rw [hsz] at e1
      rw [e1] at e2
      exact absurd e2 (Nat.not_lt.mpr (Nat.le_succ _))
    · rw [preSum_getD, hlv, List.take_length]
      exact q
def dSumM (ta' : TED) : TED := fun ρ M Q => ta' ρ M fun d ρ1 M1 => ∃ p es, d = .ref p ∧ M1 p = some (.dk es) ∧ Q (.int (es.map (·.2)).sum) ρ1 M1
theorem de_sumM {p mpos : Pos} (hc : X.calm = true) (hg : Gl X "sum") (hm : X.mg "sum" = none) (ha : DB X K a ta ta') (hbase : attributeBase a "values" X.env (eval a X.env) = eval a X.env := by rfl) (hline : (apos.endLine == mpos.line) = true := by rfl)
    (hse : starEach [Expr.Call (.Attribute a "values" apos) [] [] mpos] X.env = [(false, eval (Expr.Call (.Attribute a "values" apos) [] [] mpos) X.env)] := by rfl) :
    DE X K (.Call (.Name "sum" p) [.Call (.Attribute a "values" apos) [] [] mpos] [] pos) (tSumVals ta) (dSumM ta') :=
  ⟨pe_sumVals hc hg hm ha.pe hbase hline hse, fun A B M ρ σ H Q Q' r q kk => ha.sim A B M ρ σ H _ _ r q fun d ρ1 M1 B1 v H1 R1 f1 m1 h1 q1 => by
    obtain ⟨p, es, rfl, hM, q1⟩ := q1
    obtain rfl := h1.refM
    exact ⟨p, dkI es, es.map (·.2), rfl, R1.ob p _ hM, dkI_vals es, kk _ ρ1 M1 B1 _ H1 R1 f1 m1 (.int _) q1⟩⟩
end
end DM

/-! ### except x as n; isinstance of what was caught -/
namespace DM
open PySem PySem.Spec PyProof.Rows L2 TK
theorem u65m {k : Nat} {A : Around} {v : Option Value} (r : Room k A) : (A.mark v).units + 65 < cLine := by
  have := r.un
  rw [Around.mark_units]
  omega
theorem unitsm {k : Nat} {A : Around} {v : Option Value} (r : Room k A) : (A.mark v).units + 64 < cLine := by
  have := r.un
  show A.units + 64 < cLine
  omega
variable [g : Gd]
/-- what the clause 'except c as n' wishes of an error of the class at C: slot i is n's -/
def dAs (K : PySem.W.Frag) (W' : WD) (c : Value) (i : Nat) (th' : Addr → Value → Option Addr → TSD) (D : EndsD) : WD := fun C ρ M =>
  ∃ b, PySem.W.exmOne K (.ref C) c = some b ∧ if b = true then ∀ a : Addr, th' a (.ref C) none { nx := fun ρ' M' => D.nx (ρ'.set i .un) M', rt := D.rt, rn := D.rn, bk := fun ρ' M' => D.bk (ρ'.set i .un) M', ct := fun ρ' M' => D.ct (ρ'.set i .un) M' } (ρ.set i (.val (.ref a))) M else W' C ρ M
def dTryAs (K : PySem.W.Frag) (tb' : WD → TSD) (W' : WD) (c : Value) (i : Nat) (th' : Addr → Value → Option Addr → TSD) : TSD := fun D ρ M => tb' (dAs K W' c i th' D) D ρ M
section
variable {X : Cx} {K : PySem.W.Frag} {W : WX} {W' : WD} {c : Value} {i : Nat} {ts : Addr → Value → Option Addr → TS} {th' : Addr → Value → Option Addr → TSD}
theorem as_run (hx : Esc K W W') {A : CA} {B M ρ σ H E D} {C : Addr} (r : ER K A B M ρ σ H) (k : EndsOk K A (Av A B M) H D E) (h : ∀ a, SimS K (ts a (.ref C) none) (th' a (.ref C) none)) (q : dAs K W' c i th' D C ρ M) : wAs K c i ts W E (.ref C) none σ H := by
  obtain ⟨b, e, q⟩ := q
  refine ⟨b, e, fun hb a _ => ?_, fun hb => ?_⟩
  · rw [if_pos hb] at q
    exact h a A B M _ _ H _ _ (r.set (.ref a)) (q a) ⟨fun ρ' M' B' σ' H' r' f q' => k.nx _ _ _ _ _ r'.unset f q', k.rt, k.rn, fun ρ' M' B' σ' H' r' f q' => k.bk _ _ _ _ _ r'.unset f q', fun ρ' M' B' σ' H' r' f q' => k.ct _ _ _ _ _ r'.unset f q'⟩
  · rw [if_neg (by rw [hb]; decide)] at q
    exact hx _ _ _ _ _ _ _ r q
theorem sim_tryAs {tb : WX → TS} {tb' : WD → TSD} (hx : Esc K W W') (hb : ∀ (g2 : Gd) (W2 : WX) (W2' : WD), @Esc g2 K W2 W2' → @SimS g2 K (tb W2) (tb' W2')) (hh : ∀ (C a : Addr), SimS K (ts a (.ref C) none) (th' a (.ref C) none)) :
    SimS K (fun D σ H => tb (wAs K c i ts W D) D σ H) (dTryAs K tb' W' c i th') := fun A B M ρ σ H E D r q k => by
  have cc : ∀ Av1 H1, Fr (Av A B M) Av1 H H1 → g.F A Av1 H1 := fun _ _ f => g.cl f r.gd
  obtain ⟨r2, _⟩ := ER.sub (g := GdAt A (Av A B M) H) r (fun _ _ h => h) (fun _ h => h) ⟨fun _ _ h => h, fun _ h => h, .refl⟩
  refine hb (GdAt A (Av A B M) H) (wAs K c i ts W E) (dAs K W' c i th' D) (fun A1 B1 M1 ρ1 σ1 H1 C r1 q1 => ?_) A B M ρ σ H _ _ r2 q (k.chg cc)
  obtain ⟨h1, h2, f⟩ := @ER.gd (GdAt A (Av A B M) H) _ _ _ _ _ _ _ r1
  have f2 : Fr (Av A B M) (Av A B1 M1) H H1 := f.trans (.less fun b h => h.elim (fun h => .inl (by
    cases e : A.h b with
    | none => exact absurd e h
    | some o => rw [h1 b o e]; simp)) .inr)
  obtain ⟨r3, _⟩ := ER.sub (g := g) r1 h1 h2 (cc _ _ f2)
  exact as_run hx r3 (k.from f2) (hh C) q1
theorem ds_tryAs (i : Nat) {x n : Str} {body : List Stmt} {b₀ : Stmt} {suite : List Stmt} {np pos pos' : Pos} {tb : WX → TS} {tb' : WD → TSD} (hN : X.N.Nodup) (hc : Names X x c) (tk : Takes X W) (hx : Esc K W W')
    (hb : ∀ (g2 : Gd) (W2 : WX) (W2' : WD) (pn : List (Addr × Obj)) (xe : Value → Shared → Prop), Takes (X.tr pn xe) W2 → @Esc g2 K W2 W2' → @DSs g2 (X.tr pn xe) K body (tb W2) (tb' W2'))
    (hsu : ∀ (a : Addr) (oe : Obj) (cls : Value) (d : Option Addr) (pn : List (Addr × Obj)), Zc cls d oe → (∃ vs, oe.data = .fields vs) → DSs (X.suite a ((a, oe) :: pn)) K (b₀ :: suite) (ts a cls d) (th' a cls d))
    (hi : X.N[i]? = some n := by rfl) (hln : X.env.kindOf n = some .local := by rfl) (hs : X.stack = X.env :: X.outer := by rfl) (hf : X.env.frame = some X.env.locals := by rfl) (hK : X.K = K := by rfl) :
    DS X K (.Try body [.ExceptHandler (some (.Name x np)) (some n) (b₀ :: suite) pos'] [] [] pos) (fun D σ H => tb (wAs X.K c i ts W D) D σ H) (dTryAs K tb' W' c i th') := by
  subst hK
  refine ⟨ps_try_as hs hf hN hi hln hc tk (fun W2 pn xe t _ => @DSs.ps Gd.triv _ _ _ _ _ (hb Gd.triv W2 (fun _ _ _ => False) pn xe t (fun _ _ _ _ _ _ _ _ z => z.elim))) (fun a oe cls d pn hz hd => (hsu a oe cls d pn hz hd).ps), sim_tryAs hx (fun g2 W2 W2' e => @DSs.sim g2 _ _ _ _ _ (hb g2 W2 W2' [] (fun _ _ => True) (fun _ _ _ => trivial) e)) fun C a => ?_⟩
  exact (hsu a ⟨.ref C, none, .fields #[], #[]⟩ (.ref C) none [] ⟨rfl, rfl⟩ ⟨#[], rfl⟩).sim
/-- the name of an error's class -/
theorem de_gref {x : Str} {C : Addr} {pos : Pos} (hg : Gl X x) (hm : X.mg x = some (.ref C)) (hd : (x == ("__debug__" : Str)) = false := by decide) : DE X K (.Name x pos) (tC (.ref C)) (dC (.ref C)) :=
  ⟨pe_glob hg hm rfl hd, sim_c fun _ _ => .ref _⟩
def rIsX (K : PySem.W.Frag) (cls : Value) (d : Option Addr) (a : Addr) : List V → Hp → VK → Prop := fun xs H Q => ∃ D, cls = .ref D ∧ d = none ∧ ExcC K D ∧ rIsE K D a xs H Q
theorem call_isX {a : Addr} {oe : Obj} {cls : Value} {d : Option Addr} {pn : List (Addr × Obj)} (hz : Zc cls d oe) (hf : ∃ vs, oe.data = .fields vs) : CallR (X.suite a ((a, oe) :: pn)) (.builtin "isinstance") (rIsX X.K cls d a) := by
  intro pins s σ H xs us Q I r h
  obtain ⟨D, rfl, rfl, C, h⟩ := h
  exact call_isE C hz hf pins s σ H xs us Q I r h
def clsD : D → Option Value
  | .ref C => some (.ref C)
  | .ty n => some (.type n)
  | _ => none
/-- isinstance(e, c), e what was caught -/
def dIsE (K : PySem.W.Frag) (cls : Value) (a : Addr) (te' tc' : TED) : TED := fun ρ M Q => te' ρ M fun x ρ1 M1 => tc' ρ1 M1 fun y ρ2 M2 => ∃ D cv b, cls = .ref D ∧ x = .ref a ∧ clsD y = some cv ∧ ExcC K D ∧ PySem.W.kitOne K (.ref D) cv = some b ∧ Q (.bl b) ρ2 M2
theorem de_isE {a : Addr} {oe : Obj} {cls : Value} {d : Option Addr} {pn : List (Addr × Obj)} {x : Str} {p pos : Pos} {e c : Expr} {te tc : TE} {te' tc' : TED} (hz : Zc cls d oe) (hf : ∃ vs, oe.data = .fields vs)
    (hg : Gl (X.suite a ((a, oe) :: pn)) x) (hm : (X.suite a ((a, oe) :: pn)).mg x = none) (hv : bootBuiltins x = some (.builtin "isinstance")) (he : DE (X.suite a ((a, oe) :: pn)) K e te te') (hc : DE (X.suite a ((a, oe) :: pn)) K c tc tc')
    (hs : starEach [e, c] X.env = (false, eval e X.env) :: starEach [c] X.env := by rfl) (hs2 : starEach [c] X.env = (false, eval c X.env) :: starEach [] X.env := by rfl) (hpl : (backTo pos (starEach [c] X.env)).any (·.1) = false := by rfl)
    (hn : x ≠ "__name__" := by decide) (hdb : (x == ("__debug__" : Str)) = false := by decide) (hK : X.K = K := by rfl) :
    DE (X.suite a ((a, oe) :: pn)) K (.Call (.Name x p) [e, c] [] pos) (tCB (rIsX X.K cls d a) (tCons te (tCons tc tNil))) (fun ρ M Q => d = none ∧ dIsE K cls a te' tc' ρ M Q) := by
  subst hK
  refine ⟨pe_callB (call_isX hz hf) hg hm hv (pa_cons he.pe (pa_cons hc.pe pa_nil hs2) hs) hn hdb hs hpl, fun A B M ρ σ H Q Q' r q kk => ?_⟩
  obtain ⟨rfl, q⟩ := q
  refine he.sim A B M ρ σ H _ _ r q fun y ρ1 M1 B1 v H1 R1 f1 m1 h1 q1 => hc.sim A B1 M1 ρ1 σ H1 _ _ R1 q1 fun z ρ2 M2 B2 u H2 R2 f2 m2 h2 q2 => ?_
  obtain ⟨D, cv, b, rfl, rfl, ec, C, ek, q2⟩ := q2
  obtain rfl := h1.refM
  have hcv : ∀ w, RelV u w → w = cv := fun w rw => by
    cases z with
    | ref Z =>
      obtain rfl := h2.refM
      cases ec
      exact rw
    | ty n =>
      cases h2
      cases ec
      exact rw
    | _ => cases ec
  exact ⟨D, rfl, rfl, C, _, cv, b, rfl, hcv, ek, kk _ ρ2 M2 B2 _ H2 R2 (f1.trans f2) (m1.trans m2) (.bl b) q2⟩
end
end DM
namespace TK
open PySem PySem.Spec PyProof.Rows L2
theorem kit_self {K : PySem.W.Frag} {A : Addr} : PySem.W.kitOne K (.ref A) (.ref A) = some true := by
  unfold PySem.W.kitOne
  rw [if_pos (show (Value.ref A == Value.ref A) = true from by simp)]
theorem kit_mk {K : PySem.W.Frag} {A B : Addr} {r : Bool} (h : (Value.ref A == Value.ref B) = false) (t : PySem.W.typeIn K (.ref B) = some (.type "type")) (c : PySem.W.isClsIn K B = true) (s : PySem.W.subIn K (.ref A) (.ref B) = some r) : PySem.W.kitOne K (.ref A) (.ref B) = some r := by
  unfold PySem.W.kitOne PySem.W.kitCls
  rw [h]
  show (if ((PySem.W.clsIn K B).isSome && PySem.W.typeIn K (.ref B) == some (.type "type")) = true then PySem.W.subIn K (.ref A) (.ref B) else none) = some r
  rw [t]
  have hc : (PySem.W.clsIn K B).isSome = true := c
  rw [hc]
  exact s
theorem kit_mkT {K : PySem.W.Frag} {A : Addr} {T : String} {r : Bool} (h : PySem.W.kitMeta T = true) (s : PySem.W.subIn K (.ref A) (.type T) = some r) : PySem.W.kitOne K (.ref A) (.type T) = some r := by
  unfold PySem.W.kitOne PySem.W.kitCls
  show (if (Value.ref A == Value.type T) = true then some true else if PySem.W.kitMeta T = true then PySem.W.subIn K (.ref A) (.type T) else none) = some r
  rw [if_neg (by intro z; cases z), if_pos h]
  exact s
end TK

namespace My
open PySem PySem.Spec PyProof.Rows L2 TK DM
def topS (i : Nat) : Stmt := PySem.Challenge.pw_timekernel_k09_rates_seen_gone_through.main.body.getD i (.Pass ⟨0, 0, 0, 0⟩)

structure Txt (mg : Str → Option Value) : Prop where
  len : mg "len" = none
  int : mg "int" = none
  range : mg "range" = none
  isinstance : mg "isinstance" = none
  bool : mg "bool" = none
  tuple : mg "tuple" = none
  list : mg "list" = none
  max : mg "max" = none
  min : mg "min" = none
  abs : mg "abs" = none
  mgMOST_SHIFT : ∃ t, mg "MOST_SHIFT" = some (.int (64) t)
local macro_rules | `(tactic| walk_at "side") => `(tactic| first
  | with_reducible assumption
  | omega
  | (simp only [List.length_map]; omega)
  | ((with_reducible refine posLen ?h); (case h => exact rfl))
  | ((with_reducible refine ltLen ?h); (case h => exact rfl))
  | (show (0 : Int) < _; omega)
  | (show (0 : Int) ≤ _; omega)
  | with_reducible exact Dr.src (by assumption)
  | ((with_reducible refine Src.new ?h1 ?h2); (case h2 => assumption); (case h1 => walk_at "side"))
  | ((with_reducible refine Src.set ?h1 ?h2); (case h2 => assumption); (case h1 => walk_at "side"))
  | exact w200 (by omega) (by omega)
  | exact shl400 (by omega) (by omega) (by omega)
  | exact mulE1 (by omega) (by omega)
  | exact mulE2 (by omega) (by omega)
  | exact mulE3 (by omega) (by omega)
  | exact Or.inr ⟨by omega, by omega⟩
  | exact Or.inl ⟨by omega, by omega⟩
  | exact Or.inr ⟨by decide, by decide⟩
  | exact Or.inl ⟨by decide, by decide⟩
  | exact rfl
  | exact ⟨by omega, by omega, by omega⟩
  | exact ⟨by decide, by decide, by decide⟩
  | exact Nat.le_of_ble_eq_true rfl)
local macro_rules | `(tactic| walk_at "has") => `(tactic| first
  | with_reducible assumption
  | with_reducible exact upd_same
  | ((with_reducible refine upd_at ?h1 ?h2); (case h2 => assumption); (case h1 => walk_at "has"))
  | (refine Dr.at (by assumption) ?h1 ?h2; (case h1 => assumption); (case h2 => walk_at "has")))
local macro_rules | `(tactic| walk_at "sql") => `(tactic| first | assumption | exact SqL.of (by walk_at "has"))
local macro_rules | `(tactic| walk_at "sqt") => `(tactic| first | assumption | exact SqT.of (by walk_at "has"))
local macro_rules | `(tactic| walk_at "ty") => `(tactic| first | exact .base (.int _) | exact .base .non | exact .base (.bl _) | exact .base (.str _) | exact .base (.tup (by walk_at "has")) | exact .base (.lst (by walk_at "has")) | exact .base (.dK (by walk_at "has")))
local macro_rules | `(tactic| walk_at "go1") => `(tactic| first
  | refine ⟨_, rfl, ?_⟩
  | refine ⟨_, _, rfl, rfl, ?_⟩
  | (refine And.intro ?side ?_; (case side => walk_at "side"))
  | (refine ⟨?rr, IsR.mk ?eq, ?_⟩; (case eq => first | (conv => lhs; simp only [Int.reduceToNat, Int.reducePow, Int.reduceMul, Int.one_mul]) | rfl))
  | (refine Or.inl ⟨_, rfl, ?_⟩)
  | refine iteT ?_
  | refine iteF ?_
  | refine ⟨_, _, rfl, ?_⟩
  | refine ⟨_, _, rfl, Or.inl (by walk_at "sql"), ?_⟩
  | refine ⟨_, _, rfl, Or.inr (by walk_at "sqt"), ?_⟩
  | refine ⟨_, _, _, rfl, ?_⟩
  | refine ⟨_, _, _, _, rfl, rfl, by walk_at "sql", rfl, ?_⟩
  | refine ⟨_, _, _, _, rfl, rfl, by walk_at "sqt", rfl, ?_⟩
  | refine ⟨_, _, _, _, rfl, rfl, by walk_at "has", rfl, ?_⟩
  | refine ⟨_, _, _, _, _, rfl, .ty _, by walk_at "ty", kit_ty (r := true) (by decide +kernel), ?_⟩
  | refine ⟨_, _, _, _, _, rfl, .ty _, by walk_at "ty", kit_ty (r := false) (by decide +kernel), ?_⟩
  | refine ⟨_, _, rfl, by walk_at "sqt", rfl, ?_⟩
  | refine And.intro (Or.inl ⟨rfl, _, by walk_at "sql"⟩) ?_
  | refine ⟨_, _, _, rfl, rfl, by walk_at "has", Nat.le_of_ble_eq_true rfl, ?_⟩
  | refine ⟨_, _, _, _, rfl, rfl, by walk_at "has", by walk_at "has", Nat.le_of_ble_eq_true rfl, ?_⟩
  | refine And.intro ⟨_, by walk_at "sql"⟩ ?_
  | refine ⟨_, _, _, _, rfl, rfl, by walk_at "sql", at_nth (by omega) (by omega), ?_⟩
  | refine ⟨_, _, rfl, by walk_at "sql", ?_⟩
  | refine ifD (by omega) ?_
  | refine ifN (by omega) ?_
  | refine ifDn (by omega) ?_
  | refine ifNn (by omega) ?_
  | refine ifE (by omega) ?_
  | refine ifEn (by omega) ?_)
local macro_rules | `(tactic| walk_at "go") => `(tactic| repeat walk_at "go1")

local macro_rules | `(tactic| walk_at "dside") => `(tactic| first
  | with_reducible assumption
  | omega
  | exact rfl
  | exact ⟨by omega, by omega⟩
  | exact w200 (by omega) (by omega)
  | exact shl400 (by omega) (by omega) (by omega)
  | exact mulE1 (by omega) (by omega)
  | exact mulE2 (by omega) (by omega)
  | exact mulE3 (by omega) (by omega)
  | exact ⟨by omega, by omega, by omega⟩
  | exact ⟨by omega, by omega, by omega, by omega⟩
  | exact ⟨by decide, by decide, by decide⟩
  | exact Nat.le_of_ble_eq_true rfl
  | exact line (by first | omega | (simp only [List.length_append, List.length_map, List.length_cons, List.length_nil, List.length_reverse, List.length_replicate, List.length_take, List.length_drop, List.length_range, rng_len] at *; omega))
  | exact lineL (by first | omega | (simp only [List.length_append, List.length_map, List.length_cons, List.length_nil, List.length_reverse, List.length_replicate, List.length_take, List.length_drop, List.length_range, rng_len] at *; omega)))
local macro_rules | `(tactic| walk_at "dgo1") => `(tactic| first
  | refine ⟨_, rfl, ?_⟩
  | refine ⟨_, _, rfl, rfl, ?_⟩
  | (refine And.intro ?side ?_; (case side => walk_at "dside"))
  | (refine ⟨?rr, IsR.mk ?eq, ?_⟩; (case eq => first | (conv => lhs; simp only [Int.reduceToNat, Int.reducePow, Int.reduceMul, Int.one_mul]) | rfl))
  | refine iteT ?_
  | refine iteF ?_
  | refine ⟨_, _, _, rfl, rfl, rfl, ?_⟩
  | refine ⟨_, _, rfl, ?_⟩
  | refine ⟨_, _, rfl, rfl, by decide +kernel, ?_⟩
  | refine ifD (by omega) ?_
  | refine ifN (by omega) ?_
  | refine ifDn (by omega) ?_
  | refine ifNn (by omega) ?_)
local macro_rules | `(tactic| walk_at "dgo") => `(tactic| repeat walk_at "dgo1")

/-! ### draws -/
def spCell (K : PySem.W.Frag) : Sp := fun vs H Q _ => ∃ (a : Addr) (ns : List Int) (k : Int), vs = [.ref a, .int k] ∧ SqL K H a (ns.map V.int) ∧ 0 ≤ k ∧ ∀ c : Int, Q (.int c) H
def spMixed : Sp := fun vs H Q _ => ∃ (c k : Int), vs = [.int c, .int k] ∧ ∀ r : Int, 0 ≤ r → r < 2147483563 → Q (.int r) H
def spSource (K : PySem.W.Frag) : Sp := fun vs H Q _ => ∃ (a : Addr) (ns : List Int) (k : Int), vs = [.ref a, .int k] ∧ SqL K H a (ns.map V.int) ∧ 0 ≤ k ∧ ∀ (p : Addr) (x y n : Int), H p = none → Q (.ref p) (upd H p (.lst [.int x, .int y, .int n]))
def spNext : Sp := fun vs H Q _ => ∃ (a : Addr) (m : Int), vs = [.ref a, .int m] ∧ Src H a ∧ 0 < m ∧ m  < 1606938044258990275541962092341162602522202993782792835301376 ∧ ∀ (r : Int) (H' : Hp), 0 ≤ r → r < m → Dr a H H' → Q (.int r) H'
section
variable {P : Program} {w : World} {K : PySem.W.Frag} {mg : Str → Option Value} {base : Heap}
abbrev sLCellAt : Stmt := topS 15
theorem scLCellAt : FnScope ["script", "k"] ["script", "k"] (defScope sLCellAt) := ⟨rfl, rfl, rfl, by decide +kernel, rfl, by decide +kernel, by decide +kernel⟩
set_option maxHeartbeats 2000000 in
theorem ok_LCellAt (D : DefAt K mg "_law_cell_at" sLCellAt ["script", "k"])  (T : Txt mg) : Cal P w K mg base "_law_cell_at" ["script", "k"] 1 (spCell K) := by
  refine D.cal scLCellAt (fun vs H Q E h => (by (obtain ⟨_, _, _, rfl, _⟩ := h); rfl)) (fun f cdv A outer s H vs Q E hr h => ?_)
  obtain ⟨a, ns, k, rfl, hS, h0, q⟩ := h
  refine ⟨_, pss_cons (ps_if (pt_cmpR op_lt (pv 1) (pe_callB call_len_seq (by rfl) T.len PySem.boot_len (pa_cons (pv 0) pa_nil)) (nomark _))
        (pss_one (ps_ret (pe_ix ix_list (pv 0) (pv 1) (fun _ _ => rfl))))
        pss_nil)
      (pss_one (ps_ret pe_int)), ?_⟩
  refine ⟨_, rfl, .ref a, rfl, a, _, rfl, .inl hS, _, _, rfl, rfl, _, rfl, ite2 (fun e => ?_) (fun e => ?_)⟩
  · have e1 : k < ((ns.map V.int).length : Int) := of_decide_eq_true e
    rw [List.length_map] at e1
    have hk : k.toNat < ns.length := by omega
    refine ⟨.ref a, rfl, _, rfl, a, _, k, .int (ns[k.toNat]), rfl, rfl, hS, at_of (j := k.toNat) (by omega) ?_, ?_⟩
    · rw [List.getElem?_map, List.getElem?_eq_getElem hk]
      rfl
    · exact q _
  · exact q _
abbrev sLMixed : Stmt := topS 16
theorem scLMixed : FnScope ["cell", "k", "low"] ["cell", "k"] (defScope sLMixed) := ⟨rfl, rfl, rfl, by decide +kernel, rfl, by decide +kernel, by decide +kernel⟩
set_option maxHeartbeats 2000000 in
theorem ok_LMixed (D : DefAt K mg "_law_mixed" sLMixed ["cell", "k"])  (T : Txt mg) : Cal P w K mg base "_law_mixed" ["cell", "k"] 1 (spMixed) := by
  refine D.cal scLMixed (fun vs H Q E h => (by (obtain ⟨_, _, rfl, _⟩ := h); rfl)) (fun f cdv A outer s H vs Q E hr h => ?_)
  obtain ⟨c, k, rfl, q⟩ := h
  refine ⟨_, pss_cons (ps_set (i := 2) scLMixed.nd rfl (Or.inl rfl) (pe_op op_add (pe_op op_mod (pe_callTy call_int1 (by rfl) T.int (by decide +kernel) (pa_cons (pv 0) pa_nil)) pe_int) (pe_op op_mulE (pe_op op_fdivW (pv 0) pe_int) pe_int)))
      (pss_cons (ps_set (i := 2) scLMixed.nd rfl (Or.inl rfl) (pe_op op_mod (pe_callTy call_int1 (by rfl) T.int (by decide +kernel) (pa_cons (pe_op op_mulE (pe_op op_add (pe_op op_add (pv 2) (pe_op op_mulE pe_int (pv 1))) pe_int) pe_int) pa_nil)) pe_int))
      (pss_cons (ps_set (i := 2) scLMixed.nd rfl (Or.inl rfl) (pe_op op_mod (pe_callTy call_int1 (by rfl) T.int (by decide +kernel) (pa_cons (pe_op op_mulE (pv 2) (pe_op op_add (pe_op op_add (pe_op op_fdivW (pv 2) pe_int) pe_int) (pv 1))) pa_nil)) pe_int))
      (pss_one (ps_ret (pe_op op_mod (pe_callTy call_int1 (by rfl) T.int (by decide +kernel) (pa_cons (pe_op op_mulE (pv 2) (pe_op op_add (pe_op op_fdivW (pv 2) pe_int) pe_int)) pa_nil)) pe_int))))), ?_⟩
  walk_at "go"
  exact q _ (Int.emod_nonneg _ (by decide)) (Int.emod_lt_of_pos _ (by decide))
abbrev sLSource : Stmt := topS 17
theorem scLSource : FnScope ["script", "k", "cell"] ["script", "k"] (defScope sLSource) := ⟨rfl, rfl, rfl, by decide +kernel, rfl, by decide +kernel, by decide +kernel⟩
set_option maxHeartbeats 2000000 in
theorem ok_LSource (D : DefAt K mg "_law_source" sLSource ["script", "k"]) (CLMixed : Cal P w K mg base "_law_mixed" ["cell", "k"] 1 (spMixed)) (CLCellAt : Cal P w K mg base "_law_cell_at" ["script", "k"] 1 (spCell K)) (T : Txt mg) : Cal P w K mg base "_law_source" ["script", "k"] 2 (spSource K) := by
  refine D.cal scLSource (fun vs H Q E h => (by (obtain ⟨_, _, _, rfl, _⟩ := h); rfl)) (fun f cdv A outer s H vs Q E hr h => ?_)
  obtain ⟨a, ns, k, rfl, hS, h0, q⟩ := h
  refine ⟨_, pss_cons (ps_if (pt_cmpR op_lt (pv 1) (pe_callB call_len_seq (by rfl) T.len PySem.boot_len (pa_cons (pv 0) pa_nil)) (nomark _))
        (pss_one (ps_ret (pe_lst (pa_cons (pe_ix ix_list (pv 0) (pv 1) (fun _ _ => rfl)) (pa_cons (pe_ix ix_list (pv 0) (pv 1) (fun _ _ => rfl)) (pa_cons pe_int pa_nil))))))
        pss_nil)
      (pss_cons (ps_set (i := 2) scLSource.nd rfl (Or.inl rfl) (pe_cal CLMixed hr (by rfl) (pa_cons (pe_cal CLCellAt hr (by rfl) (pa_cons (pv 0) (pa_cons pe_int pa_nil))) (pa_cons (pe_op op_add pe_int (pv 1)) pa_nil))))
      (pss_one (ps_ret (pe_lst (pa_cons (pv 2) (pa_cons (pv 2) (pa_cons pe_int pa_nil))))))), ?_⟩
  walk_at "go"
  refine ite2 (fun e => ?_) (fun e => ?_)
  · have e1 : k < ((ns.map V.int).length : Int) := of_decide_eq_true e
    rw [List.length_map] at e1
    have hk : k.toNat < ns.length := by omega
    have hv : (ns.map V.int)[k.toNat]? = some (.int (ns[k.toNat])) := by
      rw [List.getElem?_map, List.getElem?_eq_getElem hk]
      rfl
    have ek : k = (k.toNat : Int) := by omega
    refine ⟨.ref a, rfl, _, rfl, a, _, k, .int (ns[k.toNat]), rfl, rfl, hS, at_of ek hv, ?_⟩
    refine ⟨.ref a, rfl, _, rfl, a, _, k, .int (ns[k.toNat]), rfl, rfl, hS, at_of ek hv, ?_⟩
    walk_at "go"
    intro p hp
    exact q p _ _ _ hp
  · refine ⟨_, rfl, a, ns, 0, rfl, hS, by omega, fun c => ?_⟩
    walk_at "go"
    intro r r0 r1
    walk_at "go"
    intro p hp
    exact q p _ _ _ hp
abbrev sLNext : Stmt := topS 18
theorem scLNext : FnScope ["source", "many", "found"] ["source", "many"] (defScope sLNext) := ⟨rfl, rfl, rfl, by decide +kernel, rfl, by decide +kernel, by decide +kernel⟩
set_option maxHeartbeats 2000000 in
theorem ok_LNext (D : DefAt K mg "_law_next" sLNext ["source", "many"]) (CLMixed : Cal P w K mg base "_law_mixed" ["cell", "k"] 1 (spMixed)) (T : Txt mg) : Cal P w K mg base "_law_next" ["source", "many"] 2 (spNext) := by
  refine D.cal scLNext (fun vs H Q E h => (by (obtain ⟨_, _, rfl, _⟩ := h); rfl)) (fun f cdv A outer s H vs Q E hr h => ?_)
  obtain ⟨a, m, rfl, ⟨x, y, n, hS⟩, h0, h1, q⟩ := h
  refine ⟨_, pss_cons (ps_if (pt_cmpR op_ge (pe_ix ix_list (pv 0) pe_int (fun _ _ => rfl)) (pe_op op_powE pe_int pe_int) (nomark _))
        (pss_cons (ps_set (i := 2) scLNext.nd rfl (Or.inl rfl) (pe_op op_mod (pe_callTy call_int1 (by rfl) T.int (by decide +kernel) (pa_cons (pe_ix ix_list (pv 0) pe_int (fun _ _ => rfl)) pa_nil)) (pv 1)))
        (pss_cons (ps_asg (pe_op op_fdivW (pe_ix ix_list (pv 0) pe_int (fun _ _ => rfl)) (pv 1)) (pg_sub (pv 0) pe_int set_list))
        (pss_one (ps_ret (pv 2)))))
        pss_nil)
      (pss_cons (ps_asg (pe_op op_add (pe_ix ix_list (pv 0) pe_int (fun _ _ => rfl)) pe_int) (pg_sub (pv 0) pe_int set_list))
      (pss_one (ps_ret (pe_op op_mod (pe_callTy call_int1 (by rfl) T.int (by decide +kernel) (pa_cons (pe_cal CLMixed hr (by rfl) (pa_cons (pe_ix ix_list (pv 0) pe_int (fun _ _ => rfl)) (pa_cons (pe_ix ix_list (pv 0) pe_int (fun _ _ => rfl)) pa_nil))) pa_nil)) (pv 1))))), ?_⟩
  walk_at "go"
  refine ite2 (fun e => ?_) (fun e => ?_)
  · walk_at "go"
    refine q _ _ (Int.emod_nonneg _ (by omega)) (Int.emod_lt_of_pos _ h0) ⟨⟨_, _, _, upd_same⟩, sb_upd⟩
  · walk_at "go"
    intro r r0 r1
    walk_at "go"
    exact q _ _ (Int.emod_nonneg _ (by omega)) (Int.emod_lt_of_pos _ h0) ⟨⟨_, _, _, upd_same⟩, sb_upd⟩

/-! ### draws, told by data -/
theorem mok_src {K : PySem.W.Frag} {A : CA} {M : Mm} {H H' : Hp} {a : Addr} (o : ROk K A M H) (ma : M a = some .src) (d : Dr a H H') : ROk K A M H' ∧ FrM M M H H' := by
  have f : Fr (Avc A M) (Avc A M) H H' := fun b u n e => ⟨d.but b u (fun z => n (by subst z; exact .inr (.inr (by rw [ma]; simp)))) e, n⟩
  have ne : ∀ b u, A.h b = some u → b ≠ a := fun b u e z => by subst z; rw [o.sep b (by rw [e]; simp)] at ma; cases ma
  refine ⟨⟨fun b mo e => ?_, fun b hb => ?_, o.sep, fun b u e => d.but b u (ne b u e) (o.sn b u e), o.md⟩, fun b u n e => ⟨d.but b u (fun z => by subst z; rw [n] at ma; cases ma) e, n⟩⟩
  · by_cases h : b = a
    · subst h
      rw [ma] at e
      cases e
      exact d.src
    · exact (o.ob b mo e).fr f fun u hu => d.but b u h hu
  · by_cases h : b = a
    · subst h
      obtain ⟨x, y, n, e⟩ := d.src
      rw [e]
      simp
    · cases q : H b with
      | none => exact absurd q (o.tr b hb)
      | some u => rw [d.but b u h q]; simp
def sdNext : SpD := fun ds M Q _ _ => ∃ (a : Addr) (m : Int), ds = [.ref a, .int m] ∧ M a = some .src ∧ 0 < m ∧ m < 1606938044258990275541962092341162602522202993782792835301376 ∧ ∀ r : Int, 0 ≤ r → r < m → Q (.int r) M
theorem mo_LNext : SpMono (sdNext) := ⟨fun ds M Q N E Q' N' E' mh mh1 mh2 mh3 => by
  obtain ⟨a, m, rfl, ma, m0, m1, q⟩ := mh
  refine ⟨a, m, rfl, ma, m0, m1, ?_⟩
  first
  | exact mh1 _ _ q
  | exact mh2 _ _ q
  | exact fun a => mh1 _ _ (q a)
  | exact fun a b => mh1 _ _ (q a b)
  | exact fun a b c => mh1 _ _ (q a b c)
  | exact fun a b c d => mh1 _ _ (q a b c d)
  | exact fun a b c d e => mh1 _ _ (q a b c d e)
  | exact fun a => mh2 _ _ (q a)
  | exact fun a b => mh2 _ _ (q a b)
  | exact fun a b c => mh2 _ _ (q a b c)
  | exact fun a b c d => mh2 _ _ (q a b c d)
  | exact fun a b c d e => mh2 _ _ (q a b c d e)
  | exact ⟨fun a => mh1 _ _ (q.1 a), fun a => mh3 _ _ (q.2 a)⟩
  | exact ⟨fun a => mh2 _ _ (q.1 a), fun a => mh3 _ _ (q.2 a)⟩⟩

theorem cv_LNext (C : Cal P w K mg base "_law_next" ["source", "many"] 2 (spNext)) : Cal P w K mg base "_law_next" ["source", "many"] 2 (ofD K (sdNext)) := by
  refine calD C (fun vs H Q E h => ?_)
  obtain ⟨A, M, ds, o, hd, a, m, rfl, ma, m0, m1, q⟩ := h
  cases hd with
  | cons h1 h2 => cases h2 with
    | cons h3 h4 =>
      cases h4
      cases h1
      cases h3
      refine ⟨a, m, rfl, o.ob a _ ma, m0, m1, fun r H' r0 r1 d => ?_⟩
      obtain ⟨o', f'⟩ := mok_src o ma d
      exact q r r0 r1 _ H' o' f' (.int _)
def sdSource : SpD := fun ds M Q _ _ => ∃ (ns : List Int) (k : Int), ds = [.kl (ns.map .int), .int k] ∧ 0 ≤ k ∧ ∀ p : Addr, Q (.ref p) (addM M p .src)
theorem mo_LSource : SpMono (sdSource) := ⟨fun ds M Q N E Q' N' E' mh mh1 mh2 mh3 => by
  obtain ⟨ns, k, rfl, k0, q⟩ := mh
  refine ⟨ns, k, rfl, k0, ?_⟩
  first
  | exact mh1 _ _ q
  | exact mh2 _ _ q
  | exact fun a => mh1 _ _ (q a)
  | exact fun a b => mh1 _ _ (q a b)
  | exact fun a b c => mh1 _ _ (q a b c)
  | exact fun a b c d => mh1 _ _ (q a b c d)
  | exact fun a b c d e => mh1 _ _ (q a b c d e)
  | exact fun a => mh2 _ _ (q a)
  | exact fun a b => mh2 _ _ (q a b)
  | exact fun a b c => mh2 _ _ (q a b c)
  | exact fun a b c d => mh2 _ _ (q a b c d)
  | exact fun a b c d e => mh2 _ _ (q a b c d e)
  | exact ⟨fun a => mh1 _ _ (q.1 a), fun a => mh3 _ _ (q.2 a)⟩
  | exact ⟨fun a => mh2 _ _ (q.1 a), fun a => mh3 _ _ (q.2 a)⟩⟩

theorem cv_LSource (C : Cal P w K mg base "_law_source" ["script", "k"] 2 (spSource K)) : Cal P w K mg base "_law_source" ["script", "k"] 2 (ofD K (sdSource)) := by
  refine calD C (fun vs H Q E h => ?_)
  obtain ⟨A, M, ds, o, hd, ns, k, rfl, k0, q⟩ := h
  cases hd with
  | cons h1 h2 => cases h2 with
    | cons h3 h4 =>
      cases h4
      cases h3
      cases h1 with
      | kl s l =>
        rw [l.ints] at s
        refine ⟨_, ns, k, rfl, s.sq, k0, fun p x y n hp => ?_⟩
        have mp : M p = none := by
          cases e : M p with
          | none => rfl
          | some mo => exact absurd hp (o.tr p (by rw [e]; simp))
        have ap : A.h p = none := by
          cases e : A.h p with
          | none => rfl
          | some u => rw [o.sn p u e] at hp; cases hp
        have ne : ∀ b u, H b = some u → b ≠ p := fun b u e z => by subst z; rw [hp] at e; cases e
        have k1 : ∀ b u, H b = some u → upd H p (.lst [.int x, .int y, .int n]) b = some u := fun b u e => by rw [upd_ne (ne b u e)]; exact e
        have f : Fr (Avc A M) (Avc A (addM M p .src)) H (upd H p (.lst [.int x, .int y, .int n])) := fun b u nb e => ⟨k1 b u e, fun h => by
          rcases h with h | ⟨i, h⟩ | h
          · exact nb (.inl h)
          · cases h
          · refine nb (.inr (.inr ?_))
            unfold addM at h
            rw [if_neg (ne b u e)] at h
            exact h⟩
        refine q p _ _ ⟨fun b mo e => ?_, fun b hb => ?_, fun b hb => ?_, fun b u e => k1 b u (o.sn b u e), fun b hb => ?_⟩ (fun b u nb e => ⟨k1 b u e, ?_⟩) (.ref _)
        · by_cases h : b = p
          · subst h
            rw [addM_same] at e
            cases e
            exact ⟨x, y, n, upd_same⟩
          · unfold addM at e
            rw [if_neg h] at e
            exact (o.ob b mo e).fr f fun u hu => k1 b u hu
        · by_cases h : b = p
          · subst h; rw [upd_same]; simp
          · unfold addM at hb
            rw [if_neg h] at hb
            rw [upd_ne h]
            exact o.tr b hb
        · unfold addM
          rw [if_neg fun z => hb (by subst z; exact ap)]
          exact o.sep b hb
        · unfold addM
          split
          · simp
          · exact o.md b hb
        · unfold addM
          rw [if_neg (ne b u e)]
          exact nb

theorem kb_ii : kitB "int" "int" = some true := by decide +kernel
theorem kb_ib : kitB "int" "bool" = some false := by decide +kernel
theorem kb_tt : kitB "tuple" "tuple" = some true := by decide +kernel
theorem kb_ll : kitB "list" "list" = some true := by decide +kernel
theorem ints_get {ns : List Int} {i : Nat} {d : DM.D} (h : (ns.map DM.D.int)[i]? = some d) : ∃ n, ns[i]? = some n ∧ i < ns.length ∧ d = .int n := by
  rw [List.getElem?_map] at h
  cases e : ns[i]? with
  | none => rw [e] at h; cases h
  | some n => rw [e] at h; cases h; exact ⟨n, rfl, (List.getElem?_eq_some_iff.mp e).1, rfl⟩
theorem drop_get {α : Type} {xs : List α} {i : Nat} {x : α} (h : xs[i]? = some x) : xs.drop i = x :: xs.drop (i + 1) := by
  have hi := (List.getElem?_eq_some_iff.mp h).1
  rw [List.drop_eq_getElem_cons hi]
  congr 1
  rw [List.getElem?_eq_getElem hi] at h
  exact Option.some.inj h
theorem take_get {α : Type} {xs : List α} {i : Nat} {x : α} (h : xs[i]? = some x) : xs.take (i + 1) = xs.take i ++ [x] := by
  rw [List.take_add_one, h]
  rfl
theorem filter_snoc {α : Type} {p : α → Bool} {xs : List α} {i : Nat} {x : α} (h : xs[i]? = some x) : (xs.take (i + 1)).filter p = (xs.take i).filter p ++ (if p x = true then [x] else []) := by
  rw [take_get h, List.filter_append]
  congr 1
  cases hp : p x <;> simp [List.filter_cons, hp]
theorem cutL_to {α : Type} (xs : List α) {n : Int} (h : 0 ≤ n) : cutL xs none (some n) = xs.take n.toNat := by
  obtain ⟨k, rfl⟩ : ∃ k : Nat, n = (k : Int) := ⟨n.toNat, by omega⟩
  unfold cutL
  rw [HT.sIx_nat]
  show (xs.drop 0).take (min k xs.length - 0) = xs.take k
  rw [List.drop_zero, Nat.sub_zero]
  exact List.take_eq_take_iff.mpr (by omega)
theorem cutL_from {α : Type} (xs : List α) {n : Int} (h : 0 ≤ n) : cutL xs (some n) none = xs.drop n.toNat := by
  obtain ⟨k, rfl⟩ : ∃ k : Nat, n = (k : Int) := ⟨n.toNat, by omega⟩
  unfold cutL
  rw [HT.sIx_nat]
  show (xs.drop (min k xs.length)).take (xs.length - min k xs.length) = xs.drop k
  by_cases hk : k ≤ xs.length
  · rw [Nat.min_eq_left hk, List.take_of_length_le (by rw [List.length_drop]; exact Nat.le_refl _)]
  · rw [Nat.min_eq_right (by omega), List.drop_length, List.drop_of_length_le (by omega), List.take_nil]

local macro_rules | `(tactic| walk_at "dgo1") => `(tactic| refine ⟨_, _, _, rfl, ?_⟩)
local macro_rules | `(tactic| walk_at "dgo1") => `(tactic| refine ⟨_, _, _, _, rfl, ?_⟩)
local macro_rules | `(tactic| walk_at "dgo1") => `(tactic| refine ⟨_, _, rfl, rfl, kb_ii, ?_⟩)
local macro_rules | `(tactic| walk_at "dgo1") => `(tactic| refine ⟨_, _, rfl, rfl, kb_ib, ?_⟩)
local macro_rules | `(tactic| walk_at "dgo1") => `(tactic| refine ⟨_, _, rfl, rfl, kb_tt, ?_⟩)
/-! ### checks of good arguments, lines, rates -/
def sdInt : SpD := fun ds M Q _ _ => ∃ (i : Int), ds = [.int i] ∧ Q (.bl true) M
theorem mo_IsInteger : SpMono (sdInt) := ⟨fun ds M Q N E Q' N' E' mh mh1 mh2 mh3 => by
  obtain ⟨i, rfl, q⟩ := mh
  refine ⟨i, rfl, ?_⟩
  first
  | exact mh1 _ _ q
  | exact mh2 _ _ q
  | exact fun a => mh1 _ _ (q a)
  | exact fun a b => mh1 _ _ (q a b)
  | exact fun a b c => mh1 _ _ (q a b c)
  | exact fun a b c d => mh1 _ _ (q a b c d)
  | exact fun a b c d e => mh1 _ _ (q a b c d e)
  | exact fun a => mh2 _ _ (q a)
  | exact fun a b => mh2 _ _ (q a b)
  | exact fun a b c => mh2 _ _ (q a b c)
  | exact fun a b c d => mh2 _ _ (q a b c d)
  | exact fun a b c d e => mh2 _ _ (q a b c d e)
  | exact ⟨fun a => mh1 _ _ (q.1 a), fun a => mh3 _ _ (q.2 a)⟩
  | exact ⟨fun a => mh2 _ _ (q.1 a), fun a => mh3 _ _ (q.2 a)⟩⟩

abbrev sIsInteger : Stmt := topS 6
theorem scIsInteger : FnScope ["thing"] ["thing"] (defScope sIsInteger) := ⟨rfl, rfl, rfl, by decide +kernel, rfl, by decide +kernel, by decide +kernel⟩
set_option maxHeartbeats 2000000 in
theorem ok_IsInteger (D : DefAt K mg "is_integer" sIsInteger ["thing"])  (T : Txt mg) : Cal P w K mg base "is_integer" ["thing"] 1 (ofD K (sdInt)) := by
  refine defD D scIsInteger (fun ds M Q N E h => (by (obtain ⟨_, rfl, _⟩ := h); rfl)) (fun f cdv Ar outer s H E ds M Q N E2 hr h => ?_)
  obtain ⟨i, rfl, q⟩ := h
  refine ⟨_, _, dss_one (ds_ret (de_and (de_call2 o_isi (by rfl) T.isinstance (by decide +kernel) (db 0) (de_db (de_ty (n := "int") (by rfl) T.int (by decide +kernel)))) (de_one (de_not (de_call2 o_isi (by rfl) T.isinstance (by decide +kernel) (db 0) (de_db (de_ty (n := "bool") (by rfl) T.bool (by decide +kernel)))))))), ?_⟩
  walk_at "dgo"
  exact q
def sdWithin : SpD := fun ds M Q _ _ => ∃ (x l g : Int), ds = [.int x, .int l, .int g] ∧ Q (.bl (decide (l ≤ x ∧ x ≤ g))) M
theorem mo_IsWithin : SpMono (sdWithin) := ⟨fun ds M Q N E Q' N' E' mh mh1 mh2 mh3 => by
  obtain ⟨x, l, g, rfl, q⟩ := mh
  refine ⟨x, l, g, rfl, ?_⟩
  first
  | exact mh1 _ _ q
  | exact mh2 _ _ q
  | exact fun a => mh1 _ _ (q a)
  | exact fun a b => mh1 _ _ (q a b)
  | exact fun a b c => mh1 _ _ (q a b c)
  | exact fun a b c d => mh1 _ _ (q a b c d)
  | exact fun a b c d e => mh1 _ _ (q a b c d e)
  | exact fun a => mh2 _ _ (q a)
  | exact fun a b => mh2 _ _ (q a b)
  | exact fun a b c => mh2 _ _ (q a b c)
  | exact fun a b c d => mh2 _ _ (q a b c d)
  | exact fun a b c d e => mh2 _ _ (q a b c d e)
  | exact ⟨fun a => mh1 _ _ (q.1 a), fun a => mh3 _ _ (q.2 a)⟩
  | exact ⟨fun a => mh2 _ _ (q.1 a), fun a => mh3 _ _ (q.2 a)⟩⟩

abbrev sIsWithin : Stmt := topS 7
theorem scIsWithin : FnScope ["thing", "least", "greatest"] ["thing", "least", "greatest"] (defScope sIsWithin) := ⟨rfl, rfl, rfl, by decide +kernel, rfl, by decide +kernel, by decide +kernel⟩
set_option maxHeartbeats 2000000 in
theorem ok_IsWithin (D : DefAt K mg "is_within" sIsWithin ["thing", "least", "greatest"]) (CIsInteger : Cal P w K mg base "is_integer" ["thing"] 1 (ofD K (sdInt))) (T : Txt mg) : Cal P w K mg base "is_within" ["thing", "least", "greatest"] 2 (ofD K (sdWithin)) := by
  refine defD D scIsWithin (fun ds M Q N E h => (by (obtain ⟨_, _, _, rfl, _⟩ := h); rfl)) (fun f cdv Ar outer s H E ds M Q N E2 hr h => ?_)
  obtain ⟨x, l, g, rfl, q⟩ := h
  refine ⟨_, _, dss_one (ds_ret (de_and (de_cal CIsInteger mo_IsInteger hr (by rfl) (da_cons (dv 0) da_nil)) (de_one (de_chain o_le o_le (db 1) (db 0) (db 2))))), ?_⟩
  walk_at "dgo"
  refine ite2 (fun e => ?_) (fun e => ?_)
  · have e1 : l ≤ x := of_decide_eq_true e
    have e2 : decide (l ≤ x ∧ x ≤ g) = decide (x ≤ g) := by
      by_cases h : x ≤ g <;> simp [e1, h]
    rw [e2] at q
    walk_at "dgo"
    exact q
  · have e1 : ¬ l ≤ x := fun h => e (decide_eq_true h)
    rw [decide_eq_false (fun h => e1 h.1)] at q
    exact q
def sdAtLeast : SpD := fun ds M Q _ _ => ∃ (x l : Int), ds = [.int x, .int l] ∧ Q (.bl (decide (l ≤ x))) M
theorem mo_IsAtLeast : SpMono (sdAtLeast) := ⟨fun ds M Q N E Q' N' E' mh mh1 mh2 mh3 => by
  obtain ⟨x, l, rfl, q⟩ := mh
  refine ⟨x, l, rfl, ?_⟩
  first
  | exact mh1 _ _ q
  | exact mh2 _ _ q
  | exact fun a => mh1 _ _ (q a)
  | exact fun a b => mh1 _ _ (q a b)
  | exact fun a b c => mh1 _ _ (q a b c)
  | exact fun a b c d => mh1 _ _ (q a b c d)
  | exact fun a b c d e => mh1 _ _ (q a b c d e)
  | exact fun a => mh2 _ _ (q a)
  | exact fun a b => mh2 _ _ (q a b)
  | exact fun a b c => mh2 _ _ (q a b c)
  | exact fun a b c d => mh2 _ _ (q a b c d)
  | exact fun a b c d e => mh2 _ _ (q a b c d e)
  | exact ⟨fun a => mh1 _ _ (q.1 a), fun a => mh3 _ _ (q.2 a)⟩
  | exact ⟨fun a => mh2 _ _ (q.1 a), fun a => mh3 _ _ (q.2 a)⟩⟩

abbrev sIsAtLeast : Stmt := topS 8
theorem scIsAtLeast : FnScope ["thing", "least"] ["thing", "least"] (defScope sIsAtLeast) := ⟨rfl, rfl, rfl, by decide +kernel, rfl, by decide +kernel, by decide +kernel⟩
set_option maxHeartbeats 2000000 in
theorem ok_IsAtLeast (D : DefAt K mg "is_at_least" sIsAtLeast ["thing", "least"]) (CIsInteger : Cal P w K mg base "is_integer" ["thing"] 1 (ofD K (sdInt))) (T : Txt mg) : Cal P w K mg base "is_at_least" ["thing", "least"] 2 (ofD K (sdAtLeast)) := by
  refine defD D scIsAtLeast (fun ds M Q N E h => (by (obtain ⟨_, _, rfl, _⟩ := h); rfl)) (fun f cdv Ar outer s H E ds M Q N E2 hr h => ?_)
  obtain ⟨x, l, rfl, q⟩ := h
  refine ⟨_, _, dss_one (ds_ret (de_and (de_cal CIsInteger mo_IsInteger hr (by rfl) (da_cons (dv 0) da_nil)) (de_one (de_cmp o_ge (db 0) (db 1) (nomark _))))), ?_⟩
  walk_at "dgo"
  exact q
def sdNat : SpD := fun ds M Q _ _ => ∃ (x : Int), ds = [.int x] ∧ 0 ≤ x ∧ Q .non M
def sdShift : SpD := fun ds M Q _ _ => ∃ (x : Int), ds = [.int x] ∧ 0 ≤ x ∧ x ≤ 64 ∧ Q .non M
theorem mo_CheckShift : SpMono (sdShift) := ⟨fun ds M Q N E Q' N' E' mh mh1 mh2 mh3 => by
  obtain ⟨x, rfl, h0, h1, q⟩ := mh
  refine ⟨x, rfl, h0, h1, ?_⟩
  first
  | exact mh1 _ _ q
  | exact mh2 _ _ q
  | exact fun a => mh1 _ _ (q a)
  | exact fun a b => mh1 _ _ (q a b)
  | exact fun a b c => mh1 _ _ (q a b c)
  | exact fun a b c d => mh1 _ _ (q a b c d)
  | exact fun a b c d e => mh1 _ _ (q a b c d e)
  | exact fun a => mh2 _ _ (q a)
  | exact fun a b => mh2 _ _ (q a b)
  | exact fun a b c => mh2 _ _ (q a b c)
  | exact fun a b c d => mh2 _ _ (q a b c d)
  | exact fun a b c d e => mh2 _ _ (q a b c d e)
  | exact ⟨fun a => mh1 _ _ (q.1 a), fun a => mh3 _ _ (q.2 a)⟩
  | exact ⟨fun a => mh2 _ _ (q.1 a), fun a => mh3 _ _ (q.2 a)⟩⟩

abbrev sCheckShift : Stmt := topS 9
theorem scCheckShift : FnScope ["shift"] ["shift"] (defScope sCheckShift) := ⟨rfl, rfl, rfl, by decide +kernel, rfl, by decide +kernel, by decide +kernel⟩
set_option maxHeartbeats 2000000 in
theorem ok_CheckShift (D : DefAt K mg "check_shift" sCheckShift ["shift"]) (CIsWithin : Cal P w K mg base "is_within" ["thing", "least", "greatest"] 2 (ofD K (sdWithin))) (T : Txt mg) : Cal P w K mg base "check_shift" ["shift"] 3 (ofD K (sdShift)) := by
  refine defD D scCheckShift (fun ds M Q N E h => (by (obtain ⟨_, rfl, _⟩ := h); rfl)) (fun f cdv Ar outer s H E ds M Q N E2 hr h => ?_)
  obtain ⟨x, rfl, h0, h1, q⟩ := h
  refine ⟨_, _, dss_one (ds_if (dt_not (dt_val (de_cal CIsWithin mo_IsWithin hr (by rfl) (da_cons (dv 0) (da_cons de_int (da_cons (de_gint (by rfl) T.mgMOST_SHIFT) da_nil))))))
        (dss_one ds_never)
        dss_nil), ?_⟩
  walk_at "dgo"
  exact q
def pr2 (a b : Int) : DM.D := .tup [.int a, .int b]
def tr3 (a b c : Int) : DM.D := .tup [.int a, .int b, .int c]
def sdRate : SpD := fun ds M Q _ _ => ∃ (m s : Int), ds = [pr2 m s] ∧ 1 ≤ m ∧ m ≤ 18446744073709551615 ∧ 0 ≤ s ∧ s ≤ 64 ∧ Q .non M
def sdRdg : SpD := fun ds M Q _ _ => ∃ (x : Int), ds = [.int x] ∧ Q .non M
def sdTick : SpD := fun ds M Q _ _ => ∃ (x : Int), ds = [.int x] ∧ 1 ≤ x ∧ Q .non M
def sdUp : SpD := fun ds M Q _ _ => ∃ (x u : Int), ds = [.int x, .int u] ∧ CDivW (-x) u ∧ Q (.int (-(-x / u))) M
def sdLine : SpD := fun ds M Q _ _ => ∃ (v l s : Int), ds = [tr3 v l s] ∧ 0 ≤ l ∧ 0 ≤ s ∧ s ≤ 64 ∧ Q .non M
def sdLineR : SpD := fun ds M Q _ _ => ∃ (v l s c : Int), ds = [tr3 v l s, .int c] ∧ 0 ≤ l ∧ 0 ≤ s ∧ s ≤ 64 ∧ 0 ≤ c ∧ CMulE l c ∧ Q (.int ((v + l * c) / 2 ^ s.toNat)) M
def sdRateR : SpD := fun ds M Q _ _ => ∃ (m s c : Int), ds = [pr2 m s, .int c] ∧ 1 ≤ m ∧ m ≤ 18446744073709551615 ∧ 0 ≤ s ∧ s ≤ 64 ∧ 0 ≤ c ∧ Q (.int (c * m / 2 ^ s.toNat)) M
def sdFirst : SpD := fun ds M Q _ _ => ∃ (m s r : Int), ds = [pr2 m s, .int r] ∧ 1 ≤ m ∧ m ≤ 18446744073709551615 ∧ 0 ≤ s ∧ s ≤ 64 ∧ 0 ≤ r ∧ r < 2037035976334486086268445688409378161051468393665936250636140449354381299763336706183397376 ∧ Q (.int ((r * 2 ^ s.toNat + m - 1) / m)) M
def optD : Option Int → DM.D
  | none => .non
  | some i => .int i
/-- the first cycle at which a line reads so much, found by reckoning -/
def frF (v l U g : Int) : Option Int := if g * U - v ≤ 0 then some 0 else if l = 0 then none else some (-(-(g * U - v) / l))
def sdReach : SpD := fun ds M Q _ _ => ∃ (v l s g : Int), ds = [tr3 v l s, .int g] ∧ 0 ≤ l ∧ l < 1606938044258990275541962092341162602522202993782792835301376 ∧ 0 ≤ s ∧ s ≤ 64 ∧ g.natAbs < 2521728396569246669585858566409191283525103313309788586748690777871726193375821479130513040312634601011624191379636224 ∧ Q (optD (frF v l (2 ^ s.toNat) g)) M
/-! ### rates that explain what was seen -/
def pok (U : Int) (a b : Int × Int) (m : Int) : Prop := a.2 * U - b.2 * U - (m * a.1 - m * b.1) ≤ U - 1
def Fz (U : Int) (rows : List (Int × Int)) (m : Int) : Prop := ∀ a ∈ rows, ∀ b ∈ rows, pok U a b m
abbrev Bd := Int × Option Int
def inB (B : Bd) (m : Int) : Prop := B.1 ≤ m ∧ ∀ h, B.2 = some h → m ≤ h
def neB (B : Bd) : Prop := ∀ h, B.2 = some h → B.1 ≤ h
def bdD (B : Bd) : DM.D := .tup [.int B.1, optD B.2]
def rD : Option Bd → DM.D
  | none => .non
  | some C => bdD C
def NR (U : Int) (B : Bd) (a b : Int × Int) : Option Bd → Prop
  | none => ∀ m, inB B m → ¬ (pok U a b m ∧ pok U b a m)
  | some C => neB C ∧ ∀ m, inB C m ↔ inB B m ∧ pok U a b m ∧ pok U b a m
structure RowOk (a : Int × Int) : Prop where
  c0 : 0 ≤ a.1
  c1 : a.1 < 1569275433846670190958947355801916604025588861116008628224
  r1 : a.2.natAbs < 2462625387274654950767440006258975862817483704404090416746768337765357610718575663213391640930307227550414249394176
/-- two readings at one cycle -/
theorem pok_same {U : Int} {a b : Int × Int} {m : Int} (hU : 0 < U) (h : a.1 = b.1) : (pok U a b m ∧ pok U b a m) ↔ a.2 = b.2 := by
  unfold pok
  rw [h]
  constructor
  · rintro ⟨h1, h2⟩
    by_cases e : a.2 = b.2
    · exact e
    · exfalso
      rcases Int.lt_or_gt_of_ne e with l | l
      · have := Int.mul_le_mul_of_nonneg_right (show a.2 + 1 ≤ b.2 by omega) (Int.le_of_lt hU)
        rw [Int.add_mul] at this
        omega
      · have := Int.mul_le_mul_of_nonneg_right (show b.2 + 1 ≤ a.2 by omega) (Int.le_of_lt hU)
        rw [Int.add_mul] at this
        omega
  · intro e
    rw [e]
    omega
/-- two readings c cycles apart, u units more -/
theorem pok_apart {U : Int} {a b : Int × Int} {m c u : Int} (hc : 0 < c) (h1 : b.1 - a.1 = c) (h2 : b.2 - a.2 = u) : (pok U a b m ∧ pok U b a m) ↔ ((u - 1) * U / c + 1 ≤ m ∧ m ≤ ((u + 1) * U - 1) / c) := by
  unfold pok
  rw [Int.le_ediv_iff_mul_le hc, show ((u - 1) * U / c + 1 ≤ m) ↔ (u - 1) * U / c < m from Iff.rfl, Int.ediv_lt_iff_lt_mul hc]
  have e1 : (u - 1) * U = b.2 * U - a.2 * U - U := by rw [← h2, Int.sub_mul, Int.sub_mul, Int.one_mul]
  have e2 : (u + 1) * U = b.2 * U - a.2 * U + U := by rw [← h2, Int.add_mul, Int.sub_mul, Int.one_mul]
  have e3 : m * c = m * b.1 - m * a.1 := by rw [← h1, Int.mul_sub]
  rw [e1, e2, e3]
  omega
def sdNarrow : SpD := fun ds M Q _ _ => ∃ (B : Bd) (a b : Int × Int) (U : Int), ds = [bdD B, ipD a, ipD b, .int U] ∧ 0 < U ∧ U ≤ 18446744073709551616 ∧ RowOk a ∧ RowOk b ∧ neB B ∧ ∀ r, NR U B a b r → Q (rD r) M
theorem mo_Narrowed : SpMono sdNarrow := ⟨fun ds M Q N E Q' N' E' ⟨B, a, b, U, h1, h2, h3, h4, h5, h6, h7⟩ m1 _ _ => ⟨B, a, b, U, h1, h2, h3, h4, h5, h6, fun r h => m1 _ _ (h7 r h)⟩⟩
theorem narrow_end {U : Int} {B : Bd} {a b : Int × Int} {lo hi top : Int} (h : ∀ m, (pok U a b m ∧ pok U b a m) ↔ (lo ≤ m ∧ m ≤ hi)) (ht : ∀ m, m ≤ top ↔ m ≤ hi ∧ ∀ g, B.2 = some g → m ≤ g) :
    NR U B a b (if max B.1 lo ≤ top then some (max B.1 lo, some top) else none) := by
  by_cases hle : max B.1 lo ≤ top
  · rw [if_pos hle]
    refine ⟨fun g e => ?_, fun m => ?_⟩
    · cases e
      exact hle
    · unfold inB
      rw [h m]
      constructor
      · rintro ⟨h1, h2⟩
        have h1 : max B.1 lo ≤ m := h1
        have h2 := (ht m).mp (h2 _ rfl)
        exact ⟨⟨by omega, h2.2⟩, by omega, h2.1⟩
      · rintro ⟨⟨h1, h2⟩, h3, h4⟩
        exact ⟨by show max B.1 lo ≤ m; omega, fun g e => by cases e; exact (ht m).mpr ⟨h4, h2⟩⟩
  · rw [if_neg hle]
    intro m hm hp
    have hp := (h m).mp hp
    have h1 := hm.1
    have := (ht m).mpr ⟨hp.2, hm.2⟩
    omega
theorem max_if (i j : Int) : (if j > i then j else i) = max i j := by omega

abbrev sNarrowed : Stmt := topS 13
theorem scNarrowed : FnScope ["bounds", "one", "other", "unit", "cycles", "units", "least", "greatest"] ["bounds", "one", "other", "unit"] (defScope sNarrowed) := ⟨rfl, rfl, rfl, by decide +kernel, rfl, by decide +kernel, by decide +kernel⟩
set_option maxHeartbeats 2000000 in
theorem ok_Narrowed (D : DefAt K mg "narrowed" sNarrowed ["bounds", "one", "other", "unit"])  (T : Txt mg) : Cal P w K mg base "narrowed" ["bounds", "one", "other", "unit"] 1 (ofD K (sdNarrow)) := by
  refine defD D scNarrowed (fun ds M Q N E h => (by (obtain ⟨_, _, _, _, rfl, _⟩ := h); rfl)) (fun f cdv Ar outer s H E ds M Q N E2 hr h => ?_)
  obtain ⟨B, a, b, U, rfl, U0, U1, ra, rb, nB, q⟩ := h
  refine ⟨_, _, dss_cons (ds_set 4 scNarrowed.nd (de_call1 o_abs (by rfl) T.abs (by decide +kernel) (de_db (de_op o_sub (de_db (de_ix o_ixT (db 2) (de_db de_int) (fun _ _ => rfl))) (de_db (de_ix o_ixT (db 1) (de_db de_int) (fun _ _ => rfl)))))))
      (dss_cons (ds_cut (ds_set 5 scNarrowed.nd (de_ifExp (dt_cmp o_ge (de_db (de_ix o_ixT (db 2) (de_db de_int) (fun _ _ => rfl))) (de_db (de_ix o_ixT (db 1) (de_db de_int) (fun _ _ => rfl))) (nomark _)) (de_op o_sub (de_db (de_ix o_ixT (db 2) (de_db de_int) (fun _ _ => rfl))) (de_db (de_ix o_ixT (db 1) (de_db de_int) (fun _ _ => rfl)))) (de_op o_sub (de_db (de_ix o_ixT (db 1) (de_db de_int) (fun _ _ => rfl))) (de_db (de_ix o_ixT (db 2) (de_db de_int) (fun _ _ => rfl)))))))
      (dss_cons (ds_if (dt_cmp o_eqI (db 4) (de_db de_int) (nomark _))
        (dss_one (ds_ret (de_ifExp (dt_cmp o_eqI (db 5) (de_db de_int) (nomark _)) (dv 0) de_non)))
        dss_nil)
      (dss_cons (ds_set 6 scNarrowed.nd (de_call2 (o_max2 rfl) (by rfl) T.max (by decide +kernel) (de_db (de_ix o_ixT (db 0) (de_db de_int) (fun _ _ => rfl))) (de_db (de_op o_add (de_db (de_op o_fdiv (de_db (de_op o_mul (de_db (de_op o_sub (db 5) (de_db de_int))) (db 3))) (db 4))) (de_db de_int)))))
      (dss_cons (ds_set 7 scNarrowed.nd (de_op o_fdiv (de_db (de_op o_sub (de_db (de_op o_mul (de_db (de_op o_add (db 5) (de_db de_int))) (db 3))) (de_db de_int))) (db 4)))
      (dss_cons (ds_cut (ds_if (dt_cmp o_notN (de_db (de_ix o_ixT (db 0) (de_db de_int) (fun _ _ => rfl))) (de_db de_non) (nomark _))
        (dss_one (ds_set 7 scNarrowed.nd (de_call2 (o_min2 rfl) (by rfl) T.min (by decide +kernel) (db 7) (de_db (de_ix o_ixT (db 0) (de_db de_int) (fun _ _ => rfl))))))
        dss_nil))
      (dss_one (ds_ret (de_ifExp (dt_cmp o_le (db 6) (db 7) (nomark _)) (de_tup (da_cons (dv 6) (da_cons (dv 7) da_nil))) de_non)))))))), ?_⟩
  obtain ⟨bl, bh⟩ := B
  have ra0 := ra.c0
  have ra1 := ra.c1
  have ra2 := ra.r1
  have rb0 := rb.c0
  have rb1 := rb.c1
  have rb2 := rb.r1
  walk_at "dgo"
  refine cutD_ (fun ρ M' => M' = M ∧ ∃ (c u : Int), ρ = [.val (bdD (bl, bh)), .val (ipD a), .val (ipD b), .val (.int U), .val (.int c), .val (.int u), .un, .un] ∧ 0 ≤ c ∧ c < 1606938044258990275541962092341162602522202993782792835301376 ∧ u.natAbs < 9850501549098619803069760025035903451269934817616361666987073351061430442874302652853566563721228910201656997576704 ∧ (c = 0 → ∀ m, ((pok U a b m ∧ pok U b a m) ↔ u = 0)) ∧ (0 < c → ∀ m, ((pok U a b m ∧ pok U b a m) ↔ ((u - 1) * U / c + 1 ≤ m ∧ m ≤ ((u + 1) * U - 1) / c)))) ?_ ?_
  · walk_at "dgo"
    refine ite2 (fun h => ?_) (fun h => ?_)
    · have h : b.1 ≥ a.1 := of_decide_eq_true h
      walk_at "dgo"
      have ec : ¬ b.1 - a.1 < 0 := by omega
      refine ⟨fun hc m => ?_, fun hc m => ?_⟩
      · rw [if_neg ec] at hc
        rw [pok_same U0 (by omega)]
        omega
      · rw [if_neg ec] at hc ⊢
        exact pok_apart hc rfl rfl
    · have h : ¬ b.1 ≥ a.1 := fun z => h (decide_eq_true z)
      walk_at "dgo"
      have ec : b.1 - a.1 < 0 := by omega
      intro hc m
      rw [if_pos ec] at hc ⊢
      rw [And.comm]
      exact pok_apart hc (by omega) rfl
  · rintro ρ M' ⟨rfl, c, u, rfl, c0, c1, u1, hz, hp⟩
    walk_at "dgo"
    refine ite2 (fun h => ?_) (fun h => ?_)
    · have h : c = 0 := of_decide_eq_true h
      walk_at "dgo"
      refine ite2 (fun h2 => ?_) (fun h2 => ?_)
      · have h2 : u = 0 := of_decide_eq_true h2
        walk_at "dgo"
        exact q (some (bl, bh)) ⟨nB, fun m => by rw [hz h m]; exact ⟨fun z => ⟨z, h2⟩, fun z => z.1⟩⟩
      · have h2 : ¬ u = 0 := fun z => h2 (decide_eq_true z)
        walk_at "dgo"
        exact q none fun m _ z => h2 ((hz h m).mp z)
    · have h : ¬ c = 0 := fun z => h (decide_eq_true z)
      have hp := hp (by omega)
      walk_at "dgo"
      have hr := fun (top : Int) ht => q _ (narrow_end (top := top) hp ht)
      refine cutD_ (fun ρ M2 => M2 = M' ∧ ∃ top : Int, ρ = [.val (bdD (bl, bh)), .val (ipD a), .val (ipD b), .val (.int U), .val (.int c), .val (.int u), .val (.int (if (u - 1) * U / c + 1 > bl then (u - 1) * U / c + 1 else bl)), .val (.int top)] ∧ ∀ m, m ≤ top ↔ m ≤ ((u + 1) * U - 1) / c ∧ ∀ g, bh = some g → m ≤ g) ?_ ?_
      · cases bh with
        | none =>
          walk_at "dgo"
          exact fun m => ⟨fun h => ⟨h, fun _ e => nomatch e⟩, fun h => h.1⟩
        | some g =>
          walk_at "dgo"
          intro m
          show m ≤ (if g < ((u + 1) * U - 1) / c then g else ((u + 1) * U - 1) / c) ↔ _
          constructor
          · intro h
            exact ⟨by split at h <;> omega, fun g' e => by cases e; split at h <;> omega⟩
          · rintro ⟨h1, h2⟩
            have h2 := h2 g rfl
            split <;> omega
      · rintro ρ M2 ⟨rfl, top, rfl, ht⟩
        have hr := hr top ht
        rw [max_if]
        walk_at "dgo"
        refine ite2 (fun h2 => ?_) (fun h2 => ?_)
        · have h2 := of_decide_eq_true h2
          rw [if_pos h2] at hr
          walk_at "dgo"
          exact hr
        · rw [if_neg (fun z => h2 (decide_eq_true z))] at hr
          walk_at "dgo"
          exact hr
abbrev wsD (ws : List (Int × Int)) : List DM.D := ws.map ipD
structure RowsOk (rows : List (Int × Int)) : Prop where
  ok : ∀ a ∈ rows, RowOk a
def sdSeenOk : SpD := fun ds M Q _ _ => ∃ (rows : List (Int × Int)), ds = [.lst (wsD rows)] ∧ rows ≠ [] ∧ RowsOk rows ∧ Q .non M
theorem wsD_get {ws : List (Int × Int)} {i : Nat} {d : DM.D} (h : (wsD ws)[i]? = some d) : ∃ w, ws[i]? = some w ∧ w ∈ ws ∧ d = ipD w := by
  rw [List.getElem?_map] at h
  cases e : ws[i]? with
  | none => rw [e] at h; cases h
  | some w => rw [e] at h; cases h; exact ⟨w, rfl, List.mem_of_getElem? e, rfl⟩
theorem wsD_ne {rows : List (Int × Int)} (h : rows ≠ []) : (DM.D.lst (wsD rows)).tru = some true := by
  cases rows with
  | nil => exact absurd rfl h
  | cons a as => rfl
theorem mo_CheckSeen : SpMono (sdSeenOk) := ⟨fun ds M Q N E Q' N' E' mh mh1 mh2 mh3 => by
  obtain ⟨rows, rfl, hne, ho, q⟩ := mh
  refine ⟨rows, rfl, hne, ho, ?_⟩
  first
  | exact mh1 _ _ q
  | exact mh2 _ _ q
  | exact fun a => mh1 _ _ (q a)
  | exact fun a b => mh1 _ _ (q a b)
  | exact fun a b c => mh1 _ _ (q a b c)
  | exact fun a b c d => mh1 _ _ (q a b c d)
  | exact fun a b c d e => mh1 _ _ (q a b c d e)
  | exact fun a => mh2 _ _ (q a)
  | exact fun a b => mh2 _ _ (q a b)
  | exact fun a b c => mh2 _ _ (q a b c)
  | exact fun a b c d => mh2 _ _ (q a b c d)
  | exact fun a b c d e => mh2 _ _ (q a b c d e)
  | exact ⟨fun a => mh1 _ _ (q.1 a), fun a => mh3 _ _ (q.2 a)⟩
  | exact ⟨fun a => mh2 _ _ (q.1 a), fun a => mh3 _ _ (q.2 a)⟩⟩

abbrev sCheckSeen : Stmt := topS 11
theorem scCheckSeen : FnScope ["seen", "row"] ["seen"] (defScope sCheckSeen) := ⟨rfl, rfl, rfl, by decide +kernel, rfl, by decide +kernel, by decide +kernel⟩
set_option maxHeartbeats 2000000 in
theorem ok_CheckSeen (D : DefAt K mg "check_seen" sCheckSeen ["seen"]) (CIsAtLeast : Cal P w K mg base "is_at_least" ["thing", "least"] 2 (ofD K (sdAtLeast))) (CIsInteger : Cal P w K mg base "is_integer" ["thing"] 1 (ofD K (sdInt))) (T : Txt mg) : Cal P w K mg base "check_seen" ["seen"] 3 (ofD K (sdSeenOk)) := by
  refine defD D scCheckSeen (fun ds M Q N E h => (by (obtain ⟨_, rfl, _⟩ := h); rfl)) (fun f cdv Ar outer s H E ds M Q N E2 hr h => ?_)
  obtain ⟨rows, rfl, hne, ho, q⟩ := h
  refine ⟨_, _, dss_cons (ds_if (dt_w (dw_or (dt_not (dt_val (de_call2 o_isi (by rfl) T.isinstance (by decide +kernel) (db 0) (de_db (de_ty (n := "list") (by rfl) T.list (by decide +kernel)))))) (dw_or1 (dt_not (dt_truth (db 0))))))
        (dss_one ds_never)
        dss_nil)
      (dss_one (ds_for PassesOwn.never (di_list (dv 0)) (dg_name 1 scCheckSeen.nd)
        (dss_cons (ds_if (dt_w (dw_or (dt_not (dt_val (de_call2 o_isi (by rfl) T.isinstance (by decide +kernel) (db 1) (de_db (de_ty (n := "tuple") (by rfl) T.tuple (by decide +kernel)))))) (dw_or1 (dt_cmp o_neI (de_db (de_call1 o_len (by rfl) T.len PySem.boot_len (db 1))) (de_db de_int) (nomark _)))))
          (dss_one ds_never)
          dss_nil)
        (dss_one (ds_if (dt_w (dw_or (dt_not (dt_val (de_cal CIsAtLeast mo_IsAtLeast hr (by rfl) (da_cons (de_ix o_ixT (db 1) (de_db de_int) (fun _ _ => rfl)) (da_cons de_int da_nil))))) (dw_or1 (dt_not (dt_val (de_cal CIsInteger mo_IsInteger hr (by rfl) (da_cons (de_ix o_ixT (db 1) (de_db de_int) (fun _ _ => rfl)) da_nil)))))))
          (dss_one ds_never)
          dss_nil))))), ?_⟩
  cases rows with
  | nil => exact absurd rfl hne
  | cons r0 rs =>
    walk_at "dgo"
    refine ⟨fun i ρ M' => M' = M ∧ ∃ x, ρ = [.val (.lst (wsD (r0 :: rs))), x], ⟨rfl, _, rfl⟩, ?_, ?_⟩
    · rintro i d ρ M' hd ⟨rfl, x, rfl⟩
      obtain ⟨w, hw, hm, rfl⟩ := wsD_get (ws := r0 :: rs) hd
      have h0 := (ho.ok w hm).c0
      walk_at "dgo"
      exact ⟨_, rfl⟩
    · rintro ρ M' ⟨rfl, x, rfl⟩
      exact q
/-- all bounds -/
def IsB (U : Int) (rows : List (Int × Int)) (B : Bd) : Prop := neB B ∧ ∀ m, inB B m ↔ 1 ≤ m ∧ Fz U rows m
def NoneAt (U : Int) (rows : List (Int × Int)) (k : Int) : Prop := ∃ n : Nat, k = (n : Int) + 1 ∧ 1 ≤ n ∧ n < rows.length ∧ (∀ m, 1 ≤ m → ¬ Fz U (rows.take (n + 1)) m) ∧ ∃ m, 1 ≤ m ∧ Fz U (rows.take n) m
def ratesD (B : Bd) : DM.D := .tup [.str "rates", .int B.1, optD B.2]
def noneD (k : Int) : DM.D := .tup [.str "none", .int k]
theorem neB_mem {B : Bd} (h : neB B) : inB B B.1 := ⟨Int.le_refl _, h⟩
theorem fz_take {U : Int} {rows : List (Int × Int)} {n : Nat} {r : Int × Int} (hU : 0 < U) (h : rows[n]? = some r) (m : Int) : Fz U (rows.take (n + 1)) m ↔ Fz U (rows.take n) m ∧ ∀ a ∈ rows.take n, pok U a r m ∧ pok U r a m := by
  rw [take_get h]
  constructor
  · intro f
    exact ⟨fun a ha b hb => f a (List.mem_append_left _ ha) b (List.mem_append_left _ hb), fun a ha => ⟨f a (List.mem_append_left _ ha) r (List.mem_append_right _ List.mem_cons_self), f r (List.mem_append_right _ List.mem_cons_self) a (List.mem_append_left _ ha)⟩⟩
  · rintro ⟨f, g⟩ a ha b hb
    rcases List.mem_append.mp ha with ha2 | ha2 <;> rcases List.mem_append.mp hb with hb2 | hb2
    · exact f a ha2 b hb2
    · obtain rfl := List.mem_singleton.mp hb2
      exact (g a ha2).1
    · obtain rfl := List.mem_singleton.mp ha2
      exact (g b hb2).2
    · obtain rfl := List.mem_singleton.mp ha2
      obtain rfl := List.mem_singleton.mp hb2
      unfold pok
      omega
def sdSeen : SpD := fun ds M Q _ _ => ∃ (s : Int) (rows : List (Int × Int)), ds = [.int s, .lst (wsD rows)] ∧ 0 ≤ s ∧ s ≤ 64 ∧ rows ≠ [] ∧ rows.length ≤ 1000 ∧ RowsOk rows ∧
  (∀ B, IsB (2 ^ s.toNat) rows B → Q (ratesD B) M) ∧ (∀ k, NoneAt (2 ^ s.toNat) rows k → Q (noneD k) M)
theorem mo_RatesSeen : SpMono sdSeen := ⟨fun ds M Q N E Q' N' E' ⟨s, rows, h1, h2, h3, h4, h5, h6, h7, h8⟩ m1 _ _ => ⟨s, rows, h1, h2, h3, h4, h5, h6, fun B h => m1 _ _ (h7 B h), fun k h => m1 _ _ (h8 k h)⟩⟩
theorem wsD_at {rows : List (Int × Int)} {n : Nat} {r : Int × Int} (h : rows[n]? = some r) : atI (wsD rows) (n : Int) = some (ipD r) := atI_nat (by rw [List.getElem?_map, h]; rfl)
theorem pow_le64 {s : Nat} (h : s ≤ 64) : (2 : Int) ^ s ≤ 18446744073709551616 := by
  have := Nat.pow_le_pow_right (n := 2) (by decide) h
  rw [← show ((2 ^ s : Nat) : Int) = (2 : Int) ^ s by rw [Int.natCast_pow]; rfl]
  omega

abbrev sRatesSeen : Stmt := topS 12
theorem scRatesSeen : FnScope ["shift", "seen", "bounds", "many", "k", "least", "greatest"] ["shift", "seen"] (defScope sRatesSeen) := ⟨rfl, rfl, rfl, by decide +kernel, rfl, by decide +kernel, by decide +kernel⟩
set_option maxHeartbeats 2000000 in
theorem ok_RatesSeen (D : DefAt K mg "rates_seen" sRatesSeen ["shift", "seen"]) (CCheckShift : Cal P w K mg base "check_shift" ["shift"] 3 (ofD K (sdShift))) (CCheckSeen : Cal P w K mg base "check_seen" ["seen"] 3 (ofD K (sdSeenOk))) (CNarrowed : Cal P w K mg base "narrowed" ["bounds", "one", "other", "unit"] 1 (ofD K (sdNarrow))) (T : Txt mg) : Cal P w K mg base "rates_seen" ["shift", "seen"] 4 (ofD K (sdSeen)) := by
  refine defD D scRatesSeen (fun ds M Q N E h => (by (obtain ⟨_, _, rfl, _⟩ := h); rfl)) (fun f cdv Ar outer s H E ds M Q N E2 hr h => ?_)
  obtain ⟨s, rows, rfl, s0, s1, hne, hl, ho, q1, q2⟩ := h
  refine ⟨_, _, dss_cons (ds_expr (de_cal CCheckShift mo_CheckShift hr (by rfl) (da_cons (dv 0) da_nil)))
      (dss_cons (ds_expr (de_cal CCheckSeen mo_CheckSeen hr (by rfl) (da_cons (dv 1) da_nil)))
      (dss_cons (ds_set 2 scRatesSeen.nd (de_tup (da_cons de_int (da_cons de_non da_nil))))
      (dss_cons (ds_for PassesOwn.never (di_rng2 (by rfl) T.range de_int (de_call1 o_len (by rfl) T.len PySem.boot_len (db 1))) (dg_name 3 scRatesSeen.nd)
        (dss_one (ds_for PassesOwn.never (di_rng1 (by rfl) T.range (dv 3)) (dg_name 4 scRatesSeen.nd)
          (dss_cons (ds_set 2 scRatesSeen.nd (de_cal CNarrowed mo_Narrowed hr (by rfl) (da_cons (dv 2) (da_cons (de_ix o_ixL (db 1) (db 4) (fun _ _ => rfl)) (da_cons (de_ix o_ixL (db 1) (db 3) (fun _ _ => rfl)) (da_cons (de_op o_shl (de_db de_int) (db 0)) da_nil))))))
          (dss_one (ds_if (dt_cmp o_isN (db 2) (de_db de_non) (nomark _))
            (dss_one (ds_ret (de_tup (da_cons de_str (da_cons (de_op o_add (db 3) (de_db de_int)) da_nil)))))
            dss_nil))))))
      (dss_cons (ds_asg (dv 2) (dg_tup (dgs_cons (dg_name 5 scRatesSeen.nd) (dgs_cons (dg_name 6 scRatesSeen.nd) dgs_nil))))
      (dss_one (ds_ret (de_tup (da_cons de_str (da_cons (dv 5) (da_cons (dv 6) da_nil)))))))))), ?_⟩
  have U0 := pos_pow s.toNat
  have U1 := pow_le64 (s := s.toNat) (by omega)
  have hlen : 0 < rows.length := List.length_pos_iff.mpr hne
  have hwl : (wsD rows).length = rows.length := List.length_map _
  walk_at "dgo"
  rw [hwl]
  refine ⟨fun i ρ M' => M' = M ∧ i < rows.length ∧ ∃ (B : Bd) (x3 x4 : Sl), ρ = [.val (.int s), .val (.lst (wsD rows)), .val (bdD B), x3, x4, .un, .un] ∧ IsB (2 ^ s.toNat) (rows.take (i + 1)) B, ⟨rfl, hlen, (1, none), _, _, rfl, ?_⟩, ?_, ?_⟩
  · refine And.intro (fun h e => by cases e) fun m => Iff.intro (fun h => And.intro h.1 ?_) fun h => And.intro h.1 fun g e => by cases e
    cases rows with
    | nil => exact absurd rfl hne
    | cons r rs =>
      intro a ha b hb
      obtain rfl := List.mem_singleton.mp (show a ∈ [r] from ha)
      obtain rfl := List.mem_singleton.mp (show b ∈ [a] from hb)
      unfold pok
      omega
  · rintro i d ρ M' hd ⟨rfl, hi, B, x3, x4, rfl, hB⟩
    obtain ⟨hi2, rfl⟩ := rng_get hd
    have hi3 : i + 1 < rows.length := by omega
    obtain ⟨r, hr⟩ : ∃ r, rows[i + 1]? = some r := ⟨_, List.getElem?_eq_getElem hi3⟩
    have hrm := List.mem_of_getElem? hr
    rw [show (1 : Int) + (i : Int) = ((i + 1 : Nat) : Int) by omega]
    have hE : ∃ m, 1 ≤ m ∧ Fz (2 ^ s.toNat) (rows.take (i + 1)) m := ⟨B.1, (hB.2 B.1).mp (neB_mem hB.1)⟩
    walk_at "dgo"
    refine ⟨fun j ρ M2 => M2 = M' ∧ j ≤ i + 1 ∧ ∃ (C : Bd) (x4 : Sl), ρ = [.val (.int s), .val (.lst (wsD rows)), .val (bdD C), .val (.int ((i + 1 : Nat) : Int)), x4, .un, .un] ∧ neB C ∧ ∀ m, inB C m ↔ (1 ≤ m ∧ Fz (2 ^ s.toNat) (rows.take (i + 1)) m) ∧ ∀ a ∈ rows.take j, pok (2 ^ s.toNat) a r m ∧ pok (2 ^ s.toNat) r a m,
      ⟨rfl, Nat.zero_le _, B, _, rfl, hB.1, fun m => by rw [hB.2 m]; exact ⟨fun h => ⟨h, fun a ha => nomatch ha⟩, fun h => h.1⟩⟩, ?_, ?_⟩
    · rintro j d ρ M2 hd ⟨rfl, hj, C, x4, rfl, nC, hC⟩
      obtain ⟨hj2, rfl⟩ := rng_get hd
      have hj3 : j < i + 1 := by omega
      obtain ⟨a, ha⟩ : ∃ a, rows[j]? = some a := ⟨_, List.getElem?_eq_getElem (by omega)⟩
      have ham := List.mem_of_getElem? ha
      rw [Int.zero_add]
      walk_at "dgo"
      refine ⟨_, _, _, rfl, rfl, wsD_at ha, ?_⟩
      walk_at "dgo"
      refine ⟨_, _, _, rfl, rfl, wsD_at hr, ?_⟩
      walk_at "dgo"
      refine ⟨ho.ok a ham, ho.ok r hrm, nC, fun res hres => ?_⟩
      cases res with
      | none =>
        walk_at "dgo"
        exact q2 _ ⟨i + 1, rfl, by omega, hi3, fun m hm hF => by
          rw [fz_take U0 hr m] at hF
          exact hres m ((hC m).mpr ⟨⟨hm, hF.1⟩, fun b hb => hF.2 b (List.take_subset_take_left _ hj hb)⟩) (hF.2 a (by
            rw [List.mem_take_iff_getElem]
            exact ⟨j, by omega, (List.getElem?_eq_some_iff.mp ha).2⟩)), hE⟩
      | some C2 =>
        walk_at "dgo"
        refine And.intro hres.1 fun m => ?_
        rw [hres.2 m, hC m, take_get ha]
        constructor
        · rintro ⟨⟨h1, h2⟩, h3⟩
          refine ⟨h1, fun b hb => ?_⟩
          rcases List.mem_append.mp hb with hb2 | hb2
          · exact h2 b hb2
          · obtain rfl := List.mem_singleton.mp hb2
            exact h3
        · rintro ⟨h1, h2⟩
          exact ⟨⟨h1, fun b hb => h2 b (List.mem_append_left _ hb)⟩, h2 a (List.mem_append_right _ List.mem_cons_self)⟩
    · rintro ρ M2 ⟨rfl, hj, C, x4, rfl, nC, hC⟩
      rw [rng_len, show ((i + 1 : Nat) : Int).toNat = i + 1 from rfl] at hC
      refine ⟨rfl, hi3, C, _, _, rfl, nC, fun m => ?_⟩
      rw [hC m, fz_take U0 hr m, and_assoc]
  · rintro ρ M' ⟨rfl, hi, B, x3, x4, rfl, hB⟩
    rw [rng_len, List.take_of_length_le (by omega)] at hB
    walk_at "dgo"
    exact q1 B hB

/-! ### room for a base -/
def lowF (U m : Int) (w : Int × Int) : Int := w.2 * U - m * w.1
def highF (U m : Int) (w : Int × Int) : Int := w.2 * U + U - 1 - m * w.1
theorem map_snoc {α β : Type} {f : α → β} {xs : List α} {i : Nat} {x : α} (h : xs[i]? = some x) : (xs.take (i + 1)).map f = (xs.take i).map f ++ [f x] := by
  rw [take_get h, List.map_append]
  rfl
theorem max_low {U m : Int} {rows : List (Int × Int)} {z : Int} (h1 : z ∈ rows.map (lowF U m)) (h2 : ∀ y, y ∈ rows.map (lowF U m) → y ≤ z) : (∃ a ∈ rows, z = lowF U m a) ∧ ∀ a ∈ rows, lowF U m a ≤ z := by
  obtain ⟨a, ha, e⟩ := List.mem_map.mp h1
  exact ⟨⟨a, ha, e.symm⟩, fun b hb => h2 _ (List.mem_map.mpr ⟨b, hb, rfl⟩)⟩
theorem min_high {U m : Int} {rows : List (Int × Int)} {z : Int} (h1 : z ∈ rows.map (highF U m)) (h2 : ∀ y, y ∈ rows.map (highF U m) → z ≤ y) : (∃ a ∈ rows, z = highF U m a) ∧ ∀ a ∈ rows, z ≤ highF U m a := by
  obtain ⟨a, ha, e⟩ := List.mem_map.mp h1
  exact ⟨⟨a, ha, e.symm⟩, fun b hb => h2 _ (List.mem_map.mpr ⟨b, hb, rfl⟩)⟩
theorem room_fz {U m lo hi : Int} {rows : List (Int × Int)} (h1 : (∃ a ∈ rows, lo = lowF U m a) ∧ ∀ a ∈ rows, lowF U m a ≤ lo) (h2 : (∃ a ∈ rows, hi = highF U m a) ∧ ∀ a ∈ rows, hi ≤ highF U m a) : 0 ≤ hi - lo ↔ Fz U rows m := by
  unfold Fz pok
  unfold lowF at h1
  unfold highF at h2
  constructor
  · intro h a ha b hb
    have := h1.2 a ha
    have := h2.2 b hb
    omega
  · intro h
    obtain ⟨⟨a, ha, e1⟩, _⟩ := h1
    obtain ⟨⟨b, hb, e2⟩, _⟩ := h2
    have := h a ha b hb
    omega
def sdRoom : SpD := fun ds M Q _ _ => ∃ (s : Int) (rows : List (Int × Int)) (m : Int), ds = [.int s, .lst (wsD rows), .int m] ∧ 0 ≤ s ∧ s ≤ 64 ∧ rows ≠ [] ∧ rows.length ≤ 1000 ∧ RowsOk rows ∧ m.natAbs < 2521728396569246669585858566409191283525103313309788586748690777871726193375821479130513040312634601011624191379636224 ∧ ∀ z : Int, (0 ≤ z ↔ Fz (2 ^ s.toNat) rows m) → Q (.int z) M
theorem mo_LRoom : SpMono sdRoom := ⟨fun ds M Q N E Q' N' E' ⟨s, rows, m, h1, h2, h3, h4, h5, h6, h7, h8⟩ m1 _ _ => ⟨s, rows, m, h1, h2, h3, h4, h5, h6, h7, fun z h => m1 _ _ (h8 z h)⟩⟩

abbrev sLRoom : Stmt := topS 19
theorem scLRoom : FnScope ["bits", "rows", "mult", "low", "high", "gone", "goal"] ["bits", "rows", "mult"] (defScope sLRoom) := ⟨rfl, rfl, rfl, by decide +kernel, rfl, by decide +kernel, by decide +kernel⟩
set_option maxHeartbeats 2000000 in
theorem ok_LRoom (D : DefAt K mg "_law_room" sLRoom ["bits", "rows", "mult"])  (T : Txt mg) : Cal P w K mg base "_law_room" ["bits", "rows", "mult"] 1 (ofD K (sdRoom)) := by
  refine defD D scLRoom (fun ds M Q N E h => (by (obtain ⟨_, _, _, rfl, _⟩ := h); rfl)) (fun f cdv Ar outer s H E ds M Q N E2 hr h => ?_)
  obtain ⟨s, rows, m, rfl, s0, s1, hne, hl, ho, hm, q⟩ := h
  refine ⟨_, _, dss_cons (ds_set 3 scLRoom.nd (de_call1 (o_max rfl) (by rfl) T.max (by decide +kernel) (de_db (dn_de (dn_lc (own := [("gone", 5), ("goal", 6)]) scLRoom.nd (di_list (dv 1)) (blkOk_by (own := [("gone", 5), ("goal", 6)]) (N := ["bits", "rows", "mult", "low", "high", "gone", "goal"]) (sc := defScope sLRoom) (by decide +kernel)) (fun _ _ _ _ _ => (dgc_tup 2 (dgcs_cons (dgc_name 5 (by decide) scLRoom.nd) (dgcs_cons (dgc_name 6 (by decide) scLRoom.nd) dgcs_nil)))) (fun _ _ _ _ _ => dts_nil) (fun _ _ _ _ _ => (de_op o_sub (de_db (de_op o_shl (db 6) (db 0))) (de_db (de_op o_mul (db 2) (db 5))))))))))
      (dss_cons (ds_set 4 scLRoom.nd (de_call1 (o_min rfl) (by rfl) T.min (by decide +kernel) (de_db (dn_de (dn_lc (own := [("gone", 5), ("goal", 6)]) scLRoom.nd (di_list (dv 1)) (blkOk_by (own := [("gone", 5), ("goal", 6)]) (N := ["bits", "rows", "mult", "low", "high", "gone", "goal"]) (sc := defScope sLRoom) (by decide +kernel)) (fun _ _ _ _ _ => (dgc_tup 2 (dgcs_cons (dgc_name 5 (by decide) scLRoom.nd) (dgcs_cons (dgc_name 6 (by decide) scLRoom.nd) dgcs_nil)))) (fun _ _ _ _ _ => dts_nil) (fun _ _ _ _ _ => (de_op o_sub (de_db (de_op o_sub (de_db (de_op o_add (de_db (de_op o_shl (db 6) (db 0))) (de_db (de_op o_shl (de_db de_int) (db 0))))) (de_db de_int))) (de_db (de_op o_mul (db 2) (db 5))))))))))
      (dss_one (ds_ret (de_op o_sub (db 4) (db 3))))), ?_⟩
  have U0 := pos_pow s.toNat
  have U1 := pow_le64 (s := s.toNat) (by omega)
  have hlen : 0 < rows.length := List.length_pos_iff.mpr hne
  walk_at "dgo"
  refine ⟨fun i acc M' => acc = ((rows.take i).map (lowF (2 ^ s.toNat) m)).map .int ∧ i ≤ rows.length ∧ M' = M, ⟨rfl, Nat.zero_le _, rfl⟩, ?_, ?_⟩
  · rintro i d acc M' hd ⟨rfl, hi, rfl⟩
    obtain ⟨w, hw, hwm, rfl⟩ := wsD_get hd
    have hi2 := (List.getElem?_eq_some_iff.mp hw).1
    have hc0 := (ho.ok w hwm).c0
    have hc1 := (ho.ok w hwm).c1
    have hc2 := (ho.ok w hwm).r1
    walk_at "dgo"
    exact ⟨by rw [map_snoc hw, List.map_append]; rfl, hi2, rfl⟩
  · rintro acc M' ⟨rfl, hi, rfl⟩
    rw [List.length_map, List.take_length]
    walk_at "dgo"
    refine ⟨by rw [List.length_map]; exact hlen, fun lo hlo1 hlo2 => ?_⟩
    have hlow := max_low hlo1 hlo2
    walk_at "dgo"
    refine ⟨fun i acc M2 => acc = ((rows.take i).map (highF (2 ^ s.toNat) m)).map .int ∧ i ≤ rows.length ∧ M2 = M', ⟨rfl, Nat.zero_le _, rfl⟩, ?_, ?_⟩
    · rintro i d acc M2 hd ⟨rfl, hi, rfl⟩
      obtain ⟨w, hw, hwm, rfl⟩ := wsD_get hd
      have hi2 := (List.getElem?_eq_some_iff.mp hw).1
      have hc0 := (ho.ok w hwm).c0
      have hc1 := (ho.ok w hwm).c1
      have hc2 := (ho.ok w hwm).r1
      walk_at "dgo"
      exact ⟨by rw [map_snoc hw, List.map_append]; rfl, hi2, rfl⟩
    · rintro acc M2 ⟨rfl, hi, rfl⟩
      rw [List.length_map, List.take_length]
      walk_at "dgo"
      refine ⟨by rw [List.length_map]; exact hlen, fun hg h1 h2 => ?_⟩
      have hhigh := min_high h1 h2
      walk_at "dgo"
      exact q _ (room_fz hlow hhigh)

/-! ### the law of rates gone through -/
theorem pok_mid {U : Int} {a b : Int × Int} {m1 m m2 : Int} (h1 : m1 ≤ m) (h2 : m ≤ m2) (p1 : pok U a b m1) (p2 : pok U a b m2) : pok U a b m := by
  unfold pok at *
  have e : ∀ x : Int, x * a.1 - x * b.1 = x * (a.1 - b.1) := fun x => by rw [Int.mul_sub]
  rw [e] at *
  by_cases h : 0 ≤ a.1 - b.1
  · have := Int.mul_le_mul_of_nonneg_right h1 h
    omega
  · have := Int.mul_le_mul_of_nonneg_right h2 (show 0 ≤ -(a.1 - b.1) by omega)
    rw [Int.mul_neg, Int.mul_neg] at this
    omega
theorem fz_mid {U : Int} {rows : List (Int × Int)} {m1 m m2 : Int} (h1 : m1 ≤ m) (h2 : m ≤ m2) (p1 : Fz U rows m1) (p2 : Fz U rows m2) : Fz U rows m := fun a ha b hb => pok_mid h1 h2 (p1 a ha b hb) (p2 a ha b hb)
/-- rows such as this law draws them -/
structure SmR (U : Int) (a : Int × Int) : Prop where
  c0 : 0 ≤ a.1
  c1 : a.1 ≤ 9
  r0 : -45 ≤ a.2 * U
  r1 : a.2 * U ≤ 306
def Sm (U : Int) (rows : List (Int × Int)) : Prop := ∀ a ∈ rows, SmR U a
theorem fz_near {U : Int} {rows : List (Int × Int)} (hU : 0 < U) (h8 : U ≤ 8) (S : Sm U rows) {m : Int} (m1 : 1 ≤ m) (h : Fz U rows m) : m ≤ 358 ∨ ∀ m', Fz U rows m' := by
  by_cases hs : ∀ a ∈ rows, ∀ b ∈ rows, a.1 = b.1
  · refine .inr fun m' a ha b hb => ?_
    have e := hs a ha b hb
    have := h a ha b hb
    unfold pok at *
    rw [e] at *
    omega
  · left
    have key : ∀ a ∈ rows, ∀ b ∈ rows, b.1 < a.1 → m ≤ 358 := fun a ha b hb hlt => by
      have hp := h b hb a ha
      unfold pok at hp
      have r1 := (S a ha).r1
      have r2 := (S b hb).r0
      have r3 := (S a ha).r0
      have r4 := (S b hb).r1
      have e : m * b.1 - m * a.1 = -(m * (a.1 - b.1)) := by rw [Int.mul_sub]; omega
      rw [e] at hp
      have := Int.mul_le_mul_of_nonneg_left (show 1 ≤ a.1 - b.1 by omega) (show 0 ≤ m by omega)
      omega
    by_cases hc : m ≤ 358
    · exact hc
    · refine absurd (fun a ha b hb => ?_) hs
      rcases Int.lt_trichotomy a.1 b.1 with hl | hl | hl
      · exact absurd (key b hb a ha hl) hc
      · exact hl
      · exact absurd (key a ha b hb hl) hc
theorem isB_one {U : Int} {rows : List (Int × Int)} {B C : Bd} (hB : IsB U rows B) (hC : IsB U rows C) : B = C := by
  obtain ⟨bl, bh⟩ := B
  obtain ⟨cl, ch⟩ := C
  have eq : ∀ m, inB (bl, bh) m ↔ inB (cl, ch) m := fun m => by rw [hB.2 m, hC.2 m]
  have h1 : cl ≤ bl := ((eq bl).mp (neB_mem hB.1)).1
  have h2 : bl ≤ cl := ((eq cl).mpr (neB_mem hC.1)).1
  have h3 : bl = cl := by omega
  subst h3
  congr 1
  cases bh with
  | none =>
    cases ch with
    | none => rfl
    | some g =>
      have h4 := hC.1 g rfl
      have h5 : bl ≤ g := h4
      have := ((eq (g + 1)).mp ⟨by show bl ≤ g + 1; omega, fun _ e => nomatch e⟩).2 g rfl
      omega
  | some g =>
    have h5 : bl ≤ g := hB.1 g rfl
    cases ch with
    | none =>
      have := ((eq (g + 1)).mpr ⟨by show bl ≤ g + 1; omega, fun _ e => nomatch e⟩).2 g rfl
      omega
    | some k =>
      have h6 : bl ≤ k := hC.1 k rfl
      have h7 := ((eq g).mp ⟨h5, fun _ e => by cases e; exact Int.le_refl _⟩).2 k rfl
      have h8 := ((eq k).mpr ⟨h6, fun _ e => by cases e; exact Int.le_refl _⟩).2 g rfl
      rw [show g = k by omega]
theorem fz_less {U : Int} {rows : List (Int × Int)} {n k : Nat} {m : Int} (h : n ≤ k) (hF : Fz U (rows.take k) m) : Fz U (rows.take n) m := fun a ha b hb => hF a (List.take_subset_take_left _ h ha) b (List.take_subset_take_left _ h hb)
theorem noneAt_one {U : Int} {rows : List (Int × Int)} {k j : Int} (hk : NoneAt U rows k) (hj : NoneAt U rows j) : k = j := by
  obtain ⟨n, rfl, n1, nl, h1, m, m1, h2⟩ := hk
  obtain ⟨n', rfl, n1', nl', h1', m', m1', h2'⟩ := hj
  by_cases e : n < n'
  · exact absurd (fz_less (show n + 1 ≤ n' by omega) h2') (h1 m' m1')
  · by_cases e2 : n' < n
    · exact absurd (fz_less (show n' + 1 ≤ n by omega) h2) (h1' m m1)
    · rw [show n = n' by omega]
theorem isB_noneAt {U : Int} {rows : List (Int × Int)} {B : Bd} {k : Int} (hB : IsB U rows B) (hk : NoneAt U rows k) : False := by
  obtain ⟨n, rfl, n1, nl, h1, _⟩ := hk
  obtain ⟨m1, hF⟩ := (hB.2 B.1).mp (neB_mem hB.1)
  refine h1 B.1 m1 ?_
  rw [← List.take_length (l := rows)] at hF
  exact fz_less (by omega) hF
/-- the multipliers below n + 1 that fit, in order -/
structure Fits (U : Int) (rows : List (Int × Int)) (n : Int) (xs : List Int) : Prop where
  up : xs.Pairwise (· < ·)
  is : ∀ m, m ∈ xs ↔ 1 ≤ m ∧ m ≤ n ∧ Fz U rows m
theorem Fits.nil {U : Int} {rows : List (Int × Int)} : Fits U rows 0 [] := ⟨.nil, fun m => ⟨fun h => (nomatch h), fun h => by omega⟩⟩
theorem Fits.yes {U n : Int} {rows : List (Int × Int)} {xs : List Int} (h : Fits U rows n xs) (n0 : 0 ≤ n) (hF : Fz U rows (n + 1)) : Fits U rows (n + 1) (xs ++ [n + 1]) := by
  refine ⟨List.pairwise_append.mpr ⟨h.up, List.pairwise_singleton _ _, fun a ha b hb => ?_⟩, fun m => ?_⟩
  · obtain rfl := List.mem_singleton.mp hb
    have := ((h.is a).mp ha).2.1
    omega
  · rw [List.mem_append, List.mem_singleton, h.is m]
    constructor
    · rintro (⟨a, b, c⟩ | rfl)
      · exact ⟨a, by omega, c⟩
      · exact ⟨by omega, Int.le_refl _, hF⟩
    · rintro ⟨a, b, c⟩
      by_cases e : m = n + 1
      · exact .inr e
      · exact .inl ⟨a, by omega, c⟩
theorem Fits.no {U n : Int} {rows : List (Int × Int)} {xs : List Int} (h : Fits U rows n xs) (hF : ¬ Fz U rows (n + 1)) : Fits U rows (n + 1) xs := by
  refine ⟨h.up, fun m => ?_⟩
  rw [h.is m]
  constructor
  · rintro ⟨a, b, c⟩
    exact ⟨a, by omega, c⟩
  · rintro ⟨a, b, c⟩
    by_cases e : m = n + 1
    · exact absurd (e ▸ c) hF
    · exact ⟨a, by omega, c⟩
theorem fz_first {U : Int} (rows : List (Int × Int)) {m : Int} (hU : 1 ≤ U := by omega) : Fz U (rows.take (0 + 1)) m := fun a ha b hb => by
  cases rows with
  | nil => cases ha
  | cons r rs =>
    obtain rfl := List.mem_singleton.mp (show a ∈ [r] from ha)
    obtain rfl := List.mem_singleton.mp (show b ∈ [a] from hb)
    unfold pok
    omega
theorem nth_mem {vs : List Int} {i : Nat} (h : i < vs.length) : nth vs i ∈ vs := by
  unfold nth
  rw [List.getD_eq_getElem?_getD, List.getElem?_eq_getElem h]
  exact List.getElem_mem h
theorem nth_getElem {vs : List Int} {i : Nat} (h : i < vs.length) : nth vs i = vs[i] := by
  unfold nth
  rw [List.getD_eq_getElem?_getD, List.getElem?_eq_getElem h]
  rfl
theorem up_between {xs : List Int} (h : xs.Pairwise (· < ·)) {m : Int} (hm : m ∈ xs) : nth xs 0 ≤ m ∧ m ≤ nth xs (xs.length - 1) := by
  obtain ⟨i, hi, rfl⟩ := List.mem_iff_getElem.mp hm
  rw [nth_getElem (by omega), nth_getElem (by omega)]
  have hp := List.pairwise_iff_getElem.mp h
  refine ⟨?_, ?_⟩
  · by_cases e : i = 0
    · subst e; exact Int.le_refl _
    · exact Int.le_of_lt (hp 0 i (by omega) hi (by omega))
  · by_cases e : i = xs.length - 1
    · subst e; exact Int.le_refl _
    · exact Int.le_of_lt (hp i (xs.length - 1) hi (by omega) (by omega))
theorem fits_none {U : Int} {rows : List (Int × Int)} (hU : 0 < U) (h8 : U ≤ 8) (S : Sm U rows) (h : Fits U rows 699 []) : ∀ m, 1 ≤ m → ¬ Fz U rows m := fun m m1 hF => by
  rcases fz_near hU h8 S m1 hF with h1 | h1
  · exact nomatch (h.is m).mpr ⟨m1, by omega, hF⟩
  · exact nomatch (h.is 1).mpr ⟨by omega, by omega, h1 1⟩
theorem fits_bound {U : Int} {rows : List (Int × Int)} {xs : List Int} (hU : 0 < U) (h8 : U ≤ 8) (S : Sm U rows) (h : Fits U rows 699 xs) (hx : 0 < xs.length) {z : Int} (z0 : 358 < z) :
    (Fz U rows z → IsB U rows (nth xs 0, none)) ∧ (¬ Fz U rows z → IsB U rows (nth xs 0, some (nth xs (xs.length - 1)))) := by
  have h0 := (h.is _).mp (nth_mem hx)
  have h1 := (h.is _).mp (nth_mem (show xs.length - 1 < xs.length by omega))
  constructor
  · intro hz
    have all := (fz_near hU h8 S (by omega) hz).resolve_left (by omega)
    have h2 := (up_between h.up ((h.is 1).mpr ⟨by omega, by omega, all 1⟩)).1
    refine ⟨fun g e => (nomatch e), fun m => ⟨fun hm => ⟨by have : nth xs 0 ≤ m := hm.1; omega, all m⟩, fun hm => ⟨by show nth xs 0 ≤ m; omega, fun _ e => (nomatch e)⟩⟩⟩
  · intro hz
    refine ⟨fun g e => by cases e; exact (up_between h.up (nth_mem hx)).2, fun m => ⟨fun hm => ?_, fun hm => ?_⟩⟩
    · have h2 : nth xs 0 ≤ m := hm.1
      have h3 := hm.2 _ rfl
      exact ⟨by omega, fz_mid h2 h3 h0.2.2 h1.2.2⟩
    · have h4 := (fz_near hU h8 S hm.1 hm.2).resolve_right (fun z' => hz (z' z))
      have h5 := up_between h.up ((h.is m).mpr ⟨hm.1, by omega, hm.2⟩)
      exact ⟨h5.1, fun g e => by cases e; exact h5.2⟩
theorem Sm.take {U : Int} {rows : List (Int × Int)} (S : Sm U rows) (n : Nat) : Sm U (rows.take n) := fun a ha => S a (List.mem_of_mem_take ha)
theorem Sm.ok {U : Int} {rows : List (Int × Int)} (hU : 0 < U) (S : Sm U rows) : RowsOk rows := ⟨fun a ha => by
  have h := S a ha
  have c0 := h.c0
  have c1 := h.c1
  have r0 := h.r0
  have r1 := h.r1
  refine ⟨c0, by omega, ?_⟩
  have k : a.2 ≤ 306 := by
    by_cases e : a.2 ≤ 0
    · omega
    · have := Int.mul_le_mul_of_nonneg_left (show 1 ≤ U by omega) (show 0 ≤ a.2 by omega)
      omega
  have k2 : -45 ≤ a.2 := by
    by_cases e : 0 ≤ a.2
    · omega
    · have := Int.mul_le_mul_of_nonneg_left (show 1 ≤ U by omega) (show 0 ≤ -a.2 by omega)
      rw [Int.neg_mul, Int.neg_mul] at this
      omega
  omega⟩
theorem pickI {P : Int → Prop} {ns : List Int} {r : Int} (h : ∀ n ∈ ns, P n) (r0 : 0 ≤ r) (r1 : r < ns.length) : ∃ i, P i ∧ atI (ns.map DM.D.int) r = some (.int i) := by
  obtain ⟨x, hx, _, e⟩ := at_map (f := DM.D.int) r0 r1
  exact ⟨x, h x hx, e⟩
theorem ix_first {ns : List Int} (h : 0 < ns.length) : atI (ns.map DM.D.int) 0 = some (.int (nth ns 0)) := by
  unfold atI ixN
  rw [if_pos (by decide), if_pos (by rw [List.length_map]; omega)]
  show (ns.map DM.D.int)[0]? = _
  rw [List.getElem?_map]
  unfold nth
  rw [List.getD_eq_getElem?_getD, List.getElem?_eq_getElem h]
  rfl
theorem ix_last {ns : List Int} (h : 0 < ns.length) : atI (ns.map DM.D.int) (-1) = some (.int (nth ns (ns.length - 1))) := by
  unfold atI ixN
  rw [if_neg (by decide), if_pos (by rw [List.length_map]; omega)]
  show (ns.map DM.D.int)[((-1 : Int) + ((ns.map DM.D.int).length : Int)).toNat]? = _
  rw [List.length_map, show ((-1 : Int) + (ns.length : Int)).toNat = ns.length - 1 by omega, List.getElem?_map]
  unfold nth
  rw [List.getD_eq_getElem?_getD, List.getElem?_eq_getElem (by omega)]
  rfl
def sdRw : SpD := fun ds M _ Nw _ => ∃ (a : Addr) (s : Int), ds = [.ref a, .int s] ∧ M a = some .src ∧ 0 ≤ s ∧ s ≤ 3 ∧ ∀ rows : List (Int × Int), rows ≠ [] → rows.length ≤ 6 → Sm (2 ^ s.toNat) rows → Nw (wsD rows) M
theorem mo_LRows : SpMono sdRw := ⟨fun ds M Q N E Q' N' E' ⟨a, s, h1, h2, h3, h4, h5⟩ _ m2 _ => ⟨a, s, h1, h2, h3, h4, fun r h h' h'' => m2 _ _ (h5 r h h' h'')⟩⟩
theorem pow3 {s : Int} (s0 : 0 ≤ s) (s1 : s ≤ 3) : (1 : Int) ≤ 2 ^ s.toNat ∧ (2 : Int) ^ s.toNat ≤ 8 := by
  have h : s = 0 ∨ s = 1 ∨ s = 2 ∨ s = 3 := by omega
  rcases h with rfl | rfl | rfl | rfl <;> decide

abbrev sLRows : Stmt := topS 20
theorem scLRows : FnScope ["source", "bits", "mult", "base", "wide", "rows", "turn", "gone", "off"] ["source", "bits"] (defScope sLRows) := ⟨rfl, rfl, rfl, by decide +kernel, rfl, by decide +kernel, by decide +kernel⟩
set_option maxHeartbeats 2000000 in
theorem ok_LRows (D : DefAt K mg "_law_rows" sLRows ["source", "bits"]) (CLNext : Cal P w K mg base "_law_next" ["source", "many"] 2 (ofD K (sdNext))) (T : Txt mg) : Cal P w K mg base "_law_rows" ["source", "bits"] 3 (ofD K (sdRw)) := by
  refine defD D scLRows (fun ds M Q N E h => (by (obtain ⟨_, _, rfl, _⟩ := h); rfl)) (fun f cdv Ar outer s H E ds M Q N E2 hr h => ?_)
  obtain ⟨a, s, rfl, ma, s0, s1, q⟩ := h
  refine ⟨_, _, dss_cons (ds_par 2 3 scLRows.nd (da_cons (de_cal CLNext mo_LNext hr (by rfl) (da_cons (dv 0) (da_cons de_int da_nil))) (da_cons (de_op o_sub (de_db (de_cal CLNext mo_LNext hr (by rfl) (da_cons (dv 0) (da_cons de_int da_nil)))) (de_db de_int)) da_nil)))
      (dss_cons (ds_set 4 scLRows.nd (de_ix o_ixL (de_db (dn_de (dn_lst (da_cons de_int (da_cons de_int (da_cons de_int da_nil)))))) (de_db (de_cal CLNext mo_LNext hr (by rfl) (da_cons (dv 0) (da_cons de_int da_nil)))) (fun _ _ => rfl)))
      (dss_cons (ds_own 5 scLRows.nd (dn_lst da_nil))
      (dss_cons (ds_for PassesOwn.never (di_rng1 (by rfl) T.range (de_op o_add (de_db de_int) (de_db (de_cal CLNext mo_LNext hr (by rfl) (da_cons (dv 0) (da_cons de_int da_nil)))))) (dg_name 6 scLRows.nd)
        (dss_cons (ds_set 7 scLRows.nd (de_cal CLNext mo_LNext hr (by rfl) (da_cons (dv 0) (da_cons (dv 4) da_nil))))
        (dss_cons (ds_set 8 scLRows.nd (de_op o_mul (de_db (de_ix o_ixL (de_db (dn_de (dn_lst (da_cons de_int (da_cons de_int (da_cons de_int (da_cons de_int (da_cons de_int (da_cons (de_un o_neg (de_db de_int)) (da_cons de_int da_nil)))))))))) (de_db (de_cal CLNext mo_LNext hr (by rfl) (da_cons (dv 0) (da_cons de_int da_nil)))) (fun _ _ => rfl))) (de_db (de_cal CLNext mo_LNext hr (by rfl) (da_cons (dv 0) (da_cons de_int da_nil))))))
        (dss_one (ds_append 5 (de_tup (da_cons (dv 7) (da_cons (de_op o_add (de_db (de_op o_shr (de_db (de_op o_add (db 3) (de_db (de_op o_mul (db 2) (db 7))))) (db 1))) (db 8)) da_nil))))))))
      (dss_one (ds_retOwn 5))))), ?_⟩
  obtain ⟨U1, U8⟩ := pow3 s0 s1
  walk_at "dgo"
  intro m m0 m1
  walk_at "dgo"
  intro b b0 b1
  walk_at "dgo"
  intro k k0 k1
  obtain ⟨wd, hw, ew⟩ := pickI (P := fun i => 1 ≤ i ∧ i ≤ 10) (ns := [1, 3, 10]) (fun n hn => by simp only [List.mem_cons, List.not_mem_nil, or_false] at hn; omega) k0 (by exact k1)
  obtain ⟨hw0, hw1⟩ := hw
  refine ⟨_, _, _, rfl, rfl, ew, ?_⟩
  walk_at "dgo"
  intro n n0 n1
  walk_at "dgo"
  refine ⟨fun i ρ M' => M' = M ∧ i ≤ 6 ∧ ∃ (rows : List (Int × Int)) (y6 y7 y8 : Sl), ρ = [.val (.ref a), .val (.int s), .val (.int m), .val (.int (b - 30)), .val (.int wd), .own (wsD rows), y6, y7, y8] ∧ rows.length = i ∧ Sm (2 ^ s.toNat) rows, ⟨rfl, by decide, [], _, _, _, rfl, rfl, (fun _ h => nomatch h)⟩, ?_, ?_⟩
  · rintro i d ρ M' hd ⟨rfl, hi6, rows, y6, y7, y8, rfl, hrl, hS⟩
    obtain ⟨hi, rfl⟩ := rng_get hd
    have hwl : (wsD rows).length = i := by rw [List.length_map, hrl]
    walk_at "dgo"
    intro g g0 g1
    walk_at "dgo"
    intro t t0 t1
    obtain ⟨p, hp, ep⟩ := pickI (P := fun i => -1 ≤ i ∧ i ≤ 2) (ns := [0, 0, 0, 0, 1, -1, 2]) (fun n hn => by simp only [List.mem_cons, List.not_mem_nil, or_false] at hn; omega) t0 (by exact t1)
    obtain ⟨hp0, hp1⟩ := hp
    refine ⟨_, _, _, rfl, rfl, ep, ?_⟩
    walk_at "dgo"
    intro o o0 o1
    have hmg := mul_le (x := m) (y := g) (a := 29) (b := 9) m0 (by omega) g0 (by omega)
    have hpo : -1 ≤ p * o ∧ p * o ≤ 2 := by
      have h : o = 0 ∨ o = 1 := by omega
      rcases h with rfl | rfl
      · rw [Int.mul_zero]; omega
      · rw [Int.mul_one]; omega
    walk_at "dgo"
    refine ⟨rows ++ [(g, (b - 30 + m * g) / 2 ^ s.toNat + p * o)], .val (.int (0 + (i : Int))), .val (.int g), .val (.int (p * o)), ?_, by rw [List.length_append, List.length_singleton, hrl], fun x hx => ?_⟩
    · rw [show wsD (rows ++ [(g, (b - 30 + m * g) / 2 ^ s.toNat + p * o)]) = wsD rows ++ [ipD (g, (b - 30 + m * g) / 2 ^ s.toNat + p * o)] from List.map_append]
      rfl
    · rcases List.mem_append.mp hx with hx | hx
      · exact hS x hx
      · obtain rfl := List.mem_singleton.mp hx
        have e1 := Int.mul_ediv_add_emod (b - 30 + m * g) (2 ^ s.toNat)
        have e2 := Int.emod_nonneg (b - 30 + m * g) (show (2 : Int) ^ s.toNat ≠ 0 by omega)
        have e3 := Int.emod_lt_of_pos (b - 30 + m * g) (show (0 : Int) < 2 ^ s.toNat by omega)
        have e4 : -(2 ^ s.toNat) ≤ p * o * 2 ^ s.toNat ∧ p * o * 2 ^ s.toNat ≤ 2 * 2 ^ s.toNat := by
          have h : p * o = -1 ∨ p * o = 0 ∨ p * o = 1 ∨ p * o = 2 := by omega
          rcases h with h | h | h | h <;> rw [h] <;> omega
        have e5 : ((b - 30 + m * g) / 2 ^ s.toNat + p * o) * 2 ^ s.toNat = 2 ^ s.toNat * ((b - 30 + m * g) / 2 ^ s.toNat) + p * o * 2 ^ s.toNat := by rw [Int.add_mul, Int.mul_comm]
        refine ⟨g0, by show g ≤ 9; omega, ?_, ?_⟩
        · show -45 ≤ ((b - 30 + m * g) / 2 ^ s.toNat + p * o) * 2 ^ s.toNat
          omega
        · show ((b - 30 + m * g) / 2 ^ s.toNat + p * o) * 2 ^ s.toNat ≤ 306
          omega
  · rintro ρ M' ⟨rfl, hi6, rows, y6, y7, y8, rfl, hrl, hS⟩
    rw [rng_len] at hrl
    walk_at "dgo"
    exact q rows (fun z => by rw [z] at hrl; simp at hrl; omega) (by omega) hS
def sdDue : SpD := fun ds M Q _ _ => ∃ (s : Int) (rows : List (Int × Int)), ds = [.int s, .lst (wsD rows)] ∧ 0 ≤ s ∧ s ≤ 3 ∧ rows ≠ [] ∧ rows.length ≤ 6 ∧ Sm (2 ^ s.toNat) rows ∧ (∀ B, IsB (2 ^ s.toNat) rows B → Q (ratesD B) M) ∧ (∀ k, NoneAt (2 ^ s.toNat) rows k → Q (noneD k) M)
theorem mo_LDue : SpMono sdDue := ⟨fun ds M Q N E Q' N' E' ⟨s, rows, h1, h2, h3, h4, h5, h6, h7, h8⟩ m1 _ _ => ⟨s, rows, h1, h2, h3, h4, h5, h6, fun B h => m1 _ _ (h7 B h), fun k h => m1 _ _ (h8 k h)⟩⟩

abbrev sLDue : Stmt := topS 21
theorem scLDue : FnScope ["bits", "rows", "many", "fits", "mult"] ["bits", "rows"] (defScope sLDue) := ⟨rfl, rfl, rfl, by decide +kernel, rfl, by decide +kernel, by decide +kernel⟩
set_option maxHeartbeats 2000000 in
theorem ok_LDue (D : DefAt K mg "_law_due" sLDue ["bits", "rows"]) (CLRoom : Cal P w K mg base "_law_room" ["bits", "rows", "mult"] 1 (ofD K (sdRoom))) (T : Txt mg) : Cal P w K mg base "_law_due" ["bits", "rows"] 2 (ofD K (sdDue)) := by
  refine defD D scLDue (fun ds M Q N E h => (by (obtain ⟨_, _, rfl, _⟩ := h); rfl)) (fun f cdv Ar outer s H E ds M Q N E2 hr h => ?_)
  obtain ⟨s, rows, rfl, s0, s1, hne, hl, S, q1, q2⟩ := h
  refine ⟨_, _, dss_cons (ds_for PassesOwn.never (di_rng2 (by rfl) T.range de_int (de_op o_add (de_db (de_call1 o_len (by rfl) T.len PySem.boot_len (db 1))) (de_db de_int))) (dg_name 2 scLDue.nd)
        (dss_cons (ds_setLc 3 (own := [("mult", 4)]) scLDue.nd (sw_true rfl rfl rfl (by decide +kernel)) (di_rng2 (by rfl) T.range de_int de_int) (blkOk_by (own := [("mult", 4)]) (N := ["bits", "rows", "many", "fits", "mult"]) (sc := defScope sLDue) (by decide +kernel)) (fun _ _ _ _ _ => (dgc_name 4 (by decide) scLDue.nd)) (fun _ _ _ _ _ => (dts_one (dt_cmp o_ge (de_db (de_cal CLRoom mo_LRoom hr (by rfl) (da_cons (dv 0) (da_cons (dn_de (dn_sl (db 1) do_none (do_some (dv 2)))) (da_cons (dv 4) da_nil))))) (de_db de_int) (nomark _)))) (fun _ _ _ _ _ => (dv 4)))
        (dss_one (ds_if (dt_cmp (o_eqD hr.units) (db 3) (de_db (dn_de (dn_lst da_nil))) (nomark _))
          (dss_one (ds_ret (de_tup (da_cons de_str (da_cons (dv 2) da_nil)))))
          dss_nil))))
      (dss_cons (ds_if (dt_cmp o_ge (de_db (de_cal CLRoom mo_LRoom hr (by rfl) (da_cons (dv 0) (da_cons (dv 1) (da_cons (de_op o_pow (de_db de_int) (de_db de_int)) da_nil))))) (de_db de_int) (nomark _))
        (dss_one (ds_ret (de_tup (da_cons de_str (da_cons (de_ix o_ixL (db 3) (de_db de_int) (fun _ _ => rfl)) (da_cons de_non da_nil))))))
        dss_nil)
      (dss_one (ds_ret (de_tup (da_cons de_str (da_cons (de_ix o_ixL (db 3) (de_db de_int) (fun _ _ => rfl)) (da_cons (de_ix o_ixL (db 3) (de_db (de_un o_neg (de_db de_int))) (fun _ _ => rfl)) da_nil))))))), ?_⟩
  obtain ⟨U1, U8⟩ := pow3 s0 s1
  have hwl : (wsD rows).length = rows.length := List.length_map _
  have hlen : 0 < rows.length := List.length_pos_iff.mpr hne
  walk_at "dgo"
  rw [hwl]
  refine ⟨fun i ρ M' => M' = M ∧ i ≤ rows.length ∧ ∃ (y2 y3 : Sl), ρ = [.val (.int s), .val (.lst (wsD rows)), y2, y3, .un] ∧ (0 < i → ∃ xs : List Int, y3 = .val (.lst (xs.map .int)) ∧ 0 < xs.length ∧ Fits (2 ^ s.toNat) (rows.take i) 699 xs), ⟨rfl, Nat.zero_le _, _, _, rfl, fun h => absurd h (by decide)⟩, ?_, ?_⟩
  · rintro i d ρ M' hd ⟨rfl, hil, y2, y3, rfl, hx⟩
    obtain ⟨hi, rfl⟩ := rng_get hd
    have hi3 : i < rows.length := by omega
    have hc : DM.cutD (wsD rows) none (some (1 + (i : Int))) = wsD (rows.take (i + 1)) := by
      rw [wsD, cutD_map, cutL_to _ (by omega), show (1 + (i : Int)).toNat = i + 1 by omega]
    have hS := S.take (i + 1)
    have hO := hS.ok (by omega)
    have htl : (rows.take (i + 1)).length = i + 1 := by rw [List.length_take]; omega
    have htn : rows.take (i + 1) ≠ [] := fun z => by rw [z] at htl; cases htl
    walk_at "dgo"
    refine ⟨fun j acc M2 => ∃ xs : List Int, acc = xs.map .int ∧ Fits (2 ^ s.toNat) (rows.take (i + 1)) j xs ∧ xs.length ≤ j ∧ M2 = M', ⟨[], rfl, .nil, Nat.le_refl _, rfl⟩, ?_, ?_⟩
    · rintro j d acc M2 hd ⟨xs, rfl, hF, hxl, rfl⟩
      obtain ⟨hj, rfl⟩ := rng_get hd
      rw [Int.add_comm 1 (j : Int)]
      walk_at "dgo"
      rw [hc]
      refine ⟨s, rows.take (i + 1), (j : Int) + 1, rfl, s0, by omega, htn, by omega, hO, by omega, fun z hz => ?_⟩
      walk_at "dgo"
      refine ite2 (fun e => ?_) (fun e => ?_)
      · have e : z ≥ 0 := of_decide_eq_true e
        walk_at "dgo"
        exact ⟨xs ++ [(j : Int) + 1], by rw [List.map_append]; rfl, hF.yes (by omega) (hz.mp e), by rw [List.length_append, List.length_singleton]; omega, rfl⟩
      · have e : ¬ z ≥ 0 := fun h => e (decide_eq_true h)
        walk_at "dgo"
        exact ⟨hF.no (fun h => e (hz.mpr h)), by omega, rfl⟩
    · rintro acc M2 ⟨xs, rfl, hF, hxl, rfl⟩
      rw [rng_len] at hF hxl
      have hF : Fits (2 ^ s.toNat) (rows.take (i + 1)) 699 xs := hF
      walk_at "dgo"
      refine ⟨5, by decide, okN_ints _, okN_nil, _, rfl, ?_⟩
      rw [eqD_nil]
      cases xs with
      | nil =>
        walk_at "dgo"
        have hno := fits_none (by omega) U8 hS hF
        have hi1 : 1 ≤ i := by
          by_cases e : 1 ≤ i
          · exact e
          · obtain rfl : i = 0 := by omega
            exact absurd (fz_first rows) (hno 1 (by decide))
        obtain ⟨xs, _, hx0, hFx⟩ := hx hi1
        have hm := (hFx.is _).mp (nth_mem hx0)
        exact q2 _ ⟨i, by omega, hi1, hi3, hno, nth xs 0, hm.1, hm.2.2⟩
      | cons x xr =>
        walk_at "dgo"
        exact fun _ => ⟨x :: xr, rfl, Nat.succ_pos _, hF⟩
  · rintro ρ M' ⟨rfl, hil, y2, y3, rfl, hx⟩
    rw [rng_len] at hx
    obtain ⟨xs, rfl, hx0, hF⟩ := hx (by omega)
    rw [show ((rows.length : Int) + 1 - 1).toNat = rows.length by omega, List.take_length] at hF
    obtain ⟨hb1, hb2⟩ := fits_bound (by omega) U8 S hF hx0 (z := 1000000000000000000000000000000) (by decide)
    have hOk := S.ok (by omega)
    walk_at "dgo"
    refine fun z hz => ?_
    walk_at "dgo"
    refine ite2 (fun e => ?_) (fun e => ?_)
    · have e : z ≥ 0 := of_decide_eq_true e
      walk_at "dgo"
      refine ⟨_, _, _, rfl, rfl, ix_first hx0, ?_⟩
      walk_at "dgo"
      exact q1 _ (hb1 (hz.mp e))
    · have e : ¬ z ≥ 0 := fun h => e (decide_eq_true h)
      walk_at "dgo"
      refine ⟨_, _, _, rfl, rfl, ix_first hx0, ?_⟩
      walk_at "dgo"
      refine ⟨_, _, _, rfl, rfl, ix_last hx0, ?_⟩
      walk_at "dgo"
      exact q1 _ (hb2 (fun h => e (hz.mpr h)))
theorem okN_rates (B : Bd) : okN 6 (ratesD B) := by
  obtain ⟨l, h⟩ := B
  unfold ratesD okN okL okN okL okN okL
  refine ⟨by decide +kernel, trivial, ?_, ?_⟩
  · cases h <;> (unfold optD okN; trivial)
  · unfold okL; trivial
theorem okN_none (k : Int) : okN 6 (noneD k) := by
  unfold noneD okN okL okN okL okN okL
  exact ⟨by decide +kernel, trivial, trivial⟩
def spLaw : SpD := fun ds M Q _ _ => ∃ (ns : List Int), ds = [.kl (ns.map .int)] ∧ ns.length ≤ 63 ∧ ∀ M', Q (.bl true) M'
theorem mo_Law : SpMono (spLaw) := ⟨fun ds M Q N E Q' N' E' mh mh1 mh2 mh3 => by
  obtain ⟨ns, rfl, hl, q⟩ := mh
  refine ⟨ns, rfl, hl, ?_⟩
  first
  | exact mh1 _ _ q
  | exact mh2 _ _ q
  | exact fun a => mh1 _ _ (q a)
  | exact fun a b => mh1 _ _ (q a b)
  | exact fun a b c => mh1 _ _ (q a b c)
  | exact fun a b c d => mh1 _ _ (q a b c d)
  | exact fun a b c d e => mh1 _ _ (q a b c d e)
  | exact fun a => mh2 _ _ (q a)
  | exact fun a b => mh2 _ _ (q a b)
  | exact fun a b c => mh2 _ _ (q a b c)
  | exact fun a b c d => mh2 _ _ (q a b c d)
  | exact fun a b c d e => mh2 _ _ (q a b c d e)
  | exact ⟨fun a => mh1 _ _ (q.1 a), fun a => mh3 _ _ (q.2 a)⟩
  | exact ⟨fun a => mh2 _ _ (q.1 a), fun a => mh3 _ _ (q.2 a)⟩⟩

abbrev sLaw : Stmt := topS 22
theorem scLaw : FnScope ["script", "k", "source", "turn", "bits", "rows"] ["script"] (defScope sLaw) := ⟨rfl, rfl, rfl, by decide +kernel, rfl, by decide +kernel, by decide +kernel⟩
set_option maxHeartbeats 2000000 in
theorem ok_Law (D : DefAt K mg "law" sLaw ["script"]) (CLSource : Cal P w K mg base "_law_source" ["script", "k"] 2 (ofD K (sdSource))) (CLNext : Cal P w K mg base "_law_next" ["source", "many"] 2 (ofD K (sdNext))) (CLRows : Cal P w K mg base "_law_rows" ["source", "bits"] 3 (ofD K (sdRw))) (CRatesSeen : Cal P w K mg base "rates_seen" ["shift", "seen"] 4 (ofD K (sdSeen))) (CLDue : Cal P w K mg base "_law_due" ["bits", "rows"] 2 (ofD K (sdDue))) (T : Txt mg) : Cal P w K mg base "law" ["script"] 5 (ofD K (spLaw)) := by
  refine defD D scLaw (fun ds M Q N E h => (by (obtain ⟨_, rfl, _⟩ := h); rfl)) (fun f cdv Ar outer s H E ds M Q N E2 hr h => ?_)
  obtain ⟨ns, rfl, hl, q⟩ := h
  refine ⟨_, _, dss_cons (ds_for PassesOwn.never (di_rng1 (by rfl) T.range (de_call2 (o_min2 rfl) (by rfl) T.min (by decide +kernel) (de_db de_int) (de_db (de_call2 (o_max2 rfl) (by rfl) T.max (by decide +kernel) (de_db de_int) (de_db (de_call1 o_len (by rfl) T.len PySem.boot_len (db 0))))))) (dg_name 1 scLaw.nd)
        (dss_cons (ds_set 2 scLaw.nd (de_cal CLSource mo_LSource hr (by rfl) (da_cons (dv 0) (da_cons (dv 1) da_nil))))
        (dss_one (ds_for PassesOwn.never (di_rng1 (by rfl) T.range de_int) (dg_name 3 scLaw.nd)
          (dss_cons (ds_set 4 scLaw.nd (de_cal CLNext mo_LNext hr (by rfl) (da_cons (dv 2) (da_cons de_int da_nil))))
          (dss_cons (ds_set 5 scLaw.nd (dn_de (dn_cal CLRows mo_LRows hr (by rfl) (da_cons (dv 2) (da_cons (dv 4) da_nil)))))
          (dss_one (ds_if (dt_cmp (o_neD hr.units) (de_db (de_cal CRatesSeen mo_RatesSeen hr (by rfl) (da_cons (dv 4) (da_cons (dv 5) da_nil)))) (de_db (de_cal CLDue mo_LDue hr (by rfl) (da_cons (dv 4) (da_cons (dv 5) da_nil)))) (nomark _))
            (dss_one (ds_ret de_bl))
            dss_nil))))))))
      (dss_one (ds_ret de_bl)), ?_⟩
  walk_at "dgo"
  refine ⟨fun i ρ M' => ∃ y1 y2 y3 y4 y5, ρ = [.val (.kl (ns.map .int)), y1, y2, y3, y4, y5], ⟨_, _, _, _, _, rfl⟩, ?_, ?_⟩
  · rintro i d ρ M' hd ⟨y1, y2, y3, y4, y5, rfl⟩
    obtain ⟨hi, rfl⟩ := rng_get hd
    obtain ⟨i0, hi0⟩ : ∃ i0, i0 = i := ⟨_, rfl⟩
    subst hi0
    walk_at "dgo"
    intro a
    generalize hM : addM M' a .src = M2
    have ma : M2 a = some .src := by rw [← hM]; exact addM_same
    walk_at "dgo"
    refine ⟨fun i ρ M' => M' = M2 ∧ ∃ y3 y4 y5, ρ = [.val (.kl (ns.map .int)), .val (.int (0 + ↑i0)), .val (.ref a), y3, y4, y5], ⟨rfl, _, _, _, rfl⟩, ?_, ?_⟩
    · rintro i d ρ M' hd ⟨rfl, y3, y4, y5, rfl⟩
      obtain ⟨hi, rfl⟩ := rng_get hd
      walk_at "dgo"
      intro s s0 s1
      obtain ⟨U1, U8⟩ := pow3 s0 (by omega)
      walk_at "dgo"
      intro rows hne hrl S
      have hO := S.ok (by omega)
      walk_at "dgo"
      refine ⟨fun B hB => ?_, fun k hk => ?_⟩
      · walk_at "dgo"
        refine ⟨fun C hC => ?_, fun j hj => (isB_noneAt hB hj).elim⟩
        obtain rfl := isB_one hB hC
        walk_at "dgo"
        refine ⟨6, by decide, okN_rates _, okN_rates _, ?_⟩
        rw [eqD_same (okN_rates _)]
        walk_at "dgo"
        exact ⟨_, _, _, rfl⟩
      · walk_at "dgo"
        refine ⟨fun C hC => (isB_noneAt hC hk).elim, fun j hj => ?_⟩
        obtain rfl := noneAt_one hk hj
        walk_at "dgo"
        refine ⟨6, by decide, okN_none _, okN_none _, ?_⟩
        rw [eqD_same (okN_none _)]
        walk_at "dgo"
        exact ⟨_, _, _, rfl⟩
    · rintro ρ M' ⟨rfl, y3, y4, y5, rfl⟩
      walk_at "dgo"
      exact ⟨_, _, _, _, _, rfl⟩
  · rintro ρ M' ⟨y1, y2, y3, y4, y5, rfl⟩
    walk_at "dgo"
    exact q _
theorem all (DLCellAt : DefAt K mg "_law_cell_at" sLCellAt ["script", "k"]) (DLMixed : DefAt K mg "_law_mixed" sLMixed ["cell", "k"]) (DLSource : DefAt K mg "_law_source" sLSource ["script", "k"]) (DLNext : DefAt K mg "_law_next" sLNext ["source", "many"]) (DIsInteger : DefAt K mg "is_integer" sIsInteger ["thing"]) (DIsWithin : DefAt K mg "is_within" sIsWithin ["thing", "least", "greatest"]) (DIsAtLeast : DefAt K mg "is_at_least" sIsAtLeast ["thing", "least"]) (DCheckShift : DefAt K mg "check_shift" sCheckShift ["shift"]) (DNarrowed : DefAt K mg "narrowed" sNarrowed ["bounds", "one", "other", "unit"]) (DCheckSeen : DefAt K mg "check_seen" sCheckSeen ["seen"]) (DRatesSeen : DefAt K mg "rates_seen" sRatesSeen ["shift", "seen"]) (DLRoom : DefAt K mg "_law_room" sLRoom ["bits", "rows", "mult"]) (DLRows : DefAt K mg "_law_rows" sLRows ["source", "bits"]) (DLDue : DefAt K mg "_law_due" sLDue ["bits", "rows"]) (DLaw : DefAt K mg "law" sLaw ["script"]) (T : Txt mg) : Cal P w K mg base "law" ["script"] 5 (ofD K (spLaw)) := by
  have CLCellAt : Cal P w K mg base "_law_cell_at" ["script", "k"] 1 (spCell K) := ok_LCellAt DLCellAt  T
  have CLMixed : Cal P w K mg base "_law_mixed" ["cell", "k"] 1 (spMixed) := ok_LMixed DLMixed  T
  have CLSource : Cal P w K mg base "_law_source" ["script", "k"] 2 (spSource K) := ok_LSource DLSource CLMixed CLCellAt T
  have CLNext : Cal P w K mg base "_law_next" ["source", "many"] 2 (spNext) := ok_LNext DLNext CLMixed T
  have CLNextD := cv_LNext CLNext
  have CLSourceD := cv_LSource CLSource
  have CIsInteger : Cal P w K mg base "is_integer" ["thing"] 1 (ofD K (sdInt)) := ok_IsInteger DIsInteger  T
  have CIsWithin : Cal P w K mg base "is_within" ["thing", "least", "greatest"] 2 (ofD K (sdWithin)) := ok_IsWithin DIsWithin CIsInteger T
  have CIsAtLeast : Cal P w K mg base "is_at_least" ["thing", "least"] 2 (ofD K (sdAtLeast)) := ok_IsAtLeast DIsAtLeast CIsInteger T
  have CCheckShift : Cal P w K mg base "check_shift" ["shift"] 3 (ofD K (sdShift)) := ok_CheckShift DCheckShift CIsWithin T
  have CNarrowed : Cal P w K mg base "narrowed" ["bounds", "one", "other", "unit"] 1 (ofD K (sdNarrow)) := ok_Narrowed DNarrowed  T
  have CCheckSeen : Cal P w K mg base "check_seen" ["seen"] 3 (ofD K (sdSeenOk)) := ok_CheckSeen DCheckSeen CIsAtLeast CIsInteger T
  have CRatesSeen : Cal P w K mg base "rates_seen" ["shift", "seen"] 4 (ofD K (sdSeen)) := ok_RatesSeen DRatesSeen CCheckShift CCheckSeen CNarrowed T
  have CLRoom : Cal P w K mg base "_law_room" ["bits", "rows", "mult"] 1 (ofD K (sdRoom)) := ok_LRoom DLRoom  T
  have CLRows : Cal P w K mg base "_law_rows" ["source", "bits"] 3 (ofD K (sdRw)) := ok_LRows DLRows CLNextD T
  have CLDue : Cal P w K mg base "_law_due" ["bits", "rows"] 2 (ofD K (sdDue)) := ok_LDue DLDue CLRoom T
  have CLaw : Cal P w K mg base "law" ["script"] 5 (ofD K (spLaw)) := ok_Law DLaw CLSourceD CLNextD CLRows CRatesSeen CLDue T
  exact CLaw

end
end My
open PySem PySem.W PyProof.Rows
set_option maxRecDepth 100000 in
set_option maxHeartbeats 0 in
theorem PySem.Challenge.cw_timekernel_k09_rates_seen_gone_through_holds : PySem.Challenge.rw_timekernel_k09_rates_seen_gone_through.Holds := by
  w_on; o_law; k_head; (case hw => w_witness2)
  k_fill
  refine L2.walk_of (l := PySem.Challenge.rw_timekernel_k09_rates_seen_gone_through) (n := 63) (k := 5) (x := "script") (CX := fun _ => L2.CX0) (sp := fun w => DM.ofD _ My.spLaw) rfl (by decide) rfl ⟨rfl, by decide, by decide⟩ (fun w h Y => PySem.W.kIn_of Y) ?F (fun _ _ a ns hl _ hS => DM.law_in hS fun Q N E h => ⟨ns, rfl, hl, h⟩) (fun _ _ _ _ _ h => h)
  case F =>
    intro w mg fa h KX G hmg
    refine' TK.use (TK.defAt_mk (mg := mg) (x := "_law_cell_at") (st := My.sLCellAt) (ps := ["script", "k"]) KX G ?aLCellAt ?lLCellAt ?cLCellAt ?kLCellAt (fun _ _ _ _ _ _ us hl => match us, hl with | [_, _], _ => rfl)) ?rLCellAt
    (case aLCellAt => k_is); (case lLCellAt => k_is); (case cLCellAt => k_is); (case kLCellAt => k_is)
    intro DLCellAt
    refine' TK.use (TK.defAt_mk (mg := mg) (x := "_law_mixed") (st := My.sLMixed) (ps := ["cell", "k"]) KX G ?aLMixed ?lLMixed ?cLMixed ?kLMixed (fun _ _ _ _ _ _ us hl => match us, hl with | [_, _], _ => rfl)) ?rLMixed
    (case aLMixed => k_is); (case lLMixed => k_is); (case cLMixed => k_is); (case kLMixed => k_is)
    intro DLMixed
    refine' TK.use (TK.defAt_mk (mg := mg) (x := "_law_source") (st := My.sLSource) (ps := ["script", "k"]) KX G ?aLSource ?lLSource ?cLSource ?kLSource (fun _ _ _ _ _ _ us hl => match us, hl with | [_, _], _ => rfl)) ?rLSource
    (case aLSource => k_is); (case lLSource => k_is); (case cLSource => k_is); (case kLSource => k_is)
    intro DLSource
    refine' TK.use (TK.defAt_mk (mg := mg) (x := "_law_next") (st := My.sLNext) (ps := ["source", "many"]) KX G ?aLNext ?lLNext ?cLNext ?kLNext (fun _ _ _ _ _ _ us hl => match us, hl with | [_, _], _ => rfl)) ?rLNext
    (case aLNext => k_is); (case lLNext => k_is); (case cLNext => k_is); (case kLNext => k_is)
    intro DLNext
    refine' TK.use (TK.defAt_mk (mg := mg) (x := "is_integer") (st := My.sIsInteger) (ps := ["thing"]) KX G ?aIsInteger ?lIsInteger ?cIsInteger ?kIsInteger (fun _ _ _ _ _ _ us hl => match us, hl with | [_], _ => rfl)) ?rIsInteger
    (case aIsInteger => k_is); (case lIsInteger => k_is); (case cIsInteger => k_is); (case kIsInteger => k_is)
    intro DIsInteger
    refine' TK.use (TK.defAt_mk (mg := mg) (x := "is_within") (st := My.sIsWithin) (ps := ["thing", "least", "greatest"]) KX G ?aIsWithin ?lIsWithin ?cIsWithin ?kIsWithin (fun _ _ _ _ _ _ us hl => match us, hl with | [_, _, _], _ => rfl)) ?rIsWithin
    (case aIsWithin => k_is); (case lIsWithin => k_is); (case cIsWithin => k_is); (case kIsWithin => k_is)
    intro DIsWithin
    refine' TK.use (TK.defAt_mk (mg := mg) (x := "is_at_least") (st := My.sIsAtLeast) (ps := ["thing", "least"]) KX G ?aIsAtLeast ?lIsAtLeast ?cIsAtLeast ?kIsAtLeast (fun _ _ _ _ _ _ us hl => match us, hl with | [_, _], _ => rfl)) ?rIsAtLeast
    (case aIsAtLeast => k_is); (case lIsAtLeast => k_is); (case cIsAtLeast => k_is); (case kIsAtLeast => k_is)
    intro DIsAtLeast
    refine' TK.use (TK.defAt_mk (mg := mg) (x := "check_shift") (st := My.sCheckShift) (ps := ["shift"]) KX G ?aCheckShift ?lCheckShift ?cCheckShift ?kCheckShift (fun _ _ _ _ _ _ us hl => match us, hl with | [_], _ => rfl)) ?rCheckShift
    (case aCheckShift => k_is); (case lCheckShift => k_is); (case cCheckShift => k_is); (case kCheckShift => k_is)
    intro DCheckShift
    refine' TK.use (TK.defAt_mk (mg := mg) (x := "narrowed") (st := My.sNarrowed) (ps := ["bounds", "one", "other", "unit"]) KX G ?aNarrowed ?lNarrowed ?cNarrowed ?kNarrowed (fun _ _ _ _ _ _ us hl => match us, hl with | [_, _, _, _], _ => rfl)) ?rNarrowed
    (case aNarrowed => k_is); (case lNarrowed => k_is); (case cNarrowed => k_is); (case kNarrowed => k_is)
    intro DNarrowed
    refine' TK.use (TK.defAt_mk (mg := mg) (x := "check_seen") (st := My.sCheckSeen) (ps := ["seen"]) KX G ?aCheckSeen ?lCheckSeen ?cCheckSeen ?kCheckSeen (fun _ _ _ _ _ _ us hl => match us, hl with | [_], _ => rfl)) ?rCheckSeen
    (case aCheckSeen => k_is); (case lCheckSeen => k_is); (case cCheckSeen => k_is); (case kCheckSeen => k_is)
    intro DCheckSeen
    refine' TK.use (TK.defAt_mk (mg := mg) (x := "rates_seen") (st := My.sRatesSeen) (ps := ["shift", "seen"]) KX G ?aRatesSeen ?lRatesSeen ?cRatesSeen ?kRatesSeen (fun _ _ _ _ _ _ us hl => match us, hl with | [_, _], _ => rfl)) ?rRatesSeen
    (case aRatesSeen => k_is); (case lRatesSeen => k_is); (case cRatesSeen => k_is); (case kRatesSeen => k_is)
    intro DRatesSeen
    refine' TK.use (TK.defAt_mk (mg := mg) (x := "_law_room") (st := My.sLRoom) (ps := ["bits", "rows", "mult"]) KX G ?aLRoom ?lLRoom ?cLRoom ?kLRoom (fun _ _ _ _ _ _ us hl => match us, hl with | [_, _, _], _ => rfl)) ?rLRoom
    (case aLRoom => k_is); (case lLRoom => k_is); (case cLRoom => k_is); (case kLRoom => k_is)
    intro DLRoom
    refine' TK.use (TK.defAt_mk (mg := mg) (x := "_law_rows") (st := My.sLRows) (ps := ["source", "bits"]) KX G ?aLRows ?lLRows ?cLRows ?kLRows (fun _ _ _ _ _ _ us hl => match us, hl with | [_, _], _ => rfl)) ?rLRows
    (case aLRows => k_is); (case lLRows => k_is); (case cLRows => k_is); (case kLRows => k_is)
    intro DLRows
    refine' TK.use (TK.defAt_mk (mg := mg) (x := "_law_due") (st := My.sLDue) (ps := ["bits", "rows"]) KX G ?aLDue ?lLDue ?cLDue ?kLDue (fun _ _ _ _ _ _ us hl => match us, hl with | [_, _], _ => rfl)) ?rLDue
    (case aLDue => k_is); (case lLDue => k_is); (case cLDue => k_is); (case kLDue => k_is)
    intro DLDue
    refine' TK.use (TK.defAt_mk (mg := mg) (x := "law") (st := My.sLaw) (ps := ["script"]) KX G ?aLaw ?lLaw ?cLaw ?kLaw (fun _ _ _ _ _ _ us hl => match us, hl with | [_], _ => rfl)) ?rLaw
    (case aLaw => k_is); (case lLaw => k_is); (case cLaw => k_is); (case kLaw => k_is)
    intro DLaw
    have T : My.Txt mg := by
      refine' ⟨?f0, ?f1, ?f2, ?f3, ?f4, ?f5, ?f6, ?f7, ?f8, ?f9, ?f10⟩
      (case f0 => (refine' PySem.W.mg_none_of KX G ?z0; (case z0 => k_is)))
      (case f1 => (refine' PySem.W.mg_none_of KX G ?z1; (case z1 => k_is)))
      (case f2 => (refine' PySem.W.mg_none_of KX G ?z2; (case z2 => k_is)))
      (case f3 => (refine' PySem.W.mg_none_of KX G ?z3; (case z3 => k_is)))
      (case f4 => (refine' PySem.W.mg_none_of KX G ?z4; (case z4 => k_is)))
      (case f5 => (refine' PySem.W.mg_none_of KX G ?z5; (case z5 => k_is)))
      (case f6 => (refine' PySem.W.mg_none_of KX G ?z6; (case z6 => k_is)))
      (case f7 => (refine' PySem.W.mg_none_of KX G ?z7; (case z7 => k_is)))
      (case f8 => (refine' PySem.W.mg_none_of KX G ?z8; (case z8 => k_is)))
      (case f9 => (refine' PySem.W.mg_none_of KX G ?z9; (case z9 => k_is)))
      (case f10 => (refine' TK.gint_mk KX G ?z10; (case z10 => k_is)))
    exact TK.law_end DLaw hmg (fun base _ _ => My.all DLCellAt DLMixed DLSource DLNext DIsInteger DIsWithin DIsAtLeast DCheckShift DNarrowed DCheckSeen DRatesSeen DLRoom DLRows DLDue DLaw T)
