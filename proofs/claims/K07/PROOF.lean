import PyProof.Rows.All
import Wide.All
import OpenK.AllK
import Wide.FinOn
import HandS.ForMost
import HandS.Wide
import HandS.WideBits
import HandS.IsInst
import HandS.Flow

import HandS.RevRange
import PySem.Challenge.RW_timekernel_k07_best_rates_and_spans
set_option Elab.async false
set_option linter.all false
set_option maxRecDepth 100000
/-! Defs of the text by their names, and calls of them. -/
namespace TK
open PySem PySem.Spec PyProof.Rows L2
/-- fd stands at f, under the module's name x, and takes its arguments by place -/
structure Stands (K : PySem.W.Frag) (mg : Str → Option Value) (x : Str) (ps : List Str) (f : Addr) (fd : FuncData) : Prop where
  lk : ∃ (oc : Value) (od : Option Addr) (osl : Array (Option Value)), K.lookup f = some ⟨oc, od, .func fd, osl⟩
  mg : mg x = some (.ref f)
  kp : PySem.W.keepIn K (.ref f) = true
  bd : ∀ us : List Value, us.length = ps.length → bindArgs fd ⟨us, []⟩ = pure (ps.zip us)
theorem Stands.same {K : PySem.W.Frag} {mg : Str → Option Value} {x : Str} {ps qs : List Str} {f g : Addr} {fd gd : FuncData} (a : Stands K mg x ps f fd) (b : Stands K mg x qs g gd) : f = g ∧ fd = gd := by
  have e : f = g := by
    have h := a.mg.symm.trans b.mg
    exact Value.ref.inj (Option.some.inj h)
  subst e
  obtain ⟨_, _, _, h1⟩ := a.lk
  obtain ⟨_, _, _, h2⟩ := b.lk
  rw [h1] at h2
  cases h2
  exact ⟨rfl, rfl⟩
/-- the def st stands under the module's name x -/
structure DefAt (K : PySem.W.Frag) (mg : Str → Option Value) (x : Str) (st : Stmt) (ps : List Str) : Prop where
  ex : ∃ (f : Addr) (fd : FuncData), Fun K x x st f fd ∧ Stands K mg x ps f fd
/-- what stands under the module's name x keeps the promise sp -/
structure Cal (P : Program) (w : World) (K : PySem.W.Frag) (mg : Str → Option Value) (base : Heap) (x : Str) (ps : List Str) (k : Nat) (sp : Sp) : Prop where
  ex : ∃ (f : Addr) (fd : FuncData), FnOk P w K mg base CX0 k f fd ps sp ∧ Stands K mg x ps f fd
section
variable {P : Program} {w : World} {K : PySem.W.Frag} {mg : Str → Option Value} {base : Heap} {x : Str} {st : Stmt} {N ps : List Str} {k : Nat} {sp : Sp}
theorem DefAt.cal (D : DefAt K mg x st ps) (S : FnScope N ps (defScope st)) (len : ∀ vs H Q E, sp vs H Q E → vs.length = ps.length)
    (hbody : ∀ (f : Addr) (cdv : Value) (A : Around) (outer : List Env) (s : Shared) (H : Hp) (vs : List V) (Q : VK) (E : XK), Room k (A.deeper (envOfC x (defScope st) s.heap.objs.size f cdv)) → sp vs H Q E →
      ∃ t, PSs (cxOf CX0 P w K mg base N x (defScope st) f cdv A outer s H E).nox (defBody st) t ∧ t { nx := fun _ H' => Q .non H', rt := Q } (start N vs) H) : Cal P w K mg base x ps (k + 1) sp := by
  obtain ⟨f, fd, F, b⟩ := D.ex
  exact ⟨f, fd, F.ok S len (hbody f), b⟩
theorem Cal.mono {j : Nat} (C : Cal P w K mg base x ps j sp) (h : j ≤ k) : Cal P w K mg base x ps k sp := by
  obtain ⟨f, fd, F, b⟩ := C.ex
  exact ⟨f, fd, F.mono h, b⟩
end
section
variable {X : Cx} {x : Str} {ps : List Str} {k : Nat} {sp : Sp} {p pos : Pos} {e : Expr} {es : List Expr} {t : TA}
theorem pe_cal {j : Nat} (C : Cal X.prog X.w X.K X.mg X.base x ps j sp) (hr : Room k X.A) (hg : Gl X x) (ha : PA X (e :: es) t) (hj : j ≤ k := by decide) (hdb : (x == ("__debug__" : Str)) = false := by decide)
    (he : starEach (e :: es) X.env = (false, eval e X.env) :: starEach es X.env := by rfl) (hpl : (backTo pos (starEach es X.env)).any (·.1) = false := by rfl) :
    PE X (.Call (.Name x p) (e :: es) [] pos) (tCall sp [] E0 t) := by
  obtain ⟨f, fd, F, b⟩ := C.ex
  exact pe_call F (hr.mono hj) hg b.mg b.kp (.all b.bd) .nil pass0 ha hdb he hpl
end
theorem defAt_mk {K : PySem.W.Frag} {h : Heap} {mg : Str → Option Value} {x : Str} {st : Stmt} {ps : List Str} {f : Addr} {oc : Value} {od an : Option Addr} {osl : Array (Option Value)} {kV doc pm cdv ct : Value} (X : K.In h) (G : h.Ns mainGlobals mg)
    (a : PySem.W.nsIn K mainGlobals x = some (some (.ref f)))
    (l : K.lookup f = some ⟨oc, od, .func (PySem.W.fnOf x x (defArgs st) (defBody st) (defScope st) .none kV doc pm an cdv ct), osl⟩)
    (c : PySem.W.codeIn K cdv x = true) (k : PySem.W.keepIn K (.ref f) = true)
    (b : ∀ (kV doc pm : Value) (an : Option Addr) (cdv ct : Value) (us : List Value), us.length = ps.length → bindArgs (PySem.W.fnOf x x (defArgs st) (defBody st) (defScope st) .none kV doc pm an cdv ct) ⟨us, []⟩ = pure (ps.zip us)) :
    DefAt K mg x st ps := ⟨f, _, fun_mk (st := st) l c k, ⟨_, _, _, l⟩, PySem.W.mg_of X G a, k, b kV doc pm an cdv ct⟩
theorem use {A B : Prop} (a : A) (f : A → B) : B := f a
/-- the law's own end -/
theorem law_end {P : Program} {w : World} {K : PySem.W.Frag} {mg : Str → Option Value} {st : Stmt} {fa : Addr} {k : Nat} {sp : Sp} {y : Str} (D : DefAt K mg "law" st [y]) (hfa : mg "law" = some (.ref fa))
    (F : ∀ base : Heap, K.In base → base.Ns mainGlobals mg → Cal P w K mg base "law" [y] k sp) :
    ∃ fd : FuncData, (∀ (s : Shared) (v : Value), BindsTo s fd ⟨[v], []⟩ [(y, v)]) ∧ ∀ base : Heap, K.In base → base.Ns mainGlobals mg → FnOk P w K mg base CX0 k fa fd [y] sp := by
  obtain ⟨f, fd, _, b⟩ := D.ex
  have e : f = fa := Value.ref.inj (Option.some.inj (b.mg.symm.trans hfa))
  subst e
  refine ⟨fd, fun s v => .of_eq (b.bd [v] rfl), fun base h1 h2 => ?_⟩
  obtain ⟨g, gd, G, b2⟩ := (F base h1 h2).ex
  obtain ⟨e1, e2⟩ := b.same b2
  subst e1 e2
  exact G
/-- what a def reckons without touching what is tracked -/
theorem same_upd {H : Hp} {p : Addr} {o : HO} (h : H p = none) : Same H (upd H p o) := fun b x e => by
  rw [upd_ne (ne_of_none e h)]
  exact e
theorem same_set {H H1 : Hp} {p : Addr} {o : HO} (s : Same H H1) (h : H p = none) : Same H (upd H1 p o) := fun b u e => by
  rw [upd_ne (ne_of_none e h)]
  exact s b u e
/-- what was tracked elsewhere than at a is as it was -/
def SameBut (a : Addr) (H H' : Hp) : Prop := ∀ b o, b ≠ a → H b = some o → H' b = some o
theorem SameBut.refl (a : Addr) (H : Hp) : SameBut a H H := fun _ _ _ h => h
theorem SameBut.trans {a : Addr} {H H1 H2 : Hp} (x : SameBut a H H1) (y : SameBut a H1 H2) : SameBut a H H2 := fun b o n h => y b o n (x b o n h)
theorem SameBut.of {a : Addr} {H H1 : Hp} (x : Same H H1) : SameBut a H H1 := fun b o _ h => x b o h
theorem sb_upd {H : Hp} {a : Addr} {o : HO} : SameBut a H (upd H a o) := fun b x n e => by
  rw [upd_ne n]
  exact e
theorem sb_new {H : Hp} {a p : Addr} {o : HO} (h : H p = none) : SameBut a H (upd H p o) := SameBut.of (same_upd h)
theorem SameBut.lst {a b : Addr} {H H1 : Hp} {xs : List V} {K : PySem.W.Frag} (s : SameBut a H H1) (n : b ≠ a) (h : SqL K H b xs) : SqL K H1 b xs := by
  rcases h with (h | ⟨o, h⟩) | h
  · exact .inl (.inl (s _ _ n h))
  · exact .inl (.inr ⟨o, s _ _ n h⟩)
  · exact .inr h
end TK
namespace TK
open PySem PySem.Spec PyProof.Rows L2
section
variable {X : Cx} {x : Str} {pos : Pos}
/-- a module's name for a whole number -/
theorem pe_gint {i : Int} (hg : Gl X x) (hm : ∃ t, X.mg x = some (.int i t)) (hd : (x == ("__debug__" : Str)) = false := by decide) : PE X (.Name x pos) (tC (.int i)) := by
  obtain ⟨t, hm⟩ := hm
  exact pe_glob hg hm ⟨_, rfl⟩ hd
end
theorem gint_mk {K : PySem.W.Frag} {h : Heap} {mg : Str → Option Value} {x : Str} {i : Int} {t : Tok} (X : K.In h) (G : h.Ns mainGlobals mg) (a : PySem.W.nsIn K mainGlobals x = some (some (.int i t))) : ∃ t, mg x = some (.int i t) := ⟨t, PySem.W.mg_of X G a⟩
end TK
namespace TK
open PySem PySem.Spec PyProof.Rows L2
/-- * of two numbers, one of them below 2 ^ 64 in size, or both below 2 ^ 400 -/
def CMulE (i j : Int) : Prop := CMul i j ∨ CMulX i j
theorem mulE1 {i j : Int} (h0 : -18446744073709551616 < i) (h1 : i < 18446744073709551616) : CMulE i j := .inl (.inl ⟨by omega, by omega⟩)
theorem mulE2 {i j : Int} (h0 : -18446744073709551616 < j) (h1 : j < 18446744073709551616) : CMulE i j := .inl (.inr ⟨by omega, by omega⟩)
theorem mulE3 {i j : Int} (h0 : i.natAbs < 2 ^ 400) (h1 : j.natAbs < 2 ^ 400) : CMulE i j := .inr (mulx_ok h0 h1 (by decide))
/-- e comes out as r -/
structure IsR (e r : Int) : Prop where
  eq : e = r
section
variable {X : Cx}
theorem op_mulE : OpR X (binaryOp .Mult) (rI CMulE fun i j => .int (i * j)) := opI fun _ _ _ _ _ _ _ hc q => mul_int q (hc.elim CMul.ok CMulX.ok)
/-- a power, a shift to the left, with what comes out told by an equation -/
theorem op_powE : OpR X (binaryOp .Pow) (fun x y H Q => ∃ i j, x = .int i ∧ y = .int j ∧ CPow i j ∧ ∃ r, IsR (i ^ j.toNat) r ∧ Q (.int r) H) := by
  intro pins s σ H x y v u Q I rx ry h
  obtain ⟨i, j, rfl, rfl, c, r, ⟨rfl⟩, q⟩ := h
  exact op_pow pins s σ H _ _ v u Q I rx ry ⟨_, _, rfl, rfl, c, q⟩
theorem op_shlE : OpR X (binaryOp .LShift) (fun x y H Q => ∃ i j, x = .int i ∧ y = .int j ∧ CShl i j ∧ ∃ r, IsR (i * 2 ^ j.toNat) r ∧ Q (.int r) H) := by
  intro pins s σ H x y v u Q I rx ry h
  obtain ⟨i, j, rfl, rfl, c, r, ⟨rfl⟩, q⟩ := h
  exact op_shlW pins s σ H _ _ v u Q I rx ry ⟨_, _, rfl, rfl, c, q⟩
end
theorem posLen {n : Nat} (h : Nat.ble 1 n = true) : (0 : Int) < n := by
  have := Nat.le_of_ble_eq_true h
  omega
theorem ltLen {n : Nat} (h : Nat.ble n 1000 = true) : (n : Int) < 1606938044258990275541962092341162602522202993782792835301376 := by
  have := Nat.le_of_ble_eq_true h
  omega
theorem w200 {i m : Int} (h0 : 0 < m) (h : m  < 1606938044258990275541962092341162602522202993782792835301376) : CDivW i m := wide_div h0 (b := 200) (by omega) (by decide) (by decide)
theorem shl400 {i j : Int} (h : i.natAbs < 2 ^ 400) (h0 : 0 ≤ j) (h1 : j ≤ 1000) : CShl i j := by
  have e : j = (j.toNat : Int) := by omega
  rw [e]
  exact shl_ok h (by omega)
/-- a list of whole numbers with a property -/
def AllI (p : Int → Prop) (xs : List V) : Prop := ∀ v ∈ xs, ∃ i, v = .int i ∧ p i
theorem AllI.nil {p : Int → Prop} : AllI p [] := fun _ h => by cases h
theorem AllI.cons {p : Int → Prop} {i : Int} {xs : List V} (h : p i) (t : AllI p xs) : AllI p (.int i :: xs) := fun v hv => by
  rcases List.mem_cons.mp hv with e | e
  · exact ⟨i, e, h⟩
  · exact t v e
theorem AllI.app {p : Int → Prop} {xs ys : List V} (h : AllI p xs) (t : AllI p ys) : AllI p (xs ++ ys) := fun v hv => by
  rcases List.mem_append.mp hv with e | e
  · exact h v e
  · exact t v e
theorem AllI.pick {p : Int → Prop} {xs : List V} (h : AllI p xs) {r : Int} (h0 : 0 ≤ r) (h1 : r < xs.length) : ∃ i, atI xs r = some (.int i) ∧ p i := by
  have hk : r.toNat < xs.length := by omega
  obtain ⟨i, e, hp⟩ := h _ (List.getElem_mem hk)
  refine ⟨i, at_of (j := r.toNat) (by omega) ?_, hp⟩
  rw [List.getElem?_eq_getElem hk, e]
theorem mul_le {x y a b : Int} (x0 : 0 ≤ x) (x1 : x ≤ a) (y0 : 0 ≤ y) (y1 : y ≤ b) : 0 ≤ x * y ∧ x * y ≤ a * b :=
  ⟨Int.mul_nonneg x0 y0, Int.mul_le_mul x1 y1 y0 (Int.le_trans x0 x1)⟩
theorem pos_pow (s : Nat) : (0 : Int) < 2 ^ s := Int.pow_pos (by decide)
theorem ifD {c A B : Prop} [Decidable c] (h : c) (a : A) : if decide c = true then A else B := by
  rw [if_pos (decide_eq_true h)]
  exact a
theorem ifN {c A B : Prop} [Decidable c] (h : ¬ c) (b : B) : if decide c = true then A else B := by
  rw [if_neg (by rw [decide_eq_false h]; decide)]
  exact b
theorem ifDn {c A B : Prop} [Decidable c] (h : c) (b : B) : if (!decide c) = true then A else B := by
  rw [decide_eq_true h]
  exact iteF b
theorem ifNn {c A B : Prop} [Decidable c] (h : ¬ c) (a : A) : if (!decide c) = true then A else B := by
  rw [decide_eq_false h]
  exact iteT a
theorem ifE {x y : Int} {A B : Prop} (h : x = y) (a : A) : if decide (V.int x = V.int y) = true then A else B := ifD (by rw [h]) a
theorem ifNE {x y : Int} {A B : Prop} (h : ¬ x = y) (b : B) : if decide (V.int x = V.int y) = true then A else B := ifN (fun e => h (V.int.inj e)) b
theorem ifEn {x y : Int} {A B : Prop} (h : x = y) (b : B) : if (!decide (V.int x = V.int y)) = true then A else B := by
  rw [decide_eq_true (show V.int x = V.int y by rw [h])]
  exact iteF b
theorem ifNEn {x y : Int} {A B : Prop} (h : ¬ x = y) (a : A) : if (!decide (V.int x = V.int y)) = true then A else B := by
  rw [decide_eq_false (show ¬ V.int x = V.int y from fun e => h (V.int.inj e))]
  exact iteT a
/-- a source of draws stands at a -/
def Src (H : Hp) (a : Addr) : Prop := ∃ x y n : Int, H a = some (.lst [.int x, .int y, .int n])
/-- draws were made of the source at a -/
structure Dr (a : Addr) (H H' : Hp) : Prop where
  src : Src H' a
  but : SameBut a H H'
theorem Dr.trans {a : Addr} {H H1 H2 : Hp} (x : Dr a H H1) (y : Dr a H1 H2) : Dr a H H2 := ⟨y.src, x.but.trans y.but⟩
theorem Dr.refl {a : Addr} {H : Hp} (x : Src H a) : Dr a H H := ⟨x, .refl _ _⟩
theorem Src.new {a p : Addr} {H : Hp} {o : HO} (x : Src H a) (h : H p = none) : Src (upd H p o) a := by
  obtain ⟨u, v, n, e⟩ := x
  exact ⟨u, v, n, by rw [upd_ne (ne_of_none e h)]; exact e⟩
theorem Dr.new {a p : Addr} {H H1 : Hp} {o : HO} (x : Dr a H H1) (h : H1 p = none) : Dr a H (upd H1 p o) := ⟨x.src.new h, x.but.trans (sb_new h)⟩
theorem Src.ne {a p : Addr} {H : Hp} (x : Src H a) (h : H p = none) : p ≠ a := by
  obtain ⟨u, v, n, e⟩ := x
  exact (ne_of_none e h).symm
theorem Dr.free {a p : Addr} {H H1 : Hp} (x : Dr a H H1) (h : H1 p = none) : H p = none := by
  cases q : H p with
  | none => rfl
  | some o =>
    rw [x.but p o (x.src.ne h) q] at h
    cases h
theorem Dr.at {a p : Addr} {H H1 : Hp} {o : HO} (d : Dr a H H1) (n : p ≠ a) (h : H p = some o) : H1 p = some o := d.but p o n h
theorem upd_at {p q : Addr} {H : Hp} {o u : HO} (h : H p = some o) (n : H q = none) : upd H q u p = some o := (upd_ne (ne_of_none h n)).trans h
theorem upd_at' {p q : Addr} {H : Hp} {o u : HO} (h : H p = some o) (n : p ≠ q) : upd H q u p = some o := (upd_ne n).trans h
theorem Src.set {a p : Addr} {H : Hp} {o : HO} (x : Src H a) (n : p ≠ a) : Src (upd H p o) a := by
  obtain ⟨u, v, m, e⟩ := x
  exact ⟨u, v, m, by rw [upd_ne n.symm]; exact e⟩
theorem Dr.set {a p : Addr} {H H1 : Hp} {o : HO} (x : Dr a H H1) (h : H p = none) (n : p ≠ a) : Dr a H (upd H1 p o) := ⟨x.src.set n, fun b u nb e => by
  rw [upd_ne (ne_of_none e h)]
  exact x.but b u nb e⟩
theorem Dr.same {p : Addr} {H H1 : Hp} {o : HO} (d : Dr p (upd H p o) H1) (h : H p = none) : Same H H1 := fun b u e => by
  have n := ne_of_none e h
  exact d.but b u n (by rw [upd_ne n]; exact e)
theorem Src.made {p : Addr} {H : Hp} {x y n : Int} : Src (upd H p (.lst [.int x, .int y, .int n])) p := ⟨x, y, n, upd_same⟩
theorem Src.same {a : Addr} {H H' : Hp} (x : Src H a) (s : Same H H') : Src H' a := by
  obtain ⟨u, v, n, e⟩ := x
  exact ⟨u, v, n, s _ _ e⟩
end TK

/-! ### comprehensions whose elements change nothing -/
namespace TK
open PySem PySem.Spec PyProof.Rows L2
section
variable {K : PySem.W.Frag} {a : Addr} {g : TG} {tt : TT} {te : TE} {vs : List Nat} {σ : L2.St} {H : Hp} {D : Addr} {Qd : Hp → Prop}
theorem take_snoc {ys : List V} {i : Nat} {y : V} (h : ys[i]? = some y) : ys.take i ++ [y] = ys.take (i + 1) := by
  rw [List.take_add_one, h]
  rfl
theorem lc_listP {xs ys : List V} (hD : H D = none) (hl : SqL K H a xs) (n : ys.length = xs.length) (sz : ys.length ≤ sizeLine)
    (hs : ∀ (i : Nat) (x y : V) (R : V → Hp → Prop) (F : Hp → Prop), xs[i]? = some x → ys[i]? = some y → R y (upd H D (.lst (ys.take i))) →
      g x (wipe σ vs) (upd H D (.lst (ys.take i))) fun σ2 H2 => wipe σ2 vs = wipe σ vs ∧ tt σ2 H2 fun b H3 => if b = true then te σ2 H3 R else F H3)
    (hd : Qd (upd H D (.lst ys))) :
    ∃ W : Nat → Nat → Hp → Prop, (∃ m, W 0 m (upd H D (.lst []))) ∧ ∀ i m H, W i m H →
      ((Itl K a).stop i H ∧ Qd H) ∨ ((Itl K a).go i H ∧ ∃ Nx : Hp → Prop, (∀ H', Nx H' → ∃ m', m' < m ∧ W (i + 1) m' H') ∧ ∀ x H', (Itl K a).yld i H x H' → g x (wipe σ vs) H' fun σ2 H2 => wipe σ2 vs = wipe σ vs ∧ tt σ2 H2 fun b H3 =>
        if b = true then te σ2 H3 fun y H4 => ∃ acc, H4 D = some (.lst acc) ∧ acc.length < sizeLine ∧ Nx (upd H4 D (.lst (acc ++ [y]))) else Nx H3) := by
  refine lc_list (K := K) (a := a) (xs := xs) (H1 := H) (Qd := Qd) (fun i H' => H' = upd H D (.lst (ys.take i))) (by rw [List.take_zero]) (fun i H' _ e => ?_) (fun i x H' hx e => ?_) (fun H' e => ?_)
  · subst e
    exact (same_upd hD).seq hl
  · subst e
    have hi : i < xs.length := (List.getElem?_eq_some_iff.mp hx).1
    have hy : ys[i]? = some ys[i] := List.getElem?_eq_getElem (by omega)
    refine hs i x ys[i] _ _ hx hy ⟨ys.take i, upd_same, ?_, ?_⟩
    · rw [List.length_take]
      omega
    · rw [upd_upd, take_snoc hy]
  · subst e
    rw [List.take_of_length_le (by omega)]
    exact hd
theorem lc_rangeP {lo : Int} {m : Nat} {ys : List V} (hD : H D = none) (n : ys.length = m) (sz : ys.length ≤ sizeLine)
    (hs : ∀ (i : Nat) (y : V) (R : V → Hp → Prop) (F : Hp → Prop), i < m → ys[i]? = some y → R y (upd H D (.lst (ys.take i))) →
      g (.int (lo + i)) (wipe σ vs) (upd H D (.lst (ys.take i))) fun σ2 H2 => wipe σ2 vs = wipe σ vs ∧ tt σ2 H2 fun b H3 => if b = true then te σ2 H3 R else F H3)
    (hd : Qd (upd H D (.lst ys))) :
    ∃ W : Nat → Nat → Hp → Prop, (∃ m, W 0 m (upd H D (.lst []))) ∧ ∀ i k H, W i k H →
      ((Itr lo m).stop i H ∧ Qd H) ∨ ((Itr lo m).go i H ∧ ∃ Nx : Hp → Prop, (∀ H', Nx H' → ∃ m', m' < k ∧ W (i + 1) m' H') ∧ ∀ x H', (Itr lo m).yld i H x H' → g x (wipe σ vs) H' fun σ2 H2 => wipe σ2 vs = wipe σ vs ∧ tt σ2 H2 fun b H3 =>
        if b = true then te σ2 H3 fun y H4 => ∃ acc, H4 D = some (.lst acc) ∧ acc.length < sizeLine ∧ Nx (upd H4 D (.lst (acc ++ [y]))) else Nx H3) := by
  refine lc_range (H1 := H) (Qd := Qd) (fun i H' => H' = upd H D (.lst (ys.take i))) (by rw [List.take_zero]) (fun i H' hi e => ?_) (fun H' e => ?_)
  · subst e
    have hy : ys[i]? = some ys[i] := List.getElem?_eq_getElem (by omega)
    refine hs i ys[i] _ _ hi hy ⟨ys.take i, upd_same, ?_, ?_⟩
    · rw [List.length_take]
      omega
    · rw [upd_upd, take_snoc hy]
  · subst e
    rw [List.take_of_length_le (by omega)]
    exact hd
theorem rep_at {α : Type} {n i : Nat} {x y : α} (h : (List.replicate n x)[i]? = some y) : y = x := List.eq_of_mem_replicate (List.mem_of_getElem? h)
theorem rep_bl (n : Nat) : (List.replicate n true).map V.bl = List.replicate n (V.bl true) := List.map_replicate
theorem all_rep (n : Nat) : (List.replicate n true).all id = true := by
  rw [List.all_eq_true]
  intro x hx
  rw [List.eq_of_mem_replicate hx]
  rfl
/-- the numbers below n that pass p -/
def kept (p : Nat → Bool) (n : Nat) : List Nat := (List.range n).filter p
theorem kept_succ (p : Nat → Bool) (n : Nat) : kept p (n + 1) = if p n = true then kept p n ++ [n] else kept p n := by
  unfold kept
  rw [List.range_succ, List.filter_append]
  cases h : p n with
  | true => simp [h]
  | false => simp [h]
theorem kept_len (p : Nat → Bool) (n : Nat) : (kept p n).length ≤ n := by
  unfold kept
  exact Nat.le_trans (List.length_filter_le _ _) (by rw [List.length_range]; exact Nat.le_refl _)
theorem lc_rangeF {lo : Int} {m : Nat} {p : Nat → Bool} {f : Nat → V} (hD : H D = none) (sz : m ≤ sizeLine)
    (hs : ∀ (i : Nat) (R : V → Hp → Prop) (F : Hp → Prop), i < m → (p i = true → R (f i) (upd H D (.lst ((kept p i).map f)))) → (p i = false → F (upd H D (.lst ((kept p i).map f)))) →
      g (.int (lo + i)) (wipe σ vs) (upd H D (.lst ((kept p i).map f))) fun σ2 H2 => wipe σ2 vs = wipe σ vs ∧ tt σ2 H2 fun b H3 => if b = true then te σ2 H3 R else F H3)
    (hd : Qd (upd H D (.lst ((kept p m).map f)))) :
    ∃ W : Nat → Nat → Hp → Prop, (∃ m, W 0 m (upd H D (.lst []))) ∧ ∀ i k H, W i k H →
      ((Itr lo m).stop i H ∧ Qd H) ∨ ((Itr lo m).go i H ∧ ∃ Nx : Hp → Prop, (∀ H', Nx H' → ∃ m', m' < k ∧ W (i + 1) m' H') ∧ ∀ x H', (Itr lo m).yld i H x H' → g x (wipe σ vs) H' fun σ2 H2 => wipe σ2 vs = wipe σ vs ∧ tt σ2 H2 fun b H3 =>
        if b = true then te σ2 H3 fun y H4 => ∃ acc, H4 D = some (.lst acc) ∧ acc.length < sizeLine ∧ Nx (upd H4 D (.lst (acc ++ [y]))) else Nx H3) := by
  refine lc_range (H1 := H) (Qd := Qd) (fun i H' => H' = upd H D (.lst ((kept p i).map f))) rfl (fun i H' hi e => ?_) (fun H' e => ?_)
  · subst e
    refine hs i _ _ hi (fun hp => ⟨(kept p i).map f, upd_same, ?_, ?_⟩) (fun hp => ?_)
    · rw [List.length_map]
      have := kept_len p i
      omega
    · rw [upd_upd, kept_succ, if_pos hp, List.map_append]
      rfl
    · rw [kept_succ, if_neg (by rw [hp]; decide)]
  · subst e
    exact hd
end
end TK
/-! ### == of lists of whole numbers -/
namespace TK
open PySem PySem.Spec PyProof.Rows L2
section
variable {X : Cx} {K : PySem.W.Frag}
/-- within a comprehension the written part is the same -/
theorem ix_listK (h : X.K = K := by rfl) : IxR X (rIxL K) := by
  subst h
  exact ix_list
theorem ix_tupK (h : X.K = K := by rfl) : IxR X (rIxT K) := by
  subst h
  exact ix_tup
theorem pg_tupK {es : List Expr} {k : Nat} {t : TGs} (n : Nat) {pos : Pos} (h : PGs X es t) (hK : X.K = K := by rfl) (hc : X.calm = true := by rfl)
    (hn : (assignEach es X.env).length = n := by rfl) (hst : (assignEach es X.env).findIdx? (·.1) = none := by rfl) : PG X (.Tuple es k pos) (gTup K n t) := by
  subst hK
  exact pg_tup hc h hn hst
theorem call_lenK (h : X.K = K := by rfl) : CallR X (.builtin "len") (fun xs H Q => ∃ p ys, xs = [.ref p] ∧ (SqL K H p ys ∨ SqT K H p ys) ∧ Q (.int ys.length) H) := by
  subst h
  exact call_len_seq
end
theorem eqvAll_int : ∀ ns ms : List Int, PyData.eqvAll (ns.map PyData.int) (ms.map PyData.int) = decide (ns = ms)
  | [], [] => by simp [PyData.eqvAll]
  | [], _ :: _ => by simp [PyData.eqvAll]
  | _ :: _, [] => by simp [PyData.eqvAll]
  | a :: r, b :: t => by
    simp only [List.map_cons, PyData.eqvAll, PyData.eqv, eqvAll_int r t]
    by_cases h : a = b <;> by_cases h' : r = t <;> simp [h, h']
theorem lay_int : ∀ ns : List Int, PyData.canLayAll0 (ns.map PyData.int) = true
  | [] => rfl
  | _ :: r => by simp [PyData.canLayAll0, PyData.canLay0, lay_int r]
theorem deep_int : ∀ ns : List Int, PyData.depthAll (ns.map PyData.int) = 0
  | [] => rfl
  | _ :: r => by simp [PyData.depthAll, PyData.depth, deep_int r]
theorem shaped_int (ns : List Int) : SeqAt.shaped (.list (ns.map PyData.int)) = true := by
  simp [SeqAt.shaped, PyData.canLay0, PyData.depth, lay_int, deep_int]
theorem dpAll_int {K : PySem.W.Frag} {H : Hp} : ∀ ns : List Int, DpAll K H (ns.map V.int) (ns.map PyData.int)
  | [] => .nil
  | n :: r => .cons (.int n) (dpAll_int r)
section
variable {X : Cx}
theorem op_eqIL (hu : X.A.units + 64 < cLine) : OpR X (compareOp .Eq) (fun x y H Q => ∃ (a b : Addr) (ns ms : List Int), x = .ref a ∧ y = .ref b ∧ SqL X.K H a (ns.map V.int) ∧ SqL X.K H b (ms.map V.int) ∧ Q (.bl (decide (ns = ms))) H) := by
  intro pins s σ H x y v u Q I rx ry h
  obtain ⟨a, b, ns, ms, rfl, rfl, h1, h2, q⟩ := h
  refine op_eqD hu pins s σ H _ _ v u Q I rx ry ⟨_, _, .lst h1 (dpAll_int ns), .lst h2 (dpAll_int ms), shaped_int ns, shaped_int ms, ?_⟩
  rw [PyData.eqv, eqvAll_int]
  exact q
theorem op_neIL (hu : X.A.units + 64 < cLine) : OpR X (compareOp .NotEq) (fun x y H Q => ∃ (a b : Addr) (ns ms : List Int), x = .ref a ∧ y = .ref b ∧ SqL X.K H a (ns.map V.int) ∧ SqL X.K H b (ms.map V.int) ∧ Q (.bl (!decide (ns = ms))) H) := by
  intro pins s σ H x y v u Q I rx ry h
  obtain ⟨a, b, ns, ms, rfl, rfl, h1, h2, q⟩ := h
  refine op_neD hu pins s σ H _ _ v u Q I rx ry ⟨_, _, .lst h1 (dpAll_int ns), .lst h2 (dpAll_int ms), shaped_int ns, shaped_int ms, ?_⟩
  rw [PyData.eqv, eqvAll_int]
  exact q
end
theorem kept_first {p : Nat → Bool} {c n : Nat} (hp : p c = true) (hn : ∀ k, k < c → p k = false) (hc : c < n) : ∃ r, kept p n = c :: r := by
  have h0 : ∀ k, k ≤ c → kept p k = [] := by
    intro k
    induction k with
    | zero => intro _; rfl
    | succ k ih =>
      intro hk
      rw [kept_succ, if_neg (by rw [hn k (by omega)]; decide), ih (by omega)]
  have h1 : ∀ d, ∃ r, kept p (c + 1 + d) = c :: r := by
    intro d
    induction d with
    | zero => exact ⟨[], by rw [Nat.add_zero, kept_succ, if_pos hp, h0 c (Nat.le_refl _)]; rfl⟩
    | succ d ih =>
      obtain ⟨r, e⟩ := ih
      rw [show c + 1 + (d + 1) = (c + 1 + d) + 1 by omega, kept_succ, e]
      split
      · exact ⟨r ++ [c + 1 + d], rfl⟩
      · exact ⟨r, rfl⟩
  have := h1 (n - (c + 1))
  rw [show c + 1 + (n - (c + 1)) = n by omega] at this
  exact this
/-- the first n values of a function -/
def tab (f : Nat → Int) (n : Nat) : List Int := (List.range n).map f
theorem tab_len (f : Nat → Int) (n : Nat) : ((tab f n).map V.int).length = n := by
  unfold tab
  rw [List.length_map, List.length_map, List.length_range]
theorem tab_at {f : Nat → Int} {n i : Nat} {y : V} (h : ((tab f n).map V.int)[i]? = some y) : y = .int (f i) := by
  unfold tab at h
  rw [List.getElem?_map, List.getElem?_map] at h
  cases e : (List.range n)[i]? with
  | none => rw [e] at h; cases h
  | some k =>
    rw [e] at h
    obtain ⟨h1, h2⟩ := List.getElem?_eq_some_iff.mp e
    rw [List.getElem_range] at h2
    subst h2
    exact (Option.some.inj h).symm
theorem tab_get (f : Nat → Int) {n i : Nat} (h : i < n) : ((tab f n).map V.int)[i]? = some (.int (f i)) := by
  unfold tab
  rw [List.getElem?_map, List.getElem?_map, List.getElem?_range h]
  rfl
end TK
/-! ### a comprehension over zip; rows of pairs -/
namespace TK
open PySem PySem.Spec PyProof.Rows L2
section
variable {K : PySem.W.Frag} {a b : Addr} {g : TG} {tt : TT} {te : TE} {vs : List Nat} {σ : L2.St} {H : Hp} {D : Addr} {Qd : Hp → Prop}
theorem lc_zipS {xs ys zs : List V} (hD : H D = none) (hx : SqL K H a xs) (hy : SqL K H b ys) (n : zs.length = min xs.length ys.length) (sz : zs.length ≤ sizeLine)
    (hs : ∀ (i : Nat) (x y z : V) (T : Addr) (Hi : Hp) (R : V → Hp → Prop) (F : Hp → Prop), xs[i]? = some x → ys[i]? = some y → zs[i]? = some z → Same H Hi → Hi T = none → R z (upd Hi T (.tup [x, y])) →
      g (.ref T) (wipe σ vs) (upd Hi T (.tup [x, y])) fun σ2 H2 => wipe σ2 vs = wipe σ vs ∧ tt σ2 H2 fun b H3 => if b = true then te σ2 H3 R else F H3)
    (hd : ∀ H', Same H H' → H' D = some (.lst zs) → Qd H') :
    ∃ W : Nat → Nat → Hp → Prop, (∃ m, W 0 m (upd H D (.lst []))) ∧ ∀ i m H, W i m H →
      ((Itz K a b).stop i H ∧ Qd H) ∨ ((Itz K a b).go i H ∧ ∃ Nx : Hp → Prop, (∀ H', Nx H' → ∃ m', m' < m ∧ W (i + 1) m' H') ∧ ∀ x H', (Itz K a b).yld i H x H' → g x (wipe σ vs) H' fun σ2 H2 => wipe σ2 vs = wipe σ vs ∧ tt σ2 H2 fun b H3 =>
        if b = true then te σ2 H3 fun y H4 => ∃ acc, H4 D = some (.lst acc) ∧ acc.length < sizeLine ∧ Nx (upd H4 D (.lst (acc ++ [y]))) else Nx H3) := by
  refine ⟨fun i m H' => i + m = zs.length ∧ Same H H' ∧ H' D = some (.lst (zs.take i)), ⟨zs.length, by omega, same_upd hD, upd_same⟩, fun i m H' hW => ?_⟩
  obtain ⟨em, sm, eD⟩ := hW
  have hA : SqL K H' a xs := sm.seq hx
  have hB : SqL K H' b ys := sm.seq hy
  by_cases hi : i < zs.length
  · have h1 : i < xs.length := by omega
    have h2 : i < ys.length := by omega
    have g1 := List.getElem?_eq_getElem h1
    have g2 := List.getElem?_eq_getElem h2
    have g3 := List.getElem?_eq_getElem hi
    refine .inr ⟨⟨_, _, _, _, hA, hB, g1, g2⟩, fun H'' => Same H H'' ∧ H'' D = some (.lst (zs.take (i + 1))), fun H'' hN => ⟨m - 1, by omega, by omega, hN⟩, fun x H'' hy' => ?_⟩
    obtain ⟨T, x1, x2, rfl, nT, rfl, f1, f2⟩ := hy'
    have ex1 : x1 = xs[i] := Option.some.inj ((f1 _ hA).symm.trans g1)
    have ex2 : x2 = ys[i] := Option.some.inj ((f2 _ hB).symm.trans g2)
    subst ex1 ex2
    refine hs i _ _ zs[i] T H' _ _ g1 g2 g3 sm nT ⟨zs.take i, upd_at eD nT, ?_, ?_, ?_⟩
    · rw [List.length_take]
      omega
    · refine fun c o e => ?_
      rw [upd_ne (ne_of_none e hD)]
      exact same_upd nT _ _ (sm _ _ e)
    · rw [upd_same, take_snoc g3]
  · refine .inl ⟨⟨_, _, hA, hB, ?_⟩, hd _ sm ?_⟩
    · omega
    · rw [List.take_of_length_le (by omega)] at eD
      exact eD
end
theorem cut1 (xs : List V) : cutV xs (some 1) none = xs.drop 1 := by
  unfold cutV
  rw [show HT.sIx xs.length 0 (some 1) = min 1 xs.length from HT.sIx_nat xs.length 0 1, HT.sIx_none]
  cases xs with
  | nil => rfl
  | cons x r =>
    rw [show min 1 (x :: r).length = 1 by
      rw [List.length_cons]
      omega]
    show (List.take ((x :: r).length - 1) r) = r
    rw [List.length_cons, Nat.add_sub_cancel]
    exact List.take_length
/-- rows (i, m) as tuples -/
def Pairs (H : Hp) : List V → List (Int × Int) → Prop
  | [], [] => True
  | x :: xs, r :: rs => (∃ a, x = .ref a ∧ H a = some (.tup [.int r.1, .int r.2])) ∧ Pairs H xs rs
  | _, _ => False
theorem Pairs.same {H H' : Hp} (s : Same H H') : ∀ {xs : List V} {rs : List (Int × Int)}, Pairs H xs rs → Pairs H' xs rs
  | [], [], _ => trivial
  | _ :: _, _ :: _, h => ⟨by obtain ⟨a, e, h1⟩ := h.1; exact ⟨a, e, s _ _ h1⟩, Pairs.same s h.2⟩
  | [], _ :: _, h => h.elim
  | _ :: _, [], h => h.elim
/-- a list that is written over is none of the tuples -/
theorem Pairs.keep {H : Hp} {l : Addr} {ys zs : List V} (hl : H l = some (.lst ys)) : ∀ {xs : List V} {rs : List (Int × Int)}, Pairs H xs rs → Pairs (upd H l (.lst zs)) xs rs
  | [], [], _ => trivial
  | _ :: _, _ :: _, h => ⟨by
      obtain ⟨a, e, h1⟩ := h.1
      exact ⟨a, e, upd_at' h1 (ne_of h1 hl (by intro z; cases z))⟩, Pairs.keep hl h.2⟩
  | [], _ :: _, h => h.elim
  | _ :: _, [], h => h.elim
theorem Pairs.snoc {H : Hp} {p : Addr} {i m : Int} (hp : H p = some (.tup [.int i, .int m])) : ∀ {xs : List V} {rs : List (Int × Int)}, Pairs H xs rs → Pairs H (xs ++ [.ref p]) (rs ++ [(i, m)])
  | [], [], _ => ⟨⟨p, rfl, hp⟩, trivial⟩
  | _ :: _, _ :: _, h => ⟨h.1, Pairs.snoc hp h.2⟩
  | [], _ :: _, h => h.elim
  | _ :: _, [], h => h.elim
def pD (r : Int × Int) : PyData := .tuple [.int r.1, .int r.2]
theorem Pairs.dp {K : PySem.W.Frag} {H : Hp} : ∀ {xs : List V} {rs : List (Int × Int)}, Pairs H xs rs → DpAll K H xs (rs.map pD)
  | [], [], _ => .nil
  | _ :: _, _ :: _, h => by
    obtain ⟨a, e, h1⟩ := h.1
    subst e
    exact .cons (.tup (SqT.of h1) (.cons (.int _) (.cons (.int _) .nil))) (Pairs.dp h.2)
  | [], _ :: _, h => h.elim
  | _ :: _, [], h => h.elim
theorem lay_pairs : ∀ rs : List (Int × Int), PyData.canLayAll0 (rs.map pD) = true
  | [] => rfl
  | _ :: r => by simp [PyData.canLayAll0, PyData.canLay0, pD, lay_pairs r]
theorem deep_pairs : ∀ rs : List (Int × Int), PyData.depthAll (rs.map pD) ≤ 2
  | [] => by simp [PyData.depthAll]
  | _ :: r => by
    have := deep_pairs r
    simp [PyData.depthAll, PyData.depth, pD]
    omega
theorem shaped_pairs (rs : List (Int × Int)) : SeqAt.shaped (.list (rs.map pD)) = true := by
  have := deep_pairs rs
  simp [SeqAt.shaped, PyData.canLay0, PyData.depth, lay_pairs]
  omega
theorem Pairs.length {H : Hp} : ∀ {xs : List V} {rs : List (Int × Int)}, Pairs H xs rs → xs.length = rs.length
  | [], [], _ => rfl
  | _ :: _, _ :: _, h => by rw [List.length_cons, List.length_cons, Pairs.length h.2]
  | [], _ :: _, h => h.elim
  | _ :: _, [], h => h.elim
theorem eqv_pairs : ∀ rs ss : List (Int × Int), PyData.eqvAll (rs.map pD) (ss.map pD) = decide (rs = ss)
  | [], [] => by simp [PyData.eqvAll]
  | [], _ :: _ => by simp [PyData.eqvAll]
  | _ :: _, [] => by simp [PyData.eqvAll]
  | (a, b) :: r, (c, d) :: t => by
    simp only [List.map_cons, PyData.eqvAll, eqv_pairs r t]
    by_cases h1 : a = c <;> by_cases h2 : b = d <;> by_cases h' : r = t <;> simp [pD, PyData.eqv, PyData.eqvAll, h1, h2, h']
/-- a list of rows stands at l -/
structure Rows (H : Hp) (l : Addr) (rs : List (Int × Int)) : Prop where
  ex : ∃ xs, H l = some (.lst xs) ∧ Pairs H xs rs
theorem Rows.same {H H' : Hp} {l : Addr} {rs : List (Int × Int)} (s : Same H H') (h : Rows H l rs) : Rows H' l rs := by
  obtain ⟨xs, e, p⟩ := h.ex
  exact ⟨xs, s _ _ e, p.same s⟩
theorem Rows.add {H : Hp} {l t : Addr} {xs : List V} {rs : List (Int × Int)} {i m : Int} (hl : H l = some (.lst xs)) (p : Pairs H xs rs) (ht : H t = some (.tup [.int i, .int m])) : Rows (upd H l (.lst (xs ++ [.ref t]))) l (rs ++ [(i, m)]) :=
  ⟨_, upd_same, (Pairs.snoc ht p).keep hl⟩
section
variable {X : Cx}
theorem op_eqPL (hu : X.A.units + 64 < cLine) : OpR X (compareOp .Eq) (fun x y H Q => ∃ (a b : Addr) (rs ss : List (Int × Int)), x = .ref a ∧ y = .ref b ∧ Rows H a rs ∧ Rows H b ss ∧ Q (.bl (decide (rs = ss))) H) := by
  intro pins s σ H x y v u Q I rx ry h
  obtain ⟨a, b, ns, ms, rfl, rfl, ⟨⟨xs, h1, p1⟩⟩, ⟨⟨ys, h2, p2⟩⟩, q⟩ := h
  refine op_eqD hu pins s σ H _ _ v u Q I rx ry ⟨_, _, .lst (SqL.of h1) p1.dp, .lst (SqL.of h2) p2.dp, shaped_pairs ns, shaped_pairs ms, ?_⟩
  rw [PyData.eqv, eqv_pairs]
  exact q
theorem op_nePL (hu : X.A.units + 64 < cLine) : OpR X (compareOp .NotEq) (fun x y H Q => ∃ (a b : Addr) (rs ss : List (Int × Int)), x = .ref a ∧ y = .ref b ∧ Rows H a rs ∧ Rows H b ss ∧ Q (.bl (!decide (rs = ss))) H) := by
  intro pins s σ H x y v u Q I rx ry h
  obtain ⟨a, b, ns, ms, rfl, rfl, ⟨⟨xs, h1, p1⟩⟩, ⟨⟨ys, h2, p2⟩⟩, q⟩ := h
  refine op_neD hu pins s σ H _ _ v u Q I rx ry ⟨_, _, .lst (SqL.of h1) p1.dp, .lst (SqL.of h2) p2.dp, shaped_pairs ns, shaped_pairs ms, ?_⟩
  rw [PyData.eqv, eqv_pairs]
  exact q
end
end TK
namespace TK
open PySem PySem.Spec PyProof.Rows L2
/-- the i-th number of a list -/
def nth (ns : List Int) (i : Nat) : Int := ns.getD i 0
theorem nth_get {ns : List Int} {i : Nat} (h : i < ns.length) : (ns.map V.int)[i]? = some (.int (nth ns i)) := by
  unfold nth
  rw [List.getElem?_map, List.getElem?_eq_getElem h, List.getD_eq_getElem?_getD, List.getElem?_eq_getElem h]
  rfl
theorem nth_of {ns : List Int} {i : Nat} {y : V} (h : (ns.map V.int)[i]? = some y) : i < ns.length ∧ y = .int (nth ns i) := by
  have hi : i < ns.length := by
    have := (List.getElem?_eq_some_iff.mp h).1
    rw [List.length_map] at this
    exact this
  refine ⟨hi, ?_⟩
  rw [nth_get hi] at h
  exact (Option.some.inj h).symm
theorem at_nth {ns : List Int} {z : Int} (h0 : 0 ≤ z) (h1 : z < ns.length) : atI (ns.map V.int) z = some (.int (nth ns z.toNat)) := at_of (j := z.toNat) (by omega) (nth_get (by omega))
end TK
namespace TK
open PySem PySem.Spec PyProof.Rows L2
/-- a loop over zip of two lists, the shorter one's length -/
theorem for_zipS {K : PySem.W.Frag} {a b : Addr} {xs ys : List V} {g : TG} {tb : TS} {D : Ends} {σ : L2.St} {H : Hp} {n : Nat} (hn : n = min xs.length ys.length) (Pv : Nat → L2.St → Hp → Prop) (h0 : Pv 0 σ H)
    (hq : ∀ i σ H, Pv i σ H → SqL K H a xs ∧ SqL K H b ys)
    (hs : ∀ i x y T σ H, xs[i]? = some x → ys[i]? = some y → Pv i σ H → H T = none → g (.ref T) σ (upd H T (.tup [x, y])) fun σ2 H2 => tb { D with nx := Pv (i + 1), ct := Pv (i + 1), bk := D.nx } σ2 H2)
    (hd : ∀ σ H, Pv n σ H → D.nx σ H) :
    ∃ W : Nat → Nat → L2.St → Hp → Prop, (∃ m, W 0 m σ H) ∧ ∀ i m σ H, W i m σ H →
      ((Itz K a b).stop i H ∧ D.nx σ H) ∨ ((Itz K a b).go i H ∧ ∃ N : L2.St → Hp → Prop, (∀ σ' H', N σ' H' → ∃ m', m' < m ∧ W (i + 1) m' σ' H') ∧ ∀ v H', (Itz K a b).yld i H v H' → g v σ H' fun σ2 H2 => tb { D with nx := N, ct := N, bk := D.nx } σ2 H2) := by
  refine ⟨fun i m σ H => m = n - i ∧ i ≤ n ∧ Pv i σ H, ⟨n, by simp, Nat.zero_le _, h0⟩, ?_⟩
  rintro i m σ H ⟨rfl, hi, p⟩
  obtain ⟨hA, hB⟩ := hq i σ H p
  by_cases hlt : i < n
  · have h1 : i < xs.length := by omega
    have h2 : i < ys.length := by omega
    have g1 := List.getElem?_eq_getElem h1
    have g2 := List.getElem?_eq_getElem h2
    refine .inr ⟨⟨_, _, _, _, hA, hB, g1, g2⟩, Pv (i + 1), fun σ' H' p' => ⟨n - (i + 1), by omega, rfl, hlt, p'⟩, fun v H' hy => ?_⟩
    obtain ⟨T, x1, x2, rfl, nT, rfl, f1, f2⟩ := hy
    have ex1 : x1 = xs[i] := Option.some.inj ((f1 _ hA).symm.trans g1)
    have ex2 : x2 = ys[i] := Option.some.inj ((f2 _ hB).symm.trans g2)
    subst ex1 ex2
    exact hs i _ _ T σ H g1 g2 p nT
  · have e : i = n := by omega
    subst e
    exact .inl ⟨⟨_, _, hA, hB, by omega⟩, hd σ H p⟩
/-- a and b as a test, where b may add to the heap: what comes of False is told once -/
theorem and_cut {c : Bool} {T2 : Hp → (Bool → Hp → Prop) → Prop} {R : Bool → Hp → Prop} {H5 : Hp} (hr : ∀ H6, Same H5 H6 → R false H6) (ht : c = true → (∀ H6, Same H5 H6 → R false H6) → T2 H5 R) : if c = true then T2 H5 R else R false H5 := by
  cases c with
  | true => exact iteT (ht rfl hr)
  | false => exact iteF (hr H5 (Same.refl H5))
theorem cutLast (xs : List V) : cutV xs none (some (-1)) = xs.dropLast := by
  unfold cutV
  rw [HT.sIx_none]
  show (xs.drop 0).take ((if (-1 : Int) < 0 then (-1 + (xs.length : Int)).toNat else min (-1 : Int).toNat xs.length) - 0) = _
  rw [if_pos (by decide), List.drop_zero, List.dropLast_eq_take, show (-1 + (xs.length : Int)).toNat - 0 = xs.length - 1 by omega]
end TK
namespace TK
open PySem PySem.Spec PyProof.Rows L2
/-- while, with a number that falls; what comes of a turn is told once -/
theorem while_m {c : TT} {tb : TS} {D : Ends} {σ : L2.St} {H : Hp} (Pv : Nat → L2.St → Hp → Prop) {m0 : Nat} (h0 : Pv m0 σ H)
    (hs : ∀ m σ H, Pv m σ H → ∀ Bt : Hp → Prop, (∀ H1, tb { D with nx := fun σ' H' => ∃ m', m' < m ∧ Pv m' σ' H', ct := fun σ' H' => ∃ m', m' < m ∧ Pv m' σ' H', bk := D.nx } σ H1 → Bt H1) →
      c σ H fun b H1 => if b = true then Bt H1 else D.nx σ H1) : tWhile c tb D σ H :=
  ⟨Pv, ⟨m0, h0⟩, fun m σ H p => hs m σ H p _ (fun H1 h => ⟨_, fun σ' H' x => x, h⟩)⟩
/-- numbers of a list of numbers, by place -/
theorem mapI {f : Nat → Int} {l : List Nat} : l.map (fun k => V.int (f k)) = (l.map f).map V.int := by
  rw [List.map_map]
  rfl
theorem kept_nil {p : Nat → Bool} : ∀ {n : Nat}, (∀ k, k < n → p k = false) → kept p n = []
  | 0, _ => rfl
  | n + 1, h => by
    rw [kept_succ, if_neg (by rw [h n (by omega)]; decide)]
    exact kept_nil (fun k hk => h k (by omega))
theorem kept_last {p : Nat → Bool} {d n : Nat} (hp : p d = true) (hd : d < n) (hn : ∀ k, d < k → k < n → p k = false) : ∃ r, kept p n = r ++ [d] := by
  induction n with
  | zero => omega
  | succ n ih =>
    rw [kept_succ]
    by_cases e : d = n
    · subst e
      rw [if_pos hp]
      exact ⟨_, rfl⟩
    · rw [if_neg (by rw [hn n (by omega) (by omega)]; decide)]
      exact ih (by omega) (fun k h1 h2 => hn k h1 (by omega))
end TK
/-! ### comprehensions with a test, over lists and tuples -/
namespace TK
open PySem PySem.Spec PyProof.Rows L2
section
variable {K : PySem.W.Frag} {a : Addr} {g : TG} {tt : TT} {te : TE} {vs : List Nat} {σ : L2.St} {H : Hp} {D : Addr} {Qd : Hp → Prop}
theorem lc_itF {J : It} {xs : List V} {p : Nat → Bool} {f : Nat → V} (hD : H D = none) (jg : ∀ i H', Same H H' → i < xs.length → J.go i H') (jy : ∀ i H' x H'', Same H H' → J.yld i H' x H'' → H'' = H' ∧ xs[i]? = some x) (js : ∀ H', Same H H' → J.stop xs.length H') (sz : xs.length ≤ sizeLine)
    (hs : ∀ (i : Nat) (x : V) (R : V → Hp → Prop) (F : Hp → Prop), xs[i]? = some x → (p i = true → R (f i) (upd H D (.lst ((kept p i).map f)))) → (p i = false → F (upd H D (.lst ((kept p i).map f)))) →
      g x (wipe σ vs) (upd H D (.lst ((kept p i).map f))) fun σ2 H2 => wipe σ2 vs = wipe σ vs ∧ tt σ2 H2 fun b H3 => if b = true then te σ2 H3 R else F H3)
    (hd : Qd (upd H D (.lst ((kept p xs.length).map f)))) :
    ∃ W : Nat → Nat → Hp → Prop, (∃ m, W 0 m (upd H D (.lst []))) ∧ ∀ i m H, W i m H →
      (J.stop i H ∧ Qd H) ∨ (J.go i H ∧ ∃ Nx : Hp → Prop, (∀ H', Nx H' → ∃ m', m' < m ∧ W (i + 1) m' H') ∧ ∀ x H', J.yld i H x H' → g x (wipe σ vs) H' fun σ2 H2 => wipe σ2 vs = wipe σ vs ∧ tt σ2 H2 fun b H3 =>
        if b = true then te σ2 H3 fun y H4 => ∃ acc, H4 D = some (.lst acc) ∧ acc.length < sizeLine ∧ Nx (upd H4 D (.lst (acc ++ [y]))) else Nx H3) := by
  refine ⟨fun i m H' => i + m = xs.length ∧ H' = upd H D (.lst ((kept p i).map f)), ⟨xs.length, by omega, rfl⟩, fun i m H' hW => ?_⟩
  obtain ⟨em, e⟩ := hW
  have sm : Same H H' := by
    subst e
    exact same_upd hD
  by_cases hi : i < xs.length
  · refine .inr ⟨jg i H' sm hi, fun H'' => H'' = upd H D (.lst ((kept p (i + 1)).map f)), fun H'' hN => ⟨m - 1, by omega, by omega, hN⟩, fun x H'' hy => ?_⟩
    obtain ⟨e1, hx⟩ := jy i H' x H'' sm hy
    subst e1 e
    refine hs i x _ _ hx (fun hp => ⟨(kept p i).map f, upd_same, ?_, ?_⟩) (fun hp => ?_)
    · have := kept_len p i
      rw [List.length_map]
      omega
    · rw [upd_upd, kept_succ, if_pos hp, List.map_append]
      rfl
    · rw [kept_succ, if_neg (by rw [hp]; decide)]
  · have ei : i = xs.length := by omega
    subst ei e
    exact .inl ⟨js _ sm, hd⟩
theorem lc_listF {xs : List V} {p : Nat → Bool} {f : Nat → V} (hD : H D = none) (hl : SqL K H a xs) (sz : xs.length ≤ sizeLine)
    (hs : ∀ (i : Nat) (x : V) (R : V → Hp → Prop) (F : Hp → Prop), xs[i]? = some x → (p i = true → R (f i) (upd H D (.lst ((kept p i).map f)))) → (p i = false → F (upd H D (.lst ((kept p i).map f)))) →
      g x (wipe σ vs) (upd H D (.lst ((kept p i).map f))) fun σ2 H2 => wipe σ2 vs = wipe σ vs ∧ tt σ2 H2 fun b H3 => if b = true then te σ2 H3 R else F H3)
    (hd : Qd (upd H D (.lst ((kept p xs.length).map f)))) :
    ∃ W : Nat → Nat → Hp → Prop, (∃ m, W 0 m (upd H D (.lst []))) ∧ ∀ i m H, W i m H →
      ((Itl K a).stop i H ∧ Qd H) ∨ ((Itl K a).go i H ∧ ∃ Nx : Hp → Prop, (∀ H', Nx H' → ∃ m', m' < m ∧ W (i + 1) m' H') ∧ ∀ x H', (Itl K a).yld i H x H' → g x (wipe σ vs) H' fun σ2 H2 => wipe σ2 vs = wipe σ vs ∧ tt σ2 H2 fun b H3 =>
        if b = true then te σ2 H3 fun y H4 => ∃ acc, H4 D = some (.lst acc) ∧ acc.length < sizeLine ∧ Nx (upd H4 D (.lst (acc ++ [y]))) else Nx H3) :=
  lc_itF (J := Itl K a) hD (fun i H' sm hi => ⟨xs, _, sm.seq hl, List.getElem?_eq_getElem hi⟩) (fun i H' x H'' sm hy => ⟨hy.1, hy.2 _ (sm.seq hl)⟩) (fun H' sm => ⟨xs, sm.seq hl, Nat.le_refl _⟩) sz hs hd
theorem lc_tupF {xs : List V} {p : Nat → Bool} {f : Nat → V} (hD : H D = none) (hl : H a = some (.tup xs)) (sz : xs.length ≤ sizeLine)
    (hs : ∀ (i : Nat) (x : V) (R : V → Hp → Prop) (F : Hp → Prop), xs[i]? = some x → (p i = true → R (f i) (upd H D (.lst ((kept p i).map f)))) → (p i = false → F (upd H D (.lst ((kept p i).map f)))) →
      g x (wipe σ vs) (upd H D (.lst ((kept p i).map f))) fun σ2 H2 => wipe σ2 vs = wipe σ vs ∧ tt σ2 H2 fun b H3 => if b = true then te σ2 H3 R else F H3)
    (hd : Qd (upd H D (.lst ((kept p xs.length).map f)))) :
    ∃ W : Nat → Nat → Hp → Prop, (∃ m, W 0 m (upd H D (.lst []))) ∧ ∀ i m H, W i m H →
      ((Itt K a).stop i H ∧ Qd H) ∨ ((Itt K a).go i H ∧ ∃ Nx : Hp → Prop, (∀ H', Nx H' → ∃ m', m' < m ∧ W (i + 1) m' H') ∧ ∀ x H', (Itt K a).yld i H x H' → g x (wipe σ vs) H' fun σ2 H2 => wipe σ2 vs = wipe σ vs ∧ tt σ2 H2 fun b H3 =>
        if b = true then te σ2 H3 fun y H4 => ∃ acc, H4 D = some (.lst acc) ∧ acc.length < sizeLine ∧ Nx (upd H4 D (.lst (acc ++ [y]))) else Nx H3) :=
  lc_itF (J := Itt K a) hD (fun i H' sm hi => ⟨xs, _, SqT.of (sm _ _ hl), List.getElem?_eq_getElem hi⟩) (fun i H' x H'' sm hy => ⟨hy.1, hy.2 _ (SqT.of (sm _ _ hl))⟩) (fun H' sm => ⟨xs, SqT.of (sm _ _ hl), Nat.le_refl _⟩) sz hs hd
end
end TK
namespace TK
open PySem PySem.Spec PyProof.Rows L2
/-- a loop over enumerate of a list -/
theorem for_enumS {K : PySem.W.Frag} {a : Addr} {xs : List V} {g : TG} {tb : TS} {D : Ends} {σ : L2.St} {H : Hp} (Pv : Nat → L2.St → Hp → Prop) (h0 : Pv 0 σ H)
    (hq : ∀ i σ H, Pv i σ H → SqL K H a xs)
    (hs : ∀ i x T σ H, xs[i]? = some x → Pv i σ H → H T = none → g (.ref T) σ (upd H T (.tup [.int (i : Nat), x])) fun σ2 H2 => tb { D with nx := Pv (i + 1), ct := Pv (i + 1), bk := D.nx } σ2 H2)
    (hd : ∀ σ H, Pv xs.length σ H → D.nx σ H) :
    ∃ W : Nat → Nat → L2.St → Hp → Prop, (∃ m, W 0 m σ H) ∧ ∀ i m σ H, W i m σ H →
      ((Ite K a).stop i H ∧ D.nx σ H) ∨ ((Ite K a).go i H ∧ ∃ N : L2.St → Hp → Prop, (∀ σ' H', N σ' H' → ∃ m', m' < m ∧ W (i + 1) m' σ' H') ∧ ∀ v H', (Ite K a).yld i H v H' → g v σ H' fun σ2 H2 => tb { D with nx := N, ct := N, bk := D.nx } σ2 H2) := by
  refine ⟨fun i m σ H => m = xs.length - i ∧ i ≤ xs.length ∧ Pv i σ H, ⟨xs.length, by simp, Nat.zero_le _, h0⟩, ?_⟩
  rintro i m σ H ⟨rfl, hi, p⟩
  have hA := hq i σ H p
  by_cases hlt : i < xs.length
  · have g1 := List.getElem?_eq_getElem hlt
    refine .inr ⟨⟨_, _, hA, g1⟩, Pv (i + 1), fun σ' H' p' => ⟨xs.length - (i + 1), by omega, rfl, hlt, p'⟩, fun v H' hy => ?_⟩
    obtain ⟨T, x1, rfl, nT, rfl, f1⟩ := hy
    have ex1 : x1 = xs[i] := Option.some.inj ((f1 _ hA).symm.trans g1)
    subst ex1
    exact hs i _ T σ H g1 p nT
  · have e : i = xs.length := by omega
    subst e
    exact .inl ⟨⟨_, hA, by omega⟩, hd σ H p⟩
/-- a and b as a test, where b may change the heap: what comes of False is told once -/
theorem and_cutP {c : Bool} {T2 : Hp → (Bool → Hp → Prop) → Prop} {R : Bool → Hp → Prop} {H5 : Hp} (P : Hp → Prop) (h5 : P H5) (hr : ∀ H6, P H6 → R false H6) (ht : c = true → (∀ H6, P H6 → R false H6) → T2 H5 R) : if c = true then T2 H5 R else R false H5 := by
  cases c with
  | true => exact iteT (ht rfl hr)
  | false => exact iteF (hr H5 h5)
theorem ofF {A B : Prop} (h : if false = true then A else B) : B := by simpa using h
end TK
namespace TK
open PySem PySem.Spec PyProof.Rows L2
/-- an if whose two ways go on alike: what follows is told once -/
theorem ifs_cut {c : Bool} {tb tb2 : TS} {D : Ends} {σ : L2.St} {H : Hp} (Inv : L2.St → Hp → Prop) (hR : ∀ σ' H', Inv σ' H' → D.nx σ' H')
    (ht : c = true → (∀ σ' H', Inv σ' H' → D.nx σ' H') → tb D σ H) (he : c = false → (∀ σ' H', Inv σ' H' → D.nx σ' H') → tb2 D σ H) : if c = true then tb D σ H else tb2 D σ H := by
  cases c with
  | true => exact iteT (ht rfl hR)
  | false => exact iteF (he rfl hR)
end TK

namespace My
open PySem PySem.Spec PyProof.Rows L2 TK
def topS (i : Nat) : Stmt := PySem.Challenge.pw_timekernel_k07_best_rates_and_spans.main.body.getD i (.Pass ⟨0, 0, 0, 0⟩)
structure Txt (mg : Str → Option Value) : Prop where
  len : mg "len" = none
  int : mg "int" = none
  range : mg "range" = none
  isinstance : mg "isinstance" = none
  bool : mg "bool" = none
  tuple : mg "tuple" = none
  max : mg "max" = none
  min : mg "min" = none
  reversed : mg "reversed" = none
  mgMOST_WIDTH : ∃ t, mg "MOST_WIDTH" = some (.int (64) t)
  mgMOST_SHIFT : ∃ t, mg "MOST_SHIFT" = some (.int (64) t)
  mgMOST_MULT : ∃ t, mg "MOST_MULT" = some (.int (18446744073709551615) t)
  mgGREATEST_BEST_SHIFT : ∃ t, mg "GREATEST_BEST_SHIFT" = some (.int (32) t)
local macro_rules | `(tactic| walk_at "side") => `(tactic| first
  | with_reducible assumption
  | omega
  | (simp only [List.length_map]; omega)
  | ((with_reducible refine posLen ?h); (case h => exact rfl))
  | ((with_reducible refine ltLen ?h); (case h => exact rfl))
  | (show (0 : Int) < _; omega)
  | (show (0 : Int) ≤ _; omega)
  | with_reducible exact Dr.src (by assumption)
  | ((with_reducible refine Src.new ?h1 ?h2); (case h2 => assumption); (case h1 => walk_at "side"))
  | ((with_reducible refine Src.set ?h1 ?h2); (case h2 => assumption); (case h1 => walk_at "side"))
  | exact w200 (by omega) (by omega)
  | exact shl400 (by omega) (by omega) (by omega)
  | exact mulE1 (by omega) (by omega)
  | exact mulE2 (by omega) (by omega)
  | exact mulE3 (by omega) (by omega)
  | exact Or.inr ⟨by omega, by omega⟩
  | exact Or.inl ⟨by omega, by omega⟩
  | exact Or.inr ⟨by decide, by decide⟩
  | exact Or.inl ⟨by decide, by decide⟩
  | exact rfl
  | exact ⟨by omega, by omega, by omega⟩
  | exact ⟨by decide, by decide, by decide⟩
  | exact Nat.le_of_ble_eq_true rfl)
local macro_rules | `(tactic| walk_at "has") => `(tactic| first
  | with_reducible assumption
  | with_reducible exact upd_same
  | ((with_reducible refine upd_at ?h1 ?h2); (case h2 => assumption); (case h1 => walk_at "has"))
  | (refine Dr.at (by assumption) ?h1 ?h2; (case h1 => assumption); (case h2 => walk_at "has")))
local macro_rules | `(tactic| walk_at "sql") => `(tactic| first | assumption | exact SqL.of (by walk_at "has"))
local macro_rules | `(tactic| walk_at "sqt") => `(tactic| first | assumption | exact SqT.of (by walk_at "has"))
local macro_rules | `(tactic| walk_at "ty") => `(tactic| first | exact .base (.int _) | exact .base .non | exact .base (.bl _) | exact .base (.str _) | exact .base (.tup (by walk_at "has")) | exact .base (.lst (by walk_at "has")) | exact .base (.dK (by walk_at "has")))
local macro_rules | `(tactic| walk_at "go1") => `(tactic| first
  | refine ⟨_, rfl, ?_⟩
  | refine ⟨_, _, rfl, rfl, ?_⟩
  | (refine And.intro ?side ?_; (case side => walk_at "side"))
  | (refine ⟨?rr, IsR.mk ?eq, ?_⟩; (case eq => first | (conv => lhs; simp only [Int.reduceToNat, Int.reducePow, Int.reduceMul, Int.one_mul]) | rfl))
  | (refine Or.inl ⟨_, rfl, ?_⟩)
  | refine iteT ?_
  | refine iteF ?_
  | refine ⟨_, _, rfl, ?_⟩
  | refine ⟨_, _, rfl, Or.inl (by walk_at "sql"), ?_⟩
  | refine ⟨_, _, rfl, Or.inr (by walk_at "sqt"), ?_⟩
  | refine ⟨_, _, _, rfl, ?_⟩
  | refine ⟨_, _, _, _, rfl, rfl, by walk_at "sql", rfl, ?_⟩
  | refine ⟨_, _, _, _, rfl, rfl, by walk_at "sqt", rfl, ?_⟩
  | refine ⟨_, _, _, _, rfl, rfl, by walk_at "has", rfl, ?_⟩
  | refine ⟨_, _, _, _, _, rfl, .ty _, by walk_at "ty", kit_ty (r := true) (by decide +kernel), ?_⟩
  | refine ⟨_, _, _, _, _, rfl, .ty _, by walk_at "ty", kit_ty (r := false) (by decide +kernel), ?_⟩
  | refine ⟨_, _, rfl, by walk_at "sqt", rfl, ?_⟩
  | refine And.intro (Or.inl ⟨rfl, _, by walk_at "sql"⟩) ?_
  | refine ⟨_, _, _, rfl, rfl, by walk_at "has", Nat.le_of_ble_eq_true rfl, ?_⟩
  | refine ⟨_, _, _, _, rfl, rfl, by walk_at "has", by walk_at "has", Nat.le_of_ble_eq_true rfl, ?_⟩
  | refine And.intro ⟨_, by walk_at "sql"⟩ ?_
  | refine ⟨_, _, _, _, rfl, rfl, by walk_at "sql", at_nth (by omega) (by omega), ?_⟩
  | refine ⟨_, _, rfl, by walk_at "sql", ?_⟩
  | refine ifD (by omega) ?_
  | refine ifN (by omega) ?_
  | refine ifDn (by omega) ?_
  | refine ifNn (by omega) ?_
  | refine ifE (by omega) ?_
  | refine ifEn (by omega) ?_)
local macro_rules | `(tactic| walk_at "go") => `(tactic| repeat walk_at "go1")

/-! ### draws -/
def spCell (K : PySem.W.Frag) : Sp := fun vs H Q _ => ∃ (a : Addr) (ns : List Int) (k : Int), vs = [.ref a, .int k] ∧ SqL K H a (ns.map V.int) ∧ 0 ≤ k ∧ ∀ c : Int, Q (.int c) H
def spMixed : Sp := fun vs H Q _ => ∃ (c k : Int), vs = [.int c, .int k] ∧ ∀ r : Int, 0 ≤ r → r < 2147483563 → Q (.int r) H
def spSource (K : PySem.W.Frag) : Sp := fun vs H Q _ => ∃ (a : Addr) (ns : List Int) (k : Int), vs = [.ref a, .int k] ∧ SqL K H a (ns.map V.int) ∧ 0 ≤ k ∧ ∀ (p : Addr) (x y n : Int), H p = none → Q (.ref p) (upd H p (.lst [.int x, .int y, .int n]))
def spNext : Sp := fun vs H Q _ => ∃ (a : Addr) (m : Int), vs = [.ref a, .int m] ∧ Src H a ∧ 0 < m ∧ m  < 1606938044258990275541962092341162602522202993782792835301376 ∧ ∀ (r : Int) (H' : Hp), 0 ≤ r → r < m → Dr a H H' → Q (.int r) H'
section
variable {P : Program} {w : World} {K : PySem.W.Frag} {mg : Str → Option Value} {base : Heap}
abbrev sLCellAt : Stmt := topS 19
theorem scLCellAt : FnScope ["script", "k"] ["script", "k"] (defScope sLCellAt) := ⟨rfl, rfl, rfl, by decide +kernel, rfl, by decide +kernel, by decide +kernel⟩
set_option maxHeartbeats 2000000 in
theorem ok_LCellAt (D : DefAt K mg "_law_cell_at" sLCellAt ["script", "k"])  (T : Txt mg) : Cal P w K mg base "_law_cell_at" ["script", "k"] 1 (spCell K) := by
  refine D.cal scLCellAt (fun vs H Q E h => (by (obtain ⟨_, _, _, rfl, _⟩ := h); rfl)) (fun f cdv A outer s H vs Q E hr h => ?_)
  obtain ⟨a, ns, k, rfl, hS, h0, q⟩ := h
  refine ⟨_, pss_cons (ps_if (pt_cmpR op_lt (pv 1) (pe_callB call_len_seq (by rfl) T.len PySem.boot_len (pa_cons (pv 0) pa_nil)) (nomark _))
        (pss_one (ps_ret (pe_ix ix_list (pv 0) (pv 1) (fun _ _ => rfl))))
        pss_nil)
      (pss_one (ps_ret pe_int)), ?_⟩
  refine ⟨_, rfl, .ref a, rfl, a, _, rfl, .inl hS, _, _, rfl, rfl, _, rfl, ite2 (fun e => ?_) (fun e => ?_)⟩
  · have e1 : k < ((ns.map V.int).length : Int) := of_decide_eq_true e
    rw [List.length_map] at e1
    have hk : k.toNat < ns.length := by omega
    refine ⟨.ref a, rfl, _, rfl, a, _, k, .int (ns[k.toNat]), rfl, rfl, hS, at_of (j := k.toNat) (by omega) ?_, ?_⟩
    · rw [List.getElem?_map, List.getElem?_eq_getElem hk]
      rfl
    · exact q _
  · exact q _
abbrev sLMixed : Stmt := topS 20
theorem scLMixed : FnScope ["cell", "k", "low"] ["cell", "k"] (defScope sLMixed) := ⟨rfl, rfl, rfl, by decide +kernel, rfl, by decide +kernel, by decide +kernel⟩
set_option maxHeartbeats 2000000 in
theorem ok_LMixed (D : DefAt K mg "_law_mixed" sLMixed ["cell", "k"])  (T : Txt mg) : Cal P w K mg base "_law_mixed" ["cell", "k"] 1 (spMixed) := by
  refine D.cal scLMixed (fun vs H Q E h => (by (obtain ⟨_, _, rfl, _⟩ := h); rfl)) (fun f cdv A outer s H vs Q E hr h => ?_)
  obtain ⟨c, k, rfl, q⟩ := h
  refine ⟨_, pss_cons (ps_set (i := 2) scLMixed.nd rfl (Or.inl rfl) (pe_op op_add (pe_op op_mod (pe_callTy call_int1 (by rfl) T.int (by decide +kernel) (pa_cons (pv 0) pa_nil)) pe_int) (pe_op op_mulE (pe_op op_fdivW (pv 0) pe_int) pe_int)))
      (pss_cons (ps_set (i := 2) scLMixed.nd rfl (Or.inl rfl) (pe_op op_mod (pe_callTy call_int1 (by rfl) T.int (by decide +kernel) (pa_cons (pe_op op_mulE (pe_op op_add (pe_op op_add (pv 2) (pe_op op_mulE pe_int (pv 1))) pe_int) pe_int) pa_nil)) pe_int))
      (pss_cons (ps_set (i := 2) scLMixed.nd rfl (Or.inl rfl) (pe_op op_mod (pe_callTy call_int1 (by rfl) T.int (by decide +kernel) (pa_cons (pe_op op_mulE (pv 2) (pe_op op_add (pe_op op_add (pe_op op_fdivW (pv 2) pe_int) pe_int) (pv 1))) pa_nil)) pe_int))
      (pss_one (ps_ret (pe_op op_mod (pe_callTy call_int1 (by rfl) T.int (by decide +kernel) (pa_cons (pe_op op_mulE (pv 2) (pe_op op_add (pe_op op_fdivW (pv 2) pe_int) pe_int)) pa_nil)) pe_int))))), ?_⟩
  walk_at "go"
  exact q _ (Int.emod_nonneg _ (by decide)) (Int.emod_lt_of_pos _ (by decide))
abbrev sLSource : Stmt := topS 21
theorem scLSource : FnScope ["script", "k", "cell"] ["script", "k"] (defScope sLSource) := ⟨rfl, rfl, rfl, by decide +kernel, rfl, by decide +kernel, by decide +kernel⟩
set_option maxHeartbeats 2000000 in
theorem ok_LSource (D : DefAt K mg "_law_source" sLSource ["script", "k"]) (CLMixed : Cal P w K mg base "_law_mixed" ["cell", "k"] 1 (spMixed)) (CLCellAt : Cal P w K mg base "_law_cell_at" ["script", "k"] 1 (spCell K)) (T : Txt mg) : Cal P w K mg base "_law_source" ["script", "k"] 2 (spSource K) := by
  refine D.cal scLSource (fun vs H Q E h => (by (obtain ⟨_, _, _, rfl, _⟩ := h); rfl)) (fun f cdv A outer s H vs Q E hr h => ?_)
  obtain ⟨a, ns, k, rfl, hS, h0, q⟩ := h
  refine ⟨_, pss_cons (ps_if (pt_cmpR op_lt (pv 1) (pe_callB call_len_seq (by rfl) T.len PySem.boot_len (pa_cons (pv 0) pa_nil)) (nomark _))
        (pss_one (ps_ret (pe_lst (pa_cons (pe_ix ix_list (pv 0) (pv 1) (fun _ _ => rfl)) (pa_cons (pe_ix ix_list (pv 0) (pv 1) (fun _ _ => rfl)) (pa_cons pe_int pa_nil))))))
        pss_nil)
      (pss_cons (ps_set (i := 2) scLSource.nd rfl (Or.inl rfl) (pe_cal CLMixed hr (by rfl) (pa_cons (pe_cal CLCellAt hr (by rfl) (pa_cons (pv 0) (pa_cons pe_int pa_nil))) (pa_cons (pe_op op_add pe_int (pv 1)) pa_nil))))
      (pss_one (ps_ret (pe_lst (pa_cons (pv 2) (pa_cons (pv 2) (pa_cons pe_int pa_nil))))))), ?_⟩
  walk_at "go"
  refine ite2 (fun e => ?_) (fun e => ?_)
  · have e1 : k < ((ns.map V.int).length : Int) := of_decide_eq_true e
    rw [List.length_map] at e1
    have hk : k.toNat < ns.length := by omega
    have hv : (ns.map V.int)[k.toNat]? = some (.int (ns[k.toNat])) := by
      rw [List.getElem?_map, List.getElem?_eq_getElem hk]
      rfl
    have ek : k = (k.toNat : Int) := by omega
    refine ⟨.ref a, rfl, _, rfl, a, _, k, .int (ns[k.toNat]), rfl, rfl, hS, at_of ek hv, ?_⟩
    refine ⟨.ref a, rfl, _, rfl, a, _, k, .int (ns[k.toNat]), rfl, rfl, hS, at_of ek hv, ?_⟩
    walk_at "go"
    intro p hp
    exact q p _ _ _ hp
  · refine ⟨_, rfl, a, ns, 0, rfl, hS, by omega, fun c => ?_⟩
    walk_at "go"
    intro r r0 r1
    walk_at "go"
    intro p hp
    exact q p _ _ _ hp
abbrev sLNext : Stmt := topS 22
theorem scLNext : FnScope ["source", "many", "found"] ["source", "many"] (defScope sLNext) := ⟨rfl, rfl, rfl, by decide +kernel, rfl, by decide +kernel, by decide +kernel⟩
set_option maxHeartbeats 2000000 in
theorem ok_LNext (D : DefAt K mg "_law_next" sLNext ["source", "many"]) (CLMixed : Cal P w K mg base "_law_mixed" ["cell", "k"] 1 (spMixed)) (T : Txt mg) : Cal P w K mg base "_law_next" ["source", "many"] 2 (spNext) := by
  refine D.cal scLNext (fun vs H Q E h => (by (obtain ⟨_, _, rfl, _⟩ := h); rfl)) (fun f cdv A outer s H vs Q E hr h => ?_)
  obtain ⟨a, m, rfl, ⟨x, y, n, hS⟩, h0, h1, q⟩ := h
  refine ⟨_, pss_cons (ps_if (pt_cmpR op_ge (pe_ix ix_list (pv 0) pe_int (fun _ _ => rfl)) (pe_op op_powE pe_int pe_int) (nomark _))
        (pss_cons (ps_set (i := 2) scLNext.nd rfl (Or.inl rfl) (pe_op op_mod (pe_callTy call_int1 (by rfl) T.int (by decide +kernel) (pa_cons (pe_ix ix_list (pv 0) pe_int (fun _ _ => rfl)) pa_nil)) (pv 1)))
        (pss_cons (ps_asg (pe_op op_fdivW (pe_ix ix_list (pv 0) pe_int (fun _ _ => rfl)) (pv 1)) (pg_sub (pv 0) pe_int set_list))
        (pss_one (ps_ret (pv 2)))))
        pss_nil)
      (pss_cons (ps_asg (pe_op op_add (pe_ix ix_list (pv 0) pe_int (fun _ _ => rfl)) pe_int) (pg_sub (pv 0) pe_int set_list))
      (pss_one (ps_ret (pe_op op_mod (pe_callTy call_int1 (by rfl) T.int (by decide +kernel) (pa_cons (pe_cal CLMixed hr (by rfl) (pa_cons (pe_ix ix_list (pv 0) pe_int (fun _ _ => rfl)) (pa_cons (pe_ix ix_list (pv 0) pe_int (fun _ _ => rfl)) pa_nil))) pa_nil)) (pv 1))))), ?_⟩
  walk_at "go"
  refine ite2 (fun e => ?_) (fun e => ?_)
  · walk_at "go"
    refine q _ _ (Int.emod_nonneg _ (by omega)) (Int.emod_lt_of_pos _ h0) ⟨⟨_, _, _, upd_same⟩, sb_upd⟩
  · walk_at "go"
    intro r r0 r1
    walk_at "go"
    exact q _ _ (Int.emod_nonneg _ (by omega)) (Int.emod_lt_of_pos _ h0) ⟨⟨_, _, _, upd_same⟩, sb_upd⟩

def spShift : Sp := fun vs H Q _ => ∃ (x : Int), vs = [.int x] ∧ 0 ≤ x ∧ x ≤ 64 ∧ Q .non H
def spWidth : Sp := fun vs H Q _ => ∃ (x : Int), vs = [.int x] ∧ 1 ≤ x ∧ x ≤ 64 ∧ Q .non H
def spWithin : Sp := fun vs H Q _ => ∃ (x l g : Int), vs = [.int x, .int l, .int g] ∧ Q (.bl (decide (l ≤ x ∧ x ≤ g))) H
def spAtLeast : Sp := fun vs H Q _ => ∃ (x l : Int), vs = [.int x, .int l] ∧ Q (.bl (decide (l ≤ x))) H
def spIsInt : Sp := fun vs H Q _ => ∃ (x : Int), vs = [.int x] ∧ Q (.bl true) H
def spNat : Sp := fun vs H Q _ => ∃ (x : Int), vs = [.int x] ∧ 0 ≤ x ∧ Q .non H

/-- a rate stands at p -/
structure Rate (H : Hp) (p : Addr) (m s : Int) : Prop where
  at_ : H p = some (.tup [.int m, .int s])
  m0 : 1 ≤ m
  m1 : m ≤ 18446744073709551615
  s0 : 0 ≤ s
  s1 : s ≤ 64
def spRate : Sp := fun vs H Q _ => ∃ (p : Addr) (m s : Int), vs = [.ref p] ∧ Rate H p m s ∧ Q .non H
theorem shl_one {s : Int} (h0 : 0 ≤ s) (h1 : s ≤ 64) : (2 : Int) ^ s.toNat ≤ 18446744073709551616 := by
  have h : s.toNat ≤ 64 := by omega
  have := Nat.pow_le_pow_right (n := 2) (by decide) h
  rw [← PySem.W.kbt_cast]
  omega
theorem shl_two {s : Int} (h0 : 0 ≤ s) (h1 : s ≤ 66) : (2 : Int) ^ s.toNat ≤ 73786976294838206464 := by
  have h : s.toNat ≤ 66 := by omega
  have := Nat.pow_le_pow_right (n := 2) (by decide) h
  rw [← PySem.W.kbt_cast]
  omega
/-! the greatest number below n that passes -/
def lastF (p : Nat → Bool) : Nat → Option Nat
  | 0 => none
  | n + 1 => if p n = true then some n else lastF p n
theorem lastF_some {p : Nat → Bool} {t : Nat} (h : p t = true) : ∀ n, t < n → (∀ k, t < k → k < n → p k = false) → lastF p n = some t
  | 0, h0, _ => absurd h0 (by omega)
  | n + 1, h0, hn => by
    unfold lastF
    by_cases e : t = n
    · subst e
      rw [if_pos h]
    · rw [hn n (by omega) (by omega), if_neg (by decide)]
      exact lastF_some h n (by omega) (fun k h1 h2 => hn k h1 (by omega))
theorem lastF_none {p : Nat → Bool} : ∀ n, (∀ k, k < n → p k = false) → lastF p n = none
  | 0, _ => rfl
  | n + 1, hn => by
    unfold lastF
    rw [hn n (by omega), if_neg (by decide)]
    exact lastF_none n (fun k h1 => hn k (by omega))
def multF (h u : Int) (t : Nat) : Int := u * 2 ^ t / h
def fits (h u f : Int) (t : Nat) : Bool := decide (1 ≤ multF h u t ∧ multF h u t * f < 18446744073709551616)
/-- None, or a new tuple (mult, shift) -/
def Best (h u : Int) (H : Hp) : V → Option Nat → Prop
  | v, none => v = .non
  | v, some t => ∃ a, v = .ref a ∧ H a = some (.tup [.int (multF h u t), .int (t : Int)])
theorem Best.same {h u : Int} {H H' : Hp} {v : V} (s : Same H H') : ∀ {o : Option Nat}, Best h u H v o → Best h u H' v o
  | none, b => b
  | some t, b => by
    obtain ⟨a, e, h1⟩ := b
    exact ⟨a, e, s _ _ h1⟩
def bestD (h u : Int) : Option Nat → PyData
  | none => .none
  | some t => .tuple [.int (multF h u t), .int (t : Int)]
theorem Best.dp {K : PySem.W.Frag} {h u : Int} {H : Hp} {v : V} : ∀ {o : Option Nat}, Best h u H v o → Dp K H v (bestD h u o)
  | none, b => by
    have e : v = .non := b
    subst e
    exact .non
  | some t, b => by
    obtain ⟨a, e, h1⟩ := b
    subst e
    exact .tup (SqT.of h1) (.cons (.int _) (.cons (.int _) .nil))
theorem best_shaped (h u : Int) : ∀ o, SeqAt.shaped (bestD h u o) = true
  | none => rfl
  | some t => by simp [SeqAt.shaped, bestD, PyData.canLay0, PyData.canLayAll0, PyData.depth, PyData.depthAll]
theorem best_same (h u : Int) : ∀ o, PyData.eqv (bestD h u o) (bestD h u o) = true
  | none => rfl
  | some t => by simp [bestD, PyData.eqv, PyData.eqvAll]
def spBest : Sp := fun vs H Q _ => ∃ (h u f : Int), vs = [.int h, .int u, .int f] ∧ 1 ≤ h ∧ h < 1298074214633706907132624082305024 ∧ 1 ≤ u ∧ u < 1298074214633706907132624082305024 ∧ 1 ≤ f ∧ f < 1298074214633706907132624082305024 ∧
  ∀ (v : V) (H' : Hp), Same H H' → Best h u H' v (lastF (fits h u f) 33) → Q v H'
def spSpan : Sp := fun vs H Q _ => ∃ (w : Int) (p : Addr) (m s : Int), vs = [.int w, .ref p] ∧ 1 ≤ w ∧ w ≤ 64 ∧ Rate H p m s ∧ Q (.int (if 18446744073709551615 / m < 2 ^ w.toNat - 1 then 18446744073709551615 / m else 2 ^ w.toNat - 1)) H
def spPace : Sp := fun vs H Q _ => ∃ (a : Addr), vs = [.ref a] ∧ Src H a ∧ ∀ (p : Addr) (m s : Int) (H' : Hp), Dr a H H' → H p = none → Rate H' p m s → Q (.ref p) H'
def spSize : Sp := fun vs H Q _ => ∃ (a : Addr), vs = [.ref a] ∧ Src H a ∧ ∀ (r : Int) (H' : Hp), Dr a H H' → 1 ≤ r → r ≤ 1180591620717411303424 → Q (.int r) H'
def spRight : Sp := fun vs H Q _ => ∃ (a : Addr), vs = [.ref a] ∧ Src H a ∧ ∀ (H' : Hp), Dr a H H' → Q (.bl true) H'
abbrev sIsInteger : Stmt := topS 8
theorem scIsInteger : FnScope ["thing"] ["thing"] (defScope sIsInteger) := ⟨rfl, rfl, rfl, by decide +kernel, rfl, by decide +kernel, by decide +kernel⟩
set_option maxHeartbeats 2000000 in
theorem ok_IsInteger (D : DefAt K mg "is_integer" sIsInteger ["thing"])  (T : Txt mg) : Cal P w K mg base "is_integer" ["thing"] 1 (spIsInt) := by
  refine D.cal scIsInteger (fun vs H Q E h => (by (obtain ⟨_, rfl, _⟩ := h); rfl)) (fun f cdv A outer s H vs Q E hr h => ?_)
  obtain ⟨x, rfl, q⟩ := h
  refine ⟨_, pss_one (ps_ret (pe_and (pe_callB call_isi (by rfl) T.isinstance (by decide +kernel) (pa_cons (pv 0) (pa_cons (pe_bltn (v := .ty "int") (u := .type "int") (by rfl) T.int (by decide +kernel) rfl) pa_nil))) (pe_one (pe_not (pe_callB call_isi (by rfl) T.isinstance (by decide +kernel) (pa_cons (pv 0) (pa_cons (pe_bltn (v := .ty "bool") (u := .type "bool") (by rfl) T.bool (by decide +kernel) rfl) pa_nil))))))), ?_⟩
  walk_at "go"
  exact q
abbrev sIsWithin : Stmt := topS 9
theorem scIsWithin : FnScope ["thing", "least", "greatest"] ["thing", "least", "greatest"] (defScope sIsWithin) := ⟨rfl, rfl, rfl, by decide +kernel, rfl, by decide +kernel, by decide +kernel⟩
set_option maxHeartbeats 2000000 in
theorem ok_IsWithin (D : DefAt K mg "is_within" sIsWithin ["thing", "least", "greatest"]) (CIsInteger : Cal P w K mg base "is_integer" ["thing"] 1 (spIsInt)) (T : Txt mg) : Cal P w K mg base "is_within" ["thing", "least", "greatest"] 2 (spWithin) := by
  refine D.cal scIsWithin (fun vs H Q E h => (by (obtain ⟨_, _, _, rfl, _⟩ := h); rfl)) (fun f cdv A outer s H vs Q E hr h => ?_)
  obtain ⟨x, l, g, rfl, q⟩ := h
  refine ⟨_, pss_one (ps_ret (pe_and (pe_cal CIsInteger hr (by rfl) (pa_cons (pv 0) pa_nil)) (pe_one (pe_chain op_le op_le (pv 1) (pv 0) (pv 2))))), ?_⟩
  walk_at "go"
  refine ite2 (fun e => ?_) (fun e => ?_)
  · walk_at "go"
    have e1 : l ≤ x := of_decide_eq_true e
    have e2 : (decide (l ≤ x ∧ x ≤ g)) = decide (x ≤ g) := by
      by_cases h : x ≤ g <;> simp [e1, h]
    rw [e2] at q
    exact q
  · have e1 : ¬ l ≤ x := fun h => e (decide_eq_true h)
    rw [decide_eq_false (fun h => e1 h.1)] at q
    exact q
abbrev sIsAtLeast : Stmt := topS 10
theorem scIsAtLeast : FnScope ["thing", "least"] ["thing", "least"] (defScope sIsAtLeast) := ⟨rfl, rfl, rfl, by decide +kernel, rfl, by decide +kernel, by decide +kernel⟩
set_option maxHeartbeats 2000000 in
theorem ok_IsAtLeast (D : DefAt K mg "is_at_least" sIsAtLeast ["thing", "least"]) (CIsInteger : Cal P w K mg base "is_integer" ["thing"] 1 (spIsInt)) (T : Txt mg) : Cal P w K mg base "is_at_least" ["thing", "least"] 2 (spAtLeast) := by
  refine D.cal scIsAtLeast (fun vs H Q E h => (by (obtain ⟨_, _, rfl, _⟩ := h); rfl)) (fun f cdv A outer s H vs Q E hr h => ?_)
  obtain ⟨x, l, rfl, q⟩ := h
  refine ⟨_, pss_one (ps_ret (pe_and (pe_cal CIsInteger hr (by rfl) (pa_cons (pv 0) pa_nil)) (pe_one (pe_cmpR op_ge (pv 0) (pv 1) (nomark _))))), ?_⟩
  walk_at "go"
  exact q
abbrev sCheckWidth : Stmt := topS 11
theorem scCheckWidth : FnScope ["width"] ["width"] (defScope sCheckWidth) := ⟨rfl, rfl, rfl, by decide +kernel, rfl, by decide +kernel, by decide +kernel⟩
set_option maxHeartbeats 2000000 in
theorem ok_CheckWidth (D : DefAt K mg "check_width" sCheckWidth ["width"]) (CIsWithin : Cal P w K mg base "is_within" ["thing", "least", "greatest"] 2 (spWithin)) (T : Txt mg) : Cal P w K mg base "check_width" ["width"] 3 (spWidth) := by
  refine D.cal scCheckWidth (fun vs H Q E h => (by (obtain ⟨_, rfl, _⟩ := h); rfl)) (fun f cdv A outer s H vs Q E hr h => ?_)
  obtain ⟨x, rfl, h0, h1, q⟩ := h
  refine ⟨_, pss_one (ps_if (pt_not (pt_val (pe_cal CIsWithin hr (by rfl) (pa_cons (pv 0) (pa_cons pe_int (pa_cons (pe_gint (by rfl) T.mgMOST_WIDTH) pa_nil))))))
        (pss_one ps_never)
        pss_nil), ?_⟩
  walk_at "go"
  exact q
abbrev sCheckShift : Stmt := topS 12
theorem scCheckShift : FnScope ["shift"] ["shift"] (defScope sCheckShift) := ⟨rfl, rfl, rfl, by decide +kernel, rfl, by decide +kernel, by decide +kernel⟩
set_option maxHeartbeats 2000000 in
theorem ok_CheckShift (D : DefAt K mg "check_shift" sCheckShift ["shift"]) (CIsWithin : Cal P w K mg base "is_within" ["thing", "least", "greatest"] 2 (spWithin)) (T : Txt mg) : Cal P w K mg base "check_shift" ["shift"] 3 (spShift) := by
  refine D.cal scCheckShift (fun vs H Q E h => (by (obtain ⟨_, rfl, _⟩ := h); rfl)) (fun f cdv A outer s H vs Q E hr h => ?_)
  obtain ⟨x, rfl, h0, h1, q⟩ := h
  refine ⟨_, pss_one (ps_if (pt_not (pt_val (pe_cal CIsWithin hr (by rfl) (pa_cons (pv 0) (pa_cons pe_int (pa_cons (pe_gint (by rfl) T.mgMOST_SHIFT) pa_nil))))))
        (pss_one ps_never)
        pss_nil), ?_⟩
  walk_at "go"
  exact q
abbrev sCheckRate : Stmt := topS 13
theorem scCheckRate : FnScope ["rate"] ["rate"] (defScope sCheckRate) := ⟨rfl, rfl, rfl, by decide +kernel, rfl, by decide +kernel, by decide +kernel⟩
set_option maxHeartbeats 2000000 in
theorem ok_CheckRate (D : DefAt K mg "check_rate" sCheckRate ["rate"]) (CCheckShift : Cal P w K mg base "check_shift" ["shift"] 3 (spShift)) (CIsWithin : Cal P w K mg base "is_within" ["thing", "least", "greatest"] 2 (spWithin)) (T : Txt mg) : Cal P w K mg base "check_rate" ["rate"] 4 (spRate) := by
  refine D.cal scCheckRate (fun vs H Q E h => (by (obtain ⟨_, _, _, rfl, _⟩ := h); rfl)) (fun f cdv A outer s H vs Q E hr h => ?_)
  obtain ⟨p, m, s, rfl, ⟨hR, m0, m1, s0, s1⟩, q⟩ := h
  refine ⟨_, pss_cons (ps_if (PW.pt (pw_or (pt_not (pt_val (pe_callB call_isi (by rfl) T.isinstance (by decide +kernel) (pa_cons (pv 0) (pa_cons (pe_bltn (v := .ty "tuple") (u := .type "tuple") (by rfl) T.tuple (by decide +kernel) rfl) pa_nil))))) (pw_or1 (pt_cmpR op_ne (pe_callB call_len_seq (by rfl) T.len PySem.boot_len (pa_cons (pv 0) pa_nil)) pe_int (nomark _)))))
        (pss_one ps_never)
        pss_nil)
      (pss_cons (ps_if (pt_not (pt_val (pe_cal CIsWithin hr (by rfl) (pa_cons (pe_ix ix_tup (pv 0) pe_int (fun _ _ => rfl)) (pa_cons pe_int (pa_cons (pe_gint (by rfl) T.mgMOST_MULT) pa_nil))))))
        (pss_one ps_never)
        pss_nil)
      (pss_one (ps_expr (pe_cal CCheckShift hr (by rfl) (pa_cons (pe_ix ix_tup (pv 0) pe_int (fun _ _ => rfl)) pa_nil))))), ?_⟩
  walk_at "go"
  exact q
local macro_rules | `(tactic| walk_at "go1") => `(tactic| refine ⟨_, _, _, rfl, ⟨by walk_at "has", by omega, by omega, by omega, by omega⟩, ?_⟩)
local macro_rules | `(tactic| walk_at "go1") => `(tactic| refine ⟨_, _, _, rfl, ⟨by walk_at "has", by omega, by omega, by omega, by omega⟩, ?_⟩)
abbrev sLongestSpan : Stmt := topS 17
theorem scLongestSpan : FnScope ["width", "rate"] ["width", "rate"] (defScope sLongestSpan) := ⟨rfl, rfl, rfl, by decide +kernel, rfl, by decide +kernel, by decide +kernel⟩
set_option maxHeartbeats 2000000 in
theorem ok_LongestSpan (D : DefAt K mg "longest_span" sLongestSpan ["width", "rate"]) (CCheckWidth : Cal P w K mg base "check_width" ["width"] 3 (spWidth)) (CCheckRate : Cal P w K mg base "check_rate" ["rate"] 4 (spRate)) (T : Txt mg) : Cal P w K mg base "longest_span" ["width", "rate"] 5 (spSpan) := by
  refine D.cal scLongestSpan (fun vs H Q E h => (by (obtain ⟨_, _, _, _, rfl, _⟩ := h); rfl)) (fun f cdv A outer s H vs Q E hr h => ?_)
  obtain ⟨w, p, m, s, rfl, w0, w1, ⟨hR, m0, m1, s0, s1⟩, q⟩ := h
  refine ⟨_, pss_cons (ps_expr (pe_cal CCheckWidth hr (by rfl) (pa_cons (pv 0) pa_nil)))
      (pss_cons (ps_expr (pe_cal CCheckRate hr (by rfl) (pa_cons (pv 1) pa_nil)))
      (pss_one (ps_ret (pe_callB (call_min2 rfl) (by rfl) T.min (by decide +kernel) (pa_cons (pe_op op_sub (pe_op op_shlE pe_int (pv 0)) pe_int) (pa_cons (pe_op op_fdivW (pe_gint (by rfl) T.mgMOST_MULT) (pe_ix ix_tup (pv 1) pe_int (fun _ _ => rfl))) pa_nil)))))), ?_⟩
  walk_at "go"
  exact q
abbrev sBestRate : Stmt := topS 16
theorem scBestRate : FnScope ["frequency", "units", "most", "number", "shift", "mult"] ["frequency", "units", "most"] (defScope sBestRate) := ⟨rfl, rfl, rfl, by decide +kernel, rfl, by decide +kernel, by decide +kernel⟩
set_option maxHeartbeats 2000000 in
theorem ok_BestRate (D : DefAt K mg "best_rate" sBestRate ["frequency", "units", "most"]) (CIsAtLeast : Cal P w K mg base "is_at_least" ["thing", "least"] 2 (spAtLeast)) (T : Txt mg) : Cal P w K mg base "best_rate" ["frequency", "units", "most"] 3 (spBest) := by
  refine D.cal scBestRate (fun vs H Q E h => (by (obtain ⟨_, _, _, rfl, _⟩ := h); rfl)) (fun f cdv A outer s H vs Q E hr h => ?_)
  obtain ⟨h, u, f, rfl, h0, h1, u0, u1, f0, f1, q⟩ := h
  refine ⟨_, pss_cons (ps_for PassesOwn.never rfl (pi_tup (pe_tup (pa_cons (pv 0) (pa_cons (pv 1) (pa_cons (pv 2) pa_nil))))) (pg_name (i := 3) scBestRate.nd rfl (Or.inl rfl))
        (pss_one (ps_if (pt_not (pt_val (pe_cal CIsAtLeast hr (by rfl) (pa_cons (pv 3) (pa_cons pe_int pa_nil)))))
          (pss_one ps_never)
          pss_nil)))
      (pss_cons (ps_for PassesOwn.never rfl (pi_revR (by rfl) T.reversed (prg_1 (by rfl) T.range (pe_op op_add (pe_gint (by rfl) T.mgGREATEST_BEST_SHIFT) pe_int))) (pg_name (i := 4) scBestRate.nd rfl (Or.inl rfl))
        (pss_cons (ps_set (i := 5) scBestRate.nd rfl (Or.inl rfl) (pe_op op_fdivW (pe_op op_shlE (pv 1) (pv 4)) (pv 0)))
        (pss_one (ps_if (PW.pt (pw_and (pt_cmpR op_ge (pv 5) pe_int (nomark _)) (pw_and1 (pt_cmpR op_le (pe_op op_mulE (pv 5) (pv 2)) (pe_gint (by rfl) T.mgMOST_MULT) (nomark _)))))
          (pss_one (ps_ret (pe_tup (pa_cons (pv 5) (pa_cons (pv 4) pa_nil)))))
          pss_nil))))
      (pss_one (ps_ret pe_non))), ?_⟩
  walk_at "go"
  intro p hp
  walk_at "go"
  refine ⟨⟨_, SqT.of upd_same⟩, ?_⟩
  refine for_tup (K := K) (a := p) (xs := [V.int h, V.int u, V.int f]) (fun i σ H' => ∃ v3 : Option V, σ = [some (.int h), some (.int u), some (.int f), v3, none, none] ∧ H' = upd H p (.tup [V.int h, V.int u, V.int f]))
    ⟨none, rfl, rfl⟩ (fun i σ H' _ ⟨v3, e, e2⟩ => by subst e2; exact SqT.of upd_same) (fun i x σ H' hx ⟨v3, e, e2⟩ => ?_) (fun σ H' ⟨v3, e, e2⟩ => ?_)
  · subst e e2
    have hall : AllI (fun i => 1 ≤ i) [V.int h, V.int u, V.int f] := .cons h0 (.cons u0 (.cons f0 .nil))
    obtain ⟨z, ez, z0⟩ := hall x (List.mem_of_getElem? hx)
    subst ez
    walk_at "go"
    rfl
  · subst e e2
    walk_at "go"
    refine for_rangeC (lo := 32) (c := -1) (n := 33) (fun i σ H' => ∃ v4 v5 : Option V, σ = [some (.int h), some (.int u), some (.int f), v3, v4, v5] ∧ H' = upd H p (.tup [V.int h, V.int u, V.int f]) ∧ ∀ k, 33 ≤ k + i → k < 33 → fits h u f k = false)
      ⟨_, _, rfl, rfl, fun k h1 h2 => absurd h1 (by omega)⟩ (fun i σ H' hi ⟨v4, v5, e, e2, hn⟩ => ?_) (fun σ H' ⟨v4, v5, e, e2, hn⟩ => ?_)
    · subst e e2
      have ez : (32 : Int) + (i : Int) * -1 = ((32 - i : Nat) : Int) := by omega
      rw [ez]
      have hz := pos_pow (32 - i)
      have et : (((32 - i : Nat) : Int)).toNat = 32 - i := Int.toNat_natCast _
      have hz1 : (2 : Int) ^ (32 - i) ≤ 4294967296 := by
        have := Nat.pow_le_pow_right (n := 2) (by decide) (show 32 - i ≤ 32 by omega)
        rw [← PySem.W.kbt_cast]
        omega
      walk_at "go"
      rw [et]
      have hm := mul_le (show 0 ≤ u by omega) (Int.le_of_lt u1) (Int.le_of_lt hz) hz1
      have hq := Int.ediv_nonneg hm.1 (show 0 ≤ h by omega)
      have hq1 := Int.ediv_le_self h hm.1
      have hm2 : multF h u (32 - i) = u * 2 ^ (32 - i) / h := rfl
      have next : fits h u f (32 - i) = false → ∀ k, 33 ≤ k + (i + 1) → k < 33 → fits h u f k = false := fun h1 k h2 h3 => by
        by_cases hk : k = 32 - i
        · rw [hk]
          exact h1
        · exact hn k (by omega) h3
      walk_at "go"
      refine ite2 (fun e1 => ?_) (fun e1 => ?_)
      · have e1 := of_decide_eq_true e1
        walk_at "go"
        refine ite2 (fun e2 => ?_) (fun e2 => ?_)
        · have e2 := of_decide_eq_true e2
          walk_at "go"
          intro t ht
          have hf : fits h u f (32 - i) = true := decide_eq_true ⟨by omega, by rw [hm2]; omega⟩
          refine q _ _ ((same_upd hp).trans (same_upd ht)) ?_
          rw [lastF_some hf 33 (by omega) (fun k h1 h2 => hn k (by omega) h2)]
          exact ⟨t, rfl, upd_same⟩
        · exact ⟨_, _, rfl, rfl, next (decide_eq_false (fun h2 => e2 (decide_eq_true (by rw [hm2] at h2; omega))))⟩
      · exact ⟨_, _, rfl, rfl, next (decide_eq_false (fun h2 => e1 (decide_eq_true (by rw [hm2] at h2; omega))))⟩
    · subst e e2
      walk_at "go"
      exact q _ _ (same_upd hp) (by rw [lastF_none 33 (fun k hk => hn k (by omega) hk)]; rfl)
abbrev sLBest : Stmt := topS 25
theorem scLBest : FnScope ["hertz", "some", "far", "found", "turn", "mult"] ["hertz", "some", "far"] (defScope sLBest) := ⟨rfl, rfl, rfl, by decide +kernel, rfl, by decide +kernel, by decide +kernel⟩
set_option maxHeartbeats 2000000 in
theorem ok_LBest (D : DefAt K mg "_law_best" sLBest ["hertz", "some", "far"])  (T : Txt mg) : Cal P w K mg base "_law_best" ["hertz", "some", "far"] 1 (spBest) := by
  refine D.cal scLBest (fun vs H Q E h => (by (obtain ⟨_, _, _, rfl, _⟩ := h); rfl)) (fun f cdv A outer s H vs Q E hr h => ?_)
  obtain ⟨h, u, f, rfl, h0, h1, u0, u1, f0, f1, q⟩ := h
  refine ⟨_, pss_cons (ps_set (i := 3) scLBest.nd rfl (Or.inl rfl) pe_non)
      (pss_cons (ps_for PassesOwn.never rfl (pi_range1 (by rfl) T.range (pa_cons pe_int pa_nil)) (pg_name (i := 4) scLBest.nd rfl (Or.inl rfl))
        (pss_cons (ps_set (i := 5) scLBest.nd rfl (Or.inl rfl) (pe_op op_fdivW (pe_op op_mulE (pv 1) (pe_op op_shlE pe_int (pv 4))) (pv 0)))
        (pss_one (ps_if (PW.pt (pw_and (pt_cmpR op_ge (pv 5) pe_int (nomark _)) (pw_and1 (pt_cmpR op_lt (pe_op op_mulE (pv 5) (pv 2)) (pe_op op_shlE pe_int pe_int) (nomark _)))))
          (pss_one (ps_set (i := 3) scLBest.nd rfl (Or.inl rfl) (pe_tup (pa_cons (pv 5) (pa_cons (pv 4) pa_nil)))))
          pss_nil))))
      (pss_one (ps_ret (pv 3)))), ?_⟩
  walk_at "go"
  refine for_range (lo := 0) (n := 33) (fun i σ H' => ∃ (v : V) (v4 v5 : Option V), σ = [some (.int h), some (.int u), some (.int f), some v, v4, v5] ∧ Same H H' ∧ Best h u H' v (lastF (fits h u f) i))
    ⟨_, _, _, rfl, Same.refl H, rfl⟩ (fun i σ H1 hi ⟨v, v4, v5, e, sm, hB⟩ => ?_) (fun σ H1 ⟨v, v4, v5, e, sm, hB⟩ => ?_)
  · subst e
    have hz := pos_pow i
    have et : (0 + (i : Int)).toNat = i := by omega
    have hz1 : (2 : Int) ^ i ≤ 4294967296 := by
      have := Nat.pow_le_pow_right (n := 2) (by decide) (show i ≤ 32 by omega)
      rw [← PySem.W.kbt_cast]
      omega
    walk_at "go"
    rw [et]
    have hm := mul_le (show 0 ≤ u by omega) (Int.le_of_lt u1) (Int.le_of_lt hz) hz1
    have hq := Int.ediv_nonneg hm.1 (show 0 ≤ h by omega)
    have hq1 := Int.ediv_le_self h hm.1
    have hm2 : multF h u i = u * 2 ^ i / h := rfl
    have skip : fits h u f i = false → lastF (fits h u f) (i + 1) = lastF (fits h u f) i := fun h1 => by
      show (if fits h u f i = true then some i else lastF (fits h u f) i) = _
      rw [h1, if_neg (by decide)]
    walk_at "go"
    refine ite2 (fun e1 => ?_) (fun e1 => ?_)
    · have e1 := of_decide_eq_true e1
      walk_at "go"
      refine ite2 (fun e2 => ?_) (fun e2 => ?_)
      · have e2 := of_decide_eq_true e2
        walk_at "go"
        intro t ht
        have hf : fits h u f i = true := decide_eq_true ⟨by omega, by rw [hm2]; omega⟩
        refine ⟨.ref t, _, _, rfl, sm.trans (same_upd ht), ?_⟩
        show Best h u _ _ (if fits h u f i = true then some i else lastF (fits h u f) i)
        rw [if_pos hf]
        refine ⟨t, rfl, ?_⟩
        rw [upd_same, show (0 : Int) + (i : Int) = (i : Int) by omega]
        rfl
      · exact ⟨_, _, _, rfl, sm, by rw [skip (decide_eq_false (fun h2 => e2 (decide_eq_true (by rw [hm2] at h2; omega))))]; exact hB⟩
    · exact ⟨_, _, _, rfl, sm, by rw [skip (decide_eq_false (fun h2 => e1 (decide_eq_true (by rw [hm2] at h2; omega))))]; exact hB⟩
  · subst e
    walk_at "go"
    exact q _ _ sm hB
local macro_rules | `(tactic| walk_at "go1") => `(tactic| refine ⟨_, _, _, rfl, ⟨by walk_at "has", by omega, by omega, by omega, by omega⟩, ?_⟩)
abbrev sLPace : Stmt := topS 23
theorem scLPace : FnScope ["source", "some", "mult"] ["source"] (defScope sLPace) := ⟨rfl, rfl, rfl, by decide +kernel, rfl, by decide +kernel, by decide +kernel⟩
set_option maxHeartbeats 2000000 in
theorem ok_LPace (D : DefAt K mg "_law_pace" sLPace ["source"]) (CLNext : Cal P w K mg base "_law_next" ["source", "many"] 2 (spNext)) (T : Txt mg) : Cal P w K mg base "_law_pace" ["source"] 3 (spPace) := by
  refine D.cal scLPace (fun vs H Q E h => (by (obtain ⟨_, rfl, _⟩ := h); rfl)) (fun f cdv A outer s H vs Q E hr h => ?_)
  obtain ⟨a, rfl, hS, q⟩ := h
  refine ⟨_, pss_cons (ps_set (i := 1) scLPace.nd rfl (Or.inl rfl) (pe_lst (pa_cons pe_int (pa_cons pe_int (pa_cons pe_int (pa_cons (pe_op op_sub (pe_op op_shlE pe_int pe_int) pe_int) (pa_cons (pe_op op_shlE pe_int pe_int) (pa_cons (pe_op op_add (pe_op op_shlE pe_int pe_int) pe_int) (pa_cons (pe_op op_powE pe_int pe_int) (pa_cons (pe_op op_add pe_int (pe_cal CLNext hr (by rfl) (pa_cons (pv 0) (pa_cons pe_int pa_nil)))) pa_nil))))))))))
      (pss_cons (ps_expr (pe_bm PySem.F.plainAttrs_list PySem.F.slot_list_append PySem.F.type_list_append mt_append (pv 1) (pa_cons (pe_op op_add pe_int (pe_op op_mulE (pe_cal CLNext hr (by rfl) (pa_cons (pv 0) (pa_cons (pe_op op_powE pe_int pe_int) pa_nil))) (pe_cal CLNext hr (by rfl) (pa_cons (pv 0) (pa_cons (pe_op op_powE pe_int pe_int) pa_nil))))) pa_nil)))
      (pss_cons (ps_set (i := 2) scLPace.nd rfl (Or.inl rfl) (pe_ix ix_list (pv 1) (pe_cal CLNext hr (by rfl) (pa_cons (pv 0) (pa_cons (pe_callB call_len_seq (by rfl) T.len PySem.boot_len (pa_cons (pv 1) pa_nil)) pa_nil))) (fun _ _ => rfl)))
      (pss_one (ps_ret (pe_tup (pa_cons (pv 2) (pa_cons (pe_ix ix_list (pe_lst (pa_cons pe_int (pa_cons pe_int (pa_cons pe_int (pa_cons pe_int (pa_cons pe_int (pa_cons pe_int (pa_cons (pe_cal CLNext hr (by rfl) (pa_cons (pv 0) (pa_cons pe_int pa_nil))) pa_nil)))))))) (pe_cal CLNext hr (by rfl) (pa_cons (pv 0) (pa_cons pe_int pa_nil))) (fun _ _ => rfl)) pa_nil))))))), ?_⟩
  walk_at "go"
  intro r1 H1 a1 b1 D1
  walk_at "go"
  intro p hp
  have np : p ≠ a := D1.src.ne hp
  walk_at "go"
  intro r2 H2 a2 b2 D2
  walk_at "go"
  intro r3 H3 a3 b3 D3
  walk_at "go"
  intro r4 H4 a4 b4 D4
  have E4 := (((D1.new hp).trans (D2.trans D3)).set (D1.free hp) np).trans D4
  have hm := mul_le (b := 999999999) (a := 999999999) a2 (by omega) a3 (by omega)
  have hall : AllI (fun i => 1 ≤ i ∧ i ≤ 18446744073709551615) ([V.int 1, V.int 2, V.int 3, V.int (18446744073709551616 - 1), V.int 9223372036854775808, V.int (9223372036854775808 + 1), V.int 1000000000, V.int (1 + r1)] ++ [V.int (1 + r2 * r3)]) :=
    .cons ⟨by omega, by omega⟩ (.cons ⟨by omega, by omega⟩ (.cons ⟨by omega, by omega⟩ (.cons ⟨by omega, by omega⟩ (.cons ⟨by omega, by omega⟩ (.cons ⟨by omega, by omega⟩ (.cons ⟨by omega, by omega⟩ (.cons ⟨by omega, by omega⟩ (.cons ⟨by omega, by omega⟩ .nil))))))))
  obtain ⟨mm, em, m0, m1⟩ := hall.pick a4 b4
  refine ⟨_, _, _, _, rfl, rfl, SqL.of (D4.at np upd_same), em, ?_⟩
  walk_at "go"
  intro r5 H5 a5 b5 D5
  walk_at "go"
  intro p6 hp6
  have np6 : p6 ≠ a := D5.src.ne hp6
  walk_at "go"
  intro r7 H7 a7 b7 D7
  have hall2 : AllI (fun i => 0 ≤ i ∧ i ≤ 64) [V.int 0, V.int 1, V.int 2, V.int 32, V.int 63, V.int 64, V.int r5] :=
    .cons ⟨by omega, by omega⟩ (.cons ⟨by omega, by omega⟩ (.cons ⟨by omega, by omega⟩ (.cons ⟨by omega, by omega⟩ (.cons ⟨by omega, by omega⟩ (.cons ⟨by omega, by omega⟩ (.cons ⟨by omega, by omega⟩ .nil))))))
  obtain ⟨ss, es, s0, s1⟩ := hall2.pick a7 b7
  refine ⟨_, _, _, _, rfl, rfl, SqL.of (D7.at np6 upd_same), es, ?_⟩
  walk_at "go"
  intro p8 hp8
  have E7 := ((E4.trans D5).new hp6).trans D7
  exact q p8 mm ss _ (E7.new hp8) (E7.free hp8) ⟨upd_same, m0, m1, s0, s1⟩

abbrev sLSize : Stmt := topS 24
theorem scLSize : FnScope ["source", "near", "some"] ["source"] (defScope sLSize) := ⟨rfl, rfl, rfl, by decide +kernel, rfl, by decide +kernel, by decide +kernel⟩
set_option maxHeartbeats 2000000 in
theorem ok_LSize (D : DefAt K mg "_law_size" sLSize ["source"]) (CLNext : Cal P w K mg base "_law_next" ["source", "many"] 2 (spNext)) (T : Txt mg) : Cal P w K mg base "_law_size" ["source"] 3 (spSize) := by
  refine D.cal scLSize (fun vs H Q E h => (by (obtain ⟨_, rfl, _⟩ := h); rfl)) (fun f cdv A outer s H vs Q E hr h => ?_)
  obtain ⟨a, rfl, hS, q⟩ := h
  refine ⟨_, pss_cons (ps_set (i := 1) scLSize.nd rfl (Or.inl rfl) (pe_op op_shlE pe_int (pe_cal CLNext hr (by rfl) (pa_cons (pv 0) (pa_cons pe_int pa_nil)))))
      (pss_cons (ps_set (i := 2) scLSize.nd rfl (Or.inl rfl) (pe_lst (pa_cons pe_int (pa_cons (pe_op op_add pe_int (pe_cal CLNext hr (by rfl) (pa_cons (pv 0) (pa_cons pe_int pa_nil)))) (pa_cons pe_int (pa_cons (pe_op op_powE pe_int pe_int) (pa_cons pe_int (pa_cons (pv 1) (pa_cons (pe_op op_add (pv 1) pe_int) (pa_cons (pe_callB (call_max2 rfl) (by rfl) T.max (by decide +kernel) (pa_cons pe_int (pa_cons (pe_op op_sub (pv 1) pe_int) pa_nil))) pa_nil))))))))))
      (pss_cons (ps_expr (pe_bm PySem.F.plainAttrs_list PySem.F.slot_list_append PySem.F.type_list_append mt_append (pv 2) (pa_cons (pe_op op_add pe_int (pe_op op_mulE (pe_op op_mulE (pe_cal CLNext hr (by rfl) (pa_cons (pv 0) (pa_cons (pe_op op_powE pe_int pe_int) pa_nil))) (pe_cal CLNext hr (by rfl) (pa_cons (pv 0) (pa_cons (pe_op op_powE pe_int pe_int) pa_nil)))) (pe_op op_add pe_int (pe_cal CLNext hr (by rfl) (pa_cons (pv 0) (pa_cons pe_int pa_nil)))))) pa_nil)))
      (pss_one (ps_ret (pe_ix ix_list (pv 2) (pe_cal CLNext hr (by rfl) (pa_cons (pv 0) (pa_cons (pe_callB call_len_seq (by rfl) T.len PySem.boot_len (pa_cons (pv 2) pa_nil)) pa_nil))) (fun _ _ => rfl)))))), ?_⟩
  walk_at "go"
  intro r1 H1 a1 b1 D1
  have hz := pos_pow r1.toNat
  have hz1 := shl_two a1 (by omega)
  walk_at "go"
  intro r2 H2 a2 b2 D2
  walk_at "go"
  intro p hp
  have np : p ≠ a := D2.src.ne hp
  walk_at "go"
  intro r3 H3 a3 b3 D3
  walk_at "go"
  intro r4 H4 a4 b4 D4
  have hm := mul_le (b := 999999999) (a := 999999999) a3 (by omega) a4 (by omega)
  walk_at "go"
  intro r5 H5 a5 b5 D5
  have hm2 := mul_le (b := 100) hm.1 hm.2 (show 0 ≤ 1 + r5 by omega) (by omega)
  walk_at "go"
  intro r6 H6 a6 b6 D6
  have E6 := (((((D1.trans D2).new hp).trans (D3.trans (D4.trans D5))).set ((D1.trans D2).free hp) np)).trans D6
  have hall : AllI (fun i => 1 ≤ i ∧ i ≤ 1180591620717411303424) ([V.int 1, V.int (1 + r2), V.int 1000, V.int 1000000000, V.int 24000000, V.int (2 ^ r1.toNat), V.int (2 ^ r1.toNat + 1), V.int (if (2 : Int) ^ r1.toNat - 1 > 1 then 2 ^ r1.toNat - 1 else 1)] ++ [V.int (1 + r3 * r4 * (1 + r5))]) :=
    .cons ⟨by omega, by omega⟩ (.cons ⟨by omega, by omega⟩ (.cons ⟨by omega, by omega⟩ (.cons ⟨by omega, by omega⟩ (.cons ⟨by omega, by omega⟩ (.cons ⟨by omega, by omega⟩ (.cons ⟨by omega, by omega⟩ (.cons ⟨by split <;> omega, by split <;> omega⟩ (.cons ⟨by omega, by omega⟩ .nil))))))))
  obtain ⟨v, ev, v0, v1⟩ := hall.pick a6 b6
  refine ⟨_, _, _, _, rfl, rfl, SqL.of (D6.at np upd_same), ev, ?_⟩
  exact q _ _ E6 v0 v1
theorem span_ok {m W : Int} (m0 : 1 ≤ m) (m1 : m ≤ 18446744073709551615) (hW : 2 ≤ W) : 1 ≤ (if 18446744073709551615 / m < W - 1 then 18446744073709551615 / m else W - 1) ∧ (if 18446744073709551615 / m < W - 1 then 18446744073709551615 / m else W - 1) ≤ W - 1 ∧
    (if 18446744073709551615 / m < W - 1 then 18446744073709551615 / m else W - 1) * m < 18446744073709551616 ∧
    ((if 18446744073709551615 / m < W - 1 then 18446744073709551615 / m else W - 1) = W - 1 ∨ 18446744073709551616 ≤ ((if 18446744073709551615 / m < W - 1 then 18446744073709551615 / m else W - 1) + 1) * m) := by
  have e := Int.mul_ediv_add_emod 18446744073709551615 m
  have r0 := Int.emod_nonneg 18446744073709551615 (show m ≠ 0 by omega)
  have r1 := Int.emod_lt_of_pos 18446744073709551615 (show 0 < m by omega)
  have h1 : 1 ≤ 18446744073709551615 / m := Int.le_ediv_of_mul_le (by omega) (by omega)
  generalize 18446744073709551615 % m = r at e r0 r1
  generalize 18446744073709551615 / m = c at e h1
  have ec : c * m = m * c := Int.mul_comm _ _
  split
  · rename_i h
    refine ⟨h1, by omega, by omega, .inr ?_⟩
    rw [Int.add_mul, ec, Int.one_mul]
    omega
  · rename_i h
    refine ⟨by omega, Int.le_refl _, ?_, .inl rfl⟩
    have h2 : (W - 1) * m ≤ c * m := Int.mul_le_mul_of_nonneg_right (by omega) (by omega)
    omega
theorem pow_two_le {w : Int} (w0 : 1 ≤ w) : (2 : Int) ≤ 2 ^ w.toNat := by
  have h : 1 ≤ w.toNat := by omega
  have := Nat.pow_le_pow_right (n := 2) (by decide) h
  rw [← PySem.W.kbt_cast]
  omega
abbrev sLSpanRight : Stmt := topS 26
theorem scLSpanRight : FnScope ["source", "pair", "bits", "found"] ["source"] (defScope sLSpanRight) := ⟨rfl, rfl, rfl, by decide +kernel, rfl, by decide +kernel, by decide +kernel⟩
set_option maxHeartbeats 2000000 in
theorem ok_LSpanRight (D : DefAt K mg "_law_span_right" sLSpanRight ["source"]) (CLPace : Cal P w K mg base "_law_pace" ["source"] 3 (spPace)) (CLongestSpan : Cal P w K mg base "longest_span" ["width", "rate"] 5 (spSpan)) (CLNext : Cal P w K mg base "_law_next" ["source", "many"] 2 (spNext)) (T : Txt mg) : Cal P w K mg base "_law_span_right" ["source"] 6 (spRight) := by
  refine D.cal scLSpanRight (fun vs H Q E h => (by (obtain ⟨_, rfl, _⟩ := h); rfl)) (fun f cdv A outer s H vs Q E hr h => ?_)
  obtain ⟨a, rfl, hS, q⟩ := h
  refine ⟨_, pss_cons (ps_set (i := 1) scLSpanRight.nd rfl (Or.inl rfl) (pe_cal CLPace hr (by rfl) (pa_cons (pv 0) pa_nil)))
      (pss_cons (ps_set (i := 2) scLSpanRight.nd rfl (Or.inl rfl) (pe_ix ix_list (pe_lst (pa_cons pe_int (pa_cons pe_int (pa_cons pe_int (pa_cons pe_int (pa_cons pe_int (pa_cons (pe_op op_add pe_int (pe_cal CLNext hr (by rfl) (pa_cons (pv 0) (pa_cons pe_int pa_nil)))) pa_nil))))))) (pe_cal CLNext hr (by rfl) (pa_cons (pv 0) (pa_cons pe_int pa_nil))) (fun _ _ => rfl)))
      (pss_cons (ps_set (i := 3) scLSpanRight.nd rfl (Or.inl rfl) (pe_cal CLongestSpan hr (by rfl) (pa_cons (pv 2) (pa_cons (pv 1) pa_nil))))
      (pss_cons (ps_if (PW.pt (pw_or (pt_cmpR op_lt (pv 3) pe_int (nomark _)) (pw_or (pt_cmpR op_gt (pv 3) (pe_op op_sub (pe_op op_shlE pe_int (pv 2)) pe_int) (nomark _)) (pw_or1 (pt_cmpR op_ge (pe_op op_mulE (pv 3) (pe_ix ix_tup (pv 1) pe_int (fun _ _ => rfl))) (pe_op op_shlE pe_int pe_int) (nomark _))))))
        (pss_one (ps_ret pe_bl))
        pss_nil)
      (pss_one (ps_ret (pe_or (pe_cmpR op_eq (pv 3) (pe_op op_sub (pe_op op_shlE pe_int (pv 2)) pe_int) (nomark _)) (pe_one (pe_cmpR op_ge (pe_op op_mulE (pe_op op_add (pv 3) pe_int) (pe_ix ix_tup (pv 1) pe_int (fun _ _ => rfl))) (pe_op op_shlE pe_int pe_int) (nomark _))))))))), ?_⟩
  walk_at "go"
  intro p m s H1 D1 hp ⟨hR, m0, m1, s0, s1⟩
  have np : p ≠ a := fun e => by
    obtain ⟨_, _, _, h⟩ := D1.src
    rw [← e, hR] at h
    cases h
  walk_at "go"
  intro r2 H2 a2 b2 D2
  walk_at "go"
  intro p3 hp3
  have np3 : p3 ≠ a := D2.src.ne hp3
  walk_at "go"
  intro r4 H4 a4 b4 D4
  have hall : AllI (fun i => 1 ≤ i ∧ i ≤ 64) [V.int 1, V.int 2, V.int 32, V.int 63, V.int 64, V.int (1 + r2)] :=
    .cons ⟨by omega, by omega⟩ (.cons ⟨by omega, by omega⟩ (.cons ⟨by omega, by omega⟩ (.cons ⟨by omega, by omega⟩ (.cons ⟨by omega, by omega⟩ (.cons ⟨by omega, by omega⟩ .nil)))))
  obtain ⟨v, ev, v0, v1⟩ := hall.pick a4 b4
  refine ⟨_, _, _, _, rfl, rfl, SqL.of (D4.at np3 upd_same), ev, ?_⟩
  have hR4 : H4 p = some (.tup [V.int m, V.int s]) := D4.at np (upd_at (D2.at np hR) hp3)
  have hz := pos_pow v.toNat
  have hz1 := shl_one (show 0 ≤ v by omega) v1
  obtain ⟨k0, k1, k2, k3⟩ := span_ok m0 m1 (pow_two_le v0)
  have E4 := ((D1.trans D2).new hp3).trans D4
  walk_at "go"
  refine ⟨v, p, m, s, rfl, v0, v1, ⟨hR4, m0, m1, s0, s1⟩, ?_⟩
  generalize (if 18446744073709551615 / m < 2 ^ v.toNat - 1 then 18446744073709551615 / m else 2 ^ v.toNat - 1) = c at k0 k1 k2 k3
  walk_at "go"
  refine ite2 (fun e => ?_) (fun e => ?_)
  · exact q _ E4
  · have e1 : ¬ c = 2 ^ v.toNat - 1 := fun h => e (decide_eq_true (by rw [h]))
    have e2 := k3.resolve_left e1
    walk_at "go"
    have q2 := q _ E4
    rw [← decide_eq_true e2] at q2
    exact q2
def spLaw (K : PySem.W.Frag) : Sp := fun vs H Q _ => ∃ (a : Addr) (ns : List Int), vs = [.ref a] ∧ SqL K H a (ns.map V.int) ∧ ns.length ≤ 63 ∧ ∀ H', Q (.bl true) H'
abbrev sLaw : Stmt := topS 27
theorem scLaw : FnScope ["script", "k", "source", "turn", "hertz", "some", "far"] ["script"] (defScope sLaw) := ⟨rfl, rfl, rfl, by decide +kernel, rfl, by decide +kernel, by decide +kernel⟩
set_option maxHeartbeats 2000000 in
theorem ok_Law (D : DefAt K mg "law" sLaw ["script"]) (CLSource : Cal P w K mg base "_law_source" ["script", "k"] 2 (spSource K)) (CLSize : Cal P w K mg base "_law_size" ["source"] 3 (spSize)) (CBestRate : Cal P w K mg base "best_rate" ["frequency", "units", "most"] 3 (spBest)) (CLNext : Cal P w K mg base "_law_next" ["source", "many"] 2 (spNext)) (CLBest : Cal P w K mg base "_law_best" ["hertz", "some", "far"] 1 (spBest)) (CLSpanRight : Cal P w K mg base "_law_span_right" ["source"] 6 (spRight)) (T : Txt mg) : Cal P w K mg base "law" ["script"] 7 (spLaw K) := by
  refine D.cal scLaw (fun vs H Q E h => (by (obtain ⟨_, _, rfl, _⟩ := h); rfl)) (fun f cdv A outer s H vs Q E hr h => ?_)
  obtain ⟨a, ss, rfl, hS, hl, q⟩ := h
  refine ⟨_, pss_cons (ps_for PassesOwn.never rfl (pi_range1 (by rfl) T.range (pa_cons (pe_callB (call_min2 rfl) (by rfl) T.min (by decide +kernel) (pa_cons pe_int (pa_cons (pe_callB (call_max2 rfl) (by rfl) T.max (by decide +kernel) (pa_cons pe_int (pa_cons (pe_callB call_len_seq (by rfl) T.len PySem.boot_len (pa_cons (pv 0) pa_nil)) pa_nil))) pa_nil))) pa_nil)) (pg_name (i := 1) scLaw.nd rfl (Or.inl rfl))
        (pss_cons (ps_set (i := 2) scLaw.nd rfl (Or.inl rfl) (pe_cal CLSource hr (by rfl) (pa_cons (pv 0) (pa_cons (pv 1) pa_nil))))
        (pss_one (ps_for PassesOwn.never rfl (pi_range1 (by rfl) T.range (pa_cons pe_int pa_nil)) (pg_name (i := 3) scLaw.nd rfl (Or.inl rfl))
          (pss_cons (ps_par (i := 4) (j := 5) (by rfl) scLaw.nd rfl rfl (by decide) rfl rfl (pa_cons (pe_cal CLSize hr (by rfl) (pa_cons (pv 2) pa_nil)) (pa_cons (pe_cal CLSize hr (by rfl) (pa_cons (pv 2) pa_nil)) pa_nil)) (by rfl))
          (pss_cons (ps_set (i := 6) scLaw.nd rfl (Or.inl rfl) (pe_cal CLSize hr (by rfl) (pa_cons (pv 2) pa_nil)))
          (pss_cons (ps_if (pt_cmpR op_eq (pe_cal CLNext hr (by rfl) (pa_cons (pv 2) (pa_cons pe_int pa_nil))) pe_int (nomark _))
            (pss_one (ps_set (i := 5) scLaw.nd rfl (Or.inl rfl) (pe_callB (call_max2 rfl) (by rfl) T.max (by decide +kernel) (pa_cons pe_int (pa_cons (pe_op op_sub (pe_op op_add (pv 4) (pe_cal CLNext hr (by rfl) (pa_cons (pv 2) (pa_cons pe_int pa_nil)))) pe_int) pa_nil)))))
            pss_nil)
          (pss_cons (ps_if (pt_cmpR (op_neD hr.units) (pe_cal CBestRate hr (by rfl) (pa_cons (pv 4) (pa_cons (pv 5) (pa_cons (pv 6) pa_nil)))) (pe_cal CLBest hr (by rfl) (pa_cons (pv 4) (pa_cons (pv 5) (pa_cons (pv 6) pa_nil)))) (nomark _))
            (pss_one (ps_ret pe_bl))
            pss_nil)
          (pss_one (ps_if (pt_not (pt_val (pe_cal CLSpanRight hr (by rfl) (pa_cons (pv 2) pa_nil))))
            (pss_one (ps_ret pe_bl))
            pss_nil))))))))))
      (pss_one (ps_ret (pe_and (pe_cmpR op_isN (pe_cal CBestRate hr (by rfl) (pa_cons (pe_op op_powE pe_int pe_int) (pa_cons pe_int (pa_cons pe_int pa_nil)))) pe_non (nomark _)) (pe_one (pe_cmpR op_isN (pe_cal CBestRate hr (by rfl) (pa_cons pe_int (pa_cons pe_int (pa_cons (pe_op op_shlE pe_int pe_int) pa_nil)))) pe_non (nomark _)))))), ?_⟩
  walk_at "go"
  refine for_range (lo := 0) (n := _) (fun i σ H' => ∃ v1 v2 v3 v4 v5 v6 : Option V, σ = [some (.ref a), v1, v2, v3, v4, v5, v6] ∧ Same H H')
    ⟨none, none, none, none, none, none, rfl, Same.refl H⟩ (fun i σ H1 hi ⟨v1, v2, v3, v4, v5, v6, e, sm⟩ => ?_) (fun σ H1 ⟨v1, v2, v3, v4, v5, v6, e, sm⟩ => ?_)
  · subst e
    walk_at "go"
    refine ⟨a, ss, _, rfl, sm.seq hS, by omega, fun p x y n hp => ?_⟩
    have s2 : Src (upd H1 p (.lst [.int x, .int y, .int n])) p := Src.made
    walk_at "go"
    refine for_range (lo := 0) (n := 5) (fun j σ H' => ∃ v3 v4 v5 v6 : Option V, σ = [some (.ref a), some (.int (0 + (i : Int))), some (.ref p), v3, v4, v5, v6] ∧ Dr p (upd H1 p (.lst [.int x, .int y, .int n])) H')
      ⟨_, _, _, _, rfl, Dr.refl s2⟩ (fun j σ H3 hj ⟨v3, v4, v5, v6, e, D3⟩ => ?_) (fun σ H3 ⟨v3, v4, v5, v6, e, D3⟩ => ?_)
    · subst e
      walk_at "go"
      intro h H4 D4 h0 h1
      walk_at "go"
      intro u H5 D5 u0 u1
      walk_at "go"
      intro f H6 D6 f0 f1
      walk_at "go"
      intro r H7 r0 r1 D7
      have D37 := D3.trans (D4.trans (D5.trans (D6.trans D7)))
      walk_at "go"
      refine ite2 (fun e => ?_) (fun e => ?_)
      · walk_at "go"
        intro r8 H7b a8 b8 D7b
        have hu : 1 ≤ (if h + r8 - 1 > 1 then h + r8 - 1 else 1) ∧ (if h + r8 - 1 > 1 then h + r8 - 1 else 1) ≤ 1180591620717411303427 := by split <;> omega
        walk_at "go"
        generalize (if h + r8 - 1 > 1 then h + r8 - 1 else 1) = u2 at hu
        intro v8 H8 s8 B8
        walk_at "go"
        intro v9 H9 s9 B9
        refine ⟨_, _, (B8.same s9).dp, B9.dp, best_shaped _ _ _, best_shaped _ _ _, ?_⟩
        rw [best_same]
        have D9 : Dr p (upd H1 p (.lst [.int x, .int y, .int n])) H9 := ⟨(D37.trans D7b).src.same (s8.trans s9), (D37.trans D7b).but.trans (SameBut.of (s8.trans s9))⟩
        walk_at "go"
        intro H10 D10
        walk_at "go"
        exact ⟨_, _, _, _, rfl, D9.trans D10⟩
      · walk_at "go"
        intro v8 H8 s8 B8
        walk_at "go"
        intro v9 H9 s9 B9
        refine ⟨_, _, (B8.same s9).dp, B9.dp, best_shaped _ _ _, best_shaped _ _ _, ?_⟩
        rw [best_same]
        have D9 : Dr p (upd H1 p (.lst [.int x, .int y, .int n])) H9 := ⟨(D37).src.same (s8.trans s9), (D37).but.trans (SameBut.of (s8.trans s9))⟩
        walk_at "go"
        intro H10 D10
        walk_at "go"
        exact ⟨_, _, _, _, rfl, D9.trans D10⟩
    · subst e
      exact ⟨_, _, _, _, _, _, rfl, sm.trans (D3.same hp)⟩
  · subst e
    walk_at "go"
    intro v8 H8 s8 B8
    rw [show lastF (fits 1000000000000000000000000000000 1 1) 33 = none by decide +kernel] at B8
    have e8 : v8 = .non := B8
    subst e8
    walk_at "go"
    intro v9 H9 s9 B9
    rw [show lastF (fits 1 1 18446744073709551616) 33 = none by decide +kernel] at B9
    have e9 : v9 = .non := B9
    subst e9
    walk_at "go"
    exact q _
theorem all (DLCellAt : DefAt K mg "_law_cell_at" sLCellAt ["script", "k"]) (DLMixed : DefAt K mg "_law_mixed" sLMixed ["cell", "k"]) (DLSource : DefAt K mg "_law_source" sLSource ["script", "k"]) (DLNext : DefAt K mg "_law_next" sLNext ["source", "many"]) (DIsInteger : DefAt K mg "is_integer" sIsInteger ["thing"]) (DIsWithin : DefAt K mg "is_within" sIsWithin ["thing", "least", "greatest"]) (DIsAtLeast : DefAt K mg "is_at_least" sIsAtLeast ["thing", "least"]) (DCheckWidth : DefAt K mg "check_width" sCheckWidth ["width"]) (DCheckShift : DefAt K mg "check_shift" sCheckShift ["shift"]) (DCheckRate : DefAt K mg "check_rate" sCheckRate ["rate"]) (DLongestSpan : DefAt K mg "longest_span" sLongestSpan ["width", "rate"]) (DBestRate : DefAt K mg "best_rate" sBestRate ["frequency", "units", "most"]) (DLBest : DefAt K mg "_law_best" sLBest ["hertz", "some", "far"]) (DLPace : DefAt K mg "_law_pace" sLPace ["source"]) (DLSize : DefAt K mg "_law_size" sLSize ["source"]) (DLSpanRight : DefAt K mg "_law_span_right" sLSpanRight ["source"]) (DLaw : DefAt K mg "law" sLaw ["script"]) (T : Txt mg) : Cal P w K mg base "law" ["script"] 7 (spLaw K) := by
  have CLCellAt : Cal P w K mg base "_law_cell_at" ["script", "k"] 1 (spCell K) := ok_LCellAt DLCellAt  T
  have CLMixed : Cal P w K mg base "_law_mixed" ["cell", "k"] 1 (spMixed) := ok_LMixed DLMixed  T
  have CLSource : Cal P w K mg base "_law_source" ["script", "k"] 2 (spSource K) := ok_LSource DLSource CLMixed CLCellAt T
  have CLNext : Cal P w K mg base "_law_next" ["source", "many"] 2 (spNext) := ok_LNext DLNext CLMixed T
  have CIsInteger : Cal P w K mg base "is_integer" ["thing"] 1 (spIsInt) := ok_IsInteger DIsInteger  T
  have CIsWithin : Cal P w K mg base "is_within" ["thing", "least", "greatest"] 2 (spWithin) := ok_IsWithin DIsWithin CIsInteger T
  have CIsAtLeast : Cal P w K mg base "is_at_least" ["thing", "least"] 2 (spAtLeast) := ok_IsAtLeast DIsAtLeast CIsInteger T
  have CCheckWidth : Cal P w K mg base "check_width" ["width"] 3 (spWidth) := ok_CheckWidth DCheckWidth CIsWithin T
  have CCheckShift : Cal P w K mg base "check_shift" ["shift"] 3 (spShift) := ok_CheckShift DCheckShift CIsWithin T
  have CCheckRate : Cal P w K mg base "check_rate" ["rate"] 4 (spRate) := ok_CheckRate DCheckRate CCheckShift CIsWithin T
  have CLongestSpan : Cal P w K mg base "longest_span" ["width", "rate"] 5 (spSpan) := ok_LongestSpan DLongestSpan CCheckWidth CCheckRate T
  have CBestRate : Cal P w K mg base "best_rate" ["frequency", "units", "most"] 3 (spBest) := ok_BestRate DBestRate CIsAtLeast T
  have CLBest : Cal P w K mg base "_law_best" ["hertz", "some", "far"] 1 (spBest) := ok_LBest DLBest  T
  have CLPace : Cal P w K mg base "_law_pace" ["source"] 3 (spPace) := ok_LPace DLPace CLNext T
  have CLSize : Cal P w K mg base "_law_size" ["source"] 3 (spSize) := ok_LSize DLSize CLNext T
  have CLSpanRight : Cal P w K mg base "_law_span_right" ["source"] 6 (spRight) := ok_LSpanRight DLSpanRight CLPace CLongestSpan CLNext T
  have CLaw : Cal P w K mg base "law" ["script"] 7 (spLaw K) := ok_Law DLaw CLSource CLSize CBestRate CLNext CLBest CLSpanRight T
  exact CLaw
end
end My
open PySem PySem.W PyProof.Rows
set_option maxRecDepth 100000 in
set_option maxHeartbeats 0 in
theorem PySem.Challenge.cw_timekernel_k07_best_rates_and_spans_holds : PySem.Challenge.rw_timekernel_k07_best_rates_and_spans.Holds := by
  w_on; o_law; k_head; (case hw => w_witness2)
  k_fill
  refine L2.walk_of (l := PySem.Challenge.rw_timekernel_k07_best_rates_and_spans) (n := 63) (k := 7) (x := "script") (CX := fun _ => L2.CX0) (sp := fun w => My.spLaw _) rfl (by decide) rfl ⟨rfl, by decide, by decide⟩ (fun w h Y => PySem.W.kIn_of Y) ?F (fun _ _ a ns hl _ hS => ⟨a, ns, rfl, hS, hl, fun _ => rfl⟩) (fun _ _ _ _ _ h => h)
  case F =>
    intro w mg fa h KX G hmg
    refine' TK.use (TK.defAt_mk (mg := mg) (x := "_law_cell_at") (st := My.sLCellAt) (ps := ["script", "k"]) KX G ?aLCellAt ?lLCellAt ?cLCellAt ?kLCellAt (fun _ _ _ _ _ _ us hl => match us, hl with | [_, _], _ => rfl)) ?rLCellAt
    (case aLCellAt => k_is); (case lLCellAt => k_is); (case cLCellAt => k_is); (case kLCellAt => k_is)
    intro DLCellAt
    refine' TK.use (TK.defAt_mk (mg := mg) (x := "_law_mixed") (st := My.sLMixed) (ps := ["cell", "k"]) KX G ?aLMixed ?lLMixed ?cLMixed ?kLMixed (fun _ _ _ _ _ _ us hl => match us, hl with | [_, _], _ => rfl)) ?rLMixed
    (case aLMixed => k_is); (case lLMixed => k_is); (case cLMixed => k_is); (case kLMixed => k_is)
    intro DLMixed
    refine' TK.use (TK.defAt_mk (mg := mg) (x := "_law_source") (st := My.sLSource) (ps := ["script", "k"]) KX G ?aLSource ?lLSource ?cLSource ?kLSource (fun _ _ _ _ _ _ us hl => match us, hl with | [_, _], _ => rfl)) ?rLSource
    (case aLSource => k_is); (case lLSource => k_is); (case cLSource => k_is); (case kLSource => k_is)
    intro DLSource
    refine' TK.use (TK.defAt_mk (mg := mg) (x := "_law_next") (st := My.sLNext) (ps := ["source", "many"]) KX G ?aLNext ?lLNext ?cLNext ?kLNext (fun _ _ _ _ _ _ us hl => match us, hl with | [_, _], _ => rfl)) ?rLNext
    (case aLNext => k_is); (case lLNext => k_is); (case cLNext => k_is); (case kLNext => k_is)
    intro DLNext
    refine' TK.use (TK.defAt_mk (mg := mg) (x := "is_integer") (st := My.sIsInteger) (ps := ["thing"]) KX G ?aIsInteger ?lIsInteger ?cIsInteger ?kIsInteger (fun _ _ _ _ _ _ us hl => match us, hl with | [_], _ => rfl)) ?rIsInteger
    (case aIsInteger => k_is); (case lIsInteger => k_is); (case cIsInteger => k_is); (case kIsInteger => k_is)
    intro DIsInteger
    refine' TK.use (TK.defAt_mk (mg := mg) (x := "is_within") (st := My.sIsWithin) (ps := ["thing", "least", "greatest"]) KX G ?aIsWithin ?lIsWithin ?cIsWithin ?kIsWithin (fun _ _ _ _ _ _ us hl => match us, hl with | [_, _, _], _ => rfl)) ?rIsWithin
    (case aIsWithin => k_is); (case lIsWithin => k_is); (case cIsWithin => k_is); (case kIsWithin => k_is)
    intro DIsWithin
    refine' TK.use (TK.defAt_mk (mg := mg) (x := "is_at_least") (st := My.sIsAtLeast) (ps := ["thing", "least"]) KX G ?aIsAtLeast ?lIsAtLeast ?cIsAtLeast ?kIsAtLeast (fun _ _ _ _ _ _ us hl => match us, hl with | [_, _], _ => rfl)) ?rIsAtLeast
    (case aIsAtLeast => k_is); (case lIsAtLeast => k_is); (case cIsAtLeast => k_is); (case kIsAtLeast => k_is)
    intro DIsAtLeast
    refine' TK.use (TK.defAt_mk (mg := mg) (x := "check_width") (st := My.sCheckWidth) (ps := ["width"]) KX G ?aCheckWidth ?lCheckWidth ?cCheckWidth ?kCheckWidth (fun _ _ _ _ _ _ us hl => match us, hl with | [_], _ => rfl)) ?rCheckWidth
    (case aCheckWidth => k_is); (case lCheckWidth => k_is); (case cCheckWidth => k_is); (case kCheckWidth => k_is)
    intro DCheckWidth
    refine' TK.use (TK.defAt_mk (mg := mg) (x := "check_shift") (st := My.sCheckShift) (ps := ["shift"]) KX G ?aCheckShift ?lCheckShift ?cCheckShift ?kCheckShift (fun _ _ _ _ _ _ us hl => match us, hl with | [_], _ => rfl)) ?rCheckShift
    (case aCheckShift => k_is); (case lCheckShift => k_is); (case cCheckShift => k_is); (case kCheckShift => k_is)
    intro DCheckShift
    refine' TK.use (TK.defAt_mk (mg := mg) (x := "check_rate") (st := My.sCheckRate) (ps := ["rate"]) KX G ?aCheckRate ?lCheckRate ?cCheckRate ?kCheckRate (fun _ _ _ _ _ _ us hl => match us, hl with | [_], _ => rfl)) ?rCheckRate
    (case aCheckRate => k_is); (case lCheckRate => k_is); (case cCheckRate => k_is); (case kCheckRate => k_is)
    intro DCheckRate
    refine' TK.use (TK.defAt_mk (mg := mg) (x := "longest_span") (st := My.sLongestSpan) (ps := ["width", "rate"]) KX G ?aLongestSpan ?lLongestSpan ?cLongestSpan ?kLongestSpan (fun _ _ _ _ _ _ us hl => match us, hl with | [_, _], _ => rfl)) ?rLongestSpan
    (case aLongestSpan => k_is); (case lLongestSpan => k_is); (case cLongestSpan => k_is); (case kLongestSpan => k_is)
    intro DLongestSpan
    refine' TK.use (TK.defAt_mk (mg := mg) (x := "best_rate") (st := My.sBestRate) (ps := ["frequency", "units", "most"]) KX G ?aBestRate ?lBestRate ?cBestRate ?kBestRate (fun _ _ _ _ _ _ us hl => match us, hl with | [_, _, _], _ => rfl)) ?rBestRate
    (case aBestRate => k_is); (case lBestRate => k_is); (case cBestRate => k_is); (case kBestRate => k_is)
    intro DBestRate
    refine' TK.use (TK.defAt_mk (mg := mg) (x := "_law_best") (st := My.sLBest) (ps := ["hertz", "some", "far"]) KX G ?aLBest ?lLBest ?cLBest ?kLBest (fun _ _ _ _ _ _ us hl => match us, hl with | [_, _, _], _ => rfl)) ?rLBest
    (case aLBest => k_is); (case lLBest => k_is); (case cLBest => k_is); (case kLBest => k_is)
    intro DLBest
    refine' TK.use (TK.defAt_mk (mg := mg) (x := "_law_pace") (st := My.sLPace) (ps := ["source"]) KX G ?aLPace ?lLPace ?cLPace ?kLPace (fun _ _ _ _ _ _ us hl => match us, hl with | [_], _ => rfl)) ?rLPace
    (case aLPace => k_is); (case lLPace => k_is); (case cLPace => k_is); (case kLPace => k_is)
    intro DLPace
    refine' TK.use (TK.defAt_mk (mg := mg) (x := "_law_size") (st := My.sLSize) (ps := ["source"]) KX G ?aLSize ?lLSize ?cLSize ?kLSize (fun _ _ _ _ _ _ us hl => match us, hl with | [_], _ => rfl)) ?rLSize
    (case aLSize => k_is); (case lLSize => k_is); (case cLSize => k_is); (case kLSize => k_is)
    intro DLSize
    refine' TK.use (TK.defAt_mk (mg := mg) (x := "_law_span_right") (st := My.sLSpanRight) (ps := ["source"]) KX G ?aLSpanRight ?lLSpanRight ?cLSpanRight ?kLSpanRight (fun _ _ _ _ _ _ us hl => match us, hl with | [_], _ => rfl)) ?rLSpanRight
    (case aLSpanRight => k_is); (case lLSpanRight => k_is); (case cLSpanRight => k_is); (case kLSpanRight => k_is)
    intro DLSpanRight
    refine' TK.use (TK.defAt_mk (mg := mg) (x := "law") (st := My.sLaw) (ps := ["script"]) KX G ?aLaw ?lLaw ?cLaw ?kLaw (fun _ _ _ _ _ _ us hl => match us, hl with | [_], _ => rfl)) ?rLaw
    (case aLaw => k_is); (case lLaw => k_is); (case cLaw => k_is); (case kLaw => k_is)
    intro DLaw
    have T : My.Txt mg  := by
      refine' ⟨?f0, ?f1, ?f2, ?f3, ?f4, ?f5, ?f6, ?f7, ?f8, ?f9, ?f10, ?f11, ?f12⟩
      (case f0 => (refine' PySem.W.mg_none_of KX G ?z0; (case z0 => k_is)))
      (case f1 => (refine' PySem.W.mg_none_of KX G ?z1; (case z1 => k_is)))
      (case f2 => (refine' PySem.W.mg_none_of KX G ?z2; (case z2 => k_is)))
      (case f3 => (refine' PySem.W.mg_none_of KX G ?z3; (case z3 => k_is)))
      (case f4 => (refine' PySem.W.mg_none_of KX G ?z4; (case z4 => k_is)))
      (case f5 => (refine' PySem.W.mg_none_of KX G ?z5; (case z5 => k_is)))
      (case f6 => (refine' PySem.W.mg_none_of KX G ?z6; (case z6 => k_is)))
      (case f7 => (refine' PySem.W.mg_none_of KX G ?z7; (case z7 => k_is)))
      (case f8 => (refine' PySem.W.mg_none_of KX G ?z8; (case z8 => k_is)))
      (case f9 => (refine' TK.gint_mk KX G ?z9; (case z9 => k_is)))
      (case f10 => (refine' TK.gint_mk KX G ?z10; (case z10 => k_is)))
      (case f11 => (refine' TK.gint_mk KX G ?z11; (case z11 => k_is)))
      (case f12 => (refine' TK.gint_mk KX G ?z12; (case z12 => k_is)))
    exact TK.law_end DLaw hmg (fun base _ _ => My.all DLCellAt DLMixed DLSource DLNext DIsInteger DIsWithin DIsAtLeast DCheckWidth DCheckShift DCheckRate DLongestSpan DBestRate DLBest DLPace DLSize DLSpanRight DLaw T)
