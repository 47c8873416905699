import PyProof.Rows.All
import Wide.All
import OpenK.AllK
import Wide.FinOn
import HandS.ForMost
import HandS.Wide
import HandS.WideBits
import HandS.IsInst
import HandS.Flow

import PySem.Challenge.RW_timekernel_k02_least_histories
set_option Elab.async false
set_option linter.all false
set_option maxRecDepth 100000
/-! Defs of the text by their names, and calls of them. -/
namespace TK
open PySem PySem.Spec PyProof.Rows L2
/-- fd stands at f, under the module's name x, and takes its arguments by place -/
structure Stands (K : PySem.W.Frag) (mg : Str → Option Value) (x : Str) (ps : List Str) (f : Addr) (fd : FuncData) : Prop where
  lk : ∃ (oc : Value) (od : Option Addr) (osl : Array (Option Value)), K.lookup f = some ⟨oc, od, .func fd, osl⟩
  mg : mg x = some (.ref f)
  kp : PySem.W.keepIn K (.ref f) = true
  bd : ∀ us : List Value, us.length = ps.length → bindArgs fd ⟨us, []⟩ = pure (ps.zip us)
theorem Stands.same {K : PySem.W.Frag} {mg : Str → Option Value} {x : Str} {ps qs : List Str} {f g : Addr} {fd gd : FuncData} (a : Stands K mg x ps f fd) (b : Stands K mg x qs g gd) : f = g ∧ fd = gd := by
  have e : f = g := by
    have h := a.mg.symm.trans b.mg
    exact Value.ref.inj (Option.some.inj h)
  subst e
  obtain ⟨_, _, _, h1⟩ := a.lk
  obtain ⟨_, _, _, h2⟩ := b.lk
  rw [h1] at h2
  cases h2
  exact ⟨rfl, rfl⟩
/-- the def st stands under the module's name x -/
structure DefAt (K : PySem.W.Frag) (mg : Str → Option Value) (x : Str) (st : Stmt) (ps : List Str) : Prop where
  ex : ∃ (f : Addr) (fd : FuncData), Fun K x x st f fd ∧ Stands K mg x ps f fd
/-- what stands under the module's name x keeps the promise sp -/
structure Cal (P : Program) (w : World) (K : PySem.W.Frag) (mg : Str → Option Value) (base : Heap) (x : Str) (ps : List Str) (k : Nat) (sp : Sp) : Prop where
  ex : ∃ (f : Addr) (fd : FuncData), FnOk P w K mg base CX0 k f fd ps sp ∧ Stands K mg x ps f fd
section
variable {P : Program} {w : World} {K : PySem.W.Frag} {mg : Str → Option Value} {base : Heap} {x : Str} {st : Stmt} {N ps : List Str} {k : Nat} {sp : Sp}
theorem DefAt.cal (D : DefAt K mg x st ps) (S : FnScope N ps (defScope st)) (len : ∀ vs H Q E, sp vs H Q E → vs.length = ps.length)
    (hbody : ∀ (f : Addr) (cdv : Value) (A : Around) (outer : List Env) (s : Shared) (H : Hp) (vs : List V) (Q : VK) (E : XK), Room k (A.deeper (envOfC x (defScope st) s.heap.objs.size f cdv)) → sp vs H Q E →
      ∃ t, PSs (cxOf CX0 P w K mg base N x (defScope st) f cdv A outer s H E).nox (defBody st) t ∧ t { nx := fun _ H' => Q .non H', rt := Q } (start N vs) H) : Cal P w K mg base x ps (k + 1) sp := by
  obtain ⟨f, fd, F, b⟩ := D.ex
  exact ⟨f, fd, F.ok S len (hbody f), b⟩
theorem Cal.mono {j : Nat} (C : Cal P w K mg base x ps j sp) (h : j ≤ k) : Cal P w K mg base x ps k sp := by
  obtain ⟨f, fd, F, b⟩ := C.ex
  exact ⟨f, fd, F.mono h, b⟩
end
section
variable {X : Cx} {x : Str} {ps : List Str} {k : Nat} {sp : Sp} {p pos : Pos} {e : Expr} {es : List Expr} {t : TA}
theorem pe_cal {j : Nat} (C : Cal X.prog X.w X.K X.mg X.base x ps j sp) (hr : Room k X.A) (hg : Gl X x) (ha : PA X (e :: es) t) (hj : j ≤ k := by decide) (hdb : (x == ("__debug__" : Str)) = false := by decide)
    (he : starEach (e :: es) X.env = (false, eval e X.env) :: starEach es X.env := by rfl) (hpl : (backTo pos (starEach es X.env)).any (·.1) = false := by rfl) :
    PE X (.Call (.Name x p) (e :: es) [] pos) (tCall sp [] E0 t) := by
  obtain ⟨f, fd, F, b⟩ := C.ex
  exact pe_call F (hr.mono hj) hg b.mg b.kp (.all b.bd) .nil pass0 ha hdb he hpl
end
theorem defAt_mk {K : PySem.W.Frag} {h : Heap} {mg : Str → Option Value} {x : Str} {st : Stmt} {ps : List Str} {f : Addr} {oc : Value} {od an : Option Addr} {osl : Array (Option Value)} {kV doc pm cdv ct : Value} (X : K.In h) (G : h.Ns mainGlobals mg)
    (a : PySem.W.nsIn K mainGlobals x = some (some (.ref f)))
    (l : K.lookup f = some ⟨oc, od, .func (PySem.W.fnOf x x (defArgs st) (defBody st) (defScope st) .none kV doc pm an cdv ct), osl⟩)
    (c : PySem.W.codeIn K cdv x = true) (k : PySem.W.keepIn K (.ref f) = true)
    (b : ∀ (kV doc pm : Value) (an : Option Addr) (cdv ct : Value) (us : List Value), us.length = ps.length → bindArgs (PySem.W.fnOf x x (defArgs st) (defBody st) (defScope st) .none kV doc pm an cdv ct) ⟨us, []⟩ = pure (ps.zip us)) :
    DefAt K mg x st ps := ⟨f, _, fun_mk (st := st) l c k, ⟨_, _, _, l⟩, PySem.W.mg_of X G a, k, b kV doc pm an cdv ct⟩
theorem use {A B : Prop} (a : A) (f : A → B) : B := f a
/-- the law's own end -/
theorem law_end {P : Program} {w : World} {K : PySem.W.Frag} {mg : Str → Option Value} {st : Stmt} {fa : Addr} {k : Nat} {sp : Sp} {y : Str} (D : DefAt K mg "law" st [y]) (hfa : mg "law" = some (.ref fa))
    (F : ∀ base : Heap, K.In base → base.Ns mainGlobals mg → Cal P w K mg base "law" [y] k sp) :
    ∃ fd : FuncData, (∀ (s : Shared) (v : Value), BindsTo s fd ⟨[v], []⟩ [(y, v)]) ∧ ∀ base : Heap, K.In base → base.Ns mainGlobals mg → FnOk P w K mg base CX0 k fa fd [y] sp := by
  obtain ⟨f, fd, _, b⟩ := D.ex
  have e : f = fa := Value.ref.inj (Option.some.inj (b.mg.symm.trans hfa))
  subst e
  refine ⟨fd, fun s v => .of_eq (b.bd [v] rfl), fun base h1 h2 => ?_⟩
  obtain ⟨g, gd, G, b2⟩ := (F base h1 h2).ex
  obtain ⟨e1, e2⟩ := b.same b2
  subst e1 e2
  exact G
/-- what a def reckons without touching what is tracked -/
theorem same_upd {H : Hp} {p : Addr} {o : HO} (h : H p = none) : Same H (upd H p o) := fun b x e => by
  rw [upd_ne (ne_of_none e h)]
  exact e
theorem same_set {H H1 : Hp} {p : Addr} {o : HO} (s : Same H H1) (h : H p = none) : Same H (upd H1 p o) := fun b u e => by
  rw [upd_ne (ne_of_none e h)]
  exact s b u e
/-- what was tracked elsewhere than at a is as it was -/
def SameBut (a : Addr) (H H' : Hp) : Prop := ∀ b o, b ≠ a → H b = some o → H' b = some o
theorem SameBut.refl (a : Addr) (H : Hp) : SameBut a H H := fun _ _ _ h => h
theorem SameBut.trans {a : Addr} {H H1 H2 : Hp} (x : SameBut a H H1) (y : SameBut a H1 H2) : SameBut a H H2 := fun b o n h => y b o n (x b o n h)
theorem SameBut.of {a : Addr} {H H1 : Hp} (x : Same H H1) : SameBut a H H1 := fun b o _ h => x b o h
theorem sb_upd {H : Hp} {a : Addr} {o : HO} : SameBut a H (upd H a o) := fun b x n e => by
  rw [upd_ne n]
  exact e
theorem sb_new {H : Hp} {a p : Addr} {o : HO} (h : H p = none) : SameBut a H (upd H p o) := SameBut.of (same_upd h)
theorem SameBut.lst {a b : Addr} {H H1 : Hp} {xs : List V} {K : PySem.W.Frag} (s : SameBut a H H1) (n : b ≠ a) (h : SqL K H b xs) : SqL K H1 b xs := by
  rcases h with (h | ⟨o, h⟩) | h
  · exact .inl (.inl (s _ _ n h))
  · exact .inl (.inr ⟨o, s _ _ n h⟩)
  · exact .inr h
end TK
namespace TK
open PySem PySem.Spec PyProof.Rows L2
section
variable {X : Cx} {x : Str} {pos : Pos}
/-- a module's name for a whole number -/
theorem pe_gint {i : Int} (hg : Gl X x) (hm : ∃ t, X.mg x = some (.int i t)) (hd : (x == ("__debug__" : Str)) = false := by decide) : PE X (.Name x pos) (tC (.int i)) := by
  obtain ⟨t, hm⟩ := hm
  exact pe_glob hg hm ⟨_, rfl⟩ hd
end
theorem gint_mk {K : PySem.W.Frag} {h : Heap} {mg : Str → Option Value} {x : Str} {i : Int} {t : Tok} (X : K.In h) (G : h.Ns mainGlobals mg) (a : PySem.W.nsIn K mainGlobals x = some (some (.int i t))) : ∃ t, mg x = some (.int i t) := ⟨t, PySem.W.mg_of X G a⟩
end TK
namespace TK
open PySem PySem.Spec PyProof.Rows L2
/-- * of two numbers, one of them below 2 ^ 64 in size, or both below 2 ^ 400 -/
def CMulE (i j : Int) : Prop := CMul i j ∨ CMulX i j
theorem mulE1 {i j : Int} (h0 : -18446744073709551616 < i) (h1 : i < 18446744073709551616) : CMulE i j := .inl (.inl ⟨by omega, by omega⟩)
theorem mulE2 {i j : Int} (h0 : -18446744073709551616 < j) (h1 : j < 18446744073709551616) : CMulE i j := .inl (.inr ⟨by omega, by omega⟩)
theorem mulE3 {i j : Int} (h0 : i.natAbs < 2 ^ 400) (h1 : j.natAbs < 2 ^ 400) : CMulE i j := .inr (mulx_ok h0 h1 (by decide))
/-- e comes out as r -/
structure IsR (e r : Int) : Prop where
  eq : e = r
section
variable {X : Cx}
theorem op_mulE : OpR X (binaryOp .Mult) (rI CMulE fun i j => .int (i * j)) := opI fun _ _ _ _ _ _ _ hc q => mul_int q (hc.elim CMul.ok CMulX.ok)
/-- a power, a shift to the left, with what comes out told by an equation -/
theorem op_powE : OpR X (binaryOp .Pow) (fun x y H Q => ∃ i j, x = .int i ∧ y = .int j ∧ CPow i j ∧ ∃ r, IsR (i ^ j.toNat) r ∧ Q (.int r) H) := by
  intro pins s σ H x y v u Q I rx ry h
  obtain ⟨i, j, rfl, rfl, c, r, ⟨rfl⟩, q⟩ := h
  exact op_pow pins s σ H _ _ v u Q I rx ry ⟨_, _, rfl, rfl, c, q⟩
theorem op_shlE : OpR X (binaryOp .LShift) (fun x y H Q => ∃ i j, x = .int i ∧ y = .int j ∧ CShl i j ∧ ∃ r, IsR (i * 2 ^ j.toNat) r ∧ Q (.int r) H) := by
  intro pins s σ H x y v u Q I rx ry h
  obtain ⟨i, j, rfl, rfl, c, r, ⟨rfl⟩, q⟩ := h
  exact op_shlW pins s σ H _ _ v u Q I rx ry ⟨_, _, rfl, rfl, c, q⟩
end
theorem posLen {n : Nat} (h : Nat.ble 1 n = true) : (0 : Int) < n := by
  have := Nat.le_of_ble_eq_true h
  omega
theorem ltLen {n : Nat} (h : Nat.ble n 1000 = true) : (n : Int) < 1606938044258990275541962092341162602522202993782792835301376 := by
  have := Nat.le_of_ble_eq_true h
  omega
theorem w200 {i m : Int} (h0 : 0 < m) (h : m  < 1606938044258990275541962092341162602522202993782792835301376) : CDivW i m := wide_div h0 (b := 200) (by omega) (by decide) (by decide)
theorem shl400 {i j : Int} (h : i.natAbs < 2 ^ 400) (h0 : 0 ≤ j) (h1 : j ≤ 1000) : CShl i j := by
  have e : j = (j.toNat : Int) := by omega
  rw [e]
  exact shl_ok h (by omega)
/-- a list of whole numbers with a property -/
def AllI (p : Int → Prop) (xs : List V) : Prop := ∀ v ∈ xs, ∃ i, v = .int i ∧ p i
theorem AllI.nil {p : Int → Prop} : AllI p [] := fun _ h => by cases h
theorem AllI.cons {p : Int → Prop} {i : Int} {xs : List V} (h : p i) (t : AllI p xs) : AllI p (.int i :: xs) := fun v hv => by
  rcases List.mem_cons.mp hv with e | e
  · exact ⟨i, e, h⟩
  · exact t v e
theorem AllI.app {p : Int → Prop} {xs ys : List V} (h : AllI p xs) (t : AllI p ys) : AllI p (xs ++ ys) := fun v hv => by
  rcases List.mem_append.mp hv with e | e
  · exact h v e
  · exact t v e
theorem AllI.pick {p : Int → Prop} {xs : List V} (h : AllI p xs) {r : Int} (h0 : 0 ≤ r) (h1 : r < xs.length) : ∃ i, atI xs r = some (.int i) ∧ p i := by
  have hk : r.toNat < xs.length := by omega
  obtain ⟨i, e, hp⟩ := h _ (List.getElem_mem hk)
  refine ⟨i, at_of (j := r.toNat) (by omega) ?_, hp⟩
  rw [List.getElem?_eq_getElem hk, e]
theorem mul_le {x y a b : Int} (x0 : 0 ≤ x) (x1 : x ≤ a) (y0 : 0 ≤ y) (y1 : y ≤ b) : 0 ≤ x * y ∧ x * y ≤ a * b :=
  ⟨Int.mul_nonneg x0 y0, Int.mul_le_mul x1 y1 y0 (Int.le_trans x0 x1)⟩
theorem pos_pow (s : Nat) : (0 : Int) < 2 ^ s := Int.pow_pos (by decide)
theorem ifD {c A B : Prop} [Decidable c] (h : c) (a : A) : if decide c = true then A else B := by
  rw [if_pos (decide_eq_true h)]
  exact a
theorem ifN {c A B : Prop} [Decidable c] (h : ¬ c) (b : B) : if decide c = true then A else B := by
  rw [if_neg (by rw [decide_eq_false h]; decide)]
  exact b
theorem ifDn {c A B : Prop} [Decidable c] (h : c) (b : B) : if (!decide c) = true then A else B := by
  rw [decide_eq_true h]
  exact iteF b
theorem ifNn {c A B : Prop} [Decidable c] (h : ¬ c) (a : A) : if (!decide c) = true then A else B := by
  rw [decide_eq_false h]
  exact iteT a
theorem ifE {x y : Int} {A B : Prop} (h : x = y) (a : A) : if decide (V.int x = V.int y) = true then A else B := ifD (by rw [h]) a
theorem ifNE {x y : Int} {A B : Prop} (h : ¬ x = y) (b : B) : if decide (V.int x = V.int y) = true then A else B := ifN (fun e => h (V.int.inj e)) b
theorem ifEn {x y : Int} {A B : Prop} (h : x = y) (b : B) : if (!decide (V.int x = V.int y)) = true then A else B := by
  rw [decide_eq_true (show V.int x = V.int y by rw [h])]
  exact iteF b
theorem ifNEn {x y : Int} {A B : Prop} (h : ¬ x = y) (a : A) : if (!decide (V.int x = V.int y)) = true then A else B := by
  rw [decide_eq_false (show ¬ V.int x = V.int y from fun e => h (V.int.inj e))]
  exact iteT a
/-- a source of draws stands at a -/
def Src (H : Hp) (a : Addr) : Prop := ∃ x y n : Int, H a = some (.lst [.int x, .int y, .int n])
/-- draws were made of the source at a -/
structure Dr (a : Addr) (H H' : Hp) : Prop where
  src : Src H' a
  but : SameBut a H H'
theorem Dr.trans {a : Addr} {H H1 H2 : Hp} (x : Dr a H H1) (y : Dr a H1 H2) : Dr a H H2 := ⟨y.src, x.but.trans y.but⟩
theorem Dr.refl {a : Addr} {H : Hp} (x : Src H a) : Dr a H H := ⟨x, .refl _ _⟩
theorem Src.new {a p : Addr} {H : Hp} {o : HO} (x : Src H a) (h : H p = none) : Src (upd H p o) a := by
  obtain ⟨u, v, n, e⟩ := x
  exact ⟨u, v, n, by rw [upd_ne (ne_of_none e h)]; exact e⟩
theorem Dr.new {a p : Addr} {H H1 : Hp} {o : HO} (x : Dr a H H1) (h : H1 p = none) : Dr a H (upd H1 p o) := ⟨x.src.new h, x.but.trans (sb_new h)⟩
theorem Src.ne {a p : Addr} {H : Hp} (x : Src H a) (h : H p = none) : p ≠ a := by
  obtain ⟨u, v, n, e⟩ := x
  exact (ne_of_none e h).symm
theorem Dr.free {a p : Addr} {H H1 : Hp} (x : Dr a H H1) (h : H1 p = none) : H p = none := by
  cases q : H p with
  | none => rfl
  | some o =>
    rw [x.but p o (x.src.ne h) q] at h
    cases h
theorem Dr.at {a p : Addr} {H H1 : Hp} {o : HO} (d : Dr a H H1) (n : p ≠ a) (h : H p = some o) : H1 p = some o := d.but p o n h
theorem upd_at {p q : Addr} {H : Hp} {o u : HO} (h : H p = some o) (n : H q = none) : upd H q u p = some o := (upd_ne (ne_of_none h n)).trans h
theorem upd_at' {p q : Addr} {H : Hp} {o u : HO} (h : H p = some o) (n : p ≠ q) : upd H q u p = some o := (upd_ne n).trans h
theorem Src.set {a p : Addr} {H : Hp} {o : HO} (x : Src H a) (n : p ≠ a) : Src (upd H p o) a := by
  obtain ⟨u, v, m, e⟩ := x
  exact ⟨u, v, m, by rw [upd_ne n.symm]; exact e⟩
theorem Dr.set {a p : Addr} {H H1 : Hp} {o : HO} (x : Dr a H H1) (h : H p = none) (n : p ≠ a) : Dr a H (upd H1 p o) := ⟨x.src.set n, fun b u nb e => by
  rw [upd_ne (ne_of_none e h)]
  exact x.but b u nb e⟩
theorem Dr.same {p : Addr} {H H1 : Hp} {o : HO} (d : Dr p (upd H p o) H1) (h : H p = none) : Same H H1 := fun b u e => by
  have n := ne_of_none e h
  exact d.but b u n (by rw [upd_ne n]; exact e)
theorem Src.made {p : Addr} {H : Hp} {x y n : Int} : Src (upd H p (.lst [.int x, .int y, .int n])) p := ⟨x, y, n, upd_same⟩
theorem Src.same {a : Addr} {H H' : Hp} (x : Src H a) (s : Same H H') : Src H' a := by
  obtain ⟨u, v, n, e⟩ := x
  exact ⟨u, v, n, s _ _ e⟩
end TK

/-! ### comprehensions whose elements change nothing -/
namespace TK
open PySem PySem.Spec PyProof.Rows L2
section
variable {K : PySem.W.Frag} {a : Addr} {g : TG} {tt : TT} {te : TE} {vs : List Nat} {σ : L2.St} {H : Hp} {D : Addr} {Qd : Hp → Prop}
theorem take_snoc {ys : List V} {i : Nat} {y : V} (h : ys[i]? = some y) : ys.take i ++ [y] = ys.take (i + 1) := by
  rw [List.take_add_one, h]
  rfl
theorem lc_listP {xs ys : List V} (hD : H D = none) (hl : SqL K H a xs) (n : ys.length = xs.length) (sz : ys.length ≤ sizeLine)
    (hs : ∀ (i : Nat) (x y : V) (R : V → Hp → Prop) (F : Hp → Prop), xs[i]? = some x → ys[i]? = some y → R y (upd H D (.lst (ys.take i))) →
      g x (wipe σ vs) (upd H D (.lst (ys.take i))) fun σ2 H2 => wipe σ2 vs = wipe σ vs ∧ tt σ2 H2 fun b H3 => if b = true then te σ2 H3 R else F H3)
    (hd : Qd (upd H D (.lst ys))) :
    ∃ W : Nat → Nat → Hp → Prop, (∃ m, W 0 m (upd H D (.lst []))) ∧ ∀ i m H, W i m H →
      ((Itl K a).stop i H ∧ Qd H) ∨ ((Itl K a).go i H ∧ ∃ Nx : Hp → Prop, (∀ H', Nx H' → ∃ m', m' < m ∧ W (i + 1) m' H') ∧ ∀ x H', (Itl K a).yld i H x H' → g x (wipe σ vs) H' fun σ2 H2 => wipe σ2 vs = wipe σ vs ∧ tt σ2 H2 fun b H3 =>
        if b = true then te σ2 H3 fun y H4 => ∃ acc, H4 D = some (.lst acc) ∧ acc.length < sizeLine ∧ Nx (upd H4 D (.lst (acc ++ [y]))) else Nx H3) := by
  refine lc_list (K := K) (a := a) (xs := xs) (H1 := H) (Qd := Qd) (fun i H' => H' = upd H D (.lst (ys.take i))) (by rw [List.take_zero]) (fun i H' _ e => ?_) (fun i x H' hx e => ?_) (fun H' e => ?_)
  · subst e
    exact (same_upd hD).seq hl
  · subst e
    have hi : i < xs.length := (List.getElem?_eq_some_iff.mp hx).1
    have hy : ys[i]? = some ys[i] := List.getElem?_eq_getElem (by omega)
    refine hs i x ys[i] _ _ hx hy ⟨ys.take i, upd_same, ?_, ?_⟩
    · rw [List.length_take]
      omega
    · rw [upd_upd, take_snoc hy]
  · subst e
    rw [List.take_of_length_le (by omega)]
    exact hd
theorem lc_rangeP {lo : Int} {m : Nat} {ys : List V} (hD : H D = none) (n : ys.length = m) (sz : ys.length ≤ sizeLine)
    (hs : ∀ (i : Nat) (y : V) (R : V → Hp → Prop) (F : Hp → Prop), i < m → ys[i]? = some y → R y (upd H D (.lst (ys.take i))) →
      g (.int (lo + i)) (wipe σ vs) (upd H D (.lst (ys.take i))) fun σ2 H2 => wipe σ2 vs = wipe σ vs ∧ tt σ2 H2 fun b H3 => if b = true then te σ2 H3 R else F H3)
    (hd : Qd (upd H D (.lst ys))) :
    ∃ W : Nat → Nat → Hp → Prop, (∃ m, W 0 m (upd H D (.lst []))) ∧ ∀ i k H, W i k H →
      ((Itr lo m).stop i H ∧ Qd H) ∨ ((Itr lo m).go i H ∧ ∃ Nx : Hp → Prop, (∀ H', Nx H' → ∃ m', m' < k ∧ W (i + 1) m' H') ∧ ∀ x H', (Itr lo m).yld i H x H' → g x (wipe σ vs) H' fun σ2 H2 => wipe σ2 vs = wipe σ vs ∧ tt σ2 H2 fun b H3 =>
        if b = true then te σ2 H3 fun y H4 => ∃ acc, H4 D = some (.lst acc) ∧ acc.length < sizeLine ∧ Nx (upd H4 D (.lst (acc ++ [y]))) else Nx H3) := by
  refine lc_range (H1 := H) (Qd := Qd) (fun i H' => H' = upd H D (.lst (ys.take i))) (by rw [List.take_zero]) (fun i H' hi e => ?_) (fun H' e => ?_)
  · subst e
    have hy : ys[i]? = some ys[i] := List.getElem?_eq_getElem (by omega)
    refine hs i ys[i] _ _ hi hy ⟨ys.take i, upd_same, ?_, ?_⟩
    · rw [List.length_take]
      omega
    · rw [upd_upd, take_snoc hy]
  · subst e
    rw [List.take_of_length_le (by omega)]
    exact hd
theorem rep_at {α : Type} {n i : Nat} {x y : α} (h : (List.replicate n x)[i]? = some y) : y = x := List.eq_of_mem_replicate (List.mem_of_getElem? h)
theorem rep_bl (n : Nat) : (List.replicate n true).map V.bl = List.replicate n (V.bl true) := List.map_replicate
theorem all_rep (n : Nat) : (List.replicate n true).all id = true := by
  rw [List.all_eq_true]
  intro x hx
  rw [List.eq_of_mem_replicate hx]
  rfl
/-- the numbers below n that pass p -/
def kept (p : Nat → Bool) (n : Nat) : List Nat := (List.range n).filter p
theorem kept_succ (p : Nat → Bool) (n : Nat) : kept p (n + 1) = if p n = true then kept p n ++ [n] else kept p n := by
  unfold kept
  rw [List.range_succ, List.filter_append]
  cases h : p n with
  | true => simp [h]
  | false => simp [h]
theorem kept_len (p : Nat → Bool) (n : Nat) : (kept p n).length ≤ n := by
  unfold kept
  exact Nat.le_trans (List.length_filter_le _ _) (by rw [List.length_range]; exact Nat.le_refl _)
theorem lc_rangeF {lo : Int} {m : Nat} {p : Nat → Bool} {f : Nat → V} (hD : H D = none) (sz : m ≤ sizeLine)
    (hs : ∀ (i : Nat) (R : V → Hp → Prop) (F : Hp → Prop), i < m → (p i = true → R (f i) (upd H D (.lst ((kept p i).map f)))) → (p i = false → F (upd H D (.lst ((kept p i).map f)))) →
      g (.int (lo + i)) (wipe σ vs) (upd H D (.lst ((kept p i).map f))) fun σ2 H2 => wipe σ2 vs = wipe σ vs ∧ tt σ2 H2 fun b H3 => if b = true then te σ2 H3 R else F H3)
    (hd : Qd (upd H D (.lst ((kept p m).map f)))) :
    ∃ W : Nat → Nat → Hp → Prop, (∃ m, W 0 m (upd H D (.lst []))) ∧ ∀ i k H, W i k H →
      ((Itr lo m).stop i H ∧ Qd H) ∨ ((Itr lo m).go i H ∧ ∃ Nx : Hp → Prop, (∀ H', Nx H' → ∃ m', m' < k ∧ W (i + 1) m' H') ∧ ∀ x H', (Itr lo m).yld i H x H' → g x (wipe σ vs) H' fun σ2 H2 => wipe σ2 vs = wipe σ vs ∧ tt σ2 H2 fun b H3 =>
        if b = true then te σ2 H3 fun y H4 => ∃ acc, H4 D = some (.lst acc) ∧ acc.length < sizeLine ∧ Nx (upd H4 D (.lst (acc ++ [y]))) else Nx H3) := by
  refine lc_range (H1 := H) (Qd := Qd) (fun i H' => H' = upd H D (.lst ((kept p i).map f))) rfl (fun i H' hi e => ?_) (fun H' e => ?_)
  · subst e
    refine hs i _ _ hi (fun hp => ⟨(kept p i).map f, upd_same, ?_, ?_⟩) (fun hp => ?_)
    · rw [List.length_map]
      have := kept_len p i
      omega
    · rw [upd_upd, kept_succ, if_pos hp, List.map_append]
      rfl
    · rw [kept_succ, if_neg (by rw [hp]; decide)]
  · subst e
    exact hd
end
end TK
/-! ### == of lists of whole numbers -/
namespace TK
open PySem PySem.Spec PyProof.Rows L2
section
variable {X : Cx} {K : PySem.W.Frag}
/-- within a comprehension the written part is the same -/
theorem ix_listK (h : X.K = K := by rfl) : IxR X (rIxL K) := by
  subst h
  exact ix_list
theorem ix_tupK (h : X.K = K := by rfl) : IxR X (rIxT K) := by
  subst h
  exact ix_tup
theorem pg_tupK {es : List Expr} {k : Nat} {t : TGs} (n : Nat) {pos : Pos} (h : PGs X es t) (hK : X.K = K := by rfl) (hc : X.calm = true := by rfl)
    (hn : (assignEach es X.env).length = n := by rfl) (hst : (assignEach es X.env).findIdx? (·.1) = none := by rfl) : PG X (.Tuple es k pos) (gTup K n t) := by
  subst hK
  exact pg_tup hc h hn hst
theorem call_lenK (h : X.K = K := by rfl) : CallR X (.builtin "len") (fun xs H Q => ∃ p ys, xs = [.ref p] ∧ (SqL K H p ys ∨ SqT K H p ys) ∧ Q (.int ys.length) H) := by
  subst h
  exact call_len_seq
end
theorem eqvAll_int : ∀ ns ms : List Int, PyData.eqvAll (ns.map PyData.int) (ms.map PyData.int) = decide (ns = ms)
  | [], [] => by simp [PyData.eqvAll]
  | [], _ :: _ => by simp [PyData.eqvAll]
  | _ :: _, [] => by simp [PyData.eqvAll]
  | a :: r, b :: t => by
    simp only [List.map_cons, PyData.eqvAll, PyData.eqv, eqvAll_int r t]
    by_cases h : a = b <;> by_cases h' : r = t <;> simp [h, h']
theorem lay_int : ∀ ns : List Int, PyData.canLayAll0 (ns.map PyData.int) = true
  | [] => rfl
  | _ :: r => by simp [PyData.canLayAll0, PyData.canLay0, lay_int r]
theorem deep_int : ∀ ns : List Int, PyData.depthAll (ns.map PyData.int) = 0
  | [] => rfl
  | _ :: r => by simp [PyData.depthAll, PyData.depth, deep_int r]
theorem shaped_int (ns : List Int) : SeqAt.shaped (.list (ns.map PyData.int)) = true := by
  simp [SeqAt.shaped, PyData.canLay0, PyData.depth, lay_int, deep_int]
theorem dpAll_int {K : PySem.W.Frag} {H : Hp} : ∀ ns : List Int, DpAll K H (ns.map V.int) (ns.map PyData.int)
  | [] => .nil
  | n :: r => .cons (.int n) (dpAll_int r)
section
variable {X : Cx}
theorem op_eqIL (hu : X.A.units + 64 < cLine) : OpR X (compareOp .Eq) (fun x y H Q => ∃ (a b : Addr) (ns ms : List Int), x = .ref a ∧ y = .ref b ∧ SqL X.K H a (ns.map V.int) ∧ SqL X.K H b (ms.map V.int) ∧ Q (.bl (decide (ns = ms))) H) := by
  intro pins s σ H x y v u Q I rx ry h
  obtain ⟨a, b, ns, ms, rfl, rfl, h1, h2, q⟩ := h
  refine op_eqD hu pins s σ H _ _ v u Q I rx ry ⟨_, _, .lst h1 (dpAll_int ns), .lst h2 (dpAll_int ms), shaped_int ns, shaped_int ms, ?_⟩
  rw [PyData.eqv, eqvAll_int]
  exact q
theorem op_neIL (hu : X.A.units + 64 < cLine) : OpR X (compareOp .NotEq) (fun x y H Q => ∃ (a b : Addr) (ns ms : List Int), x = .ref a ∧ y = .ref b ∧ SqL X.K H a (ns.map V.int) ∧ SqL X.K H b (ms.map V.int) ∧ Q (.bl (!decide (ns = ms))) H) := by
  intro pins s σ H x y v u Q I rx ry h
  obtain ⟨a, b, ns, ms, rfl, rfl, h1, h2, q⟩ := h
  refine op_neD hu pins s σ H _ _ v u Q I rx ry ⟨_, _, .lst h1 (dpAll_int ns), .lst h2 (dpAll_int ms), shaped_int ns, shaped_int ms, ?_⟩
  rw [PyData.eqv, eqvAll_int]
  exact q
end
theorem kept_first {p : Nat → Bool} {c n : Nat} (hp : p c = true) (hn : ∀ k, k < c → p k = false) (hc : c < n) : ∃ r, kept p n = c :: r := by
  have h0 : ∀ k, k ≤ c → kept p k = [] := by
    intro k
    induction k with
    | zero => intro _; rfl
    | succ k ih =>
      intro hk
      rw [kept_succ, if_neg (by rw [hn k (by omega)]; decide), ih (by omega)]
  have h1 : ∀ d, ∃ r, kept p (c + 1 + d) = c :: r := by
    intro d
    induction d with
    | zero => exact ⟨[], by rw [Nat.add_zero, kept_succ, if_pos hp, h0 c (Nat.le_refl _)]; rfl⟩
    | succ d ih =>
      obtain ⟨r, e⟩ := ih
      rw [show c + 1 + (d + 1) = (c + 1 + d) + 1 by omega, kept_succ, e]
      split
      · exact ⟨r ++ [c + 1 + d], rfl⟩
      · exact ⟨r, rfl⟩
  have := h1 (n - (c + 1))
  rw [show c + 1 + (n - (c + 1)) = n by omega] at this
  exact this
/-- the first n values of a function -/
def tab (f : Nat → Int) (n : Nat) : List Int := (List.range n).map f
theorem tab_len (f : Nat → Int) (n : Nat) : ((tab f n).map V.int).length = n := by
  unfold tab
  rw [List.length_map, List.length_map, List.length_range]
theorem tab_at {f : Nat → Int} {n i : Nat} {y : V} (h : ((tab f n).map V.int)[i]? = some y) : y = .int (f i) := by
  unfold tab at h
  rw [List.getElem?_map, List.getElem?_map] at h
  cases e : (List.range n)[i]? with
  | none => rw [e] at h; cases h
  | some k =>
    rw [e] at h
    obtain ⟨h1, h2⟩ := List.getElem?_eq_some_iff.mp e
    rw [List.getElem_range] at h2
    subst h2
    exact (Option.some.inj h).symm
theorem tab_get (f : Nat → Int) {n i : Nat} (h : i < n) : ((tab f n).map V.int)[i]? = some (.int (f i)) := by
  unfold tab
  rw [List.getElem?_map, List.getElem?_map, List.getElem?_range h]
  rfl
end TK
/-! ### a comprehension over zip; rows of pairs -/
namespace TK
open PySem PySem.Spec PyProof.Rows L2
section
variable {K : PySem.W.Frag} {a b : Addr} {g : TG} {tt : TT} {te : TE} {vs : List Nat} {σ : L2.St} {H : Hp} {D : Addr} {Qd : Hp → Prop}
theorem lc_zipS {xs ys zs : List V} (hD : H D = none) (hx : SqL K H a xs) (hy : SqL K H b ys) (n : zs.length = min xs.length ys.length) (sz : zs.length ≤ sizeLine)
    (hs : ∀ (i : Nat) (x y z : V) (T : Addr) (Hi : Hp) (R : V → Hp → Prop) (F : Hp → Prop), xs[i]? = some x → ys[i]? = some y → zs[i]? = some z → Same H Hi → Hi T = none → R z (upd Hi T (.tup [x, y])) →
      g (.ref T) (wipe σ vs) (upd Hi T (.tup [x, y])) fun σ2 H2 => wipe σ2 vs = wipe σ vs ∧ tt σ2 H2 fun b H3 => if b = true then te σ2 H3 R else F H3)
    (hd : ∀ H', Same H H' → H' D = some (.lst zs) → Qd H') :
    ∃ W : Nat → Nat → Hp → Prop, (∃ m, W 0 m (upd H D (.lst []))) ∧ ∀ i m H, W i m H →
      ((Itz K a b).stop i H ∧ Qd H) ∨ ((Itz K a b).go i H ∧ ∃ Nx : Hp → Prop, (∀ H', Nx H' → ∃ m', m' < m ∧ W (i + 1) m' H') ∧ ∀ x H', (Itz K a b).yld i H x H' → g x (wipe σ vs) H' fun σ2 H2 => wipe σ2 vs = wipe σ vs ∧ tt σ2 H2 fun b H3 =>
        if b = true then te σ2 H3 fun y H4 => ∃ acc, H4 D = some (.lst acc) ∧ acc.length < sizeLine ∧ Nx (upd H4 D (.lst (acc ++ [y]))) else Nx H3) := by
  refine ⟨fun i m H' => i + m = zs.length ∧ Same H H' ∧ H' D = some (.lst (zs.take i)), ⟨zs.length, by omega, same_upd hD, upd_same⟩, fun i m H' hW => ?_⟩
  obtain ⟨em, sm, eD⟩ := hW
  have hA : SqL K H' a xs := sm.seq hx
  have hB : SqL K H' b ys := sm.seq hy
  by_cases hi : i < zs.length
  · have h1 : i < xs.length := by omega
    have h2 : i < ys.length := by omega
    have g1 := List.getElem?_eq_getElem h1
    have g2 := List.getElem?_eq_getElem h2
    have g3 := List.getElem?_eq_getElem hi
    refine .inr ⟨⟨_, _, _, _, hA, hB, g1, g2⟩, fun H'' => Same H H'' ∧ H'' D = some (.lst (zs.take (i + 1))), fun H'' hN => ⟨m - 1, by omega, by omega, hN⟩, fun x H'' hy' => ?_⟩
    obtain ⟨T, x1, x2, rfl, nT, rfl, f1, f2⟩ := hy'
    have ex1 : x1 = xs[i] := Option.some.inj ((f1 _ hA).symm.trans g1)
    have ex2 : x2 = ys[i] := Option.some.inj ((f2 _ hB).symm.trans g2)
    subst ex1 ex2
    refine hs i _ _ zs[i] T H' _ _ g1 g2 g3 sm nT ⟨zs.take i, upd_at eD nT, ?_, ?_, ?_⟩
    · rw [List.length_take]
      omega
    · refine fun c o e => ?_
      rw [upd_ne (ne_of_none e hD)]
      exact same_upd nT _ _ (sm _ _ e)
    · rw [upd_same, take_snoc g3]
  · refine .inl ⟨⟨_, _, hA, hB, ?_⟩, hd _ sm ?_⟩
    · omega
    · rw [List.take_of_length_le (by omega)] at eD
      exact eD
end
theorem cut1 (xs : List V) : cutV xs (some 1) none = xs.drop 1 := by
  unfold cutV
  rw [show HT.sIx xs.length 0 (some 1) = min 1 xs.length from HT.sIx_nat xs.length 0 1, HT.sIx_none]
  cases xs with
  | nil => rfl
  | cons x r =>
    rw [show min 1 (x :: r).length = 1 by
      rw [List.length_cons]
      omega]
    show (List.take ((x :: r).length - 1) r) = r
    rw [List.length_cons, Nat.add_sub_cancel]
    exact List.take_length
/-- rows (i, m) as tuples -/
def Pairs (H : Hp) : List V → List (Int × Int) → Prop
  | [], [] => True
  | x :: xs, r :: rs => (∃ a, x = .ref a ∧ H a = some (.tup [.int r.1, .int r.2])) ∧ Pairs H xs rs
  | _, _ => False
theorem Pairs.same {H H' : Hp} (s : Same H H') : ∀ {xs : List V} {rs : List (Int × Int)}, Pairs H xs rs → Pairs H' xs rs
  | [], [], _ => trivial
  | _ :: _, _ :: _, h => ⟨by obtain ⟨a, e, h1⟩ := h.1; exact ⟨a, e, s _ _ h1⟩, Pairs.same s h.2⟩
  | [], _ :: _, h => h.elim
  | _ :: _, [], h => h.elim
/-- a list that is written over is none of the tuples -/
theorem Pairs.keep {H : Hp} {l : Addr} {ys zs : List V} (hl : H l = some (.lst ys)) : ∀ {xs : List V} {rs : List (Int × Int)}, Pairs H xs rs → Pairs (upd H l (.lst zs)) xs rs
  | [], [], _ => trivial
  | _ :: _, _ :: _, h => ⟨by
      obtain ⟨a, e, h1⟩ := h.1
      exact ⟨a, e, upd_at' h1 (ne_of h1 hl (by intro z; cases z))⟩, Pairs.keep hl h.2⟩
  | [], _ :: _, h => h.elim
  | _ :: _, [], h => h.elim
theorem Pairs.snoc {H : Hp} {p : Addr} {i m : Int} (hp : H p = some (.tup [.int i, .int m])) : ∀ {xs : List V} {rs : List (Int × Int)}, Pairs H xs rs → Pairs H (xs ++ [.ref p]) (rs ++ [(i, m)])
  | [], [], _ => ⟨⟨p, rfl, hp⟩, trivial⟩
  | _ :: _, _ :: _, h => ⟨h.1, Pairs.snoc hp h.2⟩
  | [], _ :: _, h => h.elim
  | _ :: _, [], h => h.elim
def pD (r : Int × Int) : PyData := .tuple [.int r.1, .int r.2]
theorem Pairs.dp {K : PySem.W.Frag} {H : Hp} : ∀ {xs : List V} {rs : List (Int × Int)}, Pairs H xs rs → DpAll K H xs (rs.map pD)
  | [], [], _ => .nil
  | _ :: _, _ :: _, h => by
    obtain ⟨a, e, h1⟩ := h.1
    subst e
    exact .cons (.tup (SqT.of h1) (.cons (.int _) (.cons (.int _) .nil))) (Pairs.dp h.2)
  | [], _ :: _, h => h.elim
  | _ :: _, [], h => h.elim
theorem lay_pairs : ∀ rs : List (Int × Int), PyData.canLayAll0 (rs.map pD) = true
  | [] => rfl
  | _ :: r => by simp [PyData.canLayAll0, PyData.canLay0, pD, lay_pairs r]
theorem deep_pairs : ∀ rs : List (Int × Int), PyData.depthAll (rs.map pD) ≤ 2
  | [] => by simp [PyData.depthAll]
  | _ :: r => by
    have := deep_pairs r
    simp [PyData.depthAll, PyData.depth, pD]
    omega
theorem shaped_pairs (rs : List (Int × Int)) : SeqAt.shaped (.list (rs.map pD)) = true := by
  have := deep_pairs rs
  simp [SeqAt.shaped, PyData.canLay0, PyData.depth, lay_pairs]
  omega
theorem Pairs.length {H : Hp} : ∀ {xs : List V} {rs : List (Int × Int)}, Pairs H xs rs → xs.length = rs.length
  | [], [], _ => rfl
  | _ :: _, _ :: _, h => by rw [List.length_cons, List.length_cons, Pairs.length h.2]
  | [], _ :: _, h => h.elim
  | _ :: _, [], h => h.elim
theorem eqv_pairs : ∀ rs ss : List (Int × Int), PyData.eqvAll (rs.map pD) (ss.map pD) = decide (rs = ss)
  | [], [] => by simp [PyData.eqvAll]
  | [], _ :: _ => by simp [PyData.eqvAll]
  | _ :: _, [] => by simp [PyData.eqvAll]
  | (a, b) :: r, (c, d) :: t => by
    simp only [List.map_cons, PyData.eqvAll, eqv_pairs r t]
    by_cases h1 : a = c <;> by_cases h2 : b = d <;> by_cases h' : r = t <;> simp [pD, PyData.eqv, PyData.eqvAll, h1, h2, h']
/-- a list of rows stands at l -/
structure Rows (H : Hp) (l : Addr) (rs : List (Int × Int)) : Prop where
  ex : ∃ xs, H l = some (.lst xs) ∧ Pairs H xs rs
theorem Rows.same {H H' : Hp} {l : Addr} {rs : List (Int × Int)} (s : Same H H') (h : Rows H l rs) : Rows H' l rs := by
  obtain ⟨xs, e, p⟩ := h.ex
  exact ⟨xs, s _ _ e, p.same s⟩
theorem Rows.add {H : Hp} {l t : Addr} {xs : List V} {rs : List (Int × Int)} {i m : Int} (hl : H l = some (.lst xs)) (p : Pairs H xs rs) (ht : H t = some (.tup [.int i, .int m])) : Rows (upd H l (.lst (xs ++ [.ref t]))) l (rs ++ [(i, m)]) :=
  ⟨_, upd_same, (Pairs.snoc ht p).keep hl⟩
section
variable {X : Cx}
theorem op_eqPL (hu : X.A.units + 64 < cLine) : OpR X (compareOp .Eq) (fun x y H Q => ∃ (a b : Addr) (rs ss : List (Int × Int)), x = .ref a ∧ y = .ref b ∧ Rows H a rs ∧ Rows H b ss ∧ Q (.bl (decide (rs = ss))) H) := by
  intro pins s σ H x y v u Q I rx ry h
  obtain ⟨a, b, ns, ms, rfl, rfl, ⟨⟨xs, h1, p1⟩⟩, ⟨⟨ys, h2, p2⟩⟩, q⟩ := h
  refine op_eqD hu pins s σ H _ _ v u Q I rx ry ⟨_, _, .lst (SqL.of h1) p1.dp, .lst (SqL.of h2) p2.dp, shaped_pairs ns, shaped_pairs ms, ?_⟩
  rw [PyData.eqv, eqv_pairs]
  exact q
theorem op_nePL (hu : X.A.units + 64 < cLine) : OpR X (compareOp .NotEq) (fun x y H Q => ∃ (a b : Addr) (rs ss : List (Int × Int)), x = .ref a ∧ y = .ref b ∧ Rows H a rs ∧ Rows H b ss ∧ Q (.bl (!decide (rs = ss))) H) := by
  intro pins s σ H x y v u Q I rx ry h
  obtain ⟨a, b, ns, ms, rfl, rfl, ⟨⟨xs, h1, p1⟩⟩, ⟨⟨ys, h2, p2⟩⟩, q⟩ := h
  refine op_neD hu pins s σ H _ _ v u Q I rx ry ⟨_, _, .lst (SqL.of h1) p1.dp, .lst (SqL.of h2) p2.dp, shaped_pairs ns, shaped_pairs ms, ?_⟩
  rw [PyData.eqv, eqv_pairs]
  exact q
end
end TK
namespace TK
open PySem PySem.Spec PyProof.Rows L2
/-- the i-th number of a list -/
def nth (ns : List Int) (i : Nat) : Int := ns.getD i 0
theorem nth_get {ns : List Int} {i : Nat} (h : i < ns.length) : (ns.map V.int)[i]? = some (.int (nth ns i)) := by
  unfold nth
  rw [List.getElem?_map, List.getElem?_eq_getElem h, List.getD_eq_getElem?_getD, List.getElem?_eq_getElem h]
  rfl
theorem nth_of {ns : List Int} {i : Nat} {y : V} (h : (ns.map V.int)[i]? = some y) : i < ns.length ∧ y = .int (nth ns i) := by
  have hi : i < ns.length := by
    have := (List.getElem?_eq_some_iff.mp h).1
    rw [List.length_map] at this
    exact this
  refine ⟨hi, ?_⟩
  rw [nth_get hi] at h
  exact (Option.some.inj h).symm
theorem at_nth {ns : List Int} {z : Int} (h0 : 0 ≤ z) (h1 : z < ns.length) : atI (ns.map V.int) z = some (.int (nth ns z.toNat)) := at_of (j := z.toNat) (by omega) (nth_get (by omega))
end TK
namespace TK
open PySem PySem.Spec PyProof.Rows L2
/-- a loop over zip of two lists, the shorter one's length -/
theorem for_zipS {K : PySem.W.Frag} {a b : Addr} {xs ys : List V} {g : TG} {tb : TS} {D : Ends} {σ : L2.St} {H : Hp} {n : Nat} (hn : n = min xs.length ys.length) (Pv : Nat → L2.St → Hp → Prop) (h0 : Pv 0 σ H)
    (hq : ∀ i σ H, Pv i σ H → SqL K H a xs ∧ SqL K H b ys)
    (hs : ∀ i x y T σ H, xs[i]? = some x → ys[i]? = some y → Pv i σ H → H T = none → g (.ref T) σ (upd H T (.tup [x, y])) fun σ2 H2 => tb { D with nx := Pv (i + 1), ct := Pv (i + 1), bk := D.nx } σ2 H2)
    (hd : ∀ σ H, Pv n σ H → D.nx σ H) :
    ∃ W : Nat → Nat → L2.St → Hp → Prop, (∃ m, W 0 m σ H) ∧ ∀ i m σ H, W i m σ H →
      ((Itz K a b).stop i H ∧ D.nx σ H) ∨ ((Itz K a b).go i H ∧ ∃ N : L2.St → Hp → Prop, (∀ σ' H', N σ' H' → ∃ m', m' < m ∧ W (i + 1) m' σ' H') ∧ ∀ v H', (Itz K a b).yld i H v H' → g v σ H' fun σ2 H2 => tb { D with nx := N, ct := N, bk := D.nx } σ2 H2) := by
  refine ⟨fun i m σ H => m = n - i ∧ i ≤ n ∧ Pv i σ H, ⟨n, by simp, Nat.zero_le _, h0⟩, ?_⟩
  rintro i m σ H ⟨rfl, hi, p⟩
  obtain ⟨hA, hB⟩ := hq i σ H p
  by_cases hlt : i < n
  · have h1 : i < xs.length := by omega
    have h2 : i < ys.length := by omega
    have g1 := List.getElem?_eq_getElem h1
    have g2 := List.getElem?_eq_getElem h2
    refine .inr ⟨⟨_, _, _, _, hA, hB, g1, g2⟩, Pv (i + 1), fun σ' H' p' => ⟨n - (i + 1), by omega, rfl, hlt, p'⟩, fun v H' hy => ?_⟩
    obtain ⟨T, x1, x2, rfl, nT, rfl, f1, f2⟩ := hy
    have ex1 : x1 = xs[i] := Option.some.inj ((f1 _ hA).symm.trans g1)
    have ex2 : x2 = ys[i] := Option.some.inj ((f2 _ hB).symm.trans g2)
    subst ex1 ex2
    exact hs i _ _ T σ H g1 g2 p nT
  · have e : i = n := by omega
    subst e
    exact .inl ⟨⟨_, _, hA, hB, by omega⟩, hd σ H p⟩
/-- a and b as a test, where b may add to the heap: what comes of False is told once -/
theorem and_cut {c : Bool} {T2 : Hp → (Bool → Hp → Prop) → Prop} {R : Bool → Hp → Prop} {H5 : Hp} (hr : ∀ H6, Same H5 H6 → R false H6) (ht : c = true → (∀ H6, Same H5 H6 → R false H6) → T2 H5 R) : if c = true then T2 H5 R else R false H5 := by
  cases c with
  | true => exact iteT (ht rfl hr)
  | false => exact iteF (hr H5 (Same.refl H5))
theorem cutLast (xs : List V) : cutV xs none (some (-1)) = xs.dropLast := by
  unfold cutV
  rw [HT.sIx_none]
  show (xs.drop 0).take ((if (-1 : Int) < 0 then (-1 + (xs.length : Int)).toNat else min (-1 : Int).toNat xs.length) - 0) = _
  rw [if_pos (by decide), List.drop_zero, List.dropLast_eq_take, show (-1 + (xs.length : Int)).toNat - 0 = xs.length - 1 by omega]
end TK
namespace TK
open PySem PySem.Spec PyProof.Rows L2
/-- while, with a number that falls; what comes of a turn is told once -/
theorem while_m {c : TT} {tb : TS} {D : Ends} {σ : L2.St} {H : Hp} (Pv : Nat → L2.St → Hp → Prop) {m0 : Nat} (h0 : Pv m0 σ H)
    (hs : ∀ m σ H, Pv m σ H → ∀ Bt : Hp → Prop, (∀ H1, tb { D with nx := fun σ' H' => ∃ m', m' < m ∧ Pv m' σ' H', ct := fun σ' H' => ∃ m', m' < m ∧ Pv m' σ' H', bk := D.nx } σ H1 → Bt H1) →
      c σ H fun b H1 => if b = true then Bt H1 else D.nx σ H1) : tWhile c tb D σ H :=
  ⟨Pv, ⟨m0, h0⟩, fun m σ H p => hs m σ H p _ (fun H1 h => ⟨_, fun σ' H' x => x, h⟩)⟩
/-- numbers of a list of numbers, by place -/
theorem mapI {f : Nat → Int} {l : List Nat} : l.map (fun k => V.int (f k)) = (l.map f).map V.int := by
  rw [List.map_map]
  rfl
theorem kept_nil {p : Nat → Bool} : ∀ {n : Nat}, (∀ k, k < n → p k = false) → kept p n = []
  | 0, _ => rfl
  | n + 1, h => by
    rw [kept_succ, if_neg (by rw [h n (by omega)]; decide)]
    exact kept_nil (fun k hk => h k (by omega))
theorem kept_last {p : Nat → Bool} {d n : Nat} (hp : p d = true) (hd : d < n) (hn : ∀ k, d < k → k < n → p k = false) : ∃ r, kept p n = r ++ [d] := by
  induction n with
  | zero => omega
  | succ n ih =>
    rw [kept_succ]
    by_cases e : d = n
    · subst e
      rw [if_pos hp]
      exact ⟨_, rfl⟩
    · rw [if_neg (by rw [hn n (by omega) (by omega)]; decide)]
      exact ih (by omega) (fun k h1 h2 => hn k h1 (by omega))
end TK
/-! ### comprehensions with a test, over lists and tuples -/
namespace TK
open PySem PySem.Spec PyProof.Rows L2
section
variable {K : PySem.W.Frag} {a : Addr} {g : TG} {tt : TT} {te : TE} {vs : List Nat} {σ : L2.St} {H : Hp} {D : Addr} {Qd : Hp → Prop}
theorem lc_itF {J : It} {xs : List V} {p : Nat → Bool} {f : Nat → V} (hD : H D = none) (jg : ∀ i H', Same H H' → i < xs.length → J.go i H') (jy : ∀ i H' x H'', Same H H' → J.yld i H' x H'' → H'' = H' ∧ xs[i]? = some x) (js : ∀ H', Same H H' → J.stop xs.length H') (sz : xs.length ≤ sizeLine)
    (hs : ∀ (i : Nat) (x : V) (R : V → Hp → Prop) (F : Hp → Prop), xs[i]? = some x → (p i = true → R (f i) (upd H D (.lst ((kept p i).map f)))) → (p i = false → F (upd H D (.lst ((kept p i).map f)))) →
      g x (wipe σ vs) (upd H D (.lst ((kept p i).map f))) fun σ2 H2 => wipe σ2 vs = wipe σ vs ∧ tt σ2 H2 fun b H3 => if b = true then te σ2 H3 R else F H3)
    (hd : Qd (upd H D (.lst ((kept p xs.length).map f)))) :
    ∃ W : Nat → Nat → Hp → Prop, (∃ m, W 0 m (upd H D (.lst []))) ∧ ∀ i m H, W i m H →
      (J.stop i H ∧ Qd H) ∨ (J.go i H ∧ ∃ Nx : Hp → Prop, (∀ H', Nx H' → ∃ m', m' < m ∧ W (i + 1) m' H') ∧ ∀ x H', J.yld i H x H' → g x (wipe σ vs) H' fun σ2 H2 => wipe σ2 vs = wipe σ vs ∧ tt σ2 H2 fun b H3 =>
        if b = true then te σ2 H3 fun y H4 => ∃ acc, H4 D = some (.lst acc) ∧ acc.length < sizeLine ∧ Nx (upd H4 D (.lst (acc ++ [y]))) else Nx H3) := by
  refine ⟨fun i m H' => i + m = xs.length ∧ H' = upd H D (.lst ((kept p i).map f)), ⟨xs.length, by omega, rfl⟩, fun i m H' hW => ?_⟩
  obtain ⟨em, e⟩ := hW
  have sm : Same H H' := by
    subst e
    exact same_upd hD
  by_cases hi : i < xs.length
  · refine .inr ⟨jg i H' sm hi, fun H'' => H'' = upd H D (.lst ((kept p (i + 1)).map f)), fun H'' hN => ⟨m - 1, by omega, by omega, hN⟩, fun x H'' hy => ?_⟩
    obtain ⟨e1, hx⟩ := jy i H' x H'' sm hy
    subst e1 e
    refine hs i x _ _ hx (fun hp => ⟨(kept p i).map f, upd_same, ?_, ?_⟩) (fun hp => ?_)
    · have := kept_len p i
      rw [List.length_map]
      omega
    · rw [upd_upd, kept_succ, if_pos hp, List.map_append]
      rfl
    · rw [kept_succ, if_neg (by rw [hp]; decide)]
  · have ei : i = xs.length := by omega
    subst ei e
    exact .inl ⟨js _ sm, hd⟩
theorem lc_listF {xs : List V} {p : Nat → Bool} {f : Nat → V} (hD : H D = none) (hl : SqL K H a xs) (sz : xs.length ≤ sizeLine)
    (hs : ∀ (i : Nat) (x : V) (R : V → Hp → Prop) (F : Hp → Prop), xs[i]? = some x → (p i = true → R (f i) (upd H D (.lst ((kept p i).map f)))) → (p i = false → F (upd H D (.lst ((kept p i).map f)))) →
      g x (wipe σ vs) (upd H D (.lst ((kept p i).map f))) fun σ2 H2 => wipe σ2 vs = wipe σ vs ∧ tt σ2 H2 fun b H3 => if b = true then te σ2 H3 R else F H3)
    (hd : Qd (upd H D (.lst ((kept p xs.length).map f)))) :
    ∃ W : Nat → Nat → Hp → Prop, (∃ m, W 0 m (upd H D (.lst []))) ∧ ∀ i m H, W i m H →
      ((Itl K a).stop i H ∧ Qd H) ∨ ((Itl K a).go i H ∧ ∃ Nx : Hp → Prop, (∀ H', Nx H' → ∃ m', m' < m ∧ W (i + 1) m' H') ∧ ∀ x H', (Itl K a).yld i H x H' → g x (wipe σ vs) H' fun σ2 H2 => wipe σ2 vs = wipe σ vs ∧ tt σ2 H2 fun b H3 =>
        if b = true then te σ2 H3 fun y H4 => ∃ acc, H4 D = some (.lst acc) ∧ acc.length < sizeLine ∧ Nx (upd H4 D (.lst (acc ++ [y]))) else Nx H3) :=
  lc_itF (J := Itl K a) hD (fun i H' sm hi => ⟨xs, _, sm.seq hl, List.getElem?_eq_getElem hi⟩) (fun i H' x H'' sm hy => ⟨hy.1, hy.2 _ (sm.seq hl)⟩) (fun H' sm => ⟨xs, sm.seq hl, Nat.le_refl _⟩) sz hs hd
theorem lc_tupF {xs : List V} {p : Nat → Bool} {f : Nat → V} (hD : H D = none) (hl : H a = some (.tup xs)) (sz : xs.length ≤ sizeLine)
    (hs : ∀ (i : Nat) (x : V) (R : V → Hp → Prop) (F : Hp → Prop), xs[i]? = some x → (p i = true → R (f i) (upd H D (.lst ((kept p i).map f)))) → (p i = false → F (upd H D (.lst ((kept p i).map f)))) →
      g x (wipe σ vs) (upd H D (.lst ((kept p i).map f))) fun σ2 H2 => wipe σ2 vs = wipe σ vs ∧ tt σ2 H2 fun b H3 => if b = true then te σ2 H3 R else F H3)
    (hd : Qd (upd H D (.lst ((kept p xs.length).map f)))) :
    ∃ W : Nat → Nat → Hp → Prop, (∃ m, W 0 m (upd H D (.lst []))) ∧ ∀ i m H, W i m H →
      ((Itt K a).stop i H ∧ Qd H) ∨ ((Itt K a).go i H ∧ ∃ Nx : Hp → Prop, (∀ H', Nx H' → ∃ m', m' < m ∧ W (i + 1) m' H') ∧ ∀ x H', (Itt K a).yld i H x H' → g x (wipe σ vs) H' fun σ2 H2 => wipe σ2 vs = wipe σ vs ∧ tt σ2 H2 fun b H3 =>
        if b = true then te σ2 H3 fun y H4 => ∃ acc, H4 D = some (.lst acc) ∧ acc.length < sizeLine ∧ Nx (upd H4 D (.lst (acc ++ [y]))) else Nx H3) :=
  lc_itF (J := Itt K a) hD (fun i H' sm hi => ⟨xs, _, SqT.of (sm _ _ hl), List.getElem?_eq_getElem hi⟩) (fun i H' x H'' sm hy => ⟨hy.1, hy.2 _ (SqT.of (sm _ _ hl))⟩) (fun H' sm => ⟨xs, SqT.of (sm _ _ hl), Nat.le_refl _⟩) sz hs hd
end
end TK
namespace TK
open PySem PySem.Spec PyProof.Rows L2
/-- a loop over enumerate of a list -/
theorem for_enumS {K : PySem.W.Frag} {a : Addr} {xs : List V} {g : TG} {tb : TS} {D : Ends} {σ : L2.St} {H : Hp} (Pv : Nat → L2.St → Hp → Prop) (h0 : Pv 0 σ H)
    (hq : ∀ i σ H, Pv i σ H → SqL K H a xs)
    (hs : ∀ i x T σ H, xs[i]? = some x → Pv i σ H → H T = none → g (.ref T) σ (upd H T (.tup [.int (i : Nat), x])) fun σ2 H2 => tb { D with nx := Pv (i + 1), ct := Pv (i + 1), bk := D.nx } σ2 H2)
    (hd : ∀ σ H, Pv xs.length σ H → D.nx σ H) :
    ∃ W : Nat → Nat → L2.St → Hp → Prop, (∃ m, W 0 m σ H) ∧ ∀ i m σ H, W i m σ H →
      ((Ite K a).stop i H ∧ D.nx σ H) ∨ ((Ite K a).go i H ∧ ∃ N : L2.St → Hp → Prop, (∀ σ' H', N σ' H' → ∃ m', m' < m ∧ W (i + 1) m' σ' H') ∧ ∀ v H', (Ite K a).yld i H v H' → g v σ H' fun σ2 H2 => tb { D with nx := N, ct := N, bk := D.nx } σ2 H2) := by
  refine ⟨fun i m σ H => m = xs.length - i ∧ i ≤ xs.length ∧ Pv i σ H, ⟨xs.length, by simp, Nat.zero_le _, h0⟩, ?_⟩
  rintro i m σ H ⟨rfl, hi, p⟩
  have hA := hq i σ H p
  by_cases hlt : i < xs.length
  · have g1 := List.getElem?_eq_getElem hlt
    refine .inr ⟨⟨_, _, hA, g1⟩, Pv (i + 1), fun σ' H' p' => ⟨xs.length - (i + 1), by omega, rfl, hlt, p'⟩, fun v H' hy => ?_⟩
    obtain ⟨T, x1, rfl, nT, rfl, f1⟩ := hy
    have ex1 : x1 = xs[i] := Option.some.inj ((f1 _ hA).symm.trans g1)
    subst ex1
    exact hs i _ T σ H g1 p nT
  · have e : i = xs.length := by omega
    subst e
    exact .inl ⟨⟨_, hA, by omega⟩, hd σ H p⟩
/-- a and b as a test, where b may change the heap: what comes of False is told once -/
theorem and_cutP {c : Bool} {T2 : Hp → (Bool → Hp → Prop) → Prop} {R : Bool → Hp → Prop} {H5 : Hp} (P : Hp → Prop) (h5 : P H5) (hr : ∀ H6, P H6 → R false H6) (ht : c = true → (∀ H6, P H6 → R false H6) → T2 H5 R) : if c = true then T2 H5 R else R false H5 := by
  cases c with
  | true => exact iteT (ht rfl hr)
  | false => exact iteF (hr H5 h5)
theorem ofF {A B : Prop} (h : if false = true then A else B) : B := by simpa using h
end TK
namespace TK
open PySem PySem.Spec PyProof.Rows L2
/-- an if whose two ways go on alike: what follows is told once -/
theorem ifs_cut {c : Bool} {tb tb2 : TS} {D : Ends} {σ : L2.St} {H : Hp} (Inv : L2.St → Hp → Prop) (hR : ∀ σ' H', Inv σ' H' → D.nx σ' H')
    (ht : c = true → (∀ σ' H', Inv σ' H' → D.nx σ' H') → tb D σ H) (he : c = false → (∀ σ' H', Inv σ' H' → D.nx σ' H') → tb2 D σ H) : if c = true then tb D σ H else tb2 D σ H := by
  cases c with
  | true => exact iteT (ht rfl hR)
  | false => exact iteF (he rfl hR)
end TK

namespace My
open PySem PySem.Spec PyProof.Rows L2 TK
def topS (i : Nat) : Stmt := PySem.Challenge.pw_timekernel_k02_least_histories.main.body.getD i (.Pass ⟨0, 0, 0, 0⟩)
structure Txt (mg : Str → Option Value) : Prop where
  len : mg "len" = none
  int : mg "int" = none
  range : mg "range" = none
  isinstance : mg "isinstance" = none
  bool : mg "bool" = none
  tuple : mg "tuple" = none
  list : mg "list" = none
  all : mg "all" = none
  max : mg "max" = none
  min : mg "min" = none
  sum : mg "sum" = none
  zip : mg "zip" = none
  mgMOST_WIDTH : ∃ t, mg "MOST_WIDTH" = some (.int (64) t)
local macro_rules | `(tactic| walk_at "side") => `(tactic| first
  | with_reducible assumption
  | omega
  | (simp only [List.length_map]; omega)
  | ((with_reducible refine posLen ?h); (case h => exact rfl))
  | ((with_reducible refine ltLen ?h); (case h => exact rfl))
  | (show (0 : Int) < _; omega)
  | (show (0 : Int) ≤ _; omega)
  | with_reducible exact Dr.src (by assumption)
  | ((with_reducible refine Src.new ?h1 ?h2); (case h2 => assumption); (case h1 => walk_at "side"))
  | ((with_reducible refine Src.set ?h1 ?h2); (case h2 => assumption); (case h1 => walk_at "side"))
  | exact w200 (by omega) (by omega)
  | exact shl400 (by omega) (by omega) (by omega)
  | exact mulE1 (by omega) (by omega)
  | exact mulE2 (by omega) (by omega)
  | exact mulE3 (by omega) (by omega)
  | exact Or.inr ⟨by omega, by omega⟩
  | exact Or.inl ⟨by omega, by omega⟩
  | exact Or.inr ⟨by decide, by decide⟩
  | exact Or.inl ⟨by decide, by decide⟩
  | exact rfl
  | exact ⟨by omega, by omega, by omega⟩
  | exact ⟨by decide, by decide, by decide⟩
  | exact Nat.le_of_ble_eq_true rfl)
local macro_rules | `(tactic| walk_at "has") => `(tactic| first
  | with_reducible assumption
  | with_reducible exact upd_same
  | ((with_reducible refine upd_at ?h1 ?h2); (case h2 => assumption); (case h1 => walk_at "has"))
  | (refine Dr.at (by assumption) ?h1 ?h2; (case h1 => assumption); (case h2 => walk_at "has")))
local macro_rules | `(tactic| walk_at "sql") => `(tactic| first | assumption | exact SqL.of (by walk_at "has"))
local macro_rules | `(tactic| walk_at "sqt") => `(tactic| first | assumption | exact SqT.of (by walk_at "has"))
local macro_rules | `(tactic| walk_at "ty") => `(tactic| first | exact .base (.int _) | exact .base .non | exact .base (.bl _) | exact .base (.str _) | exact .base (.tup (by walk_at "has")) | exact .base (.lst (by walk_at "has")) | exact .base (.dK (by walk_at "has")))
local macro_rules | `(tactic| walk_at "go1") => `(tactic| first
  | refine ⟨_, rfl, ?_⟩
  | refine ⟨_, _, rfl, rfl, ?_⟩
  | (refine And.intro ?side ?_; (case side => walk_at "side"))
  | (refine ⟨?rr, IsR.mk ?eq, ?_⟩; (case eq => first | (conv => lhs; simp only [Int.reduceToNat, Int.reducePow, Int.reduceMul, Int.one_mul]) | rfl))
  | (refine Or.inl ⟨_, rfl, ?_⟩)
  | refine iteT ?_
  | refine iteF ?_
  | refine ⟨_, _, rfl, ?_⟩
  | refine ⟨_, _, rfl, Or.inl (by walk_at "sql"), ?_⟩
  | refine ⟨_, _, rfl, Or.inr (by walk_at "sqt"), ?_⟩
  | refine ⟨_, _, _, rfl, ?_⟩
  | refine ⟨_, _, _, _, rfl, rfl, by walk_at "sql", rfl, ?_⟩
  | refine ⟨_, _, _, _, rfl, rfl, by walk_at "sqt", rfl, ?_⟩
  | refine ⟨_, _, _, _, rfl, rfl, by walk_at "has", rfl, ?_⟩
  | refine ⟨_, _, _, _, _, rfl, .ty _, by walk_at "ty", kit_ty (r := true) (by decide +kernel), ?_⟩
  | refine ⟨_, _, _, _, _, rfl, .ty _, by walk_at "ty", kit_ty (r := false) (by decide +kernel), ?_⟩
  | refine ⟨_, _, rfl, by walk_at "sqt", rfl, ?_⟩
  | refine And.intro (Or.inl ⟨rfl, _, by walk_at "sql"⟩) ?_
  | refine ⟨_, _, _, rfl, rfl, by walk_at "has", Nat.le_of_ble_eq_true rfl, ?_⟩
  | refine ⟨_, _, _, _, rfl, rfl, by walk_at "has", by walk_at "has", Nat.le_of_ble_eq_true rfl, ?_⟩
  | refine And.intro ⟨_, by walk_at "sql"⟩ ?_
  | refine ⟨_, _, _, _, rfl, rfl, by walk_at "sql", at_nth (by omega) (by omega), ?_⟩
  | refine ⟨_, _, rfl, by walk_at "sql", ?_⟩
  | refine ifD (by omega) ?_
  | refine ifN (by omega) ?_
  | refine ifDn (by omega) ?_
  | refine ifNn (by omega) ?_
  | refine ifE (by omega) ?_
  | refine ifEn (by omega) ?_)
local macro_rules | `(tactic| walk_at "go") => `(tactic| repeat walk_at "go1")

/-! ### draws -/
def spCell (K : PySem.W.Frag) : Sp := fun vs H Q _ => ∃ (a : Addr) (ns : List Int) (k : Int), vs = [.ref a, .int k] ∧ SqL K H a (ns.map V.int) ∧ 0 ≤ k ∧ ∀ c : Int, Q (.int c) H
def spMixed : Sp := fun vs H Q _ => ∃ (c k : Int), vs = [.int c, .int k] ∧ ∀ r : Int, 0 ≤ r → r < 2147483563 → Q (.int r) H
def spSource (K : PySem.W.Frag) : Sp := fun vs H Q _ => ∃ (a : Addr) (ns : List Int) (k : Int), vs = [.ref a, .int k] ∧ SqL K H a (ns.map V.int) ∧ 0 ≤ k ∧ ∀ (p : Addr) (x y n : Int), H p = none → Q (.ref p) (upd H p (.lst [.int x, .int y, .int n]))
def spNext : Sp := fun vs H Q _ => ∃ (a : Addr) (m : Int), vs = [.ref a, .int m] ∧ Src H a ∧ 0 < m ∧ m  < 1606938044258990275541962092341162602522202993782792835301376 ∧ ∀ (r : Int) (H' : Hp), 0 ≤ r → r < m → Dr a H H' → Q (.int r) H'
section
variable {P : Program} {w : World} {K : PySem.W.Frag} {mg : Str → Option Value} {base : Heap}
abbrev sLCellAt : Stmt := topS 19
theorem scLCellAt : FnScope ["script", "k"] ["script", "k"] (defScope sLCellAt) := ⟨rfl, rfl, rfl, by decide +kernel, rfl, by decide +kernel, by decide +kernel⟩
set_option maxHeartbeats 2000000 in
theorem ok_LCellAt (D : DefAt K mg "_law_cell_at" sLCellAt ["script", "k"])  (T : Txt mg) : Cal P w K mg base "_law_cell_at" ["script", "k"] 1 (spCell K) := by
  refine D.cal scLCellAt (fun vs H Q E h => (by (obtain ⟨_, _, _, rfl, _⟩ := h); rfl)) (fun f cdv A outer s H vs Q E hr h => ?_)
  obtain ⟨a, ns, k, rfl, hS, h0, q⟩ := h
  refine ⟨_, pss_cons (ps_if (pt_cmpR op_lt (pv 1) (pe_callB call_len_seq (by rfl) T.len PySem.boot_len (pa_cons (pv 0) pa_nil)) (nomark _))
        (pss_one (ps_ret (pe_ix ix_list (pv 0) (pv 1) (fun _ _ => rfl))))
        pss_nil)
      (pss_one (ps_ret pe_int)), ?_⟩
  refine ⟨_, rfl, .ref a, rfl, a, _, rfl, .inl hS, _, _, rfl, rfl, _, rfl, ite2 (fun e => ?_) (fun e => ?_)⟩
  · have e1 : k < ((ns.map V.int).length : Int) := of_decide_eq_true e
    rw [List.length_map] at e1
    have hk : k.toNat < ns.length := by omega
    refine ⟨.ref a, rfl, _, rfl, a, _, k, .int (ns[k.toNat]), rfl, rfl, hS, at_of (j := k.toNat) (by omega) ?_, ?_⟩
    · rw [List.getElem?_map, List.getElem?_eq_getElem hk]
      rfl
    · exact q _
  · exact q _
abbrev sLMixed : Stmt := topS 20
theorem scLMixed : FnScope ["cell", "k", "low"] ["cell", "k"] (defScope sLMixed) := ⟨rfl, rfl, rfl, by decide +kernel, rfl, by decide +kernel, by decide +kernel⟩
set_option maxHeartbeats 2000000 in
theorem ok_LMixed (D : DefAt K mg "_law_mixed" sLMixed ["cell", "k"])  (T : Txt mg) : Cal P w K mg base "_law_mixed" ["cell", "k"] 1 (spMixed) := by
  refine D.cal scLMixed (fun vs H Q E h => (by (obtain ⟨_, _, rfl, _⟩ := h); rfl)) (fun f cdv A outer s H vs Q E hr h => ?_)
  obtain ⟨c, k, rfl, q⟩ := h
  refine ⟨_, pss_cons (ps_set (i := 2) scLMixed.nd rfl (Or.inl rfl) (pe_op op_add (pe_op op_mod (pe_callTy call_int1 (by rfl) T.int (by decide +kernel) (pa_cons (pv 0) pa_nil)) pe_int) (pe_op op_mulE (pe_op op_fdivW (pv 0) pe_int) pe_int)))
      (pss_cons (ps_set (i := 2) scLMixed.nd rfl (Or.inl rfl) (pe_op op_mod (pe_callTy call_int1 (by rfl) T.int (by decide +kernel) (pa_cons (pe_op op_mulE (pe_op op_add (pe_op op_add (pv 2) (pe_op op_mulE pe_int (pv 1))) pe_int) pe_int) pa_nil)) pe_int))
      (pss_cons (ps_set (i := 2) scLMixed.nd rfl (Or.inl rfl) (pe_op op_mod (pe_callTy call_int1 (by rfl) T.int (by decide +kernel) (pa_cons (pe_op op_mulE (pv 2) (pe_op op_add (pe_op op_add (pe_op op_fdivW (pv 2) pe_int) pe_int) (pv 1))) pa_nil)) pe_int))
      (pss_one (ps_ret (pe_op op_mod (pe_callTy call_int1 (by rfl) T.int (by decide +kernel) (pa_cons (pe_op op_mulE (pv 2) (pe_op op_add (pe_op op_fdivW (pv 2) pe_int) pe_int)) pa_nil)) pe_int))))), ?_⟩
  walk_at "go"
  exact q _ (Int.emod_nonneg _ (by decide)) (Int.emod_lt_of_pos _ (by decide))
abbrev sLSource : Stmt := topS 21
theorem scLSource : FnScope ["script", "k", "cell"] ["script", "k"] (defScope sLSource) := ⟨rfl, rfl, rfl, by decide +kernel, rfl, by decide +kernel, by decide +kernel⟩
set_option maxHeartbeats 2000000 in
theorem ok_LSource (D : DefAt K mg "_law_source" sLSource ["script", "k"]) (CLMixed : Cal P w K mg base "_law_mixed" ["cell", "k"] 1 (spMixed)) (CLCellAt : Cal P w K mg base "_law_cell_at" ["script", "k"] 1 (spCell K)) (T : Txt mg) : Cal P w K mg base "_law_source" ["script", "k"] 2 (spSource K) := by
  refine D.cal scLSource (fun vs H Q E h => (by (obtain ⟨_, _, _, rfl, _⟩ := h); rfl)) (fun f cdv A outer s H vs Q E hr h => ?_)
  obtain ⟨a, ns, k, rfl, hS, h0, q⟩ := h
  refine ⟨_, pss_cons (ps_if (pt_cmpR op_lt (pv 1) (pe_callB call_len_seq (by rfl) T.len PySem.boot_len (pa_cons (pv 0) pa_nil)) (nomark _))
        (pss_one (ps_ret (pe_lst (pa_cons (pe_ix ix_list (pv 0) (pv 1) (fun _ _ => rfl)) (pa_cons (pe_ix ix_list (pv 0) (pv 1) (fun _ _ => rfl)) (pa_cons pe_int pa_nil))))))
        pss_nil)
      (pss_cons (ps_set (i := 2) scLSource.nd rfl (Or.inl rfl) (pe_cal CLMixed hr (by rfl) (pa_cons (pe_cal CLCellAt hr (by rfl) (pa_cons (pv 0) (pa_cons pe_int pa_nil))) (pa_cons (pe_op op_add pe_int (pv 1)) pa_nil))))
      (pss_one (ps_ret (pe_lst (pa_cons (pv 2) (pa_cons (pv 2) (pa_cons pe_int pa_nil))))))), ?_⟩
  walk_at "go"
  refine ite2 (fun e => ?_) (fun e => ?_)
  · have e1 : k < ((ns.map V.int).length : Int) := of_decide_eq_true e
    rw [List.length_map] at e1
    have hk : k.toNat < ns.length := by omega
    have hv : (ns.map V.int)[k.toNat]? = some (.int (ns[k.toNat])) := by
      rw [List.getElem?_map, List.getElem?_eq_getElem hk]
      rfl
    have ek : k = (k.toNat : Int) := by omega
    refine ⟨.ref a, rfl, _, rfl, a, _, k, .int (ns[k.toNat]), rfl, rfl, hS, at_of ek hv, ?_⟩
    refine ⟨.ref a, rfl, _, rfl, a, _, k, .int (ns[k.toNat]), rfl, rfl, hS, at_of ek hv, ?_⟩
    walk_at "go"
    intro p hp
    exact q p _ _ _ hp
  · refine ⟨_, rfl, a, ns, 0, rfl, hS, by omega, fun c => ?_⟩
    walk_at "go"
    intro r r0 r1
    walk_at "go"
    intro p hp
    exact q p _ _ _ hp
abbrev sLNext : Stmt := topS 22
theorem scLNext : FnScope ["source", "many", "found"] ["source", "many"] (defScope sLNext) := ⟨rfl, rfl, rfl, by decide +kernel, rfl, by decide +kernel, by decide +kernel⟩
set_option maxHeartbeats 2000000 in
theorem ok_LNext (D : DefAt K mg "_law_next" sLNext ["source", "many"]) (CLMixed : Cal P w K mg base "_law_mixed" ["cell", "k"] 1 (spMixed)) (T : Txt mg) : Cal P w K mg base "_law_next" ["source", "many"] 2 (spNext) := by
  refine D.cal scLNext (fun vs H Q E h => (by (obtain ⟨_, _, rfl, _⟩ := h); rfl)) (fun f cdv A outer s H vs Q E hr h => ?_)
  obtain ⟨a, m, rfl, ⟨x, y, n, hS⟩, h0, h1, q⟩ := h
  refine ⟨_, pss_cons (ps_if (pt_cmpR op_ge (pe_ix ix_list (pv 0) pe_int (fun _ _ => rfl)) (pe_op op_powE pe_int pe_int) (nomark _))
        (pss_cons (ps_set (i := 2) scLNext.nd rfl (Or.inl rfl) (pe_op op_mod (pe_callTy call_int1 (by rfl) T.int (by decide +kernel) (pa_cons (pe_ix ix_list (pv 0) pe_int (fun _ _ => rfl)) pa_nil)) (pv 1)))
        (pss_cons (ps_asg (pe_op op_fdivW (pe_ix ix_list (pv 0) pe_int (fun _ _ => rfl)) (pv 1)) (pg_sub (pv 0) pe_int set_list))
        (pss_one (ps_ret (pv 2)))))
        pss_nil)
      (pss_cons (ps_asg (pe_op op_add (pe_ix ix_list (pv 0) pe_int (fun _ _ => rfl)) pe_int) (pg_sub (pv 0) pe_int set_list))
      (pss_one (ps_ret (pe_op op_mod (pe_callTy call_int1 (by rfl) T.int (by decide +kernel) (pa_cons (pe_cal CLMixed hr (by rfl) (pa_cons (pe_ix ix_list (pv 0) pe_int (fun _ _ => rfl)) (pa_cons (pe_ix ix_list (pv 0) pe_int (fun _ _ => rfl)) pa_nil))) pa_nil)) (pv 1))))), ?_⟩
  walk_at "go"
  refine ite2 (fun e => ?_) (fun e => ?_)
  · walk_at "go"
    refine q _ _ (Int.emod_nonneg _ (by omega)) (Int.emod_lt_of_pos _ h0) ⟨⟨_, _, _, upd_same⟩, sb_upd⟩
  · walk_at "go"
    intro r r0 r1
    walk_at "go"
    exact q _ _ (Int.emod_nonneg _ (by omega)) (Int.emod_lt_of_pos _ h0) ⟨⟨_, _, _, upd_same⟩, sb_upd⟩

def spWithin : Sp := fun vs H Q _ => ∃ (x l g : Int), vs = [.int x, .int l, .int g] ∧ Q (.bl (decide (l ≤ x ∧ x ≤ g))) H
def spAtLeast : Sp := fun vs H Q _ => ∃ (x l : Int), vs = [.int x, .int l] ∧ Q (.bl (decide (l ≤ x))) H
def spIsInt : Sp := fun vs H Q _ => ∃ (x : Int), vs = [.int x] ∧ Q (.bl true) H
def spNat : Sp := fun vs H Q _ => ∃ (x : Int), vs = [.int x] ∧ 0 ≤ x ∧ Q .non H

/-! ### the program: counters -/
def spWidth : Sp := fun vs H Q _ => ∃ (x : Int), vs = [.int x] ∧ 1 ≤ x ∧ x ≤ 64 ∧ Q .non H
/-- looks: a list of cycles that do not fall -/
structure Looks (ns : List Int) : Prop where
  ne : 0 < ns.length
  few : ns.length ≤ 1000
  z : 0 ≤ nth ns 0
  big : ∀ i, i < ns.length → nth ns i < 1606938044258990275541962092341162602522202993782792835301376
  up : ∀ i, i + 1 < ns.length → nth ns i ≤ nth ns (i + 1)
theorem Looks.low {ns : List Int} (L : Looks ns) : ∀ i, i < ns.length → 0 ≤ nth ns i
  | 0, _ => L.z
  | i + 1, h => Int.le_trans (L.low i (by omega)) (L.up i h)
def spLooks : Sp := fun vs H Q _ => ∃ (l : Addr) (ns : List Int), vs = [.ref l] ∧ H l = some (.lst (ns.map V.int)) ∧ Looks ns ∧ Q .non H
/-- how far the looks are apart -/
def gap (ns : List Int) (i : Nat) : Int := nth ns (i + 1) - nth ns i
def modF (W : Int) (ns : List Int) : List Int := ns.map (fun x => x % W)
theorem modF_nth {W : Int} {ns : List Int} {i : Nat} (h : i < ns.length) : nth (modF W ns) i = nth ns i % W := by
  unfold nth modF
  rw [List.getD_eq_getElem?_getD, List.getElem?_map, List.getElem?_eq_getElem h, List.getD_eq_getElem?_getD, List.getElem?_eq_getElem h]
  rfl
def cntF (W : Int) (ns : List Int) : Int := (tab (fun i => gap ns i % W) (ns.length - 1)).sum
def rowsF (d : Nat → Int) : Nat → List (Int × Int)
  | 0 => []
  | k + 1 => rowsF d k ++ (if 0 < d k then [(1 + (k : Int), d k)] else [])
theorem rowsF_len (d : Nat → Int) : ∀ n, (rowsF d n).length ≤ n
  | 0 => Nat.le_refl _
  | n + 1 => by
    have := rowsF_len d n
    unfold rowsF
    rw [List.length_append]
    split
    · rw [List.length_singleton]
      omega
    · rw [List.length_nil]
      omega
def lostF (W : Int) (ns : List Int) : List (Int × Int) := rowsF (fun i => gap ns i / W * W) (ns.length - 1)
def spCycles : Sp := fun vs H Q _ => ∃ (l : Addr) (ns : List Int), vs = [.ref l] ∧ H l = some (.lst (ns.map V.int)) ∧ Looks ns ∧ Q (.bl true) H
def spShown : Sp := fun vs H Q _ => ∃ (w : Int) (l : Addr) (ns : List Int), vs = [.int w, .ref l] ∧ 1 ≤ w ∧ w ≤ 64 ∧ H l = some (.lst (ns.map V.int)) ∧ Looks ns ∧ ∀ p, H p = none → Q (.ref p) (upd H p (.lst ((modF (2 ^ w.toNat) ns).map V.int)))
def spCounted : Sp := fun vs H Q _ => ∃ (w : Int) (l : Addr) (ns : List Int), vs = [.int w, .ref l] ∧ 1 ≤ w ∧ w ≤ 64 ∧ H l = some (.lst (ns.map V.int)) ∧ Looks ns ∧ ∀ H', Same H H' → Q (.int (cntF (2 ^ w.toNat) ns)) H'
def spLost : Sp := fun vs H Q _ => ∃ (w : Int) (l : Addr) (ns : List Int), vs = [.int w, .ref l] ∧ 1 ≤ w ∧ w ≤ 64 ∧ H l = some (.lst (ns.map V.int)) ∧ Looks ns ∧ ∀ H' p, Same H H' → H p = none → Rows H' p (lostF (2 ^ w.toNat) ns) → Q (.ref p) H'
theorem shl_one {s : Int} (h0 : 0 ≤ s) (h1 : s ≤ 64) : (2 : Int) ^ s.toNat ≤ 18446744073709551616 := by
  have h : s.toNat ≤ 64 := by omega
  have := Nat.pow_le_pow_right (n := 2) (by decide) h
  rw [← PySem.W.kbt_cast]
  omega
abbrev sIsInteger : Stmt := topS 6
theorem scIsInteger : FnScope ["thing"] ["thing"] (defScope sIsInteger) := ⟨rfl, rfl, rfl, by decide +kernel, rfl, by decide +kernel, by decide +kernel⟩
set_option maxHeartbeats 2000000 in
theorem ok_IsInteger (D : DefAt K mg "is_integer" sIsInteger ["thing"])  (T : Txt mg) : Cal P w K mg base "is_integer" ["thing"] 1 (spIsInt) := by
  refine D.cal scIsInteger (fun vs H Q E h => (by (obtain ⟨_, rfl, _⟩ := h); rfl)) (fun f cdv A outer s H vs Q E hr h => ?_)
  obtain ⟨x, rfl, q⟩ := h
  refine ⟨_, pss_one (ps_ret (pe_and (pe_callB call_isi (by rfl) T.isinstance (by decide +kernel) (pa_cons (pv 0) (pa_cons (pe_bltn (v := .ty "int") (u := .type "int") (by rfl) T.int (by decide +kernel) rfl) pa_nil))) (pe_one (pe_not (pe_callB call_isi (by rfl) T.isinstance (by decide +kernel) (pa_cons (pv 0) (pa_cons (pe_bltn (v := .ty "bool") (u := .type "bool") (by rfl) T.bool (by decide +kernel) rfl) pa_nil))))))), ?_⟩
  walk_at "go"
  exact q
abbrev sIsWithin : Stmt := topS 7
theorem scIsWithin : FnScope ["thing", "least", "greatest"] ["thing", "least", "greatest"] (defScope sIsWithin) := ⟨rfl, rfl, rfl, by decide +kernel, rfl, by decide +kernel, by decide +kernel⟩
set_option maxHeartbeats 2000000 in
theorem ok_IsWithin (D : DefAt K mg "is_within" sIsWithin ["thing", "least", "greatest"]) (CIsInteger : Cal P w K mg base "is_integer" ["thing"] 1 (spIsInt)) (T : Txt mg) : Cal P w K mg base "is_within" ["thing", "least", "greatest"] 2 (spWithin) := by
  refine D.cal scIsWithin (fun vs H Q E h => (by (obtain ⟨_, _, _, rfl, _⟩ := h); rfl)) (fun f cdv A outer s H vs Q E hr h => ?_)
  obtain ⟨x, l, g, rfl, q⟩ := h
  refine ⟨_, pss_one (ps_ret (pe_and (pe_cal CIsInteger hr (by rfl) (pa_cons (pv 0) pa_nil)) (pe_one (pe_chain op_le op_le (pv 1) (pv 0) (pv 2))))), ?_⟩
  walk_at "go"
  refine ite2 (fun e => ?_) (fun e => ?_)
  · walk_at "go"
    have e1 : l ≤ x := of_decide_eq_true e
    have e2 : (decide (l ≤ x ∧ x ≤ g)) = decide (x ≤ g) := by
      by_cases h : x ≤ g <;> simp [e1, h]
    rw [e2] at q
    exact q
  · have e1 : ¬ l ≤ x := fun h => e (decide_eq_true h)
    rw [decide_eq_false (fun h => e1 h.1)] at q
    exact q
abbrev sIsAtLeast : Stmt := topS 8
theorem scIsAtLeast : FnScope ["thing", "least"] ["thing", "least"] (defScope sIsAtLeast) := ⟨rfl, rfl, rfl, by decide +kernel, rfl, by decide +kernel, by decide +kernel⟩
set_option maxHeartbeats 2000000 in
theorem ok_IsAtLeast (D : DefAt K mg "is_at_least" sIsAtLeast ["thing", "least"]) (CIsInteger : Cal P w K mg base "is_integer" ["thing"] 1 (spIsInt)) (T : Txt mg) : Cal P w K mg base "is_at_least" ["thing", "least"] 2 (spAtLeast) := by
  refine D.cal scIsAtLeast (fun vs H Q E h => (by (obtain ⟨_, _, rfl, _⟩ := h); rfl)) (fun f cdv A outer s H vs Q E hr h => ?_)
  obtain ⟨x, l, rfl, q⟩ := h
  refine ⟨_, pss_one (ps_ret (pe_and (pe_cal CIsInteger hr (by rfl) (pa_cons (pv 0) pa_nil)) (pe_one (pe_cmpR op_ge (pv 0) (pv 1) (nomark _))))), ?_⟩
  walk_at "go"
  exact q
abbrev sCheckWidth : Stmt := topS 10
theorem scCheckWidth : FnScope ["width"] ["width"] (defScope sCheckWidth) := ⟨rfl, rfl, rfl, by decide +kernel, rfl, by decide +kernel, by decide +kernel⟩
set_option maxHeartbeats 2000000 in
theorem ok_CheckWidth (D : DefAt K mg "check_width" sCheckWidth ["width"]) (CIsWithin : Cal P w K mg base "is_within" ["thing", "least", "greatest"] 2 (spWithin)) (T : Txt mg) : Cal P w K mg base "check_width" ["width"] 3 (spWidth) := by
  refine D.cal scCheckWidth (fun vs H Q E h => (by (obtain ⟨_, rfl, _⟩ := h); rfl)) (fun f cdv A outer s H vs Q E hr h => ?_)
  obtain ⟨x, rfl, h0, h1, q⟩ := h
  refine ⟨_, pss_one (ps_if (pt_not (pt_val (pe_cal CIsWithin hr (by rfl) (pa_cons (pv 0) (pa_cons pe_int (pa_cons (pe_gint (by rfl) T.mgMOST_WIDTH) pa_nil))))))
        (pss_one ps_never)
        pss_nil), ?_⟩
  walk_at "go"
  exact q
abbrev sAreCycles : Stmt := topS 9
theorem scAreCycles : FnScope ["thing", "before", "cycle"] ["thing"] (defScope sAreCycles) := ⟨rfl, rfl, rfl, by decide +kernel, rfl, by decide +kernel, by decide +kernel⟩
set_option maxHeartbeats 2000000 in
theorem ok_AreCycles (D : DefAt K mg "are_cycles" sAreCycles ["thing"]) (CIsAtLeast : Cal P w K mg base "is_at_least" ["thing", "least"] 2 (spAtLeast)) (T : Txt mg) : Cal P w K mg base "are_cycles" ["thing"] 3 (spCycles) := by
  refine D.cal scAreCycles (fun vs H Q E h => (by (obtain ⟨_, _, rfl, _⟩ := h); rfl)) (fun f cdv A outer s H vs Q E hr h => ?_)
  obtain ⟨l, ns, rfl, hL, L, q⟩ := h
  refine ⟨_, pss_cons (ps_if (pt_not (pt_val (pe_callB call_isi (by rfl) T.isinstance (by decide +kernel) (pa_cons (pv 0) (pa_cons (pe_bltn (v := .ty "list") (u := .type "list") (by rfl) T.list (by decide +kernel) rfl) pa_nil)))))
        (pss_one (ps_ret pe_bl))
        pss_nil)
      (pss_cons (ps_set (i := 1) scAreCycles.nd rfl (Or.inl rfl) pe_int)
      (pss_cons (ps_for PassesOwn.never rfl (pi_list (pv 0)) (pg_name (i := 2) scAreCycles.nd rfl (Or.inl rfl))
        (pss_cons (ps_if (pt_not (pt_val (pe_cal CIsAtLeast hr (by rfl) (pa_cons (pv 2) (pa_cons (pv 1) pa_nil)))))
          (pss_one (ps_ret pe_bl))
          pss_nil)
        (pss_one (ps_set (i := 1) scAreCycles.nd rfl (Or.inl rfl) (pv 2)))))
      (pss_one (ps_ret pe_bl)))), ?_⟩
  walk_at "go"
  refine for_list (K := K) (a := l) (xs := ns.map V.int) (fun i σ H' => ∃ (b : Int) (v2 : Option V), σ = [some (.ref l), some (.int b), v2] ∧ H' = H ∧ (i < ns.length → b ≤ nth ns i))
    ⟨0, none, rfl, rfl, fun _ => L.z⟩ (fun i σ H1 _ ⟨b, v2, e, e1, _⟩ => by subst e1; exact SqL.of hL) (fun i x σ H1 hx ⟨b, v2, e, e1, hb⟩ => ?_) (fun σ H1 ⟨b, v2, e, e1, _⟩ => ?_)
  · subst e e1
    obtain ⟨hi, ex⟩ := nth_of hx
    subst ex
    have hb := hb hi
    walk_at "go"
    exact fun h => L.up i h
  · subst e e1
    walk_at "go"
    exact q
abbrev sCheckLooks : Stmt := topS 12
theorem scCheckLooks : FnScope ["looks"] ["looks"] (defScope sCheckLooks) := ⟨rfl, rfl, rfl, by decide +kernel, rfl, by decide +kernel, by decide +kernel⟩
set_option maxHeartbeats 2000000 in
theorem ok_CheckLooks (D : DefAt K mg "check_looks" sCheckLooks ["looks"]) (CAreCycles : Cal P w K mg base "are_cycles" ["thing"] 3 (spCycles)) (T : Txt mg) : Cal P w K mg base "check_looks" ["looks"] 4 (spLooks) := by
  refine D.cal scCheckLooks (fun vs H Q E h => (by (obtain ⟨_, _, rfl, _⟩ := h); rfl)) (fun f cdv A outer s H vs Q E hr h => ?_)
  obtain ⟨l, ns, rfl, hL, L, q⟩ := h
  refine ⟨_, pss_one (ps_if (PW.pt (pw_or (pt_not (pt_val (pe_cal CAreCycles hr (by rfl) (pa_cons (pv 0) pa_nil)))) (pw_or1 (pt_not (pt_truth (pv 0) (by intro _; rfl))))))
        (pss_one ps_never)
        pss_nil), ?_⟩
  have hne : (ns.map V.int).isEmpty = false := by
    rw [List.isEmpty_eq_false_iff]
    intro e
    have := congrArg List.length e
    rw [List.length_map] at this
    have := L.ne
    simp_all
  walk_at "go"
  refine ⟨true, .inl ⟨_, SqL.of hL, by rw [hne]; rfl⟩, ?_⟩
  walk_at "go"
  exact q
abbrev sShown : Stmt := topS 14
theorem scShown : FnScope ["width", "looks", "wrap", "cycle"] ["width", "looks"] (defScope sShown) := ⟨rfl, rfl, rfl, by decide +kernel, rfl, by decide +kernel, by decide +kernel⟩
set_option maxHeartbeats 2000000 in
theorem ok_Shown (D : DefAt K mg "shown" sShown ["width", "looks"]) (CCheckWidth : Cal P w K mg base "check_width" ["width"] 3 (spWidth)) (CCheckLooks : Cal P w K mg base "check_looks" ["looks"] 4 (spLooks)) (T : Txt mg) : Cal P w K mg base "shown" ["width", "looks"] 5 (spShown) := by
  refine D.cal scShown (fun vs H Q E h => (by (obtain ⟨_, _, _, rfl, _⟩ := h); rfl)) (fun f cdv A outer s H vs Q E hr h => ?_)
  obtain ⟨w, l, ns, rfl, w0, w1, hL, L, q⟩ := h
  refine ⟨_, pss_cons (ps_expr (pe_cal CCheckWidth hr (by rfl) (pa_cons (pv 0) pa_nil)))
      (pss_cons (ps_expr (pe_cal CCheckLooks hr (by rfl) (pa_cons (pv 1) pa_nil)))
      (pss_cons (ps_set (i := 2) scShown.nd rfl (Or.inr rfl) (pe_op op_shlE pe_int (pv 0)))
      (pss_one (ps_ret (pe_lc (own := [("cycle", 3)]) (g := gName 3) (tt := tYes) rfl scShown.nd (pi_list (pv 1)) (blkOk_by (own := [("cycle", 3)]) (N := ["width", "looks", "wrap", "cycle"]) (sc := defScope sShown) (by decide +kernel)) (fun _ _ _ _ _ => pg_name (i := 3) scShown.nd rfl (Or.inl rfl)) (fun _ _ _ _ _ => pts_nil) (fun _ _ _ _ _ => (pe_op op_mod (pv 3) (pv 2)))))))), ?_⟩
  have hz := pos_pow w.toNat
  walk_at "go"
  intro D hD
  refine lc_listP (ys := (modF (2 ^ w.toNat) ns).map V.int) hD (SqL.of hL) (by unfold modF; rw [List.length_map, List.length_map, List.length_map]) (by unfold modF; rw [List.length_map, List.length_map]; exact Nat.le_trans L.few (by decide)) (fun i x y R F hx hy r => ?_) ?_
  · obtain ⟨hi, ex⟩ := nth_of hx
    subst ex
    obtain ⟨hi2, ey⟩ := nth_of hy
    subst ey
    walk_at "go"
    rw [modF_nth hi] at r
    exact r
  · walk_at "go"
    exact q D hD
abbrev sCounted : Stmt := topS 15
theorem scCounted : FnScope ["width", "looks", "wrap", "before", "now"] ["width", "looks"] (defScope sCounted) := ⟨rfl, rfl, rfl, by decide +kernel, rfl, by decide +kernel, by decide +kernel⟩
set_option maxHeartbeats 2000000 in
theorem ok_Counted (D : DefAt K mg "counted" sCounted ["width", "looks"]) (CCheckWidth : Cal P w K mg base "check_width" ["width"] 3 (spWidth)) (CCheckLooks : Cal P w K mg base "check_looks" ["looks"] 4 (spLooks)) (T : Txt mg) : Cal P w K mg base "counted" ["width", "looks"] 5 (spCounted) := by
  refine D.cal scCounted (fun vs H Q E h => (by (obtain ⟨_, _, _, rfl, _⟩ := h); rfl)) (fun f cdv A outer s H vs Q E hr h => ?_)
  obtain ⟨w, l, ns, rfl, w0, w1, hL, L, q⟩ := h
  refine ⟨_, pss_cons (ps_expr (pe_cal CCheckWidth hr (by rfl) (pa_cons (pv 0) pa_nil)))
      (pss_cons (ps_expr (pe_cal CCheckLooks hr (by rfl) (pa_cons (pv 1) pa_nil)))
      (pss_cons (ps_set (i := 2) scCounted.nd rfl (Or.inr rfl) (pe_op op_shlE pe_int (pv 0)))
      (pss_one (ps_ret (pe_callB (cr_sum rfl) (by rfl) T.sum (by decide +kernel) (pa_cons (pe_lc (own := [("before", 3), ("now", 4)]) (tt := tYes) rfl scCounted.nd (pi_zip (by rfl) T.zip (pa_cons (pv 1) (pa_cons (pe_slice sl_list (pv 1) (po_some pe_int) po_none) pa_nil))) (blkOk_by (own := [("before", 3), ("now", 4)]) (N := ["width", "looks", "wrap", "before", "now"]) (sc := defScope sCounted) (by decide +kernel)) (fun _ _ _ _ _ => pg_tupK (K := K) 2 (pgs_cons (pg_name (i := 3) scCounted.nd rfl (Or.inl rfl)) (pgs_cons (pg_name (i := 4) scCounted.nd rfl (Or.inl rfl)) pgs_nil))) (fun _ _ _ _ _ => pts_nil) (fun _ _ _ _ _ => (pe_op op_mod (pe_op op_sub (pv 4) (pv 3)) (pv 2)))) pa_nil)))))), ?_⟩
  have hz := pos_pow w.toNat
  walk_at "go"
  intro c hc
  rw [cut1]
  have hcl : c ≠ l := (ne_of_none hL hc).symm
  walk_at "go"
  refine ⟨_, _, _, _, rfl, SqL.of (upd_at hL hc), SqL.of upd_same, ?_⟩
  walk_at "go"
  intro D hD
  refine lc_zipS (zs := (tab (fun i => gap ns i % 2 ^ w.toNat) (ns.length - 1)).map V.int) hD (SqL.of (upd_at hL hc)) (SqL.of upd_same) ?_ ?_ (fun i x y z T Hi R F hx hy hz sm nT r => ?_) (fun H' sm eD => ?_)
  · rw [tab_len, List.length_drop, List.length_map]
    omega
  · rw [tab_len]
    exact Nat.le_trans (Nat.sub_le _ _) (Nat.le_trans L.few (by decide))
  · obtain ⟨hi, ex⟩ := nth_of hx
    subst ex
    rw [List.getElem?_drop, Nat.add_comm] at hy
    obtain ⟨hi2, ey⟩ := nth_of hy
    subst ey
    have ez := tab_at hz
    subst ez
    walk_at "go"
    exact r
  · walk_at "go"
    exact q _ ((same_upd hc).trans sm)
abbrev sLost : Stmt := topS 16
theorem scLost : FnScope ["width", "looks", "wrap", "found", "index", "missing"] ["width", "looks"] (defScope sLost) := ⟨rfl, rfl, rfl, by decide +kernel, rfl, by decide +kernel, by decide +kernel⟩
set_option maxHeartbeats 2000000 in
theorem ok_Lost (D : DefAt K mg "lost" sLost ["width", "looks"]) (CCheckWidth : Cal P w K mg base "check_width" ["width"] 3 (spWidth)) (CCheckLooks : Cal P w K mg base "check_looks" ["looks"] 4 (spLooks)) (T : Txt mg) : Cal P w K mg base "lost" ["width", "looks"] 5 (spLost) := by
  refine D.cal scLost (fun vs H Q E h => (by (obtain ⟨_, _, _, rfl, _⟩ := h); rfl)) (fun f cdv A outer s H vs Q E hr h => ?_)
  obtain ⟨w, l, ns, rfl, w0, w1, hL, L, q⟩ := h
  refine ⟨_, pss_cons (ps_expr (pe_cal CCheckWidth hr (by rfl) (pa_cons (pv 0) pa_nil)))
      (pss_cons (ps_expr (pe_cal CCheckLooks hr (by rfl) (pa_cons (pv 1) pa_nil)))
      (pss_cons (ps_set (i := 2) scLost.nd rfl (Or.inl rfl) (pe_op op_shlE pe_int (pv 0)))
      (pss_cons (ps_set (i := 3) scLost.nd rfl (Or.inl rfl) (pe_lst pa_nil))
      (pss_cons (ps_for PassesOwn.never rfl (pi_range2 (by rfl) T.range (pa_cons pe_int (pa_cons (pe_callB call_len_seq (by rfl) T.len PySem.boot_len (pa_cons (pv 1) pa_nil)) pa_nil))) (pg_name (i := 4) scLost.nd rfl (Or.inl rfl))
        (pss_cons (ps_set (i := 5) scLost.nd rfl (Or.inl rfl) (pe_op op_mulE (pe_op op_fdivW (pe_op op_sub (pe_ix ix_list (pv 1) (pv 4) (fun _ _ => rfl)) (pe_ix ix_list (pv 1) (pe_op op_sub (pv 4) pe_int) (fun _ _ => rfl))) (pv 2)) (pv 2)))
        (pss_one (ps_if (pt_cmpR op_gt (pv 5) pe_int (nomark _))
          (pss_one (ps_expr (pe_bm PySem.F.plainAttrs_list PySem.F.slot_list_append PySem.F.type_list_append mt_append (pv 3) (pa_cons (pe_tup (pa_cons (pv 4) (pa_cons (pv 5) pa_nil))) pa_nil))))
          pss_nil))))
      (pss_one (ps_ret (pv 3))))))), ?_⟩
  have hz := pos_pow w.toNat
  have hz1 := shl_one (show 0 ≤ w by omega) w1
  walk_at "go"
  intro p hp
  have hLp := upd_at (u := .lst []) hL hp
  have few := L.few
  walk_at "go"
  refine for_range (lo := 1) (n := _) (fun i σ H' => ∃ v4 v5 : Option V, σ = [some (.int w), some (.ref l), some (.int (2 ^ w.toNat)), some (.ref p), v4, v5] ∧ Same H H' ∧ Rows H' p (rowsF (fun i => gap ns i / 2 ^ w.toNat * 2 ^ w.toNat) i))
    ⟨none, none, rfl, same_upd hp, [], upd_same, trivial⟩ (fun i σ H1 hi ⟨v4, v5, e, sm, ⟨xs, hP, hR⟩⟩ => ?_) (fun σ H1 ⟨v4, v5, e, sm, hR⟩ => ?_)
  · subst e
    rw [List.length_map] at hi
    have hL1 := sm _ _ hL
    walk_at "go"
    have e1 : (1 + (i : Int)).toNat = i + 1 := by omega
    have e2 : (1 + (i : Int) - 1).toNat = i := by omega
    rw [e1, e2]
    have g0 : 0 ≤ nth ns (i + 1) - nth ns i := by have := L.up i (by omega); omega
    have g1 : nth ns (i + 1) < 1606938044258990275541962092341162602522202993782792835301376 := L.big _ (by omega)
    have g2 := L.low i (by omega)
    have q0 := Int.ediv_nonneg g0 (Int.le_of_lt hz)
    have q1 := Int.ediv_le_self (2 ^ w.toNat) g0
    walk_at "go"
    refine ite2 (fun e => ?_) (fun e => ?_)
    · have e3 : 0 < gap ns i / 2 ^ w.toNat * 2 ^ w.toNat := of_decide_eq_true e
      walk_at "go"
      intro t ht
      have hxl := Nat.le_trans (Nat.le_of_eq hR.length) (rowsF_len _ i)
      have hP1 := upd_at (u := .tup [.int (1 + (i : Int)), .int ((nth ns (i + 1) - nth ns i) / 2 ^ w.toNat * 2 ^ w.toNat)]) hP ht
      refine ⟨p, xs, _, rfl, rfl, hP1, Nat.lt_of_le_of_lt (show xs.length ≤ 1000 by omega) (by decide), ?_⟩
      have hR2 := Rows.add hP1 (hR.same (same_upd ht)) upd_same
      refine ⟨_, _, rfl, ?_, ?_⟩
      · refine fun c o e => ?_
        rw [upd_ne (ne_of_none e hp)]
        exact same_upd ht _ _ (sm _ _ e)
      · unfold rowsF
        rw [if_pos e3]
        exact hR2
    · have e3 : ¬ 0 < gap ns i / 2 ^ w.toNat * 2 ^ w.toNat := fun h => e (decide_eq_true h)
      walk_at "go"
      unfold rowsF
      rw [if_neg e3, List.append_nil]
      exact ⟨xs, hP, hR⟩
  · subst e
    walk_at "go"
    refine q H1 p sm hp ?_
    rw [List.length_map] at hR
    have e1 : ((ns.length : Int) - 1).toNat = ns.length - 1 := by omega
    rw [e1] at hR
    exact hR

theorem tab_sum (f : Nat → Int) (n : Nat) : (tab f (n + 1)).sum = (tab f n).sum + f n := by
  unfold tab
  rw [List.range_succ, List.map_append, List.sum_append]
  simp
/-! ### values and their least history -/
/-- what a counter shows: numbers from 0 to W - 1 -/
structure Shows (W : Int) (vs : List Int) : Prop where
  ne : 0 < vs.length
  few : vs.length ≤ 500
  lo : ∀ i, i < vs.length → 0 ≤ nth vs i
  hi : ∀ i, i < vs.length → nth vs i < W
/-- the least history -/
def lf (W : Int) (vs : List Int) : Nat → Int
  | 0 => nth vs 0
  | i + 1 => lf W vs i + (nth vs (i + 1) - lf W vs i) % W
def leastF (W : Int) (vs : List Int) : List Int := tab (lf W vs) vs.length
theorem nth_tab {f : Nat → Int} {n i : Nat} (h : i < n) : nth (tab f n) i = f i := by
  unfold nth tab
  rw [List.getD_eq_getElem?_getD, List.getElem?_map, List.getElem?_range h]
  rfl
theorem tab_length (f : Nat → Int) (n : Nat) : (tab f n).length = n := by
  unfold tab
  rw [List.length_map, List.length_range]
theorem tab_nth (ns : List Int) : tab (nth ns) ns.length = ns := by
  apply List.ext_getElem?
  intro i
  unfold tab
  rw [List.getElem?_map]
  by_cases h : i < ns.length
  · rw [List.getElem?_range h, List.getElem?_eq_getElem h]
    unfold nth
    rw [Option.map_some, List.getD_eq_getElem?_getD, List.getElem?_eq_getElem h]
    rfl
  · rw [List.getElem?_eq_none (by rw [List.length_range]; omega), List.getElem?_eq_none (by omega)]
    rfl
theorem tab_congr {f g : Nat → Int} {n : Nat} (h : ∀ i, i < n → f i = g i) : tab f n = tab g n := by
  unfold tab
  apply List.map_congr_left
  intro i hi
  exact h i (List.mem_range.mp hi)
theorem lf_step {W : Int} (hW : 0 < W) (vs : List Int) (i : Nat) : lf W vs i ≤ lf W vs (i + 1) ∧ lf W vs (i + 1) < lf W vs i + W := by
  have h0 := Int.emod_nonneg (nth vs (i + 1) - lf W vs i) (show W ≠ 0 by omega)
  have h1 := Int.emod_lt_of_pos (nth vs (i + 1) - lf W vs i) hW
  show lf W vs i ≤ lf W vs i + (nth vs (i + 1) - lf W vs i) % W ∧ lf W vs i + (nth vs (i + 1) - lf W vs i) % W < lf W vs i + W
  omega
theorem add_mod {a v W : Int} : (a + (v - a) % W) % W = v % W := by
  rw [Int.add_emod_emod]
  congr 1
  omega
theorem lf_mod {W : Int} {vs : List Int} (hW : 0 < W) (S : Shows W vs) : ∀ i, i < vs.length → lf W vs i % W = nth vs i
  | 0, h => Int.emod_eq_of_lt (S.lo 0 h) (S.hi 0 h)
  | i + 1, h => by
    show (lf W vs i + (nth vs (i + 1) - lf W vs i) % W) % W = _
    rw [add_mod]
    exact Int.emod_eq_of_lt (S.lo _ h) (S.hi _ h)
theorem lf_low {W : Int} {vs : List Int} (hW : 0 < W) (S : Shows W vs) : ∀ i, 0 ≤ lf W vs i ∧ lf W vs i < W * ((i : Int) + 1)
  | 0 => by
    have h0 := S.lo 0 S.ne
    have h1 := S.hi 0 S.ne
    show 0 ≤ nth vs 0 ∧ nth vs 0 < W * (((0 : Nat) : Int) + 1)
    have e : W * (((0 : Nat) : Int) + 1) = W := by rw [show ((0 : Nat) : Int) + 1 = 1 by rfl, Int.mul_one]
    rw [e]
    exact ⟨h0, h1⟩
  | i + 1 => by
    have ih := lf_low hW S i
    have st := lf_step hW vs i
    have e : W * (((i + 1 : Nat) : Int) + 1) = W * ((i : Int) + 1) + W := by
      rw [show ((i + 1 : Nat) : Int) + 1 = ((i : Int) + 1) + 1 by omega, Int.mul_add, Int.mul_one]
    rw [e]
    omega
/-- a history: cycles f 0, f 1, .., each less than a wrap after the one before, and then whole wraps put in -/
theorem looks_tab {f : Nat → Int} {n : Nat} (hn : 0 < n) (few : n ≤ 1000) (h0 : 0 ≤ f 0) (big : ∀ i, i < n → f i < 1606938044258990275541962092341162602522202993782792835301376) (up : ∀ i, i + 1 < n → f i ≤ f (i + 1)) : Looks (tab f n) := by
  refine ⟨by rw [tab_length]; exact hn, by rw [tab_length]; exact few, by rw [nth_tab hn]; exact h0, fun i hi => ?_, fun i hi => ?_⟩
  · rw [tab_length] at hi
    rw [nth_tab hi]
    exact big i hi
  · rw [tab_length] at hi
    rw [nth_tab (by omega), nth_tab hi]
    exact up i hi
theorem mod_tab {W : Int} {f : Nat → Int} {n : Nat} : modF W (tab f n) = tab (fun i => f i % W) n := by
  unfold modF tab
  rw [List.map_map]
  rfl
theorem least_looks {W : Int} {vs : List Int} (hW : 0 < W) (h1 : W ≤ 18446744073709551616) (S : Shows W vs) : Looks (leastF W vs) := by
  refine looks_tab S.ne (by have := S.few; omega) (lf_low hW S 0).1 (fun i hi => ?_) (fun i _ => (lf_step hW vs i).1)
  have h := (lf_low hW S i).2
  have h2 : W * ((i : Int) + 1) ≤ 18446744073709551616 * 1000 := by
    have := S.few
    exact Int.mul_le_mul h1 (by omega) (by omega) (by decide)
  omega
theorem least_shown {W : Int} {vs : List Int} (hW : 0 < W) (S : Shows W vs) : modF W (leastF W vs) = vs := by
  unfold leastF
  rw [mod_tab, tab_congr (g := nth vs) (fun i hi => lf_mod hW S i hi), tab_nth]
theorem tele (f : Nat → Int) : ∀ n, (tab (fun i => f (i + 1) - f i) n).sum = f n - f 0
  | 0 => by
    show (0 : Int) = f 0 - f 0
    omega
  | n + 1 => by
    rw [tab_sum, tele f n]
    omega
/-- what a history with gaps less than a wrap behind whole wraps counts -/
theorem cnt_tab {W : Int} {f g : Nat → Int} {n : Nat} (hg : ∀ i, i + 1 < n → (f (i + 1) - f i) % W = g (i + 1) - g i) : cntF W (tab f n) = g (n - 1) - g 0 := by
  unfold cntF
  rw [tab_length, tab_congr (g := fun i => g (i + 1) - g i), tele]
  intro i hi
  unfold gap
  rw [nth_tab (by omega), nth_tab (by omega)]
  exact hg i (by omega)
theorem rows_nil {d : Nat → Int} : ∀ n, (∀ i, i < n → d i = 0) → rowsF d n = []
  | 0, _ => rfl
  | n + 1, h => by
    unfold rowsF
    rw [rows_nil n (fun i hi => h i (by omega)), h n (by omega), if_neg (by decide)]
    rfl
theorem lf_gap {W : Int} {vs : List Int} (hW : 0 < W) (i : Nat) : (lf W vs (i + 1) - lf W vs i) % W = lf W vs (i + 1) - lf W vs i := by
  have := lf_step hW vs i
  exact Int.emod_eq_of_lt (by omega) (by omega)
theorem least_counted {W : Int} {vs : List Int} (hW : 0 < W) : cntF W (leastF W vs) = lf W vs (vs.length - 1) - lf W vs 0 := cnt_tab fun i _ => lf_gap hW i
theorem least_lost {W : Int} {vs : List Int} (hW : 0 < W) : lostF W (leastF W vs) = [] := by
  unfold lostF
  refine rows_nil _ fun i hi => ?_
  unfold leastF at hi
  rw [tab_length] at hi
  unfold gap leastF
  rw [nth_tab (by omega), nth_tab (by omega)]
  have := lf_step hW vs i
  rw [Int.ediv_eq_zero_of_lt (by omega) (by omega), Int.zero_mul]
def spValues : Sp := fun vs H Q _ => ∃ (w : Int) (l : Addr) (ns : List Int), vs = [.int w, .ref l] ∧ 1 ≤ w ∧ w ≤ 64 ∧ H l = some (.lst (ns.map V.int)) ∧ Shows (2 ^ w.toNat) ns ∧ Q .non H
def spLeast : Sp := fun vs H Q _ => ∃ (w : Int) (l : Addr) (ns : List Int), vs = [.int w, .ref l] ∧ 1 ≤ w ∧ w ≤ 64 ∧ H l = some (.lst (ns.map V.int)) ∧ Shows (2 ^ w.toNat) ns ∧
  ∀ H' p, Same H H' → H p = none → H' p = some (.lst ((leastF (2 ^ w.toNat) ns).map V.int)) → Q (.ref p) H'
theorem notEmpty {ns : List Int} (h : 0 < ns.length) : (ns.map V.int).isEmpty = false := by
  cases ns with
  | nil => cases h
  | cons x r => rfl
abbrev sCheckValues : Stmt := topS 13
theorem scCheckValues : FnScope ["width", "values", "most", "value"] ["width", "values"] (defScope sCheckValues) := ⟨rfl, rfl, rfl, by decide +kernel, rfl, by decide +kernel, by decide +kernel⟩
set_option maxHeartbeats 2000000 in
theorem ok_CheckValues (D : DefAt K mg "check_values" sCheckValues ["width", "values"]) (CIsWithin : Cal P w K mg base "is_within" ["thing", "least", "greatest"] 2 (spWithin)) (T : Txt mg) : Cal P w K mg base "check_values" ["width", "values"] 3 (spValues) := by
  refine D.cal scCheckValues (fun vs H Q E h => (by (obtain ⟨_, _, _, rfl, _⟩ := h); rfl)) (fun f cdv A outer s H vs Q E hr h => ?_)
  obtain ⟨w, l, ns, rfl, w0, w1, hL, S, q⟩ := h
  refine ⟨_, pss_cons (ps_if (PW.pt (pw_or (pt_not (pt_val (pe_callB call_isi (by rfl) T.isinstance (by decide +kernel) (pa_cons (pv 1) (pa_cons (pe_bltn (v := .ty "list") (u := .type "list") (by rfl) T.list (by decide +kernel) rfl) pa_nil))))) (pw_or1 (pt_not (pt_truth (pv 1) (by intro _; rfl))))))
        (pss_one ps_never)
        pss_nil)
      (pss_cons (ps_set (i := 2) scCheckValues.nd rfl (Or.inl rfl) (pe_op op_sub (pe_op op_shlE pe_int (pv 0)) pe_int))
      (pss_one (ps_for PassesOwn.never rfl (pi_list (pv 1)) (pg_name (i := 3) scCheckValues.nd rfl (Or.inl rfl))
        (pss_one (ps_if (pt_not (pt_val (pe_cal CIsWithin hr (by rfl) (pa_cons (pv 3) (pa_cons pe_int (pa_cons (pv 2) pa_nil))))))
          (pss_one ps_never)
          pss_nil))))), ?_⟩
  have hz := pos_pow w.toNat
  walk_at "go"
  refine ⟨true, .inl ⟨_, SqL.of hL, by rw [notEmpty S.ne]; rfl⟩, ?_⟩
  walk_at "go"
  refine for_list (K := K) (a := l) (xs := ns.map V.int) (fun i σ H' => ∃ v3 : Option V, σ = [some (.int w), some (.ref l), some (.int (2 ^ w.toNat - 1)), v3] ∧ H' = H)
    ⟨none, rfl, rfl⟩ (fun i σ H1 _ ⟨v3, e, e1⟩ => by subst e1; exact SqL.of hL) (fun i x σ H1 hx ⟨v3, e, e1⟩ => ?_) (fun σ H1 ⟨v3, e, e1⟩ => ?_)
  · subst e e1
    obtain ⟨hi, ex⟩ := nth_of hx
    subst ex
    have h0 := S.lo i hi
    have h1 := S.hi i hi
    walk_at "go"
    rfl
  · subst e e1
    exact q
theorem tab_succ (f : Nat → Int) (n : Nat) : tab f (n + 1) = tab f n ++ [f n] := by
  unfold tab
  rw [List.range_succ, List.map_append]
  rfl
abbrev sLeastHistory : Stmt := topS 17
theorem scLeastHistory : FnScope ["width", "values", "wrap", "cycle", "looks", "value"] ["width", "values"] (defScope sLeastHistory) := ⟨rfl, rfl, rfl, by decide +kernel, rfl, by decide +kernel, by decide +kernel⟩
set_option maxHeartbeats 2000000 in
theorem ok_LeastHistory (D : DefAt K mg "least_history" sLeastHistory ["width", "values"]) (CCheckWidth : Cal P w K mg base "check_width" ["width"] 3 (spWidth)) (CCheckValues : Cal P w K mg base "check_values" ["width", "values"] 3 (spValues)) (T : Txt mg) : Cal P w K mg base "least_history" ["width", "values"] 5 (spLeast) := by
  refine D.cal scLeastHistory (fun vs H Q E h => (by (obtain ⟨_, _, _, rfl, _⟩ := h); rfl)) (fun f cdv A outer s H vs Q E hr h => ?_)
  obtain ⟨w, l, ns, rfl, w0, w1, hL, S, q⟩ := h
  refine ⟨_, pss_cons (ps_expr (pe_cal CCheckWidth hr (by rfl) (pa_cons (pv 0) pa_nil)))
      (pss_cons (ps_expr (pe_cal CCheckValues hr (by rfl) (pa_cons (pv 0) (pa_cons (pv 1) pa_nil))))
      (pss_cons (ps_set (i := 2) scLeastHistory.nd rfl (Or.inl rfl) (pe_op op_shlE pe_int (pv 0)))
      (pss_cons (ps_set (i := 3) scLeastHistory.nd rfl (Or.inl rfl) (pe_ix ix_list (pv 1) pe_int (fun _ _ => rfl)))
      (pss_cons (ps_set (i := 4) scLeastHistory.nd rfl (Or.inl rfl) (pe_lst (pa_cons (pv 3) pa_nil)))
      (pss_cons (ps_for PassesOwn.never rfl (pi_list (pe_slice sl_list (pv 1) (po_some pe_int) po_none)) (pg_name (i := 5) scLeastHistory.nd rfl (Or.inl rfl))
        (pss_cons (ps_aug (i := 3) scLeastHistory.nd rfl (Or.inl rfl) (pe_op op_mod (pe_op op_sub (pv 5) (pv 3)) (pv 2)) ip_add)
        (pss_one (ps_expr (pe_bm PySem.F.plainAttrs_list PySem.F.slot_list_append PySem.F.type_list_append mt_append (pv 4) (pa_cons (pv 3) pa_nil))))))
      (pss_one (ps_ret (pv 4)))))))), ?_⟩
  have hz := pos_pow w.toNat
  have hne := S.ne
  have few := S.few
  walk_at "go"
  refine ⟨w, l, ns, rfl, w0, w1, hL, S, ?_⟩
  walk_at "go"
  intro p hp
  have hLp := upd_at (u := .lst [.int (nth ns 0)]) hL hp
  walk_at "go"
  intro c hc
  rw [cut1]
  have npc : c ≠ p := fun e => by
    rw [e, upd_same] at hc
    cases hc
  have hcH : H c = none := (same_upd hp).free hc
  walk_at "go"
  refine for_list (K := K) (a := c) (xs := (ns.map V.int).drop 1) (fun i σ H' => ∃ v5 : Option V, σ = [some (.int w), some (.ref l), some (.int (2 ^ w.toNat)), some (.int (lf (2 ^ w.toNat) ns i)), some (.ref p), v5] ∧ Same H H' ∧ H' p = some (.lst ((tab (lf (2 ^ w.toNat) ns) (i + 1)).map V.int)) ∧ H' c = some (.lst ((ns.map V.int).drop 1)))
    ⟨none, rfl, (same_upd hp).trans (same_upd hc), (upd_ne npc.symm).trans upd_same, upd_same⟩ (fun i σ H1 _ ⟨v5, e, sm, hP, hC⟩ => SqL.of hC) (fun i x σ H1 hx ⟨v5, e, sm, hP, hC⟩ => ?_) (fun σ H1 ⟨v5, e, sm, hP, hC⟩ => ?_)
  · subst e
    rw [List.getElem?_drop, Nat.add_comm] at hx
    obtain ⟨hi, ex⟩ := nth_of hx
    subst ex
    walk_at "go"
    refine ⟨p, _, _, rfl, rfl, hP, ?_, ?_⟩
    · rw [tab_len]
      exact Nat.lt_of_le_of_lt (show i + 1 ≤ 1000 by omega) (by decide)
    · refine ⟨_, rfl, same_set sm hp, ?_, ?_⟩
      · rw [upd_same, tab_succ _ (i + 1), List.map_append]
        rfl
      · rw [upd_ne npc]
        exact hC
  · subst e
    walk_at "go"
    rw [List.length_drop, List.length_map, show ns.length - 1 + 1 = ns.length by omega] at hP
    exact q _ p sm hp hP

/-- drawn values stand at p -/
structure Vals (H : Hp) (p : Addr) (W : Int) (vs : List Int) : Prop where
  at_ : H p = some (.lst (vs.map V.int))
  ok : Shows W vs
  few : vs.length ≤ 12
def spWidthDraw : Sp := fun vs H Q _ => ∃ (a : Addr), vs = [.ref a] ∧ Src H a ∧ ∀ (w : Int) (H' : Hp), 1 ≤ w → w ≤ 64 → Dr a H H' → Q (.int w) H'
def spValuesDraw : Sp := fun vs H Q _ => ∃ (a : Addr) (w : Int), vs = [.ref a, .int w] ∧ Src H a ∧ 1 ≤ w ∧ w ≤ 64 ∧ ∀ (p : Addr) (ns : List Int) (H' : Hp), Dr a H H' → H p = none → p ≠ a → My.Vals H' p (2 ^ w.toNat) ns → Q (.ref p) H'
theorem pow_two_le {w : Int} (w0 : 1 ≤ w) : (2 : Int) ≤ 2 ^ w.toNat := by
  have h : 1 ≤ w.toNat := by omega
  have := Nat.pow_le_pow_right (n := 2) (by decide) h
  rw [← PySem.W.kbt_cast]
  omega
theorem nth_app {ns : List Int} {x : Int} {i : Nat} (h : i < ns.length) : nth (ns ++ [x]) i = nth ns i := by
  unfold nth
  rw [List.getD_eq_getElem?_getD, List.getD_eq_getElem?_getD, List.getElem?_append_left h]
theorem nth_last {ns : List Int} {x : Int} : nth (ns ++ [x]) ns.length = x := by
  unfold nth
  rw [List.getD_eq_getElem?_getD, List.getElem?_concat_length]
  rfl
theorem at_back {ns : List Int} (h : 0 < ns.length) : atI (ns.map V.int) (-1) = some (.int (nth ns (ns.length - 1))) := by
  have hne : ns ≠ [] := fun e => by rw [e] at h; cases h
  have e : ns.map V.int = ns.dropLast.map V.int ++ [.int (ns.getLast hne)] := by
    rw [← List.map_singleton, ← List.map_append, List.dropLast_concat_getLast]
  have e2 : nth ns (ns.length - 1) = ns.getLast hne := by
    unfold nth
    rw [List.getD_eq_getElem?_getD, List.getElem?_eq_getElem (by omega), List.getLast_eq_getElem]
    rfl
  rw [e2, e]
  exact atI_last _ _
abbrev sLWidth : Stmt := topS 25
theorem scLWidth : FnScope ["source"] ["source"] (defScope sLWidth) := ⟨rfl, rfl, rfl, by decide +kernel, rfl, by decide +kernel, by decide +kernel⟩
set_option maxHeartbeats 2000000 in
theorem ok_LWidth (D : DefAt K mg "_law_width" sLWidth ["source"]) (CLNext : Cal P w K mg base "_law_next" ["source", "many"] 2 (spNext)) (T : Txt mg) : Cal P w K mg base "_law_width" ["source"] 3 (spWidthDraw) := by
  refine D.cal scLWidth (fun vs H Q E h => (by (obtain ⟨_, rfl, _⟩ := h); rfl)) (fun f cdv A outer s H vs Q E hr h => ?_)
  obtain ⟨a, rfl, hS, q⟩ := h
  refine ⟨_, pss_one (ps_ret (pe_ix ix_list (pe_lst (pa_cons pe_int (pa_cons pe_int (pa_cons pe_int (pa_cons pe_int (pa_cons pe_int (pa_cons pe_int (pa_cons pe_int (pa_cons pe_int (pa_cons pe_int (pa_cons (pe_op op_add pe_int (pe_cal CLNext hr (by rfl) (pa_cons (pv 0) (pa_cons pe_int pa_nil)))) pa_nil))))))))))) (pe_cal CLNext hr (by rfl) (pa_cons (pv 0) (pa_cons pe_int pa_nil))) (fun _ _ => rfl))), ?_⟩
  walk_at "go"
  intro r1 H1 a1 b1 D1
  walk_at "go"
  intro p hp
  have np : p ≠ a := D1.src.ne hp
  walk_at "go"
  intro r2 H2 a2 b2 D2
  have hall : AllI (fun i => 1 ≤ i ∧ i ≤ 64) [V.int 1, V.int 2, V.int 3, V.int 4, V.int 8, V.int 16, V.int 32, V.int 63, V.int 64, V.int (1 + r1)] :=
    .cons ⟨by omega, by omega⟩ (.cons ⟨by omega, by omega⟩ (.cons ⟨by omega, by omega⟩ (.cons ⟨by omega, by omega⟩ (.cons ⟨by omega, by omega⟩ (.cons ⟨by omega, by omega⟩ (.cons ⟨by omega, by omega⟩ (.cons ⟨by omega, by omega⟩ (.cons ⟨by omega, by omega⟩ (.cons ⟨by omega, by omega⟩ .nil)))))))))
  obtain ⟨v, ev, v0, v1⟩ := hall.pick a2 b2
  refine ⟨_, _, _, _, rfl, rfl, SqL.of (D2.at np upd_same), ev, ?_⟩
  exact q _ _ v0 v1 ((D1.new hp).trans D2)
abbrev sLValues : Stmt := topS 26
theorem scLValues : FnScope ["source", "width", "size", "found", "turn", "near", "some"] ["source", "width"] (defScope sLValues) := ⟨rfl, rfl, rfl, by decide +kernel, rfl, by decide +kernel, by decide +kernel⟩
set_option maxHeartbeats 2000000 in
theorem ok_LValues (D : DefAt K mg "_law_values" sLValues ["source", "width"]) (CLNext : Cal P w K mg base "_law_next" ["source", "many"] 2 (spNext)) (T : Txt mg) : Cal P w K mg base "_law_values" ["source", "width"] 3 (spValuesDraw) := by
  refine D.cal scLValues (fun vs H Q E h => (by (obtain ⟨_, _, rfl, _⟩ := h); rfl)) (fun f cdv A outer s H vs Q E hr h => ?_)
  obtain ⟨a, w, rfl, hS, w0, w1, q⟩ := h
  refine ⟨_, pss_cons (ps_set (i := 2) scLValues.nd rfl (Or.inl rfl) (pe_op op_shlE pe_int (pv 1)))
      (pss_cons (ps_set (i := 3) scLValues.nd rfl (Or.inl rfl) (pe_lst pa_nil))
      (pss_cons (ps_for PassesOwn.never rfl (pi_range1 (by rfl) T.range (pa_cons (pe_op op_add pe_int (pe_cal CLNext hr (by rfl) (pa_cons (pv 0) (pa_cons pe_int pa_nil)))) pa_nil)) (pg_name (i := 4) scLValues.nd rfl (Or.inl rfl))
        (pss_cons (ps_set (i := 5) scLValues.nd rfl (Or.inl rfl) (pe_ifExp (pt_cmpR (op_neIL hr.units) (pv 3) (pe_lst pa_nil) (nomark _)) (pe_ix ix_list (pv 3) (pe_un un_neg pe_int) (fun _ _ => rfl)) pe_int))
        (pss_cons (ps_set (i := 6) scLValues.nd rfl (Or.inl rfl) (pe_lst (pa_cons pe_int (pa_cons (pe_op op_sub (pv 2) pe_int) (pa_cons (pe_cal CLNext hr (by rfl) (pa_cons (pv 0) (pa_cons (pv 2) pa_nil))) (pa_cons (pe_op op_mod (pe_callTy call_int1 (by rfl) T.int (by decide +kernel) (pa_cons (pe_op op_add (pv 5) (pe_cal CLNext hr (by rfl) (pa_cons (pv 0) (pa_cons pe_int pa_nil)))) pa_nil)) (pv 2)) (pa_cons (pe_op op_mod (pe_callTy call_int1 (by rfl) T.int (by decide +kernel) (pa_cons (pe_op op_sub (pv 5) pe_int) pa_nil)) (pv 2)) pa_nil)))))))
        (pss_one (ps_expr (pe_bm PySem.F.plainAttrs_list PySem.F.slot_list_append PySem.F.type_list_append mt_append (pv 3) (pa_cons (pe_ix ix_list (pv 6) (pe_cal CLNext hr (by rfl) (pa_cons (pv 0) (pa_cons pe_int pa_nil))) (fun _ _ => rfl)) pa_nil)))))))
      (pss_one (ps_ret (pv 3))))), ?_⟩
  have hz := pos_pow w.toNat
  have hz1 := shl_one (show 0 ≤ w by omega) w1
  walk_at "go"
  intro p hp
  have np : p ≠ a := hS.ne hp
  walk_at "go"
  intro r1 H1 a1 b1 D1
  walk_at "go"
  refine for_range (lo := 0) (n := (1 + r1).toNat) (fun i σ H' => ∃ (ns : List Int) (v4 v5 v6 : Option V), σ = [some (.ref a), some (.int w), some (.int (2 ^ w.toNat)), some (.ref p), v4, v5, v6] ∧ Dr a H H' ∧ H' p = some (.lst (ns.map V.int)) ∧ ns.length = i ∧ ∀ j, j < ns.length → 0 ≤ nth ns j ∧ nth ns j < 2 ^ w.toNat)
    ⟨[], none, none, none, rfl, ((Dr.refl hS).new hp).trans D1, D1.at np upd_same, rfl, fun j hj => absurd hj (by simp)⟩ (fun i σ H3 hi ⟨ns, v4, v5, v6, e, D3, hP, hl, hb⟩ => ?_) (fun σ H3 ⟨ns, v4, v5, v6, e, D3, hP, hl, hb⟩ => ?_)
  · subst e
    walk_at "go"
    intro e0 he
    have hPe := upd_at (u := .lst []) hP he
    have hpn : H p = none := hp
    refine ⟨_, _, ns, [], rfl, rfl, SqL.of hPe, SqL.of upd_same, ?_⟩
    refine ⟨_, rfl, ?_⟩
    by_cases hns : ns = []
    · rw [decide_eq_true hns]
      walk_at "go"
      intro r4 H4 a4 b4 D4
      walk_at "go"
      intro r5 H5 a5 b5 D5
      walk_at "go"
      intro t ht
      have nt : t ≠ a := D5.src.ne ht
      have D35 := (D3.new he).trans (D4.trans D5)
      have hP5 := D5.at np (D4.at np hPe)
      have hP5t := upd_at (u := .lst [V.int 0, V.int (2 ^ w.toNat - 1), V.int r4, V.int ((0 + r5) % 2 ^ w.toNat), V.int ((0 - 1) % 2 ^ w.toNat)]) hP5 ht
      walk_at "go"
      intro r6 H6 a6 b6 D6
      have hP6 := D6.at np hP5t
      have m0 := Int.emod_nonneg (0 + r5) (show (2 : Int) ^ w.toNat ≠ 0 by omega)
      have m1 := Int.emod_lt_of_pos (0 + r5) hz
      have n0 := Int.emod_nonneg (0 - 1) (show (2 : Int) ^ w.toNat ≠ 0 by omega)
      have n1 := Int.emod_lt_of_pos (0 - 1) hz
      have hall : AllI (fun i => 0 ≤ i ∧ i < 2 ^ w.toNat) [V.int 0, V.int (2 ^ w.toNat - 1), V.int r4, V.int ((0 + r5) % 2 ^ w.toNat), V.int ((0 - 1) % 2 ^ w.toNat)] :=
        .cons ⟨by omega, by omega⟩ (.cons ⟨by omega, by omega⟩ (.cons ⟨by omega, by omega⟩ (.cons ⟨m0, m1⟩ (.cons ⟨n0, n1⟩ .nil))))
      obtain ⟨v, ev, v0, v1⟩ := hall.pick a6 b6
      refine ⟨_, _, _, _, rfl, rfl, SqL.of (D6.at nt upd_same), ev, ?_⟩
      refine ⟨p, _, _, rfl, rfl, hP6, by rw [List.length_map]; exact Nat.lt_of_le_of_lt (show ns.length ≤ 1000 by omega) (by decide), ?_⟩
      refine ⟨ns ++ [v], _, _, _, rfl, ((D35.new ht).trans D6).set hpn np, by rw [upd_same, List.map_append]; rfl, by rw [List.length_append, hl]; rfl, fun j hj => ?_⟩
      rw [List.length_append, List.length_singleton] at hj
      by_cases h2 : j < ns.length
      · rw [nth_app h2]
        exact hb j h2
      · rw [show j = ns.length by omega, nth_last]
        exact ⟨v0, v1⟩
    · rw [decide_eq_false hns]
      have hnl : 0 < ns.length := List.length_pos_iff.mpr hns
      walk_at "go"
      refine ⟨_, _, _, _, rfl, rfl, SqL.of hPe, at_back hnl, ?_⟩
      generalize nth ns (ns.length - 1) = near
      walk_at "go"
      intro r4 H4 a4 b4 D4
      walk_at "go"
      intro r5 H5 a5 b5 D5
      walk_at "go"
      intro t ht
      have nt : t ≠ a := D5.src.ne ht
      have D35 := (D3.new he).trans (D4.trans D5)
      have hP5 := D5.at np (D4.at np hPe)
      have hP5t := upd_at (u := .lst [V.int 0, V.int (2 ^ w.toNat - 1), V.int r4, V.int ((near + r5) % 2 ^ w.toNat), V.int ((near - 1) % 2 ^ w.toNat)]) hP5 ht
      walk_at "go"
      intro r6 H6 a6 b6 D6
      have hP6 := D6.at np hP5t
      have m0 := Int.emod_nonneg (near + r5) (show (2 : Int) ^ w.toNat ≠ 0 by omega)
      have m1 := Int.emod_lt_of_pos (near + r5) hz
      have n0 := Int.emod_nonneg (near - 1) (show (2 : Int) ^ w.toNat ≠ 0 by omega)
      have n1 := Int.emod_lt_of_pos (near - 1) hz
      have hall : AllI (fun i => 0 ≤ i ∧ i < 2 ^ w.toNat) [V.int 0, V.int (2 ^ w.toNat - 1), V.int r4, V.int ((near + r5) % 2 ^ w.toNat), V.int ((near - 1) % 2 ^ w.toNat)] :=
        .cons ⟨by omega, by omega⟩ (.cons ⟨by omega, by omega⟩ (.cons ⟨by omega, by omega⟩ (.cons ⟨m0, m1⟩ (.cons ⟨n0, n1⟩ .nil))))
      obtain ⟨v, ev, v0, v1⟩ := hall.pick a6 b6
      refine ⟨_, _, _, _, rfl, rfl, SqL.of (D6.at nt upd_same), ev, ?_⟩
      refine ⟨p, _, _, rfl, rfl, hP6, by rw [List.length_map]; exact Nat.lt_of_le_of_lt (show ns.length ≤ 1000 by omega) (by decide), ?_⟩
      refine ⟨ns ++ [v], _, _, _, rfl, ((D35.new ht).trans D6).set hpn np, by rw [upd_same, List.map_append]; rfl, by rw [List.length_append, hl]; rfl, fun j hj => ?_⟩
      rw [List.length_append, List.length_singleton] at hj
      by_cases h2 : j < ns.length
      · rw [nth_app h2]
        exact hb j h2
      · rw [show j = ns.length by omega, nth_last]
        exact ⟨v0, v1⟩
  · subst e
    walk_at "go"
    exact q p ns _ D3 hp np ⟨hP, ⟨by omega, by omega, fun j hj => (hb j hj).1, fun j hj => (hb j hj).2⟩, by omega⟩
theorem mod_back {s d v W : Int} (h : (s + d) % W = v) (d0 : 0 ≤ d) (d1 : d < W) : (v - s) % W = d := by
  have e : v - s = d + W * -((s + d) / W) := by
    rw [← h, Int.emod_def, Int.mul_neg]
    omega
  rw [e, Int.add_mul_emod_self_left]
  exact Int.emod_eq_of_lt d0 d1
abbrev sLStepped : Stmt := topS 27
theorem scLStepped : FnScope ["width", "values", "found", "value", "cycle"] ["width", "values"] (defScope sLStepped) := ⟨rfl, rfl, rfl, by decide +kernel, rfl, by decide +kernel, by decide +kernel⟩
set_option maxHeartbeats 2000000 in
theorem ok_LStepped (D : DefAt K mg "_law_stepped" sLStepped ["width", "values"])  (T : Txt mg) : Cal P w K mg base "_law_stepped" ["width", "values"] 1 (spLeast) := by
  refine D.cal scLStepped (fun vs H Q E h => (by (obtain ⟨_, _, _, rfl, _⟩ := h); rfl)) (fun f cdv A outer s H vs Q E hr h => ?_)
  obtain ⟨w, l, ns, rfl, w0, w1, hL, S, q⟩ := h
  refine ⟨_, pss_cons (ps_set (i := 2) scLStepped.nd rfl (Or.inl rfl) (pe_lst (pa_cons (pe_ix ix_list (pv 1) pe_int (fun _ _ => rfl)) pa_nil)))
      (pss_cons (ps_for PassesOwn.never rfl (pi_list (pe_slice sl_list (pv 1) (po_some pe_int) po_none)) (pg_name (i := 3) scLStepped.nd rfl (Or.inl rfl))
        (pss_cons (ps_set (i := 4) scLStepped.nd rfl (Or.inl rfl) (pe_ix ix_list (pv 2) (pe_un un_neg pe_int) (fun _ _ => rfl)))
        (pss_cons (ps_while PassesOwn.never (pt_cmpR op_ne (pe_op op_mod (pe_callTy call_int1 (by rfl) T.int (by decide +kernel) (pa_cons (pv 4) pa_nil)) (pe_op op_shlE pe_int (pv 0))) (pv 3) (nomark _))
          (pss_one (ps_set (i := 4) scLStepped.nd rfl (Or.inl rfl) (pe_op op_add (pv 4) pe_int))))
        (pss_one (ps_expr (pe_bm PySem.F.plainAttrs_list PySem.F.slot_list_append PySem.F.type_list_append mt_append (pv 2) (pa_cons (pv 4) pa_nil)))))))
      (pss_one (ps_ret (pv 2)))), ?_⟩
  have hz := pos_pow w.toNat
  have hne := S.ne
  have few := S.few
  walk_at "go"
  intro p hp
  have hLp := upd_at (u := .lst [.int (nth ns 0)]) hL hp
  walk_at "go"
  intro c hc
  rw [cut1]
  have npc : c ≠ p := fun e => by
    rw [e, upd_same] at hc
    cases hc
  walk_at "go"
  refine for_list (K := K) (a := c) (xs := (ns.map V.int).drop 1) (fun i σ H' => ∃ v3 v4 : Option V, σ = [some (.int w), some (.ref l), some (.ref p), v3, v4] ∧ Same H H' ∧ H' p = some (.lst ((tab (lf (2 ^ w.toNat) ns) (i + 1)).map V.int)) ∧ H' c = some (.lst ((ns.map V.int).drop 1)))
    ⟨none, none, rfl, (same_upd hp).trans (same_upd hc), (upd_ne npc.symm).trans upd_same, upd_same⟩ (fun i σ H1 _ ⟨v3, v4, e, sm, hP, hC⟩ => SqL.of hC) (fun i x σ H1 hx ⟨v3, v4, e, sm, hP, hC⟩ => ?_) (fun σ H1 ⟨v3, v4, e, sm, hP, hC⟩ => ?_)
  · subst e
    rw [List.getElem?_drop, Nat.add_comm] at hx
    obtain ⟨hi, ex⟩ := nth_of hx
    subst ex
    walk_at "go"
    have hb := at_back (ns := tab (lf (2 ^ w.toNat) ns) (i + 1)) (by rw [tab_length]; omega)
    rw [tab_length, show i + 1 - 1 = i by omega, nth_tab (by omega)] at hb
    refine ⟨_, _, _, _, rfl, rfl, SqL.of hP, hb, ?_⟩
    have v0 := S.lo (i + 1) (by omega)
    have v1 := S.hi (i + 1) (by omega)
    have hn : lf (2 ^ w.toNat) ns (i + 1) = lf (2 ^ w.toNat) ns i + (nth ns (i + 1) - lf (2 ^ w.toNat) ns i) % 2 ^ w.toNat := rfl
    generalize lf (2 ^ w.toNat) ns i = s at hn
    generalize nth ns (i + 1) = v at hn v0 v1
    have t0 := Int.emod_nonneg (v - s) (show (2 : Int) ^ w.toNat ≠ 0 by omega)
    refine while_by (c := _) (tb := _) (fun σ H' => ∃ d : Int, σ = [some (.int w), some (.ref l), some (.ref p), some (.int v), some (.int (s + d))] ∧ H' = H1 ∧ 0 ≤ d ∧ d ≤ (v - s) % 2 ^ w.toNat)
      (fun σ _ => match σ[4]? with
        | some (some (V.int z)) => (s + (v - s) % 2 ^ w.toNat - z).toNat
        | _ => 0) ⟨0, by rw [Int.add_zero]; rfl, rfl, by omega, t0⟩ ?_ ?_
    · rintro σ H2 ⟨d, e, e2, d0, d1⟩
      subst e e2
      walk_at "go"
      by_cases hd : d = (v - s) % 2 ^ w.toNat
      · refine ifEn (by rw [hd, add_mod]; exact Int.emod_eq_of_lt v0 v1) ?_
        walk_at "go"
        refine ⟨p, _, _, rfl, rfl, hP, ?_, ?_⟩
        · rw [tab_len]
          exact Nat.lt_of_le_of_lt (show i + 1 ≤ 1000 by omega) (by decide)
        · refine ⟨_, _, rfl, same_set sm hp, ?_, ?_⟩
          · rw [upd_same, tab_succ _ (i + 1), List.map_append, hn, hd]
            rfl
          · rw [upd_ne npc]
            exact hC
      · refine ifNEn (fun h => hd ?_) ?_
        · exact (mod_back h d0 (by have := Int.emod_lt_of_pos (v - s) hz; omega)).symm
        · walk_at "go"
          refine ⟨⟨d + 1, by rw [← Int.add_assoc]; rfl, rfl, by omega, by omega⟩, ?_⟩
          show (s + (v - s) % 2 ^ w.toNat - (s + d + 1)).toNat < (s + (v - s) % 2 ^ w.toNat - (s + d)).toNat
          omega
    · intro σ H Q Q' hq h
      rcases h with ⟨v4, e4, h | h⟩
      · obtain ⟨i4, ei, v0, e0, i, j, a1, a2, a3, r, a4, i', j', b1, b2, b3, v3, e3, s1, k, ek, h⟩ := h
        exact ⟨v4, e4, .inl ⟨i4, ei, v0, e0, i, j, a1, a2, a3, r, a4, i', j', b1, b2, b3, v3, e3, s1, k, ek, hq _ _ h⟩⟩
      · obtain ⟨i4, ei, v0, e0, i, j, a1, a2, a3, r, a4, i', j', b1, b2, b3, v3, e3, s1, k, ek, h⟩ := h
        exact ⟨v4, e4, .inr ⟨i4, ei, v0, e0, i, j, a1, a2, a3, r, a4, i', j', b1, b2, b3, v3, e3, s1, k, ek, hq _ _ h⟩⟩
  · subst e
    walk_at "go"
    rw [List.length_drop, List.length_map, show ns.length - 1 + 1 = ns.length by omega] at hP
    exact q _ p sm hp hP
def spLaw (K : PySem.W.Frag) : Sp := fun vs H Q _ => ∃ (a : Addr) (ns : List Int), vs = [.ref a] ∧ SqL K H a (ns.map V.int) ∧ ns.length ≤ 63 ∧ ∀ H', Q (.bl true) H'
/-- later looks: a least history with whole wraps put in -/
structure Later (W : Int) (vs ls : List Int) (wr : Int) : Prop where
  w0 : 0 ≤ wr
  w1 : wr ≤ 2 * ls.length
  at_ : ∀ j, j < ls.length → ∃ k, nth ls j = lf W vs j + W * k ∧ 0 ≤ k ∧ k ≤ wr
  up : ∀ j, j + 1 < ls.length → ∃ d, nth ls (j + 1) - nth ls j = lf W vs (j + 1) - lf W vs j + W * d ∧ 0 ≤ d
  last : ∀ j, j + 1 = ls.length → nth ls j = lf W vs j + W * wr
theorem Later.nil (W : Int) (vs : List Int) : Later W vs [] 0 := ⟨Int.le_refl _, by simp, fun j h => absurd h (by simp), fun j h => absurd h (by simp), fun j h => absurd h (by simp)⟩
theorem Later.snoc {W : Int} {vs ls : List Int} {wr r : Int} (L : Later W vs ls wr) (r0 : 0 ≤ r) (r1 : r < 3) : Later W vs (ls ++ [lf W vs ls.length + W * (wr + r)]) (wr + r) := by
  have w0 := L.w0
  have w1 := L.w1
  have len : ∀ x : Int, (ls ++ [x]).length = ls.length + 1 := fun x => by rw [List.length_append]; rfl
  refine ⟨by omega, by rw [len]; omega, fun j hj => ?_, fun j hj => ?_, fun j hj => ?_⟩
  · rw [len] at hj
    by_cases h : j < ls.length
    · obtain ⟨k, e, k0, k1⟩ := L.at_ j h
      exact ⟨k, by rw [nth_app h]; exact e, k0, by omega⟩
    · exact ⟨wr + r, by rw [show j = ls.length by omega, nth_last], by omega, Int.le_refl _⟩
  · rw [len] at hj
    by_cases h : j + 1 < ls.length
    · obtain ⟨d, e, d0⟩ := L.up j h
      exact ⟨d, by rw [nth_app h, nth_app (by omega)]; exact e, d0⟩
    · have e := L.last j (by omega)
      refine ⟨r, ?_, r0⟩
      rw [show j + 1 = ls.length by omega, nth_last, nth_app (by omega), e, Int.mul_add]
      omega
  · rw [len] at hj
    rw [show j = ls.length by omega, nth_last]
theorem Later.looks {W : Int} {vs ls : List Int} {wr : Int} (hW : 0 < W) (h1 : W ≤ 18446744073709551616) (S : Shows W vs) (L : Later W vs ls wr) (hl : ls.length = vs.length) : Looks ls := by
  have few := S.few
  have ne := S.ne
  refine ⟨by omega, by omega, ?_, fun i hi => ?_, fun i hi => ?_⟩
  · obtain ⟨k, e, k0, _⟩ := L.at_ 0 (by omega)
    have h0 := (lf_low hW S 0).1
    have h2 := Int.mul_nonneg (Int.le_of_lt hW) k0
    rw [e]
    omega
  · obtain ⟨k, e, k0, k1⟩ := L.at_ i hi
    have h0 := (lf_low hW S i).2
    have h2 : W * ((i : Int) + 1) ≤ 18446744073709551616 * 1000 := Int.mul_le_mul h1 (by omega) (by omega) (by decide)
    have w1 := L.w1
    have h3 : W * k ≤ 18446744073709551616 * 2000 := Int.mul_le_mul h1 (by omega) k0 (by decide)
    rw [e]
    omega
  · obtain ⟨d, e, d0⟩ := L.up i hi
    have st := (lf_step hW vs i).1
    have h2 := Int.mul_nonneg (Int.le_of_lt hW) d0
    omega
theorem Later.shown {W : Int} {vs ls : List Int} {wr : Int} (hW : 0 < W) (S : Shows W vs) (L : Later W vs ls wr) (hl : ls.length = vs.length) : modF W ls = vs := by
  rw [← tab_nth ls, mod_tab, hl, tab_congr (g := nth vs), tab_nth]
  intro i hi
  obtain ⟨k, e, _, _⟩ := L.at_ i (by omega)
  rw [e, Int.add_mul_emod_self_left]
  exact lf_mod hW S i hi
theorem Later.counted {W : Int} {vs ls : List Int} {wr : Int} (hW : 0 < W) (L : Later W vs ls wr) (hl : ls.length = vs.length) : cntF W ls = lf W vs (vs.length - 1) - lf W vs 0 := by
  rw [← tab_nth ls, hl]
  refine cnt_tab fun i hi => ?_
  obtain ⟨d, e, _⟩ := L.up i (by omega)
  rw [e, Int.add_mul_emod_self_left]
  exact lf_gap hW i
abbrev sLaw : Stmt := topS 28
theorem scLaw : FnScope ["script", "k", "source", "width", "values", "kept", "told", "one", "other", "wraps", "later", "look"] ["script"] (defScope sLaw) := ⟨rfl, rfl, rfl, by decide +kernel, rfl, by decide +kernel, by decide +kernel⟩
set_option maxHeartbeats 2000000 in
theorem ok_Law (D : DefAt K mg "law" sLaw ["script"]) (CLSource : Cal P w K mg base "_law_source" ["script", "k"] 2 (spSource K)) (CLWidth : Cal P w K mg base "_law_width" ["source"] 3 (spWidthDraw)) (CLValues : Cal P w K mg base "_law_values" ["source", "width"] 3 (spValuesDraw)) (CLeastHistory : Cal P w K mg base "least_history" ["width", "values"] 5 (spLeast)) (CLStepped : Cal P w K mg base "_law_stepped" ["width", "values"] 1 (spLeast)) (CShown : Cal P w K mg base "shown" ["width", "looks"] 5 (spShown)) (CLNext : Cal P w K mg base "_law_next" ["source", "many"] 2 (spNext)) (CCounted : Cal P w K mg base "counted" ["width", "looks"] 5 (spCounted)) (CLost : Cal P w K mg base "lost" ["width", "looks"] 5 (spLost)) (T : Txt mg) : Cal P w K mg base "law" ["script"] 7 (spLaw K) := by
  refine D.cal scLaw (fun vs H Q E h => (by (obtain ⟨_, _, rfl, _⟩ := h); rfl)) (fun f cdv A outer s H vs Q E hr h => ?_)
  obtain ⟨a, ss, rfl, hS, hl, q⟩ := h
  refine ⟨_, pss_cons (ps_for PassesOwn.never rfl (pi_range1 (by rfl) T.range (pa_cons (pe_callB (call_max2 rfl) (by rfl) T.max (by decide +kernel) (pa_cons pe_int (pa_cons (pe_callB (call_min2 rfl) (by rfl) T.min (by decide +kernel) (pa_cons pe_int (pa_cons (pe_callB call_len_seq (by rfl) T.len PySem.boot_len (pa_cons (pv 0) pa_nil)) pa_nil))) pa_nil))) pa_nil)) (pg_name (i := 1) scLaw.nd rfl (Or.inl rfl))
        (pss_cons (ps_set (i := 2) scLaw.nd rfl (Or.inl rfl) (pe_cal CLSource hr (by rfl) (pa_cons (pv 0) (pa_cons (pv 1) pa_nil))))
        (pss_cons (ps_set (i := 3) scLaw.nd rfl (Or.inl rfl) (pe_cal CLWidth hr (by rfl) (pa_cons (pv 2) pa_nil)))
        (pss_cons (ps_set (i := 4) scLaw.nd rfl (Or.inl rfl) (pe_cal CLValues hr (by rfl) (pa_cons (pv 2) (pa_cons (pv 3) pa_nil))))
        (pss_cons (ps_set (i := 5) scLaw.nd rfl (Or.inl rfl) (pe_callTy call_list_of (by rfl) T.list (by decide +kernel) (pa_cons (pv 4) pa_nil)))
        (pss_cons (ps_set (i := 6) scLaw.nd rfl (Or.inl rfl) (pe_cal CLeastHistory hr (by rfl) (pa_cons (pv 3) (pa_cons (pv 4) pa_nil))))
        (pss_cons (ps_if (PW.pt (pw_and (pt_cmpR op_lt (pv 3) pe_int (nomark _)) (pw_and1 (pt_cmpR (op_neIL hr.units) (pv 6) (pe_cal CLStepped hr (by rfl) (pa_cons (pv 3) (pa_cons (pv 4) pa_nil))) (nomark _)))))
          (pss_one (ps_ret pe_bl))
          pss_nil)
        (pss_cons (ps_if (PW.pt (pw_or (pt_cmpR op_ne (pe_ix ix_list (pv 6) pe_int (fun _ _ => rfl)) (pe_ix ix_list (pv 4) pe_int (fun _ _ => rfl)) (nomark _)) (pw_or (pt_cmpR (op_neIL hr.units) (pe_cal CShown hr (by rfl) (pa_cons (pv 3) (pa_cons (pv 6) pa_nil))) (pv 4) (nomark _)) (pw_or1 (pt_cmpR (op_neIL hr.units) (pv 4) (pv 5) (nomark _))))))
          (pss_one (ps_ret pe_bl))
          pss_nil)
        (pss_cons (ps_for PassesOwn.never rfl (pi_zip (by rfl) T.zip (pa_cons (pv 6) (pa_cons (pe_slice sl_list (pv 6) (po_some pe_int) po_none) pa_nil))) (pg_tup rfl (pgs_cons (pg_name (i := 7) scLaw.nd rfl (Or.inl rfl)) (pgs_cons (pg_name (i := 8) scLaw.nd rfl (Or.inl rfl)) pgs_nil)))
          (pss_one (ps_if (pt_not (pt_chain op_le op_lt pe_int (pe_op op_sub (pv 8) (pv 7)) (pe_op op_shlE pe_int (pv 3))))
            (pss_one (ps_ret pe_bl))
            pss_nil)))
        (pss_cons (ps_par (i := 9) (j := 10) (by rfl) scLaw.nd rfl rfl (by decide) rfl rfl (pa_cons pe_int (pa_cons (pe_lst pa_nil) pa_nil)) (by rfl))
        (pss_cons (ps_for PassesOwn.never rfl (pi_list (pv 6)) (pg_name (i := 11) scLaw.nd rfl (Or.inl rfl))
          (pss_cons (ps_set (i := 9) scLaw.nd rfl (Or.inl rfl) (pe_op op_add (pv 9) (pe_cal CLNext hr (by rfl) (pa_cons (pv 2) (pa_cons pe_int pa_nil)))))
          (pss_one (ps_expr (pe_bm PySem.F.plainAttrs_list PySem.F.slot_list_append PySem.F.type_list_append mt_append (pv 10) (pa_cons (pe_op op_add (pv 11) (pe_op op_mulE (pe_op op_shlE pe_int (pv 3)) (pv 9))) pa_nil))))))
        (pss_cons (ps_if (PW.pt (pw_or (pt_cmpR (op_neIL hr.units) (pe_cal CShown hr (by rfl) (pa_cons (pv 3) (pa_cons (pv 10) pa_nil))) (pv 4) (nomark _)) (pw_or1 (pt_cmpR op_ne (pe_cal CCounted hr (by rfl) (pa_cons (pv 3) (pa_cons (pv 10) pa_nil))) (pe_op op_sub (pe_ix ix_list (pv 6) (pe_un un_neg pe_int) (fun _ _ => rfl)) (pe_ix ix_list (pv 6) pe_int (fun _ _ => rfl))) (nomark _)))))
          (pss_one (ps_ret pe_bl))
          pss_nil)
        (pss_cons (ps_if (PW.pt (pw_or (pt_cmpR op_ne (pe_cal CCounted hr (by rfl) (pa_cons (pv 3) (pa_cons (pv 6) pa_nil))) (pe_op op_sub (pe_ix ix_list (pv 6) (pe_un un_neg pe_int) (fun _ _ => rfl)) (pe_ix ix_list (pv 6) pe_int (fun _ _ => rfl))) (nomark _)) (pw_or1 (pt_cmpR (op_nePL hr.units) (pe_cal CLost hr (by rfl) (pa_cons (pv 3) (pa_cons (pv 6) pa_nil))) (pe_lst pa_nil) (nomark _)))))
          (pss_one (ps_ret pe_bl))
          pss_nil)
        (pss_cons (ps_expr (pe_bm PySem.F.plainAttrs_list PySem.F.slot_list_append PySem.F.type_list_append mt_append (pv 6) (pa_cons (pe_ix ix_list (pv 6) (pe_un un_neg pe_int) (fun _ _ => rfl)) pa_nil)))
        (pss_one (ps_if (pt_cmpR (op_neIL hr.units) (pe_cal CLeastHistory hr (by rfl) (pa_cons (pv 3) (pa_cons (pv 4) pa_nil))) (pe_slice sl_list (pv 6) po_none (po_some (pe_un un_neg pe_int))) (nomark _))
          (pss_one (ps_ret pe_bl))
          pss_nil))))))))))))))))
      (pss_one (ps_ret pe_bl)), ?_⟩
  walk_at "go"
  refine for_range (lo := 0) (n := _) (fun i σ H' => ∃ v1 v2 v3 v4 v5 v6 v7 v8 v9 v10 v11 : Option V, σ = [some (.ref a), v1, v2, v3, v4, v5, v6, v7, v8, v9, v10, v11] ∧ Same H H')
    ⟨none, none, none, none, none, none, none, none, none, none, none, rfl, Same.refl H⟩ (fun i σ H1 hi ⟨v1, v2, v3, v4, v5, v6, v7, v8, v9, v10, v11, e, sm⟩ => ?_) (fun σ H1 ⟨v1, v2, v3, v4, v5, v6, v7, v8, v9, v10, v11, e, sm⟩ => ?_)
  · subst e
    walk_at "go"
    refine ⟨a, ss, _, rfl, sm.seq hS, by omega, fun p x y n hp => ?_⟩
    have s2 : Src (upd H1 p (.lst [.int x, .int y, .int n])) p := Src.made
    walk_at "go"
    intro w H2 w0 w1 D2
    have hz := pos_pow w.toNat
    have hz1 := shl_one (show 0 ≤ w by omega) w1
    walk_at "go"
    intro l vs H3 D3 hl3 nl ⟨hL, S, few⟩
    have ne := S.ne
    walk_at "go"
    intro c hc
    have nc : c ≠ p := (D2.trans D3).src.ne hc
    have hL4 := upd_at (u := .lst (vs.map V.int)) hL hc
    have D4 := (D2.trans D3).new (o := .lst (vs.map V.int)) hc
    have hC4 : upd H3 c (.lst (vs.map V.int)) c = some (.lst (vs.map V.int)) := upd_same
    generalize upd H3 c (.lst (vs.map V.int)) = H4 at hL4 hC4 D4
    walk_at "go"
    refine ⟨w, l, vs, rfl, w0, w1, hL4, S, fun H5 t s5 ht hT5 => ?_⟩
    have nt : t ≠ p := D4.src.ne ht
    have hL5 := s5 _ _ hL4
    have hC5 := s5 _ _ hC4
    have LT := least_looks hz hz1 S
    have ltl : (leastF (2 ^ w.toNat) vs).length = vs.length := tab_length _ _
    have D5 : Dr p (upd H1 p (.lst [.int x, .int y, .int n])) H5 := ⟨D4.src.same s5, D4.but.trans (SameBut.of s5)⟩
    walk_at "go"
    refine and_cut ?rest (fun e hr => ?_)
    case rest =>
      intro H6 s6
      have hL6 := s6 _ _ hL5
      have hC6 := s6 _ _ hC5
      have hT6 := s6 _ _ hT5
      have D6 : Dr p (upd H1 p (.lst [.int x, .int y, .int n])) H6 := ⟨D5.src.same s6, D5.but.trans (SameBut.of s6)⟩
      walk_at "go"
      refine ifEn (show nth (leastF (2 ^ w.toNat) vs) 0 = nth vs 0 from nth_tab ne) ?_
      walk_at "go"
      refine ⟨w, t, _, rfl, w0, w1, hT6, LT, fun p7 hp7 => ?_⟩
      rw [least_shown hz S]
      have hL7 := upd_at (u := .lst (vs.map V.int)) hL6 hp7
      have hC7 := upd_at (u := .lst (vs.map V.int)) hC6 hp7
      have hT7 := upd_at (u := .lst (vs.map V.int)) hT6 hp7
      have D7 := D6.new (o := .lst (vs.map V.int)) hp7
      have hP7 : upd H6 p7 (.lst (vs.map V.int)) p7 = some (.lst (vs.map V.int)) := upd_same
      generalize upd H6 p7 (.lst (vs.map V.int)) = H7 at hL7 hC7 hT7 D7 hP7
      walk_at "go"
      refine ⟨_, _, vs, vs, rfl, rfl, SqL.of hP7, SqL.of hL7, ?_⟩
      refine ⟨_, rfl, ?_⟩
      rw [decide_eq_true (rfl : vs = vs)]
      walk_at "go"
      refine ⟨_, _, vs, vs, rfl, rfl, SqL.of hL7, SqL.of hC7, ?_⟩
      refine ⟨_, rfl, ?_⟩
      rw [decide_eq_true (rfl : vs = vs)]
      walk_at "go"
      intro c8 hc8
      rw [cut1]
      have hL8 := upd_at (u := .lst (((leastF (2 ^ w.toNat) vs).map V.int).drop 1)) hL7 hc8
      have hT8 := upd_at (u := .lst (((leastF (2 ^ w.toNat) vs).map V.int).drop 1)) hT7 hc8
      have D8 := D7.new (o := .lst (((leastF (2 ^ w.toNat) vs).map V.int).drop 1)) hc8
      have hc88 : upd H7 c8 (.lst (((leastF (2 ^ w.toNat) vs).map V.int).drop 1)) c8 = some (.lst (((leastF (2 ^ w.toNat) vs).map V.int).drop 1)) := upd_same
      generalize upd H7 c8 (.lst (((leastF (2 ^ w.toNat) vs).map V.int).drop 1)) = H8 at hL8 hT8 D8 hc88
      walk_at "go"
      refine ⟨_, _, _, _, rfl, SqL.of hT8, SqL.of hc88, ?_⟩
      refine for_zipS (K := K) (n := vs.length - 1) (by rw [List.length_drop, List.length_map, ltl]; omega) (fun j σ H' => ∃ v7 v8 : Option V, σ = [some (.ref a), some (.int (0 + (i : Int))), some (.ref p), some (.int w), some (.ref l), some (.ref c), some (.ref t), v7, v8, v9, v10, v11] ∧ Same H8 H')
        ⟨_, _, rfl, Same.refl H8⟩ (fun j σ H' ⟨v7, v8, e, s⟩ => ⟨SqL.of (s _ _ hT8), SqL.of (s _ _ hc88)⟩) (fun j x y T σ H' hx hy ⟨v7, v8, e, s⟩ hT => ?_) (fun σ H9 ⟨v7, v8, e, s9⟩ => ?_)
      · subst e
        rw [List.getElem?_drop, Nat.add_comm] at hy
        obtain ⟨hj, ex⟩ := nth_of hx
        obtain ⟨hj2, ey⟩ := nth_of hy
        subst ex ey
        rw [ltl] at hj hj2
        have st := lf_step hz vs j
        have ea : nth (leastF (2 ^ w.toNat) vs) j = lf (2 ^ w.toNat) vs j := nth_tab hj
        have eb : nth (leastF (2 ^ w.toNat) vs) (j + 1) = lf (2 ^ w.toNat) vs (j + 1) := nth_tab hj2
        walk_at "go"
        exact s.trans (same_upd hT)
      · subst e
        have hL9 := s9 _ _ hL8
        have hT9 := s9 _ _ hT8
        have D9 : Dr p (upd H1 p (.lst [.int x, .int y, .int n])) H9 := ⟨D8.src.same s9, D8.but.trans (SameBut.of s9)⟩
        walk_at "go"
        intro q9 hq9
        have nq : q9 ≠ p := D9.src.ne hq9
        have hbk := at_back (ns := leastF (2 ^ w.toNat) vs) (by omega)
        rw [ltl, show nth (leastF (2 ^ w.toNat) vs) (vs.length - 1) = lf (2 ^ w.toNat) vs (vs.length - 1) from nth_tab (by omega)] at hbk
        have hT10 := upd_at (u := .lst []) hT9 hq9
        have hL10 := upd_at (u := .lst []) hL9 hq9
        walk_at "go"
        refine for_list (K := K) (a := t) (xs := (leastF (2 ^ w.toNat) vs).map V.int) (fun j σ H' => ∃ (ls : List Int) (wr : Int) (v11 : Option V), σ = [some (.ref a), some (.int (0 + (i : Int))), some (.ref p), some (.int w), some (.ref l), some (.ref c), some (.ref t), v7, v8, some (.int wr), some (.ref q9), v11] ∧ Dr p H9 H' ∧ H' q9 = some (.lst (ls.map V.int)) ∧ ls.length = j ∧ Later (2 ^ w.toNat) vs ls wr)
          ⟨[], 0, _, rfl, (Dr.refl D9.src).new hq9, upd_same, rfl, Later.nil _ _⟩ (fun j σ H' _ ⟨ls, wr, v11, e, D, hQ, _, _⟩ => SqL.of (D.at nt hT9)) (fun j x σ H' hx ⟨ls, wr, v11, e, D, hQ, hj, L⟩ => ?_) (fun σ H10 ⟨ls, wr, v11, e, D10, hQ, hj, L⟩ => ?_)
        · subst e
          obtain ⟨hi2, ex⟩ := nth_of hx
          rw [show nth (leastF (2 ^ w.toNat) vs) j = lf (2 ^ w.toNat) vs j from nth_tab (by omega)] at ex
          subst ex
          have wr0 := L.w0
          have wr1 := L.w1
          walk_at "go"
          intro r Hn r0 r1 Dn
          walk_at "go"
          refine ⟨q9, _, _, rfl, rfl, Dn.at nq hQ, by rw [List.length_map]; exact Nat.lt_of_le_of_lt (show ls.length ≤ 1000 by omega) (by decide), ?_⟩
          refine ⟨ls ++ [lf (2 ^ w.toNat) vs ls.length + 2 ^ w.toNat * (wr + r)], wr + r, _, rfl, (D.trans Dn).set hq9 nq, ?_, by rw [List.length_append, hj]; rfl, L.snoc r0 r1⟩
          rw [upd_same, List.map_append, hj]
          rfl
        · subst e
          rw [List.length_map, ltl] at hj
          have LL := L.looks hz hz1 S hj
          have hTa := D10.at nt hT9
          have hLa := D10.at nl hL9
          have Da := D9.trans D10
          walk_at "go"
          refine ⟨w, q9, ls, rfl, w0, w1, hQ, LL, fun p11 hp11 => ?_⟩
          rw [L.shown hz S hj]
          have hLb := upd_at (u := .lst (vs.map V.int)) hLa hp11
          have hTb := upd_at (u := .lst (vs.map V.int)) hTa hp11
          have hQb := upd_at (u := .lst (vs.map V.int)) hQ hp11
          have Db := Da.new (o := .lst (vs.map V.int)) hp11
          have hPb : upd H10 p11 (.lst (vs.map V.int)) p11 = some (.lst (vs.map V.int)) := upd_same
          generalize upd H10 p11 (.lst (vs.map V.int)) = H11 at hLb hTb hQb Db hPb
          walk_at "go"
          refine ⟨_, _, vs, vs, rfl, rfl, SqL.of hPb, SqL.of hLb, ?_⟩
          refine ⟨_, rfl, ?_⟩
          rw [decide_eq_true (rfl : vs = vs)]
          walk_at "go"
          refine ⟨w, q9, ls, rfl, w0, w1, hQb, LL, fun H12 s12 => ?_⟩
          rw [L.counted hz hj]
          have hLc := s12 _ _ hLb
          have hTc := s12 _ _ hTb
          have Dc : Dr p (upd H1 p (.lst [.int x, .int y, .int n])) H12 := ⟨Db.src.same s12, Db.but.trans (SameBut.of s12)⟩
          walk_at "go"
          have hn0 : nth (leastF (2 ^ w.toNat) vs) (Int.toNat 0) = lf (2 ^ w.toNat) vs 0 := nth_tab ne
          refine ⟨_, _, _, _, rfl, rfl, SqL.of hTc, hbk, ?_⟩
          walk_at "go"
          refine ⟨w, t, _, rfl, w0, w1, hTc, LT, fun H13 s13 => ?_⟩
          rw [least_counted hz]
          have hLd := s13 _ _ hLc
          have hTd := s13 _ _ hTc
          walk_at "go"
          refine ⟨_, _, _, _, rfl, rfl, SqL.of hTd, hbk, ?_⟩
          walk_at "go"
          refine ⟨w, t, _, rfl, w0, w1, hTd, LT, fun H14 p14 s14 hp14 hR => ?_⟩
          rw [least_lost hz] at hR
          have s1114 := (s12.trans s13).trans s14
          have hLe := s14 _ _ hLd
          have hTe := s14 _ _ hTd
          have De : Dr p (upd H1 p (.lst [.int x, .int y, .int n])) H14 := ⟨Db.src.same s1114, Db.but.trans (SameBut.of s1114)⟩
          walk_at "go"
          intro e15 he
          have hLf := upd_at (u := .lst []) hLe he
          have hTf := upd_at (u := .lst []) hTe he
          have Df := De.new (o := .lst []) he
          refine ⟨_, _, [], [], rfl, rfl, hR.same (same_upd he), ⟨⟨[], upd_same, trivial⟩⟩, ?_⟩
          generalize upd H14 e15 (.lst []) = H15 at hLf hTf Df
          refine ⟨_, rfl, ?_⟩
          rw [decide_eq_true (rfl : ([] : List (Int × Int)) = [])]
          walk_at "go"
          refine ⟨_, _, _, _, rfl, rfl, SqL.of hTf, hbk, ?_⟩
          have f1 : H1 t = none := (D4.same hp).free ht
          have nlt : l ≠ t := ne_of_none hL4 ht
          refine ⟨t, _, _, rfl, rfl, hTf, by rw [List.length_map, ltl]; exact Nat.lt_of_le_of_lt (show vs.length ≤ 1000 by omega) (by decide), ?_⟩
          have sEnd : Same H1 (upd H15 t (.lst ((leastF (2 ^ w.toNat) vs).map V.int ++ [.int (lf (2 ^ w.toNat) vs (vs.length - 1))]))) := same_set (Df.same hp) f1
          have hLg := upd_at' (u := .lst ((leastF (2 ^ w.toNat) vs).map V.int ++ [.int (lf (2 ^ w.toNat) vs (vs.length - 1))])) hLf nlt
          have hTg : upd H15 t (.lst ((leastF (2 ^ w.toNat) vs).map V.int ++ [.int (lf (2 ^ w.toNat) vs (vs.length - 1))])) t = some (.lst ((leastF (2 ^ w.toNat) vs).map V.int ++ [.int (lf (2 ^ w.toNat) vs (vs.length - 1))])) := upd_same
          generalize upd H15 t (.lst ((leastF (2 ^ w.toNat) vs).map V.int ++ [.int (lf (2 ^ w.toNat) vs (vs.length - 1))])) = H16 at sEnd hLg hTg
          walk_at "go"
          refine ⟨w, l, vs, rfl, w0, w1, hLg, S, fun H17 p17 s17 hp17 hT17 => ?_⟩
          have hTh := s17 _ _ hTg
          walk_at "go"
          intro c18 hc18
          rw [cutLast, List.dropLast_concat]
          refine ⟨_, _, _, _, rfl, rfl, SqL.of (upd_at hT17 hc18), SqL.of upd_same, ?_⟩
          refine ⟨_, rfl, ?_⟩
          rw [decide_eq_true (rfl : leastF (2 ^ w.toNat) vs = leastF (2 ^ w.toNat) vs)]
          walk_at "go"
          exact ⟨_, _, _, _, _, _, _, _, _, _, _, rfl, (sm.trans sEnd).trans (s17.trans (same_upd hc18))⟩
    · walk_at "go"
      refine ⟨w, l, vs, rfl, w0, w1, hL5, S, fun H6 t2 s6 ht2 hT6 => ?_⟩
      refine ⟨_, _, _, _, rfl, rfl, SqL.of (s6 _ _ hT5), SqL.of hT6, ?_⟩
      refine ⟨_, rfl, ?_⟩
      rw [decide_eq_true (rfl : leastF (2 ^ w.toNat) vs = leastF (2 ^ w.toNat) vs)]
      exact hr H6 s6
  · subst e
    walk_at "go"
    exact q _
theorem all (DLCellAt : DefAt K mg "_law_cell_at" sLCellAt ["script", "k"]) (DLMixed : DefAt K mg "_law_mixed" sLMixed ["cell", "k"]) (DLSource : DefAt K mg "_law_source" sLSource ["script", "k"]) (DLNext : DefAt K mg "_law_next" sLNext ["source", "many"]) (DIsInteger : DefAt K mg "is_integer" sIsInteger ["thing"]) (DIsWithin : DefAt K mg "is_within" sIsWithin ["thing", "least", "greatest"]) (DIsAtLeast : DefAt K mg "is_at_least" sIsAtLeast ["thing", "least"]) (DCheckWidth : DefAt K mg "check_width" sCheckWidth ["width"]) (DAreCycles : DefAt K mg "are_cycles" sAreCycles ["thing"]) (DCheckLooks : DefAt K mg "check_looks" sCheckLooks ["looks"]) (DShown : DefAt K mg "shown" sShown ["width", "looks"]) (DCounted : DefAt K mg "counted" sCounted ["width", "looks"]) (DLost : DefAt K mg "lost" sLost ["width", "looks"]) (DCheckValues : DefAt K mg "check_values" sCheckValues ["width", "values"]) (DLeastHistory : DefAt K mg "least_history" sLeastHistory ["width", "values"]) (DLWidth : DefAt K mg "_law_width" sLWidth ["source"]) (DLValues : DefAt K mg "_law_values" sLValues ["source", "width"]) (DLStepped : DefAt K mg "_law_stepped" sLStepped ["width", "values"]) (DLaw : DefAt K mg "law" sLaw ["script"]) (T : Txt mg) : Cal P w K mg base "law" ["script"] 7 (spLaw K) := by
  have CLCellAt : Cal P w K mg base "_law_cell_at" ["script", "k"] 1 (spCell K) := ok_LCellAt DLCellAt  T
  have CLMixed : Cal P w K mg base "_law_mixed" ["cell", "k"] 1 (spMixed) := ok_LMixed DLMixed  T
  have CLSource : Cal P w K mg base "_law_source" ["script", "k"] 2 (spSource K) := ok_LSource DLSource CLMixed CLCellAt T
  have CLNext : Cal P w K mg base "_law_next" ["source", "many"] 2 (spNext) := ok_LNext DLNext CLMixed T
  have CIsInteger : Cal P w K mg base "is_integer" ["thing"] 1 (spIsInt) := ok_IsInteger DIsInteger  T
  have CIsWithin : Cal P w K mg base "is_within" ["thing", "least", "greatest"] 2 (spWithin) := ok_IsWithin DIsWithin CIsInteger T
  have CIsAtLeast : Cal P w K mg base "is_at_least" ["thing", "least"] 2 (spAtLeast) := ok_IsAtLeast DIsAtLeast CIsInteger T
  have CCheckWidth : Cal P w K mg base "check_width" ["width"] 3 (spWidth) := ok_CheckWidth DCheckWidth CIsWithin T
  have CAreCycles : Cal P w K mg base "are_cycles" ["thing"] 3 (spCycles) := ok_AreCycles DAreCycles CIsAtLeast T
  have CCheckLooks : Cal P w K mg base "check_looks" ["looks"] 4 (spLooks) := ok_CheckLooks DCheckLooks CAreCycles T
  have CShown : Cal P w K mg base "shown" ["width", "looks"] 5 (spShown) := ok_Shown DShown CCheckWidth CCheckLooks T
  have CCounted : Cal P w K mg base "counted" ["width", "looks"] 5 (spCounted) := ok_Counted DCounted CCheckWidth CCheckLooks T
  have CLost : Cal P w K mg base "lost" ["width", "looks"] 5 (spLost) := ok_Lost DLost CCheckWidth CCheckLooks T
  have CCheckValues : Cal P w K mg base "check_values" ["width", "values"] 3 (spValues) := ok_CheckValues DCheckValues CIsWithin T
  have CLeastHistory : Cal P w K mg base "least_history" ["width", "values"] 5 (spLeast) := ok_LeastHistory DLeastHistory CCheckWidth CCheckValues T
  have CLWidth : Cal P w K mg base "_law_width" ["source"] 3 (spWidthDraw) := ok_LWidth DLWidth CLNext T
  have CLValues : Cal P w K mg base "_law_values" ["source", "width"] 3 (spValuesDraw) := ok_LValues DLValues CLNext T
  have CLStepped : Cal P w K mg base "_law_stepped" ["width", "values"] 1 (spLeast) := ok_LStepped DLStepped  T
  have CLaw : Cal P w K mg base "law" ["script"] 7 (spLaw K) := ok_Law DLaw CLSource CLWidth CLValues CLeastHistory CLStepped CShown CLNext CCounted CLost T
  exact CLaw
end
end My
open PySem PySem.W PyProof.Rows
set_option maxRecDepth 100000 in
set_option maxHeartbeats 0 in
theorem PySem.Challenge.cw_timekernel_k02_least_histories_holds : PySem.Challenge.rw_timekernel_k02_least_histories.Holds := by
  w_on; o_law; k_head; (case hw => w_witness2)
  k_fill
  refine L2.walk_of (l := PySem.Challenge.rw_timekernel_k02_least_histories) (n := 63) (k := 7) (x := "script") (CX := fun _ => L2.CX0) (sp := fun w => My.spLaw _) rfl (by decide) rfl ⟨rfl, by decide, by decide⟩ (fun w h Y => PySem.W.kIn_of Y) ?F (fun _ _ a ns hl _ hS => ⟨a, ns, rfl, hS, hl, fun _ => rfl⟩) (fun _ _ _ _ _ h => h)
  case F =>
    intro w mg fa h KX G hmg
    refine' TK.use (TK.defAt_mk (mg := mg) (x := "_law_cell_at") (st := My.sLCellAt) (ps := ["script", "k"]) KX G ?aLCellAt ?lLCellAt ?cLCellAt ?kLCellAt (fun _ _ _ _ _ _ us hl => match us, hl with | [_, _], _ => rfl)) ?rLCellAt
    (case aLCellAt => k_is); (case lLCellAt => k_is); (case cLCellAt => k_is); (case kLCellAt => k_is)
    intro DLCellAt
    refine' TK.use (TK.defAt_mk (mg := mg) (x := "_law_mixed") (st := My.sLMixed) (ps := ["cell", "k"]) KX G ?aLMixed ?lLMixed ?cLMixed ?kLMixed (fun _ _ _ _ _ _ us hl => match us, hl with | [_, _], _ => rfl)) ?rLMixed
    (case aLMixed => k_is); (case lLMixed => k_is); (case cLMixed => k_is); (case kLMixed => k_is)
    intro DLMixed
    refine' TK.use (TK.defAt_mk (mg := mg) (x := "_law_source") (st := My.sLSource) (ps := ["script", "k"]) KX G ?aLSource ?lLSource ?cLSource ?kLSource (fun _ _ _ _ _ _ us hl => match us, hl with | [_, _], _ => rfl)) ?rLSource
    (case aLSource => k_is); (case lLSource => k_is); (case cLSource => k_is); (case kLSource => k_is)
    intro DLSource
    refine' TK.use (TK.defAt_mk (mg := mg) (x := "_law_next") (st := My.sLNext) (ps := ["source", "many"]) KX G ?aLNext ?lLNext ?cLNext ?kLNext (fun _ _ _ _ _ _ us hl => match us, hl with | [_, _], _ => rfl)) ?rLNext
    (case aLNext => k_is); (case lLNext => k_is); (case cLNext => k_is); (case kLNext => k_is)
    intro DLNext
    refine' TK.use (TK.defAt_mk (mg := mg) (x := "is_integer") (st := My.sIsInteger) (ps := ["thing"]) KX G ?aIsInteger ?lIsInteger ?cIsInteger ?kIsInteger (fun _ _ _ _ _ _ us hl => match us, hl with | [_], _ => rfl)) ?rIsInteger
    (case aIsInteger => k_is); (case lIsInteger => k_is); (case cIsInteger => k_is); (case kIsInteger => k_is)
    intro DIsInteger
    refine' TK.use (TK.defAt_mk (mg := mg) (x := "is_within") (st := My.sIsWithin) (ps := ["thing", "least", "greatest"]) KX G ?aIsWithin ?lIsWithin ?cIsWithin ?kIsWithin (fun _ _ _ _ _ _ us hl => match us, hl with | [_, _, _], _ => rfl)) ?rIsWithin
    (case aIsWithin => k_is); (case lIsWithin => k_is); (case cIsWithin => k_is); (case kIsWithin => k_is)
    intro DIsWithin
    refine' TK.use (TK.defAt_mk (mg := mg) (x := "is_at_least") (st := My.sIsAtLeast) (ps := ["thing", "least"]) KX G ?aIsAtLeast ?lIsAtLeast ?cIsAtLeast ?kIsAtLeast (fun _ _ _ _ _ _ us hl => match us, hl with | [_, _], _ => rfl)) ?rIsAtLeast
    (case aIsAtLeast => k_is); (case lIsAtLeast => k_is); (case cIsAtLeast => k_is); (case kIsAtLeast => k_is)
    intro DIsAtLeast
    refine' TK.use (TK.defAt_mk (mg := mg) (x := "check_width") (st := My.sCheckWidth) (ps := ["width"]) KX G ?aCheckWidth ?lCheckWidth ?cCheckWidth ?kCheckWidth (fun _ _ _ _ _ _ us hl => match us, hl with | [_], _ => rfl)) ?rCheckWidth
    (case aCheckWidth => k_is); (case lCheckWidth => k_is); (case cCheckWidth => k_is); (case kCheckWidth => k_is)
    intro DCheckWidth
    refine' TK.use (TK.defAt_mk (mg := mg) (x := "are_cycles") (st := My.sAreCycles) (ps := ["thing"]) KX G ?aAreCycles ?lAreCycles ?cAreCycles ?kAreCycles (fun _ _ _ _ _ _ us hl => match us, hl with | [_], _ => rfl)) ?rAreCycles
    (case aAreCycles => k_is); (case lAreCycles => k_is); (case cAreCycles => k_is); (case kAreCycles => k_is)
    intro DAreCycles
    refine' TK.use (TK.defAt_mk (mg := mg) (x := "check_looks") (st := My.sCheckLooks) (ps := ["looks"]) KX G ?aCheckLooks ?lCheckLooks ?cCheckLooks ?kCheckLooks (fun _ _ _ _ _ _ us hl => match us, hl with | [_], _ => rfl)) ?rCheckLooks
    (case aCheckLooks => k_is); (case lCheckLooks => k_is); (case cCheckLooks => k_is); (case kCheckLooks => k_is)
    intro DCheckLooks
    refine' TK.use (TK.defAt_mk (mg := mg) (x := "shown") (st := My.sShown) (ps := ["width", "looks"]) KX G ?aShown ?lShown ?cShown ?kShown (fun _ _ _ _ _ _ us hl => match us, hl with | [_, _], _ => rfl)) ?rShown
    (case aShown => k_is); (case lShown => k_is); (case cShown => k_is); (case kShown => k_is)
    intro DShown
    refine' TK.use (TK.defAt_mk (mg := mg) (x := "counted") (st := My.sCounted) (ps := ["width", "looks"]) KX G ?aCounted ?lCounted ?cCounted ?kCounted (fun _ _ _ _ _ _ us hl => match us, hl with | [_, _], _ => rfl)) ?rCounted
    (case aCounted => k_is); (case lCounted => k_is); (case cCounted => k_is); (case kCounted => k_is)
    intro DCounted
    refine' TK.use (TK.defAt_mk (mg := mg) (x := "lost") (st := My.sLost) (ps := ["width", "looks"]) KX G ?aLost ?lLost ?cLost ?kLost (fun _ _ _ _ _ _ us hl => match us, hl with | [_, _], _ => rfl)) ?rLost
    (case aLost => k_is); (case lLost => k_is); (case cLost => k_is); (case kLost => k_is)
    intro DLost
    refine' TK.use (TK.defAt_mk (mg := mg) (x := "check_values") (st := My.sCheckValues) (ps := ["width", "values"]) KX G ?aCheckValues ?lCheckValues ?cCheckValues ?kCheckValues (fun _ _ _ _ _ _ us hl => match us, hl with | [_, _], _ => rfl)) ?rCheckValues
    (case aCheckValues => k_is); (case lCheckValues => k_is); (case cCheckValues => k_is); (case kCheckValues => k_is)
    intro DCheckValues
    refine' TK.use (TK.defAt_mk (mg := mg) (x := "least_history") (st := My.sLeastHistory) (ps := ["width", "values"]) KX G ?aLeastHistory ?lLeastHistory ?cLeastHistory ?kLeastHistory (fun _ _ _ _ _ _ us hl => match us, hl with | [_, _], _ => rfl)) ?rLeastHistory
    (case aLeastHistory => k_is); (case lLeastHistory => k_is); (case cLeastHistory => k_is); (case kLeastHistory => k_is)
    intro DLeastHistory
    refine' TK.use (TK.defAt_mk (mg := mg) (x := "_law_width") (st := My.sLWidth) (ps := ["source"]) KX G ?aLWidth ?lLWidth ?cLWidth ?kLWidth (fun _ _ _ _ _ _ us hl => match us, hl with | [_], _ => rfl)) ?rLWidth
    (case aLWidth => k_is); (case lLWidth => k_is); (case cLWidth => k_is); (case kLWidth => k_is)
    intro DLWidth
    refine' TK.use (TK.defAt_mk (mg := mg) (x := "_law_values") (st := My.sLValues) (ps := ["source", "width"]) KX G ?aLValues ?lLValues ?cLValues ?kLValues (fun _ _ _ _ _ _ us hl => match us, hl with | [_, _], _ => rfl)) ?rLValues
    (case aLValues => k_is); (case lLValues => k_is); (case cLValues => k_is); (case kLValues => k_is)
    intro DLValues
    refine' TK.use (TK.defAt_mk (mg := mg) (x := "_law_stepped") (st := My.sLStepped) (ps := ["width", "values"]) KX G ?aLStepped ?lLStepped ?cLStepped ?kLStepped (fun _ _ _ _ _ _ us hl => match us, hl with | [_, _], _ => rfl)) ?rLStepped
    (case aLStepped => k_is); (case lLStepped => k_is); (case cLStepped => k_is); (case kLStepped => k_is)
    intro DLStepped
    refine' TK.use (TK.defAt_mk (mg := mg) (x := "law") (st := My.sLaw) (ps := ["script"]) KX G ?aLaw ?lLaw ?cLaw ?kLaw (fun _ _ _ _ _ _ us hl => match us, hl with | [_], _ => rfl)) ?rLaw
    (case aLaw => k_is); (case lLaw => k_is); (case cLaw => k_is); (case kLaw => k_is)
    intro DLaw
    have T : My.Txt mg  := by
      refine' ⟨?f0, ?f1, ?f2, ?f3, ?f4, ?f5, ?f6, ?f7, ?f8, ?f9, ?f10, ?f11, ?f12⟩
      (case f0 => (refine' PySem.W.mg_none_of KX G ?z0; (case z0 => k_is)))
      (case f1 => (refine' PySem.W.mg_none_of KX G ?z1; (case z1 => k_is)))
      (case f2 => (refine' PySem.W.mg_none_of KX G ?z2; (case z2 => k_is)))
      (case f3 => (refine' PySem.W.mg_none_of KX G ?z3; (case z3 => k_is)))
      (case f4 => (refine' PySem.W.mg_none_of KX G ?z4; (case z4 => k_is)))
      (case f5 => (refine' PySem.W.mg_none_of KX G ?z5; (case z5 => k_is)))
      (case f6 => (refine' PySem.W.mg_none_of KX G ?z6; (case z6 => k_is)))
      (case f7 => (refine' PySem.W.mg_none_of KX G ?z7; (case z7 => k_is)))
      (case f8 => (refine' PySem.W.mg_none_of KX G ?z8; (case z8 => k_is)))
      (case f9 => (refine' PySem.W.mg_none_of KX G ?z9; (case z9 => k_is)))
      (case f10 => (refine' PySem.W.mg_none_of KX G ?z10; (case z10 => k_is)))
      (case f11 => (refine' PySem.W.mg_none_of KX G ?z11; (case z11 => k_is)))
      (case f12 => (refine' TK.gint_mk KX G ?z12; (case z12 => k_is)))
    exact TK.law_end DLaw hmg (fun base _ _ => My.all DLCellAt DLMixed DLSource DLNext DIsInteger DIsWithin DIsAtLeast DCheckWidth DAreCycles DCheckLooks DShown DCounted DLost DCheckValues DLeastHistory DLWidth DLValues DLStepped DLaw T)
