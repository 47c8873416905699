import PyProof.Rows.All
import Wide.All
import OpenK.AllK
import Wide.FinOn
import HandS.ForMost
import HandS.Wide
import HandS.WideBits
import HandS.IsInst
import HandS.Flow

import PySem.Challenge.RW_timekernel_k13_lines_far
set_option Elab.async false
set_option linter.all false
set_option maxRecDepth 100000
/-! Defs of the text by their names, and calls of them. -/
namespace TK
open PySem PySem.Spec PyProof.Rows L2
/-- fd stands at f, under the module's name x, and takes its arguments by place -/
structure Stands (K : PySem.W.Frag) (mg : Str → Option Value) (x : Str) (ps : List Str) (f : Addr) (fd : FuncData) : Prop where
  lk : ∃ (oc : Value) (od : Option Addr) (osl : Array (Option Value)), K.lookup f = some ⟨oc, od, .func fd, osl⟩
  mg : mg x = some (.ref f)
  kp : PySem.W.keepIn K (.ref f) = true
  bd : ∀ us : List Value, us.length = ps.length → bindArgs fd ⟨us, []⟩ = pure (ps.zip us)
theorem Stands.same {K : PySem.W.Frag} {mg : Str → Option Value} {x : Str} {ps qs : List Str} {f g : Addr} {fd gd : FuncData} (a : Stands K mg x ps f fd) (b : Stands K mg x qs g gd) : f = g ∧ fd = gd := by
  have e : f = g := by
    have h := a.mg.symm.trans b.mg
    exact Value.ref.inj (Option.some.inj h)
  subst e
  obtain ⟨_, _, _, h1⟩ := a.lk
  obtain ⟨_, _, _, h2⟩ := b.lk
  rw [h1] at h2
  cases h2
  exact ⟨rfl, rfl⟩
/-- the def st stands under the module's name x -/
structure DefAt (K : PySem.W.Frag) (mg : Str → Option Value) (x : Str) (st : Stmt) (ps : List Str) : Prop where
  ex : ∃ (f : Addr) (fd : FuncData), Fun K x x st f fd ∧ Stands K mg x ps f fd
/-- what stands under the module's name x keeps the promise sp -/
structure Cal (P : Program) (w : World) (K : PySem.W.Frag) (mg : Str → Option Value) (base : Heap) (x : Str) (ps : List Str) (k : Nat) (sp : Sp) : Prop where
  ex : ∃ (f : Addr) (fd : FuncData), FnOk P w K mg base CX0 k f fd ps sp ∧ Stands K mg x ps f fd
section
variable {P : Program} {w : World} {K : PySem.W.Frag} {mg : Str → Option Value} {base : Heap} {x : Str} {st : Stmt} {N ps : List Str} {k : Nat} {sp : Sp}
theorem DefAt.cal (D : DefAt K mg x st ps) (S : FnScope N ps (defScope st)) (len : ∀ vs H Q E, sp vs H Q E → vs.length = ps.length)
    (hbody : ∀ (f : Addr) (cdv : Value) (A : Around) (outer : List Env) (s : Shared) (H : Hp) (vs : List V) (Q : VK) (E : XK), Room k (A.deeper (envOfC x (defScope st) s.heap.objs.size f cdv)) → sp vs H Q E →
      ∃ t, PSs (cxOf CX0 P w K mg base N x (defScope st) f cdv A outer s H E).nox (defBody st) t ∧ t { nx := fun _ H' => Q .non H', rt := Q } (start N vs) H) : Cal P w K mg base x ps (k + 1) sp := by
  obtain ⟨f, fd, F, b⟩ := D.ex
  exact ⟨f, fd, F.ok S len (hbody f), b⟩
theorem Cal.mono {j : Nat} (C : Cal P w K mg base x ps j sp) (h : j ≤ k) : Cal P w K mg base x ps k sp := by
  obtain ⟨f, fd, F, b⟩ := C.ex
  exact ⟨f, fd, F.mono h, b⟩
end
section
variable {X : Cx} {x : Str} {ps : List Str} {k : Nat} {sp : Sp} {p pos : Pos} {e : Expr} {es : List Expr} {t : TA}
theorem pe_cal {j : Nat} (C : Cal X.prog X.w X.K X.mg X.base x ps j sp) (hr : Room k X.A) (hg : Gl X x) (ha : PA X (e :: es) t) (hj : j ≤ k := by decide) (hdb : (x == ("__debug__" : Str)) = false := by decide)
    (he : starEach (e :: es) X.env = (false, eval e X.env) :: starEach es X.env := by rfl) (hpl : (backTo pos (starEach es X.env)).any (·.1) = false := by rfl) :
    PE X (.Call (.Name x p) (e :: es) [] pos) (tCall sp [] E0 t) := by
  obtain ⟨f, fd, F, b⟩ := C.ex
  exact pe_call F (hr.mono hj) hg b.mg b.kp (.all b.bd) .nil pass0 ha hdb he hpl
end
theorem defAt_mk {K : PySem.W.Frag} {h : Heap} {mg : Str → Option Value} {x : Str} {st : Stmt} {ps : List Str} {f : Addr} {oc : Value} {od an : Option Addr} {osl : Array (Option Value)} {kV doc pm cdv ct : Value} (X : K.In h) (G : h.Ns mainGlobals mg)
    (a : PySem.W.nsIn K mainGlobals x = some (some (.ref f)))
    (l : K.lookup f = some ⟨oc, od, .func (PySem.W.fnOf x x (defArgs st) (defBody st) (defScope st) .none kV doc pm an cdv ct), osl⟩)
    (c : PySem.W.codeIn K cdv x = true) (k : PySem.W.keepIn K (.ref f) = true)
    (b : ∀ (kV doc pm : Value) (an : Option Addr) (cdv ct : Value) (us : List Value), us.length = ps.length → bindArgs (PySem.W.fnOf x x (defArgs st) (defBody st) (defScope st) .none kV doc pm an cdv ct) ⟨us, []⟩ = pure (ps.zip us)) :
    DefAt K mg x st ps := ⟨f, _, fun_mk (st := st) l c k, ⟨_, _, _, l⟩, PySem.W.mg_of X G a, k, b kV doc pm an cdv ct⟩
theorem use {A B : Prop} (a : A) (f : A → B) : B := f a
/-- the law's own end -/
theorem law_end {P : Program} {w : World} {K : PySem.W.Frag} {mg : Str → Option Value} {st : Stmt} {fa : Addr} {k : Nat} {sp : Sp} {y : Str} (D : DefAt K mg "law" st [y]) (hfa : mg "law" = some (.ref fa))
    (F : ∀ base : Heap, K.In base → base.Ns mainGlobals mg → Cal P w K mg base "law" [y] k sp) :
    ∃ fd : FuncData, (∀ (s : Shared) (v : Value), BindsTo s fd ⟨[v], []⟩ [(y, v)]) ∧ ∀ base : Heap, K.In base → base.Ns mainGlobals mg → FnOk P w K mg base CX0 k fa fd [y] sp := by
  obtain ⟨f, fd, _, b⟩ := D.ex
  have e : f = fa := Value.ref.inj (Option.some.inj (b.mg.symm.trans hfa))
  subst e
  refine ⟨fd, fun s v => .of_eq (b.bd [v] rfl), fun base h1 h2 => ?_⟩
  obtain ⟨g, gd, G, b2⟩ := (F base h1 h2).ex
  obtain ⟨e1, e2⟩ := b.same b2
  subst e1 e2
  exact G
/-- what a def reckons without touching what is tracked -/
theorem same_upd {H : Hp} {p : Addr} {o : HO} (h : H p = none) : Same H (upd H p o) := fun b x e => by
  rw [upd_ne (ne_of_none e h)]
  exact e
theorem same_set {H H1 : Hp} {p : Addr} {o : HO} (s : Same H H1) (h : H p = none) : Same H (upd H1 p o) := fun b u e => by
  rw [upd_ne (ne_of_none e h)]
  exact s b u e
/-- what was tracked elsewhere than at a is as it was -/
def SameBut (a : Addr) (H H' : Hp) : Prop := ∀ b o, b ≠ a → H b = some o → H' b = some o
theorem SameBut.refl (a : Addr) (H : Hp) : SameBut a H H := fun _ _ _ h => h
theorem SameBut.trans {a : Addr} {H H1 H2 : Hp} (x : SameBut a H H1) (y : SameBut a H1 H2) : SameBut a H H2 := fun b o n h => y b o n (x b o n h)
theorem SameBut.of {a : Addr} {H H1 : Hp} (x : Same H H1) : SameBut a H H1 := fun b o _ h => x b o h
theorem sb_upd {H : Hp} {a : Addr} {o : HO} : SameBut a H (upd H a o) := fun b x n e => by
  rw [upd_ne n]
  exact e
theorem sb_new {H : Hp} {a p : Addr} {o : HO} (h : H p = none) : SameBut a H (upd H p o) := SameBut.of (same_upd h)
theorem SameBut.lst {a b : Addr} {H H1 : Hp} {xs : List V} {K : PySem.W.Frag} (s : SameBut a H H1) (n : b ≠ a) (h : SqL K H b xs) : SqL K H1 b xs := by
  rcases h with (h | ⟨o, h⟩) | h
  · exact .inl (.inl (s _ _ n h))
  · exact .inl (.inr ⟨o, s _ _ n h⟩)
  · exact .inr h
end TK
namespace TK
open PySem PySem.Spec PyProof.Rows L2
section
variable {X : Cx} {x : Str} {pos : Pos}
/-- a module's name for a whole number -/
theorem pe_gint {i : Int} (hg : Gl X x) (hm : ∃ t, X.mg x = some (.int i t)) (hd : (x == ("__debug__" : Str)) = false := by decide) : PE X (.Name x pos) (tC (.int i)) := by
  obtain ⟨t, hm⟩ := hm
  exact pe_glob hg hm ⟨_, rfl⟩ hd
end
theorem gint_mk {K : PySem.W.Frag} {h : Heap} {mg : Str → Option Value} {x : Str} {i : Int} {t : Tok} (X : K.In h) (G : h.Ns mainGlobals mg) (a : PySem.W.nsIn K mainGlobals x = some (some (.int i t))) : ∃ t, mg x = some (.int i t) := ⟨t, PySem.W.mg_of X G a⟩
end TK
namespace TK
open PySem PySem.Spec PyProof.Rows L2
/-- * of two numbers, one of them below 2 ^ 64 in size, or both below 2 ^ 400 -/
def CMulE (i j : Int) : Prop := CMul i j ∨ CMulX i j
theorem mulE1 {i j : Int} (h0 : -18446744073709551616 < i) (h1 : i < 18446744073709551616) : CMulE i j := .inl (.inl ⟨by omega, by omega⟩)
theorem mulE2 {i j : Int} (h0 : -18446744073709551616 < j) (h1 : j < 18446744073709551616) : CMulE i j := .inl (.inr ⟨by omega, by omega⟩)
theorem mulE3 {i j : Int} (h0 : i.natAbs < 2 ^ 400) (h1 : j.natAbs < 2 ^ 400) : CMulE i j := .inr (mulx_ok h0 h1 (by decide))
/-- e comes out as r -/
structure IsR (e r : Int) : Prop where
  eq : e = r
section
variable {X : Cx}
theorem op_mulE : OpR X (binaryOp .Mult) (rI CMulE fun i j => .int (i * j)) := opI fun _ _ _ _ _ _ _ hc q => mul_int q (hc.elim CMul.ok CMulX.ok)
/-- a power, a shift to the left, with what comes out told by an equation -/
theorem op_powE : OpR X (binaryOp .Pow) (fun x y H Q => ∃ i j, x = .int i ∧ y = .int j ∧ CPow i j ∧ ∃ r, IsR (i ^ j.toNat) r ∧ Q (.int r) H) := by
  intro pins s σ H x y v u Q I rx ry h
  obtain ⟨i, j, rfl, rfl, c, r, ⟨rfl⟩, q⟩ := h
  exact op_pow pins s σ H _ _ v u Q I rx ry ⟨_, _, rfl, rfl, c, q⟩
theorem op_shlE : OpR X (binaryOp .LShift) (fun x y H Q => ∃ i j, x = .int i ∧ y = .int j ∧ CShl i j ∧ ∃ r, IsR (i * 2 ^ j.toNat) r ∧ Q (.int r) H) := by
  intro pins s σ H x y v u Q I rx ry h
  obtain ⟨i, j, rfl, rfl, c, r, ⟨rfl⟩, q⟩ := h
  exact op_shlW pins s σ H _ _ v u Q I rx ry ⟨_, _, rfl, rfl, c, q⟩
end
theorem posLen {n : Nat} (h : Nat.ble 1 n = true) : (0 : Int) < n := by
  have := Nat.le_of_ble_eq_true h
  omega
theorem ltLen {n : Nat} (h : Nat.ble n 1000 = true) : (n : Int) < 1606938044258990275541962092341162602522202993782792835301376 := by
  have := Nat.le_of_ble_eq_true h
  omega
theorem w200 {i m : Int} (h0 : 0 < m) (h : m  < 1606938044258990275541962092341162602522202993782792835301376) : CDivW i m := wide_div h0 (b := 200) (by omega) (by decide) (by decide)
theorem shl400 {i j : Int} (h : i.natAbs < 2 ^ 400) (h0 : 0 ≤ j) (h1 : j ≤ 1000) : CShl i j := by
  have e : j = (j.toNat : Int) := by omega
  rw [e]
  exact shl_ok h (by omega)
/-- a list of whole numbers with a property -/
def AllI (p : Int → Prop) (xs : List V) : Prop := ∀ v ∈ xs, ∃ i, v = .int i ∧ p i
theorem AllI.nil {p : Int → Prop} : AllI p [] := fun _ h => by cases h
theorem AllI.cons {p : Int → Prop} {i : Int} {xs : List V} (h : p i) (t : AllI p xs) : AllI p (.int i :: xs) := fun v hv => by
  rcases List.mem_cons.mp hv with e | e
  · exact ⟨i, e, h⟩
  · exact t v e
theorem AllI.app {p : Int → Prop} {xs ys : List V} (h : AllI p xs) (t : AllI p ys) : AllI p (xs ++ ys) := fun v hv => by
  rcases List.mem_append.mp hv with e | e
  · exact h v e
  · exact t v e
theorem AllI.pick {p : Int → Prop} {xs : List V} (h : AllI p xs) {r : Int} (h0 : 0 ≤ r) (h1 : r < xs.length) : ∃ i, atI xs r = some (.int i) ∧ p i := by
  have hk : r.toNat < xs.length := by omega
  obtain ⟨i, e, hp⟩ := h _ (List.getElem_mem hk)
  refine ⟨i, at_of (j := r.toNat) (by omega) ?_, hp⟩
  rw [List.getElem?_eq_getElem hk, e]
theorem mul_le {x y a b : Int} (x0 : 0 ≤ x) (x1 : x ≤ a) (y0 : 0 ≤ y) (y1 : y ≤ b) : 0 ≤ x * y ∧ x * y ≤ a * b :=
  ⟨Int.mul_nonneg x0 y0, Int.mul_le_mul x1 y1 y0 (Int.le_trans x0 x1)⟩
theorem pos_pow (s : Nat) : (0 : Int) < 2 ^ s := Int.pow_pos (by decide)
theorem ifD {c A B : Prop} [Decidable c] (h : c) (a : A) : if decide c = true then A else B := by
  rw [if_pos (decide_eq_true h)]
  exact a
theorem ifN {c A B : Prop} [Decidable c] (h : ¬ c) (b : B) : if decide c = true then A else B := by
  rw [if_neg (by rw [decide_eq_false h]; decide)]
  exact b
theorem ifDn {c A B : Prop} [Decidable c] (h : c) (b : B) : if (!decide c) = true then A else B := by
  rw [decide_eq_true h]
  exact iteF b
theorem ifNn {c A B : Prop} [Decidable c] (h : ¬ c) (a : A) : if (!decide c) = true then A else B := by
  rw [decide_eq_false h]
  exact iteT a
theorem ifE {x y : Int} {A B : Prop} (h : x = y) (a : A) : if decide (V.int x = V.int y) = true then A else B := ifD (by rw [h]) a
theorem ifNE {x y : Int} {A B : Prop} (h : ¬ x = y) (b : B) : if decide (V.int x = V.int y) = true then A else B := ifN (fun e => h (V.int.inj e)) b
theorem ifEn {x y : Int} {A B : Prop} (h : x = y) (b : B) : if (!decide (V.int x = V.int y)) = true then A else B := by
  rw [decide_eq_true (show V.int x = V.int y by rw [h])]
  exact iteF b
theorem ifNEn {x y : Int} {A B : Prop} (h : ¬ x = y) (a : A) : if (!decide (V.int x = V.int y)) = true then A else B := by
  rw [decide_eq_false (show ¬ V.int x = V.int y from fun e => h (V.int.inj e))]
  exact iteT a
/-- a source of draws stands at a -/
def Src (H : Hp) (a : Addr) : Prop := ∃ x y n : Int, H a = some (.lst [.int x, .int y, .int n])
/-- draws were made of the source at a -/
structure Dr (a : Addr) (H H' : Hp) : Prop where
  src : Src H' a
  but : SameBut a H H'
theorem Dr.trans {a : Addr} {H H1 H2 : Hp} (x : Dr a H H1) (y : Dr a H1 H2) : Dr a H H2 := ⟨y.src, x.but.trans y.but⟩
theorem Dr.refl {a : Addr} {H : Hp} (x : Src H a) : Dr a H H := ⟨x, .refl _ _⟩
theorem Src.new {a p : Addr} {H : Hp} {o : HO} (x : Src H a) (h : H p = none) : Src (upd H p o) a := by
  obtain ⟨u, v, n, e⟩ := x
  exact ⟨u, v, n, by rw [upd_ne (ne_of_none e h)]; exact e⟩
theorem Dr.new {a p : Addr} {H H1 : Hp} {o : HO} (x : Dr a H H1) (h : H1 p = none) : Dr a H (upd H1 p o) := ⟨x.src.new h, x.but.trans (sb_new h)⟩
theorem Src.ne {a p : Addr} {H : Hp} (x : Src H a) (h : H p = none) : p ≠ a := by
  obtain ⟨u, v, n, e⟩ := x
  exact (ne_of_none e h).symm
theorem Dr.free {a p : Addr} {H H1 : Hp} (x : Dr a H H1) (h : H1 p = none) : H p = none := by
  cases q : H p with
  | none => rfl
  | some o =>
    rw [x.but p o (x.src.ne h) q] at h
    cases h
theorem Dr.at {a p : Addr} {H H1 : Hp} {o : HO} (d : Dr a H H1) (n : p ≠ a) (h : H p = some o) : H1 p = some o := d.but p o n h
theorem upd_at {p q : Addr} {H : Hp} {o u : HO} (h : H p = some o) (n : H q = none) : upd H q u p = some o := (upd_ne (ne_of_none h n)).trans h
theorem upd_at' {p q : Addr} {H : Hp} {o u : HO} (h : H p = some o) (n : p ≠ q) : upd H q u p = some o := (upd_ne n).trans h
theorem Src.set {a p : Addr} {H : Hp} {o : HO} (x : Src H a) (n : p ≠ a) : Src (upd H p o) a := by
  obtain ⟨u, v, m, e⟩ := x
  exact ⟨u, v, m, by rw [upd_ne n.symm]; exact e⟩
theorem Dr.set {a p : Addr} {H H1 : Hp} {o : HO} (x : Dr a H H1) (h : H p = none) (n : p ≠ a) : Dr a H (upd H1 p o) := ⟨x.src.set n, fun b u nb e => by
  rw [upd_ne (ne_of_none e h)]
  exact x.but b u nb e⟩
theorem Dr.same {p : Addr} {H H1 : Hp} {o : HO} (d : Dr p (upd H p o) H1) (h : H p = none) : Same H H1 := fun b u e => by
  have n := ne_of_none e h
  exact d.but b u n (by rw [upd_ne n]; exact e)
theorem Src.made {p : Addr} {H : Hp} {x y n : Int} : Src (upd H p (.lst [.int x, .int y, .int n])) p := ⟨x, y, n, upd_same⟩
theorem Src.same {a : Addr} {H H' : Hp} (x : Src H a) (s : Same H H') : Src H' a := by
  obtain ⟨u, v, n, e⟩ := x
  exact ⟨u, v, n, s _ _ e⟩
end TK

/-! ### comprehensions whose elements change nothing -/
namespace TK
open PySem PySem.Spec PyProof.Rows L2
section
variable {K : PySem.W.Frag} {a : Addr} {g : TG} {tt : TT} {te : TE} {vs : List Nat} {σ : L2.St} {H : Hp} {D : Addr} {Qd : Hp → Prop}
theorem take_snoc {ys : List V} {i : Nat} {y : V} (h : ys[i]? = some y) : ys.take i ++ [y] = ys.take (i + 1) := by
  rw [List.take_add_one, h]
  rfl
theorem lc_listP {xs ys : List V} (hD : H D = none) (hl : SqL K H a xs) (n : ys.length = xs.length) (sz : ys.length ≤ sizeLine)
    (hs : ∀ (i : Nat) (x y : V) (R : V → Hp → Prop) (F : Hp → Prop), xs[i]? = some x → ys[i]? = some y → R y (upd H D (.lst (ys.take i))) →
      g x (wipe σ vs) (upd H D (.lst (ys.take i))) fun σ2 H2 => wipe σ2 vs = wipe σ vs ∧ tt σ2 H2 fun b H3 => if b = true then te σ2 H3 R else F H3)
    (hd : Qd (upd H D (.lst ys))) :
    ∃ W : Nat → Nat → Hp → Prop, (∃ m, W 0 m (upd H D (.lst []))) ∧ ∀ i m H, W i m H →
      ((Itl K a).stop i H ∧ Qd H) ∨ ((Itl K a).go i H ∧ ∃ Nx : Hp → Prop, (∀ H', Nx H' → ∃ m', m' < m ∧ W (i + 1) m' H') ∧ ∀ x H', (Itl K a).yld i H x H' → g x (wipe σ vs) H' fun σ2 H2 => wipe σ2 vs = wipe σ vs ∧ tt σ2 H2 fun b H3 =>
        if b = true then te σ2 H3 fun y H4 => ∃ acc, H4 D = some (.lst acc) ∧ acc.length < sizeLine ∧ Nx (upd H4 D (.lst (acc ++ [y]))) else Nx H3) := by
  refine lc_list (K := K) (a := a) (xs := xs) (H1 := H) (Qd := Qd) (fun i H' => H' = upd H D (.lst (ys.take i))) (by rw [List.take_zero]) (fun i H' _ e => ?_) (fun i x H' hx e => ?_) (fun H' e => ?_)
  · subst e
    exact (same_upd hD).seq hl
  · subst e
    have hi : i < xs.length := (List.getElem?_eq_some_iff.mp hx).1
    have hy : ys[i]? = some ys[i] := List.getElem?_eq_getElem (by omega)
    refine hs i x ys[i] _ _ hx hy ⟨ys.take i, upd_same, ?_, ?_⟩
    · rw [List.length_take]
      omega
    · rw [upd_upd, take_snoc hy]
  · subst e
    rw [List.take_of_length_le (by omega)]
    exact hd
theorem lc_rangeP {lo : Int} {m : Nat} {ys : List V} (hD : H D = none) (n : ys.length = m) (sz : ys.length ≤ sizeLine)
    (hs : ∀ (i : Nat) (y : V) (R : V → Hp → Prop) (F : Hp → Prop), i < m → ys[i]? = some y → R y (upd H D (.lst (ys.take i))) →
      g (.int (lo + i)) (wipe σ vs) (upd H D (.lst (ys.take i))) fun σ2 H2 => wipe σ2 vs = wipe σ vs ∧ tt σ2 H2 fun b H3 => if b = true then te σ2 H3 R else F H3)
    (hd : Qd (upd H D (.lst ys))) :
    ∃ W : Nat → Nat → Hp → Prop, (∃ m, W 0 m (upd H D (.lst []))) ∧ ∀ i k H, W i k H →
      ((Itr lo m).stop i H ∧ Qd H) ∨ ((Itr lo m).go i H ∧ ∃ Nx : Hp → Prop, (∀ H', Nx H' → ∃ m', m' < k ∧ W (i + 1) m' H') ∧ ∀ x H', (Itr lo m).yld i H x H' → g x (wipe σ vs) H' fun σ2 H2 => wipe σ2 vs = wipe σ vs ∧ tt σ2 H2 fun b H3 =>
        if b = true then te σ2 H3 fun y H4 => ∃ acc, H4 D = some (.lst acc) ∧ acc.length < sizeLine ∧ Nx (upd H4 D (.lst (acc ++ [y]))) else Nx H3) := by
  refine lc_range (H1 := H) (Qd := Qd) (fun i H' => H' = upd H D (.lst (ys.take i))) (by rw [List.take_zero]) (fun i H' hi e => ?_) (fun H' e => ?_)
  · subst e
    have hy : ys[i]? = some ys[i] := List.getElem?_eq_getElem (by omega)
    refine hs i ys[i] _ _ hi hy ⟨ys.take i, upd_same, ?_, ?_⟩
    · rw [List.length_take]
      omega
    · rw [upd_upd, take_snoc hy]
  · subst e
    rw [List.take_of_length_le (by omega)]
    exact hd
theorem rep_at {α : Type} {n i : Nat} {x y : α} (h : (List.replicate n x)[i]? = some y) : y = x := List.eq_of_mem_replicate (List.mem_of_getElem? h)
theorem rep_bl (n : Nat) : (List.replicate n true).map V.bl = List.replicate n (V.bl true) := List.map_replicate
theorem all_rep (n : Nat) : (List.replicate n true).all id = true := by
  rw [List.all_eq_true]
  intro x hx
  rw [List.eq_of_mem_replicate hx]
  rfl
/-- the numbers below n that pass p -/
def kept (p : Nat → Bool) (n : Nat) : List Nat := (List.range n).filter p
theorem kept_succ (p : Nat → Bool) (n : Nat) : kept p (n + 1) = if p n = true then kept p n ++ [n] else kept p n := by
  unfold kept
  rw [List.range_succ, List.filter_append]
  cases h : p n with
  | true => simp [h]
  | false => simp [h]
theorem kept_len (p : Nat → Bool) (n : Nat) : (kept p n).length ≤ n := by
  unfold kept
  exact Nat.le_trans (List.length_filter_le _ _) (by rw [List.length_range]; exact Nat.le_refl _)
theorem lc_rangeF {lo : Int} {m : Nat} {p : Nat → Bool} {f : Nat → V} (hD : H D = none) (sz : m ≤ sizeLine)
    (hs : ∀ (i : Nat) (R : V → Hp → Prop) (F : Hp → Prop), i < m → (p i = true → R (f i) (upd H D (.lst ((kept p i).map f)))) → (p i = false → F (upd H D (.lst ((kept p i).map f)))) →
      g (.int (lo + i)) (wipe σ vs) (upd H D (.lst ((kept p i).map f))) fun σ2 H2 => wipe σ2 vs = wipe σ vs ∧ tt σ2 H2 fun b H3 => if b = true then te σ2 H3 R else F H3)
    (hd : Qd (upd H D (.lst ((kept p m).map f)))) :
    ∃ W : Nat → Nat → Hp → Prop, (∃ m, W 0 m (upd H D (.lst []))) ∧ ∀ i k H, W i k H →
      ((Itr lo m).stop i H ∧ Qd H) ∨ ((Itr lo m).go i H ∧ ∃ Nx : Hp → Prop, (∀ H', Nx H' → ∃ m', m' < k ∧ W (i + 1) m' H') ∧ ∀ x H', (Itr lo m).yld i H x H' → g x (wipe σ vs) H' fun σ2 H2 => wipe σ2 vs = wipe σ vs ∧ tt σ2 H2 fun b H3 =>
        if b = true then te σ2 H3 fun y H4 => ∃ acc, H4 D = some (.lst acc) ∧ acc.length < sizeLine ∧ Nx (upd H4 D (.lst (acc ++ [y]))) else Nx H3) := by
  refine lc_range (H1 := H) (Qd := Qd) (fun i H' => H' = upd H D (.lst ((kept p i).map f))) rfl (fun i H' hi e => ?_) (fun H' e => ?_)
  · subst e
    refine hs i _ _ hi (fun hp => ⟨(kept p i).map f, upd_same, ?_, ?_⟩) (fun hp => ?_)
    · rw [List.length_map]
      have := kept_len p i
      omega
    · rw [upd_upd, kept_succ, if_pos hp, List.map_append]
      rfl
    · rw [kept_succ, if_neg (by rw [hp]; decide)]
  · subst e
    exact hd
end
end TK
/-! ### == of lists of whole numbers -/
namespace TK
open PySem PySem.Spec PyProof.Rows L2
section
variable {X : Cx} {K : PySem.W.Frag}
/-- within a comprehension the written part is the same -/
theorem ix_listK (h : X.K = K := by rfl) : IxR X (rIxL K) := by
  subst h
  exact ix_list
theorem ix_tupK (h : X.K = K := by rfl) : IxR X (rIxT K) := by
  subst h
  exact ix_tup
theorem pg_tupK {es : List Expr} {k : Nat} {t : TGs} (n : Nat) {pos : Pos} (h : PGs X es t) (hK : X.K = K := by rfl) (hc : X.calm = true := by rfl)
    (hn : (assignEach es X.env).length = n := by rfl) (hst : (assignEach es X.env).findIdx? (·.1) = none := by rfl) : PG X (.Tuple es k pos) (gTup K n t) := by
  subst hK
  exact pg_tup hc h hn hst
theorem call_lenK (h : X.K = K := by rfl) : CallR X (.builtin "len") (fun xs H Q => ∃ p ys, xs = [.ref p] ∧ (SqL K H p ys ∨ SqT K H p ys) ∧ Q (.int ys.length) H) := by
  subst h
  exact call_len_seq
end
theorem eqvAll_int : ∀ ns ms : List Int, PyData.eqvAll (ns.map PyData.int) (ms.map PyData.int) = decide (ns = ms)
  | [], [] => by simp [PyData.eqvAll]
  | [], _ :: _ => by simp [PyData.eqvAll]
  | _ :: _, [] => by simp [PyData.eqvAll]
  | a :: r, b :: t => by
    simp only [List.map_cons, PyData.eqvAll, PyData.eqv, eqvAll_int r t]
    by_cases h : a = b <;> by_cases h' : r = t <;> simp [h, h']
theorem lay_int : ∀ ns : List Int, PyData.canLayAll0 (ns.map PyData.int) = true
  | [] => rfl
  | _ :: r => by simp [PyData.canLayAll0, PyData.canLay0, lay_int r]
theorem deep_int : ∀ ns : List Int, PyData.depthAll (ns.map PyData.int) = 0
  | [] => rfl
  | _ :: r => by simp [PyData.depthAll, PyData.depth, deep_int r]
theorem shaped_int (ns : List Int) : SeqAt.shaped (.list (ns.map PyData.int)) = true := by
  simp [SeqAt.shaped, PyData.canLay0, PyData.depth, lay_int, deep_int]
theorem dpAll_int {K : PySem.W.Frag} {H : Hp} : ∀ ns : List Int, DpAll K H (ns.map V.int) (ns.map PyData.int)
  | [] => .nil
  | n :: r => .cons (.int n) (dpAll_int r)
section
variable {X : Cx}
theorem op_eqIL (hu : X.A.units + 64 < cLine) : OpR X (compareOp .Eq) (fun x y H Q => ∃ (a b : Addr) (ns ms : List Int), x = .ref a ∧ y = .ref b ∧ SqL X.K H a (ns.map V.int) ∧ SqL X.K H b (ms.map V.int) ∧ Q (.bl (decide (ns = ms))) H) := by
  intro pins s σ H x y v u Q I rx ry h
  obtain ⟨a, b, ns, ms, rfl, rfl, h1, h2, q⟩ := h
  refine op_eqD hu pins s σ H _ _ v u Q I rx ry ⟨_, _, .lst h1 (dpAll_int ns), .lst h2 (dpAll_int ms), shaped_int ns, shaped_int ms, ?_⟩
  rw [PyData.eqv, eqvAll_int]
  exact q
theorem op_neIL (hu : X.A.units + 64 < cLine) : OpR X (compareOp .NotEq) (fun x y H Q => ∃ (a b : Addr) (ns ms : List Int), x = .ref a ∧ y = .ref b ∧ SqL X.K H a (ns.map V.int) ∧ SqL X.K H b (ms.map V.int) ∧ Q (.bl (!decide (ns = ms))) H) := by
  intro pins s σ H x y v u Q I rx ry h
  obtain ⟨a, b, ns, ms, rfl, rfl, h1, h2, q⟩ := h
  refine op_neD hu pins s σ H _ _ v u Q I rx ry ⟨_, _, .lst h1 (dpAll_int ns), .lst h2 (dpAll_int ms), shaped_int ns, shaped_int ms, ?_⟩
  rw [PyData.eqv, eqvAll_int]
  exact q
end
theorem kept_first {p : Nat → Bool} {c n : Nat} (hp : p c = true) (hn : ∀ k, k < c → p k = false) (hc : c < n) : ∃ r, kept p n = c :: r := by
  have h0 : ∀ k, k ≤ c → kept p k = [] := by
    intro k
    induction k with
    | zero => intro _; rfl
    | succ k ih =>
      intro hk
      rw [kept_succ, if_neg (by rw [hn k (by omega)]; decide), ih (by omega)]
  have h1 : ∀ d, ∃ r, kept p (c + 1 + d) = c :: r := by
    intro d
    induction d with
    | zero => exact ⟨[], by rw [Nat.add_zero, kept_succ, if_pos hp, h0 c (Nat.le_refl _)]; rfl⟩
    | succ d ih =>
      obtain ⟨r, e⟩ := ih
      rw [show c + 1 + (d + 1) = (c + 1 + d) + 1 by omega, kept_succ, e]
      split
      · exact ⟨r ++ [c + 1 + d], rfl⟩
      · exact ⟨r, rfl⟩
  have := h1 (n - (c + 1))
  rw [show c + 1 + (n - (c + 1)) = n by omega] at this
  exact this
/-- the first n values of a function -/
def tab (f : Nat → Int) (n : Nat) : List Int := (List.range n).map f
theorem tab_len (f : Nat → Int) (n : Nat) : ((tab f n).map V.int).length = n := by
  unfold tab
  rw [List.length_map, List.length_map, List.length_range]
theorem tab_at {f : Nat → Int} {n i : Nat} {y : V} (h : ((tab f n).map V.int)[i]? = some y) : y = .int (f i) := by
  unfold tab at h
  rw [List.getElem?_map, List.getElem?_map] at h
  cases e : (List.range n)[i]? with
  | none => rw [e] at h; cases h
  | some k =>
    rw [e] at h
    obtain ⟨h1, h2⟩ := List.getElem?_eq_some_iff.mp e
    rw [List.getElem_range] at h2
    subst h2
    exact (Option.some.inj h).symm
theorem tab_get (f : Nat → Int) {n i : Nat} (h : i < n) : ((tab f n).map V.int)[i]? = some (.int (f i)) := by
  unfold tab
  rw [List.getElem?_map, List.getElem?_map, List.getElem?_range h]
  rfl
end TK
/-! ### a comprehension over zip; rows of pairs -/
namespace TK
open PySem PySem.Spec PyProof.Rows L2
section
variable {K : PySem.W.Frag} {a b : Addr} {g : TG} {tt : TT} {te : TE} {vs : List Nat} {σ : L2.St} {H : Hp} {D : Addr} {Qd : Hp → Prop}
theorem lc_zipS {xs ys zs : List V} (hD : H D = none) (hx : SqL K H a xs) (hy : SqL K H b ys) (n : zs.length = min xs.length ys.length) (sz : zs.length ≤ sizeLine)
    (hs : ∀ (i : Nat) (x y z : V) (T : Addr) (Hi : Hp) (R : V → Hp → Prop) (F : Hp → Prop), xs[i]? = some x → ys[i]? = some y → zs[i]? = some z → Same H Hi → Hi T = none → R z (upd Hi T (.tup [x, y])) →
      g (.ref T) (wipe σ vs) (upd Hi T (.tup [x, y])) fun σ2 H2 => wipe σ2 vs = wipe σ vs ∧ tt σ2 H2 fun b H3 => if b = true then te σ2 H3 R else F H3)
    (hd : ∀ H', Same H H' → H' D = some (.lst zs) → Qd H') :
    ∃ W : Nat → Nat → Hp → Prop, (∃ m, W 0 m (upd H D (.lst []))) ∧ ∀ i m H, W i m H →
      ((Itz K a b).stop i H ∧ Qd H) ∨ ((Itz K a b).go i H ∧ ∃ Nx : Hp → Prop, (∀ H', Nx H' → ∃ m', m' < m ∧ W (i + 1) m' H') ∧ ∀ x H', (Itz K a b).yld i H x H' → g x (wipe σ vs) H' fun σ2 H2 => wipe σ2 vs = wipe σ vs ∧ tt σ2 H2 fun b H3 =>
        if b = true then te σ2 H3 fun y H4 => ∃ acc, H4 D = some (.lst acc) ∧ acc.length < sizeLine ∧ Nx (upd H4 D (.lst (acc ++ [y]))) else Nx H3) := by
  refine ⟨fun i m H' => i + m = zs.length ∧ Same H H' ∧ H' D = some (.lst (zs.take i)), ⟨zs.length, by omega, same_upd hD, upd_same⟩, fun i m H' hW => ?_⟩
  obtain ⟨em, sm, eD⟩ := hW
  have hA : SqL K H' a xs := sm.seq hx
  have hB : SqL K H' b ys := sm.seq hy
  by_cases hi : i < zs.length
  · have h1 : i < xs.length := by omega
    have h2 : i < ys.length := by omega
    have g1 := List.getElem?_eq_getElem h1
    have g2 := List.getElem?_eq_getElem h2
    have g3 := List.getElem?_eq_getElem hi
    refine .inr ⟨⟨_, _, _, _, hA, hB, g1, g2⟩, fun H'' => Same H H'' ∧ H'' D = some (.lst (zs.take (i + 1))), fun H'' hN => ⟨m - 1, by omega, by omega, hN⟩, fun x H'' hy' => ?_⟩
    obtain ⟨T, x1, x2, rfl, nT, rfl, f1, f2⟩ := hy'
    have ex1 : x1 = xs[i] := Option.some.inj ((f1 _ hA).symm.trans g1)
    have ex2 : x2 = ys[i] := Option.some.inj ((f2 _ hB).symm.trans g2)
    subst ex1 ex2
    refine hs i _ _ zs[i] T H' _ _ g1 g2 g3 sm nT ⟨zs.take i, upd_at eD nT, ?_, ?_, ?_⟩
    · rw [List.length_take]
      omega
    · refine fun c o e => ?_
      rw [upd_ne (ne_of_none e hD)]
      exact same_upd nT _ _ (sm _ _ e)
    · rw [upd_same, take_snoc g3]
  · refine .inl ⟨⟨_, _, hA, hB, ?_⟩, hd _ sm ?_⟩
    · omega
    · rw [List.take_of_length_le (by omega)] at eD
      exact eD
end
theorem cut1 (xs : List V) : cutV xs (some 1) none = xs.drop 1 := by
  unfold cutV
  rw [show HT.sIx xs.length 0 (some 1) = min 1 xs.length from HT.sIx_nat xs.length 0 1, HT.sIx_none]
  cases xs with
  | nil => rfl
  | cons x r =>
    rw [show min 1 (x :: r).length = 1 by
      rw [List.length_cons]
      omega]
    show (List.take ((x :: r).length - 1) r) = r
    rw [List.length_cons, Nat.add_sub_cancel]
    exact List.take_length
/-- rows (i, m) as tuples -/
def Pairs (H : Hp) : List V → List (Int × Int) → Prop
  | [], [] => True
  | x :: xs, r :: rs => (∃ a, x = .ref a ∧ H a = some (.tup [.int r.1, .int r.2])) ∧ Pairs H xs rs
  | _, _ => False
theorem Pairs.same {H H' : Hp} (s : Same H H') : ∀ {xs : List V} {rs : List (Int × Int)}, Pairs H xs rs → Pairs H' xs rs
  | [], [], _ => trivial
  | _ :: _, _ :: _, h => ⟨by obtain ⟨a, e, h1⟩ := h.1; exact ⟨a, e, s _ _ h1⟩, Pairs.same s h.2⟩
  | [], _ :: _, h => h.elim
  | _ :: _, [], h => h.elim
/-- a list that is written over is none of the tuples -/
theorem Pairs.keep {H : Hp} {l : Addr} {ys zs : List V} (hl : H l = some (.lst ys)) : ∀ {xs : List V} {rs : List (Int × Int)}, Pairs H xs rs → Pairs (upd H l (.lst zs)) xs rs
  | [], [], _ => trivial
  | _ :: _, _ :: _, h => ⟨by
      obtain ⟨a, e, h1⟩ := h.1
      exact ⟨a, e, upd_at' h1 (ne_of h1 hl (by intro z; cases z))⟩, Pairs.keep hl h.2⟩
  | [], _ :: _, h => h.elim
  | _ :: _, [], h => h.elim
theorem Pairs.snoc {H : Hp} {p : Addr} {i m : Int} (hp : H p = some (.tup [.int i, .int m])) : ∀ {xs : List V} {rs : List (Int × Int)}, Pairs H xs rs → Pairs H (xs ++ [.ref p]) (rs ++ [(i, m)])
  | [], [], _ => ⟨⟨p, rfl, hp⟩, trivial⟩
  | _ :: _, _ :: _, h => ⟨h.1, Pairs.snoc hp h.2⟩
  | [], _ :: _, h => h.elim
  | _ :: _, [], h => h.elim
def pD (r : Int × Int) : PyData := .tuple [.int r.1, .int r.2]
theorem Pairs.dp {K : PySem.W.Frag} {H : Hp} : ∀ {xs : List V} {rs : List (Int × Int)}, Pairs H xs rs → DpAll K H xs (rs.map pD)
  | [], [], _ => .nil
  | _ :: _, _ :: _, h => by
    obtain ⟨a, e, h1⟩ := h.1
    subst e
    exact .cons (.tup (SqT.of h1) (.cons (.int _) (.cons (.int _) .nil))) (Pairs.dp h.2)
  | [], _ :: _, h => h.elim
  | _ :: _, [], h => h.elim
theorem lay_pairs : ∀ rs : List (Int × Int), PyData.canLayAll0 (rs.map pD) = true
  | [] => rfl
  | _ :: r => by simp [PyData.canLayAll0, PyData.canLay0, pD, lay_pairs r]
theorem deep_pairs : ∀ rs : List (Int × Int), PyData.depthAll (rs.map pD) ≤ 2
  | [] => by simp [PyData.depthAll]
  | _ :: r => by
    have := deep_pairs r
    simp [PyData.depthAll, PyData.depth, pD]
    omega
theorem shaped_pairs (rs : List (Int × Int)) : SeqAt.shaped (.list (rs.map pD)) = true := by
  have := deep_pairs rs
  simp [SeqAt.shaped, PyData.canLay0, PyData.depth, lay_pairs]
  omega
theorem Pairs.length {H : Hp} : ∀ {xs : List V} {rs : List (Int × Int)}, Pairs H xs rs → xs.length = rs.length
  | [], [], _ => rfl
  | _ :: _, _ :: _, h => by rw [List.length_cons, List.length_cons, Pairs.length h.2]
  | [], _ :: _, h => h.elim
  | _ :: _, [], h => h.elim
theorem eqv_pairs : ∀ rs ss : List (Int × Int), PyData.eqvAll (rs.map pD) (ss.map pD) = decide (rs = ss)
  | [], [] => by simp [PyData.eqvAll]
  | [], _ :: _ => by simp [PyData.eqvAll]
  | _ :: _, [] => by simp [PyData.eqvAll]
  | (a, b) :: r, (c, d) :: t => by
    simp only [List.map_cons, PyData.eqvAll, eqv_pairs r t]
    by_cases h1 : a = c <;> by_cases h2 : b = d <;> by_cases h' : r = t <;> simp [pD, PyData.eqv, PyData.eqvAll, h1, h2, h']
/-- a list of rows stands at l -/
structure Rows (H : Hp) (l : Addr) (rs : List (Int × Int)) : Prop where
  ex : ∃ xs, H l = some (.lst xs) ∧ Pairs H xs rs
theorem Rows.same {H H' : Hp} {l : Addr} {rs : List (Int × Int)} (s : Same H H') (h : Rows H l rs) : Rows H' l rs := by
  obtain ⟨xs, e, p⟩ := h.ex
  exact ⟨xs, s _ _ e, p.same s⟩
theorem Rows.add {H : Hp} {l t : Addr} {xs : List V} {rs : List (Int × Int)} {i m : Int} (hl : H l = some (.lst xs)) (p : Pairs H xs rs) (ht : H t = some (.tup [.int i, .int m])) : Rows (upd H l (.lst (xs ++ [.ref t]))) l (rs ++ [(i, m)]) :=
  ⟨_, upd_same, (Pairs.snoc ht p).keep hl⟩
section
variable {X : Cx}
theorem op_eqPL (hu : X.A.units + 64 < cLine) : OpR X (compareOp .Eq) (fun x y H Q => ∃ (a b : Addr) (rs ss : List (Int × Int)), x = .ref a ∧ y = .ref b ∧ Rows H a rs ∧ Rows H b ss ∧ Q (.bl (decide (rs = ss))) H) := by
  intro pins s σ H x y v u Q I rx ry h
  obtain ⟨a, b, ns, ms, rfl, rfl, ⟨⟨xs, h1, p1⟩⟩, ⟨⟨ys, h2, p2⟩⟩, q⟩ := h
  refine op_eqD hu pins s σ H _ _ v u Q I rx ry ⟨_, _, .lst (SqL.of h1) p1.dp, .lst (SqL.of h2) p2.dp, shaped_pairs ns, shaped_pairs ms, ?_⟩
  rw [PyData.eqv, eqv_pairs]
  exact q
theorem op_nePL (hu : X.A.units + 64 < cLine) : OpR X (compareOp .NotEq) (fun x y H Q => ∃ (a b : Addr) (rs ss : List (Int × Int)), x = .ref a ∧ y = .ref b ∧ Rows H a rs ∧ Rows H b ss ∧ Q (.bl (!decide (rs = ss))) H) := by
  intro pins s σ H x y v u Q I rx ry h
  obtain ⟨a, b, ns, ms, rfl, rfl, ⟨⟨xs, h1, p1⟩⟩, ⟨⟨ys, h2, p2⟩⟩, q⟩ := h
  refine op_neD hu pins s σ H _ _ v u Q I rx ry ⟨_, _, .lst (SqL.of h1) p1.dp, .lst (SqL.of h2) p2.dp, shaped_pairs ns, shaped_pairs ms, ?_⟩
  rw [PyData.eqv, eqv_pairs]
  exact q
end
end TK
namespace TK
open PySem PySem.Spec PyProof.Rows L2
/-- the i-th number of a list -/
def nth (ns : List Int) (i : Nat) : Int := ns.getD i 0
theorem nth_get {ns : List Int} {i : Nat} (h : i < ns.length) : (ns.map V.int)[i]? = some (.int (nth ns i)) := by
  unfold nth
  rw [List.getElem?_map, List.getElem?_eq_getElem h, List.getD_eq_getElem?_getD, List.getElem?_eq_getElem h]
  rfl
theorem nth_of {ns : List Int} {i : Nat} {y : V} (h : (ns.map V.int)[i]? = some y) : i < ns.length ∧ y = .int (nth ns i) := by
  have hi : i < ns.length := by
    have := (List.getElem?_eq_some_iff.mp h).1
    rw [List.length_map] at this
    exact this
  refine ⟨hi, ?_⟩
  rw [nth_get hi] at h
  exact (Option.some.inj h).symm
theorem at_nth {ns : List Int} {z : Int} (h0 : 0 ≤ z) (h1 : z < ns.length) : atI (ns.map V.int) z = some (.int (nth ns z.toNat)) := at_of (j := z.toNat) (by omega) (nth_get (by omega))
end TK
namespace TK
open PySem PySem.Spec PyProof.Rows L2
/-- a loop over zip of two lists, the shorter one's length -/
theorem for_zipS {K : PySem.W.Frag} {a b : Addr} {xs ys : List V} {g : TG} {tb : TS} {D : Ends} {σ : L2.St} {H : Hp} {n : Nat} (hn : n = min xs.length ys.length) (Pv : Nat → L2.St → Hp → Prop) (h0 : Pv 0 σ H)
    (hq : ∀ i σ H, Pv i σ H → SqL K H a xs ∧ SqL K H b ys)
    (hs : ∀ i x y T σ H, xs[i]? = some x → ys[i]? = some y → Pv i σ H → H T = none → g (.ref T) σ (upd H T (.tup [x, y])) fun σ2 H2 => tb { D with nx := Pv (i + 1), ct := Pv (i + 1), bk := D.nx } σ2 H2)
    (hd : ∀ σ H, Pv n σ H → D.nx σ H) :
    ∃ W : Nat → Nat → L2.St → Hp → Prop, (∃ m, W 0 m σ H) ∧ ∀ i m σ H, W i m σ H →
      ((Itz K a b).stop i H ∧ D.nx σ H) ∨ ((Itz K a b).go i H ∧ ∃ N : L2.St → Hp → Prop, (∀ σ' H', N σ' H' → ∃ m', m' < m ∧ W (i + 1) m' σ' H') ∧ ∀ v H', (Itz K a b).yld i H v H' → g v σ H' fun σ2 H2 => tb { D with nx := N, ct := N, bk := D.nx } σ2 H2) := by
  refine ⟨fun i m σ H => m = n - i ∧ i ≤ n ∧ Pv i σ H, ⟨n, by simp, Nat.zero_le _, h0⟩, ?_⟩
  rintro i m σ H ⟨rfl, hi, p⟩
  obtain ⟨hA, hB⟩ := hq i σ H p
  by_cases hlt : i < n
  · have h1 : i < xs.length := by omega
    have h2 : i < ys.length := by omega
    have g1 := List.getElem?_eq_getElem h1
    have g2 := List.getElem?_eq_getElem h2
    refine .inr ⟨⟨_, _, _, _, hA, hB, g1, g2⟩, Pv (i + 1), fun σ' H' p' => ⟨n - (i + 1), by omega, rfl, hlt, p'⟩, fun v H' hy => ?_⟩
    obtain ⟨T, x1, x2, rfl, nT, rfl, f1, f2⟩ := hy
    have ex1 : x1 = xs[i] := Option.some.inj ((f1 _ hA).symm.trans g1)
    have ex2 : x2 = ys[i] := Option.some.inj ((f2 _ hB).symm.trans g2)
    subst ex1 ex2
    exact hs i _ _ T σ H g1 g2 p nT
  · have e : i = n := by omega
    subst e
    exact .inl ⟨⟨_, _, hA, hB, by omega⟩, hd σ H p⟩
/-- a and b as a test, where b may add to the heap: what comes of False is told once -/
theorem and_cut {c : Bool} {T2 : Hp → (Bool → Hp → Prop) → Prop} {R : Bool → Hp → Prop} {H5 : Hp} (hr : ∀ H6, Same H5 H6 → R false H6) (ht : c = true → (∀ H6, Same H5 H6 → R false H6) → T2 H5 R) : if c = true then T2 H5 R else R false H5 := by
  cases c with
  | true => exact iteT (ht rfl hr)
  | false => exact iteF (hr H5 (Same.refl H5))
theorem cutLast (xs : List V) : cutV xs none (some (-1)) = xs.dropLast := by
  unfold cutV
  rw [HT.sIx_none]
  show (xs.drop 0).take ((if (-1 : Int) < 0 then (-1 + (xs.length : Int)).toNat else min (-1 : Int).toNat xs.length) - 0) = _
  rw [if_pos (by decide), List.drop_zero, List.dropLast_eq_take, show (-1 + (xs.length : Int)).toNat - 0 = xs.length - 1 by omega]
end TK
namespace TK
open PySem PySem.Spec PyProof.Rows L2
/-- while, with a number that falls; what comes of a turn is told once -/
theorem while_m {c : TT} {tb : TS} {D : Ends} {σ : L2.St} {H : Hp} (Pv : Nat → L2.St → Hp → Prop) {m0 : Nat} (h0 : Pv m0 σ H)
    (hs : ∀ m σ H, Pv m σ H → ∀ Bt : Hp → Prop, (∀ H1, tb { D with nx := fun σ' H' => ∃ m', m' < m ∧ Pv m' σ' H', ct := fun σ' H' => ∃ m', m' < m ∧ Pv m' σ' H', bk := D.nx } σ H1 → Bt H1) →
      c σ H fun b H1 => if b = true then Bt H1 else D.nx σ H1) : tWhile c tb D σ H :=
  ⟨Pv, ⟨m0, h0⟩, fun m σ H p => hs m σ H p _ (fun H1 h => ⟨_, fun σ' H' x => x, h⟩)⟩
/-- numbers of a list of numbers, by place -/
theorem mapI {f : Nat → Int} {l : List Nat} : l.map (fun k => V.int (f k)) = (l.map f).map V.int := by
  rw [List.map_map]
  rfl
theorem kept_nil {p : Nat → Bool} : ∀ {n : Nat}, (∀ k, k < n → p k = false) → kept p n = []
  | 0, _ => rfl
  | n + 1, h => by
    rw [kept_succ, if_neg (by rw [h n (by omega)]; decide)]
    exact kept_nil (fun k hk => h k (by omega))
theorem kept_last {p : Nat → Bool} {d n : Nat} (hp : p d = true) (hd : d < n) (hn : ∀ k, d < k → k < n → p k = false) : ∃ r, kept p n = r ++ [d] := by
  induction n with
  | zero => omega
  | succ n ih =>
    rw [kept_succ]
    by_cases e : d = n
    · subst e
      rw [if_pos hp]
      exact ⟨_, rfl⟩
    · rw [if_neg (by rw [hn n (by omega) (by omega)]; decide)]
      exact ih (by omega) (fun k h1 h2 => hn k h1 (by omega))
end TK
/-! ### comprehensions with a test, over lists and tuples -/
namespace TK
open PySem PySem.Spec PyProof.Rows L2
section
variable {K : PySem.W.Frag} {a : Addr} {g : TG} {tt : TT} {te : TE} {vs : List Nat} {σ : L2.St} {H : Hp} {D : Addr} {Qd : Hp → Prop}
theorem lc_itF {J : It} {xs : List V} {p : Nat → Bool} {f : Nat → V} (hD : H D = none) (jg : ∀ i H', Same H H' → i < xs.length → J.go i H') (jy : ∀ i H' x H'', Same H H' → J.yld i H' x H'' → H'' = H' ∧ xs[i]? = some x) (js : ∀ H', Same H H' → J.stop xs.length H') (sz : xs.length ≤ sizeLine)
    (hs : ∀ (i : Nat) (x : V) (R : V → Hp → Prop) (F : Hp → Prop), xs[i]? = some x → (p i = true → R (f i) (upd H D (.lst ((kept p i).map f)))) → (p i = false → F (upd H D (.lst ((kept p i).map f)))) →
      g x (wipe σ vs) (upd H D (.lst ((kept p i).map f))) fun σ2 H2 => wipe σ2 vs = wipe σ vs ∧ tt σ2 H2 fun b H3 => if b = true then te σ2 H3 R else F H3)
    (hd : Qd (upd H D (.lst ((kept p xs.length).map f)))) :
    ∃ W : Nat → Nat → Hp → Prop, (∃ m, W 0 m (upd H D (.lst []))) ∧ ∀ i m H, W i m H →
      (J.stop i H ∧ Qd H) ∨ (J.go i H ∧ ∃ Nx : Hp → Prop, (∀ H', Nx H' → ∃ m', m' < m ∧ W (i + 1) m' H') ∧ ∀ x H', J.yld i H x H' → g x (wipe σ vs) H' fun σ2 H2 => wipe σ2 vs = wipe σ vs ∧ tt σ2 H2 fun b H3 =>
        if b = true then te σ2 H3 fun y H4 => ∃ acc, H4 D = some (.lst acc) ∧ acc.length < sizeLine ∧ Nx (upd H4 D (.lst (acc ++ [y]))) else Nx H3) := by
  refine ⟨fun i m H' => i + m = xs.length ∧ H' = upd H D (.lst ((kept p i).map f)), ⟨xs.length, by omega, rfl⟩, fun i m H' hW => ?_⟩
  obtain ⟨em, e⟩ := hW
  have sm : Same H H' := by
    subst e
    exact same_upd hD
  by_cases hi : i < xs.length
  · refine .inr ⟨jg i H' sm hi, fun H'' => H'' = upd H D (.lst ((kept p (i + 1)).map f)), fun H'' hN => ⟨m - 1, by omega, by omega, hN⟩, fun x H'' hy => ?_⟩
    obtain ⟨e1, hx⟩ := jy i H' x H'' sm hy
    subst e1 e
    refine hs i x _ _ hx (fun hp => ⟨(kept p i).map f, upd_same, ?_, ?_⟩) (fun hp => ?_)
    · have := kept_len p i
      rw [List.length_map]
      omega
    · rw [upd_upd, kept_succ, if_pos hp, List.map_append]
      rfl
    · rw [kept_succ, if_neg (by rw [hp]; decide)]
  · have ei : i = xs.length := by omega
    subst ei e
    exact .inl ⟨js _ sm, hd⟩
theorem lc_listF {xs : List V} {p : Nat → Bool} {f : Nat → V} (hD : H D = none) (hl : SqL K H a xs) (sz : xs.length ≤ sizeLine)
    (hs : ∀ (i : Nat) (x : V) (R : V → Hp → Prop) (F : Hp → Prop), xs[i]? = some x → (p i = true → R (f i) (upd H D (.lst ((kept p i).map f)))) → (p i = false → F (upd H D (.lst ((kept p i).map f)))) →
      g x (wipe σ vs) (upd H D (.lst ((kept p i).map f))) fun σ2 H2 => wipe σ2 vs = wipe σ vs ∧ tt σ2 H2 fun b H3 => if b = true then te σ2 H3 R else F H3)
    (hd : Qd (upd H D (.lst ((kept p xs.length).map f)))) :
    ∃ W : Nat → Nat → Hp → Prop, (∃ m, W 0 m (upd H D (.lst []))) ∧ ∀ i m H, W i m H →
      ((Itl K a).stop i H ∧ Qd H) ∨ ((Itl K a).go i H ∧ ∃ Nx : Hp → Prop, (∀ H', Nx H' → ∃ m', m' < m ∧ W (i + 1) m' H') ∧ ∀ x H', (Itl K a).yld i H x H' → g x (wipe σ vs) H' fun σ2 H2 => wipe σ2 vs = wipe σ vs ∧ tt σ2 H2 fun b H3 =>
        if b = true then te σ2 H3 fun y H4 => ∃ acc, H4 D = some (.lst acc) ∧ acc.length < sizeLine ∧ Nx (upd H4 D (.lst (acc ++ [y]))) else Nx H3) :=
  lc_itF (J := Itl K a) hD (fun i H' sm hi => ⟨xs, _, sm.seq hl, List.getElem?_eq_getElem hi⟩) (fun i H' x H'' sm hy => ⟨hy.1, hy.2 _ (sm.seq hl)⟩) (fun H' sm => ⟨xs, sm.seq hl, Nat.le_refl _⟩) sz hs hd
theorem lc_tupF {xs : List V} {p : Nat → Bool} {f : Nat → V} (hD : H D = none) (hl : H a = some (.tup xs)) (sz : xs.length ≤ sizeLine)
    (hs : ∀ (i : Nat) (x : V) (R : V → Hp → Prop) (F : Hp → Prop), xs[i]? = some x → (p i = true → R (f i) (upd H D (.lst ((kept p i).map f)))) → (p i = false → F (upd H D (.lst ((kept p i).map f)))) →
      g x (wipe σ vs) (upd H D (.lst ((kept p i).map f))) fun σ2 H2 => wipe σ2 vs = wipe σ vs ∧ tt σ2 H2 fun b H3 => if b = true then te σ2 H3 R else F H3)
    (hd : Qd (upd H D (.lst ((kept p xs.length).map f)))) :
    ∃ W : Nat → Nat → Hp → Prop, (∃ m, W 0 m (upd H D (.lst []))) ∧ ∀ i m H, W i m H →
      ((Itt K a).stop i H ∧ Qd H) ∨ ((Itt K a).go i H ∧ ∃ Nx : Hp → Prop, (∀ H', Nx H' → ∃ m', m' < m ∧ W (i + 1) m' H') ∧ ∀ x H', (Itt K a).yld i H x H' → g x (wipe σ vs) H' fun σ2 H2 => wipe σ2 vs = wipe σ vs ∧ tt σ2 H2 fun b H3 =>
        if b = true then te σ2 H3 fun y H4 => ∃ acc, H4 D = some (.lst acc) ∧ acc.length < sizeLine ∧ Nx (upd H4 D (.lst (acc ++ [y]))) else Nx H3) :=
  lc_itF (J := Itt K a) hD (fun i H' sm hi => ⟨xs, _, SqT.of (sm _ _ hl), List.getElem?_eq_getElem hi⟩) (fun i H' x H'' sm hy => ⟨hy.1, hy.2 _ (SqT.of (sm _ _ hl))⟩) (fun H' sm => ⟨xs, SqT.of (sm _ _ hl), Nat.le_refl _⟩) sz hs hd
end
end TK
namespace TK
open PySem PySem.Spec PyProof.Rows L2
/-- a loop over enumerate of a list -/
theorem for_enumS {K : PySem.W.Frag} {a : Addr} {xs : List V} {g : TG} {tb : TS} {D : Ends} {σ : L2.St} {H : Hp} (Pv : Nat → L2.St → Hp → Prop) (h0 : Pv 0 σ H)
    (hq : ∀ i σ H, Pv i σ H → SqL K H a xs)
    (hs : ∀ i x T σ H, xs[i]? = some x → Pv i σ H → H T = none → g (.ref T) σ (upd H T (.tup [.int (i : Nat), x])) fun σ2 H2 => tb { D with nx := Pv (i + 1), ct := Pv (i + 1), bk := D.nx } σ2 H2)
    (hd : ∀ σ H, Pv xs.length σ H → D.nx σ H) :
    ∃ W : Nat → Nat → L2.St → Hp → Prop, (∃ m, W 0 m σ H) ∧ ∀ i m σ H, W i m σ H →
      ((Ite K a).stop i H ∧ D.nx σ H) ∨ ((Ite K a).go i H ∧ ∃ N : L2.St → Hp → Prop, (∀ σ' H', N σ' H' → ∃ m', m' < m ∧ W (i + 1) m' σ' H') ∧ ∀ v H', (Ite K a).yld i H v H' → g v σ H' fun σ2 H2 => tb { D with nx := N, ct := N, bk := D.nx } σ2 H2) := by
  refine ⟨fun i m σ H => m = xs.length - i ∧ i ≤ xs.length ∧ Pv i σ H, ⟨xs.length, by simp, Nat.zero_le _, h0⟩, ?_⟩
  rintro i m σ H ⟨rfl, hi, p⟩
  have hA := hq i σ H p
  by_cases hlt : i < xs.length
  · have g1 := List.getElem?_eq_getElem hlt
    refine .inr ⟨⟨_, _, hA, g1⟩, Pv (i + 1), fun σ' H' p' => ⟨xs.length - (i + 1), by omega, rfl, hlt, p'⟩, fun v H' hy => ?_⟩
    obtain ⟨T, x1, rfl, nT, rfl, f1⟩ := hy
    have ex1 : x1 = xs[i] := Option.some.inj ((f1 _ hA).symm.trans g1)
    subst ex1
    exact hs i _ T σ H g1 p nT
  · have e : i = xs.length := by omega
    subst e
    exact .inl ⟨⟨_, hA, by omega⟩, hd σ H p⟩
/-- a and b as a test, where b may change the heap: what comes of False is told once -/
theorem and_cutP {c : Bool} {T2 : Hp → (Bool → Hp → Prop) → Prop} {R : Bool → Hp → Prop} {H5 : Hp} (P : Hp → Prop) (h5 : P H5) (hr : ∀ H6, P H6 → R false H6) (ht : c = true → (∀ H6, P H6 → R false H6) → T2 H5 R) : if c = true then T2 H5 R else R false H5 := by
  cases c with
  | true => exact iteT (ht rfl hr)
  | false => exact iteF (hr H5 h5)
theorem ofF {A B : Prop} (h : if false = true then A else B) : B := by simpa using h
end TK
namespace TK
open PySem PySem.Spec PyProof.Rows L2
/-- an if whose two ways go on alike: what follows is told once -/
theorem ifs_cut {c : Bool} {tb tb2 : TS} {D : Ends} {σ : L2.St} {H : Hp} (Inv : L2.St → Hp → Prop) (hR : ∀ σ' H', Inv σ' H' → D.nx σ' H')
    (ht : c = true → (∀ σ' H', Inv σ' H' → D.nx σ' H') → tb D σ H) (he : c = false → (∀ σ' H', Inv σ' H' → D.nx σ' H') → tb2 D σ H) : if c = true then tb D σ H else tb2 D σ H := by
  cases c with
  | true => exact iteT (ht rfl hR)
  | false => exact iteF (he rfl hR)
end TK

namespace My
open PySem PySem.Spec PyProof.Rows L2 TK
def topS (i : Nat) : Stmt := PySem.Challenge.pw_timekernel_k13_lines_far.main.body.getD i (.Pass ⟨0, 0, 0, 0⟩)
structure Txt (mg : Str → Option Value) : Prop where
  len : mg "len" = none
  int : mg "int" = none
  range : mg "range" = none
  isinstance : mg "isinstance" = none
  bool : mg "bool" = none
  tuple : mg "tuple" = none
  max : mg "max" = none
  min : mg "min" = none
  mgMOST_SHIFT : ∃ t, mg "MOST_SHIFT" = some (.int (64) t)
local macro_rules | `(tactic| walk_at "side") => `(tactic| first
  | with_reducible assumption
  | omega
  | (simp only [List.length_map]; omega)
  | ((with_reducible refine posLen ?h); (case h => exact rfl))
  | ((with_reducible refine ltLen ?h); (case h => exact rfl))
  | (show (0 : Int) < _; omega)
  | (show (0 : Int) ≤ _; omega)
  | with_reducible exact Dr.src (by assumption)
  | ((with_reducible refine Src.new ?h1 ?h2); (case h2 => assumption); (case h1 => walk_at "side"))
  | ((with_reducible refine Src.set ?h1 ?h2); (case h2 => assumption); (case h1 => walk_at "side"))
  | exact w200 (by omega) (by omega)
  | exact shl400 (by omega) (by omega) (by omega)
  | exact mulE1 (by omega) (by omega)
  | exact mulE2 (by omega) (by omega)
  | exact mulE3 (by omega) (by omega)
  | exact Or.inr ⟨by omega, by omega⟩
  | exact Or.inl ⟨by omega, by omega⟩
  | exact Or.inr ⟨by decide, by decide⟩
  | exact Or.inl ⟨by decide, by decide⟩
  | exact rfl
  | exact ⟨by omega, by omega, by omega⟩
  | exact ⟨by decide, by decide, by decide⟩
  | exact Nat.le_of_ble_eq_true rfl)
local macro_rules | `(tactic| walk_at "has") => `(tactic| first
  | with_reducible assumption
  | with_reducible exact upd_same
  | ((with_reducible refine upd_at ?h1 ?h2); (case h2 => assumption); (case h1 => walk_at "has"))
  | (refine Dr.at (by assumption) ?h1 ?h2; (case h1 => assumption); (case h2 => walk_at "has")))
local macro_rules | `(tactic| walk_at "sql") => `(tactic| first | assumption | exact SqL.of (by walk_at "has"))
local macro_rules | `(tactic| walk_at "sqt") => `(tactic| first | assumption | exact SqT.of (by walk_at "has"))
local macro_rules | `(tactic| walk_at "ty") => `(tactic| first | exact .base (.int _) | exact .base .non | exact .base (.bl _) | exact .base (.str _) | exact .base (.tup (by walk_at "has")) | exact .base (.lst (by walk_at "has")) | exact .base (.dK (by walk_at "has")))
local macro_rules | `(tactic| walk_at "go1") => `(tactic| first
  | refine ⟨_, rfl, ?_⟩
  | refine ⟨_, _, rfl, rfl, ?_⟩
  | (refine And.intro ?side ?_; (case side => walk_at "side"))
  | (refine ⟨?rr, IsR.mk ?eq, ?_⟩; (case eq => first | (conv => lhs; simp only [Int.reduceToNat, Int.reducePow, Int.reduceMul, Int.one_mul]) | rfl))
  | (refine Or.inl ⟨_, rfl, ?_⟩)
  | refine iteT ?_
  | refine iteF ?_
  | refine ⟨_, _, rfl, ?_⟩
  | refine ⟨_, _, rfl, Or.inl (by walk_at "sql"), ?_⟩
  | refine ⟨_, _, rfl, Or.inr (by walk_at "sqt"), ?_⟩
  | refine ⟨_, _, _, rfl, ?_⟩
  | refine ⟨_, _, _, _, rfl, rfl, by walk_at "sql", rfl, ?_⟩
  | refine ⟨_, _, _, _, rfl, rfl, by walk_at "sqt", rfl, ?_⟩
  | refine ⟨_, _, _, _, rfl, rfl, by walk_at "has", rfl, ?_⟩
  | refine ⟨_, _, _, _, _, rfl, .ty _, by walk_at "ty", kit_ty (r := true) (by decide +kernel), ?_⟩
  | refine ⟨_, _, _, _, _, rfl, .ty _, by walk_at "ty", kit_ty (r := false) (by decide +kernel), ?_⟩
  | refine ⟨_, _, rfl, by walk_at "sqt", rfl, ?_⟩
  | refine And.intro (Or.inl ⟨rfl, _, by walk_at "sql"⟩) ?_
  | refine ⟨_, _, _, rfl, rfl, by walk_at "has", Nat.le_of_ble_eq_true rfl, ?_⟩
  | refine ⟨_, _, _, _, rfl, rfl, by walk_at "has", by walk_at "has", Nat.le_of_ble_eq_true rfl, ?_⟩
  | refine And.intro ⟨_, by walk_at "sql"⟩ ?_
  | refine ⟨_, _, _, _, rfl, rfl, by walk_at "sql", at_nth (by omega) (by omega), ?_⟩
  | refine ⟨_, _, rfl, by walk_at "sql", ?_⟩
  | refine ifD (by omega) ?_
  | refine ifN (by omega) ?_
  | refine ifDn (by omega) ?_
  | refine ifNn (by omega) ?_
  | refine ifE (by omega) ?_
  | refine ifEn (by omega) ?_)
local macro_rules | `(tactic| walk_at "go") => `(tactic| repeat walk_at "go1")

/-! ### draws -/
def spCell (K : PySem.W.Frag) : Sp := fun vs H Q _ => ∃ (a : Addr) (ns : List Int) (k : Int), vs = [.ref a, .int k] ∧ SqL K H a (ns.map V.int) ∧ 0 ≤ k ∧ ∀ c : Int, Q (.int c) H
def spMixed : Sp := fun vs H Q _ => ∃ (c k : Int), vs = [.int c, .int k] ∧ ∀ r : Int, 0 ≤ r → r < 2147483563 → Q (.int r) H
def spSource (K : PySem.W.Frag) : Sp := fun vs H Q _ => ∃ (a : Addr) (ns : List Int) (k : Int), vs = [.ref a, .int k] ∧ SqL K H a (ns.map V.int) ∧ 0 ≤ k ∧ ∀ (p : Addr) (x y n : Int), H p = none → Q (.ref p) (upd H p (.lst [.int x, .int y, .int n]))
def spNext : Sp := fun vs H Q _ => ∃ (a : Addr) (m : Int), vs = [.ref a, .int m] ∧ Src H a ∧ 0 < m ∧ m  < 1606938044258990275541962092341162602522202993782792835301376 ∧ ∀ (r : Int) (H' : Hp), 0 ≤ r → r < m → Dr a H H' → Q (.int r) H'
section
variable {P : Program} {w : World} {K : PySem.W.Frag} {mg : Str → Option Value} {base : Heap}
abbrev sLCellAt : Stmt := topS 19
theorem scLCellAt : FnScope ["script", "k"] ["script", "k"] (defScope sLCellAt) := ⟨rfl, rfl, rfl, by decide +kernel, rfl, by decide +kernel, by decide +kernel⟩
set_option maxHeartbeats 2000000 in
theorem ok_LCellAt (D : DefAt K mg "_law_cell_at" sLCellAt ["script", "k"])  (T : Txt mg) : Cal P w K mg base "_law_cell_at" ["script", "k"] 1 (spCell K) := by
  refine D.cal scLCellAt (fun vs H Q E h => (by (obtain ⟨_, _, _, rfl, _⟩ := h); rfl)) (fun f cdv A outer s H vs Q E hr h => ?_)
  obtain ⟨a, ns, k, rfl, hS, h0, q⟩ := h
  refine ⟨_, pss_cons (ps_if (pt_cmpR op_lt (pv 1) (pe_callB call_len_seq (by rfl) T.len PySem.boot_len (pa_cons (pv 0) pa_nil)) (nomark _))
        (pss_one (ps_ret (pe_ix ix_list (pv 0) (pv 1) (fun _ _ => rfl))))
        pss_nil)
      (pss_one (ps_ret pe_int)), ?_⟩
  refine ⟨_, rfl, .ref a, rfl, a, _, rfl, .inl hS, _, _, rfl, rfl, _, rfl, ite2 (fun e => ?_) (fun e => ?_)⟩
  · have e1 : k < ((ns.map V.int).length : Int) := of_decide_eq_true e
    rw [List.length_map] at e1
    have hk : k.toNat < ns.length := by omega
    refine ⟨.ref a, rfl, _, rfl, a, _, k, .int (ns[k.toNat]), rfl, rfl, hS, at_of (j := k.toNat) (by omega) ?_, ?_⟩
    · rw [List.getElem?_map, List.getElem?_eq_getElem hk]
      rfl
    · exact q _
  · exact q _
abbrev sLMixed : Stmt := topS 20
theorem scLMixed : FnScope ["cell", "k", "low"] ["cell", "k"] (defScope sLMixed) := ⟨rfl, rfl, rfl, by decide +kernel, rfl, by decide +kernel, by decide +kernel⟩
set_option maxHeartbeats 2000000 in
theorem ok_LMixed (D : DefAt K mg "_law_mixed" sLMixed ["cell", "k"])  (T : Txt mg) : Cal P w K mg base "_law_mixed" ["cell", "k"] 1 (spMixed) := by
  refine D.cal scLMixed (fun vs H Q E h => (by (obtain ⟨_, _, rfl, _⟩ := h); rfl)) (fun f cdv A outer s H vs Q E hr h => ?_)
  obtain ⟨c, k, rfl, q⟩ := h
  refine ⟨_, pss_cons (ps_set (i := 2) scLMixed.nd rfl (Or.inl rfl) (pe_op op_add (pe_op op_mod (pe_callTy call_int1 (by rfl) T.int (by decide +kernel) (pa_cons (pv 0) pa_nil)) pe_int) (pe_op op_mulE (pe_op op_fdivW (pv 0) pe_int) pe_int)))
      (pss_cons (ps_set (i := 2) scLMixed.nd rfl (Or.inl rfl) (pe_op op_mod (pe_callTy call_int1 (by rfl) T.int (by decide +kernel) (pa_cons (pe_op op_mulE (pe_op op_add (pe_op op_add (pv 2) (pe_op op_mulE pe_int (pv 1))) pe_int) pe_int) pa_nil)) pe_int))
      (pss_cons (ps_set (i := 2) scLMixed.nd rfl (Or.inl rfl) (pe_op op_mod (pe_callTy call_int1 (by rfl) T.int (by decide +kernel) (pa_cons (pe_op op_mulE (pv 2) (pe_op op_add (pe_op op_add (pe_op op_fdivW (pv 2) pe_int) pe_int) (pv 1))) pa_nil)) pe_int))
      (pss_one (ps_ret (pe_op op_mod (pe_callTy call_int1 (by rfl) T.int (by decide +kernel) (pa_cons (pe_op op_mulE (pv 2) (pe_op op_add (pe_op op_fdivW (pv 2) pe_int) pe_int)) pa_nil)) pe_int))))), ?_⟩
  walk_at "go"
  exact q _ (Int.emod_nonneg _ (by decide)) (Int.emod_lt_of_pos _ (by decide))
abbrev sLSource : Stmt := topS 21
theorem scLSource : FnScope ["script", "k", "cell"] ["script", "k"] (defScope sLSource) := ⟨rfl, rfl, rfl, by decide +kernel, rfl, by decide +kernel, by decide +kernel⟩
set_option maxHeartbeats 2000000 in
theorem ok_LSource (D : DefAt K mg "_law_source" sLSource ["script", "k"]) (CLMixed : Cal P w K mg base "_law_mixed" ["cell", "k"] 1 (spMixed)) (CLCellAt : Cal P w K mg base "_law_cell_at" ["script", "k"] 1 (spCell K)) (T : Txt mg) : Cal P w K mg base "_law_source" ["script", "k"] 2 (spSource K) := by
  refine D.cal scLSource (fun vs H Q E h => (by (obtain ⟨_, _, _, rfl, _⟩ := h); rfl)) (fun f cdv A outer s H vs Q E hr h => ?_)
  obtain ⟨a, ns, k, rfl, hS, h0, q⟩ := h
  refine ⟨_, pss_cons (ps_if (pt_cmpR op_lt (pv 1) (pe_callB call_len_seq (by rfl) T.len PySem.boot_len (pa_cons (pv 0) pa_nil)) (nomark _))
        (pss_one (ps_ret (pe_lst (pa_cons (pe_ix ix_list (pv 0) (pv 1) (fun _ _ => rfl)) (pa_cons (pe_ix ix_list (pv 0) (pv 1) (fun _ _ => rfl)) (pa_cons pe_int pa_nil))))))
        pss_nil)
      (pss_cons (ps_set (i := 2) scLSource.nd rfl (Or.inl rfl) (pe_cal CLMixed hr (by rfl) (pa_cons (pe_cal CLCellAt hr (by rfl) (pa_cons (pv 0) (pa_cons pe_int pa_nil))) (pa_cons (pe_op op_add pe_int (pv 1)) pa_nil))))
      (pss_one (ps_ret (pe_lst (pa_cons (pv 2) (pa_cons (pv 2) (pa_cons pe_int pa_nil))))))), ?_⟩
  walk_at "go"
  refine ite2 (fun e => ?_) (fun e => ?_)
  · have e1 : k < ((ns.map V.int).length : Int) := of_decide_eq_true e
    rw [List.length_map] at e1
    have hk : k.toNat < ns.length := by omega
    have hv : (ns.map V.int)[k.toNat]? = some (.int (ns[k.toNat])) := by
      rw [List.getElem?_map, List.getElem?_eq_getElem hk]
      rfl
    have ek : k = (k.toNat : Int) := by omega
    refine ⟨.ref a, rfl, _, rfl, a, _, k, .int (ns[k.toNat]), rfl, rfl, hS, at_of ek hv, ?_⟩
    refine ⟨.ref a, rfl, _, rfl, a, _, k, .int (ns[k.toNat]), rfl, rfl, hS, at_of ek hv, ?_⟩
    walk_at "go"
    intro p hp
    exact q p _ _ _ hp
  · refine ⟨_, rfl, a, ns, 0, rfl, hS, by omega, fun c => ?_⟩
    walk_at "go"
    intro r r0 r1
    walk_at "go"
    intro p hp
    exact q p _ _ _ hp
abbrev sLNext : Stmt := topS 22
theorem scLNext : FnScope ["source", "many", "found"] ["source", "many"] (defScope sLNext) := ⟨rfl, rfl, rfl, by decide +kernel, rfl, by decide +kernel, by decide +kernel⟩
set_option maxHeartbeats 2000000 in
theorem ok_LNext (D : DefAt K mg "_law_next" sLNext ["source", "many"]) (CLMixed : Cal P w K mg base "_law_mixed" ["cell", "k"] 1 (spMixed)) (T : Txt mg) : Cal P w K mg base "_law_next" ["source", "many"] 2 (spNext) := by
  refine D.cal scLNext (fun vs H Q E h => (by (obtain ⟨_, _, rfl, _⟩ := h); rfl)) (fun f cdv A outer s H vs Q E hr h => ?_)
  obtain ⟨a, m, rfl, ⟨x, y, n, hS⟩, h0, h1, q⟩ := h
  refine ⟨_, pss_cons (ps_if (pt_cmpR op_ge (pe_ix ix_list (pv 0) pe_int (fun _ _ => rfl)) (pe_op op_powE pe_int pe_int) (nomark _))
        (pss_cons (ps_set (i := 2) scLNext.nd rfl (Or.inl rfl) (pe_op op_mod (pe_callTy call_int1 (by rfl) T.int (by decide +kernel) (pa_cons (pe_ix ix_list (pv 0) pe_int (fun _ _ => rfl)) pa_nil)) (pv 1)))
        (pss_cons (ps_asg (pe_op op_fdivW (pe_ix ix_list (pv 0) pe_int (fun _ _ => rfl)) (pv 1)) (pg_sub (pv 0) pe_int set_list))
        (pss_one (ps_ret (pv 2)))))
        pss_nil)
      (pss_cons (ps_asg (pe_op op_add (pe_ix ix_list (pv 0) pe_int (fun _ _ => rfl)) pe_int) (pg_sub (pv 0) pe_int set_list))
      (pss_one (ps_ret (pe_op op_mod (pe_callTy call_int1 (by rfl) T.int (by decide +kernel) (pa_cons (pe_cal CLMixed hr (by rfl) (pa_cons (pe_ix ix_list (pv 0) pe_int (fun _ _ => rfl)) (pa_cons (pe_ix ix_list (pv 0) pe_int (fun _ _ => rfl)) pa_nil))) pa_nil)) (pv 1))))), ?_⟩
  walk_at "go"
  refine ite2 (fun e => ?_) (fun e => ?_)
  · walk_at "go"
    refine q _ _ (Int.emod_nonneg _ (by omega)) (Int.emod_lt_of_pos _ h0) ⟨⟨_, _, _, upd_same⟩, sb_upd⟩
  · walk_at "go"
    intro r r0 r1
    walk_at "go"
    exact q _ _ (Int.emod_nonneg _ (by omega)) (Int.emod_lt_of_pos _ h0) ⟨⟨_, _, _, upd_same⟩, sb_upd⟩

/-! ### the program: lines -/
def spWithin : Sp := fun vs H Q _ => ∃ (x l g : Int), vs = [.int x, .int l, .int g] ∧ Q (.bl (decide (l ≤ x ∧ x ≤ g))) H
def spAtLeast : Sp := fun vs H Q _ => ∃ (x l : Int), vs = [.int x, .int l] ∧ Q (.bl (decide (l ≤ x))) H
def spIsInt : Sp := fun vs H Q _ => ∃ (x : Int), vs = [.int x] ∧ Q (.bl true) H
def spNat : Sp := fun vs H Q _ => ∃ (x : Int), vs = [.int x] ∧ 0 ≤ x ∧ Q .non H
def spRdg : Sp := fun vs H Q _ => ∃ (x : Int), vs = [.int x] ∧ Q .non H
def spUp : Sp := fun vs H Q _ => ∃ (x u : Int), vs = [.int x, .int u] ∧ CDivW (-x) u ∧ Q (.int (-(-x / u))) H
/-- a line stands at p -/
structure Line (H : Hp) (p : Addr) (v l s : Int) : Prop where
  at_ : H p = some (.tup [.int v, .int l, .int s])
  v0 : -2521728396569246669585858566409191283525103313309788586748690777871726193375821479130513040312634601011624191379636224 < v
  v1 : v < 2521728396569246669585858566409191283525103313309788586748690777871726193375821479130513040312634601011624191379636224
  l0 : 0 ≤ l
  l1 : l < 2521728396569246669585858566409191283525103313309788586748690777871726193375821479130513040312634601011624191379636224
  s0 : 0 ≤ s
  s1 : s ≤ 64
def spLine : Sp := fun vs H Q _ => ∃ (p : Addr) (v l s : Int), vs = [.ref p] ∧ Line H p v l s ∧ Q .non H
def spLineReading : Sp := fun vs H Q _ => ∃ (p : Addr) (v l s c : Int), vs = [.ref p, .int c] ∧ Line H p v l s ∧ 0 ≤ c ∧ CMulE l c ∧ Q (.int ((v + l * c) / 2 ^ s.toNat)) H
/-- the first cycle at which a line reads at least g -/
def fr (v l z g : Int) : Option Int := if g * z - v ≤ 0 then some 0 else if l = 0 then none else some (-(-(g * z - v) / l))
def optV : Option Int → V
  | none => .non
  | some i => .int i
def lastV : Option Int → V
  | none => .non
  | some i => .int (i - 1)
theorem not_iff {a b : Prop} (h : a ↔ b) : ¬ a ↔ ¬ b := ⟨fun x y => x (h.mpr y), fun x y => x (h.mp y)⟩
theorem w390 {i m : Int} (h0 : 0 < m) (h : m < 2521728396569246669585858566409191283525103313309788586748690777871726193375821479130513040312634601011624191379636224) : CDivW i m := wide_div h0 (b := 390) (by omega) (by decide) (by decide)
local macro_rules | `(tactic| walk_at "side") => `(tactic| exact w390 (by omega) (by omega))
theorem fr_some {v l z g a : Int} (hz : 0 < z) (hl : 0 ≤ l) (h : fr v l z g = some a) : 0 ≤ a ∧ ∀ n, 0 ≤ n → (g ≤ (v + l * n) / z ↔ a ≤ n) := by
  unfold fr at h
  have key : ∀ n : Int, g ≤ (v + l * n) / z ↔ g * z - v ≤ l * n := fun n => by
    rw [Int.le_ediv_iff_mul_le hz]
    omega
  split at h
  · rename_i h1
    cases h
    refine ⟨Int.le_refl _, fun n hn => ?_⟩
    rw [key]
    have := Int.mul_nonneg hl hn
    omega
  · rename_i h1
    split at h
    · cases h
    · rename_i h2
      cases h
      have hl2 : 0 < l := by omega
      have hc : ∀ n : Int, g * z - v ≤ l * n ↔ -(-(g * z - v) / l) ≤ n := fun n => by
        have e : (-n ≤ -(g * z - v) / l) ↔ (-n * l ≤ -(g * z - v)) := Int.le_ediv_iff_mul_le hl2
        rw [Int.neg_mul, Int.mul_comm n l] at e
        omega
      refine ⟨?_, fun n _ => by rw [key, hc]⟩
      have h3 := not_iff (hc (-1))
      have h4 : ¬ g * z - v ≤ l * -1 := by
        rw [Int.mul_neg, Int.mul_one]
        omega
      have := h3.mp h4
      omega
theorem fr_none {v l z g : Int} (hz : 0 < z) (h : fr v l z g = none) : l = 0 ∧ ∀ n, ¬ g ≤ (v + l * n) / z := by
  unfold fr at h
  split at h
  · cases h
  · rename_i h1
    split at h
    · rename_i h2
      refine ⟨h2, fun n => ?_⟩
      rw [Int.le_ediv_iff_mul_le hz, h2, Int.zero_mul]
      omega
    · cases h
def spFirstReach : Sp := fun vs H Q _ => ∃ (p : Addr) (v l s g : Int), vs = [.ref p, .int g] ∧ Line H p v l s ∧ -2521728396569246669585858566409191283525103313309788586748690777871726193375821479130513040312634601011624191379636224 < g ∧ g < 2521728396569246669585858566409191283525103313309788586748690777871726193375821479130513040312634601011624191379636224 ∧ Q (optV (fr v l (2 ^ s.toNat) g)) H
def spShowsRun : Sp := fun vs H Q _ => ∃ (p : Addr) (v l s g : Int), vs = [.ref p, .int g] ∧ Line H p v l s ∧ -2521728396569246669585858566409191283525103313309788586748690777871726193375821479130513040312634601011624191379636224 < g ∧ g + 1 < 2521728396569246669585858566409191283525103313309788586748690777871726193375821479130513040312634601011624191379636224 ∧
  (fr v l (2 ^ s.toNat) g = none ∨ fr v l (2 ^ s.toNat) g = fr v l (2 ^ s.toNat) (g + 1) → Q .non H) ∧
  (∀ a, fr v l (2 ^ s.toNat) g = some a → fr v l (2 ^ s.toNat) (g + 1) ≠ some a → ∀ t, H t = none → Q (.ref t) (upd H t (.tup [.int a, lastV (fr v l (2 ^ s.toNat) (g + 1))])))
abbrev sIsInteger : Stmt := topS 7
theorem scIsInteger : FnScope ["thing"] ["thing"] (defScope sIsInteger) := ⟨rfl, rfl, rfl, by decide +kernel, rfl, by decide +kernel, by decide +kernel⟩
set_option maxHeartbeats 2000000 in
theorem ok_IsInteger (D : DefAt K mg "is_integer" sIsInteger ["thing"])  (T : Txt mg) : Cal P w K mg base "is_integer" ["thing"] 1 (spIsInt) := by
  refine D.cal scIsInteger (fun vs H Q E h => (by (obtain ⟨_, rfl, _⟩ := h); rfl)) (fun f cdv A outer s H vs Q E hr h => ?_)
  obtain ⟨x, rfl, q⟩ := h
  refine ⟨_, pss_one (ps_ret (pe_and (pe_callB call_isi (by rfl) T.isinstance (by decide +kernel) (pa_cons (pv 0) (pa_cons (pe_bltn (v := .ty "int") (u := .type "int") (by rfl) T.int (by decide +kernel) rfl) pa_nil))) (pe_one (pe_not (pe_callB call_isi (by rfl) T.isinstance (by decide +kernel) (pa_cons (pv 0) (pa_cons (pe_bltn (v := .ty "bool") (u := .type "bool") (by rfl) T.bool (by decide +kernel) rfl) pa_nil))))))), ?_⟩
  walk_at "go"
  exact q
abbrev sIsWithin : Stmt := topS 8
theorem scIsWithin : FnScope ["thing", "least", "greatest"] ["thing", "least", "greatest"] (defScope sIsWithin) := ⟨rfl, rfl, rfl, by decide +kernel, rfl, by decide +kernel, by decide +kernel⟩
set_option maxHeartbeats 2000000 in
theorem ok_IsWithin (D : DefAt K mg "is_within" sIsWithin ["thing", "least", "greatest"]) (CIsInteger : Cal P w K mg base "is_integer" ["thing"] 1 (spIsInt)) (T : Txt mg) : Cal P w K mg base "is_within" ["thing", "least", "greatest"] 2 (spWithin) := by
  refine D.cal scIsWithin (fun vs H Q E h => (by (obtain ⟨_, _, _, rfl, _⟩ := h); rfl)) (fun f cdv A outer s H vs Q E hr h => ?_)
  obtain ⟨x, l, g, rfl, q⟩ := h
  refine ⟨_, pss_one (ps_ret (pe_and (pe_cal CIsInteger hr (by rfl) (pa_cons (pv 0) pa_nil)) (pe_one (pe_chain op_le op_le (pv 1) (pv 0) (pv 2))))), ?_⟩
  walk_at "go"
  refine ite2 (fun e => ?_) (fun e => ?_)
  · walk_at "go"
    have e1 : l ≤ x := of_decide_eq_true e
    have e2 : (decide (l ≤ x ∧ x ≤ g)) = decide (x ≤ g) := by
      by_cases h : x ≤ g <;> simp [e1, h]
    rw [e2] at q
    exact q
  · have e1 : ¬ l ≤ x := fun h => e (decide_eq_true h)
    rw [decide_eq_false (fun h => e1 h.1)] at q
    exact q
abbrev sIsAtLeast : Stmt := topS 9
theorem scIsAtLeast : FnScope ["thing", "least"] ["thing", "least"] (defScope sIsAtLeast) := ⟨rfl, rfl, rfl, by decide +kernel, rfl, by decide +kernel, by decide +kernel⟩
set_option maxHeartbeats 2000000 in
theorem ok_IsAtLeast (D : DefAt K mg "is_at_least" sIsAtLeast ["thing", "least"]) (CIsInteger : Cal P w K mg base "is_integer" ["thing"] 1 (spIsInt)) (T : Txt mg) : Cal P w K mg base "is_at_least" ["thing", "least"] 2 (spAtLeast) := by
  refine D.cal scIsAtLeast (fun vs H Q E h => (by (obtain ⟨_, _, rfl, _⟩ := h); rfl)) (fun f cdv A outer s H vs Q E hr h => ?_)
  obtain ⟨x, l, rfl, q⟩ := h
  refine ⟨_, pss_one (ps_ret (pe_and (pe_cal CIsInteger hr (by rfl) (pa_cons (pv 0) pa_nil)) (pe_one (pe_cmpR op_ge (pv 0) (pv 1) (nomark _))))), ?_⟩
  walk_at "go"
  exact q
abbrev sCheckCycle : Stmt := topS 10
theorem scCheckCycle : FnScope ["cycle"] ["cycle"] (defScope sCheckCycle) := ⟨rfl, rfl, rfl, by decide +kernel, rfl, by decide +kernel, by decide +kernel⟩
set_option maxHeartbeats 2000000 in
theorem ok_CheckCycle (D : DefAt K mg "check_cycle" sCheckCycle ["cycle"]) (CIsAtLeast : Cal P w K mg base "is_at_least" ["thing", "least"] 2 (spAtLeast)) (T : Txt mg) : Cal P w K mg base "check_cycle" ["cycle"] 3 (spNat) := by
  refine D.cal scCheckCycle (fun vs H Q E h => (by (obtain ⟨_, rfl, _⟩ := h); rfl)) (fun f cdv A outer s H vs Q E hr h => ?_)
  obtain ⟨x, rfl, h0, q⟩ := h
  refine ⟨_, pss_one (ps_if (pt_not (pt_val (pe_cal CIsAtLeast hr (by rfl) (pa_cons (pv 0) (pa_cons pe_int pa_nil)))))
        (pss_one ps_never)
        pss_nil), ?_⟩
  walk_at "go"
  exact q
abbrev sCheckReading : Stmt := topS 11
theorem scCheckReading : FnScope ["reading"] ["reading"] (defScope sCheckReading) := ⟨rfl, rfl, rfl, by decide +kernel, rfl, by decide +kernel, by decide +kernel⟩
set_option maxHeartbeats 2000000 in
theorem ok_CheckReading (D : DefAt K mg "check_reading" sCheckReading ["reading"]) (CIsInteger : Cal P w K mg base "is_integer" ["thing"] 1 (spIsInt)) (T : Txt mg) : Cal P w K mg base "check_reading" ["reading"] 3 (spRdg) := by
  refine D.cal scCheckReading (fun vs H Q E h => (by (obtain ⟨_, rfl, _⟩ := h); rfl)) (fun f cdv A outer s H vs Q E hr h => ?_)
  obtain ⟨x, rfl, q⟩ := h
  refine ⟨_, pss_one (ps_if (pt_not (pt_val (pe_cal CIsInteger hr (by rfl) (pa_cons (pv 0) pa_nil))))
        (pss_one ps_never)
        pss_nil), ?_⟩
  walk_at "go"
  exact q
abbrev sRoundedUp : Stmt := topS 12
theorem scRoundedUp : FnScope ["parts", "unit"] ["parts", "unit"] (defScope sRoundedUp) := ⟨rfl, rfl, rfl, by decide +kernel, rfl, by decide +kernel, by decide +kernel⟩
set_option maxHeartbeats 2000000 in
theorem ok_RoundedUp (D : DefAt K mg "rounded_up" sRoundedUp ["parts", "unit"])  (T : Txt mg) : Cal P w K mg base "rounded_up" ["parts", "unit"] 1 (spUp) := by
  refine D.cal scRoundedUp (fun vs H Q E h => (by (obtain ⟨_, _, rfl, _⟩ := h); rfl)) (fun f cdv A outer s H vs Q E hr h => ?_)
  obtain ⟨x, u, rfl, u0, q⟩ := h
  refine ⟨_, pss_one (ps_ret (pe_un un_neg (pe_op op_fdivW (pe_un un_neg (pv 0)) (pv 1)))), ?_⟩
  walk_at "go"
  exact q
abbrev sCheckLine : Stmt := topS 14
theorem scCheckLine : FnScope ["line", "value", "slope", "shift"] ["line"] (defScope sCheckLine) := ⟨rfl, rfl, rfl, by decide +kernel, rfl, by decide +kernel, by decide +kernel⟩
set_option maxHeartbeats 2000000 in
theorem ok_CheckLine (D : DefAt K mg "check_line" sCheckLine ["line"]) (CIsInteger : Cal P w K mg base "is_integer" ["thing"] 1 (spIsInt)) (CIsAtLeast : Cal P w K mg base "is_at_least" ["thing", "least"] 2 (spAtLeast)) (CIsWithin : Cal P w K mg base "is_within" ["thing", "least", "greatest"] 2 (spWithin)) (T : Txt mg) : Cal P w K mg base "check_line" ["line"] 4 (spLine) := by
  refine D.cal scCheckLine (fun vs H Q E h => (by (obtain ⟨_, _, _, _, rfl, _⟩ := h); rfl)) (fun f cdv A outer s H vs Q E hr h => ?_)
  obtain ⟨p, v, l, s, rfl, ⟨hR, v0, v1, l0, l1, s0, s1⟩, q⟩ := h
  refine ⟨_, pss_cons (ps_if (PW.pt (pw_or (pt_not (pt_val (pe_callB call_isi (by rfl) T.isinstance (by decide +kernel) (pa_cons (pv 0) (pa_cons (pe_bltn (v := .ty "tuple") (u := .type "tuple") (by rfl) T.tuple (by decide +kernel) rfl) pa_nil))))) (pw_or1 (pt_cmpR op_ne (pe_callB call_len_seq (by rfl) T.len PySem.boot_len (pa_cons (pv 0) pa_nil)) pe_int (nomark _)))))
        (pss_one ps_never)
        pss_nil)
      (pss_cons (ps_asg (pv 0) (pg_tup rfl (pgs_cons (pg_name (i := 1) scCheckLine.nd rfl (Or.inl rfl)) (pgs_cons (pg_name (i := 2) scCheckLine.nd rfl (Or.inl rfl)) (pgs_cons (pg_name (i := 3) scCheckLine.nd rfl (Or.inl rfl)) pgs_nil)))))
      (pss_one (ps_if (PW.pt (pw_or (pt_not (pt_val (pe_cal CIsInteger hr (by rfl) (pa_cons (pv 1) pa_nil)))) (pw_or (pt_not (pt_val (pe_cal CIsAtLeast hr (by rfl) (pa_cons (pv 2) (pa_cons pe_int pa_nil))))) (pw_or1 (pt_not (pt_val (pe_cal CIsWithin hr (by rfl) (pa_cons (pv 3) (pa_cons pe_int (pa_cons (pe_gint (by rfl) T.mgMOST_SHIFT) pa_nil))))))))))
        (pss_one ps_never)
        pss_nil))), ?_⟩
  walk_at "go"
  exact q

local macro_rules | `(tactic| walk_at "go1") => `(tactic| refine ⟨_, _, _, _, rfl, ⟨by walk_at "has", by omega, by omega, by omega, by omega, by omega, by omega⟩, ?_⟩)
local macro_rules | `(tactic| walk_at "go1") => `(tactic| refine ⟨_, _, _, _, _, rfl, ⟨by walk_at "has", by omega, by omega, by omega, by omega, by omega, by omega⟩, ?_⟩)
abbrev sLineReading : Stmt := topS 15
theorem scLineReading : FnScope ["line", "cycle", "value", "slope", "shift"] ["line", "cycle"] (defScope sLineReading) := ⟨rfl, rfl, rfl, by decide +kernel, rfl, by decide +kernel, by decide +kernel⟩
set_option maxHeartbeats 2000000 in
theorem ok_LineReading (D : DefAt K mg "line_reading" sLineReading ["line", "cycle"]) (CCheckLine : Cal P w K mg base "check_line" ["line"] 4 (spLine)) (CCheckCycle : Cal P w K mg base "check_cycle" ["cycle"] 3 (spNat)) (T : Txt mg) : Cal P w K mg base "line_reading" ["line", "cycle"] 5 (spLineReading) := by
  refine D.cal scLineReading (fun vs H Q E h => (by (obtain ⟨_, _, _, _, _, rfl, _⟩ := h); rfl)) (fun f cdv A outer s H vs Q E hr h => ?_)
  obtain ⟨p, v, l, s, c, rfl, ⟨hR, v0, v1, l0, l1, s0, s1⟩, c0, c1, q⟩ := h
  refine ⟨_, pss_cons (ps_expr (pe_cal CCheckLine hr (by rfl) (pa_cons (pv 0) pa_nil)))
      (pss_cons (ps_expr (pe_cal CCheckCycle hr (by rfl) (pa_cons (pv 1) pa_nil)))
      (pss_cons (ps_asg (pv 0) (pg_tup rfl (pgs_cons (pg_name (i := 2) scLineReading.nd rfl (Or.inl rfl)) (pgs_cons (pg_name (i := 3) scLineReading.nd rfl (Or.inl rfl)) (pgs_cons (pg_name (i := 4) scLineReading.nd rfl (Or.inl rfl)) pgs_nil)))))
      (pss_one (ps_ret (pe_op op_shr (pe_op op_add (pv 2) (pe_op op_mulE (pv 3) (pv 1))) (pv 4)))))), ?_⟩
  walk_at "go"
  exact q
abbrev sFirstReach : Stmt := topS 16
theorem scFirstReach : FnScope ["line", "reading", "value", "slope", "shift", "parts"] ["line", "reading"] (defScope sFirstReach) := ⟨rfl, rfl, rfl, by decide +kernel, rfl, by decide +kernel, by decide +kernel⟩
set_option maxHeartbeats 2000000 in
theorem ok_FirstReach (D : DefAt K mg "first_reach" sFirstReach ["line", "reading"]) (CCheckLine : Cal P w K mg base "check_line" ["line"] 4 (spLine)) (CCheckReading : Cal P w K mg base "check_reading" ["reading"] 3 (spRdg)) (CRoundedUp : Cal P w K mg base "rounded_up" ["parts", "unit"] 1 (spUp)) (T : Txt mg) : Cal P w K mg base "first_reach" ["line", "reading"] 5 (spFirstReach) := by
  refine D.cal scFirstReach (fun vs H Q E h => (by (obtain ⟨_, _, _, _, _, rfl, _⟩ := h); rfl)) (fun f cdv A outer s H vs Q E hr h => ?_)
  obtain ⟨p, v, l, s, g, rfl, ⟨hR, v0, v1, l0, l1, s0, s1⟩, g0, g1, q⟩ := h
  refine ⟨_, pss_cons (ps_expr (pe_cal CCheckLine hr (by rfl) (pa_cons (pv 0) pa_nil)))
      (pss_cons (ps_expr (pe_cal CCheckReading hr (by rfl) (pa_cons (pv 1) pa_nil)))
      (pss_cons (ps_asg (pv 0) (pg_tup rfl (pgs_cons (pg_name (i := 2) scFirstReach.nd rfl (Or.inl rfl)) (pgs_cons (pg_name (i := 3) scFirstReach.nd rfl (Or.inl rfl)) (pgs_cons (pg_name (i := 4) scFirstReach.nd rfl (Or.inl rfl)) pgs_nil)))))
      (pss_cons (ps_set (i := 5) scFirstReach.nd rfl (Or.inl rfl) (pe_op op_sub (pe_op op_shlE (pv 1) (pv 4)) (pv 2)))
      (pss_cons (ps_if (pt_cmpR op_le (pv 5) pe_int (nomark _))
        (pss_one (ps_ret pe_int))
        pss_nil)
      (pss_one (ps_ret (pe_ifExp (pt_cmpR op_eq (pv 3) pe_int (nomark _)) pe_non (pe_cal CRoundedUp hr (by rfl) (pa_cons (pv 5) (pa_cons (pv 3) pa_nil)))))))))), ?_⟩
  unfold fr at q
  walk_at "go"
  refine ite2 (fun e => ?_) (fun e => ?_)
  · have e1 : g * 2 ^ s.toNat - v ≤ 0 := of_decide_eq_true e
    rw [if_pos e1] at q
    exact q
  · have e1 : ¬ g * 2 ^ s.toNat - v ≤ 0 := fun h => e (decide_eq_true h)
    rw [if_neg e1] at q
    walk_at "go"
    by_cases h : l = 0
    · rw [if_pos h] at q
      refine ifE h ?_
      exact q
    · rw [if_neg h] at q
      refine ifNE h ?_
      walk_at "go"
      exact q
abbrev sShowsRun : Stmt := topS 17
theorem scShowsRun : FnScope ["line", "reading", "first", "past"] ["line", "reading"] (defScope sShowsRun) := ⟨rfl, rfl, rfl, by decide +kernel, rfl, by decide +kernel, by decide +kernel⟩
set_option maxHeartbeats 2000000 in
theorem ok_ShowsRun (D : DefAt K mg "shows_run" sShowsRun ["line", "reading"]) (CFirstReach : Cal P w K mg base "first_reach" ["line", "reading"] 5 (spFirstReach)) (T : Txt mg) : Cal P w K mg base "shows_run" ["line", "reading"] 6 (spShowsRun) := by
  refine D.cal scShowsRun (fun vs H Q E h => (by (obtain ⟨_, _, _, _, _, rfl, _⟩ := h); rfl)) (fun f cdv A outer s H vs Q E hr h => ?_)
  obtain ⟨p, v, l, s, g, rfl, ⟨hR, v0, v1, l0, l1, s0, s1⟩, g0, g1, q1, q2⟩ := h
  refine ⟨_, pss_cons (ps_set (i := 2) scShowsRun.nd rfl (Or.inl rfl) (pe_cal CFirstReach hr (by rfl) (pa_cons (pv 0) (pa_cons (pv 1) pa_nil))))
      (pss_cons (ps_set (i := 3) scShowsRun.nd rfl (Or.inl rfl) (pe_cal CFirstReach hr (by rfl) (pa_cons (pv 0) (pa_cons (pe_op op_add (pv 1) pe_int) pa_nil))))
      (pss_cons (ps_if (PW.pt (pw_or (pt_cmpR op_isN (pv 2) pe_non (nomark _)) (pw_or1 (pt_cmpR op_eq (pv 2) (pv 3) (nomark _)))))
        (pss_one (ps_ret pe_non))
        pss_nil)
      (pss_one (ps_ret (pe_tup (pa_cons (pv 2) (pa_cons (pe_ifExp (pt_cmpR op_isN (pv 3) pe_non (nomark _)) pe_non (pe_op op_sub (pv 3) pe_int)) pa_nil))))))), ?_⟩
  walk_at "go"
  cases e1 : fr v l (2 ^ s.toNat) g with
  | none =>
    rw [e1] at q1
    walk_at "go"
    exact q1 (.inl rfl)
  | some a =>
    rw [e1] at q1 q2
    cases e2 : fr v l (2 ^ s.toNat) (g + 1) with
    | none =>
      rw [e2] at q2
      walk_at "go"
      intro t ht
      exact q2 a rfl (by intro h; cases h) t ht
    | some b =>
      rw [e2] at q1 q2
      walk_at "go"
      by_cases h : a = b
      · refine ifE h ?_
        exact q1 (.inr (by rw [h]))
      · refine ifNE h ?_
        walk_at "go"
        intro t ht
        exact q2 a rfl (by intro h2; cases h2; exact h rfl) t ht

/-! ### far numbers -/
def spFar : Sp := fun vs H Q _ => ∃ (a : Addr), vs = [.ref a] ∧ Src H a ∧ ∀ (r : Int) (H' : Hp), 0 ≤ r → r ≤ 100000000000000000000000000000000000000000000000000 → Dr a H H' → Q (.int r) H'
theorem emod_le {r m : Int} (h0 : 0 ≤ r) (hm : 0 < m) : r % m ≤ r := by
  have h := Int.mul_ediv_add_emod r m
  have h2 : 0 ≤ m * (r / m) := Int.mul_nonneg (Int.le_of_lt hm) (Int.ediv_nonneg h0 (Int.le_of_lt hm))
  omega
theorem five {r g : Int} (h0 : 0 ≤ r) (h1 : r < 5) (h : g < 1000000000 ^ (1 + r).toNat) : g ≤ 100000000000000000000000000000000000000000000000000 := by
  have e : (1 + r).toNat = 1 ∨ (1 + r).toNat = 2 ∨ (1 + r).toNat = 3 ∨ (1 + r).toNat = 4 ∨ (1 + r).toNat = 5 := by omega
  rcases e with e | e | e | e | e <;> rw [e] at h <;> exact Int.le_trans (Int.le_of_lt h) (by decide)
abbrev sLFar : Stmt := topS 23
theorem scLFar : FnScope ["source", "some", "great", "turn"] ["source"] (defScope sLFar) := ⟨rfl, rfl, rfl, by decide +kernel, rfl, by decide +kernel, by decide +kernel⟩
set_option maxHeartbeats 2000000 in
theorem ok_LFar (D : DefAt K mg "_law_far" sLFar ["source"]) (CLNext : Cal P w K mg base "_law_next" ["source", "many"] 2 (spNext)) (T : Txt mg) : Cal P w K mg base "_law_far" ["source"] 3 (spFar) := by
  refine D.cal scLFar (fun vs H Q E h => (by (obtain ⟨_, rfl, _⟩ := h); rfl)) (fun f cdv A outer s H vs Q E hr h => ?_)
  obtain ⟨a, rfl, hS, q⟩ := h
  refine ⟨_, pss_cons (ps_set (i := 1) scLFar.nd rfl (Or.inl rfl) (pe_lst (pa_cons pe_int (pa_cons pe_int (pa_cons (pe_cal CLNext hr (by rfl) (pa_cons (pv 0) (pa_cons pe_int pa_nil))) (pa_cons (pe_op op_powE pe_int pe_int) (pa_cons (pe_op op_sub (pe_op op_powE pe_int pe_int) (pe_cal CLNext hr (by rfl) (pa_cons (pv 0) (pa_cons pe_int pa_nil)))) pa_nil)))))))
      (pss_cons (ps_set (i := 2) scLFar.nd rfl (Or.inl rfl) pe_int)
      (pss_cons (ps_for PassesOwn.never rfl (pi_range1 (by rfl) T.range (pa_cons (pe_op op_add pe_int (pe_cal CLNext hr (by rfl) (pa_cons (pv 0) (pa_cons pe_int pa_nil)))) pa_nil)) (pg_name (i := 3) scLFar.nd rfl (Or.inl rfl))
        (pss_one (ps_set (i := 2) scLFar.nd rfl (Or.inl rfl) (pe_op op_add (pe_op op_mulE (pv 2) (pe_op op_powE pe_int pe_int)) (pe_cal CLNext hr (by rfl) (pa_cons (pv 0) (pa_cons (pe_op op_powE pe_int pe_int) pa_nil)))))))
      (pss_cons (ps_set (i := 1) scLFar.nd rfl (Or.inl rfl) (pe_op op_cat (pv 1) (pe_lst (pa_cons (pv 2) (pa_cons (pv 2) (pa_cons (pv 2) pa_nil))))))
      (pss_one (ps_ret (pe_ix ix_list (pv 1) (pe_cal CLNext hr (by rfl) (pa_cons (pv 0) (pa_cons (pe_callB call_len_seq (by rfl) T.len PySem.boot_len (pa_cons (pv 1) pa_nil)) pa_nil))) (fun _ _ => rfl))))))), ?_⟩
  walk_at "go"
  intro r1 H1 a1 b1 D1
  walk_at "go"
  intro r2 H2 a2 b2 D2
  walk_at "go"
  intro p hp
  have np : p ≠ a := D2.src.ne hp
  walk_at "go"
  have D3 := (D1.trans D2).new (o := .lst [V.int 0, V.int 1, V.int r1, V.int (100000000000000000000000000000000000000000000000000), V.int (100000000000000000000000000000000000000000000000000 - r2)]) hp
  walk_at "go"
  intro r3 H3 a3 b3 D4
  walk_at "go"
  refine for_range (lo := 0) (n := (1 + r3).toNat) (fun i σ H' => ∃ (gr : Int) (v3 : Option V), σ = [some (.ref a), some (.ref p), some (.int gr), v3] ∧ 0 ≤ gr ∧ gr < 1000000000 ^ i ∧ Dr a H H' ∧ H' p = some (.lst [V.int 0, V.int 1, V.int r1, V.int (100000000000000000000000000000000000000000000000000), V.int (100000000000000000000000000000000000000000000000000 - r2)]))
    ⟨0, none, rfl, by omega, by decide, D3.trans D4, D4.at np upd_same⟩ (fun i σ H5 hi ⟨gr, v3, e, g0, g1, D5, hP⟩ => ?_) (fun σ H5 ⟨gr, v3, e, g0, g1, D5, hP⟩ => ?_)
  · subst e
    walk_at "go"
    intro r6 H6 a6 b6 D6
    walk_at "go"
    exact ⟨D5.trans D6, D6.at np hP⟩
  · subst e
    walk_at "go"
    intro p2 hp2
    walk_at "go"
    intro p3 hp3
    walk_at "go"
    have np3 : p3 ≠ a := (D5.new hp2).src.ne hp3
    intro r7 H7 a7 b7 D7
    have D8 := ((D5.new hp2).new hp3).trans D7
    have hall : AllI (fun i => 0 ≤ i ∧ i ≤ 100000000000000000000000000000000000000000000000000) ([V.int 0, V.int 1, V.int r1, V.int (100000000000000000000000000000000000000000000000000), V.int (100000000000000000000000000000000000000000000000000 - r2)] ++ [V.int gr, V.int gr, V.int gr]) := by
      have hg := five a3 b3 g1
      exact .cons ⟨by omega, by omega⟩ (.cons ⟨by omega, by omega⟩ (.cons ⟨by omega, by omega⟩ (.cons ⟨by omega, by omega⟩ (.cons ⟨by omega, by omega⟩ (.cons ⟨by omega, by omega⟩ (.cons ⟨by omega, by omega⟩ (.cons ⟨by omega, by omega⟩ .nil)))))))
    obtain ⟨i, ei, i0, i1⟩ := hall.pick a7 b7
    refine ⟨_, _, _, _, rfl, rfl, SqL.of (D7.at np3 upd_same), ei, ?_⟩
    exact q _ _ i0 i1 D8

/-! ### far cycles, far lines -/
def spCycle : Sp := fun vs H Q _ => ∃ (a : Addr) (m : Int), vs = [.ref a, .int m] ∧ Src H a ∧ 0 ≤ m ∧ m ≤ 1000000000000000000000000000000000000000000000000000 ∧ ∀ (r : Int) (H' : Hp), 0 ≤ r → r ≤ 100000000000000000000000000000000000000000000000000 → r * (m + 1) ≤ 11000000000000000000000000000000000000000000000000000000000 → Dr a H H' → Q (.int r) H'
theorem cyc_ok {r m : Int} (h0 : 0 ≤ m) (hm : m ≤ 1000000000000000000000000000000000000000000000000000) (h1 : r < 10000000000000000000000000000000000000000000000000000000000 / (m + 1) + 1) : r * (m + 1) ≤ 11000000000000000000000000000000000000000000000000000000000 := by
  have h2 : 10000000000000000000000000000000000000000000000000000000000 / (m + 1) * (m + 1) ≤ 10000000000000000000000000000000000000000000000000000000000 := Int.ediv_mul_le _ (by omega)
  have h3 : r * (m + 1) ≤ 10000000000000000000000000000000000000000000000000000000000 / (m + 1) * (m + 1) := Int.mul_le_mul_of_nonneg_right (by omega) (by omega)
  omega
abbrev sLCycle : Stmt := topS 24
theorem scLCycle : FnScope ["source", "slope"] ["source", "slope"] (defScope sLCycle) := ⟨rfl, rfl, rfl, by decide +kernel, rfl, by decide +kernel, by decide +kernel⟩
set_option maxHeartbeats 2000000 in
theorem ok_LCycle (D : DefAt K mg "_law_cycle" sLCycle ["source", "slope"]) (CLFar : Cal P w K mg base "_law_far" ["source"] 3 (spFar)) (T : Txt mg) : Cal P w K mg base "_law_cycle" ["source", "slope"] 4 (spCycle) := by
  refine D.cal scLCycle (fun vs H Q E h => (by (obtain ⟨_, _, rfl, _⟩ := h); rfl)) (fun f cdv A outer s H vs Q E hr h => ?_)
  obtain ⟨a, m, rfl, hS, m0, m1, q⟩ := h
  refine ⟨_, pss_one (ps_ret (pe_op op_mod (pe_callTy call_int1 (by rfl) T.int (by decide +kernel) (pa_cons (pe_cal CLFar hr (by rfl) (pa_cons (pv 0) pa_nil)) pa_nil)) (pe_op op_add (pe_op op_fdivW (pe_op op_powE pe_int pe_int) (pe_op op_add (pv 1) pe_int)) pe_int))), ?_⟩
  walk_at "go"
  intro r H1 r0 r1 D1
  have hd : (0 : Int) ≤ 10000000000000000000000000000000000000000000000000000000000 / (m + 1) := Int.ediv_nonneg (by decide) (by omega)
  walk_at "go"
  have hp : (0 : Int) < 10000000000000000000000000000000000000000000000000000000000 / (m + 1) + 1 := by omega
  have hx := Int.emod_lt_of_pos r hp
  refine q _ _ (Int.emod_nonneg _ (by omega)) (Int.le_trans ?_ r1) (cyc_ok m0 m1 hx) D1
  exact emod_le r0 hp
theorem shl_one {s : Int} (h0 : 0 ≤ s) (h1 : s ≤ 64) : (2 : Int) ^ s.toNat ≤ 18446744073709551616 := by
  have h : s.toNat ≤ 64 := by omega
  have := Nat.pow_le_pow_right (n := 2) (by decide) h
  rw [← PySem.W.kbt_cast]
  omega
/-- a far line: its value, slope, shift -/
structure FarL (v l s : Int) : Prop where
  v0 : -1844674407370955161600000000000000000000000000000000000000000000000000 ≤ v
  v1 : v ≤ 1844674407370955161600000000000000000000000000000000000000000000000000
  l0 : 0 ≤ l
  l1 : l ≤ 100000000000000000000000000000000000000000000000000
  s0 : 0 ≤ s
  s1 : s ≤ 64
def spLawLine : Sp := fun vs H Q _ => ∃ (a : Addr), vs = [.ref a] ∧ Src H a ∧ ∀ (p : Addr) (v l s : Int) (H' : Hp), Dr a H H' → H p = none → p ≠ a → H' p = some (.tup [.int v, .int l, .int s]) → FarL v l s → Q (.ref p) H'
theorem mul_small {x m a b : Int} (x0 : -a ≤ x) (x1 : x ≤ a) (a0 : 0 ≤ a) (m0 : 1 ≤ m) (m1 : m ≤ b) : -(a * b) ≤ x * m ∧ x * m ≤ a * b := by
  have h1 : x * m ≤ a * m := Int.mul_le_mul_of_nonneg_right x1 (by omega)
  have h2 : -a * m ≤ x * m := Int.mul_le_mul_of_nonneg_right x0 (by omega)
  have h3 : a * m ≤ a * b := Int.mul_le_mul_of_nonneg_left m1 a0
  rw [Int.neg_mul] at h2
  omega
abbrev sLLine : Stmt := topS 25
theorem scLLine : FnScope ["source", "bits", "start"] ["source"] (defScope sLLine) := ⟨rfl, rfl, rfl, by decide +kernel, rfl, by decide +kernel, by decide +kernel⟩
set_option maxHeartbeats 2000000 in
theorem ok_LLine (D : DefAt K mg "_law_line" sLLine ["source"]) (CLNext : Cal P w K mg base "_law_next" ["source", "many"] 2 (spNext)) (CLFar : Cal P w K mg base "_law_far" ["source"] 3 (spFar)) (T : Txt mg) : Cal P w K mg base "_law_line" ["source"] 4 (spLawLine) := by
  refine D.cal scLLine (fun vs H Q E h => (by (obtain ⟨_, rfl, _⟩ := h); rfl)) (fun f cdv A outer s H vs Q E hr h => ?_)
  obtain ⟨a, rfl, hS, q⟩ := h
  refine ⟨_, pss_cons (ps_set (i := 1) scLLine.nd rfl (Or.inl rfl) (pe_ix ix_list (pe_lst (pa_cons pe_int (pa_cons pe_int (pa_cons pe_int (pa_cons pe_int (pa_cons pe_int (pa_cons pe_int (pa_cons (pe_cal CLNext hr (by rfl) (pa_cons (pv 0) (pa_cons pe_int pa_nil))) pa_nil)))))))) (pe_cal CLNext hr (by rfl) (pa_cons (pv 0) (pa_cons pe_int pa_nil))) (fun _ _ => rfl)))
      (pss_cons (ps_set (i := 2) scLLine.nd rfl (Or.inl rfl) (pe_op op_mulE (pe_op op_sub (pe_cal CLFar hr (by rfl) (pa_cons (pv 0) pa_nil)) (pe_cal CLFar hr (by rfl) (pa_cons (pv 0) pa_nil))) (pe_ix ix_list (pe_lst (pa_cons pe_int (pa_cons pe_int (pa_cons (pe_op op_shlE pe_int (pv 1)) pa_nil)))) (pe_cal CLNext hr (by rfl) (pa_cons (pv 0) (pa_cons pe_int pa_nil))) (fun _ _ => rfl))))
      (pss_one (ps_ret (pe_tup (pa_cons (pv 2) (pa_cons (pe_ix ix_list (pe_lst (pa_cons (pe_cal CLNext hr (by rfl) (pa_cons (pv 0) (pa_cons pe_int pa_nil))) (pa_cons (pe_cal CLFar hr (by rfl) (pa_cons (pv 0) pa_nil)) (pa_cons (pe_cal CLNext hr (by rfl) (pa_cons (pv 0) (pa_cons (pe_op op_shlE pe_int pe_int) pa_nil))) pa_nil)))) (pe_cal CLNext hr (by rfl) (pa_cons (pv 0) (pa_cons pe_int pa_nil))) (fun _ _ => rfl)) (pa_cons (pv 1) pa_nil))))))), ?_⟩
  walk_at "go"
  intro r1 H1 a1 b1 D1
  walk_at "go"
  intro L hL
  have nL : L ≠ a := D1.src.ne hL
  walk_at "go"
  intro r2 H2 a2 b2 D2
  obtain ⟨s, es, s0, s1⟩ := (AllI.cons ⟨by omega, by omega⟩ (.cons ⟨by omega, by omega⟩ (.cons ⟨by omega, by omega⟩ (.cons ⟨by omega, by omega⟩ (.cons ⟨by omega, by omega⟩ (.cons ⟨by omega, by omega⟩ (.cons ⟨by omega, by omega⟩ .nil)))))) : AllI (fun i => 0 ≤ i ∧ i ≤ 64) [V.int 0, V.int 1, V.int 2, V.int 5, V.int 32, V.int 64, V.int r1]).pick a2 b2
  walk_at "go"
  refine ⟨_, _, _, _, rfl, rfl, SqL.of (D2.at nL upd_same), es, ?_⟩
  have hz := pos_pow s.toNat
  have hz1 := shl_one s0 s1
  walk_at "go"
  intro f1 H3 a3 b3 D3
  walk_at "go"
  intro f2 H4 a4 b4 D4
  walk_at "go"
  intro M hM
  have nM : M ≠ a := D4.src.ne hM
  walk_at "go"
  intro r3 H5 a5 b5 D5
  obtain ⟨m, em, m0, m1⟩ := (AllI.cons ⟨by omega, by omega⟩ (.cons ⟨by omega, by omega⟩ (.cons ⟨by omega, by omega⟩ .nil)) : AllI (fun i => 1 ≤ i ∧ i ≤ 18446744073709551616) [V.int 1, V.int 1, V.int (2 ^ s.toNat)]).pick a5 b5
  walk_at "go"
  refine ⟨_, _, _, _, rfl, rfl, SqL.of (D5.at nM upd_same), em, ?_⟩
  have hv := mul_small (x := f1 - f2) (m := m) (a := 100000000000000000000000000000000000000000000000000) (b := 18446744073709551616) (by omega) (by omega) (by decide) m0 m1
  walk_at "go"
  intro r4 H6 a6 b6 D6
  walk_at "go"
  intro f3 H7 a7 b7 D7
  walk_at "go"
  intro r5 H8 a8 b8 D8
  walk_at "go"
  intro N hN
  have nN : N ≠ a := D8.src.ne hN
  walk_at "go"
  intro r6 H9 a9 b9 D9
  obtain ⟨l, el, l0, l1⟩ := (AllI.cons ⟨by omega, by omega⟩ (.cons ⟨by omega, by omega⟩ (.cons ⟨by omega, by omega⟩ .nil)) : AllI (fun i => 0 ≤ i ∧ i ≤ 100000000000000000000000000000000000000000000000000) [V.int r4, V.int f3, V.int r5]).pick a9 b9
  walk_at "go"
  refine ⟨_, _, _, _, rfl, rfl, SqL.of (D9.at nN upd_same), el, ?_⟩
  walk_at "go"
  intro t ht
  have Dx := (((((((((D1.new hL).trans D2).trans D3).trans D4).new hM).trans D5).trans D6).trans D7).trans D8)
  have Dy := (Dx.new hN).trans D9
  exact q t _ _ _ _ (Dy.new ht) (Dy.free ht) (Dy.src.ne ht) upd_same ⟨by omega, by omega, l0, l1, s0, s1⟩

/-! ### found by doubling and halving -/
theorem fr_zero {v l z g : Int} (hz : 0 < z) (h : g ≤ v / z) : fr v l z g = some 0 := by
  rw [Int.le_ediv_iff_mul_le hz] at h
  unfold fr
  rw [if_pos (by omega)]
theorem fr_non {v l z g : Int} (hz : 0 < z) (h : ¬ g ≤ v / z) (hl : l = 0) : fr v l z g = none := by
  rw [Int.le_ediv_iff_mul_le hz] at h
  unfold fr
  rw [if_neg (by omega), if_pos hl]
theorem fr_pos {v l z g : Int} (hz : 0 < z) (h : ¬ g ≤ v / z) (hl : 0 < l) : ∃ a, fr v l z g = some a ∧ 1 ≤ a ∧ a ≤ g * z - v := by
  have h2 := h
  rw [Int.le_ediv_iff_mul_le hz] at h
  refine ⟨-(-(g * z - v) / l), ?_, ?_, ?_⟩
  · unfold fr
    rw [if_neg (by omega), if_neg (by omega)]
  · have := Int.ediv_lt_of_lt_mul (a := -(g * z - v)) (b := 0) hl (by omega)
    omega
  · have h3 : -(g * z - v) ≤ -(g * z - v) / l := by
      refine Int.le_ediv_of_mul_le hl ?_
      have : (g * z - v) * 1 ≤ (g * z - v) * l := Int.mul_le_mul_of_nonneg_left (by omega) (by omega)
      rw [Int.neg_mul]
      omega
    omega
def spLeast : Sp := fun vs H Q _ => ∃ (p : Addr) (v l s g : Int), vs = [.ref p, .int g] ∧ H p = some (.tup [.int v, .int l, .int s]) ∧ -2037035976334486086268445688409378161051468393665936250636140449354381299763336706183397376 < v ∧ v < 2037035976334486086268445688409378161051468393665936250636140449354381299763336706183397376 ∧ 0 ≤ l ∧ l < 2037035976334486086268445688409378161051468393665936250636140449354381299763336706183397376 ∧ 0 ≤ s ∧ s ≤ 64 ∧ -2037035976334486086268445688409378161051468393665936250636140449354381299763336706183397376 < g ∧ g < 2037035976334486086268445688409378161051468393665936250636140449354381299763336706183397376 ∧ Q (optV (fr v l (2 ^ s.toNat) g)) H
abbrev sLLeast : Stmt := topS 26
theorem scLLeast : FnScope ["row", "goal", "high", "low", "middle"] ["row", "goal"] (defScope sLLeast) := ⟨rfl, rfl, rfl, by decide +kernel, rfl, by decide +kernel, by decide +kernel⟩
set_option maxHeartbeats 2000000 in
theorem ok_LLeast (D : DefAt K mg "_law_least" sLLeast ["row", "goal"])  (T : Txt mg) : Cal P w K mg base "_law_least" ["row", "goal"] 1 (spLeast) := by
  refine D.cal scLLeast (fun vs H Q E h => (by (obtain ⟨_, _, _, _, _, rfl, _⟩ := h); rfl)) (fun f cdv A outer s H vs Q E hr h => ?_)
  obtain ⟨p, v, l, s, g, rfl, hP, v0, v1, l0, l1, s0, s1, g0, g1, q⟩ := h
  refine ⟨_, pss_cons (ps_if (pt_cmpR op_ge (pe_op op_fdivW (pe_ix ix_tup (pv 0) pe_int (fun _ _ => rfl)) (pe_op op_shlE pe_int (pe_ix ix_tup (pv 0) pe_int (fun _ _ => rfl)))) (pv 1) (nomark _))
        (pss_one (ps_ret pe_int))
        pss_nil)
      (pss_cons (ps_if (pt_cmpR op_eq (pe_ix ix_tup (pv 0) pe_int (fun _ _ => rfl)) pe_int (nomark _))
        (pss_one (ps_ret pe_non))
        pss_nil)
      (pss_cons (ps_set (i := 2) scLLeast.nd rfl (Or.inl rfl) pe_int)
      (pss_cons (ps_while PassesOwn.never (pt_cmpR op_lt (pe_op op_fdivW (pe_op op_add (pe_ix ix_tup (pv 0) pe_int (fun _ _ => rfl)) (pe_op op_mulE (pe_ix ix_tup (pv 0) pe_int (fun _ _ => rfl)) (pv 2))) (pe_op op_shlE pe_int (pe_ix ix_tup (pv 0) pe_int (fun _ _ => rfl)))) (pv 1) (nomark _))
        (pss_one (ps_set (i := 2) scLLeast.nd rfl (Or.inl rfl) (pe_op op_mulE (pv 2) pe_int))))
      (pss_cons (ps_set (i := 3) scLLeast.nd rfl (Or.inl rfl) (pe_op op_fdivW (pv 2) pe_int))
      (pss_cons (ps_while PassesOwn.never (pt_cmpR op_gt (pe_op op_sub (pv 2) (pv 3)) pe_int (nomark _))
        (pss_cons (ps_set (i := 4) scLLeast.nd rfl (Or.inl rfl) (pe_op op_fdivW (pe_op op_add (pv 3) (pv 2)) pe_int))
        (pss_one (ps_if (pt_cmpR op_lt (pe_op op_fdivW (pe_op op_add (pe_ix ix_tup (pv 0) pe_int (fun _ _ => rfl)) (pe_op op_mulE (pe_ix ix_tup (pv 0) pe_int (fun _ _ => rfl)) (pv 4))) (pe_op op_shlE pe_int (pe_ix ix_tup (pv 0) pe_int (fun _ _ => rfl)))) (pv 1) (nomark _))
          (pss_one (ps_set (i := 3) scLLeast.nd rfl (Or.inl rfl) (pv 4)))
          (pss_one (ps_set (i := 2) scLLeast.nd rfl (Or.inl rfl) (pv 4)))))))
      (pss_one (ps_ret (pv 2)))))))), ?_⟩
  have hz := pos_pow s.toNat
  have hz1 := shl_one s0 s1
  walk_at "go"
  refine ite2 (fun e => ?_) (fun e => ?_)
  · have e1 : g ≤ v / 2 ^ s.toNat := of_decide_eq_true e
    rw [fr_zero hz e1] at q
    exact q
  · have e1 : ¬ g ≤ v / 2 ^ s.toNat := fun h => e (decide_eq_true h)
    walk_at "go"
    by_cases hl : l = 0
    · rw [fr_non hz e1 hl] at q
      refine ifE hl ?_
      exact q
    · refine ifNE hl ?_
      obtain ⟨a, ea, a0, a1⟩ := fr_pos hz e1 (show 0 < l by omega)
      obtain ⟨_, fa⟩ := fr_some hz l0 ea
      rw [ea] at q
      have hg := mul_small (x := g) (m := 2 ^ s.toNat) (a := 2037035976334486086268445688409378161051468393665936250636140449354381299763336706183397376) (b := 18446744073709551616) (by omega) (by omega) (by decide) (by omega) hz1
      have a2 : a < 2462625387274654950767440006258975862817483704404090416746768337765357610718575663213391640930307227550414249394176 := by omega
      walk_at "go"
      refine while_m (fun m σ H' => ∃ h : Int, σ = [some (.ref p), some (.int g), some (.int h), none, none] ∧ H' = H ∧ 1 ≤ h ∧ h < 2 * a ∧ m = (a - h).toNat) ⟨1, rfl, rfl, by omega, by omega, rfl⟩ (fun m σ H' ⟨h, e, eH, h0, h1, em⟩ Bt hB => ?_)
      subst e eH
      walk_at "go"
      refine ite2 (fun e => ?_) (fun e => ?_)
      · have e2 : ¬ g ≤ (v + l * h) / 2 ^ s.toNat := by
          have : (v + l * h) / 2 ^ s.toNat < g := of_decide_eq_true e
          omega
        rw [fa h (by omega)] at e2
        refine hB _ ?_
        walk_at "go"
        exact ⟨_, by omega, _, rfl, rfl, by omega, by omega, rfl⟩
      · have e2 : g ≤ (v + l * h) / 2 ^ s.toNat := by
          have : ¬ (v + l * h) / 2 ^ s.toNat < g := fun h => e (decide_eq_true h)
          omega
        rw [fa h (by omega)] at e2
        walk_at "go"
        refine while_m (fun m σ H'' => ∃ lo hi : Int, ∃ v4 : Option V, σ = [some (.ref p), some (.int g), some (.int hi), some (.int lo), v4] ∧ H'' = H' ∧ 0 ≤ lo ∧ lo < a ∧ a ≤ hi ∧ hi < 2 * a ∧ m = (hi - lo).toNat) ⟨_, _, _, rfl, rfl, by omega, by omega, by omega, by omega, rfl⟩ (fun m σ H'' ⟨lo, hi, v4, e, eH, l0, l1, h2, h3, em⟩ Bt hB => ?_)
        subst e eH
        walk_at "go"
        refine ite2 (fun e => ?_) (fun e => ?_)
        · have e3 : 1 < hi - lo := of_decide_eq_true e
          refine hB _ ?_
          walk_at "go"
          refine ite2 (fun e => ?_) (fun e => ?_)
          · have e4 : ¬ g ≤ (v + l * ((lo + hi) / 2)) / 2 ^ s.toNat := by
              have : (v + l * ((lo + hi) / 2)) / 2 ^ s.toNat < g := of_decide_eq_true e
              omega
            rw [fa _ (by omega)] at e4
            walk_at "go"
            exact ⟨_, by omega, _, _, _, rfl, rfl, by omega, by omega, by omega, by omega, rfl⟩
          · have e4 : g ≤ (v + l * ((lo + hi) / 2)) / 2 ^ s.toNat := by
              have : ¬ (v + l * ((lo + hi) / 2)) / 2 ^ s.toNat < g := fun h => e (decide_eq_true h)
              omega
            rw [fa _ (by omega)] at e4
            walk_at "go"
            exact ⟨_, by omega, _, _, _, rfl, rfl, by omega, by omega, by omega, by omega, rfl⟩
        · have e3 : ¬ 1 < hi - lo := fun h => e (decide_eq_true h)
          walk_at "go"
          rw [show hi = a by omega]
          exact q
def spRun : Sp := fun vs H Q _ => ∃ (p : Addr) (v l s g : Int), vs = [.ref p, .int g] ∧ H p = some (.tup [.int v, .int l, .int s]) ∧ -2037035976334486086268445688409378161051468393665936250636140449354381299763336706183397376 < v ∧ v < 2037035976334486086268445688409378161051468393665936250636140449354381299763336706183397376 ∧ 0 ≤ l ∧ l < 2037035976334486086268445688409378161051468393665936250636140449354381299763336706183397376 ∧ 0 ≤ s ∧ s ≤ 64 ∧ -2037035976334486086268445688409378161051468393665936250636140449354381299763336706183397376 < g ∧ g + 1 < 2037035976334486086268445688409378161051468393665936250636140449354381299763336706183397376 ∧
  (fr v l (2 ^ s.toNat) g = none ∨ fr v l (2 ^ s.toNat) g = fr v l (2 ^ s.toNat) (g + 1) → Q .non H) ∧
  (∀ a, fr v l (2 ^ s.toNat) g = some a → fr v l (2 ^ s.toNat) (g + 1) ≠ some a → ∀ H' t, Same H H' → H' t = some (.tup [.int a, lastV (fr v l (2 ^ s.toNat) (g + 1))]) → Q (.ref t) H')

abbrev sLRun : Stmt := topS 27
theorem scLRun : FnScope ["row", "goal", "first", "behind"] ["row", "goal"] (defScope sLRun) := ⟨rfl, rfl, rfl, by decide +kernel, rfl, by decide +kernel, by decide +kernel⟩
set_option maxHeartbeats 2000000 in
theorem ok_LRun (D : DefAt K mg "_law_run" sLRun ["row", "goal"]) (CLLeast : Cal P w K mg base "_law_least" ["row", "goal"] 1 (spLeast)) (T : Txt mg) : Cal P w K mg base "_law_run" ["row", "goal"] 2 (spRun) := by
  refine D.cal scLRun (fun vs H Q E h => (by (obtain ⟨_, _, _, _, _, rfl, _⟩ := h); rfl)) (fun f cdv A outer s H vs Q E hr h => ?_)
  obtain ⟨p, v, l, s, g, rfl, hP, v0, v1, l0, l1, s0, s1, g0, g1, q1, q2⟩ := h
  refine ⟨_, pss_cons (ps_par (i := 2) (j := 3) (by rfl) scLRun.nd rfl rfl (by decide) rfl rfl (pa_cons (pe_cal CLLeast hr (by rfl) (pa_cons (pv 0) (pa_cons (pv 1) pa_nil))) (pa_cons (pe_cal CLLeast hr (by rfl) (pa_cons (pv 0) (pa_cons (pe_op op_add (pv 1) pe_int) pa_nil))) pa_nil)) (by rfl))
      (pss_cons (ps_if (PW.pt (pw_or (pt_cmpR op_isN (pv 2) pe_non (nomark _)) (pw_or1 (pt_cmpR op_eq (pv 2) (pv 3) (nomark _)))))
        (pss_one (ps_ret pe_non))
        pss_nil)
      (pss_one (ps_ret (pe_tup (pa_cons (pv 2) (pa_cons (pe_ifExp (pt_cmpR op_isN (pv 3) pe_non (nomark _)) pe_non (pe_op op_sub (pv 3) pe_int)) pa_nil)))))), ?_⟩
  walk_at "go"
  refine ⟨p, _, _, _, _, rfl, hP, v0, v1, l0, l1, s0, s1, by omega, by omega, ?_⟩
  walk_at "go"
  refine ⟨p, _, _, _, _, rfl, hP, v0, v1, l0, l1, s0, s1, by omega, by omega, ?_⟩
  walk_at "go"
  cases e1 : fr v l (2 ^ s.toNat) g with
  | none =>
    rw [e1] at q1
    walk_at "go"
    exact q1 (.inl rfl)
  | some a =>
    rw [e1] at q1 q2
    cases e2 : fr v l (2 ^ s.toNat) (g + 1) with
    | none =>
      rw [e2] at q2
      walk_at "go"
      intro t ht
      exact q2 a rfl (by intro h; cases h) _ t (same_upd ht) upd_same
    | some b =>
      rw [e2] at q1 q2
      walk_at "go"
      by_cases h : a = b
      · refine ifE h ?_
        exact q1 (.inr (by rw [h]))
      · refine ifNE h ?_
        walk_at "go"
        intro t ht
        exact q2 a rfl (by intro h2; cases h2; exact h rfl) _ t (same_upd ht) upd_same

def spRight : Sp := fun vs H Q _ => ∃ (a : Addr), vs = [.ref a] ∧ Src H a ∧ ∀ (H' : Hp), Dr a H H' → Q (.bl true) H'
def spLaw (K : PySem.W.Frag) : Sp := fun vs H Q _ => ∃ (a : Addr) (ns : List Int), vs = [.ref a] ∧ SqL K H a (ns.map V.int) ∧ ns.length ≤ 63 ∧ ∀ H', Q (.bl true) H'
theorem div_abs {x z X : Int} (hz : 0 < z) (h0 : -X ≤ x) (h1 : x ≤ X) (hX : 0 ≤ X) : -X ≤ x / z ∧ x / z ≤ X := by
  constructor
  · refine Int.le_ediv_of_mul_le hz ?_
    have : X * 1 ≤ X * z := Int.mul_le_mul_of_nonneg_left (by omega) hX
    rw [Int.neg_mul]
    omega
  · have h2 : x / z < X + 1 := by
      refine Int.ediv_lt_of_lt_mul hz ?_
      have : (X + 1) * 1 ≤ (X + 1) * z := Int.mul_le_mul_of_nonneg_left (by omega) (by omega)
      omega
    omega
theorem at_small {c l : Int} (x0 : 0 ≤ c) (l0 : 0 ≤ l) (x2 : c * (l + 1) ≤ 11000000000000000000000000000000000000000000000000000000000) : 0 ≤ l * c ∧ l * c ≤ 11000000000000000000000000000000000000000000000000000000000 := by
  rw [Int.mul_add, Int.mul_one, Int.mul_comm] at x2
  have := Int.mul_nonneg l0 x0
  omega
theorem scal_opt (o : Option Int) : scal (optV o) (optV o) = true := by cases o <;> rfl
/-- the last cycle of a run, as data -/
theorem dp_last {K : PySem.W.Frag} (o : Option Int) : ∃ d, ∀ H : Hp, Dp K H (lastV o) d ∧ (∀ b : Int, SeqAt.shaped (.tuple [.int b, d]) = true) ∧ ∀ b : Int, PyData.eqv (.tuple [.int b, d]) (.tuple [.int b, d]) = true := by
  cases o with
  | none => exact ⟨.none, fun H => ⟨.non, fun b => rfl, fun b => by simp [PyData.eqv, PyData.eqvAll]⟩⟩
  | some i => exact ⟨.int (i - 1), fun H => ⟨.int _, fun b => rfl, fun b => by simp [PyData.eqv, PyData.eqvAll]⟩⟩
def rd (v l z : Int) (c : Int) : Int := (v + l * c) / z
abbrev sLRight : Stmt := topS 28
theorem scLRight : FnScope ["source", "row", "some", "goals", "at", "near", "goal"] ["source"] (defScope sLRight) := ⟨rfl, rfl, rfl, by decide +kernel, rfl, by decide +kernel, by decide +kernel⟩
set_option maxHeartbeats 2000000 in
theorem ok_LRight (D : DefAt K mg "_law_right" sLRight ["source"]) (CLLine : Cal P w K mg base "_law_line" ["source"] 4 (spLawLine)) (CLCycle : Cal P w K mg base "_law_cycle" ["source", "slope"] 4 (spCycle)) (CLFar : Cal P w K mg base "_law_far" ["source"] 3 (spFar)) (CLineReading : Cal P w K mg base "line_reading" ["line", "cycle"] 5 (spLineReading)) (CFirstReach : Cal P w K mg base "first_reach" ["line", "reading"] 5 (spFirstReach)) (CLLeast : Cal P w K mg base "_law_least" ["row", "goal"] 1 (spLeast)) (CShowsRun : Cal P w K mg base "shows_run" ["line", "reading"] 6 (spShowsRun)) (CLRun : Cal P w K mg base "_law_run" ["row", "goal"] 2 (spRun)) (CLNext : Cal P w K mg base "_law_next" ["source", "many"] 2 (spNext)) (T : Txt mg) : Cal P w K mg base "_law_right" ["source"] 7 (spRight) := by
  refine D.cal scLRight (fun vs H Q E h => (by (obtain ⟨_, rfl, _⟩ := h); rfl)) (fun f cdv A outer s H vs Q E hr h => ?_)
  obtain ⟨a, rfl, hS, q⟩ := h
  refine ⟨_, pss_cons (ps_set (i := 1) scLRight.nd rfl (Or.inr rfl) (pe_cal CLLine hr (by rfl) (pa_cons (pv 0) pa_nil)))
      (pss_cons (ps_set (i := 2) scLRight.nd rfl (Or.inl rfl) (pe_lst (pa_cons pe_int (pa_cons (pe_cal CLCycle hr (by rfl) (pa_cons (pv 0) (pa_cons (pe_ix ix_tup (pv 1) pe_int (fun _ _ => rfl)) pa_nil))) (pa_cons (pe_cal CLCycle hr (by rfl) (pa_cons (pv 0) (pa_cons (pe_ix ix_tup (pv 1) pe_int (fun _ _ => rfl)) pa_nil))) pa_nil)))))
      (pss_cons (ps_if (pt_cmpR (op_neIL hr.units) (pe_lc (own := [("at", 4)]) (g := gName 4) (tt := tYes) rfl scLRight.nd (pi_list (pv 2)) (blkOk_by (own := [("at", 4)]) (N := ["source", "row", "some", "goals", "at", "near", "goal"]) (sc := defScope sLRight) (by decide +kernel)) (fun _ _ _ _ _ => pg_name (i := 4) scLRight.nd rfl (Or.inl rfl)) (fun _ _ _ _ _ => pts_nil) (fun _ _ _ _ _ => (pe_cal CLineReading hr (by rfl) (pa_cons (pv 1) (pa_cons (pv 4) pa_nil))))) (pe_lc (own := [("at", 4)]) (g := gName 4) (tt := tYes) rfl scLRight.nd (pi_list (pv 2)) (blkOk_by (own := [("at", 4)]) (N := ["source", "row", "some", "goals", "at", "near", "goal"]) (sc := defScope sLRight) (by decide +kernel)) (fun _ _ _ _ _ => pg_name (i := 4) scLRight.nd rfl (Or.inl rfl)) (fun _ _ _ _ _ => pts_nil) (fun _ _ _ _ _ => (pe_op op_fdivW (pe_op op_add (pe_ix (ix_tupK (K := K)) (pv 1) pe_int (fun _ _ => rfl)) (pe_op op_mulE (pe_ix (ix_tupK (K := K)) (pv 1) pe_int (fun _ _ => rfl)) (pv 4))) (pe_op op_shlE pe_int (pe_ix (ix_tupK (K := K)) (pv 1) pe_int (fun _ _ => rfl)))))) (nomark _))
        (pss_one (ps_ret pe_bl))
        pss_nil)
      (pss_cons (ps_set (i := 3) scLRight.nd rfl (Or.inl rfl) (pe_lst (pa_cons (pe_cal CLFar hr (by rfl) (pa_cons (pv 0) pa_nil)) (pa_cons (pe_un un_neg (pe_cal CLFar hr (by rfl) (pa_cons (pv 0) pa_nil))) pa_nil))))
      (pss_cons (ps_for PassesOwn.never rfl (pi_list (pv 2)) (pg_name (i := 4) scLRight.nd rfl (Or.inl rfl))
        (pss_cons (ps_set (i := 5) scLRight.nd rfl (Or.inl rfl) (pe_op op_fdivW (pe_op op_add (pe_ix ix_tup (pv 1) pe_int (fun _ _ => rfl)) (pe_op op_mulE (pe_ix ix_tup (pv 1) pe_int (fun _ _ => rfl)) (pv 4))) (pe_op op_shlE pe_int (pe_ix ix_tup (pv 1) pe_int (fun _ _ => rfl)))))
        (pss_one (ps_set (i := 3) scLRight.nd rfl (Or.inl rfl) (pe_op op_cat (pv 3) (pe_lst (pa_cons (pe_op op_sub (pv 5) pe_int) (pa_cons (pv 5) (pa_cons (pe_op op_add (pv 5) pe_int) (pa_cons (pe_op op_add (pv 5) (pe_cal CLNext hr (by rfl) (pa_cons (pv 0) (pa_cons pe_int pa_nil)))) pa_nil))))))))))
      (pss_cons (ps_for PassesOwn.never rfl (pi_list (pv 3)) (pg_name (i := 6) scLRight.nd rfl (Or.inl rfl))
        (pss_one (ps_if (PW.pt (pw_or (pt_cmpR op_ne (pe_cal CFirstReach hr (by rfl) (pa_cons (pv 1) (pa_cons (pv 6) pa_nil))) (pe_cal CLLeast hr (by rfl) (pa_cons (pv 1) (pa_cons (pv 6) pa_nil))) (nomark _)) (pw_or1 (pt_cmpR (op_neD hr.units) (pe_cal CShowsRun hr (by rfl) (pa_cons (pv 1) (pa_cons (pv 6) pa_nil))) (pe_cal CLRun hr (by rfl) (pa_cons (pv 1) (pa_cons (pv 6) pa_nil))) (nomark _)))))
          (pss_one (ps_ret pe_bl))
          pss_nil)))
      (pss_one (ps_ret pe_bl))))))), ?_⟩
  walk_at "go"
  intro p v l s H1 D1 nP npa hP L
  obtain ⟨v0, v1, l0, l1, s0, s1⟩ := L
  have hz := pos_pow s.toNat
  have hz1 := shl_one s0 s1
  walk_at "go"
  intro c1 H2 x0 x1 x2 D2
  have hP2 := D2.at npa hP
  walk_at "go"
  intro c2 H3 y0 y1 y2 D3
  have hP3 := D3.at npa hP2
  walk_at "go"
  intro S hS
  walk_at "go"
  intro R hR
  have nSa : S ≠ a := D3.src.ne hS
  have D4 := ((D1.trans D2).trans D3).new (o := .lst [V.int 0, V.int c1, V.int c2]) hS
  have hP4 := upd_at (u := .lst [V.int 0, V.int c1, V.int c2]) hP3 hS
  have hS4 := upd_same (H := H3) (a := S) (o := .lst [V.int 0, V.int c1, V.int c2])
  generalize upd H3 S (.lst [V.int 0, V.int c1, V.int c2]) = H4 at D4 hP4 hS4 hR
  have hc : ∀ c ∈ [0, c1, c2], 0 ≤ c ∧ c ≤ 100000000000000000000000000000000000000000000000000 ∧ 0 ≤ l * c ∧ l * c ≤ 11000000000000000000000000000000000000000000000000000000000 := by
    intro c h
    rcases List.mem_cons.mp h with h | h
    · subst h
      rw [Int.mul_zero]
      omega
    rcases List.mem_cons.mp h with h | h
    · subst h
      have := at_small x0 l0 x2
      omega
    rcases List.mem_cons.mp h with h | h
    · subst h
      have := at_small y0 l0 y2
      omega
    · cases h
  refine lc_listP (xs := [0, c1, c2].map V.int) (ys := ([0, c1, c2].map (rd v l (2 ^ s.toNat))).map V.int) hR (SqL.of hS4) rfl (by show 3 ≤ _; decide) (fun i x y W F hx hy r => ?_) ?_
  · obtain ⟨hi, ex⟩ := nth_of hx
    subst ex
    obtain ⟨c, hc1, hc2⟩ : ∃ c, c = nth [0, c1, c2] i ∧ c ∈ [0, c1, c2] := ⟨_, rfl, by unfold nth; rw [List.getD_eq_getElem?_getD, List.getElem?_eq_getElem hi]; exact List.getElem_mem hi⟩
    have hh := hc c hc2
    have ey : y = .int (rd v l (2 ^ s.toNat) c) := by
      rw [hc1]
      rw [List.getElem?_map, List.getElem?_map, List.getElem?_eq_getElem hi] at hy
      unfold nth
      rw [List.getD_eq_getElem?_getD, List.getElem?_eq_getElem hi]
      exact (Option.some.inj hy).symm
    subst ey
    rw [← hc1]
    clear hc1
    have hP5 := upd_at (u := .lst (List.take i (([0, c1, c2].map (rd v l (2 ^ s.toNat))).map V.int))) hP4 hR
    walk_at "go"
    exact r
  walk_at "go"
  intro R2 hR2
  have hR3 := upd_at (u := .lst (([0, c1, c2].map (rd v l (2 ^ s.toNat))).map V.int)) (upd_same (H := H4) (a := R) (o := .lst (([0, c1, c2].map (rd v l (2 ^ s.toNat))).map V.int))) hR2
  have hS5 := upd_at (u := .lst (([0, c1, c2].map (rd v l (2 ^ s.toNat))).map V.int)) hS4 hR
  have hP5 := upd_at (u := .lst (([0, c1, c2].map (rd v l (2 ^ s.toNat))).map V.int)) hP4 hR
  have D5 := D4.new (o := .lst (([0, c1, c2].map (rd v l (2 ^ s.toNat))).map V.int)) hR
  generalize upd H4 R (.lst (([0, c1, c2].map (rd v l (2 ^ s.toNat))).map V.int)) = H5 at hR3 hS5 hP5 D5 hR2
  refine lc_listP (xs := [0, c1, c2].map V.int) (ys := ([0, c1, c2].map (rd v l (2 ^ s.toNat))).map V.int) hR2 (SqL.of hS5) rfl (by show 3 ≤ _; decide) (fun i x y W F hx hy r => ?_) ?_
  · obtain ⟨hi, ex⟩ := nth_of hx
    subst ex
    obtain ⟨c, hc1, hc2⟩ : ∃ c, c = nth [0, c1, c2] i ∧ c ∈ [0, c1, c2] := ⟨_, rfl, by unfold nth; rw [List.getD_eq_getElem?_getD, List.getElem?_eq_getElem hi]; exact List.getElem_mem hi⟩
    have hh := hc c hc2
    have ey : y = .int (rd v l (2 ^ s.toNat) c) := by
      rw [hc1]
      rw [List.getElem?_map, List.getElem?_map, List.getElem?_eq_getElem hi] at hy
      unfold nth
      rw [List.getD_eq_getElem?_getD, List.getElem?_eq_getElem hi]
      exact (Option.some.inj hy).symm
    subst ey
    rw [← hc1]
    clear hc1
    have hP6 := upd_at (u := .lst (List.take i (([0, c1, c2].map (rd v l (2 ^ s.toNat))).map V.int))) hP5 hR2
    walk_at "go"
    exact r
  walk_at "go"
  refine ⟨_, _, _, _, rfl, rfl, SqL.of hR3, SqL.of upd_same, ?_⟩
  refine ⟨_, rfl, ?_⟩
  rw [decide_eq_true (rfl : [0, c1, c2].map (rd v l (2 ^ s.toNat)) = [0, c1, c2].map (rd v l (2 ^ s.toNat)))]
  have hS6 := upd_at (u := .lst (([0, c1, c2].map (rd v l (2 ^ s.toNat))).map V.int)) hS5 hR2
  have hP6 := upd_at (u := .lst (([0, c1, c2].map (rd v l (2 ^ s.toNat))).map V.int)) hP5 hR2
  have D6 := D5.new (o := .lst (([0, c1, c2].map (rd v l (2 ^ s.toNat))).map V.int)) hR2
  generalize upd H5 R2 (.lst (([0, c1, c2].map (rd v l (2 ^ s.toNat))).map V.int)) = H6 at hS6 hP6 D6
  walk_at "go"
  intro g1 H7 e0 e1 D7
  walk_at "go"
  intro g2 H8 e2 e3 D8
  walk_at "go"
  intro G hG
  have D9 := (((D6.trans D7).trans D8).new (o := .lst [V.int g1, V.int (-g2)]) hG)
  have nGa : G ≠ a := D8.src.ne hG
  have hPx := upd_at (u := .lst [V.int g1, V.int (-g2)]) (D8.at npa (D7.at npa hP6)) hG
  have hSx := upd_at (u := .lst [V.int g1, V.int (-g2)]) (D8.at nSa (D7.at nSa hS6)) hG
  walk_at "go"
  refine for_list (K := K) (a := S) (xs := [0, c1, c2].map V.int) (fun i σ H' => ∃ (G : Addr) (xs : List V) (v4 v5 : Option V), σ = [some (.ref a), some (.ref p), some (.ref S), some (.ref G), v4, v5, none] ∧ Dr a H H' ∧ H' p = some (.tup [.int v, .int l, .int s]) ∧ H' S = some (.lst ([0, c1, c2].map V.int)) ∧ H' G = some (.lst xs) ∧ G ≠ a ∧ AllI (fun g => -10000000000000000000000000000000000000000000000000000000000000000000000 < g ∧ g < 10000000000000000000000000000000000000000000000000000000000000000000000) xs ∧ xs.length ≤ 2 + 4 * i)
    ⟨G, _, none, none, rfl, D9, hPx, hSx, upd_same, nGa, .cons ⟨by omega, by omega⟩ (.cons ⟨by omega, by omega⟩ .nil), Nat.le_refl _⟩ (fun i σ H1 _ ⟨G, xs, v4, v5, e, D, hP, hS, hG, nG, hA, hl⟩ => SqL.of hS) (fun i x σ H1 hx ⟨G, xs, v4, v5, e, D, hP, hS, hG, nG, hA, hl⟩ => ?_) (fun σ H1 ⟨G, xs, v4, v5, e, D, hP, hS, hG, nG, hA, hl⟩ => ?_)
  · subst e
    obtain ⟨hi, ex⟩ := nth_of hx
    subst ex
    obtain ⟨c, hc1, hc2⟩ : ∃ c, c = nth [0, c1, c2] i ∧ c ∈ [0, c1, c2] := ⟨_, rfl, by unfold nth; rw [List.getD_eq_getElem?_getD, List.getElem?_eq_getElem hi]; exact List.getElem_mem hi⟩
    have hh := hc c hc2
    rw [← hc1]
    have hd := div_abs (x := v + l * c) (X := 2000000000000000000000000000000000000000000000000000000000000000000000) hz (by omega) (by omega) (by decide)
    walk_at "go"
    intro r2 Ha b0 b1 Da
    walk_at "go"
    intro M hM
    have nMa : M ≠ a := Da.src.ne hM
    have hi3 : i < 3 := hi
    refine ⟨_, _, _, _, rfl, rfl, upd_at (Da.at nG hG) hM, upd_same, ?_, ?_⟩
    · show xs.length + 4 ≤ sizeLine
      exact Nat.le_trans (show _ ≤ 100 by omega) (by decide)
    intro N hN
    refine ⟨N, _, _, _, rfl, ((D.trans Da).new hM).new hN, upd_at (upd_at (Da.at npa hP) hM) hN, upd_at (upd_at (Da.at nSa hS) hM) hN, upd_same, (((D.trans Da).new hM).src).ne hN, hA.app (.cons ⟨by omega, by omega⟩ (.cons ⟨by omega, by omega⟩ (.cons ⟨by omega, by omega⟩ (.cons ⟨by omega, by omega⟩ .nil)))), ?_⟩
    rw [List.length_append]
    show xs.length + 4 ≤ _
    omega
  · subst e
    walk_at "go"
    refine for_list (K := K) (a := G) (xs := xs) (fun i σ H' => ∃ (v6 : Option V), σ = [some (.ref a), some (.ref p), some (.ref S), some (.ref G), v4, v5, v6] ∧ Dr a H H' ∧ H' p = some (.tup [.int v, .int l, .int s]) ∧ H' G = some (.lst xs))
      ⟨none, rfl, D, hP, hG⟩ (fun i σ H1 _ ⟨v6, e, D, hP, hG⟩ => SqL.of hG) (fun i x σ H1 hx ⟨v6, e, D, hP, hG⟩ => ?_) (fun σ H1 ⟨v6, e, D, hP, hG⟩ => ?_)
    · subst e
      obtain ⟨g, eg, g0, g1⟩ := hA x (List.mem_of_getElem? hx)
      subst eg
      walk_at "go"
      refine ⟨p, _, _, _, _, rfl, hP, by omega, by omega, by omega, by omega, by omega, by omega, by omega, by omega, ?_⟩
      refine ⟨scal_opt _, _, rfl, ?_⟩
      rw [decide_eq_true (rfl : optV (fr v l (2 ^ s.toNat) g) = optV (fr v l (2 ^ s.toNat) g))]
      walk_at "go"
      refine ⟨fun h => ?_, fun b e1 e2 t ht => ?_⟩
      · walk_at "go"
        refine ⟨p, _, _, _, _, rfl, hP, by omega, by omega, by omega, by omega, by omega, by omega, by omega, by omega, fun _ => ?_, fun b e1 e2 _ _ _ _ => ?_⟩
        · refine ⟨.none, .none, .non, .non, rfl, rfl, _, rfl, ?_⟩
          rw [show PyData.eqv .none .none = true by simp [PyData.eqv]]
          walk_at "go"
          first | exact hG | exact ⟨D, hP, hG⟩ | exact ⟨_, rfl, D, hP, hG⟩
        · rcases h with h | h
          · rw [e1] at h
            cases h
          · exact absurd (h.symm.trans e1) e2
      · walk_at "go"
        refine ⟨p, _, _, _, _, rfl, upd_at hP ht, by omega, by omega, by omega, by omega, by omega, by omega, by omega, by omega, fun h => ?_, fun b2 e3 e4 H2 t2 sm2 ht2 => ?_⟩
        · rcases h with h | h
          · rw [e1] at h
            cases h
          · exact absurd (h.symm.trans e1) e2
        · have eb : b2 = b := Option.some.inj (e3.symm.trans e1)
          subst eb
          obtain ⟨d, hd⟩ := dp_last (K := K) (fr v l (2 ^ s.toNat) (g + 1))
          refine ⟨.tuple [.int b2, d], .tuple [.int b2, d], .tup (SqT.of (sm2 _ _ upd_same)) (.cons (.int _) (.cons (hd _).1 .nil)), .tup (SqT.of ht2) (.cons (.int _) (.cons (hd _).1 .nil)), ?_, ?_, _, rfl, ?_⟩
          · exact (hd H2).2.1 b2
          · exact (hd H2).2.1 b2
          rw [(hd H2).2.2 b2]
          walk_at "go"
          first | exact ⟨⟨(D.src.new ht).same sm2, (D.new ht).but.trans (.of sm2)⟩, sm2 _ _ (upd_at hP ht), sm2 _ _ (upd_at hG ht)⟩ | exact ⟨_, rfl, ⟨(D.src.new ht).same sm2, (D.new ht).but.trans (.of sm2)⟩, sm2 _ _ (upd_at hP ht), sm2 _ _ (upd_at hG ht)⟩
    · subst e
      walk_at "go"
      exact q _ D
abbrev sLaw : Stmt := topS 29
theorem scLaw : FnScope ["script", "k", "source", "turn"] ["script"] (defScope sLaw) := ⟨rfl, rfl, rfl, by decide +kernel, rfl, by decide +kernel, by decide +kernel⟩
set_option maxHeartbeats 2000000 in
theorem ok_Law (D : DefAt K mg "law" sLaw ["script"]) (CLSource : Cal P w K mg base "_law_source" ["script", "k"] 2 (spSource K)) (CLRight : Cal P w K mg base "_law_right" ["source"] 7 (spRight)) (T : Txt mg) : Cal P w K mg base "law" ["script"] 8 (spLaw K) := by
  refine D.cal scLaw (fun vs H Q E h => (by (obtain ⟨_, _, rfl, _⟩ := h); rfl)) (fun f cdv A outer s H vs Q E hr h => ?_)
  obtain ⟨a, ns, rfl, hS, hl, q⟩ := h
  refine ⟨_, pss_cons (ps_for PassesOwn.never rfl (pi_range1 (by rfl) T.range (pa_cons (pe_callB (call_min2 rfl) (by rfl) T.min (by decide +kernel) (pa_cons pe_int (pa_cons (pe_callB (call_max2 rfl) (by rfl) T.max (by decide +kernel) (pa_cons pe_int (pa_cons (pe_callB call_len_seq (by rfl) T.len PySem.boot_len (pa_cons (pv 0) pa_nil)) pa_nil))) pa_nil))) pa_nil)) (pg_name (i := 1) scLaw.nd rfl (Or.inl rfl))
        (pss_cons (ps_set (i := 2) scLaw.nd rfl (Or.inl rfl) (pe_cal CLSource hr (by rfl) (pa_cons (pv 0) (pa_cons (pv 1) pa_nil))))
        (pss_one (ps_for PassesOwn.never rfl (pi_range1 (by rfl) T.range (pa_cons pe_int pa_nil)) (pg_name (i := 3) scLaw.nd rfl (Or.inl rfl))
          (pss_one (ps_if (pt_not (pt_val (pe_cal CLRight hr (by rfl) (pa_cons (pv 2) pa_nil))))
            (pss_one (ps_ret pe_bl))
            pss_nil))))))
      (pss_one (ps_ret pe_bl)), ?_⟩
  walk_at "go"
  refine for_range (lo := 0) (n := _) (fun i σ H' => ∃ v1 v2 v3 : Option V, σ = [some (.ref a), v1, v2, v3] ∧ Same H H')
    ⟨none, none, none, rfl, Same.refl H⟩ (fun i σ H1 hi ⟨v1, v2, v3, e, sm⟩ => ?_) (fun σ H1 ⟨v1, v2, v3, e, sm⟩ => ?_)
  · subst e
    walk_at "go"
    refine ⟨a, ns, _, rfl, sm.seq hS, by omega, fun p x y n hp => ?_⟩
    have s2 : Src (upd H1 p (.lst [.int x, .int y, .int n])) p := Src.made
    walk_at "go"
    refine for_range (lo := 0) (n := 3) (fun j σ H' => ∃ v3 : Option V, σ = [some (.ref a), some (.int (0 + (i : Int))), some (.ref p), v3] ∧ Dr p (upd H1 p (.lst [.int x, .int y, .int n])) H')
      ⟨_, rfl, Dr.refl s2⟩ (fun j σ H3 hj ⟨v3, e, D3⟩ => ?_) (fun σ H3 ⟨v3, e, D3⟩ => ?_)
    · subst e
      walk_at "go"
      intro H4 D4
      walk_at "go"
      exact D3.trans D4
    · subst e
      exact ⟨_, _, _, rfl, sm.trans (D3.same hp)⟩
  · subst e
    walk_at "go"
    exact q _
theorem all (DLCellAt : DefAt K mg "_law_cell_at" sLCellAt ["script", "k"]) (DLMixed : DefAt K mg "_law_mixed" sLMixed ["cell", "k"]) (DLSource : DefAt K mg "_law_source" sLSource ["script", "k"]) (DLNext : DefAt K mg "_law_next" sLNext ["source", "many"]) (DIsInteger : DefAt K mg "is_integer" sIsInteger ["thing"]) (DIsWithin : DefAt K mg "is_within" sIsWithin ["thing", "least", "greatest"]) (DIsAtLeast : DefAt K mg "is_at_least" sIsAtLeast ["thing", "least"]) (DCheckCycle : DefAt K mg "check_cycle" sCheckCycle ["cycle"]) (DCheckReading : DefAt K mg "check_reading" sCheckReading ["reading"]) (DRoundedUp : DefAt K mg "rounded_up" sRoundedUp ["parts", "unit"]) (DCheckLine : DefAt K mg "check_line" sCheckLine ["line"]) (DLineReading : DefAt K mg "line_reading" sLineReading ["line", "cycle"]) (DFirstReach : DefAt K mg "first_reach" sFirstReach ["line", "reading"]) (DShowsRun : DefAt K mg "shows_run" sShowsRun ["line", "reading"]) (DLFar : DefAt K mg "_law_far" sLFar ["source"]) (DLCycle : DefAt K mg "_law_cycle" sLCycle ["source", "slope"]) (DLLine : DefAt K mg "_law_line" sLLine ["source"]) (DLLeast : DefAt K mg "_law_least" sLLeast ["row", "goal"]) (DLRun : DefAt K mg "_law_run" sLRun ["row", "goal"]) (DLRight : DefAt K mg "_law_right" sLRight ["source"]) (DLaw : DefAt K mg "law" sLaw ["script"]) (T : Txt mg) : Cal P w K mg base "law" ["script"] 8 (spLaw K) := by
  have CLCellAt : Cal P w K mg base "_law_cell_at" ["script", "k"] 1 (spCell K) := ok_LCellAt DLCellAt  T
  have CLMixed : Cal P w K mg base "_law_mixed" ["cell", "k"] 1 (spMixed) := ok_LMixed DLMixed  T
  have CLSource : Cal P w K mg base "_law_source" ["script", "k"] 2 (spSource K) := ok_LSource DLSource CLMixed CLCellAt T
  have CLNext : Cal P w K mg base "_law_next" ["source", "many"] 2 (spNext) := ok_LNext DLNext CLMixed T
  have CIsInteger : Cal P w K mg base "is_integer" ["thing"] 1 (spIsInt) := ok_IsInteger DIsInteger  T
  have CIsWithin : Cal P w K mg base "is_within" ["thing", "least", "greatest"] 2 (spWithin) := ok_IsWithin DIsWithin CIsInteger T
  have CIsAtLeast : Cal P w K mg base "is_at_least" ["thing", "least"] 2 (spAtLeast) := ok_IsAtLeast DIsAtLeast CIsInteger T
  have CCheckCycle : Cal P w K mg base "check_cycle" ["cycle"] 3 (spNat) := ok_CheckCycle DCheckCycle CIsAtLeast T
  have CCheckReading : Cal P w K mg base "check_reading" ["reading"] 3 (spRdg) := ok_CheckReading DCheckReading CIsInteger T
  have CRoundedUp : Cal P w K mg base "rounded_up" ["parts", "unit"] 1 (spUp) := ok_RoundedUp DRoundedUp  T
  have CCheckLine : Cal P w K mg base "check_line" ["line"] 4 (spLine) := ok_CheckLine DCheckLine CIsInteger CIsAtLeast CIsWithin T
  have CLineReading : Cal P w K mg base "line_reading" ["line", "cycle"] 5 (spLineReading) := ok_LineReading DLineReading CCheckLine CCheckCycle T
  have CFirstReach : Cal P w K mg base "first_reach" ["line", "reading"] 5 (spFirstReach) := ok_FirstReach DFirstReach CCheckLine CCheckReading CRoundedUp T
  have CShowsRun : Cal P w K mg base "shows_run" ["line", "reading"] 6 (spShowsRun) := ok_ShowsRun DShowsRun CFirstReach T
  have CLFar : Cal P w K mg base "_law_far" ["source"] 3 (spFar) := ok_LFar DLFar CLNext T
  have CLCycle : Cal P w K mg base "_law_cycle" ["source", "slope"] 4 (spCycle) := ok_LCycle DLCycle CLFar T
  have CLLine : Cal P w K mg base "_law_line" ["source"] 4 (spLawLine) := ok_LLine DLLine CLNext CLFar T
  have CLLeast : Cal P w K mg base "_law_least" ["row", "goal"] 1 (spLeast) := ok_LLeast DLLeast  T
  have CLRun : Cal P w K mg base "_law_run" ["row", "goal"] 2 (spRun) := ok_LRun DLRun CLLeast T
  have CLRight : Cal P w K mg base "_law_right" ["source"] 7 (spRight) := ok_LRight DLRight CLLine CLCycle CLFar CLineReading CFirstReach CLLeast CShowsRun CLRun CLNext T
  have CLaw : Cal P w K mg base "law" ["script"] 8 (spLaw K) := ok_Law DLaw CLSource CLRight T
  exact CLaw
end
end My
open PySem PySem.W PyProof.Rows
set_option maxRecDepth 100000 in
set_option maxHeartbeats 0 in
theorem PySem.Challenge.cw_timekernel_k13_lines_far_holds : PySem.Challenge.rw_timekernel_k13_lines_far.Holds := by
  w_on; o_law; k_head; (case hw => w_witness2)
  k_fill
  refine L2.walk_of (l := PySem.Challenge.rw_timekernel_k13_lines_far) (n := 63) (k := 8) (x := "script") (CX := fun _ => L2.CX0) (sp := fun w => My.spLaw _) rfl (by decide) rfl ⟨rfl, by decide, by decide⟩ (fun w h Y => PySem.W.kIn_of Y) ?F (fun _ _ a ns hl _ hS => ⟨a, ns, rfl, hS, hl, fun _ => rfl⟩) (fun _ _ _ _ _ h => h)
  case F =>
    intro w mg fa h KX G hmg
    refine' TK.use (TK.defAt_mk (mg := mg) (x := "_law_cell_at") (st := My.sLCellAt) (ps := ["script", "k"]) KX G ?aLCellAt ?lLCellAt ?cLCellAt ?kLCellAt (fun _ _ _ _ _ _ us hl => match us, hl with | [_, _], _ => rfl)) ?rLCellAt
    (case aLCellAt => k_is); (case lLCellAt => k_is); (case cLCellAt => k_is); (case kLCellAt => k_is)
    intro DLCellAt
    refine' TK.use (TK.defAt_mk (mg := mg) (x := "_law_mixed") (st := My.sLMixed) (ps := ["cell", "k"]) KX G ?aLMixed ?lLMixed ?cLMixed ?kLMixed (fun _ _ _ _ _ _ us hl => match us, hl with | [_, _], _ => rfl)) ?rLMixed
    (case aLMixed => k_is); (case lLMixed => k_is); (case cLMixed => k_is); (case kLMixed => k_is)
    intro DLMixed
    refine' TK.use (TK.defAt_mk (mg := mg) (x := "_law_source") (st := My.sLSource) (ps := ["script", "k"]) KX G ?aLSource ?lLSource ?cLSource ?kLSource (fun _ _ _ _ _ _ us hl => match us, hl with | [_, _], _ => rfl)) ?rLSource
    (case aLSource => k_is); (case lLSource => k_is); (case cLSource => k_is); (case kLSource => k_is)
    intro DLSource
    refine' TK.use (TK.defAt_mk (mg := mg) (x := "_law_next") (st := My.sLNext) (ps := ["source", "many"]) KX G ?aLNext ?lLNext ?cLNext ?kLNext (fun _ _ _ _ _ _ us hl => match us, hl with | [_, _], _ => rfl)) ?rLNext
    (case aLNext => k_is); (case lLNext => k_is); (case cLNext => k_is); (case kLNext => k_is)
    intro DLNext
    refine' TK.use (TK.defAt_mk (mg := mg) (x := "is_integer") (st := My.sIsInteger) (ps := ["thing"]) KX G ?aIsInteger ?lIsInteger ?cIsInteger ?kIsInteger (fun _ _ _ _ _ _ us hl => match us, hl with | [_], _ => rfl)) ?rIsInteger
    (case aIsInteger => k_is); (case lIsInteger => k_is); (case cIsInteger => k_is); (case kIsInteger => k_is)
    intro DIsInteger
    refine' TK.use (TK.defAt_mk (mg := mg) (x := "is_within") (st := My.sIsWithin) (ps := ["thing", "least", "greatest"]) KX G ?aIsWithin ?lIsWithin ?cIsWithin ?kIsWithin (fun _ _ _ _ _ _ us hl => match us, hl with | [_, _, _], _ => rfl)) ?rIsWithin
    (case aIsWithin => k_is); (case lIsWithin => k_is); (case cIsWithin => k_is); (case kIsWithin => k_is)
    intro DIsWithin
    refine' TK.use (TK.defAt_mk (mg := mg) (x := "is_at_least") (st := My.sIsAtLeast) (ps := ["thing", "least"]) KX G ?aIsAtLeast ?lIsAtLeast ?cIsAtLeast ?kIsAtLeast (fun _ _ _ _ _ _ us hl => match us, hl with | [_, _], _ => rfl)) ?rIsAtLeast
    (case aIsAtLeast => k_is); (case lIsAtLeast => k_is); (case cIsAtLeast => k_is); (case kIsAtLeast => k_is)
    intro DIsAtLeast
    refine' TK.use (TK.defAt_mk (mg := mg) (x := "check_cycle") (st := My.sCheckCycle) (ps := ["cycle"]) KX G ?aCheckCycle ?lCheckCycle ?cCheckCycle ?kCheckCycle (fun _ _ _ _ _ _ us hl => match us, hl with | [_], _ => rfl)) ?rCheckCycle
    (case aCheckCycle => k_is); (case lCheckCycle => k_is); (case cCheckCycle => k_is); (case kCheckCycle => k_is)
    intro DCheckCycle
    refine' TK.use (TK.defAt_mk (mg := mg) (x := "check_reading") (st := My.sCheckReading) (ps := ["reading"]) KX G ?aCheckReading ?lCheckReading ?cCheckReading ?kCheckReading (fun _ _ _ _ _ _ us hl => match us, hl with | [_], _ => rfl)) ?rCheckReading
    (case aCheckReading => k_is); (case lCheckReading => k_is); (case cCheckReading => k_is); (case kCheckReading => k_is)
    intro DCheckReading
    refine' TK.use (TK.defAt_mk (mg := mg) (x := "rounded_up") (st := My.sRoundedUp) (ps := ["parts", "unit"]) KX G ?aRoundedUp ?lRoundedUp ?cRoundedUp ?kRoundedUp (fun _ _ _ _ _ _ us hl => match us, hl with | [_, _], _ => rfl)) ?rRoundedUp
    (case aRoundedUp => k_is); (case lRoundedUp => k_is); (case cRoundedUp => k_is); (case kRoundedUp => k_is)
    intro DRoundedUp
    refine' TK.use (TK.defAt_mk (mg := mg) (x := "check_line") (st := My.sCheckLine) (ps := ["line"]) KX G ?aCheckLine ?lCheckLine ?cCheckLine ?kCheckLine (fun _ _ _ _ _ _ us hl => match us, hl with | [_], _ => rfl)) ?rCheckLine
    (case aCheckLine => k_is); (case lCheckLine => k_is); (case cCheckLine => k_is); (case kCheckLine => k_is)
    intro DCheckLine
    refine' TK.use (TK.defAt_mk (mg := mg) (x := "line_reading") (st := My.sLineReading) (ps := ["line", "cycle"]) KX G ?aLineReading ?lLineReading ?cLineReading ?kLineReading (fun _ _ _ _ _ _ us hl => match us, hl with | [_, _], _ => rfl)) ?rLineReading
    (case aLineReading => k_is); (case lLineReading => k_is); (case cLineReading => k_is); (case kLineReading => k_is)
    intro DLineReading
    refine' TK.use (TK.defAt_mk (mg := mg) (x := "first_reach") (st := My.sFirstReach) (ps := ["line", "reading"]) KX G ?aFirstReach ?lFirstReach ?cFirstReach ?kFirstReach (fun _ _ _ _ _ _ us hl => match us, hl with | [_, _], _ => rfl)) ?rFirstReach
    (case aFirstReach => k_is); (case lFirstReach => k_is); (case cFirstReach => k_is); (case kFirstReach => k_is)
    intro DFirstReach
    refine' TK.use (TK.defAt_mk (mg := mg) (x := "shows_run") (st := My.sShowsRun) (ps := ["line", "reading"]) KX G ?aShowsRun ?lShowsRun ?cShowsRun ?kShowsRun (fun _ _ _ _ _ _ us hl => match us, hl with | [_, _], _ => rfl)) ?rShowsRun
    (case aShowsRun => k_is); (case lShowsRun => k_is); (case cShowsRun => k_is); (case kShowsRun => k_is)
    intro DShowsRun
    refine' TK.use (TK.defAt_mk (mg := mg) (x := "_law_far") (st := My.sLFar) (ps := ["source"]) KX G ?aLFar ?lLFar ?cLFar ?kLFar (fun _ _ _ _ _ _ us hl => match us, hl with | [_], _ => rfl)) ?rLFar
    (case aLFar => k_is); (case lLFar => k_is); (case cLFar => k_is); (case kLFar => k_is)
    intro DLFar
    refine' TK.use (TK.defAt_mk (mg := mg) (x := "_law_cycle") (st := My.sLCycle) (ps := ["source", "slope"]) KX G ?aLCycle ?lLCycle ?cLCycle ?kLCycle (fun _ _ _ _ _ _ us hl => match us, hl with | [_, _], _ => rfl)) ?rLCycle
    (case aLCycle => k_is); (case lLCycle => k_is); (case cLCycle => k_is); (case kLCycle => k_is)
    intro DLCycle
    refine' TK.use (TK.defAt_mk (mg := mg) (x := "_law_line") (st := My.sLLine) (ps := ["source"]) KX G ?aLLine ?lLLine ?cLLine ?kLLine (fun _ _ _ _ _ _ us hl => match us, hl with | [_], _ => rfl)) ?rLLine
    (case aLLine => k_is); (case lLLine => k_is); (case cLLine => k_is); (case kLLine => k_is)
    intro DLLine
    refine' TK.use (TK.defAt_mk (mg := mg) (x := "_law_least") (st := My.sLLeast) (ps := ["row", "goal"]) KX G ?aLLeast ?lLLeast ?cLLeast ?kLLeast (fun _ _ _ _ _ _ us hl => match us, hl with | [_, _], _ => rfl)) ?rLLeast
    (case aLLeast => k_is); (case lLLeast => k_is); (case cLLeast => k_is); (case kLLeast => k_is)
    intro DLLeast
    refine' TK.use (TK.defAt_mk (mg := mg) (x := "_law_run") (st := My.sLRun) (ps := ["row", "goal"]) KX G ?aLRun ?lLRun ?cLRun ?kLRun (fun _ _ _ _ _ _ us hl => match us, hl with | [_, _], _ => rfl)) ?rLRun
    (case aLRun => k_is); (case lLRun => k_is); (case cLRun => k_is); (case kLRun => k_is)
    intro DLRun
    refine' TK.use (TK.defAt_mk (mg := mg) (x := "_law_right") (st := My.sLRight) (ps := ["source"]) KX G ?aLRight ?lLRight ?cLRight ?kLRight (fun _ _ _ _ _ _ us hl => match us, hl with | [_], _ => rfl)) ?rLRight
    (case aLRight => k_is); (case lLRight => k_is); (case cLRight => k_is); (case kLRight => k_is)
    intro DLRight
    refine' TK.use (TK.defAt_mk (mg := mg) (x := "law") (st := My.sLaw) (ps := ["script"]) KX G ?aLaw ?lLaw ?cLaw ?kLaw (fun _ _ _ _ _ _ us hl => match us, hl with | [_], _ => rfl)) ?rLaw
    (case aLaw => k_is); (case lLaw => k_is); (case cLaw => k_is); (case kLaw => k_is)
    intro DLaw
    have T : My.Txt mg  := by
      refine' ⟨?f0, ?f1, ?f2, ?f3, ?f4, ?f5, ?f6, ?f7, ?f8⟩
      (case f0 => (refine' PySem.W.mg_none_of KX G ?z0; (case z0 => k_is)))
      (case f1 => (refine' PySem.W.mg_none_of KX G ?z1; (case z1 => k_is)))
      (case f2 => (refine' PySem.W.mg_none_of KX G ?z2; (case z2 => k_is)))
      (case f3 => (refine' PySem.W.mg_none_of KX G ?z3; (case z3 => k_is)))
      (case f4 => (refine' PySem.W.mg_none_of KX G ?z4; (case z4 => k_is)))
      (case f5 => (refine' PySem.W.mg_none_of KX G ?z5; (case z5 => k_is)))
      (case f6 => (refine' PySem.W.mg_none_of KX G ?z6; (case z6 => k_is)))
      (case f7 => (refine' PySem.W.mg_none_of KX G ?z7; (case z7 => k_is)))
      (case f8 => (refine' TK.gint_mk KX G ?z8; (case z8 => k_is)))
    exact TK.law_end DLaw hmg (fun base _ _ => My.all DLCellAt DLMixed DLSource DLNext DIsInteger DIsWithin DIsAtLeast DCheckCycle DCheckReading DRoundedUp DCheckLine DLineReading DFirstReach DShowsRun DLFar DLCycle DLLine DLLeast DLRun DLRight DLaw T)
