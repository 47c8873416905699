import PyProof.Rows.All
import Wide.All
import OpenK.AllK
import Wide.FinOn
import HandS.ForMost
import HandS.Wide
import HandS.WideBits
import HandS.IsInst
import HandS.Flow
import HandS.SortKw
import KE.DataMinMax
import HandS.TryOnly

import PySem.Challenge.RW_timekernel_k19_whole_partings_in_turn
set_option Elab.async false
set_option linter.all false
set_option maxRecDepth 100000
/-! Defs of the text by their names, and calls of them. -/
namespace TK
open PySem PySem.Spec PyProof.Rows L2
/-- fd stands at f, under the module's name x, and takes its arguments by place -/
structure Stands (K : PySem.W.Frag) (mg : Str → Option Value) (x : Str) (ps : List Str) (f : Addr) (fd : FuncData) : Prop where
  lk : ∃ (oc : Value) (od : Option Addr) (osl : Array (Option Value)), K.lookup f = some ⟨oc, od, .func fd, osl⟩
  mg : mg x = some (.ref f)
  kp : PySem.W.keepIn K (.ref f) = true
  bd : ∀ us : List Value, us.length = ps.length → bindArgs fd ⟨us, []⟩ = pure (ps.zip us)
theorem Stands.same {K : PySem.W.Frag} {mg : Str → Option Value} {x : Str} {ps qs : List Str} {f g : Addr} {fd gd : FuncData} (a : Stands K mg x ps f fd) (b : Stands K mg x qs g gd) : f = g ∧ fd = gd := by
  have e : f = g := by
    have h := a.mg.symm.trans b.mg
    exact Value.ref.inj (Option.some.inj h)
  subst e
  obtain ⟨_, _, _, h1⟩ := a.lk
  obtain ⟨_, _, _, h2⟩ := b.lk
  rw [h1] at h2
  cases h2
  exact ⟨rfl, rfl⟩
/-- the def st stands under the module's name x -/
structure DefAt (K : PySem.W.Frag) (mg : Str → Option Value) (x : Str) (st : Stmt) (ps : List Str) : Prop where
  ex : ∃ (f : Addr) (fd : FuncData), Fun K x x st f fd ∧ Stands K mg x ps f fd
/-- what stands under the module's name x keeps the promise sp -/
structure Cal (P : Program) (w : World) (K : PySem.W.Frag) (mg : Str → Option Value) (base : Heap) (x : Str) (ps : List Str) (k : Nat) (sp : Sp) : Prop where
  ex : ∃ (f : Addr) (fd : FuncData), FnOk P w K mg base CX0 k f fd ps sp ∧ Stands K mg x ps f fd
section
variable {P : Program} {w : World} {K : PySem.W.Frag} {mg : Str → Option Value} {base : Heap} {x : Str} {st : Stmt} {N ps : List Str} {k : Nat} {sp : Sp}
theorem DefAt.cal (D : DefAt K mg x st ps) (S : FnScope N ps (defScope st)) (len : ∀ vs H Q E, sp vs H Q E → vs.length = ps.length)
    (hbody : ∀ (f : Addr) (cdv : Value) (A : Around) (outer : List Env) (s : Shared) (H : Hp) (vs : List V) (Q : VK) (E : XK), Room k (A.deeper (envOfC x (defScope st) s.heap.objs.size f cdv)) → sp vs H Q E →
      ∃ t, PSs (cxOf CX0 P w K mg base N x (defScope st) f cdv A outer s H E).nox (defBody st) t ∧ t { nx := fun _ H' => Q .non H', rt := Q } (start N vs) H) : Cal P w K mg base x ps (k + 1) sp := by
  obtain ⟨f, fd, F, b⟩ := D.ex
  exact ⟨f, fd, F.ok S len (hbody f), b⟩
theorem Cal.mono {j : Nat} (C : Cal P w K mg base x ps j sp) (h : j ≤ k) : Cal P w K mg base x ps k sp := by
  obtain ⟨f, fd, F, b⟩ := C.ex
  exact ⟨f, fd, F.mono h, b⟩
end
section
variable {X : Cx} {x : Str} {ps : List Str} {k : Nat} {sp : Sp} {p pos : Pos} {e : Expr} {es : List Expr} {t : TA}
theorem pe_cal {j : Nat} (C : Cal X.prog X.w X.K X.mg X.base x ps j sp) (hr : Room k X.A) (hg : Gl X x) (ha : PA X (e :: es) t) (hj : j ≤ k := by decide) (hdb : (x == ("__debug__" : Str)) = false := by decide)
    (he : starEach (e :: es) X.env = (false, eval e X.env) :: starEach es X.env := by rfl) (hpl : (backTo pos (starEach es X.env)).any (·.1) = false := by rfl) :
    PE X (.Call (.Name x p) (e :: es) [] pos) (tCall sp [] E0 t) := by
  obtain ⟨f, fd, F, b⟩ := C.ex
  exact pe_call F (hr.mono hj) hg b.mg b.kp (.all b.bd) .nil pass0 ha hdb he hpl
end
theorem defAt_mk {K : PySem.W.Frag} {h : Heap} {mg : Str → Option Value} {x : Str} {st : Stmt} {ps : List Str} {f : Addr} {oc : Value} {od an : Option Addr} {osl : Array (Option Value)} {kV doc pm cdv ct : Value} (X : K.In h) (G : h.Ns mainGlobals mg)
    (a : PySem.W.nsIn K mainGlobals x = some (some (.ref f)))
    (l : K.lookup f = some ⟨oc, od, .func (PySem.W.fnOf x x (defArgs st) (defBody st) (defScope st) .none kV doc pm an cdv ct), osl⟩)
    (c : PySem.W.codeIn K cdv x = true) (k : PySem.W.keepIn K (.ref f) = true)
    (b : ∀ (kV doc pm : Value) (an : Option Addr) (cdv ct : Value) (us : List Value), us.length = ps.length → bindArgs (PySem.W.fnOf x x (defArgs st) (defBody st) (defScope st) .none kV doc pm an cdv ct) ⟨us, []⟩ = pure (ps.zip us)) :
    DefAt K mg x st ps := ⟨f, _, fun_mk (st := st) l c k, ⟨_, _, _, l⟩, PySem.W.mg_of X G a, k, b kV doc pm an cdv ct⟩
theorem use {A B : Prop} (a : A) (f : A → B) : B := f a
/-- the law's own end -/
theorem law_end {P : Program} {w : World} {K : PySem.W.Frag} {mg : Str → Option Value} {st : Stmt} {fa : Addr} {k : Nat} {sp : Sp} {y : Str} (D : DefAt K mg "law" st [y]) (hfa : mg "law" = some (.ref fa))
    (F : ∀ base : Heap, K.In base → base.Ns mainGlobals mg → Cal P w K mg base "law" [y] k sp) :
    ∃ fd : FuncData, (∀ (s : Shared) (v : Value), BindsTo s fd ⟨[v], []⟩ [(y, v)]) ∧ ∀ base : Heap, K.In base → base.Ns mainGlobals mg → FnOk P w K mg base CX0 k fa fd [y] sp := by
  obtain ⟨f, fd, _, b⟩ := D.ex
  have e : f = fa := Value.ref.inj (Option.some.inj (b.mg.symm.trans hfa))
  subst e
  refine ⟨fd, fun s v => .of_eq (b.bd [v] rfl), fun base h1 h2 => ?_⟩
  obtain ⟨g, gd, G, b2⟩ := (F base h1 h2).ex
  obtain ⟨e1, e2⟩ := b.same b2
  subst e1 e2
  exact G
/-- what a def reckons without touching what is tracked -/
theorem same_upd {H : Hp} {p : Addr} {o : HO} (h : H p = none) : Same H (upd H p o) := fun b x e => by
  rw [upd_ne (ne_of_none e h)]
  exact e
theorem same_set {H H1 : Hp} {p : Addr} {o : HO} (s : Same H H1) (h : H p = none) : Same H (upd H1 p o) := fun b u e => by
  rw [upd_ne (ne_of_none e h)]
  exact s b u e
/-- what was tracked elsewhere than at a is as it was -/
def SameBut (a : Addr) (H H' : Hp) : Prop := ∀ b o, b ≠ a → H b = some o → H' b = some o
theorem SameBut.refl (a : Addr) (H : Hp) : SameBut a H H := fun _ _ _ h => h
theorem SameBut.trans {a : Addr} {H H1 H2 : Hp} (x : SameBut a H H1) (y : SameBut a H1 H2) : SameBut a H H2 := fun b o n h => y b o n (x b o n h)
theorem SameBut.of {a : Addr} {H H1 : Hp} (x : Same H H1) : SameBut a H H1 := fun b o _ h => x b o h
theorem sb_upd {H : Hp} {a : Addr} {o : HO} : SameBut a H (upd H a o) := fun b x n e => by
  rw [upd_ne n]
  exact e
theorem sb_new {H : Hp} {a p : Addr} {o : HO} (h : H p = none) : SameBut a H (upd H p o) := SameBut.of (same_upd h)
theorem SameBut.lst {a b : Addr} {H H1 : Hp} {xs : List V} {K : PySem.W.Frag} (s : SameBut a H H1) (n : b ≠ a) (h : SqL K H b xs) : SqL K H1 b xs := by
  rcases h with (h | ⟨o, h⟩) | h
  · exact .inl (.inl (s _ _ n h))
  · exact .inl (.inr ⟨o, s _ _ n h⟩)
  · exact .inr h
end TK
namespace TK
open PySem PySem.Spec PyProof.Rows L2
section
variable {X : Cx} {x : Str} {pos : Pos}
/-- a module's name for a whole number -/
theorem pe_gint {i : Int} (hg : Gl X x) (hm : ∃ t, X.mg x = some (.int i t)) (hd : (x == ("__debug__" : Str)) = false := by decide) : PE X (.Name x pos) (tC (.int i)) := by
  obtain ⟨t, hm⟩ := hm
  exact pe_glob hg hm ⟨_, rfl⟩ hd
end
theorem gint_mk {K : PySem.W.Frag} {h : Heap} {mg : Str → Option Value} {x : Str} {i : Int} {t : Tok} (X : K.In h) (G : h.Ns mainGlobals mg) (a : PySem.W.nsIn K mainGlobals x = some (some (.int i t))) : ∃ t, mg x = some (.int i t) := ⟨t, PySem.W.mg_of X G a⟩
end TK
namespace TK
open PySem PySem.Spec PyProof.Rows L2
/-- * of two numbers, one of them below 2 ^ 64 in size, or both below 2 ^ 400 -/
def CMulE (i j : Int) : Prop := CMul i j ∨ CMulX i j
theorem mulE1 {i j : Int} (h0 : -18446744073709551616 < i) (h1 : i < 18446744073709551616) : CMulE i j := .inl (.inl ⟨by omega, by omega⟩)
theorem mulE2 {i j : Int} (h0 : -18446744073709551616 < j) (h1 : j < 18446744073709551616) : CMulE i j := .inl (.inr ⟨by omega, by omega⟩)
theorem mulE3 {i j : Int} (h0 : i.natAbs < 2 ^ 400) (h1 : j.natAbs < 2 ^ 400) : CMulE i j := .inr (mulx_ok h0 h1 (by decide))
/-- e comes out as r -/
structure IsR (e r : Int) : Prop where
  eq : e = r
section
variable {X : Cx}
theorem op_mulE : OpR X (binaryOp .Mult) (rI CMulE fun i j => .int (i * j)) := opI fun _ _ _ _ _ _ _ hc q => mul_int q (hc.elim CMul.ok CMulX.ok)
/-- a power, a shift to the left, with what comes out told by an equation -/
theorem op_powE : OpR X (binaryOp .Pow) (fun x y H Q => ∃ i j, x = .int i ∧ y = .int j ∧ CPow i j ∧ ∃ r, IsR (i ^ j.toNat) r ∧ Q (.int r) H) := by
  intro pins s σ H x y v u Q I rx ry h
  obtain ⟨i, j, rfl, rfl, c, r, ⟨rfl⟩, q⟩ := h
  exact op_pow pins s σ H _ _ v u Q I rx ry ⟨_, _, rfl, rfl, c, q⟩
theorem op_shlE : OpR X (binaryOp .LShift) (fun x y H Q => ∃ i j, x = .int i ∧ y = .int j ∧ CShl i j ∧ ∃ r, IsR (i * 2 ^ j.toNat) r ∧ Q (.int r) H) := by
  intro pins s σ H x y v u Q I rx ry h
  obtain ⟨i, j, rfl, rfl, c, r, ⟨rfl⟩, q⟩ := h
  exact op_shlW pins s σ H _ _ v u Q I rx ry ⟨_, _, rfl, rfl, c, q⟩
end
theorem posLen {n : Nat} (h : Nat.ble 1 n = true) : (0 : Int) < n := by
  have := Nat.le_of_ble_eq_true h
  omega
theorem ltLen {n : Nat} (h : Nat.ble n 1000 = true) : (n : Int) < 1606938044258990275541962092341162602522202993782792835301376 := by
  have := Nat.le_of_ble_eq_true h
  omega
theorem w200 {i m : Int} (h0 : 0 < m) (h : m  < 1606938044258990275541962092341162602522202993782792835301376) : CDivW i m := wide_div h0 (b := 200) (by omega) (by decide) (by decide)
theorem shl400 {i j : Int} (h : i.natAbs < 2 ^ 400) (h0 : 0 ≤ j) (h1 : j ≤ 1000) : CShl i j := by
  have e : j = (j.toNat : Int) := by omega
  rw [e]
  exact shl_ok h (by omega)
/-- a list of whole numbers with a property -/
def AllI (p : Int → Prop) (xs : List V) : Prop := ∀ v ∈ xs, ∃ i, v = .int i ∧ p i
theorem AllI.nil {p : Int → Prop} : AllI p [] := fun _ h => by cases h
theorem AllI.cons {p : Int → Prop} {i : Int} {xs : List V} (h : p i) (t : AllI p xs) : AllI p (.int i :: xs) := fun v hv => by
  rcases List.mem_cons.mp hv with e | e
  · exact ⟨i, e, h⟩
  · exact t v e
theorem AllI.app {p : Int → Prop} {xs ys : List V} (h : AllI p xs) (t : AllI p ys) : AllI p (xs ++ ys) := fun v hv => by
  rcases List.mem_append.mp hv with e | e
  · exact h v e
  · exact t v e
theorem AllI.pick {p : Int → Prop} {xs : List V} (h : AllI p xs) {r : Int} (h0 : 0 ≤ r) (h1 : r < xs.length) : ∃ i, atI xs r = some (.int i) ∧ p i := by
  have hk : r.toNat < xs.length := by omega
  obtain ⟨i, e, hp⟩ := h _ (List.getElem_mem hk)
  refine ⟨i, at_of (j := r.toNat) (by omega) ?_, hp⟩
  rw [List.getElem?_eq_getElem hk, e]
theorem mul_le {x y a b : Int} (x0 : 0 ≤ x) (x1 : x ≤ a) (y0 : 0 ≤ y) (y1 : y ≤ b) : 0 ≤ x * y ∧ x * y ≤ a * b :=
  ⟨Int.mul_nonneg x0 y0, Int.mul_le_mul x1 y1 y0 (Int.le_trans x0 x1)⟩
theorem pos_pow (s : Nat) : (0 : Int) < 2 ^ s := Int.pow_pos (by decide)
theorem ifD {c A B : Prop} [Decidable c] (h : c) (a : A) : if decide c = true then A else B := by
  rw [if_pos (decide_eq_true h)]
  exact a
theorem ifN {c A B : Prop} [Decidable c] (h : ¬ c) (b : B) : if decide c = true then A else B := by
  rw [if_neg (by rw [decide_eq_false h]; decide)]
  exact b
theorem ifDn {c A B : Prop} [Decidable c] (h : c) (b : B) : if (!decide c) = true then A else B := by
  rw [decide_eq_true h]
  exact iteF b
theorem ifNn {c A B : Prop} [Decidable c] (h : ¬ c) (a : A) : if (!decide c) = true then A else B := by
  rw [decide_eq_false h]
  exact iteT a
theorem ifE {x y : Int} {A B : Prop} (h : x = y) (a : A) : if decide (V.int x = V.int y) = true then A else B := ifD (by rw [h]) a
theorem ifNE {x y : Int} {A B : Prop} (h : ¬ x = y) (b : B) : if decide (V.int x = V.int y) = true then A else B := ifN (fun e => h (V.int.inj e)) b
theorem ifEn {x y : Int} {A B : Prop} (h : x = y) (b : B) : if (!decide (V.int x = V.int y)) = true then A else B := by
  rw [decide_eq_true (show V.int x = V.int y by rw [h])]
  exact iteF b
theorem ifNEn {x y : Int} {A B : Prop} (h : ¬ x = y) (a : A) : if (!decide (V.int x = V.int y)) = true then A else B := by
  rw [decide_eq_false (show ¬ V.int x = V.int y from fun e => h (V.int.inj e))]
  exact iteT a
/-- a source of draws stands at a -/
def Src (H : Hp) (a : Addr) : Prop := ∃ x y n : Int, H a = some (.lst [.int x, .int y, .int n])
/-- draws were made of the source at a -/
structure Dr (a : Addr) (H H' : Hp) : Prop where
  src : Src H' a
  but : SameBut a H H'
theorem Dr.trans {a : Addr} {H H1 H2 : Hp} (x : Dr a H H1) (y : Dr a H1 H2) : Dr a H H2 := ⟨y.src, x.but.trans y.but⟩
theorem Dr.refl {a : Addr} {H : Hp} (x : Src H a) : Dr a H H := ⟨x, .refl _ _⟩
theorem Src.new {a p : Addr} {H : Hp} {o : HO} (x : Src H a) (h : H p = none) : Src (upd H p o) a := by
  obtain ⟨u, v, n, e⟩ := x
  exact ⟨u, v, n, by rw [upd_ne (ne_of_none e h)]; exact e⟩
theorem Dr.new {a p : Addr} {H H1 : Hp} {o : HO} (x : Dr a H H1) (h : H1 p = none) : Dr a H (upd H1 p o) := ⟨x.src.new h, x.but.trans (sb_new h)⟩
theorem Src.ne {a p : Addr} {H : Hp} (x : Src H a) (h : H p = none) : p ≠ a := by
  obtain ⟨u, v, n, e⟩ := x
  exact (ne_of_none e h).symm
theorem Dr.free {a p : Addr} {H H1 : Hp} (x : Dr a H H1) (h : H1 p = none) : H p = none := by
  cases q : H p with
  | none => rfl
  | some o =>
    rw [x.but p o (x.src.ne h) q] at h
    cases h
theorem Dr.at {a p : Addr} {H H1 : Hp} {o : HO} (d : Dr a H H1) (n : p ≠ a) (h : H p = some o) : H1 p = some o := d.but p o n h
theorem upd_at {p q : Addr} {H : Hp} {o u : HO} (h : H p = some o) (n : H q = none) : upd H q u p = some o := (upd_ne (ne_of_none h n)).trans h
theorem upd_at' {p q : Addr} {H : Hp} {o u : HO} (h : H p = some o) (n : p ≠ q) : upd H q u p = some o := (upd_ne n).trans h
theorem Src.set {a p : Addr} {H : Hp} {o : HO} (x : Src H a) (n : p ≠ a) : Src (upd H p o) a := by
  obtain ⟨u, v, m, e⟩ := x
  exact ⟨u, v, m, by rw [upd_ne n.symm]; exact e⟩
theorem Dr.set {a p : Addr} {H H1 : Hp} {o : HO} (x : Dr a H H1) (h : H p = none) (n : p ≠ a) : Dr a H (upd H1 p o) := ⟨x.src.set n, fun b u nb e => by
  rw [upd_ne (ne_of_none e h)]
  exact x.but b u nb e⟩
theorem Dr.same {p : Addr} {H H1 : Hp} {o : HO} (d : Dr p (upd H p o) H1) (h : H p = none) : Same H H1 := fun b u e => by
  have n := ne_of_none e h
  exact d.but b u n (by rw [upd_ne n]; exact e)
theorem Src.made {p : Addr} {H : Hp} {x y n : Int} : Src (upd H p (.lst [.int x, .int y, .int n])) p := ⟨x, y, n, upd_same⟩
theorem Src.same {a : Addr} {H H' : Hp} (x : Src H a) (s : Same H H') : Src H' a := by
  obtain ⟨u, v, n, e⟩ := x
  exact ⟨u, v, n, s _ _ e⟩
end TK

/-! ### comprehensions whose elements change nothing -/
namespace TK
open PySem PySem.Spec PyProof.Rows L2
section
variable {K : PySem.W.Frag} {a : Addr} {g : TG} {tt : TT} {te : TE} {vs : List Nat} {σ : L2.St} {H : Hp} {D : Addr} {Qd : Hp → Prop}
theorem take_snoc {ys : List V} {i : Nat} {y : V} (h : ys[i]? = some y) : ys.take i ++ [y] = ys.take (i + 1) := by
  rw [List.take_add_one, h]
  rfl
theorem lc_listP {xs ys : List V} (hD : H D = none) (hl : SqL K H a xs) (n : ys.length = xs.length) (sz : ys.length ≤ sizeLine)
    (hs : ∀ (i : Nat) (x y : V) (R : V → Hp → Prop) (F : Hp → Prop), xs[i]? = some x → ys[i]? = some y → R y (upd H D (.lst (ys.take i))) →
      g x (wipe σ vs) (upd H D (.lst (ys.take i))) fun σ2 H2 => wipe σ2 vs = wipe σ vs ∧ tt σ2 H2 fun b H3 => if b = true then te σ2 H3 R else F H3)
    (hd : Qd (upd H D (.lst ys))) :
    ∃ W : Nat → Nat → Hp → Prop, (∃ m, W 0 m (upd H D (.lst []))) ∧ ∀ i m H, W i m H →
      ((Itl K a).stop i H ∧ Qd H) ∨ ((Itl K a).go i H ∧ ∃ Nx : Hp → Prop, (∀ H', Nx H' → ∃ m', m' < m ∧ W (i + 1) m' H') ∧ ∀ x H', (Itl K a).yld i H x H' → g x (wipe σ vs) H' fun σ2 H2 => wipe σ2 vs = wipe σ vs ∧ tt σ2 H2 fun b H3 =>
        if b = true then te σ2 H3 fun y H4 => ∃ acc, H4 D = some (.lst acc) ∧ acc.length < sizeLine ∧ Nx (upd H4 D (.lst (acc ++ [y]))) else Nx H3) := by
  refine lc_list (K := K) (a := a) (xs := xs) (H1 := H) (Qd := Qd) (fun i H' => H' = upd H D (.lst (ys.take i))) (by rw [List.take_zero]) (fun i H' _ e => ?_) (fun i x H' hx e => ?_) (fun H' e => ?_)
  · subst e
    exact (same_upd hD).seq hl
  · subst e
    have hi : i < xs.length := (List.getElem?_eq_some_iff.mp hx).1
    have hy : ys[i]? = some ys[i] := List.getElem?_eq_getElem (by omega)
    refine hs i x ys[i] _ _ hx hy ⟨ys.take i, upd_same, ?_, ?_⟩
    · rw [List.length_take]
      omega
    · rw [upd_upd, take_snoc hy]
  · subst e
    rw [List.take_of_length_le (by omega)]
    exact hd
theorem lc_rangeP {lo : Int} {m : Nat} {ys : List V} (hD : H D = none) (n : ys.length = m) (sz : ys.length ≤ sizeLine)
    (hs : ∀ (i : Nat) (y : V) (R : V → Hp → Prop) (F : Hp → Prop), i < m → ys[i]? = some y → R y (upd H D (.lst (ys.take i))) →
      g (.int (lo + i)) (wipe σ vs) (upd H D (.lst (ys.take i))) fun σ2 H2 => wipe σ2 vs = wipe σ vs ∧ tt σ2 H2 fun b H3 => if b = true then te σ2 H3 R else F H3)
    (hd : Qd (upd H D (.lst ys))) :
    ∃ W : Nat → Nat → Hp → Prop, (∃ m, W 0 m (upd H D (.lst []))) ∧ ∀ i k H, W i k H →
      ((Itr lo m).stop i H ∧ Qd H) ∨ ((Itr lo m).go i H ∧ ∃ Nx : Hp → Prop, (∀ H', Nx H' → ∃ m', m' < k ∧ W (i + 1) m' H') ∧ ∀ x H', (Itr lo m).yld i H x H' → g x (wipe σ vs) H' fun σ2 H2 => wipe σ2 vs = wipe σ vs ∧ tt σ2 H2 fun b H3 =>
        if b = true then te σ2 H3 fun y H4 => ∃ acc, H4 D = some (.lst acc) ∧ acc.length < sizeLine ∧ Nx (upd H4 D (.lst (acc ++ [y]))) else Nx H3) := by
  refine lc_range (H1 := H) (Qd := Qd) (fun i H' => H' = upd H D (.lst (ys.take i))) (by rw [List.take_zero]) (fun i H' hi e => ?_) (fun H' e => ?_)
  · subst e
    have hy : ys[i]? = some ys[i] := List.getElem?_eq_getElem (by omega)
    refine hs i ys[i] _ _ hi hy ⟨ys.take i, upd_same, ?_, ?_⟩
    · rw [List.length_take]
      omega
    · rw [upd_upd, take_snoc hy]
  · subst e
    rw [List.take_of_length_le (by omega)]
    exact hd
theorem rep_at {α : Type} {n i : Nat} {x y : α} (h : (List.replicate n x)[i]? = some y) : y = x := List.eq_of_mem_replicate (List.mem_of_getElem? h)
theorem rep_bl (n : Nat) : (List.replicate n true).map V.bl = List.replicate n (V.bl true) := List.map_replicate
theorem all_rep (n : Nat) : (List.replicate n true).all id = true := by
  rw [List.all_eq_true]
  intro x hx
  rw [List.eq_of_mem_replicate hx]
  rfl
/-- the numbers below n that pass p -/
def kept (p : Nat → Bool) (n : Nat) : List Nat := (List.range n).filter p
theorem kept_succ (p : Nat → Bool) (n : Nat) : kept p (n + 1) = if p n = true then kept p n ++ [n] else kept p n := by
  unfold kept
  rw [List.range_succ, List.filter_append]
  cases h : p n with
  | true => simp [h]
  | false => simp [h]
theorem kept_len (p : Nat → Bool) (n : Nat) : (kept p n).length ≤ n := by
  unfold kept
  exact Nat.le_trans (List.length_filter_le _ _) (by rw [List.length_range]; exact Nat.le_refl _)
theorem lc_rangeF {lo : Int} {m : Nat} {p : Nat → Bool} {f : Nat → V} (hD : H D = none) (sz : m ≤ sizeLine)
    (hs : ∀ (i : Nat) (R : V → Hp → Prop) (F : Hp → Prop), i < m → (p i = true → R (f i) (upd H D (.lst ((kept p i).map f)))) → (p i = false → F (upd H D (.lst ((kept p i).map f)))) →
      g (.int (lo + i)) (wipe σ vs) (upd H D (.lst ((kept p i).map f))) fun σ2 H2 => wipe σ2 vs = wipe σ vs ∧ tt σ2 H2 fun b H3 => if b = true then te σ2 H3 R else F H3)
    (hd : Qd (upd H D (.lst ((kept p m).map f)))) :
    ∃ W : Nat → Nat → Hp → Prop, (∃ m, W 0 m (upd H D (.lst []))) ∧ ∀ i k H, W i k H →
      ((Itr lo m).stop i H ∧ Qd H) ∨ ((Itr lo m).go i H ∧ ∃ Nx : Hp → Prop, (∀ H', Nx H' → ∃ m', m' < k ∧ W (i + 1) m' H') ∧ ∀ x H', (Itr lo m).yld i H x H' → g x (wipe σ vs) H' fun σ2 H2 => wipe σ2 vs = wipe σ vs ∧ tt σ2 H2 fun b H3 =>
        if b = true then te σ2 H3 fun y H4 => ∃ acc, H4 D = some (.lst acc) ∧ acc.length < sizeLine ∧ Nx (upd H4 D (.lst (acc ++ [y]))) else Nx H3) := by
  refine lc_range (H1 := H) (Qd := Qd) (fun i H' => H' = upd H D (.lst ((kept p i).map f))) rfl (fun i H' hi e => ?_) (fun H' e => ?_)
  · subst e
    refine hs i _ _ hi (fun hp => ⟨(kept p i).map f, upd_same, ?_, ?_⟩) (fun hp => ?_)
    · rw [List.length_map]
      have := kept_len p i
      omega
    · rw [upd_upd, kept_succ, if_pos hp, List.map_append]
      rfl
    · rw [kept_succ, if_neg (by rw [hp]; decide)]
  · subst e
    exact hd
end
end TK
/-! ### == of lists of whole numbers -/
namespace TK
open PySem PySem.Spec PyProof.Rows L2
section
variable {X : Cx} {K : PySem.W.Frag}
/-- within a comprehension the written part is the same -/
theorem ix_listK (h : X.K = K := by rfl) : IxR X (rIxL K) := by
  subst h
  exact ix_list
theorem ix_tupK (h : X.K = K := by rfl) : IxR X (rIxT K) := by
  subst h
  exact ix_tup
theorem pg_tupK {es : List Expr} {k : Nat} {t : TGs} (n : Nat) {pos : Pos} (h : PGs X es t) (hK : X.K = K := by rfl) (hc : X.calm = true := by rfl)
    (hn : (assignEach es X.env).length = n := by rfl) (hst : (assignEach es X.env).findIdx? (·.1) = none := by rfl) : PG X (.Tuple es k pos) (gTup K n t) := by
  subst hK
  exact pg_tup hc h hn hst
theorem call_lenK (h : X.K = K := by rfl) : CallR X (.builtin "len") (fun xs H Q => ∃ p ys, xs = [.ref p] ∧ (SqL K H p ys ∨ SqT K H p ys) ∧ Q (.int ys.length) H) := by
  subst h
  exact call_len_seq
end
theorem eqvAll_int : ∀ ns ms : List Int, PyData.eqvAll (ns.map PyData.int) (ms.map PyData.int) = decide (ns = ms)
  | [], [] => by simp [PyData.eqvAll]
  | [], _ :: _ => by simp [PyData.eqvAll]
  | _ :: _, [] => by simp [PyData.eqvAll]
  | a :: r, b :: t => by
    simp only [List.map_cons, PyData.eqvAll, PyData.eqv, eqvAll_int r t]
    by_cases h : a = b <;> by_cases h' : r = t <;> simp [h, h']
theorem lay_int : ∀ ns : List Int, PyData.canLayAll0 (ns.map PyData.int) = true
  | [] => rfl
  | _ :: r => by simp [PyData.canLayAll0, PyData.canLay0, lay_int r]
theorem deep_int : ∀ ns : List Int, PyData.depthAll (ns.map PyData.int) = 0
  | [] => rfl
  | _ :: r => by simp [PyData.depthAll, PyData.depth, deep_int r]
theorem shaped_int (ns : List Int) : SeqAt.shaped (.list (ns.map PyData.int)) = true := by
  simp [SeqAt.shaped, PyData.canLay0, PyData.depth, lay_int, deep_int]
theorem dpAll_int {K : PySem.W.Frag} {H : Hp} : ∀ ns : List Int, DpAll K H (ns.map V.int) (ns.map PyData.int)
  | [] => .nil
  | n :: r => .cons (.int n) (dpAll_int r)
section
variable {X : Cx}
theorem op_eqIL (hu : X.A.units + 64 < cLine) : OpR X (compareOp .Eq) (fun x y H Q => ∃ (a b : Addr) (ns ms : List Int), x = .ref a ∧ y = .ref b ∧ SqL X.K H a (ns.map V.int) ∧ SqL X.K H b (ms.map V.int) ∧ Q (.bl (decide (ns = ms))) H) := by
  intro pins s σ H x y v u Q I rx ry h
  obtain ⟨a, b, ns, ms, rfl, rfl, h1, h2, q⟩ := h
  refine op_eqD hu pins s σ H _ _ v u Q I rx ry ⟨_, _, .lst h1 (dpAll_int ns), .lst h2 (dpAll_int ms), shaped_int ns, shaped_int ms, ?_⟩
  rw [PyData.eqv, eqvAll_int]
  exact q
theorem op_neIL (hu : X.A.units + 64 < cLine) : OpR X (compareOp .NotEq) (fun x y H Q => ∃ (a b : Addr) (ns ms : List Int), x = .ref a ∧ y = .ref b ∧ SqL X.K H a (ns.map V.int) ∧ SqL X.K H b (ms.map V.int) ∧ Q (.bl (!decide (ns = ms))) H) := by
  intro pins s σ H x y v u Q I rx ry h
  obtain ⟨a, b, ns, ms, rfl, rfl, h1, h2, q⟩ := h
  refine op_neD hu pins s σ H _ _ v u Q I rx ry ⟨_, _, .lst h1 (dpAll_int ns), .lst h2 (dpAll_int ms), shaped_int ns, shaped_int ms, ?_⟩
  rw [PyData.eqv, eqvAll_int]
  exact q
end
theorem kept_first {p : Nat → Bool} {c n : Nat} (hp : p c = true) (hn : ∀ k, k < c → p k = false) (hc : c < n) : ∃ r, kept p n = c :: r := by
  have h0 : ∀ k, k ≤ c → kept p k = [] := by
    intro k
    induction k with
    | zero => intro _; rfl
    | succ k ih =>
      intro hk
      rw [kept_succ, if_neg (by rw [hn k (by omega)]; decide), ih (by omega)]
  have h1 : ∀ d, ∃ r, kept p (c + 1 + d) = c :: r := by
    intro d
    induction d with
    | zero => exact ⟨[], by rw [Nat.add_zero, kept_succ, if_pos hp, h0 c (Nat.le_refl _)]; rfl⟩
    | succ d ih =>
      obtain ⟨r, e⟩ := ih
      rw [show c + 1 + (d + 1) = (c + 1 + d) + 1 by omega, kept_succ, e]
      split
      · exact ⟨r ++ [c + 1 + d], rfl⟩
      · exact ⟨r, rfl⟩
  have := h1 (n - (c + 1))
  rw [show c + 1 + (n - (c + 1)) = n by omega] at this
  exact this
/-- the first n values of a function -/
def tab (f : Nat → Int) (n : Nat) : List Int := (List.range n).map f
theorem tab_len (f : Nat → Int) (n : Nat) : ((tab f n).map V.int).length = n := by
  unfold tab
  rw [List.length_map, List.length_map, List.length_range]
theorem tab_at {f : Nat → Int} {n i : Nat} {y : V} (h : ((tab f n).map V.int)[i]? = some y) : y = .int (f i) := by
  unfold tab at h
  rw [List.getElem?_map, List.getElem?_map] at h
  cases e : (List.range n)[i]? with
  | none => rw [e] at h; cases h
  | some k =>
    rw [e] at h
    obtain ⟨h1, h2⟩ := List.getElem?_eq_some_iff.mp e
    rw [List.getElem_range] at h2
    subst h2
    exact (Option.some.inj h).symm
theorem tab_get (f : Nat → Int) {n i : Nat} (h : i < n) : ((tab f n).map V.int)[i]? = some (.int (f i)) := by
  unfold tab
  rw [List.getElem?_map, List.getElem?_map, List.getElem?_range h]
  rfl
end TK
/-! ### a comprehension over zip; rows of pairs -/
namespace TK
open PySem PySem.Spec PyProof.Rows L2
section
variable {K : PySem.W.Frag} {a b : Addr} {g : TG} {tt : TT} {te : TE} {vs : List Nat} {σ : L2.St} {H : Hp} {D : Addr} {Qd : Hp → Prop}
theorem lc_zipS {xs ys zs : List V} (hD : H D = none) (hx : SqL K H a xs) (hy : SqL K H b ys) (n : zs.length = min xs.length ys.length) (sz : zs.length ≤ sizeLine)
    (hs : ∀ (i : Nat) (x y z : V) (T : Addr) (Hi : Hp) (R : V → Hp → Prop) (F : Hp → Prop), xs[i]? = some x → ys[i]? = some y → zs[i]? = some z → Same H Hi → Hi T = none → R z (upd Hi T (.tup [x, y])) →
      g (.ref T) (wipe σ vs) (upd Hi T (.tup [x, y])) fun σ2 H2 => wipe σ2 vs = wipe σ vs ∧ tt σ2 H2 fun b H3 => if b = true then te σ2 H3 R else F H3)
    (hd : ∀ H', Same H H' → H' D = some (.lst zs) → Qd H') :
    ∃ W : Nat → Nat → Hp → Prop, (∃ m, W 0 m (upd H D (.lst []))) ∧ ∀ i m H, W i m H →
      ((Itz K a b).stop i H ∧ Qd H) ∨ ((Itz K a b).go i H ∧ ∃ Nx : Hp → Prop, (∀ H', Nx H' → ∃ m', m' < m ∧ W (i + 1) m' H') ∧ ∀ x H', (Itz K a b).yld i H x H' → g x (wipe σ vs) H' fun σ2 H2 => wipe σ2 vs = wipe σ vs ∧ tt σ2 H2 fun b H3 =>
        if b = true then te σ2 H3 fun y H4 => ∃ acc, H4 D = some (.lst acc) ∧ acc.length < sizeLine ∧ Nx (upd H4 D (.lst (acc ++ [y]))) else Nx H3) := by
  refine ⟨fun i m H' => i + m = zs.length ∧ Same H H' ∧ H' D = some (.lst (zs.take i)), ⟨zs.length, by omega, same_upd hD, upd_same⟩, fun i m H' hW => ?_⟩
  obtain ⟨em, sm, eD⟩ := hW
  have hA : SqL K H' a xs := sm.seq hx
  have hB : SqL K H' b ys := sm.seq hy
  by_cases hi : i < zs.length
  · have h1 : i < xs.length := by omega
    have h2 : i < ys.length := by omega
    have g1 := List.getElem?_eq_getElem h1
    have g2 := List.getElem?_eq_getElem h2
    have g3 := List.getElem?_eq_getElem hi
    refine .inr ⟨⟨_, _, _, _, hA, hB, g1, g2⟩, fun H'' => Same H H'' ∧ H'' D = some (.lst (zs.take (i + 1))), fun H'' hN => ⟨m - 1, by omega, by omega, hN⟩, fun x H'' hy' => ?_⟩
    obtain ⟨T, x1, x2, rfl, nT, rfl, f1, f2⟩ := hy'
    have ex1 : x1 = xs[i] := Option.some.inj ((f1 _ hA).symm.trans g1)
    have ex2 : x2 = ys[i] := Option.some.inj ((f2 _ hB).symm.trans g2)
    subst ex1 ex2
    refine hs i _ _ zs[i] T H' _ _ g1 g2 g3 sm nT ⟨zs.take i, upd_at eD nT, ?_, ?_, ?_⟩
    · rw [List.length_take]
      omega
    · refine fun c o e => ?_
      rw [upd_ne (ne_of_none e hD)]
      exact same_upd nT _ _ (sm _ _ e)
    · rw [upd_same, take_snoc g3]
  · refine .inl ⟨⟨_, _, hA, hB, ?_⟩, hd _ sm ?_⟩
    · omega
    · rw [List.take_of_length_le (by omega)] at eD
      exact eD
end
theorem cut1 (xs : List V) : cutV xs (some 1) none = xs.drop 1 := by
  unfold cutV
  rw [show HT.sIx xs.length 0 (some 1) = min 1 xs.length from HT.sIx_nat xs.length 0 1, HT.sIx_none]
  cases xs with
  | nil => rfl
  | cons x r =>
    rw [show min 1 (x :: r).length = 1 by
      rw [List.length_cons]
      omega]
    show (List.take ((x :: r).length - 1) r) = r
    rw [List.length_cons, Nat.add_sub_cancel]
    exact List.take_length
/-- rows (i, m) as tuples -/
def Pairs (H : Hp) : List V → List (Int × Int) → Prop
  | [], [] => True
  | x :: xs, r :: rs => (∃ a, x = .ref a ∧ H a = some (.tup [.int r.1, .int r.2])) ∧ Pairs H xs rs
  | _, _ => False
theorem Pairs.same {H H' : Hp} (s : Same H H') : ∀ {xs : List V} {rs : List (Int × Int)}, Pairs H xs rs → Pairs H' xs rs
  | [], [], _ => trivial
  | _ :: _, _ :: _, h => ⟨by obtain ⟨a, e, h1⟩ := h.1; exact ⟨a, e, s _ _ h1⟩, Pairs.same s h.2⟩
  | [], _ :: _, h => h.elim
  | _ :: _, [], h => h.elim
/-- a list that is written over is none of the tuples -/
theorem Pairs.keep {H : Hp} {l : Addr} {ys zs : List V} (hl : H l = some (.lst ys)) : ∀ {xs : List V} {rs : List (Int × Int)}, Pairs H xs rs → Pairs (upd H l (.lst zs)) xs rs
  | [], [], _ => trivial
  | _ :: _, _ :: _, h => ⟨by
      obtain ⟨a, e, h1⟩ := h.1
      exact ⟨a, e, upd_at' h1 (ne_of h1 hl (by intro z; cases z))⟩, Pairs.keep hl h.2⟩
  | [], _ :: _, h => h.elim
  | _ :: _, [], h => h.elim
theorem Pairs.snoc {H : Hp} {p : Addr} {i m : Int} (hp : H p = some (.tup [.int i, .int m])) : ∀ {xs : List V} {rs : List (Int × Int)}, Pairs H xs rs → Pairs H (xs ++ [.ref p]) (rs ++ [(i, m)])
  | [], [], _ => ⟨⟨p, rfl, hp⟩, trivial⟩
  | _ :: _, _ :: _, h => ⟨h.1, Pairs.snoc hp h.2⟩
  | [], _ :: _, h => h.elim
  | _ :: _, [], h => h.elim
def pD (r : Int × Int) : PyData := .tuple [.int r.1, .int r.2]
theorem Pairs.dp {K : PySem.W.Frag} {H : Hp} : ∀ {xs : List V} {rs : List (Int × Int)}, Pairs H xs rs → DpAll K H xs (rs.map pD)
  | [], [], _ => .nil
  | _ :: _, _ :: _, h => by
    obtain ⟨a, e, h1⟩ := h.1
    subst e
    exact .cons (.tup (SqT.of h1) (.cons (.int _) (.cons (.int _) .nil))) (Pairs.dp h.2)
  | [], _ :: _, h => h.elim
  | _ :: _, [], h => h.elim
theorem lay_pairs : ∀ rs : List (Int × Int), PyData.canLayAll0 (rs.map pD) = true
  | [] => rfl
  | _ :: r => by simp [PyData.canLayAll0, PyData.canLay0, pD, lay_pairs r]
theorem deep_pairs : ∀ rs : List (Int × Int), PyData.depthAll (rs.map pD) ≤ 2
  | [] => by simp [PyData.depthAll]
  | _ :: r => by
    have := deep_pairs r
    simp [PyData.depthAll, PyData.depth, pD]
    omega
theorem shaped_pairs (rs : List (Int × Int)) : SeqAt.shaped (.list (rs.map pD)) = true := by
  have := deep_pairs rs
  simp [SeqAt.shaped, PyData.canLay0, PyData.depth, lay_pairs]
  omega
theorem Pairs.length {H : Hp} : ∀ {xs : List V} {rs : List (Int × Int)}, Pairs H xs rs → xs.length = rs.length
  | [], [], _ => rfl
  | _ :: _, _ :: _, h => by rw [List.length_cons, List.length_cons, Pairs.length h.2]
  | [], _ :: _, h => h.elim
  | _ :: _, [], h => h.elim
theorem eqv_pairs : ∀ rs ss : List (Int × Int), PyData.eqvAll (rs.map pD) (ss.map pD) = decide (rs = ss)
  | [], [] => by simp [PyData.eqvAll]
  | [], _ :: _ => by simp [PyData.eqvAll]
  | _ :: _, [] => by simp [PyData.eqvAll]
  | (a, b) :: r, (c, d) :: t => by
    simp only [List.map_cons, PyData.eqvAll, eqv_pairs r t]
    by_cases h1 : a = c <;> by_cases h2 : b = d <;> by_cases h' : r = t <;> simp [pD, PyData.eqv, PyData.eqvAll, h1, h2, h']
/-- a list of rows stands at l -/
structure Rows (H : Hp) (l : Addr) (rs : List (Int × Int)) : Prop where
  ex : ∃ xs, H l = some (.lst xs) ∧ Pairs H xs rs
theorem Rows.same {H H' : Hp} {l : Addr} {rs : List (Int × Int)} (s : Same H H') (h : Rows H l rs) : Rows H' l rs := by
  obtain ⟨xs, e, p⟩ := h.ex
  exact ⟨xs, s _ _ e, p.same s⟩
theorem Rows.add {H : Hp} {l t : Addr} {xs : List V} {rs : List (Int × Int)} {i m : Int} (hl : H l = some (.lst xs)) (p : Pairs H xs rs) (ht : H t = some (.tup [.int i, .int m])) : Rows (upd H l (.lst (xs ++ [.ref t]))) l (rs ++ [(i, m)]) :=
  ⟨_, upd_same, (Pairs.snoc ht p).keep hl⟩
section
variable {X : Cx}
theorem op_eqPL (hu : X.A.units + 64 < cLine) : OpR X (compareOp .Eq) (fun x y H Q => ∃ (a b : Addr) (rs ss : List (Int × Int)), x = .ref a ∧ y = .ref b ∧ Rows H a rs ∧ Rows H b ss ∧ Q (.bl (decide (rs = ss))) H) := by
  intro pins s σ H x y v u Q I rx ry h
  obtain ⟨a, b, ns, ms, rfl, rfl, ⟨⟨xs, h1, p1⟩⟩, ⟨⟨ys, h2, p2⟩⟩, q⟩ := h
  refine op_eqD hu pins s σ H _ _ v u Q I rx ry ⟨_, _, .lst (SqL.of h1) p1.dp, .lst (SqL.of h2) p2.dp, shaped_pairs ns, shaped_pairs ms, ?_⟩
  rw [PyData.eqv, eqv_pairs]
  exact q
theorem op_nePL (hu : X.A.units + 64 < cLine) : OpR X (compareOp .NotEq) (fun x y H Q => ∃ (a b : Addr) (rs ss : List (Int × Int)), x = .ref a ∧ y = .ref b ∧ Rows H a rs ∧ Rows H b ss ∧ Q (.bl (!decide (rs = ss))) H) := by
  intro pins s σ H x y v u Q I rx ry h
  obtain ⟨a, b, ns, ms, rfl, rfl, ⟨⟨xs, h1, p1⟩⟩, ⟨⟨ys, h2, p2⟩⟩, q⟩ := h
  refine op_neD hu pins s σ H _ _ v u Q I rx ry ⟨_, _, .lst (SqL.of h1) p1.dp, .lst (SqL.of h2) p2.dp, shaped_pairs ns, shaped_pairs ms, ?_⟩
  rw [PyData.eqv, eqv_pairs]
  exact q
end
end TK
namespace TK
open PySem PySem.Spec PyProof.Rows L2
/-- the i-th number of a list -/
def nth (ns : List Int) (i : Nat) : Int := ns.getD i 0
theorem nth_get {ns : List Int} {i : Nat} (h : i < ns.length) : (ns.map V.int)[i]? = some (.int (nth ns i)) := by
  unfold nth
  rw [List.getElem?_map, List.getElem?_eq_getElem h, List.getD_eq_getElem?_getD, List.getElem?_eq_getElem h]
  rfl
theorem nth_of {ns : List Int} {i : Nat} {y : V} (h : (ns.map V.int)[i]? = some y) : i < ns.length ∧ y = .int (nth ns i) := by
  have hi : i < ns.length := by
    have := (List.getElem?_eq_some_iff.mp h).1
    rw [List.length_map] at this
    exact this
  refine ⟨hi, ?_⟩
  rw [nth_get hi] at h
  exact (Option.some.inj h).symm
theorem at_nth {ns : List Int} {z : Int} (h0 : 0 ≤ z) (h1 : z < ns.length) : atI (ns.map V.int) z = some (.int (nth ns z.toNat)) := at_of (j := z.toNat) (by omega) (nth_get (by omega))
end TK
namespace TK
open PySem PySem.Spec PyProof.Rows L2
/-- a loop over zip of two lists, the shorter one's length -/
theorem for_zipS {K : PySem.W.Frag} {a b : Addr} {xs ys : List V} {g : TG} {tb : TS} {D : Ends} {σ : L2.St} {H : Hp} {n : Nat} (hn : n = min xs.length ys.length) (Pv : Nat → L2.St → Hp → Prop) (h0 : Pv 0 σ H)
    (hq : ∀ i σ H, Pv i σ H → SqL K H a xs ∧ SqL K H b ys)
    (hs : ∀ i x y T σ H, xs[i]? = some x → ys[i]? = some y → Pv i σ H → H T = none → g (.ref T) σ (upd H T (.tup [x, y])) fun σ2 H2 => tb { D with nx := Pv (i + 1), ct := Pv (i + 1), bk := D.nx } σ2 H2)
    (hd : ∀ σ H, Pv n σ H → D.nx σ H) :
    ∃ W : Nat → Nat → L2.St → Hp → Prop, (∃ m, W 0 m σ H) ∧ ∀ i m σ H, W i m σ H →
      ((Itz K a b).stop i H ∧ D.nx σ H) ∨ ((Itz K a b).go i H ∧ ∃ N : L2.St → Hp → Prop, (∀ σ' H', N σ' H' → ∃ m', m' < m ∧ W (i + 1) m' σ' H') ∧ ∀ v H', (Itz K a b).yld i H v H' → g v σ H' fun σ2 H2 => tb { D with nx := N, ct := N, bk := D.nx } σ2 H2) := by
  refine ⟨fun i m σ H => m = n - i ∧ i ≤ n ∧ Pv i σ H, ⟨n, by simp, Nat.zero_le _, h0⟩, ?_⟩
  rintro i m σ H ⟨rfl, hi, p⟩
  obtain ⟨hA, hB⟩ := hq i σ H p
  by_cases hlt : i < n
  · have h1 : i < xs.length := by omega
    have h2 : i < ys.length := by omega
    have g1 := List.getElem?_eq_getElem h1
    have g2 := List.getElem?_eq_getElem h2
    refine .inr ⟨⟨_, _, _, _, hA, hB, g1, g2⟩, Pv (i + 1), fun σ' H' p' => ⟨n - (i + 1), by omega, rfl, hlt, p'⟩, fun v H' hy => ?_⟩
    obtain ⟨T, x1, x2, rfl, nT, rfl, f1, f2⟩ := hy
    have ex1 : x1 = xs[i] := Option.some.inj ((f1 _ hA).symm.trans g1)
    have ex2 : x2 = ys[i] := Option.some.inj ((f2 _ hB).symm.trans g2)
    subst ex1 ex2
    exact hs i _ _ T σ H g1 g2 p nT
  · have e : i = n := by omega
    subst e
    exact .inl ⟨⟨_, _, hA, hB, by omega⟩, hd σ H p⟩
/-- a and b as a test, where b may add to the heap: what comes of False is told once -/
theorem and_cut {c : Bool} {T2 : Hp → (Bool → Hp → Prop) → Prop} {R : Bool → Hp → Prop} {H5 : Hp} (hr : ∀ H6, Same H5 H6 → R false H6) (ht : c = true → (∀ H6, Same H5 H6 → R false H6) → T2 H5 R) : if c = true then T2 H5 R else R false H5 := by
  cases c with
  | true => exact iteT (ht rfl hr)
  | false => exact iteF (hr H5 (Same.refl H5))
theorem cutLast (xs : List V) : cutV xs none (some (-1)) = xs.dropLast := by
  unfold cutV
  rw [HT.sIx_none]
  show (xs.drop 0).take ((if (-1 : Int) < 0 then (-1 + (xs.length : Int)).toNat else min (-1 : Int).toNat xs.length) - 0) = _
  rw [if_pos (by decide), List.drop_zero, List.dropLast_eq_take, show (-1 + (xs.length : Int)).toNat - 0 = xs.length - 1 by omega]
end TK
namespace TK
open PySem PySem.Spec PyProof.Rows L2
/-- while, with a number that falls; what comes of a turn is told once -/
theorem while_m {c : TT} {tb : TS} {D : Ends} {σ : L2.St} {H : Hp} (Pv : Nat → L2.St → Hp → Prop) {m0 : Nat} (h0 : Pv m0 σ H)
    (hs : ∀ m σ H, Pv m σ H → ∀ Bt : Hp → Prop, (∀ H1, tb { D with nx := fun σ' H' => ∃ m', m' < m ∧ Pv m' σ' H', ct := fun σ' H' => ∃ m', m' < m ∧ Pv m' σ' H', bk := D.nx } σ H1 → Bt H1) →
      c σ H fun b H1 => if b = true then Bt H1 else D.nx σ H1) : tWhile c tb D σ H :=
  ⟨Pv, ⟨m0, h0⟩, fun m σ H p => hs m σ H p _ (fun H1 h => ⟨_, fun σ' H' x => x, h⟩)⟩
/-- numbers of a list of numbers, by place -/
theorem mapI {f : Nat → Int} {l : List Nat} : l.map (fun k => V.int (f k)) = (l.map f).map V.int := by
  rw [List.map_map]
  rfl
theorem kept_nil {p : Nat → Bool} : ∀ {n : Nat}, (∀ k, k < n → p k = false) → kept p n = []
  | 0, _ => rfl
  | n + 1, h => by
    rw [kept_succ, if_neg (by rw [h n (by omega)]; decide)]
    exact kept_nil (fun k hk => h k (by omega))
theorem kept_last {p : Nat → Bool} {d n : Nat} (hp : p d = true) (hd : d < n) (hn : ∀ k, d < k → k < n → p k = false) : ∃ r, kept p n = r ++ [d] := by
  induction n with
  | zero => omega
  | succ n ih =>
    rw [kept_succ]
    by_cases e : d = n
    · subst e
      rw [if_pos hp]
      exact ⟨_, rfl⟩
    · rw [if_neg (by rw [hn n (by omega) (by omega)]; decide)]
      exact ih (by omega) (fun k h1 h2 => hn k h1 (by omega))
end TK
/-! ### comprehensions with a test, over lists and tuples -/
namespace TK
open PySem PySem.Spec PyProof.Rows L2
section
variable {K : PySem.W.Frag} {a : Addr} {g : TG} {tt : TT} {te : TE} {vs : List Nat} {σ : L2.St} {H : Hp} {D : Addr} {Qd : Hp → Prop}
theorem lc_itF {J : It} {xs : List V} {p : Nat → Bool} {f : Nat → V} (hD : H D = none) (jg : ∀ i H', Same H H' → i < xs.length → J.go i H') (jy : ∀ i H' x H'', Same H H' → J.yld i H' x H'' → H'' = H' ∧ xs[i]? = some x) (js : ∀ H', Same H H' → J.stop xs.length H') (sz : xs.length ≤ sizeLine)
    (hs : ∀ (i : Nat) (x : V) (R : V → Hp → Prop) (F : Hp → Prop), xs[i]? = some x → (p i = true → R (f i) (upd H D (.lst ((kept p i).map f)))) → (p i = false → F (upd H D (.lst ((kept p i).map f)))) →
      g x (wipe σ vs) (upd H D (.lst ((kept p i).map f))) fun σ2 H2 => wipe σ2 vs = wipe σ vs ∧ tt σ2 H2 fun b H3 => if b = true then te σ2 H3 R else F H3)
    (hd : Qd (upd H D (.lst ((kept p xs.length).map f)))) :
    ∃ W : Nat → Nat → Hp → Prop, (∃ m, W 0 m (upd H D (.lst []))) ∧ ∀ i m H, W i m H →
      (J.stop i H ∧ Qd H) ∨ (J.go i H ∧ ∃ Nx : Hp → Prop, (∀ H', Nx H' → ∃ m', m' < m ∧ W (i + 1) m' H') ∧ ∀ x H', J.yld i H x H' → g x (wipe σ vs) H' fun σ2 H2 => wipe σ2 vs = wipe σ vs ∧ tt σ2 H2 fun b H3 =>
        if b = true then te σ2 H3 fun y H4 => ∃ acc, H4 D = some (.lst acc) ∧ acc.length < sizeLine ∧ Nx (upd H4 D (.lst (acc ++ [y]))) else Nx H3) := by
  refine ⟨fun i m H' => i + m = xs.length ∧ H' = upd H D (.lst ((kept p i).map f)), ⟨xs.length, by omega, rfl⟩, fun i m H' hW => ?_⟩
  obtain ⟨em, e⟩ := hW
  have sm : Same H H' := by
    subst e
    exact same_upd hD
  by_cases hi : i < xs.length
  · refine .inr ⟨jg i H' sm hi, fun H'' => H'' = upd H D (.lst ((kept p (i + 1)).map f)), fun H'' hN => ⟨m - 1, by omega, by omega, hN⟩, fun x H'' hy => ?_⟩
    obtain ⟨e1, hx⟩ := jy i H' x H'' sm hy
    subst e1 e
    refine hs i x _ _ hx (fun hp => ⟨(kept p i).map f, upd_same, ?_, ?_⟩) (fun hp => ?_)
    · have := kept_len p i
      rw [List.length_map]
      omega
    · rw [upd_upd, kept_succ, if_pos hp, List.map_append]
      rfl
    · rw [kept_succ, if_neg (by rw [hp]; decide)]
  · have ei : i = xs.length := by omega
    subst ei e
    exact .inl ⟨js _ sm, hd⟩
theorem lc_listF {xs : List V} {p : Nat → Bool} {f : Nat → V} (hD : H D = none) (hl : SqL K H a xs) (sz : xs.length ≤ sizeLine)
    (hs : ∀ (i : Nat) (x : V) (R : V → Hp → Prop) (F : Hp → Prop), xs[i]? = some x → (p i = true → R (f i) (upd H D (.lst ((kept p i).map f)))) → (p i = false → F (upd H D (.lst ((kept p i).map f)))) →
      g x (wipe σ vs) (upd H D (.lst ((kept p i).map f))) fun σ2 H2 => wipe σ2 vs = wipe σ vs ∧ tt σ2 H2 fun b H3 => if b = true then te σ2 H3 R else F H3)
    (hd : Qd (upd H D (.lst ((kept p xs.length).map f)))) :
    ∃ W : Nat → Nat → Hp → Prop, (∃ m, W 0 m (upd H D (.lst []))) ∧ ∀ i m H, W i m H →
      ((Itl K a).stop i H ∧ Qd H) ∨ ((Itl K a).go i H ∧ ∃ Nx : Hp → Prop, (∀ H', Nx H' → ∃ m', m' < m ∧ W (i + 1) m' H') ∧ ∀ x H', (Itl K a).yld i H x H' → g x (wipe σ vs) H' fun σ2 H2 => wipe σ2 vs = wipe σ vs ∧ tt σ2 H2 fun b H3 =>
        if b = true then te σ2 H3 fun y H4 => ∃ acc, H4 D = some (.lst acc) ∧ acc.length < sizeLine ∧ Nx (upd H4 D (.lst (acc ++ [y]))) else Nx H3) :=
  lc_itF (J := Itl K a) hD (fun i H' sm hi => ⟨xs, _, sm.seq hl, List.getElem?_eq_getElem hi⟩) (fun i H' x H'' sm hy => ⟨hy.1, hy.2 _ (sm.seq hl)⟩) (fun H' sm => ⟨xs, sm.seq hl, Nat.le_refl _⟩) sz hs hd
theorem lc_tupF {xs : List V} {p : Nat → Bool} {f : Nat → V} (hD : H D = none) (hl : H a = some (.tup xs)) (sz : xs.length ≤ sizeLine)
    (hs : ∀ (i : Nat) (x : V) (R : V → Hp → Prop) (F : Hp → Prop), xs[i]? = some x → (p i = true → R (f i) (upd H D (.lst ((kept p i).map f)))) → (p i = false → F (upd H D (.lst ((kept p i).map f)))) →
      g x (wipe σ vs) (upd H D (.lst ((kept p i).map f))) fun σ2 H2 => wipe σ2 vs = wipe σ vs ∧ tt σ2 H2 fun b H3 => if b = true then te σ2 H3 R else F H3)
    (hd : Qd (upd H D (.lst ((kept p xs.length).map f)))) :
    ∃ W : Nat → Nat → Hp → Prop, (∃ m, W 0 m (upd H D (.lst []))) ∧ ∀ i m H, W i m H →
      ((Itt K a).stop i H ∧ Qd H) ∨ ((Itt K a).go i H ∧ ∃ Nx : Hp → Prop, (∀ H', Nx H' → ∃ m', m' < m ∧ W (i + 1) m' H') ∧ ∀ x H', (Itt K a).yld i H x H' → g x (wipe σ vs) H' fun σ2 H2 => wipe σ2 vs = wipe σ vs ∧ tt σ2 H2 fun b H3 =>
        if b = true then te σ2 H3 fun y H4 => ∃ acc, H4 D = some (.lst acc) ∧ acc.length < sizeLine ∧ Nx (upd H4 D (.lst (acc ++ [y]))) else Nx H3) :=
  lc_itF (J := Itt K a) hD (fun i H' sm hi => ⟨xs, _, SqT.of (sm _ _ hl), List.getElem?_eq_getElem hi⟩) (fun i H' x H'' sm hy => ⟨hy.1, hy.2 _ (SqT.of (sm _ _ hl))⟩) (fun H' sm => ⟨xs, SqT.of (sm _ _ hl), Nat.le_refl _⟩) sz hs hd
end
end TK
namespace TK
open PySem PySem.Spec PyProof.Rows L2
/-- a loop over enumerate of a list -/
theorem for_enumS {K : PySem.W.Frag} {a : Addr} {xs : List V} {g : TG} {tb : TS} {D : Ends} {σ : L2.St} {H : Hp} (Pv : Nat → L2.St → Hp → Prop) (h0 : Pv 0 σ H)
    (hq : ∀ i σ H, Pv i σ H → SqL K H a xs)
    (hs : ∀ i x T σ H, xs[i]? = some x → Pv i σ H → H T = none → g (.ref T) σ (upd H T (.tup [.int (i : Nat), x])) fun σ2 H2 => tb { D with nx := Pv (i + 1), ct := Pv (i + 1), bk := D.nx } σ2 H2)
    (hd : ∀ σ H, Pv xs.length σ H → D.nx σ H) :
    ∃ W : Nat → Nat → L2.St → Hp → Prop, (∃ m, W 0 m σ H) ∧ ∀ i m σ H, W i m σ H →
      ((Ite K a).stop i H ∧ D.nx σ H) ∨ ((Ite K a).go i H ∧ ∃ N : L2.St → Hp → Prop, (∀ σ' H', N σ' H' → ∃ m', m' < m ∧ W (i + 1) m' σ' H') ∧ ∀ v H', (Ite K a).yld i H v H' → g v σ H' fun σ2 H2 => tb { D with nx := N, ct := N, bk := D.nx } σ2 H2) := by
  refine ⟨fun i m σ H => m = xs.length - i ∧ i ≤ xs.length ∧ Pv i σ H, ⟨xs.length, by simp, Nat.zero_le _, h0⟩, ?_⟩
  rintro i m σ H ⟨rfl, hi, p⟩
  have hA := hq i σ H p
  by_cases hlt : i < xs.length
  · have g1 := List.getElem?_eq_getElem hlt
    refine .inr ⟨⟨_, _, hA, g1⟩, Pv (i + 1), fun σ' H' p' => ⟨xs.length - (i + 1), by omega, rfl, hlt, p'⟩, fun v H' hy => ?_⟩
    obtain ⟨T, x1, rfl, nT, rfl, f1⟩ := hy
    have ex1 : x1 = xs[i] := Option.some.inj ((f1 _ hA).symm.trans g1)
    subst ex1
    exact hs i _ T σ H g1 p nT
  · have e : i = xs.length := by omega
    subst e
    exact .inl ⟨⟨_, hA, by omega⟩, hd σ H p⟩
/-- a and b as a test, where b may change the heap: what comes of False is told once -/
theorem and_cutP {c : Bool} {T2 : Hp → (Bool → Hp → Prop) → Prop} {R : Bool → Hp → Prop} {H5 : Hp} (P : Hp → Prop) (h5 : P H5) (hr : ∀ H6, P H6 → R false H6) (ht : c = true → (∀ H6, P H6 → R false H6) → T2 H5 R) : if c = true then T2 H5 R else R false H5 := by
  cases c with
  | true => exact iteT (ht rfl hr)
  | false => exact iteF (hr H5 h5)
theorem ofF {A B : Prop} (h : if false = true then A else B) : B := by simpa using h
end TK
namespace TK
open PySem PySem.Spec PyProof.Rows L2
/-- an if whose two ways go on alike: what follows is told once -/
theorem ifs_cut {c : Bool} {tb tb2 : TS} {D : Ends} {σ : L2.St} {H : Hp} (Inv : L2.St → Hp → Prop) (hR : ∀ σ' H', Inv σ' H' → D.nx σ' H')
    (ht : c = true → (∀ σ' H', Inv σ' H' → D.nx σ' H') → tb D σ H) (he : c = false → (∀ σ' H', Inv σ' H' → D.nx σ' H') → tb2 D σ H) : if c = true then tb D σ H else tb2 D σ H := by
  cases c with
  | true => exact iteT (ht rfl hR)
  | false => exact iteF (he rfl hR)
end TK

/-! ### min with default=None -/
namespace TK
open PySem PySem.Spec PyProof.Rows L2
def rMinDef (K : PySem.W.Frag) : List V → List V → Hp → VK → Prop := fun vs zs H Q => ∃ (a : Addr) (ns : List Int), vs = [V.ref a] ∧ zs = [V.non] ∧ SqL K H a (ns.map V.int) ∧ (ns = [] → Q .non H) ∧ (∀ n r, ns = n :: r → Q (.int (r.foldl min n)) H)
theorem cr_minDef {X : Cx} (hc : X.calm = true) (hu : X.A.units + 64 < cLine) : CallRK X (.builtin "min") [Str.ofString "default"] (rMinDef X.K) := by
  intro pins s σ H vs zs us ws Q I r rz h
  obtain ⟨a, ns, rfl, rfl, hs, q0, q1⟩ := h
  obtain rfl := Vals.ref1 r
  obtain ⟨w1, rfl, e1⟩ := vals1 rz
  obtain rfl : w1 = Value.none := e1
  obtain ⟨its, rv, hl, _⟩ := I.list hs
  obtain ⟨as, ra⟩ := Dp.readsAll I (ns.map PyData.int) _ _ (dpAll_int ns) rv
  refine PySem.W.min_list_default (xs := ns.map PyData.int) (as := as) (I.ok.hd hc) hl.isList (by first | exact ra | (rw [List.toList_toArray]; exact ra)) ⟨?_, ?_⟩ (by rw [deep_int]; omega) (fun e h' tk hk => ?_) (fun y ys i v h' tk bs e hi rd hk => ?_)
  · intro x hx y hy
    obtain ⟨i, _, rfl⟩ := List.mem_map.mp hx
    obtain ⟨j, _, rfl⟩ := List.mem_map.mp hy
    rfl
  · intro x hx
    obtain ⟨i, _, rfl⟩ := List.mem_map.mp hx
    intro h
    cases h
  · exact ⟨.non, H, I.kept hk, rfl, q0 (List.map_eq_nil_iff.mp e)⟩
  · cases ns with
    | nil => cases e
    | cons n r2 =>
      rw [List.map_cons] at e
      injection e with e1 e2
      subst e1 e2
      rw [PySem.W.minD_ints] at rd
      cases rd
      exact ⟨.int _, H, I.kept hk, ⟨_, rfl⟩, q1 n r2 rfl⟩
end TK
namespace TK
open PySem PySem.Spec PyProof.Rows L2
def rMinT (K : PySem.W.Frag) : List V → Hp → VK → Prop := fun vs H Q => ∃ (a : Addr) (x y : Int), vs = [V.ref a] ∧ SqT K H a [V.int x, V.int y] ∧ Q (.int (min x y)) H
theorem cr_minT {X : Cx} (hc : X.calm = true) (hu : X.A.units + 64 < cLine) : CallR X (.builtin "min") (rMinT X.K) := by
  intro pins s σ H vs us Q I r h
  obtain ⟨a, x, y, rfl, hs, q⟩ := h
  obtain rfl := Vals.ref1 r
  obtain ⟨its, rv, hl, _⟩ := I.tuple hs
  obtain ⟨as, ra⟩ := Dp.readsAll I [PyData.int x, PyData.int y] _ _ (.cons (.int x) (.cons (.int y) .nil)) rv
  refine PySem.W.min_tuple_data (x := PyData.int x) (xs := [PyData.int y]) (as := as) (I.ok.hd hc) hl (by first | exact ra | (rw [List.toList_toArray]; exact ra)) ⟨?_, ?_⟩ (by simp [PyData.depthAll, PyData.depth]; omega) (fun i v h' tk bs hi rd hk => ?_)
  · intro x hx y hy
    simp only [List.mem_cons, List.mem_nil_iff, or_false] at hx hy
    rcases hx with rfl | rfl <;> rcases hy with rfl | rfl <;> rfl
  · intro x hx
    simp only [List.mem_cons, List.mem_nil_iff, or_false] at hx
    rcases hx with rfl | rfl <;> (intro h; cases h)
  · have e := PySem.W.minD_ints x [y]
    rw [List.map_cons, List.map_nil] at e
    rw [e] at rd
    cases rd
    exact ⟨.int _, H, I.kept hk, ⟨_, rfl⟩, q⟩
end TK

/-! ### sums of readings: the mathematics -/
namespace FS
def sumF (f : Nat → Int) : Nat → Int
  | 0 => 0
  | n + 1 => sumF f n + f n
theorem sumF_congr {f g : Nat → Int} : ∀ {n : Nat}, (∀ i, i < n → f i = g i) → sumF f n = sumF g n
  | 0, _ => rfl
  | n + 1, h => by
    unfold sumF
    rw [sumF_congr (fun i hi => h i (by omega)), h n (by omega)]
theorem sumF_left (f : Nat → Int) : ∀ n, sumF f (n + 1) = f 0 + sumF (fun i => f (i + 1)) n
  | 0 => by
    show 0 + f 0 = f 0 + 0
    omega
  | n + 1 => by
    show sumF f (n + 1) + f (n + 1) = f 0 + (sumF (fun i => f (i + 1)) n + f (n + 1))
    rw [sumF_left f n]
    omega
theorem sumF_rev (f : Nat → Int) : ∀ n, sumF f n = sumF (fun i => f (n - 1 - i)) n
  | 0 => rfl
  | n + 1 => by
    rw [sumF_left (fun i => f (n + 1 - 1 - i)) n]
    show sumF f n + f n = f n + sumF (fun i => f (n - (i + 1))) n
    rw [sumF_rev f n, sumF_congr (f := fun i => f (n - 1 - i)) (g := fun i => f (n - (i + 1))) (fun i hi => by
      show f (n - 1 - i) = f (n - (i + 1))
      congr 1
      omega)]
    omega
theorem sumF_add (f g : Nat → Int) : ∀ n, sumF (fun i => f i + g i) n = sumF f n + sumF g n
  | 0 => rfl
  | n + 1 => by
    unfold sumF
    rw [sumF_add f g n]
    omega
theorem sumF_const (c : Int) : ∀ n : Nat, sumF (fun _ => c) n = (n : Int) * c
  | 0 => by
    show (0 : Int) = ((0 : Nat) : Int) * c
    rw [Int.natCast_zero, Int.zero_mul]
  | n + 1 => by
    unfold sumF
    rw [sumF_const c n, show ((n + 1 : Nat) : Int) = (n : Int) + 1 from rfl, Int.add_mul, Int.one_mul]
theorem sumF_le {f g : Nat → Int} : ∀ {n : Nat}, (∀ i, i < n → f i ≤ g i) → sumF f n ≤ sumF g n
  | 0, _ => Int.le_refl _
  | n + 1, h => by
    unfold sumF
    have := sumF_le (f := f) (g := g) (n := n) (fun i hi => h i (by omega))
    have := h n (by omega)
    omega
/-- 0 + 1 + .. + (n - 1) -/
theorem sumF_tri : ∀ n : Nat, sumF (fun i => (i : Int)) n = (n : Int) * ((n : Int) - 1) / 2
  | 0 => rfl
  | n + 1 => by
    unfold sumF
    rw [sumF_tri n]
    have e : ((n + 1 : Nat) : Int) * (((n + 1 : Nat) : Int) - 1) = (n : Int) * ((n : Int) - 1) + (n : Int) * 2 := by
      rw [show ((n + 1 : Nat) : Int) = (n : Int) + 1 from rfl, Int.add_sub_cancel, Int.add_mul, Int.mul_sub, Int.one_mul, Int.mul_one]
      omega
    rw [e, Int.add_mul_ediv_right _ _ (by decide)]
theorem sumF_scale (c : Int) (f : Nat → Int) : ∀ n, sumF (fun i => f i * c) n = sumF f n * c
  | 0 => by
    show (0 : Int) = 0 * c
    rw [Int.zero_mul]
  | n + 1 => by
    unfold sumF
    rw [sumF_scale c f n, Int.add_mul]
/-- the sum of floors -/
def fs (n : Nat) (m a b : Int) : Int := sumF (fun x => (b + a * (x : Int)) / m) n
/-- whole parts go out -/
theorem fs_whole {m : Int} (hm : 0 < m) (n : Nat) (a b : Int) : fs n m a b = (n : Int) * ((n : Int) - 1) / 2 * (a / m) + (n : Int) * (b / m) + fs n m (a % m) (b % m) := by
  unfold fs
  have e : ∀ x : Nat, (b + a * (x : Int)) / m = ((x : Int) * (a / m) + b / m) + (b % m + a % m * (x : Int)) / m := fun x => by
    have e1 := Int.mul_ediv_add_emod a m
    have e2 := Int.mul_ediv_add_emod b m
    have e3 : b + a * (x : Int) = (b % m + a % m * (x : Int)) + m * ((x : Int) * (a / m) + b / m) := by
      have h1 : a * (x : Int) = (m * (a / m) + a % m) * (x : Int) := by rw [e1]
      rw [h1, Int.add_mul, Int.mul_add, Int.mul_comm (x : Int) (a / m), ← Int.mul_assoc]
      omega
    rw [e3, Int.add_mul_ediv_left _ _ (by omega), Int.add_comm]
  rw [sumF_congr (fun x _ => e x), sumF_add, sumF_add, sumF_const, sumF_scale (a / m) (fun i => (i : Int)), sumF_tri]
/-- the same, for k from 1 to K: (M - m k) / a -/
def down (m a : Int) : Nat → Int → Int
  | 0, _ => 0
  | k + 1, M => down m a k M + (M - m * ((k : Int) + 1)) / a
theorem down_sum (m a : Int) (M : Int) : ∀ k : Nat, down m a k M = sumF (fun i => (M - m * ((i : Int) + 1)) / a) k
  | 0 => rfl
  | k + 1 => by
    unfold down sumF
    rw [down_sum m a M k]
theorem down_step {m a : Int} (ha : 0 < a) (M : Int) : ∀ k : Nat, down m a k (M + a) = down m a k M + (k : Int)
  | 0 => rfl
  | k + 1 => by
    unfold down
    rw [down_step ha M k, show M + a - m * ((k : Int) + 1) = (M - m * ((k : Int) + 1)) + a * 1 by omega, Int.add_mul_ediv_left _ _ (by omega)]
    show _ = _ + ((k : Int) + 1)
    omega
/-- lattice points under a line, counted the other way -/
theorem fs_down {m a b : Int} (ha : 0 < a) (ham : a < m) (hb0 : 0 ≤ b) (hb1 : b < m) : ∀ n : Nat, fs n m a b = down m a ((a * (n : Int) + b) / m).toNat (a * (n : Int) + b)
  | 0 => by
    rw [Int.natCast_zero, Int.mul_zero, Int.zero_add, Int.ediv_eq_zero_of_lt hb0 hb1]
    rfl
  | n + 1 => by
    have hm : 0 < m := by omega
    have ih := fs_down ha ham hb0 hb1 n
    have e0 : a * ((n + 1 : Nat) : Int) + b = (a * (n : Int) + b) + a := by
      rw [show ((n + 1 : Nat) : Int) = (n : Int) + 1 from rfl, Int.mul_add, Int.mul_one]
      omega
    have n0 : 0 ≤ a * (n : Int) := Int.mul_nonneg (by omega) (by omega)
    have hf : fs (n + 1) m a b = fs n m a b + (a * (n : Int) + b) / m := by
      show sumF _ (n + 1) = _
      unfold sumF
      rw [Int.add_comm b]
      rfl
    rw [e0, hf, ih]
    have hM : 0 ≤ a * (n : Int) + b := by omega
    generalize a * (n : Int) + b = M at hM
    have e1 := Int.mul_ediv_add_emod M m
    have r0 := Int.emod_nonneg M (show m ≠ 0 by omega)
    have r1 := Int.emod_lt_of_pos M hm
    have q0 : 0 ≤ M / m := Int.ediv_nonneg hM (by omega)
    generalize M / m = q at e1 q0
    generalize M % m = r at e1 r0 r1
    have qq : ((q.toNat : Nat) : Int) = q := by omega
    by_cases h : r + a < m
    · have e2 : (M + a) / m = q := by
        rw [← e1, show m * q + r + a = (r + a) + m * q by omega, Int.add_mul_ediv_left _ _ (by omega), Int.ediv_eq_zero_of_lt (by omega) h, Int.zero_add]
      rw [e2, down_step ha, qq]
    · have e2 : (M + a) / m = q + 1 := by
        rw [← e1, show m * q + r + a = (r + a - m) + m * (q + 1) by rw [Int.mul_add, Int.mul_one]; omega, Int.add_mul_ediv_left _ _ (by omega), Int.ediv_eq_zero_of_lt (by omega) (by omega), Int.zero_add]
      rw [e2, show (q + 1).toNat = q.toNat + 1 by omega]
      show _ = down m a q.toNat (M + a) + (M + a - m * ((q.toNat : Int) + 1)) / a
      rw [down_step ha, qq, show M + a - m * (q + 1) = r + a - m by rw [Int.mul_add, Int.mul_one]; omega, Int.ediv_eq_zero_of_lt (by omega) (by omega), Int.add_zero]
/-- the flat rest, seen from the other axis -/
theorem fs_flip {m a b : Int} (ha : 0 ≤ a) (ham : a < m) (hb0 : 0 ≤ b) (hb1 : b < m) (n : Nat) : fs n m a b = fs ((a * (n : Int) + b) / m).toNat a m ((a * (n : Int) + b) % m) := by
  rcases Int.lt_or_le 0 a with h | h
  · rw [fs_down h ham hb0 hb1, down_sum, sumF_rev]
    have n0 : 0 ≤ a * (n : Int) := Int.mul_nonneg ha (by omega)
    have hM : 0 ≤ a * (n : Int) + b := by omega
    generalize a * (n : Int) + b = M at hM
    unfold fs
    have e1 := Int.mul_ediv_add_emod M m
    have q0 : 0 ≤ M / m := Int.ediv_nonneg hM (by omega)
    refine sumF_congr (fun i hi => ?_)
    congr 1
    have e2 : ((((M / m).toNat - 1 - i : Nat) : Int)) = M / m - 1 - (i : Int) := by omega
    rw [e2, show M / m - 1 - (i : Int) + 1 = M / m - (i : Int) by omega, Int.mul_sub]
    omega
  · have e : a = 0 := by omega
    subst e
    rw [Int.zero_mul, Int.zero_add, Int.ediv_eq_zero_of_lt hb0 hb1]
    unfold fs
    rw [sumF_congr (g := fun _ => 0) (fun i _ => by rw [Int.zero_mul, Int.add_zero]; exact Int.ediv_eq_zero_of_lt hb0 hb1), sumF_const, Int.mul_zero]
    rfl
/-- where a line is nowhere lower, the sum tells whether it reads more somewhere -/
theorem sumF_lt {f g : Nat → Int} : ∀ {n : Nat}, (∀ i, i < n → f i ≤ g i) → (sumF f n < sumF g n ↔ ∃ i, i < n ∧ f i < g i)
  | 0, _ => ⟨fun h => absurd h (Int.lt_irrefl _), fun ⟨i, h, _⟩ => absurd h (Nat.not_lt_zero _)⟩
  | n + 1, h => by
    have ih := sumF_lt (f := f) (g := g) (n := n) (fun i hi => h i (by omega))
    have hl := sumF_le (f := f) (g := g) (n := n) (fun i hi => h i (by omega))
    have hn := h n (by omega)
    unfold sumF
    constructor
    · intro hh
      by_cases e : f n < g n
      · exact ⟨n, by omega, e⟩
      · obtain ⟨i, hi, hx⟩ := ih.mp (by omega)
        exact ⟨i, by omega, hx⟩
    · rintro ⟨i, hi, hx⟩
      by_cases e : i = n
      · subst e
        omega
      · have := ih.mpr ⟨i, by omega, hx⟩
        omega
/-- how great a number is -/
def Sz (k : Nat) (i : Int) : Prop := i.natAbs < 2 ^ k
theorem Sz.mono {j k : Nat} {i : Int} (h : Sz j i) (l : j ≤ k) : Sz k i := Nat.lt_of_lt_of_le h (Nat.pow_le_pow_right (by decide) l)
theorem Sz.mul {j k : Nat} {x y : Int} (a : Sz j x) (b : Sz k y) : Sz (j + k) (x * y) := by
  unfold Sz at *
  rw [Int.natAbs_mul, Nat.pow_add]
  exact Nat.mul_lt_mul'' a b
theorem Sz.add {j : Nat} {x y : Int} (a : Sz j x) (b : Sz j y) : Sz (j + 1) (x + y) := by
  unfold Sz at *
  rw [Nat.pow_succ]
  omega
theorem Sz.sub {j : Nat} {x y : Int} (a : Sz j x) (b : Sz j y) : Sz (j + 1) (x - y) := by
  unfold Sz at *
  rw [Nat.pow_succ]
  omega
theorem Sz.of {j : Nat} {x y : Int} (b : Sz j y) (h0 : 0 ≤ x) (h1 : x ≤ y) : Sz j x := by
  unfold Sz at *
  omega
theorem Sz.div {j : Nat} {x m : Int} (a : Sz j x) (hm : 0 < m) : Sz j (x / m) := by
  unfold Sz at *
  rcases Int.lt_or_le x 0 with h | h
  · have h1 : x ≤ x / m := by
      refine Int.le_ediv_of_mul_le hm ?_
      have : x * m ≤ x * 1 := Int.mul_le_mul_of_nonpos_left (by omega) (by omega)
      omega
    have h2 : x / m < 0 := Int.ediv_lt_of_lt_mul hm (by omega)
    omega
  · have h1 := Int.ediv_le_self m h
    have h2 := Int.ediv_nonneg h (Int.le_of_lt hm)
    omega
theorem Sz.sum {f : Nat → Int} {j : Nat} : ∀ {n : Nat}, (∀ i, i < n → Sz j (f i)) → (sumF f n).natAbs ≤ n * 2 ^ j
  | 0, _ => by
    show (0 : Int).natAbs ≤ _
    omega
  | n + 1, h => by
    have := Sz.sum (f := f) (j := j) (n := n) (fun i hi => h i (by omega))
    have h2 : (f n).natAbs < 2 ^ j := h n (by omega)
    unfold sumF
    rw [Nat.add_mul]
    omega
end FS

/-! ### which line is ahead first: the mathematics -/
namespace FS
/-- what a line reads -/
def rd (v l z : Int) (c : Int) : Int := (v + l * c) / z
/-- the least number with a property, if there is one -/
def Least (P : Int → Prop) : Option Int → Prop
  | none => ∀ c, 0 ≤ c → ¬ P c
  | some n => 0 ≤ n ∧ P n ∧ ∀ c, 0 ≤ c → c < n → ¬ P c
theorem Least.uniq {P : Int → Prop} : ∀ {a b : Option Int}, Least P a → Least P b → a = b
  | none, none, _, _ => rfl
  | none, some n, h, k => absurd k.2.1 (h n k.1)
  | some n, none, h, k => absurd h.2.1 (k n h.1)
  | some n, some m, h, k => by
    rcases Int.lt_trichotomy n m with e | e | e
    · exact absurd h.2.1 (k.2.2 n h.1 e)
    · rw [e]
    · exact absurd k.2.1 (h.2.2 m k.1 e)
theorem Least.congr {P P' : Int → Prop} (h : ∀ c, 0 ≤ c → (P c ↔ P' c)) : ∀ {a : Option Int}, Least P a → Least P' a
  | none, k => fun c hc x => k c hc ((h c hc).mpr x)
  | some n, k => ⟨k.1, (h n k.1).mp k.2.1, fun c hc hn x => k.2.2 c hc hn ((h c hc).mpr x)⟩
theorem Least.ex (P : Int → Prop) : ∃ a, Least P a := by
  by_cases h : ∃ n : Nat, P (n : Int)
  · obtain ⟨n, hn⟩ := h
    induction n using Nat.strongRecOn with
    | ind n ih =>
      by_cases h2 : ∃ m : Nat, m < n ∧ P (m : Int)
      · obtain ⟨m, hm, hp⟩ := h2
        exact ih m hm hp
      · refine ⟨some (n : Int), by omega, hn, fun c hc hl hp => h2 ⟨c.toNat, by omega, ?_⟩⟩
        rw [show ((c.toNat : Nat) : Int) = c by omega]
        exact hp
  · refine ⟨none, fun c hc hp => h ⟨c.toNat, ?_⟩⟩
    rw [show ((c.toNat : Nat) : Int) = c by omega]
    exact hp
def st (g t u : Int) : Option (Int × Int) :=
  if 0 < t then some (max 0 (-g / t + 1), max (max 0 (-g / t + 1)) (-(-(u - g) / t)))
  else if g ≤ 0 then none
  else some (0, if t = 0 then u - 1 else (g - 1) / -t)
theorem ge_of {v1 v2 z : Int} (hz : 0 < z) (h : v2 ≤ v1) : v2 / z ≤ v1 / z := Int.ediv_le_ediv hz h
theorem gt_of {v1 v2 z : Int} (hz : 0 < z) (h : v2 / z < v1 / z) : v2 < v1 := by
  rcases Int.lt_or_le v2 v1 with a | a
  · exact a
  · have := Int.ediv_le_ediv hz a
    omega
theorem gap_eq {v1 l1 v2 l2 c : Int} : (v1 - v2) + (l1 - l2) * c = (v1 + l1 * c) - (v2 + l2 * c) := by
  rw [Int.sub_mul]
  omega
theorem rd_per {v l z c : Int} (hz : 0 < z) : rd v l z c = rd v l z (c % z) + l * (c / z) := by
  unfold rd
  have e := Int.mul_ediv_add_emod c z
  have e2 : v + l * c = (v + l * (c % z)) + z * (l * (c / z)) := by
    have h1 : l * c = l * (z * (c / z) + c % z) := by rw [e]
    rw [h1, Int.mul_add, ← Int.mul_assoc, ← Int.mul_assoc, Int.mul_comm l z]
    omega
  rw [e2, Int.add_mul_ediv_left _ _ (by omega)]
theorem st_none {v1 l1 v2 l2 z : Int} (hz : 0 < z) (h : st (v1 - v2) (l1 - l2) z = none) : ∀ c, 0 ≤ c → ¬ rd v2 l2 z c < rd v1 l1 z c := by
  intro c hc hx
  have h1 := gt_of hz hx
  have h2 := gap_eq (v1 := v1) (l1 := l1) (v2 := v2) (l2 := l2) (c := c)
  unfold st at h
  split at h
  · cases h
  · rename_i ht
    split at h
    · rename_i hg
      have h3 : (l1 - l2) * c ≤ 0 * c := Int.mul_le_mul_of_nonneg_right (by omega) hc
      rw [Int.zero_mul] at h3
      omega
    · cases h
theorem st_some {v1 l1 v2 l2 z a b : Int} (hz : 0 < z) (h : st (v1 - v2) (l1 - l2) z = some (a, b)) :
    0 ≤ a ∧ a ≤ b ∧ (∀ c, a ≤ c → c ≤ b → rd v2 l2 z c ≤ rd v1 l1 z c) ∧ (∀ c, 0 ≤ c → rd v2 l2 z c < rd v1 l1 z c → ∃ c', a ≤ c' ∧ c' ≤ b ∧ c' ≤ c ∧ rd v2 l2 z c' < rd v1 l1 z c') := by
  have hgap := fun c => gap_eq (v1 := v1) (l1 := l1) (v2 := v2) (l2 := l2) (c := c)
  generalize hg : v1 - v2 = g at h hgap
  generalize ht : l1 - l2 = t at h hgap
  unfold st at h
  split at h
  · rename_i t0
    have e := Option.some.inj h
    have ea : max 0 (-g / t + 1) = a := congrArg Prod.fst e
    have eb : max (max 0 (-g / t + 1)) (-(-(z - g) / t)) = b := congrArg Prod.snd e
    have up : ∀ c, 0 < g + t * c ↔ -g / t + 1 ≤ c := fun c => by
      have h1 : -g / t < c ↔ -g < c * t := Int.ediv_lt_iff_lt_mul t0
      rw [Int.mul_comm c t] at h1
      omega
    refine ⟨by omega, by omega, fun c h1 h2 => ?_, fun c hc hx => ?_⟩
    · have h3 := (up c).mpr (by omega)
      have h4 := hgap c
      exact ge_of hz (by omega)
    · have h1 := gt_of hz hx
      have h2 := (up c).mp (by have := hgap c; omega)
      by_cases hb : c ≤ b
      · exact ⟨c, by omega, hb, Int.le_refl _, hx⟩
      · refine ⟨b, by omega, Int.le_refl _, by omega, ?_⟩
        have h3 : -b ≤ -(z - g) / t := by omega
        rw [Int.le_ediv_iff_mul_le t0, Int.neg_mul, Int.mul_comm b t] at h3
        have h4 := hgap b
        unfold rd
        have h5 : (v2 + l2 * b) / z + 1 = (v2 + l2 * b + z * 1) / z := by rw [Int.add_mul_ediv_left _ _ (by omega)]
        have h6 : (v2 + l2 * b + z * 1) / z ≤ (v1 + l1 * b) / z := ge_of hz (by omega)
        omega
  · rename_i t0
    split at h
    · cases h
    · rename_i g0
      have e := Option.some.inj h
      have ea : (0 : Int) = a := congrArg Prod.fst e
      have eb : (if t = 0 then z - 1 else (g - 1) / -t) = b := congrArg Prod.snd e
      split at eb
      · rename_i tz
        have el : l1 = l2 := by omega
        subst el
        refine ⟨by omega, by omega, fun c h1 h2 => ge_of hz (by omega), fun c hc hx => ?_⟩
        have m0 := Int.emod_nonneg c (show z ≠ 0 by omega)
        have m1 := Int.emod_lt_of_pos c hz
        have m2 := Int.mul_ediv_add_emod c z
        have m3 := Int.mul_nonneg (Int.le_of_lt hz) (Int.ediv_nonneg hc (Int.le_of_lt hz))
        refine ⟨c % z, by omega, by omega, by omega, ?_⟩
        rw [rd_per (c := c) hz, rd_per (v := v1) (c := c) hz] at hx
        omega
      · rename_i tz
        have t1 : 0 < -t := by omega
        have dn : ∀ c, 0 < g + t * c ↔ c ≤ b := fun c => by
          have h1 : c ≤ (g - 1) / -t ↔ c * -t ≤ g - 1 := Int.le_ediv_iff_mul_le t1
          rw [Int.mul_neg, Int.mul_comm c t, eb] at h1
          omega
        have b0 : 0 ≤ b := by
          rw [← eb]
          exact Int.ediv_nonneg (by omega) (by omega)
        refine ⟨by omega, by omega, fun c h1 h2 => ?_, fun c hc hx => ?_⟩
        · have h3 := (dn c).mpr h2
          have h4 := hgap c
          exact ge_of hz (by omega)
        · have h1 := gt_of hz hx
          have h2 := (dn c).mp (by have := hgap c; omega)
          exact ⟨c, by omega, h2, Int.le_refl _, hx⟩
theorem st_size {g t z a b : Int} {k : Nat} (hz : 0 < z) (sg : Sz k g) (sz : Sz k z) (h : st g t z = some (a, b)) : Sz (k + 2) a ∧ Sz (k + 2) b := by
  have kp : (1 : Nat) ≤ 2 ^ k := Nat.one_le_two_pow
  have e2 : 2 ^ (k + 2) = 2 ^ k * 4 := by rw [Nat.pow_succ, Nat.pow_succ]; omega
  unfold st at h
  split at h
  · rename_i t0
    have e := Option.some.inj h
    have ea : max 0 (-g / t + 1) = a := congrArg Prod.fst e
    have eb : max (max 0 (-g / t + 1)) (-(-(z - g) / t)) = b := congrArg Prod.snd e
    have s1 : Sz k (-g / t) := Sz.div (by unfold Sz at *; omega) t0
    have s2 : Sz (k + 1) (-(z - g) / t) := Sz.div (by have := sz.sub sg; unfold Sz at *; omega) t0
    unfold Sz at *
    rw [Nat.pow_succ] at s2
    rw [e2]
    omega
  · rename_i t0
    split at h
    · cases h
    · rename_i g0
      have e := Option.some.inj h
      have ea : (0 : Int) = a := congrArg Prod.fst e
      have eb : (if t = 0 then z - 1 else (g - 1) / -t) = b := congrArg Prod.snd e
      split at eb
      · unfold Sz at *
        rw [e2]
        omega
      · have s1 : Sz k ((g - 1) / -t) := Sz.div (by unfold Sz at *; omega) (by omega)
        unfold Sz at *
        rw [e2]
        omega
/-- the sum over the first n tells whether one of them reads more -/
def ex (z hl hv ll lv : Int) (n : Nat) : Prop := fs n z ll lv < fs n z hl hv
theorem ex_iff {z hl hv ll lv : Int} {n m : Nat} (hm : n ≤ m) (h : ∀ i : Nat, i < m → rd lv ll z (i : Int) ≤ rd hv hl z (i : Int)) : ex z hl hv ll lv n ↔ ∃ i : Nat, i < n ∧ rd lv ll z (i : Int) < rd hv hl z (i : Int) := by
  unfold ex fs
  exact sumF_lt (f := fun x : Nat => (lv + ll * (x : Int)) / z) (g := fun x : Nat => (hv + hl * (x : Int)) / z) (fun i hi => h i (by omega))
theorem rd_shift {v l z a c : Int} : rd (v + l * a) l z c = rd v l z (a + c) := by
  unfold rd
  rw [Int.mul_add]
  congr 1
  omega
end FS
namespace FS
/-- how often two lines of one slope read unlike -/
def unl (v1 v2 l z : Int) (n : Nat) : Int := sumF (fun c : Nat => if rd v1 l z (c : Int) = rd v2 l z (c : Int) then 0 else 1) n
theorem unl_comm (v1 v2 l z : Int) (n : Nat) : unl v1 v2 l z n = unl v2 v1 l z n := by
  unfold unl
  refine sumF_congr (fun i _ => ?_)
  by_cases h : rd v1 l z (i : Int) = rd v2 l z (i : Int)
  · rw [if_pos h, if_pos h.symm]
  · rw [if_neg h, if_neg (fun e => h e.symm)]
theorem unl_far {lo hi l z : Int} (hz : 0 < z) (h : z ≤ hi - lo) (n : Nat) : unl lo hi l z n = (n : Int) := by
  unfold unl
  rw [sumF_congr (g := fun _ => 1) (fun i _ => ?_), sumF_const, Int.mul_one]
  rw [if_neg]
  intro e
  unfold rd at e
  have h1 : (lo + l * (i : Int) + z * 1) / z ≤ (hi + l * (i : Int)) / z := Int.ediv_le_ediv hz (by omega)
  rw [Int.add_mul_ediv_left _ _ (by omega)] at h1
  omega
theorem unl_near {lo hi l z : Int} (hz : 0 < z) (h0 : lo ≤ hi) (h : hi - lo < z) (n : Nat) : unl lo hi l z n = fs n z l hi - fs n z l lo := by
  have e : fs n z l hi = sumF (fun c : Nat => (rd lo l z (c : Int)) + (if rd lo l z (c : Int) = rd hi l z (c : Int) then 0 else 1)) n := by
    unfold fs
    refine sumF_congr (fun i _ => ?_)
    show rd hi l z (i : Int) = _
    have h1 : rd lo l z (i : Int) ≤ rd hi l z (i : Int) := Int.ediv_le_ediv hz (by omega)
    have h2 : rd hi l z (i : Int) ≤ rd lo l z (i : Int) + 1 := by
      unfold rd
      have : (hi + l * (i : Int)) / z ≤ (lo + l * (i : Int) + z * 1) / z := Int.ediv_le_ediv hz (by omega)
      rw [Int.add_mul_ediv_left _ _ (by omega)] at this
      exact this
    split
    · rename_i h
      omega
    · rename_i h
      omega
  rw [e, sumF_add]
  unfold unl
  show _ = _ + _ - fs n z l lo
  unfold fs rd
  omega
end FS

namespace My
open PySem PySem.Spec PyProof.Rows L2 TK
def topS (i : Nat) : Stmt := PySem.Challenge.pw_timekernel_k19_whole_partings_in_turn.main.body.getD i (.Pass ⟨0, 0, 0, 0⟩)
structure Txt (mg : Str → Option Value) : Prop where
  len : mg "len" = none
  int : mg "int" = none
  range : mg "range" = none
  isinstance : mg "isinstance" = none
  bool : mg "bool" = none
  tuple : mg "tuple" = none
  max : mg "max" = none
  min : mg "min" = none
  sorted : mg "sorted" = none
  enumerate : mg "enumerate" = none
  mgMOST_SHIFT : ∃ t, mg "MOST_SHIFT" = some (.int (64) t)
local macro_rules | `(tactic| walk_at "side") => `(tactic| first
  | with_reducible assumption
  | omega
  | (simp only [List.length_map]; omega)
  | ((with_reducible refine posLen ?h); (case h => exact rfl))
  | ((with_reducible refine ltLen ?h); (case h => exact rfl))
  | (show (0 : Int) < _; omega)
  | (show (0 : Int) ≤ _; omega)
  | with_reducible exact Dr.src (by assumption)
  | ((with_reducible refine Src.new ?h1 ?h2); (case h2 => assumption); (case h1 => walk_at "side"))
  | ((with_reducible refine Src.set ?h1 ?h2); (case h2 => assumption); (case h1 => walk_at "side"))
  | exact w200 (by omega) (by omega)
  | exact shl400 (by omega) (by omega) (by omega)
  | exact mulE1 (by omega) (by omega)
  | exact mulE2 (by omega) (by omega)
  | exact mulE3 (by omega) (by omega)
  | exact Or.inr ⟨by omega, by omega⟩
  | exact Or.inl ⟨by omega, by omega⟩
  | exact Or.inr ⟨by decide, by decide⟩
  | exact Or.inl ⟨by decide, by decide⟩
  | exact rfl
  | exact ⟨by omega, by omega, by omega⟩
  | exact ⟨by decide, by decide, by decide⟩
  | exact Nat.le_of_ble_eq_true rfl)
local macro_rules | `(tactic| walk_at "has") => `(tactic| first
  | with_reducible assumption
  | with_reducible exact upd_same
  | ((with_reducible refine upd_at ?h1 ?h2); (case h2 => assumption); (case h1 => walk_at "has"))
  | (refine Dr.at (by assumption) ?h1 ?h2; (case h1 => assumption); (case h2 => walk_at "has")))
local macro_rules | `(tactic| walk_at "sql") => `(tactic| first | assumption | exact SqL.of (by walk_at "has"))
local macro_rules | `(tactic| walk_at "sqt") => `(tactic| first | assumption | exact SqT.of (by walk_at "has"))
local macro_rules | `(tactic| walk_at "ty") => `(tactic| first | exact .base (.int _) | exact .base .non | exact .base (.bl _) | exact .base (.str _) | exact .base (.tup (by walk_at "has")) | exact .base (.lst (by walk_at "has")) | exact .base (.dK (by walk_at "has")))
local macro_rules | `(tactic| walk_at "go1") => `(tactic| first
  | refine ⟨_, rfl, ?_⟩
  | refine ⟨_, _, rfl, rfl, ?_⟩
  | (refine And.intro ?side ?_; (case side => walk_at "side"))
  | (refine ⟨?rr, IsR.mk ?eq, ?_⟩; (case eq => first | (conv => lhs; simp only [Int.reduceToNat, Int.reducePow, Int.reduceMul, Int.one_mul]) | rfl))
  | (refine Or.inl ⟨_, rfl, ?_⟩)
  | refine iteT ?_
  | refine iteF ?_
  | refine ⟨_, _, rfl, ?_⟩
  | refine ⟨_, _, rfl, Or.inl (by walk_at "sql"), ?_⟩
  | refine ⟨_, _, rfl, Or.inr (by walk_at "sqt"), ?_⟩
  | refine ⟨_, _, _, rfl, ?_⟩
  | refine ⟨_, _, _, _, rfl, rfl, by walk_at "sql", rfl, ?_⟩
  | refine ⟨_, _, _, _, rfl, rfl, by walk_at "sqt", rfl, ?_⟩
  | refine ⟨_, _, _, _, rfl, rfl, by walk_at "has", rfl, ?_⟩
  | refine ⟨_, _, _, _, _, rfl, .ty _, by walk_at "ty", kit_ty (r := true) (by decide +kernel), ?_⟩
  | refine ⟨_, _, _, _, _, rfl, .ty _, by walk_at "ty", kit_ty (r := false) (by decide +kernel), ?_⟩
  | refine ⟨_, _, rfl, by walk_at "sqt", rfl, ?_⟩
  | refine And.intro (Or.inl ⟨rfl, _, by walk_at "sql"⟩) ?_
  | refine ⟨_, _, _, rfl, rfl, by walk_at "has", Nat.le_of_ble_eq_true rfl, ?_⟩
  | refine ⟨_, _, _, _, rfl, rfl, by walk_at "has", by walk_at "has", Nat.le_of_ble_eq_true rfl, ?_⟩
  | refine And.intro ⟨_, by walk_at "sql"⟩ ?_
  | refine ⟨_, _, _, _, rfl, rfl, by walk_at "sql", at_nth (by omega) (by omega), ?_⟩
  | refine ⟨_, _, rfl, by walk_at "sql", ?_⟩
  | refine ifD (by omega) ?_
  | refine ifN (by omega) ?_
  | refine ifDn (by omega) ?_
  | refine ifNn (by omega) ?_
  | refine ifE (by omega) ?_
  | refine ifEn (by omega) ?_)
local macro_rules | `(tactic| walk_at "go") => `(tactic| repeat walk_at "go1")

/-! ### draws -/
def spCell (K : PySem.W.Frag) : Sp := fun vs H Q _ => ∃ (a : Addr) (ns : List Int) (k : Int), vs = [.ref a, .int k] ∧ SqL K H a (ns.map V.int) ∧ 0 ≤ k ∧ ∀ c : Int, Q (.int c) H
def spMixed : Sp := fun vs H Q _ => ∃ (c k : Int), vs = [.int c, .int k] ∧ ∀ r : Int, 0 ≤ r → r < 2147483563 → Q (.int r) H
def spSource (K : PySem.W.Frag) : Sp := fun vs H Q _ => ∃ (a : Addr) (ns : List Int) (k : Int), vs = [.ref a, .int k] ∧ SqL K H a (ns.map V.int) ∧ 0 ≤ k ∧ ∀ (p : Addr) (x y n : Int), H p = none → Q (.ref p) (upd H p (.lst [.int x, .int y, .int n]))
def spNext : Sp := fun vs H Q _ => ∃ (a : Addr) (m : Int), vs = [.ref a, .int m] ∧ Src H a ∧ 0 < m ∧ m  < 1606938044258990275541962092341162602522202993782792835301376 ∧ ∀ (r : Int) (H' : Hp), 0 ≤ r → r < m → Dr a H H' → Q (.int r) H'
section
variable {P : Program} {w : World} {K : PySem.W.Frag} {mg : Str → Option Value} {base : Heap}
abbrev sLCellAt : Stmt := topS 24
theorem scLCellAt : FnScope ["script", "k"] ["script", "k"] (defScope sLCellAt) := ⟨rfl, rfl, rfl, by decide +kernel, rfl, by decide +kernel, by decide +kernel⟩
set_option maxHeartbeats 2000000 in
theorem ok_LCellAt (D : DefAt K mg "_law_cell_at" sLCellAt ["script", "k"])  (T : Txt mg) : Cal P w K mg base "_law_cell_at" ["script", "k"] 1 (spCell K) := by
  refine D.cal scLCellAt (fun vs H Q E h => (by (obtain ⟨_, _, _, rfl, _⟩ := h); rfl)) (fun f cdv A outer s H vs Q E hr h => ?_)
  obtain ⟨a, ns, k, rfl, hS, h0, q⟩ := h
  refine ⟨_, pss_cons (ps_if (pt_cmpR op_lt (pv 1) (pe_callB call_len_seq (by rfl) T.len PySem.boot_len (pa_cons (pv 0) pa_nil)) (nomark _))
        (pss_one (ps_ret (pe_ix ix_list (pv 0) (pv 1) (fun _ _ => rfl))))
        pss_nil)
      (pss_one (ps_ret pe_int)), ?_⟩
  refine ⟨_, rfl, .ref a, rfl, a, _, rfl, .inl hS, _, _, rfl, rfl, _, rfl, ite2 (fun e => ?_) (fun e => ?_)⟩
  · have e1 : k < ((ns.map V.int).length : Int) := of_decide_eq_true e
    rw [List.length_map] at e1
    have hk : k.toNat < ns.length := by omega
    refine ⟨.ref a, rfl, _, rfl, a, _, k, .int (ns[k.toNat]), rfl, rfl, hS, at_of (j := k.toNat) (by omega) ?_, ?_⟩
    · rw [List.getElem?_map, List.getElem?_eq_getElem hk]
      rfl
    · exact q _
  · exact q _
abbrev sLMixed : Stmt := topS 25
theorem scLMixed : FnScope ["cell", "k", "low"] ["cell", "k"] (defScope sLMixed) := ⟨rfl, rfl, rfl, by decide +kernel, rfl, by decide +kernel, by decide +kernel⟩
set_option maxHeartbeats 2000000 in
theorem ok_LMixed (D : DefAt K mg "_law_mixed" sLMixed ["cell", "k"])  (T : Txt mg) : Cal P w K mg base "_law_mixed" ["cell", "k"] 1 (spMixed) := by
  refine D.cal scLMixed (fun vs H Q E h => (by (obtain ⟨_, _, rfl, _⟩ := h); rfl)) (fun f cdv A outer s H vs Q E hr h => ?_)
  obtain ⟨c, k, rfl, q⟩ := h
  refine ⟨_, pss_cons (ps_set (i := 2) scLMixed.nd rfl (Or.inl rfl) (pe_op op_add (pe_op op_mod (pe_callTy call_int1 (by rfl) T.int (by decide +kernel) (pa_cons (pv 0) pa_nil)) pe_int) (pe_op op_mulE (pe_op op_fdivW (pv 0) pe_int) pe_int)))
      (pss_cons (ps_set (i := 2) scLMixed.nd rfl (Or.inl rfl) (pe_op op_mod (pe_callTy call_int1 (by rfl) T.int (by decide +kernel) (pa_cons (pe_op op_mulE (pe_op op_add (pe_op op_add (pv 2) (pe_op op_mulE pe_int (pv 1))) pe_int) pe_int) pa_nil)) pe_int))
      (pss_cons (ps_set (i := 2) scLMixed.nd rfl (Or.inl rfl) (pe_op op_mod (pe_callTy call_int1 (by rfl) T.int (by decide +kernel) (pa_cons (pe_op op_mulE (pv 2) (pe_op op_add (pe_op op_add (pe_op op_fdivW (pv 2) pe_int) pe_int) (pv 1))) pa_nil)) pe_int))
      (pss_one (ps_ret (pe_op op_mod (pe_callTy call_int1 (by rfl) T.int (by decide +kernel) (pa_cons (pe_op op_mulE (pv 2) (pe_op op_add (pe_op op_fdivW (pv 2) pe_int) pe_int)) pa_nil)) pe_int))))), ?_⟩
  walk_at "go"
  exact q _ (Int.emod_nonneg _ (by decide)) (Int.emod_lt_of_pos _ (by decide))
abbrev sLSource : Stmt := topS 26
theorem scLSource : FnScope ["script", "k", "cell"] ["script", "k"] (defScope sLSource) := ⟨rfl, rfl, rfl, by decide +kernel, rfl, by decide +kernel, by decide +kernel⟩
set_option maxHeartbeats 2000000 in
theorem ok_LSource (D : DefAt K mg "_law_source" sLSource ["script", "k"]) (CLMixed : Cal P w K mg base "_law_mixed" ["cell", "k"] 1 (spMixed)) (CLCellAt : Cal P w K mg base "_law_cell_at" ["script", "k"] 1 (spCell K)) (T : Txt mg) : Cal P w K mg base "_law_source" ["script", "k"] 2 (spSource K) := by
  refine D.cal scLSource (fun vs H Q E h => (by (obtain ⟨_, _, _, rfl, _⟩ := h); rfl)) (fun f cdv A outer s H vs Q E hr h => ?_)
  obtain ⟨a, ns, k, rfl, hS, h0, q⟩ := h
  refine ⟨_, pss_cons (ps_if (pt_cmpR op_lt (pv 1) (pe_callB call_len_seq (by rfl) T.len PySem.boot_len (pa_cons (pv 0) pa_nil)) (nomark _))
        (pss_one (ps_ret (pe_lst (pa_cons (pe_ix ix_list (pv 0) (pv 1) (fun _ _ => rfl)) (pa_cons (pe_ix ix_list (pv 0) (pv 1) (fun _ _ => rfl)) (pa_cons pe_int pa_nil))))))
        pss_nil)
      (pss_cons (ps_set (i := 2) scLSource.nd rfl (Or.inl rfl) (pe_cal CLMixed hr (by rfl) (pa_cons (pe_cal CLCellAt hr (by rfl) (pa_cons (pv 0) (pa_cons pe_int pa_nil))) (pa_cons (pe_op op_add pe_int (pv 1)) pa_nil))))
      (pss_one (ps_ret (pe_lst (pa_cons (pv 2) (pa_cons (pv 2) (pa_cons pe_int pa_nil))))))), ?_⟩
  walk_at "go"
  refine ite2 (fun e => ?_) (fun e => ?_)
  · have e1 : k < ((ns.map V.int).length : Int) := of_decide_eq_true e
    rw [List.length_map] at e1
    have hk : k.toNat < ns.length := by omega
    have hv : (ns.map V.int)[k.toNat]? = some (.int (ns[k.toNat])) := by
      rw [List.getElem?_map, List.getElem?_eq_getElem hk]
      rfl
    have ek : k = (k.toNat : Int) := by omega
    refine ⟨.ref a, rfl, _, rfl, a, _, k, .int (ns[k.toNat]), rfl, rfl, hS, at_of ek hv, ?_⟩
    refine ⟨.ref a, rfl, _, rfl, a, _, k, .int (ns[k.toNat]), rfl, rfl, hS, at_of ek hv, ?_⟩
    walk_at "go"
    intro p hp
    exact q p _ _ _ hp
  · refine ⟨_, rfl, a, ns, 0, rfl, hS, by omega, fun c => ?_⟩
    walk_at "go"
    intro r r0 r1
    walk_at "go"
    intro p hp
    exact q p _ _ _ hp
abbrev sLNext : Stmt := topS 27
theorem scLNext : FnScope ["source", "many", "found"] ["source", "many"] (defScope sLNext) := ⟨rfl, rfl, rfl, by decide +kernel, rfl, by decide +kernel, by decide +kernel⟩
set_option maxHeartbeats 2000000 in
theorem ok_LNext (D : DefAt K mg "_law_next" sLNext ["source", "many"]) (CLMixed : Cal P w K mg base "_law_mixed" ["cell", "k"] 1 (spMixed)) (T : Txt mg) : Cal P w K mg base "_law_next" ["source", "many"] 2 (spNext) := by
  refine D.cal scLNext (fun vs H Q E h => (by (obtain ⟨_, _, rfl, _⟩ := h); rfl)) (fun f cdv A outer s H vs Q E hr h => ?_)
  obtain ⟨a, m, rfl, ⟨x, y, n, hS⟩, h0, h1, q⟩ := h
  refine ⟨_, pss_cons (ps_if (pt_cmpR op_ge (pe_ix ix_list (pv 0) pe_int (fun _ _ => rfl)) (pe_op op_powE pe_int pe_int) (nomark _))
        (pss_cons (ps_set (i := 2) scLNext.nd rfl (Or.inl rfl) (pe_op op_mod (pe_callTy call_int1 (by rfl) T.int (by decide +kernel) (pa_cons (pe_ix ix_list (pv 0) pe_int (fun _ _ => rfl)) pa_nil)) (pv 1)))
        (pss_cons (ps_asg (pe_op op_fdivW (pe_ix ix_list (pv 0) pe_int (fun _ _ => rfl)) (pv 1)) (pg_sub (pv 0) pe_int set_list))
        (pss_one (ps_ret (pv 2)))))
        pss_nil)
      (pss_cons (ps_asg (pe_op op_add (pe_ix ix_list (pv 0) pe_int (fun _ _ => rfl)) pe_int) (pg_sub (pv 0) pe_int set_list))
      (pss_one (ps_ret (pe_op op_mod (pe_callTy call_int1 (by rfl) T.int (by decide +kernel) (pa_cons (pe_cal CLMixed hr (by rfl) (pa_cons (pe_ix ix_list (pv 0) pe_int (fun _ _ => rfl)) (pa_cons (pe_ix ix_list (pv 0) pe_int (fun _ _ => rfl)) pa_nil))) pa_nil)) (pv 1))))), ?_⟩
  walk_at "go"
  refine ite2 (fun e => ?_) (fun e => ?_)
  · walk_at "go"
    refine q _ _ (Int.emod_nonneg _ (by omega)) (Int.emod_lt_of_pos _ h0) ⟨⟨_, _, _, upd_same⟩, sb_upd⟩
  · walk_at "go"
    intro r r0 r1
    walk_at "go"
    exact q _ _ (Int.emod_nonneg _ (by omega)) (Int.emod_lt_of_pos _ h0) ⟨⟨_, _, _, upd_same⟩, sb_upd⟩

/-! ### the program: lines -/
def spWithin : Sp := fun vs H Q _ => ∃ (x l g : Int), vs = [.int x, .int l, .int g] ∧ Q (.bl (decide (l ≤ x ∧ x ≤ g))) H
def spAtLeast : Sp := fun vs H Q _ => ∃ (x l : Int), vs = [.int x, .int l] ∧ Q (.bl (decide (l ≤ x))) H
def spIsInt : Sp := fun vs H Q _ => ∃ (x : Int), vs = [.int x] ∧ Q (.bl true) H
def spNat : Sp := fun vs H Q _ => ∃ (x : Int), vs = [.int x] ∧ 0 ≤ x ∧ Q .non H
def spRdg : Sp := fun vs H Q _ => ∃ (x : Int), vs = [.int x] ∧ Q .non H
def spUp : Sp := fun vs H Q _ => ∃ (x u : Int), vs = [.int x, .int u] ∧ CDivW (-x) u ∧ Q (.int (-(-x / u))) H
/-- a line stands at p -/
structure Line (H : Hp) (p : Addr) (v l s : Int) : Prop where
  at_ : H p = some (.tup [.int v, .int l, .int s])
  v0 : -2521728396569246669585858566409191283525103313309788586748690777871726193375821479130513040312634601011624191379636224 < v
  v1 : v < 2521728396569246669585858566409191283525103313309788586748690777871726193375821479130513040312634601011624191379636224
  l0 : 0 ≤ l
  l1 : l < 2521728396569246669585858566409191283525103313309788586748690777871726193375821479130513040312634601011624191379636224
  s0 : 0 ≤ s
  s1 : s ≤ 64
def spLine : Sp := fun vs H Q _ => ∃ (p : Addr) (v l s : Int), vs = [.ref p] ∧ Line H p v l s ∧ Q .non H
def spLineReading : Sp := fun vs H Q _ => ∃ (p : Addr) (v l s c : Int), vs = [.ref p, .int c] ∧ Line H p v l s ∧ 0 ≤ c ∧ CMulE l c ∧ Q (.int ((v + l * c) / 2 ^ s.toNat)) H
/-- the first cycle at which a line reads at least g -/
def fr (v l z g : Int) : Option Int := if g * z - v ≤ 0 then some 0 else if l = 0 then none else some (-(-(g * z - v) / l))
def optV : Option Int → V
  | none => .non
  | some i => .int i
def lastV : Option Int → V
  | none => .non
  | some i => .int (i - 1)
theorem not_iff {a b : Prop} (h : a ↔ b) : ¬ a ↔ ¬ b := ⟨fun x y => x (h.mpr y), fun x y => x (h.mp y)⟩
theorem w390 {i m : Int} (h0 : 0 < m) (h : m < 2521728396569246669585858566409191283525103313309788586748690777871726193375821479130513040312634601011624191379636224) : CDivW i m := wide_div h0 (b := 390) (by omega) (by decide) (by decide)
local macro_rules | `(tactic| walk_at "side") => `(tactic| exact w390 (by omega) (by omega))
theorem fr_some {v l z g a : Int} (hz : 0 < z) (hl : 0 ≤ l) (h : fr v l z g = some a) : 0 ≤ a ∧ ∀ n, 0 ≤ n → (g ≤ (v + l * n) / z ↔ a ≤ n) := by
  unfold fr at h
  have key : ∀ n : Int, g ≤ (v + l * n) / z ↔ g * z - v ≤ l * n := fun n => by
    rw [Int.le_ediv_iff_mul_le hz]
    omega
  split at h
  · rename_i h1
    cases h
    refine ⟨Int.le_refl _, fun n hn => ?_⟩
    rw [key]
    have := Int.mul_nonneg hl hn
    omega
  · rename_i h1
    split at h
    · cases h
    · rename_i h2
      cases h
      have hl2 : 0 < l := by omega
      have hc : ∀ n : Int, g * z - v ≤ l * n ↔ -(-(g * z - v) / l) ≤ n := fun n => by
        have e : (-n ≤ -(g * z - v) / l) ↔ (-n * l ≤ -(g * z - v)) := Int.le_ediv_iff_mul_le hl2
        rw [Int.neg_mul, Int.mul_comm n l] at e
        omega
      refine ⟨?_, fun n _ => by rw [key, hc]⟩
      have h3 := not_iff (hc (-1))
      have h4 : ¬ g * z - v ≤ l * -1 := by
        rw [Int.mul_neg, Int.mul_one]
        omega
      have := h3.mp h4
      omega
theorem fr_none {v l z g : Int} (hz : 0 < z) (h : fr v l z g = none) : l = 0 ∧ ∀ n, ¬ g ≤ (v + l * n) / z := by
  unfold fr at h
  split at h
  · cases h
  · rename_i h1
    split at h
    · rename_i h2
      refine ⟨h2, fun n => ?_⟩
      rw [Int.le_ediv_iff_mul_le hz, h2, Int.zero_mul]
      omega
    · cases h
def spFirstReach : Sp := fun vs H Q _ => ∃ (p : Addr) (v l s g : Int), vs = [.ref p, .int g] ∧ Line H p v l s ∧ -2521728396569246669585858566409191283525103313309788586748690777871726193375821479130513040312634601011624191379636224 < g ∧ g < 2521728396569246669585858566409191283525103313309788586748690777871726193375821479130513040312634601011624191379636224 ∧ Q (optV (fr v l (2 ^ s.toNat) g)) H
def spShowsRun : Sp := fun vs H Q _ => ∃ (p : Addr) (v l s g : Int), vs = [.ref p, .int g] ∧ Line H p v l s ∧ -2521728396569246669585858566409191283525103313309788586748690777871726193375821479130513040312634601011624191379636224 < g ∧ g + 1 < 2521728396569246669585858566409191283525103313309788586748690777871726193375821479130513040312634601011624191379636224 ∧
  (fr v l (2 ^ s.toNat) g = none ∨ fr v l (2 ^ s.toNat) g = fr v l (2 ^ s.toNat) (g + 1) → Q .non H) ∧
  (∀ a, fr v l (2 ^ s.toNat) g = some a → fr v l (2 ^ s.toNat) (g + 1) ≠ some a → ∀ t, H t = none → Q (.ref t) (upd H t (.tup [.int a, lastV (fr v l (2 ^ s.toNat) (g + 1))])))
abbrev sIsInteger : Stmt := topS 6
theorem scIsInteger : FnScope ["thing"] ["thing"] (defScope sIsInteger) := ⟨rfl, rfl, rfl, by decide +kernel, rfl, by decide +kernel, by decide +kernel⟩
set_option maxHeartbeats 2000000 in
theorem ok_IsInteger (D : DefAt K mg "is_integer" sIsInteger ["thing"])  (T : Txt mg) : Cal P w K mg base "is_integer" ["thing"] 1 (spIsInt) := by
  refine D.cal scIsInteger (fun vs H Q E h => (by (obtain ⟨_, rfl, _⟩ := h); rfl)) (fun f cdv A outer s H vs Q E hr h => ?_)
  obtain ⟨x, rfl, q⟩ := h
  refine ⟨_, pss_one (ps_ret (pe_and (pe_callB call_isi (by rfl) T.isinstance (by decide +kernel) (pa_cons (pv 0) (pa_cons (pe_bltn (v := .ty "int") (u := .type "int") (by rfl) T.int (by decide +kernel) rfl) pa_nil))) (pe_one (pe_not (pe_callB call_isi (by rfl) T.isinstance (by decide +kernel) (pa_cons (pv 0) (pa_cons (pe_bltn (v := .ty "bool") (u := .type "bool") (by rfl) T.bool (by decide +kernel) rfl) pa_nil))))))), ?_⟩
  walk_at "go"
  exact q
abbrev sIsWithin : Stmt := topS 7
theorem scIsWithin : FnScope ["thing", "least", "greatest"] ["thing", "least", "greatest"] (defScope sIsWithin) := ⟨rfl, rfl, rfl, by decide +kernel, rfl, by decide +kernel, by decide +kernel⟩
set_option maxHeartbeats 2000000 in
theorem ok_IsWithin (D : DefAt K mg "is_within" sIsWithin ["thing", "least", "greatest"]) (CIsInteger : Cal P w K mg base "is_integer" ["thing"] 1 (spIsInt)) (T : Txt mg) : Cal P w K mg base "is_within" ["thing", "least", "greatest"] 2 (spWithin) := by
  refine D.cal scIsWithin (fun vs H Q E h => (by (obtain ⟨_, _, _, rfl, _⟩ := h); rfl)) (fun f cdv A outer s H vs Q E hr h => ?_)
  obtain ⟨x, l, g, rfl, q⟩ := h
  refine ⟨_, pss_one (ps_ret (pe_and (pe_cal CIsInteger hr (by rfl) (pa_cons (pv 0) pa_nil)) (pe_one (pe_chain op_le op_le (pv 1) (pv 0) (pv 2))))), ?_⟩
  walk_at "go"
  refine ite2 (fun e => ?_) (fun e => ?_)
  · walk_at "go"
    have e1 : l ≤ x := of_decide_eq_true e
    have e2 : (decide (l ≤ x ∧ x ≤ g)) = decide (x ≤ g) := by
      by_cases h : x ≤ g <;> simp [e1, h]
    rw [e2] at q
    exact q
  · have e1 : ¬ l ≤ x := fun h => e (decide_eq_true h)
    rw [decide_eq_false (fun h => e1 h.1)] at q
    exact q
abbrev sIsAtLeast : Stmt := topS 8
theorem scIsAtLeast : FnScope ["thing", "least"] ["thing", "least"] (defScope sIsAtLeast) := ⟨rfl, rfl, rfl, by decide +kernel, rfl, by decide +kernel, by decide +kernel⟩
set_option maxHeartbeats 2000000 in
theorem ok_IsAtLeast (D : DefAt K mg "is_at_least" sIsAtLeast ["thing", "least"]) (CIsInteger : Cal P w K mg base "is_integer" ["thing"] 1 (spIsInt)) (T : Txt mg) : Cal P w K mg base "is_at_least" ["thing", "least"] 2 (spAtLeast) := by
  refine D.cal scIsAtLeast (fun vs H Q E h => (by (obtain ⟨_, _, rfl, _⟩ := h); rfl)) (fun f cdv A outer s H vs Q E hr h => ?_)
  obtain ⟨x, l, rfl, q⟩ := h
  refine ⟨_, pss_one (ps_ret (pe_and (pe_cal CIsInteger hr (by rfl) (pa_cons (pv 0) pa_nil)) (pe_one (pe_cmpR op_ge (pv 0) (pv 1) (nomark _))))), ?_⟩
  walk_at "go"
  exact q
abbrev sCheckCycle : Stmt := topS 9
theorem scCheckCycle : FnScope ["cycle"] ["cycle"] (defScope sCheckCycle) := ⟨rfl, rfl, rfl, by decide +kernel, rfl, by decide +kernel, by decide +kernel⟩
set_option maxHeartbeats 2000000 in
theorem ok_CheckCycle (D : DefAt K mg "check_cycle" sCheckCycle ["cycle"]) (CIsAtLeast : Cal P w K mg base "is_at_least" ["thing", "least"] 2 (spAtLeast)) (T : Txt mg) : Cal P w K mg base "check_cycle" ["cycle"] 3 (spNat) := by
  refine D.cal scCheckCycle (fun vs H Q E h => (by (obtain ⟨_, rfl, _⟩ := h); rfl)) (fun f cdv A outer s H vs Q E hr h => ?_)
  obtain ⟨x, rfl, h0, q⟩ := h
  refine ⟨_, pss_one (ps_if (pt_not (pt_val (pe_cal CIsAtLeast hr (by rfl) (pa_cons (pv 0) (pa_cons pe_int pa_nil)))))
        (pss_one ps_never)
        pss_nil), ?_⟩
  walk_at "go"
  exact q
abbrev sRoundedUp : Stmt := topS 10
theorem scRoundedUp : FnScope ["parts", "unit"] ["parts", "unit"] (defScope sRoundedUp) := ⟨rfl, rfl, rfl, by decide +kernel, rfl, by decide +kernel, by decide +kernel⟩
set_option maxHeartbeats 2000000 in
theorem ok_RoundedUp (D : DefAt K mg "rounded_up" sRoundedUp ["parts", "unit"])  (T : Txt mg) : Cal P w K mg base "rounded_up" ["parts", "unit"] 1 (spUp) := by
  refine D.cal scRoundedUp (fun vs H Q E h => (by (obtain ⟨_, _, rfl, _⟩ := h); rfl)) (fun f cdv A outer s H vs Q E hr h => ?_)
  obtain ⟨x, u, rfl, u0, q⟩ := h
  refine ⟨_, pss_one (ps_ret (pe_un un_neg (pe_op op_fdivW (pe_un un_neg (pv 0)) (pv 1)))), ?_⟩
  walk_at "go"
  exact q
abbrev sCheckLine : Stmt := topS 14
theorem scCheckLine : FnScope ["line", "value", "slope", "shift"] ["line"] (defScope sCheckLine) := ⟨rfl, rfl, rfl, by decide +kernel, rfl, by decide +kernel, by decide +kernel⟩
set_option maxHeartbeats 2000000 in
theorem ok_CheckLine (D : DefAt K mg "check_line" sCheckLine ["line"]) (CIsInteger : Cal P w K mg base "is_integer" ["thing"] 1 (spIsInt)) (CIsAtLeast : Cal P w K mg base "is_at_least" ["thing", "least"] 2 (spAtLeast)) (CIsWithin : Cal P w K mg base "is_within" ["thing", "least", "greatest"] 2 (spWithin)) (T : Txt mg) : Cal P w K mg base "check_line" ["line"] 4 (spLine) := by
  refine D.cal scCheckLine (fun vs H Q E h => (by (obtain ⟨_, _, _, _, rfl, _⟩ := h); rfl)) (fun f cdv A outer s H vs Q E hr h => ?_)
  obtain ⟨p, v, l, s, rfl, ⟨hR, v0, v1, l0, l1, s0, s1⟩, q⟩ := h
  refine ⟨_, pss_cons (ps_if (PW.pt (pw_or (pt_not (pt_val (pe_callB call_isi (by rfl) T.isinstance (by decide +kernel) (pa_cons (pv 0) (pa_cons (pe_bltn (v := .ty "tuple") (u := .type "tuple") (by rfl) T.tuple (by decide +kernel) rfl) pa_nil))))) (pw_or1 (pt_cmpR op_ne (pe_callB call_len_seq (by rfl) T.len PySem.boot_len (pa_cons (pv 0) pa_nil)) pe_int (nomark _)))))
        (pss_one ps_never)
        pss_nil)
      (pss_cons (ps_asg (pv 0) (pg_tup rfl (pgs_cons (pg_name (i := 1) scCheckLine.nd rfl (Or.inl rfl)) (pgs_cons (pg_name (i := 2) scCheckLine.nd rfl (Or.inl rfl)) (pgs_cons (pg_name (i := 3) scCheckLine.nd rfl (Or.inl rfl)) pgs_nil)))))
      (pss_one (ps_if (PW.pt (pw_or (pt_not (pt_val (pe_cal CIsInteger hr (by rfl) (pa_cons (pv 1) pa_nil)))) (pw_or (pt_not (pt_val (pe_cal CIsAtLeast hr (by rfl) (pa_cons (pv 2) (pa_cons pe_int pa_nil))))) (pw_or1 (pt_not (pt_val (pe_cal CIsWithin hr (by rfl) (pa_cons (pv 3) (pa_cons pe_int (pa_cons (pe_gint (by rfl) T.mgMOST_SHIFT) pa_nil))))))))))
        (pss_one ps_never)
        pss_nil))), ?_⟩
  walk_at "go"
  exact q

local macro_rules | `(tactic| walk_at "go1") => `(tactic| refine ⟨_, _, _, _, rfl, ⟨by walk_at "has", by omega, by omega, by omega, by omega, by omega, by omega⟩, ?_⟩)
local macro_rules | `(tactic| walk_at "go1") => `(tactic| refine ⟨_, _, _, _, _, rfl, ⟨by walk_at "has", by omega, by omega, by omega, by omega, by omega, by omega⟩, ?_⟩)
abbrev sLineReading : Stmt := topS 15
theorem scLineReading : FnScope ["line", "cycle", "value", "slope", "shift"] ["line", "cycle"] (defScope sLineReading) := ⟨rfl, rfl, rfl, by decide +kernel, rfl, by decide +kernel, by decide +kernel⟩
set_option maxHeartbeats 2000000 in
theorem ok_LineReading (D : DefAt K mg "line_reading" sLineReading ["line", "cycle"]) (CCheckLine : Cal P w K mg base "check_line" ["line"] 4 (spLine)) (CCheckCycle : Cal P w K mg base "check_cycle" ["cycle"] 3 (spNat)) (T : Txt mg) : Cal P w K mg base "line_reading" ["line", "cycle"] 5 (spLineReading) := by
  refine D.cal scLineReading (fun vs H Q E h => (by (obtain ⟨_, _, _, _, _, rfl, _⟩ := h); rfl)) (fun f cdv A outer s H vs Q E hr h => ?_)
  obtain ⟨p, v, l, s, c, rfl, ⟨hR, v0, v1, l0, l1, s0, s1⟩, c0, c1, q⟩ := h
  refine ⟨_, pss_cons (ps_expr (pe_cal CCheckLine hr (by rfl) (pa_cons (pv 0) pa_nil)))
      (pss_cons (ps_expr (pe_cal CCheckCycle hr (by rfl) (pa_cons (pv 1) pa_nil)))
      (pss_cons (ps_asg (pv 0) (pg_tup rfl (pgs_cons (pg_name (i := 2) scLineReading.nd rfl (Or.inl rfl)) (pgs_cons (pg_name (i := 3) scLineReading.nd rfl (Or.inl rfl)) (pgs_cons (pg_name (i := 4) scLineReading.nd rfl (Or.inl rfl)) pgs_nil)))))
      (pss_one (ps_ret (pe_op op_shr (pe_op op_add (pv 2) (pe_op op_mulE (pv 3) (pv 1))) (pv 4)))))), ?_⟩
  walk_at "go"
  exact q
/-! ### the program: sums of readings -/
theorem mulSz {i j : Int} (h0 : FS.Sz 16000 i) (h1 : FS.Sz 16000 j) : CMulE i j := .inr (mulx_ok h0 h1 (by decide))
theorem divSz {i u : Int} (h : 0 < u) (h1 : FS.Sz 8000 u) : CDivW i u := wide_div h (b := 8000) h1 (by decide) (by decide)
def spFloorSum : Sp := fun vs H Q _ => ∃ (n u a b : Int), vs = [.int n, .int u, .int a, .int b] ∧ 0 ≤ n ∧ 1 ≤ u ∧ 0 ≤ a ∧ FS.Sz 4000 n ∧ FS.Sz 4000 u ∧ FS.Sz 4000 a ∧ FS.Sz 4000 b ∧ Q (.int (FS.fs n.toNat u a b)) H
abbrev sFloorSum : Stmt := topS 12
theorem scFloorSum : FnScope ["many", "unit", "slope", "value", "total", "most"] ["many", "unit", "slope", "value"] (defScope sFloorSum) := ⟨rfl, rfl, rfl, by decide +kernel, rfl, by decide +kernel, by decide +kernel⟩
set_option maxHeartbeats 2000000 in
theorem ok_FloorSum (D : DefAt K mg "floor_sum" sFloorSum ["many", "unit", "slope", "value"])  (T : Txt mg) : Cal P w K mg base "floor_sum" ["many", "unit", "slope", "value"] 1 (spFloorSum) := by
  refine D.cal scFloorSum (fun vs H Q E h => (by (obtain ⟨_, _, _, _, rfl, _⟩ := h); rfl)) (fun f cdv A outer s H vs Q E hr h => ?_)
  obtain ⟨n, u, a, b, rfl, n0, u0, a0, sn, su, sa, sb, q⟩ := h
  refine ⟨_, pss_cons (ps_set (i := 4) scFloorSum.nd rfl (Or.inl rfl) pe_int)
      (pss_cons (ps_while PassesOwn.never (pt_cmpR op_gt (pv 0) pe_int (nomark _))
        (pss_cons (ps_aug (i := 4) scFloorSum.nd rfl (Or.inl rfl) (pe_op op_add (pe_op op_mulE (pe_op op_fdivW (pe_op op_mulE (pv 0) (pe_op op_sub (pv 0) pe_int)) pe_int) (pe_op op_fdivW (pv 2) (pv 1))) (pe_op op_mulE (pv 0) (pe_op op_fdivW (pv 3) (pv 1)))) ip_add)
        (pss_cons (ps_set (i := 2) scFloorSum.nd rfl (Or.inl rfl) (pe_op op_mod (pv 2) (pv 1)))
        (pss_cons (ps_set (i := 3) scFloorSum.nd rfl (Or.inl rfl) (pe_op op_mod (pv 3) (pv 1)))
        (pss_cons (ps_set (i := 5) scFloorSum.nd rfl (Or.inl rfl) (pe_op op_add (pe_op op_mulE (pv 2) (pv 0)) (pv 3)))
        (pss_cons (ps_set (i := 0) scFloorSum.nd rfl (Or.inl rfl) (pe_op op_fdivW (pv 5) (pv 1)))
        (pss_cons (ps_set (i := 3) scFloorSum.nd rfl (Or.inl rfl) (pe_op op_mod (pv 5) (pv 1)))
        (pss_one (ps_par (i := 2) (j := 1) (by rfl) scFloorSum.nd rfl rfl (by decide) rfl rfl (pa_cons (pv 1) (pa_cons (pv 2) pa_nil)) (by rfl))))))))))
      (pss_one (ps_ret (pv 4)))), ?_⟩
  walk_at "go"
  refine while_m (fun m σ H' => ∃ (n u a b t : Int) (v5 : Option V), σ = [some (.int n), some (.int u), some (.int a), some (.int b), some (.int t), v5] ∧ H' = H ∧ 0 ≤ n ∧ 0 ≤ u ∧ (0 < n → 1 ≤ u) ∧ 0 ≤ a ∧ FS.Sz 4000 n ∧ FS.Sz 4000 u ∧ FS.Sz 4000 a ∧ FS.Sz 4000 b ∧ (∀ r, r = t + FS.fs n.toNat u a b → Q (.int r) H) ∧ m = u.toNat)
    ⟨n, u, a, b, 0, none, rfl, rfl, n0, by omega, fun _ => u0, a0, sn, su, sa, sb, fun r e => by rw [e, Int.zero_add]; exact q, rfl⟩ (fun m σ H' ⟨n, u, a, b, t, v5, e, eH, n0, u0, nu, a0, sn, su, sa, sb, q, em⟩ Bt hB => ?_)
  subst e eH
  walk_at "go"
  refine ite2 (fun e => ?_) (fun e => ?_)
  · have hn : 0 < n := of_decide_eq_true e
    have hu := nu hn
    refine hB _ ?_
    have s1 : FS.Sz 4001 (n - 1) := sn.sub (FS.Sz.mono (j := 1) (by unfold FS.Sz; decide) (by decide))
    have s2 : FS.Sz 8001 (n * (n - 1)) := sn.mul s1
    have s3 : FS.Sz 8001 (n * (n - 1) / 2) := s2.div (by decide)
    have w0 := Int.emod_nonneg a (show u ≠ 0 by omega)
    have w1 := Int.emod_lt_of_pos a (show 0 < u by omega)
    have w2 := Int.emod_nonneg b (show u ≠ 0 by omega)
    have w3 := Int.emod_lt_of_pos b (show 0 < u by omega)
    have hsum := FS.fs_whole (show 0 < u by omega) n.toNat a b
    rw [FS.fs_flip w0 w1 w2 w3, show ((n.toNat : Nat) : Int) = n by omega] at hsum
    have sA : FS.Sz 4000 (a % u) := su.of w0 (by omega)
    have sM : 0 ≤ a % u * n + b % u := by
      have := Int.mul_nonneg w0 (show 0 ≤ n by omega)
      omega
    have hM : (a % u * n + b % u) / u ≤ n := by
      have h1 : a % u * n ≤ (u - 1) * n := Int.mul_le_mul_of_nonneg_right (by omega) (by omega)
      rw [Int.sub_mul, Int.one_mul] at h1
      have h2 : (a % u * n + b % u) / u < n + 1 := by
        refine Int.ediv_lt_of_lt_mul (by omega) ?_
        rw [Int.add_mul, Int.one_mul, Int.mul_comm n u]
        omega
      omega
    have hM0 := Int.ediv_nonneg sM (show 0 ≤ u by omega)
    have m0 := Int.emod_nonneg (a % u * n + b % u) (show u ≠ 0 by omega)
    have m1 := Int.emod_lt_of_pos (a % u * n + b % u) (show 0 < u by omega)
    walk_at "go"
    refine And.intro (mulSz (sn.mono (by decide)) (s1.mono (by decide))) ?_
    walk_at "go"
    refine And.intro (divSz (by omega) (su.mono (by decide))) ?_
    walk_at "go"
    refine And.intro (mulSz (s3.mono (by decide)) ((sa.div (by omega)).mono (by decide))) ?_
    walk_at "go"
    refine And.intro (divSz (by omega) (su.mono (by decide))) ?_
    walk_at "go"
    refine And.intro (mulSz (sn.mono (by decide)) ((sb.div (by omega)).mono (by decide))) ?_
    walk_at "go"
    refine And.intro (mulSz (sA.mono (by decide)) (sn.mono (by decide))) ?_
    walk_at "go"
    refine And.intro (divSz (by omega) (su.mono (by decide))) ?_
    walk_at "go"
    exact ⟨_, by omega, _, _, _, _, _, _, rfl, rfl, hM0, w0, fun h => by
      rcases Int.lt_or_le 0 (a % u) with h1 | h1
      · omega
      · exfalso
        have e0 : a % u = 0 := by omega
        rw [e0, Int.zero_mul, Int.zero_add, Int.ediv_eq_zero_of_lt w2 w3] at h
        omega, by omega, sn.of hM0 hM, sA, su, su.of m0 (by omega), fun r e => q r (by dsimp only at e; rw [e, hsum]; omega), rfl⟩
  · have hn : n = 0 := by
      have : ¬ 0 < n := fun h => e (decide_eq_true h)
      omega
    subst hn
    walk_at "go"
    exact q t (by show t = t + 0; omega)

/-! ### the program: which line is ahead first -/
/-- a pair (value, slope) -/
structure Two (H : Hp) (p : Addr) (v l : Int) : Prop where
  at_ : H p = some (.tup [.int v, .int l])
  l0 : 0 ≤ l
  sv : FS.Sz 2000 v
  sl : FS.Sz 2000 l
theorem szB {v : Int} (h0 : -2521728396569246669585858566409191283525103313309788586748690777871726193375821479130513040312634601011624191379636224 < v) (h1 : v < 2521728396569246669585858566409191283525103313309788586748690777871726193375821479130513040312634601011624191379636224) : FS.Sz 390 v := by
  unfold FS.Sz
  omega
def spWidened : Sp := fun vs H Q _ => ∃ (p : Addr) (v l s d : Int), vs = [.ref p, .int (d * 2 ^ s.toNat)] ∧ Line H p v l s ∧ 1 ≤ d ∧ d * 2 ^ s.toNat ≤ 18446744073709551616 ∧ ∀ t, H t = none → Q (.ref t) (upd H t (.tup [.int (v * d), .int (l * d)]))
abbrev sWidened : Stmt := topS 18
theorem scWidened : FnScope ["line", "unit", "value", "slope", "shift"] ["line", "unit"] (defScope sWidened) := ⟨rfl, rfl, rfl, by decide +kernel, rfl, by decide +kernel, by decide +kernel⟩
set_option maxHeartbeats 2000000 in
theorem ok_Widened (D : DefAt K mg "widened" sWidened ["line", "unit"])  (T : Txt mg) : Cal P w K mg base "widened" ["line", "unit"] 1 (spWidened) := by
  refine D.cal scWidened (fun vs H Q E h => (by (obtain ⟨_, _, _, _, _, rfl, _⟩ := h); rfl)) (fun f cdv A outer s H vs Q E hr h => ?_)
  obtain ⟨p, v, l, s, d, rfl, ⟨hR, v0, v1, l0, l1, s0, s1⟩, d0, d1, q⟩ := h
  refine ⟨_, pss_cons (ps_asg (pv 0) (pg_tup rfl (pgs_cons (pg_name (i := 2) scWidened.nd rfl (Or.inl rfl)) (pgs_cons (pg_name (i := 3) scWidened.nd rfl (Or.inl rfl)) (pgs_cons (pg_name (i := 4) scWidened.nd rfl (Or.inl rfl)) pgs_nil)))))
      (pss_one (ps_ret (pe_tup (pa_cons (pe_op op_shr (pe_op op_mulE (pv 2) (pv 1)) (pv 4)) (pa_cons (pe_op op_shr (pe_op op_mulE (pv 3) (pv 1)) (pv 4)) pa_nil))))), ?_⟩
  have hz := pos_pow s.toNat
  have u0 : 0 < d * 2 ^ s.toNat := Int.mul_pos (by omega) hz
  have e1 : v * (d * 2 ^ s.toNat) / 2 ^ s.toNat = v * d := by rw [← Int.mul_assoc, Int.mul_ediv_cancel _ (by omega)]
  have e2 : l * (d * 2 ^ s.toNat) / 2 ^ s.toNat = l * d := by rw [← Int.mul_assoc, Int.mul_ediv_cancel _ (by omega)]
  walk_at "go"
  intro t ht
  have h := q t ht
  rw [← e1, ← e2] at h
  exact h
theorem mx (a b : Int) : max a b = if b > a then b else a := by split <;> omega
def spStretch : Sp := fun vs H Q _ => ∃ (g t u : Int), vs = [.int g, .int t, .int u] ∧ 0 < u ∧ FS.Sz 8000 t ∧ (FS.st g t u = none → Q .non H) ∧ ∀ a b, FS.st g t u = some (a, b) → ∀ p, H p = none → Q (.ref p) (upd H p (.tup [.int a, .int b]))
abbrev sStretchAbove : Stmt := topS 19
theorem scStretchAbove : FnScope ["gap", "turn", "unit", "start"] ["gap", "turn", "unit"] (defScope sStretchAbove) := ⟨rfl, rfl, rfl, by decide +kernel, rfl, by decide +kernel, by decide +kernel⟩
set_option maxHeartbeats 2000000 in
theorem ok_StretchAbove (D : DefAt K mg "stretch_above" sStretchAbove ["gap", "turn", "unit"]) (CRoundedUp : Cal P w K mg base "rounded_up" ["parts", "unit"] 1 (spUp)) (T : Txt mg) : Cal P w K mg base "stretch_above" ["gap", "turn", "unit"] 2 (spStretch) := by
  refine D.cal scStretchAbove (fun vs H Q E h => (by (obtain ⟨_, _, _, rfl, _⟩ := h); rfl)) (fun f cdv A outer s H vs Q E hr h => ?_)
  obtain ⟨g, t, u, rfl, u0, st, q1, q2⟩ := h
  refine ⟨_, pss_cons (ps_if (pt_cmpR op_gt (pv 1) pe_int (nomark _))
        (pss_cons (ps_set (i := 3) scStretchAbove.nd rfl (Or.inl rfl) (pe_callB (call_max2 rfl) (by rfl) T.max (by decide +kernel) (pa_cons pe_int (pa_cons (pe_op op_add (pe_op op_fdivW (pe_un un_neg (pv 0)) (pv 1)) pe_int) pa_nil))))
        (pss_one (ps_ret (pe_tup (pa_cons (pv 3) (pa_cons (pe_callB (call_max2 rfl) (by rfl) T.max (by decide +kernel) (pa_cons (pv 3) (pa_cons (pe_cal CRoundedUp hr (by rfl) (pa_cons (pe_op op_sub (pv 2) (pv 0)) (pa_cons (pv 1) pa_nil))) pa_nil))) pa_nil))))))
        pss_nil)
      (pss_cons (ps_if (pt_cmpR op_le (pv 0) pe_int (nomark _))
        (pss_one (ps_ret pe_non))
        pss_nil)
      (pss_one (ps_ret (pe_ifExp (pt_cmpR op_eq (pv 1) pe_int (nomark _)) (pe_tup (pa_cons pe_int (pa_cons (pe_op op_sub (pv 2) pe_int) pa_nil))) (pe_tup (pa_cons pe_int (pa_cons (pe_op op_fdivW (pe_op op_sub (pv 0) pe_int) (pe_un un_neg (pv 1))) pa_nil))))))), ?_⟩
  unfold FS.st at q1 q2
  walk_at "go"
  refine ite2 (fun e => ?_) (fun e => ?_)
  · have e1 : 0 < t := of_decide_eq_true e
    rw [if_pos e1] at q1 q2
    have q3 := q2 _ _ rfl
    rw [mx, mx] at q3
    walk_at "go"
    refine And.intro (divSz e1 st) ?_
    walk_at "go"
    refine And.intro (divSz e1 st) ?_
    walk_at "go"
    intro p hp
    exact q3 p hp
  · have e1 : ¬ 0 < t := fun h => e (decide_eq_true h)
    rw [if_neg e1] at q1 q2
    walk_at "go"
    refine ite2 (fun e => ?_) (fun e => ?_)
    · have e2 : g ≤ 0 := of_decide_eq_true e
      rw [if_pos e2] at q1
      exact q1 rfl
    · have e2 : ¬ g ≤ 0 := fun h => e (decide_eq_true h)
      rw [if_neg e2] at q2
      have q3 := q2 _ _ rfl
      walk_at "go"
      by_cases h : t = 0
      · rw [if_pos h] at q3
        refine ifE h ?_
        walk_at "go"
        exact q3
      · rw [if_neg h] at q3
        refine ifNE h ?_
        walk_at "go"
        refine And.intro (divSz (by omega) (by unfold FS.Sz at *; omega)) ?_
        walk_at "go"
        exact q3
/-- whether one line reads more within the first n cycles -/
def spExcess : Sp := fun vs H Q _ => ∃ (p r : Addr) (hv hl lv ll u n : Int), vs = [.ref p, .ref r, .int u, .int n] ∧ Two H p hv hl ∧ Two H r lv ll ∧ 1 ≤ u ∧ FS.Sz 4000 u ∧ 0 ≤ n ∧ FS.Sz 4000 n ∧ Q (.bl (decide (FS.fs n.toNat u ll lv < FS.fs n.toNat u hl hv))) H
abbrev sIsExcess : Stmt := topS 21
theorem scIsExcess : FnScope ["high", "low", "unit", "many"] ["high", "low", "unit", "many"] (defScope sIsExcess) := ⟨rfl, rfl, rfl, by decide +kernel, rfl, by decide +kernel, by decide +kernel⟩
set_option maxHeartbeats 2000000 in
theorem ok_IsExcess (D : DefAt K mg "is_excess" sIsExcess ["high", "low", "unit", "many"]) (CFloorSum : Cal P w K mg base "floor_sum" ["many", "unit", "slope", "value"] 1 (spFloorSum)) (T : Txt mg) : Cal P w K mg base "is_excess" ["high", "low", "unit", "many"] 2 (spExcess) := by
  refine D.cal scIsExcess (fun vs H Q E h => (by (obtain ⟨_, _, _, _, _, _, _, _, rfl, _⟩ := h); rfl)) (fun f cdv A outer s H vs Q E hr h => ?_)
  obtain ⟨p, r, hv, hl, lv, ll, u, n, rfl, ⟨hP, l0, s1, s2⟩, ⟨hR, k0, s3, s4⟩, u0, su, n0, sn, q⟩ := h
  refine ⟨_, pss_one (ps_ret (pe_cmpR op_gt (pe_cal CFloorSum hr (by rfl) (pa_cons (pv 3) (pa_cons (pv 2) (pa_cons (pe_ix ix_tup (pv 0) pe_int (fun _ _ => rfl)) (pa_cons (pe_ix ix_tup (pv 0) pe_int (fun _ _ => rfl)) pa_nil))))) (pe_cal CFloorSum hr (by rfl) (pa_cons (pv 3) (pa_cons (pv 2) (pa_cons (pe_ix ix_tup (pv 1) pe_int (fun _ _ => rfl)) (pa_cons (pe_ix ix_tup (pv 1) pe_int (fun _ _ => rfl)) pa_nil))))) (nomark _))), ?_⟩
  walk_at "go"
  refine ⟨_, _, _, _, rfl, n0, u0, l0, sn, su, s2.mono (by decide), s1.mono (by decide), ?_⟩
  walk_at "go"
  refine ⟨_, _, _, _, rfl, n0, u0, k0, sn, su, s4.mono (by decide), s3.mono (by decide), ?_⟩
  walk_at "go"
  exact q
/-- the least number of cycles within which a line that is nowhere lower reads more -/
def spFirstExcess : Sp := fun vs H Q _ => ∃ (p r : Addr) (hv hl lv ll u m : Int), vs = [.ref p, .ref r, .int u, .int m] ∧ Two H p hv hl ∧ Two H r lv ll ∧ 1 ≤ u ∧ FS.Sz 4000 u ∧ 1 ≤ m ∧ FS.Sz 3999 m ∧
  (∀ i : Nat, (i : Int) < m → FS.rd lv ll u i ≤ FS.rd hv hl u i) ∧
  ((∀ i : Nat, (i : Int) < m → ¬ FS.rd lv ll u i < FS.rd hv hl u i) → Q .non H) ∧
  (∀ n : Int, 1 ≤ n → n ≤ m → FS.rd lv ll u (n - 1) < FS.rd hv hl u (n - 1) → (∀ i : Nat, (i : Int) < n - 1 → ¬ FS.rd lv ll u i < FS.rd hv hl u i) → Q (.int n) H)
abbrev sFirstExcess : Stmt := topS 20
theorem scFirstExcess : FnScope ["high", "low", "unit", "most", "many", "less", "middle"] ["high", "low", "unit", "most"] (defScope sFirstExcess) := ⟨rfl, rfl, rfl, by decide +kernel, rfl, by decide +kernel, by decide +kernel⟩
set_option maxHeartbeats 2000000 in
theorem ok_FirstExcess (D : DefAt K mg "first_excess" sFirstExcess ["high", "low", "unit", "most"]) (CIsExcess : Cal P w K mg base "is_excess" ["high", "low", "unit", "many"] 2 (spExcess)) (T : Txt mg) : Cal P w K mg base "first_excess" ["high", "low", "unit", "most"] 3 (spFirstExcess) := by
  refine D.cal scFirstExcess (fun vs H Q E h => (by (obtain ⟨_, _, _, _, _, _, _, _, rfl, _⟩ := h); rfl)) (fun f cdv A outer s H vs Q E hr h => ?_)
  obtain ⟨p, r, hv, hl, lv, ll, u, m, rfl, T1, T2, u0, su, m0, sm, low, q1, q2⟩ := h
  refine ⟨_, pss_cons (ps_set (i := 4) scFirstExcess.nd rfl (Or.inl rfl) pe_int)
      (pss_cons (ps_while PassesOwn.never (pt_not (pt_val (pe_cal CIsExcess hr (by rfl) (pa_cons (pv 0) (pa_cons (pv 1) (pa_cons (pv 2) (pa_cons (pv 4) pa_nil)))))))
        (pss_cons (ps_if (pt_cmpR op_eq (pv 4) (pv 3) (nomark _))
          (pss_one (ps_ret pe_non))
          pss_nil)
        (pss_one (ps_set (i := 4) scFirstExcess.nd rfl (Or.inl rfl) (pe_callB (call_min2 rfl) (by rfl) T.min (by decide +kernel) (pa_cons (pe_op op_mulE (pv 4) pe_int) (pa_cons (pv 3) pa_nil)))))))
      (pss_cons (ps_set (i := 5) scFirstExcess.nd rfl (Or.inl rfl) (pe_op op_fdivW (pv 4) pe_int))
      (pss_cons (ps_while PassesOwn.never (pt_cmpR op_gt (pe_op op_sub (pv 4) (pv 5)) pe_int (nomark _))
        (pss_cons (ps_set (i := 6) scFirstExcess.nd rfl (Or.inl rfl) (pe_op op_fdivW (pe_op op_add (pv 5) (pv 4)) pe_int))
        (pss_one (ps_if (pt_val (pe_cal CIsExcess hr (by rfl) (pa_cons (pv 0) (pa_cons (pv 1) (pa_cons (pv 2) (pa_cons (pv 6) pa_nil))))))
          (pss_one (ps_set (i := 4) scFirstExcess.nd rfl (Or.inl rfl) (pv 6)))
          (pss_one (ps_set (i := 5) scFirstExcess.nd rfl (Or.inl rfl) (pv 6)))))))
      (pss_one (ps_ret (pv 4)))))), ?_⟩
  have hex : ∀ n : Int, 0 ≤ n → n ≤ m → (FS.fs n.toNat u ll lv < FS.fs n.toNat u hl hv ↔ ∃ i : Nat, (i : Int) < n ∧ FS.rd lv ll u i < FS.rd hv hl u i) := fun n n0 n1 => by
    have h := FS.ex_iff (z := u) (hl := hl) (hv := hv) (ll := ll) (lv := lv) (n := n.toNat) (m := m.toNat) (by omega) (fun i hi => low i (by omega))
    unfold FS.ex at h
    rw [h]
    constructor
    · rintro ⟨i, hi, hx⟩
      exact ⟨i, by omega, hx⟩
    · rintro ⟨i, hi, hx⟩
      exact ⟨i, by omega, hx⟩
  walk_at "go"
  refine while_m (fun k σ H' => ∃ n : Int, σ = [some (.ref p), some (.ref r), some (.int u), some (.int m), some (.int n), none, none] ∧ H' = H ∧ 1 ≤ n ∧ n ≤ m ∧ (∀ i : Nat, (i : Int) < n / 2 → ¬ FS.rd lv ll u i < FS.rd hv hl u i) ∧ k = (m - n).toNat)
    ⟨1, rfl, rfl, by omega, m0, fun i hi => absurd hi (by omega), rfl⟩ (fun k σ H' ⟨n, e, eH, n0, n1, hn, ek⟩ Bt hB => ?_)
  subst e eH
  walk_at "go"
  refine ⟨p, r, hv, hl, lv, ll, u, n, rfl, T1, T2, u0, su, by omega, (sm.of (by omega) n1).mono (by decide), ?_⟩
  by_cases hx : FS.fs n.toNat u ll lv < FS.fs n.toNat u hl hv
  · rw [decide_eq_true hx]
    walk_at "go"
    have hx2 := (hex n (by omega) n1).mp hx
    refine while_m (fun k σ H'' => ∃ (n le : Int) (v6 : Option V), σ = [some (.ref p), some (.ref r), some (.int u), some (.int m), some (.int n), some (.int le), v6] ∧ H'' = H' ∧ 0 ≤ le ∧ le < n ∧ n ≤ m ∧ (∀ i : Nat, (i : Int) < le → ¬ FS.rd lv ll u i < FS.rd hv hl u i) ∧ (∃ i : Nat, (i : Int) < n ∧ FS.rd lv ll u i < FS.rd hv hl u i) ∧ k = (n - le).toNat)
      ⟨n, n / 2, none, rfl, rfl, by omega, by omega, n1, hn, hx2, rfl⟩ (fun k σ H'' ⟨n, le, v6, e, eH, k0, k1, k2, hn, hx2, ek⟩ Bt hB => ?_)
    subst e eH
    walk_at "go"
    refine ite2 (fun e => ?_) (fun e => ?_)
    · have e1 : 1 < n - le := of_decide_eq_true e
      refine hB _ ?_
      walk_at "go"
      refine ⟨p, r, hv, hl, lv, ll, u, (le + n) / 2, rfl, T1, T2, u0, su, by omega, (sm.of (by omega) (by omega)).mono (by decide), ?_⟩
      refine ⟨_, rfl, ?_⟩
      by_cases hy : FS.fs ((le + n) / 2).toNat u ll lv < FS.fs ((le + n) / 2).toNat u hl hv
      · rw [decide_eq_true hy]
        walk_at "go"
        exact ⟨_, by omega, _, _, _, rfl, rfl, by omega, by omega, by omega, hn, (hex _ (by omega) (by omega)).mp hy, rfl⟩
      · rw [decide_eq_false hy]
        walk_at "go"
        exact ⟨_, by omega, _, _, _, rfl, rfl, by omega, by omega, by omega, fun i hi hz => hy ((hex _ (by omega) (by omega)).mpr ⟨i, hi, hz⟩), hx2, rfl⟩
    · have e1 : ¬ 1 < n - le := fun h => e (decide_eq_true h)
      walk_at "go"
      obtain ⟨i, hi, hz⟩ := hx2
      have ei : (i : Int) = n - 1 := by
        rcases Int.lt_trichotomy (i : Int) (n - 1) with h | h | h
        · exact absurd hz (hn i (by omega))
        · exact h
        · omega
      rw [ei] at hz
      exact q2 n (by omega) k2 hz (fun i hi => hn i (by omega))
  · rw [decide_eq_false hx]
    walk_at "go"
    refine hB _ ?_
    walk_at "go"
    have nx : ∀ i : Nat, (i : Int) < n → ¬ FS.rd lv ll u i < FS.rd hv hl u i := fun i hi hz => hx ((hex n (by omega) n1).mpr ⟨i, hi, hz⟩)
    by_cases h : n = m
    · refine ifE h ?_
      exact q1 (fun i hi => nx i (by omega))
    · refine ifNE h ?_
      walk_at "go"
      exact ⟨_, (by split <;> omega : (m - if m < n * 2 then m else n * 2).toNat < k), _, rfl, rfl, by split <;> omega, by split <;> omega, fun i hi => nx i (by split at hi <;> omega), rfl⟩
/-- the first cycle at which one line reads more than another -/
def spFirstAhead : Sp := fun vs H Q _ => ∃ (p r : Addr) (v1 l1 s1 v2 l2 s2 : Int), vs = [.ref p, .ref r] ∧ Line H p v1 l1 s1 ∧ Line H r v2 l2 s2 ∧ ∀ (o : Option Int) (H' : Hp), Same H H' → (∀ n, o = some n → FS.Sz 500 n) → FS.Least (fun c => FS.rd v2 l2 (2 ^ s2.toNat) c < FS.rd v1 l1 (2 ^ s1.toNat) c) o → Q (optV o) H'
theorem wide_rd {v l s d c : Int} (hd : 1 ≤ d) : FS.rd (v * d) (l * d) (d * 2 ^ s.toNat) c = FS.rd v l (2 ^ s.toNat) c := by
  unfold FS.rd
  rw [show v * d + l * d * c = d * (v + l * c) by rw [Int.mul_add, Int.mul_comm v d, Int.mul_comm l d, Int.mul_assoc], Int.mul_ediv_mul_of_pos _ _ (by omega)]
theorem pow_split {s S : Int} (h0 : 0 ≤ s) (h1 : s ≤ S) : ∃ d : Int, 1 ≤ d ∧ (2 : Int) ^ S.toNat = d * 2 ^ s.toNat := by
  refine ⟨2 ^ (S.toNat - s.toNat), ?_, ?_⟩
  · have := pos_pow (S.toNat - s.toNat)
    omega
  · rw [← Int.pow_add]
    congr 1
    omega
theorem Line.szv {H : Hp} {p : Addr} {v l s : Int} (Z : Line H p v l s) : FS.Sz 390 v := szB Z.v0 Z.v1
theorem Line.szl {H : Hp} {p : Addr} {v l s : Int} (Z : Line H p v l s) : FS.Sz 390 l := szB (by have := Z.l0; omega) Z.l1
theorem Line.same {H H' : Hp} {p : Addr} {v l s : Int} (Z : Line H p v l s) (sm : Same H H') : Line H' p v l s := ⟨sm _ _ Z.at_, Z.v0, Z.v1, Z.l0, Z.l1, Z.s0, Z.s1⟩
theorem pow64 {S : Int} (h : S ≤ 64) : (2 : Int) ^ S.toNat ≤ 18446744073709551616 := by
  have h : S.toNat ≤ 64 := by omega
  have := Nat.pow_le_pow_right (n := 2) (by decide) h
  rw [← PySem.W.kbt_cast]
  omega
abbrev sFirstAhead : Stmt := topS 17
theorem scFirstAhead : FnScope ["one", "other", "unit", "high", "low", "stretch", "start", "end", "many"] ["one", "other"] (defScope sFirstAhead) := ⟨rfl, rfl, rfl, by decide +kernel, rfl, by decide +kernel, by decide +kernel⟩
set_option maxHeartbeats 2000000 in
theorem ok_FirstAhead (D : DefAt K mg "first_ahead" sFirstAhead ["one", "other"]) (CCheckLine : Cal P w K mg base "check_line" ["line"] 4 (spLine)) (CWidened : Cal P w K mg base "widened" ["line", "unit"] 1 (spWidened)) (CStretchAbove : Cal P w K mg base "stretch_above" ["gap", "turn", "unit"] 2 (spStretch)) (CFirstExcess : Cal P w K mg base "first_excess" ["high", "low", "unit", "most"] 3 (spFirstExcess)) (T : Txt mg) : Cal P w K mg base "first_ahead" ["one", "other"] 5 (spFirstAhead) := by
  refine D.cal scFirstAhead (fun vs H Q E h => (by (obtain ⟨_, _, _, _, _, _, _, _, rfl, _⟩ := h); rfl)) (fun f cdv A outer s H vs Q E hr h => ?_)
  obtain ⟨p, r, v1, l1, s1, v2, l2, s2, rfl, Z1, Z2, q⟩ := h
  refine ⟨_, pss_cons (ps_expr (pe_cal CCheckLine hr (by rfl) (pa_cons (pv 0) pa_nil)))
      (pss_cons (ps_expr (pe_cal CCheckLine hr (by rfl) (pa_cons (pv 1) pa_nil)))
      (pss_cons (ps_set (i := 2) scFirstAhead.nd rfl (Or.inl rfl) (pe_op op_shlE pe_int (pe_callB (call_max2 rfl) (by rfl) T.max (by decide +kernel) (pa_cons (pe_ix ix_tup (pv 0) pe_int (fun _ _ => rfl)) (pa_cons (pe_ix ix_tup (pv 1) pe_int (fun _ _ => rfl)) pa_nil)))))
      (pss_cons (ps_set (i := 3) scFirstAhead.nd rfl (Or.inl rfl) (pe_cal CWidened hr (by rfl) (pa_cons (pv 0) (pa_cons (pv 2) pa_nil))))
      (pss_cons (ps_set (i := 4) scFirstAhead.nd rfl (Or.inl rfl) (pe_cal CWidened hr (by rfl) (pa_cons (pv 1) (pa_cons (pv 2) pa_nil))))
      (pss_cons (ps_set (i := 5) scFirstAhead.nd rfl (Or.inl rfl) (pe_cal CStretchAbove hr (by rfl) (pa_cons (pe_op op_sub (pe_ix ix_tup (pv 3) pe_int (fun _ _ => rfl)) (pe_ix ix_tup (pv 4) pe_int (fun _ _ => rfl))) (pa_cons (pe_op op_sub (pe_ix ix_tup (pv 3) pe_int (fun _ _ => rfl)) (pe_ix ix_tup (pv 4) pe_int (fun _ _ => rfl))) (pa_cons (pv 2) pa_nil)))))
      (pss_cons (ps_if (pt_cmpR op_isN (pv 5) pe_non (nomark _))
        (pss_one (ps_ret pe_non))
        pss_nil)
      (pss_cons (ps_asg (pv 5) (pg_tup rfl (pgs_cons (pg_name (i := 6) scFirstAhead.nd rfl (Or.inl rfl)) (pgs_cons (pg_name (i := 7) scFirstAhead.nd rfl (Or.inl rfl)) pgs_nil))))
      (pss_cons (ps_set (i := 3) scFirstAhead.nd rfl (Or.inl rfl) (pe_tup (pa_cons (pe_op op_add (pe_ix ix_tup (pv 3) pe_int (fun _ _ => rfl)) (pe_op op_mulE (pe_ix ix_tup (pv 3) pe_int (fun _ _ => rfl)) (pv 6))) (pa_cons (pe_ix ix_tup (pv 3) pe_int (fun _ _ => rfl)) pa_nil))))
      (pss_cons (ps_set (i := 4) scFirstAhead.nd rfl (Or.inl rfl) (pe_tup (pa_cons (pe_op op_add (pe_ix ix_tup (pv 4) pe_int (fun _ _ => rfl)) (pe_op op_mulE (pe_ix ix_tup (pv 4) pe_int (fun _ _ => rfl)) (pv 6))) (pa_cons (pe_ix ix_tup (pv 4) pe_int (fun _ _ => rfl)) pa_nil))))
      (pss_cons (ps_set (i := 8) scFirstAhead.nd rfl (Or.inl rfl) (pe_cal CFirstExcess hr (by rfl) (pa_cons (pv 3) (pa_cons (pv 4) (pa_cons (pv 2) (pa_cons (pe_op op_add (pe_op op_sub (pv 7) (pv 6)) pe_int) pa_nil))))))
      (pss_one (ps_ret (pe_ifExp (pt_cmpR op_isN (pv 8) pe_non (nomark _)) pe_non (pe_op op_sub (pe_op op_add (pv 6) (pv 8)) pe_int)))))))))))))), ?_⟩
  have hP := Z1.at_
  have hR := Z2.at_
  have z1 := Z1.s0
  have z2 := Z1.s1
  have z3 := Z2.s0
  have z4 := Z2.s1
  walk_at "go"
  refine ⟨p, v1, l1, s1, rfl, Z1, ?_⟩
  walk_at "go"
  refine ⟨r, v2, l2, s2, rfl, Z2, ?_⟩
  walk_at "go"
  obtain ⟨S, hS⟩ : ∃ S, S = if s2 > s1 then s2 else s1 := ⟨_, rfl⟩
  rw [← hS]
  have S1 : s1 ≤ S := by rw [hS]; split <;> omega
  have S2 : s2 ≤ S := by rw [hS]; split <;> omega
  have S3 : S ≤ 64 := by rw [hS]; split <;> omega
  clear hS
  obtain ⟨d1, hd1, e1⟩ := pow_split z1 S1
  obtain ⟨d2, hd2, e2⟩ := pow_split z3 S2
  have hu := pos_pow S.toNat
  have hu2 := pow64 S3
  have wr1 := fun c => wide_rd (v := v1) (l := l1) (s := s1) (c := c) hd1
  have wr2 := fun c => wide_rd (v := v2) (l := l2) (s := s2) (c := c) hd2
  rw [← e1] at wr1
  rw [← e2] at wr2
  have p1 := pos_pow s1.toNat
  have p2 := pos_pow s2.toNat
  have dd1 : d1 ≤ 2 ^ S.toNat := by
    rw [e1]
    have : d1 * 1 ≤ d1 * 2 ^ s1.toNat := Int.mul_le_mul_of_nonneg_left (by omega) (by omega)
    omega
  have dd2 : d2 ≤ 2 ^ S.toNat := by
    rw [e2]
    have : d2 * 1 ≤ d2 * 2 ^ s2.toNat := Int.mul_le_mul_of_nonneg_left (by omega) (by omega)
    omega
  have sd1 : FS.Sz 65 d1 := by unfold FS.Sz; omega
  have sd2 : FS.Sz 65 d2 := by unfold FS.Sz; omega
  have sU : FS.Sz 65 (2 ^ S.toNat) := by unfold FS.Sz; omega
  have sv1 : FS.Sz 455 (v1 * d1) := Z1.szv.mul sd1
  have sl1 : FS.Sz 455 (l1 * d1) := Z1.szl.mul sd1
  have sv2 : FS.Sz 455 (v2 * d2) := Z2.szv.mul sd2
  have sl2 : FS.Sz 455 (l2 * d2) := Z2.szl.mul sd2
  have ll1 : 0 ≤ l1 * d1 := Int.mul_nonneg Z1.l0 (by omega)
  have ll2 : 0 ≤ l2 * d2 := Int.mul_nonneg Z2.l0 (by omega)
  have hst := fun a b => FS.st_size (g := v1 * d1 - v2 * d2) (t := l1 * d1 - l2 * d2) (a := a) (b := b) (k := 456) hu (sv1.sub sv2) (sU.mono (by decide))
  have hno := FS.st_none (v1 := v1 * d1) (l1 := l1 * d1) (v2 := v2 * d2) (l2 := l2 * d2) hu
  have hso := fun a b => FS.st_some (v1 := v1 * d1) (l1 := l1 * d1) (v2 := v2 * d2) (l2 := l2 * d2) (a := a) (b := b) hu
  generalize hU : (2 : Int) ^ S.toNat = U at *
  walk_at "go"
  refine ⟨p, v1, l1, s1, d1, by rw [← e1]; rfl, Z1, hd1, by rw [← e1]; exact hu2, fun h hh => ?_⟩
  walk_at "go"
  have Z2' := Z2.same (same_upd (o := .tup [.int (v1 * d1), .int (l1 * d1)]) hh)
  refine ⟨r, v2, l2, s2, d2, by rw [← e2]; rfl, Z2', hd2, by rw [← e2]; exact hu2, fun k hk => ?_⟩
  have hh2 : upd (upd H h (.tup [.int (v1 * d1), .int (l1 * d1)])) k (.tup [.int (v2 * d2), .int (l2 * d2)]) h = some (.tup [.int (v1 * d1), .int (l1 * d1)]) := upd_at upd_same hk
  have hk2 : upd (upd H h (.tup [.int (v1 * d1), .int (l1 * d1)])) k (.tup [.int (v2 * d2), .int (l2 * d2)]) k = some (.tup [.int (v2 * d2), .int (l2 * d2)]) := upd_same
  have sm2 := (same_upd (o := .tup [.int (v1 * d1), .int (l1 * d1)]) hh).trans (same_upd (o := .tup [.int (v2 * d2), .int (l2 * d2)]) hk)
  generalize upd (upd H h (.tup [.int (v1 * d1), .int (l1 * d1)])) k (.tup [.int (v2 * d2), .int (l2 * d2)]) = H2 at hh2 hk2 sm2
  walk_at "go"
  refine ⟨(sl1.sub sl2).mono (by decide), fun hn => ?_, fun a b hab t ht => ?_⟩
  · walk_at "go"
    refine q none _ sm2 (fun _ e => by cases e) (fun c hc hx => ?_)
    dsimp only at hx
    rw [← wr1, ← wr2] at hx
    exact hno hn c hc hx
  obtain ⟨sa, sb⟩ := hst a b hab
  obtain ⟨a0, ab, hlow, hfar⟩ := hso a b hab
  have hh3 := upd_at (u := .tup [.int a, .int b]) hh2 ht
  have hk3 := upd_at (u := .tup [.int a, .int b]) hk2 ht
  have sm3 := sm2.trans (same_upd (o := .tup [.int a, .int b]) ht)
  have ht3 : upd H2 t (.tup [.int a, .int b]) t = some (.tup [.int a, .int b]) := upd_same
  generalize upd H2 t (.tup [.int a, .int b]) = H3 at hh3 hk3 sm3 ht3
  have m1 : CMulE (l1 * d1) a := mulSz (sl1.mono (by decide)) (sa.mono (by decide))
  have m2 : CMulE (l2 * d2) a := mulSz (sl2.mono (by decide)) (sa.mono (by decide))
  have sh1 : FS.Sz 2000 (v1 * d1 + l1 * d1 * a) := (FS.Sz.add (sv1.mono (show 455 ≤ 913 by decide)) (sl1.mul sa)).mono (by decide)
  have sh2 : FS.Sz 2000 (v2 * d2 + l2 * d2 * a) := (FS.Sz.add (sv2.mono (show 455 ≤ 913 by decide)) (sl2.mul sa)).mono (by decide)
  walk_at "go"
  intro x hx
  walk_at "go"
  intro y hy
  have hx4 : upd (upd H3 x (.tup [.int (v1 * d1 + l1 * d1 * a), .int (l1 * d1)])) y (.tup [.int (v2 * d2 + l2 * d2 * a), .int (l2 * d2)]) x = some (.tup [.int (v1 * d1 + l1 * d1 * a), .int (l1 * d1)]) := upd_at upd_same hy
  have hy4 : upd (upd H3 x (.tup [.int (v1 * d1 + l1 * d1 * a), .int (l1 * d1)])) y (.tup [.int (v2 * d2 + l2 * d2 * a), .int (l2 * d2)]) y = some (.tup [.int (v2 * d2 + l2 * d2 * a), .int (l2 * d2)]) := upd_same
  have sm4 := (sm3.trans (same_upd (o := .tup [.int (v1 * d1 + l1 * d1 * a), .int (l1 * d1)]) hx)).trans (same_upd (o := .tup [.int (v2 * d2 + l2 * d2 * a), .int (l2 * d2)]) hy)
  generalize upd (upd H3 x (.tup [.int (v1 * d1 + l1 * d1 * a), .int (l1 * d1)])) y (.tup [.int (v2 * d2 + l2 * d2 * a), .int (l2 * d2)]) = H4 at hx4 hy4 sm4
  walk_at "go"
  have sft1 := fun c => FS.rd_shift (v := v1 * d1) (l := l1 * d1) (z := U) (a := a) (c := c)
  have sft2 := fun c => FS.rd_shift (v := v2 * d2) (l := l2 * d2) (z := U) (a := a) (c := c)
  refine ⟨x, y, _, _, _, _, U, b - a + 1, rfl, ⟨hx4, ll1, sh1, sl1.mono (by decide)⟩, ⟨hy4, ll2, sh2, sl2.mono (by decide)⟩, by omega, sU.mono (by decide), by omega, ?_, fun i hi => ?_, fun hn => ?_, fun n n0 n1 hn hb => ?_⟩
  · have := FS.Sz.add (FS.Sz.sub sb sa) (show FS.Sz 459 1 from FS.Sz.mono (j := 1) (by unfold FS.Sz; decide) (by decide))
    exact this.mono (by decide)
  · rw [sft1, sft2]
    exact hlow _ (by omega) (by omega)
  · walk_at "go"
    refine q none _ sm4 (fun _ e => by cases e) (fun c hc hx => ?_)
    dsimp only at hx
    rw [← wr1, ← wr2] at hx
    obtain ⟨c', k0, k1, k2, k3⟩ := hfar c hc hx
    refine hn (c' - a).toNat (by omega) ?_
    rw [sft1, sft2, show a + (((c' - a).toNat : Nat) : Int) = c' by omega]
    exact k3
  · walk_at "go"
    rw [sft1, sft2] at hn
    refine q (some (a + n - 1)) _ sm4 (fun m e => by cases e; exact (sb.mono (by decide)).of (by omega) (by omega)) ⟨by omega, ?_, fun c hc hl hx => ?_⟩
    · dsimp only
      rw [← wr1, ← wr2, show a + n - 1 = a + (n - 1) by omega]
      exact hn
    · dsimp only at hx
      rw [← wr1, ← wr2] at hx
      obtain ⟨c', k0, k1, k2, k3⟩ := hfar c hc hx
      refine hb (c' - a).toNat (by omega) ?_
      rw [sft1, sft2, show a + (((c' - a).toNat : Nat) : Int) = c' by omega]
      exact k3
/-- the first cycle at which two lines read unlike -/
def spFirstApart : Sp := fun vs H Q _ => ∃ (p r : Addr) (v1 l1 s1 v2 l2 s2 : Int), vs = [.ref p, .ref r] ∧ Line H p v1 l1 s1 ∧ Line H r v2 l2 s2 ∧ ∀ (o : Option Int) (H' : Hp), Same H H' → (∀ n, o = some n → FS.Sz 500 n) → FS.Least (fun c => FS.rd v1 l1 (2 ^ s1.toNat) c ≠ FS.rd v2 l2 (2 ^ s2.toNat) c) o → Q (optV o) H'
/-- the lesser of what there is -/
def orO : Option Int → Option Int → Option Int
  | none, o => o
  | some a, none => some a
  | some a, some b => some (min a b)
theorem least_or {P R : Int → Prop} : ∀ {o1 o2 : Option Int}, FS.Least P o1 → FS.Least R o2 → FS.Least (fun c => P c ∨ R c) (orO o1 o2)
  | none, none, h, k => fun c hc x => x.elim (h c hc) (k c hc)
  | none, some b, h, k => ⟨k.1, .inr k.2.1, fun c hc hl x => x.elim (h c hc) (k.2.2 c hc hl)⟩
  | some a, none, h, k => ⟨h.1, .inl h.2.1, fun c hc hl x => x.elim (h.2.2 c hc hl) (k c hc)⟩
  | some a, some b, h, k => by
    refine ⟨by have := h.1; have := k.1; omega, ?_, fun c hc hl x => x.elim (h.2.2 c hc (by omega)) (k.2.2 c hc (by omega))⟩
    rcases Int.le_total a b with e | e
    · rw [show min a b = a by omega]
      exact .inl h.2.1
    · rw [show min a b = b by omega]
      exact .inr k.2.1
theorem or_size {k : Nat} : ∀ {o1 o2 : Option Int}, (∀ n, o1 = some n → FS.Sz k n) → (∀ n, o2 = some n → FS.Sz k n) → ∀ n, orO o1 o2 = some n → FS.Sz k n
  | none, _, _, h, n, e => h n e
  | some a, none, h, _, n, e => h n e
  | some a, some b, h, h2, n, e => by
    have e1 : min a b = n := Option.some.inj e
    rcases Int.le_total a b with q | q
    · rw [← e1, show min a b = a by omega]
      exact h a rfl
    · rw [← e1, show min a b = b by omega]
      exact h2 b rfl
abbrev sFirstApart : Stmt := topS 16
theorem scFirstApart : FnScope ["one", "other", "found", "cycle"] ["one", "other"] (defScope sFirstApart) := ⟨rfl, rfl, rfl, by decide +kernel, rfl, by decide +kernel, by decide +kernel⟩
set_option maxHeartbeats 2000000 in
theorem ok_FirstApart (D : DefAt K mg "first_apart" sFirstApart ["one", "other"]) (CFirstAhead : Cal P w K mg base "first_ahead" ["one", "other"] 5 (spFirstAhead)) (T : Txt mg) : Cal P w K mg base "first_apart" ["one", "other"] 6 (spFirstApart) := by
  refine D.cal scFirstApart (fun vs H Q E h => (by (obtain ⟨_, _, _, _, _, _, _, _, rfl, _⟩ := h); rfl)) (fun f cdv A outer s H vs Q E hr h => ?_)
  obtain ⟨p, r, v1, l1, s1, v2, l2, s2, rfl, Z1, Z2, q⟩ := h
  refine ⟨_, pss_cons (ps_setLc (i := 2) (own := [("cycle", 3)]) (g := gName 3) rfl scFirstApart.nd rfl rfl (sw_true rfl rfl rfl (by decide +kernel)) (pi_tup (pe_tup (pa_cons (pe_cal CFirstAhead hr (by rfl) (pa_cons (pv 0) (pa_cons (pv 1) pa_nil))) (pa_cons (pe_cal CFirstAhead hr (by rfl) (pa_cons (pv 1) (pa_cons (pv 0) pa_nil))) pa_nil)))) (blkOk_by (own := [("cycle", 3)]) (N := ["one", "other", "found", "cycle"]) (sc := defScope sFirstApart) (by decide +kernel)) (fun _ _ _ _ _ => pg_name (i := 3) scFirstApart.nd rfl (Or.inl rfl)) (fun _ _ _ _ _ => (pts_one (pt_cmpR op_notN (pv 3) pe_non (nomark _)))) (fun _ _ _ _ _ => (pv 3)))
      (pss_one (ps_ret (pe_callBK (cr_minDef rfl hr.units) (by rfl) T.min (by decide +kernel) (pa_cons (pv 2) pa_nil) (pk_cons pe_non pk_nil)))), ?_⟩
  walk_at "go"
  refine ⟨p, r, _, _, _, _, _, _, rfl, Z1, Z2, fun o1 H1 sm1 z1 h1 => ?_⟩
  walk_at "go"
  refine ⟨r, p, _, _, _, _, _, _, rfl, Z2.same sm1, Z1.same sm1, fun o2 H2 sm2 z2 h2 => ?_⟩
  have hq : ∀ H', Same H2 H' → Q (optV (orO o1 o2)) H' := fun H' sm => by
    refine q _ _ ((sm1.trans sm2).trans sm) (or_size z1 z2) ((least_or h1 h2).congr fun c _ => ?_)
    show (_ < _ ∨ _ < _) ↔ _ ≠ _
    omega
  clear h1 h2 q z1 z2
  walk_at "go"
  intro t ht
  walk_at "go"
  refine ⟨⟨_, SqT.of upd_same⟩, ?_⟩
  intro D hD
  refine lc_tupF (xs := [optV o1, optV o2]) (p := fun i => match i with | 0 => o1.isSome | _ => o2.isSome) (f := fun i => match i with | 0 => optV o1 | _ => optV o2) hD upd_same (by show 2 ≤ _; decide) (fun i x R F hx hR hF => ?_) ?_
  · match i, hx with
    | 0, hx =>
      cases hx
      cases o1 with
      | none =>
        walk_at "go"
        exact hF rfl
      | some a =>
        walk_at "go"
        exact hR rfl
    | 1, hx =>
      cases hx
      cases o2 with
      | none =>
        walk_at "go"
        exact hF rfl
      | some a =>
        walk_at "go"
        exact hR rfl
    | n + 2, hx => cases hx
  · have hs := hq (upd (upd H2 t (.tup [optV o1, optV o2])) D (.lst (List.map (fun i : Nat => match i with | 0 => optV o1 | _ => optV o2) (kept (fun i : Nat => match i with | 0 => o1.isSome | _ => o2.isSome) 2)))) ((same_upd ht).trans (same_upd hD))
    cases o1 with
    | none =>
      cases o2 with
      | none =>
        walk_at "go"
        exact ⟨D, [], rfl, rfl, SqL.of upd_same, fun _ => hs, (fun n r e => by cases e)⟩
      | some b =>
        walk_at "go"
        exact ⟨D, [b], rfl, rfl, SqL.of upd_same, (fun e => by cases e), (fun n r e => by cases e; exact hs)⟩
    | some a =>
      cases o2 with
      | none =>
        walk_at "go"
        exact ⟨D, [a], rfl, rfl, SqL.of upd_same, (fun e => by cases e), (fun n r e => by cases e; exact hs)⟩
      | some b =>
        walk_at "go"
        exact ⟨D, [a, b], rfl, rfl, SqL.of upd_same, (fun e => by cases e), (fun n r e => by cases e; exact hs)⟩
/-- at how many of the first cycles two lines of one slope read unlike -/
def spApartMany : Sp := fun vs H Q _ => ∃ (p r : Addr) (v1 v2 l s n : Int), vs = [.ref p, .ref r, .int n] ∧ Line H p v1 l s ∧ Line H r v2 l s ∧ 0 ≤ n ∧ n < 2521728396569246669585858566409191283525103313309788586748690777871726193375821479130513040312634601011624191379636224 ∧
  ∀ H', Same H H' → Q (.int (FS.unl v1 v2 l (2 ^ s.toNat) n.toNat)) H'
theorem sorted2 {a b : Int} {ns : List Int} (hp : ns.Perm [a, b]) (hs : ns.Pairwise (· ≤ ·)) : ∃ lo hi, ns = [lo, hi] ∧ lo ≤ hi ∧ ((lo = a ∧ hi = b) ∨ (lo = b ∧ hi = a)) := by
  have hl := hp.length_eq
  match ns, hl with
  | [x, y], _ =>
    refine ⟨x, y, rfl, ?_, ?_⟩
    · exact List.rel_of_pairwise_cons hs (List.mem_singleton.mpr rfl)
    · have h1 : x ∈ [a, b] := hp.mem_iff.mp (by simp)
      have e : x = a ∨ x = b := by simpa using h1
      rcases e with e | e
      · subst e
        have h2 := List.perm_singleton.mp (hp.cons_inv)
        exact .inl ⟨rfl, List.singleton_inj.mp h2⟩
      · subst e
        have h3 : [x, y].Perm [x, a] := hp.trans (List.Perm.swap x a [])
        have h2 := List.perm_singleton.mp (h3.cons_inv)
        exact .inr ⟨rfl, List.singleton_inj.mp h2⟩
theorem cut3 (a b c : V) : cutV [a, b, c] (some 1) none = [b, c] := cut1 _
abbrev sApartMany : Stmt := topS 22
theorem scApartMany : FnScope ["one", "other", "last", "slope", "shift", "unit", "low", "high"] ["one", "other", "last"] (defScope sApartMany) := ⟨rfl, rfl, rfl, by decide +kernel, rfl, by decide +kernel, by decide +kernel⟩
set_option maxHeartbeats 2000000 in
theorem ok_ApartMany (D : DefAt K mg "apart_many" sApartMany ["one", "other", "last"]) (CCheckLine : Cal P w K mg base "check_line" ["line"] 4 (spLine)) (CCheckCycle : Cal P w K mg base "check_cycle" ["cycle"] 3 (spNat)) (CFloorSum : Cal P w K mg base "floor_sum" ["many", "unit", "slope", "value"] 1 (spFloorSum)) (T : Txt mg) : Cal P w K mg base "apart_many" ["one", "other", "last"] 6 (spApartMany) := by
  refine D.cal scApartMany (fun vs H Q E h => (by (obtain ⟨_, _, _, _, _, _, _, rfl, _⟩ := h); rfl)) (fun f cdv A outer s H vs Q E hr h => ?_)
  obtain ⟨p, r, v1, v2, l, s, n, rfl, Z1, Z2, n0, n1, q⟩ := h
  refine ⟨_, pss_cons (ps_expr (pe_cal CCheckLine hr (by rfl) (pa_cons (pv 0) pa_nil)))
      (pss_cons (ps_expr (pe_cal CCheckLine hr (by rfl) (pa_cons (pv 1) pa_nil)))
      (pss_cons (ps_if (pt_cmpR (op_neD hr.units) (pe_slice sl_tup (pv 0) (po_some pe_int) po_none) (pe_slice sl_tup (pv 1) (po_some pe_int) po_none) (nomark _))
        (pss_one ps_never)
        pss_nil)
      (pss_cons (ps_expr (pe_cal CCheckCycle hr (by rfl) (pa_cons (pv 2) pa_nil)))
      (pss_cons (ps_asg (pe_slice sl_tup (pv 0) (po_some pe_int) po_none) (pg_tup rfl (pgs_cons (pg_name (i := 3) scApartMany.nd rfl (Or.inl rfl)) (pgs_cons (pg_name (i := 4) scApartMany.nd rfl (Or.inl rfl)) pgs_nil))))
      (pss_cons (ps_set (i := 5) scApartMany.nd rfl (Or.inl rfl) (pe_op op_shlE pe_int (pv 4)))
      (pss_cons (ps_asg (pe_callB cr_sorted (by rfl) T.sorted (by decide +kernel) (pa_cons (pe_lst (pa_cons (pe_ix ix_tup (pv 0) pe_int (fun _ _ => rfl)) (pa_cons (pe_ix ix_tup (pv 1) pe_int (fun _ _ => rfl)) pa_nil))) pa_nil)) (pg_lst rfl (pgs_cons (pg_name (i := 6) scApartMany.nd rfl (Or.inl rfl)) (pgs_cons (pg_name (i := 7) scApartMany.nd rfl (Or.inl rfl)) pgs_nil))))
      (pss_cons (ps_if (pt_cmpR op_ge (pe_op op_sub (pv 7) (pv 6)) (pv 5) (nomark _))
        (pss_one (ps_ret (pv 2)))
        pss_nil)
      (pss_one (ps_ret (pe_op op_sub (pe_cal CFloorSum hr (by rfl) (pa_cons (pv 2) (pa_cons (pv 5) (pa_cons (pv 3) (pa_cons (pv 7) pa_nil))))) (pe_cal CFloorSum hr (by rfl) (pa_cons (pv 2) (pa_cons (pv 5) (pa_cons (pv 3) (pa_cons (pv 6) pa_nil))))))))))))))), ?_⟩
  have hP := Z1.at_
  have hR := Z2.at_
  have l0 := Z1.l0
  have z0 := Z1.s0
  have z1 := Z1.s1
  have hz := pos_pow s.toNat
  have hz1 := pow64 z1
  walk_at "go"
  refine ⟨p, _, _, _, rfl, Z1, ?_⟩
  walk_at "go"
  refine ⟨r, _, _, _, rfl, Z2, ?_⟩
  walk_at "go"
  refine ⟨p, [.int v1, .int l, .int s], rfl, SqT.of hP, (by show ¬(HT.sIx 3 0 (some 1) = 0 ∧ HT.sIx 3 3 none = 3); decide), fun c hc => ?_⟩
  have hR1 := upd_at (u := .tup [.int l, .int s]) hR hc
  rw [cut3]
  walk_at "go"
  refine ⟨r, [.int v2, .int l, .int s], rfl, SqT.of hR1, (by show ¬(HT.sIx 3 0 (some 1) = 0 ∧ HT.sIx 3 3 none = 3); decide), fun d hd => ?_⟩
  rw [cut3]
  refine ⟨_, _, .tup (SqT.of (upd_at upd_same hd)) (.cons (.int _) (.cons (.int _) .nil)), .tup (SqT.of upd_same) (.cons (.int _) (.cons (.int _) .nil)), rfl, rfl, _, rfl, ?_⟩
  rw [show PyData.eqv (.tuple [.int l, .int s]) (.tuple [.int l, .int s]) = true by simp [PyData.eqv, PyData.eqvAll]]
  have hP2 := upd_at (u := .tup [.int l, .int s]) (upd_at (u := .tup [.int l, .int s]) hP hc) hd
  have hR2 := upd_at (u := .tup [.int l, .int s]) hR1 hd
  have sm2 := (same_upd (o := .tup [.int l, .int s]) hc).trans (same_upd (o := .tup [.int l, .int s]) hd)
  generalize upd (upd H c (.tup [.int l, .int s])) d (.tup [.int l, .int s]) = H2 at hP2 hR2 sm2
  walk_at "go"
  refine ⟨p, [.int v1, .int l, .int s], rfl, SqT.of hP2, (by show ¬(HT.sIx 3 0 (some 1) = 0 ∧ HT.sIx 3 3 none = 3); decide), fun e he => ?_⟩
  rw [cut3]
  have hP3 := upd_at (u := .tup [.int l, .int s]) hP2 he
  have hR3 := upd_at (u := .tup [.int l, .int s]) hR2 he
  have sm3 := sm2.trans (same_upd (o := .tup [.int l, .int s]) he)
  have hE3 : upd H2 e (.tup [.int l, .int s]) e = some (.tup [.int l, .int s]) := upd_same
  generalize upd H2 e (.tup [.int l, .int s]) = H3 at hP3 hR3 sm3 hE3
  walk_at "go"
  intro f hf
  walk_at "go"
  refine ⟨f, [v1, v2], rfl, SqL.of upd_same, (by show 2 < 64; decide), fun ns' g pm so hg => ?_⟩
  obtain ⟨lo, hi, rfl, hle, hcase⟩ := sorted2 pm so
  have sm5 := (sm3.trans (same_upd (o := .lst [V.int v1, V.int v2]) hf)).trans (show Same _ (upd (upd H3 f (.lst [V.int v1, V.int v2])) g (.lst [V.int lo, V.int hi])) from same_upd hg)
  have hg5 : upd (upd H3 f (.lst [V.int v1, V.int v2])) g (.lst [V.int lo, V.int hi]) g = some (.lst [V.int lo, V.int hi]) := upd_same
  have qq : ∀ H', Same H H' → Q (.int (FS.unl lo hi l (2 ^ s.toNat) n.toNat)) H' := fun H' sm => by
    rcases hcase with ⟨rfl, rfl⟩ | ⟨rfl, rfl⟩
    · exact q H' sm
    · rw [FS.unl_comm]
      exact q H' sm
  have slo : FS.Sz 390 lo := by
    rcases hcase with ⟨rfl, rfl⟩ | ⟨rfl, rfl⟩
    · exact Z1.szv
    · exact Z2.szv
  have shi : FS.Sz 390 hi := by
    rcases hcase with ⟨rfl, rfl⟩ | ⟨rfl, rfl⟩
    · exact Z2.szv
    · exact Z1.szv
  have su : FS.Sz 65 (2 ^ s.toNat) := by unfold FS.Sz; omega
  have sn : FS.Sz 390 n := by unfold FS.Sz; omega
  have far := FS.unl_far (lo := lo) (hi := hi) (l := l) hz
  have near := FS.unl_near (lo := lo) (hi := hi) (l := l) hz hle
  rw [show ([lo, hi].map V.int) = [V.int lo, V.int hi] from rfl]
  generalize upd (upd H3 f (.lst [V.int v1, V.int v2])) g (.lst [V.int lo, V.int hi]) = H5 at hg5 sm5
  refine ⟨_, _, rfl, SqL.of hg5, rfl, ?_⟩
  walk_at "go"
  refine ite2 (fun e => ?_) (fun e => ?_)
  · have e1 : 2 ^ s.toNat ≤ hi - lo := of_decide_eq_true e
    have h := qq _ sm5
    rw [far e1, show ((n.toNat : Nat) : Int) = n by omega] at h
    walk_at "go"
    exact h
  · have e1 : ¬ 2 ^ s.toNat ≤ hi - lo := fun h => e (decide_eq_true h)
    have h := qq _ sm5
    rw [near (by omega)] at h
    walk_at "go"
    refine ⟨_, _, _, _, rfl, n0, by omega, l0, sn.mono (by decide), su.mono (by decide), Z1.szl.mono (by decide), shi.mono (by decide), ?_⟩
    walk_at "go"
    refine ⟨_, _, _, _, rfl, n0, by omega, l0, sn.mono (by decide), su.mono (by decide), Z1.szl.mono (by decide), slo.mono (by decide), ?_⟩
    walk_at "go"
    exact h

/-! ### far numbers -/
def spFar : Sp := fun vs H Q _ => ∃ (a : Addr), vs = [.ref a] ∧ Src H a ∧ ∀ (r : Int) (H' : Hp), 0 ≤ r → r ≤ 100000000000000000000000000000000000000000000000000 → Dr a H H' → Q (.int r) H'
theorem emod_le {r m : Int} (h0 : 0 ≤ r) (hm : 0 < m) : r % m ≤ r := by
  have h := Int.mul_ediv_add_emod r m
  have h2 : 0 ≤ m * (r / m) := Int.mul_nonneg (Int.le_of_lt hm) (Int.ediv_nonneg h0 (Int.le_of_lt hm))
  omega
theorem five {r g : Int} (h0 : 0 ≤ r) (h1 : r < 5) (h : g < 1000000000 ^ (1 + r).toNat) : g ≤ 100000000000000000000000000000000000000000000000000 := by
  have e : (1 + r).toNat = 1 ∨ (1 + r).toNat = 2 ∨ (1 + r).toNat = 3 ∨ (1 + r).toNat = 4 ∨ (1 + r).toNat = 5 := by omega
  rcases e with e | e | e | e | e <;> rw [e] at h <;> exact Int.le_trans (Int.le_of_lt h) (by decide)
abbrev sLFar : Stmt := topS 28
theorem scLFar : FnScope ["source", "some", "great", "turn"] ["source"] (defScope sLFar) := ⟨rfl, rfl, rfl, by decide +kernel, rfl, by decide +kernel, by decide +kernel⟩
set_option maxHeartbeats 2000000 in
theorem ok_LFar (D : DefAt K mg "_law_far" sLFar ["source"]) (CLNext : Cal P w K mg base "_law_next" ["source", "many"] 2 (spNext)) (T : Txt mg) : Cal P w K mg base "_law_far" ["source"] 3 (spFar) := by
  refine D.cal scLFar (fun vs H Q E h => (by (obtain ⟨_, rfl, _⟩ := h); rfl)) (fun f cdv A outer s H vs Q E hr h => ?_)
  obtain ⟨a, rfl, hS, q⟩ := h
  refine ⟨_, pss_cons (ps_set (i := 1) scLFar.nd rfl (Or.inl rfl) (pe_lst (pa_cons pe_int (pa_cons pe_int (pa_cons (pe_cal CLNext hr (by rfl) (pa_cons (pv 0) (pa_cons pe_int pa_nil))) (pa_cons (pe_op op_powE pe_int pe_int) (pa_cons (pe_op op_sub (pe_op op_powE pe_int pe_int) (pe_cal CLNext hr (by rfl) (pa_cons (pv 0) (pa_cons pe_int pa_nil)))) pa_nil)))))))
      (pss_cons (ps_set (i := 2) scLFar.nd rfl (Or.inl rfl) pe_int)
      (pss_cons (ps_for PassesOwn.never rfl (pi_range1 (by rfl) T.range (pa_cons (pe_op op_add pe_int (pe_cal CLNext hr (by rfl) (pa_cons (pv 0) (pa_cons pe_int pa_nil)))) pa_nil)) (pg_name (i := 3) scLFar.nd rfl (Or.inl rfl))
        (pss_one (ps_set (i := 2) scLFar.nd rfl (Or.inl rfl) (pe_op op_add (pe_op op_mulE (pv 2) (pe_op op_powE pe_int pe_int)) (pe_cal CLNext hr (by rfl) (pa_cons (pv 0) (pa_cons (pe_op op_powE pe_int pe_int) pa_nil)))))))
      (pss_cons (ps_set (i := 1) scLFar.nd rfl (Or.inl rfl) (pe_op op_cat (pv 1) (pe_lst (pa_cons (pv 2) (pa_cons (pv 2) (pa_cons (pv 2) pa_nil))))))
      (pss_one (ps_ret (pe_ix ix_list (pv 1) (pe_cal CLNext hr (by rfl) (pa_cons (pv 0) (pa_cons (pe_callB call_len_seq (by rfl) T.len PySem.boot_len (pa_cons (pv 1) pa_nil)) pa_nil))) (fun _ _ => rfl))))))), ?_⟩
  walk_at "go"
  intro r1 H1 a1 b1 D1
  walk_at "go"
  intro r2 H2 a2 b2 D2
  walk_at "go"
  intro p hp
  have np : p ≠ a := D2.src.ne hp
  walk_at "go"
  have D3 := (D1.trans D2).new (o := .lst [V.int 0, V.int 1, V.int r1, V.int (100000000000000000000000000000000000000000000000000), V.int (100000000000000000000000000000000000000000000000000 - r2)]) hp
  walk_at "go"
  intro r3 H3 a3 b3 D4
  walk_at "go"
  refine for_range (lo := 0) (n := (1 + r3).toNat) (fun i σ H' => ∃ (gr : Int) (v3 : Option V), σ = [some (.ref a), some (.ref p), some (.int gr), v3] ∧ 0 ≤ gr ∧ gr < 1000000000 ^ i ∧ Dr a H H' ∧ H' p = some (.lst [V.int 0, V.int 1, V.int r1, V.int (100000000000000000000000000000000000000000000000000), V.int (100000000000000000000000000000000000000000000000000 - r2)]))
    ⟨0, none, rfl, by omega, by decide, D3.trans D4, D4.at np upd_same⟩ (fun i σ H5 hi ⟨gr, v3, e, g0, g1, D5, hP⟩ => ?_) (fun σ H5 ⟨gr, v3, e, g0, g1, D5, hP⟩ => ?_)
  · subst e
    walk_at "go"
    intro r6 H6 a6 b6 D6
    walk_at "go"
    exact ⟨D5.trans D6, D6.at np hP⟩
  · subst e
    walk_at "go"
    intro p2 hp2
    walk_at "go"
    intro p3 hp3
    walk_at "go"
    have np3 : p3 ≠ a := (D5.new hp2).src.ne hp3
    intro r7 H7 a7 b7 D7
    have D8 := ((D5.new hp2).new hp3).trans D7
    have hall : AllI (fun i => 0 ≤ i ∧ i ≤ 100000000000000000000000000000000000000000000000000) ([V.int 0, V.int 1, V.int r1, V.int (100000000000000000000000000000000000000000000000000), V.int (100000000000000000000000000000000000000000000000000 - r2)] ++ [V.int gr, V.int gr, V.int gr]) := by
      have hg := five a3 b3 g1
      exact .cons ⟨by omega, by omega⟩ (.cons ⟨by omega, by omega⟩ (.cons ⟨by omega, by omega⟩ (.cons ⟨by omega, by omega⟩ (.cons ⟨by omega, by omega⟩ (.cons ⟨by omega, by omega⟩ (.cons ⟨by omega, by omega⟩ (.cons ⟨by omega, by omega⟩ .nil)))))))
    obtain ⟨i, ei, i0, i1⟩ := hall.pick a7 b7
    refine ⟨_, _, _, _, rfl, rfl, SqL.of (D7.at np3 upd_same), ei, ?_⟩
    exact q _ _ i0 i1 D8

/-! ### far cycles, far lines -/
def spCycle : Sp := fun vs H Q _ => ∃ (a : Addr) (m : Int), vs = [.ref a, .int m] ∧ Src H a ∧ 0 ≤ m ∧ m ≤ 1000000000000000000000000000000000000000000000000000 ∧ ∀ (r : Int) (H' : Hp), 0 ≤ r → r ≤ 100000000000000000000000000000000000000000000000000 → r * (m + 1) ≤ 11000000000000000000000000000000000000000000000000000000000 → Dr a H H' → Q (.int r) H'
theorem cyc_ok {r m : Int} (h0 : 0 ≤ m) (hm : m ≤ 1000000000000000000000000000000000000000000000000000) (h1 : r < 10000000000000000000000000000000000000000000000000000000000 / (m + 1) + 1) : r * (m + 1) ≤ 11000000000000000000000000000000000000000000000000000000000 := by
  have h2 : 10000000000000000000000000000000000000000000000000000000000 / (m + 1) * (m + 1) ≤ 10000000000000000000000000000000000000000000000000000000000 := Int.ediv_mul_le _ (by omega)
  have h3 : r * (m + 1) ≤ 10000000000000000000000000000000000000000000000000000000000 / (m + 1) * (m + 1) := Int.mul_le_mul_of_nonneg_right (by omega) (by omega)
  omega
theorem shl_one {s : Int} (h0 : 0 ≤ s) (h1 : s ≤ 64) : (2 : Int) ^ s.toNat ≤ 18446744073709551616 := by
  have h : s.toNat ≤ 64 := by omega
  have := Nat.pow_le_pow_right (n := 2) (by decide) h
  rw [← PySem.W.kbt_cast]
  omega
/-- a far line: its value, slope, shift -/
structure FarL (v l s : Int) : Prop where
  v0 : -1844674407370955161600000000000000000000000000000000000000000000000000 ≤ v
  v1 : v ≤ 1844674407370955161600000000000000000000000000000000000000000000000000
  l0 : 0 ≤ l
  l1 : l ≤ 100000000000000000000000000000000000000000000000000
  s0 : 0 ≤ s
  s1 : s ≤ 64
def spLawLine : Sp := fun vs H Q _ => ∃ (a : Addr), vs = [.ref a] ∧ Src H a ∧ ∀ (p : Addr) (v l s : Int) (H' : Hp), Dr a H H' → H p = none → p ≠ a → H' p = some (.tup [.int v, .int l, .int s]) → FarL v l s → Q (.ref p) H'
theorem mul_small {x m a b : Int} (x0 : -a ≤ x) (x1 : x ≤ a) (a0 : 0 ≤ a) (m0 : 1 ≤ m) (m1 : m ≤ b) : -(a * b) ≤ x * m ∧ x * m ≤ a * b := by
  have h1 : x * m ≤ a * m := Int.mul_le_mul_of_nonneg_right x1 (by omega)
  have h2 : -a * m ≤ x * m := Int.mul_le_mul_of_nonneg_right x0 (by omega)
  have h3 : a * m ≤ a * b := Int.mul_le_mul_of_nonneg_left m1 a0
  rw [Int.neg_mul] at h2
  omega
abbrev sLLine : Stmt := topS 29
theorem scLLine : FnScope ["source", "bits", "start"] ["source"] (defScope sLLine) := ⟨rfl, rfl, rfl, by decide +kernel, rfl, by decide +kernel, by decide +kernel⟩
set_option maxHeartbeats 2000000 in
theorem ok_LLine (D : DefAt K mg "_law_line" sLLine ["source"]) (CLNext : Cal P w K mg base "_law_next" ["source", "many"] 2 (spNext)) (CLFar : Cal P w K mg base "_law_far" ["source"] 3 (spFar)) (T : Txt mg) : Cal P w K mg base "_law_line" ["source"] 4 (spLawLine) := by
  refine D.cal scLLine (fun vs H Q E h => (by (obtain ⟨_, rfl, _⟩ := h); rfl)) (fun f cdv A outer s H vs Q E hr h => ?_)
  obtain ⟨a, rfl, hS, q⟩ := h
  refine ⟨_, pss_cons (ps_set (i := 1) scLLine.nd rfl (Or.inl rfl) (pe_ix ix_list (pe_lst (pa_cons pe_int (pa_cons pe_int (pa_cons pe_int (pa_cons pe_int (pa_cons pe_int (pa_cons pe_int (pa_cons (pe_cal CLNext hr (by rfl) (pa_cons (pv 0) (pa_cons pe_int pa_nil))) pa_nil)))))))) (pe_cal CLNext hr (by rfl) (pa_cons (pv 0) (pa_cons pe_int pa_nil))) (fun _ _ => rfl)))
      (pss_cons (ps_set (i := 2) scLLine.nd rfl (Or.inl rfl) (pe_op op_mulE (pe_op op_sub (pe_cal CLFar hr (by rfl) (pa_cons (pv 0) pa_nil)) (pe_cal CLFar hr (by rfl) (pa_cons (pv 0) pa_nil))) (pe_ix ix_list (pe_lst (pa_cons pe_int (pa_cons pe_int (pa_cons (pe_op op_shlE pe_int (pv 1)) pa_nil)))) (pe_cal CLNext hr (by rfl) (pa_cons (pv 0) (pa_cons pe_int pa_nil))) (fun _ _ => rfl))))
      (pss_one (ps_ret (pe_tup (pa_cons (pv 2) (pa_cons (pe_ix ix_list (pe_lst (pa_cons (pe_cal CLNext hr (by rfl) (pa_cons (pv 0) (pa_cons pe_int pa_nil))) (pa_cons (pe_cal CLFar hr (by rfl) (pa_cons (pv 0) pa_nil)) (pa_cons (pe_cal CLNext hr (by rfl) (pa_cons (pv 0) (pa_cons (pe_op op_shlE pe_int pe_int) pa_nil))) pa_nil)))) (pe_cal CLNext hr (by rfl) (pa_cons (pv 0) (pa_cons pe_int pa_nil))) (fun _ _ => rfl)) (pa_cons (pv 1) pa_nil))))))), ?_⟩
  walk_at "go"
  intro r1 H1 a1 b1 D1
  walk_at "go"
  intro L hL
  have nL : L ≠ a := D1.src.ne hL
  walk_at "go"
  intro r2 H2 a2 b2 D2
  obtain ⟨s, es, s0, s1⟩ := (AllI.cons ⟨by omega, by omega⟩ (.cons ⟨by omega, by omega⟩ (.cons ⟨by omega, by omega⟩ (.cons ⟨by omega, by omega⟩ (.cons ⟨by omega, by omega⟩ (.cons ⟨by omega, by omega⟩ (.cons ⟨by omega, by omega⟩ .nil)))))) : AllI (fun i => 0 ≤ i ∧ i ≤ 64) [V.int 0, V.int 1, V.int 2, V.int 5, V.int 32, V.int 64, V.int r1]).pick a2 b2
  walk_at "go"
  refine ⟨_, _, _, _, rfl, rfl, SqL.of (D2.at nL upd_same), es, ?_⟩
  have hz := pos_pow s.toNat
  have hz1 := shl_one s0 s1
  walk_at "go"
  intro f1 H3 a3 b3 D3
  walk_at "go"
  intro f2 H4 a4 b4 D4
  walk_at "go"
  intro M hM
  have nM : M ≠ a := D4.src.ne hM
  walk_at "go"
  intro r3 H5 a5 b5 D5
  obtain ⟨m, em, m0, m1⟩ := (AllI.cons ⟨by omega, by omega⟩ (.cons ⟨by omega, by omega⟩ (.cons ⟨by omega, by omega⟩ .nil)) : AllI (fun i => 1 ≤ i ∧ i ≤ 18446744073709551616) [V.int 1, V.int 1, V.int (2 ^ s.toNat)]).pick a5 b5
  walk_at "go"
  refine ⟨_, _, _, _, rfl, rfl, SqL.of (D5.at nM upd_same), em, ?_⟩
  have hv := mul_small (x := f1 - f2) (m := m) (a := 100000000000000000000000000000000000000000000000000) (b := 18446744073709551616) (by omega) (by omega) (by decide) m0 m1
  walk_at "go"
  intro r4 H6 a6 b6 D6
  walk_at "go"
  intro f3 H7 a7 b7 D7
  walk_at "go"
  intro r5 H8 a8 b8 D8
  walk_at "go"
  intro N hN
  have nN : N ≠ a := D8.src.ne hN
  walk_at "go"
  intro r6 H9 a9 b9 D9
  obtain ⟨l, el, l0, l1⟩ := (AllI.cons ⟨by omega, by omega⟩ (.cons ⟨by omega, by omega⟩ (.cons ⟨by omega, by omega⟩ .nil)) : AllI (fun i => 0 ≤ i ∧ i ≤ 100000000000000000000000000000000000000000000000000) [V.int r4, V.int f3, V.int r5]).pick a9 b9
  walk_at "go"
  refine ⟨_, _, _, _, rfl, rfl, SqL.of (D9.at nN upd_same), el, ?_⟩
  walk_at "go"
  intro t ht
  have Dx := (((((((((D1.new hL).trans D2).trans D3).trans D4).new hM).trans D5).trans D6).trans D7).trans D8)
  have Dy := (Dx.new hN).trans D9
  exact q t _ _ _ _ (Dy.new ht) (Dy.free ht) (Dy.src.ne ht) upd_same ⟨by omega, by omega, l0, l1, s0, s1⟩

/-! ### partings in turn -/
structure FarM (v l s : Int) : Prop where
  v0 : -2000000000000000000000000000000000000000000000000000000000000000000000 ≤ v
  v1 : v ≤ 2000000000000000000000000000000000000000000000000000000000000000000000
  l0 : 0 ≤ l
  l1 : l ≤ 200000000000000000000000000000000000000000000000000
  s0 : 0 ≤ s
  s1 : s ≤ 64
theorem FarL.m {v l s : Int} (F : FarL v l s) : FarM v l s := ⟨by have := F.v0; omega, by have := F.v1; omega, F.l0, by have := F.l1; omega, F.s0, F.s1⟩
theorem FarM.line {v l s : Int} (F : FarM v l s) {H : Hp} {p : Addr} (h : H p = some (.tup [.int v, .int l, .int s])) : Line H p v l s := ⟨h, by have := F.v0; omega, by have := F.v1; omega, F.l0, by have := F.l1; omega, F.s0, F.s1⟩
theorem Dr.ne_of {a p : Addr} {H : Hp} {xs : List V} (x : Src H a) (h : H p = some (.tup xs)) : p ≠ a := by
  obtain ⟨u, v, n, e⟩ := x
  intro e2
  rw [e2, e] at h
  cases h
/-- two lines, the second one nowhere lower -/
structure Pair2 (v1 l1 v2 l2 s : Int) : Prop where
  f1 : FarM v1 l1 s
  f2 : FarM v2 l2 s
  v : v1 ≤ v2
  l : l2 = l1 ∨ l2 = l1 + 1
def spTwo : Sp := fun vs H Q _ => ∃ (a : Addr), vs = [.ref a] ∧ Src H a ∧ ∀ (t p r : Addr) (v1 l1 v2 l2 s : Int) (H' : Hp), Dr a H H' → H' t = some (.tup [.ref p, .ref r]) →
  H' p = some (.tup [.int v1, .int l1, .int s]) → H' r = some (.tup [.int v2, .int l2, .int s]) → Pair2 v1 l1 v2 l2 s → Q (.ref t) H'
abbrev sLTwo : Stmt := topS 30
theorem scLTwo : FnScope ["source", "left", "more", "slope"] ["source"] (defScope sLTwo) := ⟨rfl, rfl, rfl, by decide +kernel, rfl, by decide +kernel, by decide +kernel⟩
set_option maxHeartbeats 2000000 in
theorem ok_LTwo (D : DefAt K mg "_law_two" sLTwo ["source"]) (CLLine : Cal P w K mg base "_law_line" ["source"] 4 (spLawLine)) (CLNext : Cal P w K mg base "_law_next" ["source", "many"] 2 (spNext)) (T : Txt mg) : Cal P w K mg base "_law_two" ["source"] 5 (spTwo) := by
  refine D.cal scLTwo (fun vs H Q E h => (by (obtain ⟨_, rfl, _⟩ := h); rfl)) (fun f cdv A outer s H vs Q E hr h => ?_)
  obtain ⟨a, rfl, hS, q⟩ := h
  refine ⟨_, pss_cons (ps_set (i := 1) scLTwo.nd rfl (Or.inl rfl) (pe_cal CLLine hr (by rfl) (pa_cons (pv 0) pa_nil)))
      (pss_cons (ps_if (PW.pt (pw_and (pt_cmpR op_gt (pe_ix ix_tup (pv 1) pe_int (fun _ _ => rfl)) pe_int (nomark _)) (pw_and1 (pt_cmpR op_eq (pe_cal CLNext hr (by rfl) (pa_cons (pv 0) (pa_cons pe_int pa_nil))) pe_int (nomark _)))))
        (pss_one (ps_set (i := 1) scLTwo.nd rfl (Or.inl rfl) (pe_tup (pa_cons (pe_ix ix_tup (pv 1) pe_int (fun _ _ => rfl)) (pa_cons (pe_op op_mod (pe_callTy call_int1 (by rfl) T.int (by decide +kernel) (pa_cons (pe_ix ix_tup (pv 1) pe_int (fun _ _ => rfl)) pa_nil)) pe_int) (pa_cons (pe_op op_add pe_int (pe_cal CLNext hr (by rfl) (pa_cons (pv 0) (pa_cons pe_int pa_nil)))) pa_nil))))))
        pss_nil)
      (pss_cons (ps_set (i := 2) scLTwo.nd rfl (Or.inl rfl) (pe_cal CLNext hr (by rfl) (pa_cons (pv 0) (pa_cons (pe_ix ix_list (pe_lst (pa_cons pe_int (pa_cons pe_int (pa_cons (pe_op op_shlE pe_int (pe_ix ix_tup (pv 1) pe_int (fun _ _ => rfl))) pa_nil)))) (pe_cal CLNext hr (by rfl) (pa_cons (pv 0) (pa_cons pe_int pa_nil))) (fun _ _ => rfl)) pa_nil))))
      (pss_cons (ps_set (i := 3) scLTwo.nd rfl (Or.inl rfl) (pe_op op_add (pe_ix ix_tup (pv 1) pe_int (fun _ _ => rfl)) (pe_ix ix_list (pe_lst (pa_cons pe_int (pa_cons pe_int (pa_cons pe_int (pa_cons pe_int pa_nil))))) (pe_cal CLNext hr (by rfl) (pa_cons (pv 0) (pa_cons pe_int pa_nil))) (fun _ _ => rfl))))
      (pss_one (ps_ret (pe_tup (pa_cons (pv 1) (pa_cons (pe_tup (pa_cons (pe_op op_add (pe_ix ix_tup (pv 1) pe_int (fun _ _ => rfl)) (pv 2)) (pa_cons (pv 3) (pa_cons (pe_ix ix_tup (pv 1) pe_int (fun _ _ => rfl)) pa_nil)))) pa_nil)))))))), ?_⟩
  walk_at "go"
  intro p v l s H1 D1 np nP hP F
  have L0 := F.l0
  have L1 := F.l1
  have V0 := F.v0
  have V1 := F.v1
  have S0 := F.s0
  have S1 := F.s1
  walk_at "go"
  refine and_cutP (fun H2 => Dr a H H2 ∧ H2 p = some (.tup [.int v, .int l, .int s])) ⟨D1, hP⟩ (fun H2 ⟨D2, hP2⟩ => ?A) (fun hc hr => ?B)
  case' A =>
    have Fx : FarL v l s := F
    have Dx := D2
    have hPx := hP2
    walk_at "go"
  case' B =>
    walk_at "go"
    intro w H3 w0 w1 D3
    have hP3 := D3.at nP hP
    walk_at "go"
    by_cases hw : w = 0
    case' neg => exact ifNE hw (ofF (hr _ ⟨D1.trans D3, hP3⟩))
    refine ifE hw ?_
    walk_at "go"
    intro w2 H4 w20 w21 D4
    have hP4 := D4.at nP hP3
    walk_at "go"
    intro p2 np2
    have Dx := ((D1.trans D3).trans D4).new (o := .tup [.int v, .int (l % 1000), .int (3 + w2)]) np2
    have m0 := Int.emod_nonneg l (show (1000 : Int) ≠ 0 by decide)
    have m1 := Int.emod_lt_of_pos l (show (0 : Int) < 1000 by decide)
    have Fx : FarL v (l % 1000) (3 + w2) := ⟨by omega, by omega, m0, by omega, by omega, by omega⟩
    have hPx : upd H4 p2 (.tup [.int v, .int (l % 1000), .int (3 + w2)]) p2 = some (.tup [.int v, .int (l % 1000), .int (3 + w2)]) := upd_same
    generalize upd H4 p2 (.tup [.int v, .int (l % 1000), .int (3 + w2)]) = H2 at Dx hPx
    have nP := Dr.ne_of Dx.src hPx
    generalize l % 1000 = l at Fx hPx
    generalize 3 + w2 = s at Fx hPx
    generalize p2 = p at nP hPx
    walk_at "go"
  all_goals
    have l0 := Fx.l0
    have l1 := Fx.l1
    have v0 := Fx.v0
    have v1 := Fx.v1
    have s0 := Fx.s0
    have s1 := Fx.s1
    have hz := pos_pow s.toNat
    have hz1 := shl_one s0 s1
    walk_at "go"
    intro L hL
    have hPy := upd_at (u := .lst [V.int 3, V.int 30, V.int (2 ^ s.toNat)]) hPx hL
    have Dy := Dx.new (o := .lst [V.int 3, V.int 30, V.int (2 ^ s.toNat)]) hL
    have nL : L ≠ a := Dx.src.ne hL
    walk_at "go"
    intro r1 H5 b0 b1 D5
    obtain ⟨m, em, m0, m1⟩ := (AllI.cons ⟨by omega, by omega⟩ (.cons ⟨by omega, by omega⟩ (.cons ⟨by omega, by omega⟩ .nil)) : AllI (fun i => 1 ≤ i ∧ i ≤ 18446744073709551616) [V.int 3, V.int 30, V.int (2 ^ s.toNat)]).pick b0 b1
    refine ⟨_, _, _, _, rfl, rfl, SqL.of (D5.at nL upd_same), em, ?_⟩
    have hP5 := D5.at nP hPy
    walk_at "go"
    intro g H6 g0 g1 D6
    have hP6 := D6.at nP hP5
    walk_at "go"
    intro M hM
    have nM : M ≠ a := D6.src.ne hM
    have hP7 := upd_at (u := .lst [V.int 0, V.int 0, V.int 0, V.int 1]) hP6 hM
    walk_at "go"
    intro r2 H8 c0 c1 D8
    obtain ⟨e, ee, e0, e1⟩ := (AllI.cons ⟨by omega, by omega⟩ (.cons ⟨by omega, by omega⟩ (.cons ⟨by omega, by omega⟩ (.cons ⟨by omega, by omega⟩ .nil))) : AllI (fun i => 0 ≤ i ∧ i ≤ 1) [V.int 0, V.int 0, V.int 0, V.int 1]).pick c0 c1
    refine ⟨_, _, _, _, rfl, rfl, SqL.of (D8.at nM upd_same), ee, ?_⟩
    have hP8 := D8.at nP hP7
    walk_at "go"
    intro q2 hq2
    walk_at "go"
    intro t ht
    have D9 := ((((Dy.trans D5).trans D6).new (o := .lst [V.int 0, V.int 0, V.int 0, V.int 1]) hM).trans D8)
    have Dz := (D9.new (o := .tup [.int (v + g), .int (l + e), .int s]) hq2).new (o := .tup [.ref p, .ref q2]) ht
    exact q t p q2 _ _ _ _ _ _ Dz upd_same (upd_at (upd_at hP8 hq2) ht) (upd_at upd_same ht) ⟨Fx.m, ⟨by omega, by omega, by omega, by omega, s0, s1⟩, by omega, by omega⟩
def spBegun : Sp := fun vs H Q _ => ∃ (p : Addr) (v l s c : Int), vs = [.ref p, .int c] ∧ H p = some (.tup [.int v, .int l, .int s]) ∧ CMulE l c ∧ ∀ t, H t = none → Q (.ref t) (upd H t (.tup [.int (v + l * c), .int l, .int s]))
abbrev sLBegun : Stmt := topS 31
theorem scLBegun : FnScope ["row", "at"] ["row", "at"] (defScope sLBegun) := ⟨rfl, rfl, rfl, by decide +kernel, rfl, by decide +kernel, by decide +kernel⟩
set_option maxHeartbeats 2000000 in
theorem ok_LBegun (D : DefAt K mg "_law_begun" sLBegun ["row", "at"])  (T : Txt mg) : Cal P w K mg base "_law_begun" ["row", "at"] 1 (spBegun) := by
  refine D.cal scLBegun (fun vs H Q E h => (by (obtain ⟨_, _, _, _, _, rfl, _⟩ := h); rfl)) (fun f cdv A outer s H vs Q E hr h => ?_)
  obtain ⟨p, v, l, s, c, rfl, hP, hm, q⟩ := h
  refine ⟨_, pss_one (ps_ret (pe_tup (pa_cons (pe_op op_add (pe_ix ix_tup (pv 0) pe_int (fun _ _ => rfl)) (pe_op op_mulE (pe_ix ix_tup (pv 0) pe_int (fun _ _ => rfl)) (pv 1))) (pa_cons (pe_ix ix_tup (pv 0) pe_int (fun _ _ => rfl)) (pa_cons (pe_ix ix_tup (pv 0) pe_int (fun _ _ => rfl)) pa_nil))))), ?_⟩
  walk_at "go"
  exact q
/-- the cycle behind the parting before the i-th -/
def prv (ns : List Int) : Nat → Int
  | 0 => 0
  | i + 1 => nth ns i + 1
/-- the partings in turn -/
structure Parts (P : Int → Prop) (ns : List Int) (z : Int) : Prop where
  le : ∀ i, i < ns.length → prv ns i ≤ nth ns i
  hit : ∀ i, i < ns.length → P (nth ns i)
  gap : ∀ i, i < ns.length → ∀ c, prv ns i ≤ c → c < nth ns i → ¬ P c
  far : ∀ i, i ≤ ns.length → prv ns i ≤ (i : Int) * (z + 1)
theorem Parts.lo {P : Int → Prop} {ns : List Int} {z : Int} (h : Parts P ns z) : ∀ i, i ≤ ns.length → 0 ≤ prv ns i
  | 0, _ => Int.le_refl _
  | i + 1, hi => by
    have := h.lo i (by omega)
    have := h.le i hi
    show 0 ≤ nth ns i + 1
    omega
theorem nth_app {ns : List Int} {x : Int} {i : Nat} (h : i < ns.length) : nth (ns ++ [x]) i = nth ns i := by
  unfold nth
  rw [List.getD_eq_getElem?_getD, List.getD_eq_getElem?_getD, List.getElem?_append_left h]
theorem nth_last {ns : List Int} {x : Int} : nth (ns ++ [x]) ns.length = x := by
  unfold nth
  rw [List.getD_eq_getElem?_getD, List.getElem?_append_right (Nat.le_refl _), Nat.sub_self]
  rfl
theorem prv_app {ns : List Int} {x : Int} {i : Nat} (h : i ≤ ns.length) : prv (ns ++ [x]) i = prv ns i := by
  cases i with
  | zero => rfl
  | succ i => show nth (ns ++ [x]) i + 1 = nth ns i + 1; rw [nth_app (by omega)]
theorem Parts.nil {P : Int → Prop} {z : Int} : Parts P [] z := ⟨fun i h => absurd h (Nat.not_lt_zero _), fun i h => absurd h (Nat.not_lt_zero _), fun i h => absurd h (Nat.not_lt_zero _), fun i h => by
  have e : i = 0 := by
    have h2 : i ≤ 0 := h
    omega
  subst e
  show (0 : Int) ≤ ((0 : Nat) : Int) * _
  rw [Int.natCast_zero, Int.zero_mul]
  omega⟩
theorem Parts.add {P : Int → Prop} {ns : List Int} {z x : Int} (h : Parts P ns z) (h1 : prv ns ns.length ≤ x) (h2 : P x) (h3 : ∀ c, prv ns ns.length ≤ c → c < x → ¬ P c) (h4 : x ≤ prv ns ns.length + z) : Parts P (ns ++ [x]) z := by
  have hl : (ns ++ [x]).length = ns.length + 1 := by rw [List.length_append]; rfl
  refine ⟨fun i hi => ?_, fun i hi => ?_, fun i hi => ?_, fun i hi => ?_⟩
  · rcases Nat.lt_or_ge i ns.length with e | e
    · rw [prv_app (by omega), nth_app e]
      exact h.le i e
    · have e : i = ns.length := by omega
      subst e
      rw [prv_app (Nat.le_refl _), nth_last]
      exact h1
  · rcases Nat.lt_or_ge i ns.length with e | e
    · rw [nth_app e]
      exact h.hit i e
    · have e : i = ns.length := by omega
      subst e
      rw [nth_last]
      exact h2
  · rcases Nat.lt_or_ge i ns.length with e | e
    · rw [prv_app (by omega), nth_app e]
      exact h.gap i e
    · have e : i = ns.length := by omega
      subst e
      rw [prv_app (Nat.le_refl _), nth_last]
      exact h3
  · rcases Nat.lt_or_ge ns.length i with e | e
    · have e : i = ns.length + 1 := by omega
      subst e
      show nth (ns ++ [x]) ns.length + 1 ≤ _
      rw [nth_last]
      have h5 := h.far ns.length (Nat.le_refl _)
      rw [show ((ns.length + 1 : Nat) : Int) * (z + 1) = (ns.length : Int) * (z + 1) + (z + 1) by rw [show ((ns.length + 1 : Nat) : Int) = (ns.length : Int) + 1 from rfl, Int.add_mul, Int.one_mul]]
      omega
    · rw [prv_app e]
      exact h.far i e
/-- if they ever part again, then soon -/
theorem soon {v1 l1 v2 l2 z b c : Int} (hz : 0 < z) (hv : v1 ≤ v2) (hl : l2 = l1 ∨ l2 = l1 + 1) (hb : 0 ≤ b) (hc : b ≤ c) (h : FS.rd v1 l1 z c ≠ FS.rd v2 l2 z c) : ∃ c', b ≤ c' ∧ c' ≤ b + z ∧ FS.rd v1 l1 z c' ≠ FS.rd v2 l2 z c' := by
  rcases hl with e | e
  · subst e
    have m0 := Int.emod_nonneg (c - b) (show z ≠ 0 by omega)
    have m1 := Int.emod_lt_of_pos (c - b) hz
    refine ⟨b + (c - b) % z, by omega, by omega, fun e => h ?_⟩
    have sh : ∀ v, FS.rd v l2 z c = FS.rd (v + l2 * b) l2 z (c - b) := fun v => by
      rw [FS.rd_shift, show b + (c - b) = c by omega]
    rw [sh v1, sh v2, FS.rd_per (c := c - b) hz, FS.rd_per (v := v2 + l2 * b) (c := c - b) hz, FS.rd_shift, FS.rd_shift, e]
  · subst e
    refine ⟨b + z, by omega, by omega, fun e => ?_⟩
    unfold FS.rd at e
    have h1 : (v1 + l1 * (b + z) + z * 1) / z ≤ (v2 + (l1 + 1) * (b + z)) / z := Int.ediv_le_ediv hz (by rw [Int.add_mul]; omega)
    rw [Int.add_mul_ediv_left _ _ (by omega)] at h1
    omega
theorem two_le {v1 l1 v2 l2 z c : Int} (hz : 0 < z) (hv : v1 ≤ v2) (hl : l2 = l1 ∨ l2 = l1 + 1) (hc : 0 ≤ c) : FS.rd v1 l1 z c ≤ FS.rd v2 l2 z c := by
  refine Int.ediv_le_ediv hz ?_
  rcases hl with e | e
  · rw [e]; omega
  · rw [e, Int.add_mul]; omega
/-- lines of one slope that do not part from some cycle on never do -/
theorem never {v1 v2 l z b : Int} (hz : 0 < z) (h : ∀ c, b ≤ c → ¬ FS.rd v1 l z c ≠ FS.rd v2 l z c) (c : Int) : FS.rd v1 l z c = FS.rd v2 l z c := by
  have e : ∀ v, FS.rd v l z (c + z * (b - c).natAbs) = FS.rd v l z c + l * ((b - c).natAbs : Int) := fun v => by
    unfold FS.rd
    rw [show v + l * (c + z * ((b - c).natAbs : Int)) = v + l * c + z * (l * ((b - c).natAbs : Int)) by rw [Int.mul_add, ← Int.mul_assoc, ← Int.mul_assoc, Int.mul_comm l z]; omega, Int.add_mul_ediv_left _ _ (by omega)]
  have h1 : ((b - c).natAbs : Int) ≤ z * ((b - c).natAbs : Int) := by
    have := Int.mul_le_mul_of_nonneg_right (show 1 ≤ z by omega) (show (0 : Int) ≤ ((b - c).natAbs : Int) by omega)
    omega
  have h2 := h (c + z * (b - c).natAbs) (by omega)
  rw [e, e] at h2
  omega
theorem unl_const {v1 v2 l z : Int} {a b : Nat} (hab : a ≤ b) (h : ∀ c : Int, (a : Int) ≤ c → c < (b : Int) → ¬ FS.rd v1 l z c ≠ FS.rd v2 l z c) : FS.unl v1 v2 l z b = FS.unl v1 v2 l z a := by
  induction b with
  | zero =>
    have e : a = 0 := by omega
    rw [e]
  | succ b ih =>
    rcases Nat.lt_or_ge b a with e | e
    · have e : a = b + 1 := by omega
      rw [e]
    · have h1 := ih e (fun c c0 c1 => h c c0 (by omega))
      rw [← h1]
      show FS.sumF _ b + _ = _
      have h2 := h (b : Int) (by omega) (by omega)
      dsimp only
      rw [if_pos (by omega), Int.add_zero]
      rfl
theorem unl_hit {v1 v2 l z : Int} {b : Nat} (h : FS.rd v1 l z (b : Int) ≠ FS.rd v2 l z (b : Int)) : FS.unl v1 v2 l z (b + 1) = FS.unl v1 v2 l z b + 1 := by
  show FS.sumF _ b + _ = FS.sumF _ b + 1
  dsimp only
  rw [if_neg h]
/-- as many lie ahead of each of them as it has number -/
theorem Parts.count {v1 v2 l z y : Int} {ns : List Int} (h : Parts (fun c => FS.rd v1 l z c ≠ FS.rd v2 l z c) ns y) : ∀ i, i ≤ ns.length → FS.unl v1 v2 l z (prv ns i).toNat = (i : Int) ∧ (i < ns.length → FS.unl v1 v2 l z (nth ns i).toNat = (i : Int))
  | 0, _ => by
    have e : FS.unl v1 v2 l z (prv ns 0).toNat = 0 := rfl
    refine ⟨e, fun hi => ?_⟩
    have h1 := h.le 0 hi
    have h0 := h.lo 0 (by omega)
    rw [unl_const (a := (prv ns 0).toNat) (by omega) (fun c c0 c1 => h.gap 0 hi c (by omega) (by omega))]
    exact e
  | i + 1, hi => by
    have ih := (h.count i (by omega)).2 hi
    have h0 := h.lo i (by omega)
    have h1 := h.le i hi
    have e : FS.unl v1 v2 l z (prv ns (i + 1)).toNat = ((i + 1 : Nat) : Int) := by
      show FS.unl v1 v2 l z (nth ns i + 1).toNat = _
      rw [show (nth ns i + 1).toNat = (nth ns i).toNat + 1 by omega, unl_hit, ih]
      · rfl
      · rw [show (((nth ns i).toNat : Nat) : Int) = nth ns i by omega]
        exact h.hit i hi
    refine ⟨e, fun hi2 => ?_⟩
    have h2 := h.le (i + 1) hi2
    have h3 := h.lo (i + 1) (by omega)
    rw [unl_const (a := (prv ns (i + 1)).toNat) (by omega) (fun c c0 c1 => h.gap (i + 1) hi2 c (by omega) (by omega))]
    exact e

def spPartings : Sp := fun vs H Q _ => ∃ (p r : Addr) (v1 l1 v2 l2 s : Int), vs = [.ref p, .ref r] ∧ H p = some (.tup [.int v1, .int l1, .int s]) ∧ H r = some (.tup [.int v2, .int l2, .int s]) ∧ Pair2 v1 l1 v2 l2 s ∧
  ∀ (D : Addr) (ns : List Int) (H' : Hp), Same H H' → H D = none → H' D = some (.lst (ns.map V.int)) → Parts (fun c => FS.rd v1 l1 (2 ^ s.toNat) c ≠ FS.rd v2 l2 (2 ^ s.toNat) c) ns (2 ^ s.toNat) → ns.length ≤ 12 →
    (ns.length = 12 ∨ ∀ c, prv ns ns.length ≤ c → ¬ FS.rd v1 l1 (2 ^ s.toNat) c ≠ FS.rd v2 l2 (2 ^ s.toNat) c) → Q (.ref D) H'
abbrev sLPartings : Stmt := topS 32
theorem scLPartings : FnScope ["left", "right", "found", "begin", "turn", "at"] ["left", "right"] (defScope sLPartings) := ⟨rfl, rfl, rfl, by decide +kernel, rfl, by decide +kernel, by decide +kernel⟩
set_option maxHeartbeats 2000000 in
theorem ok_LPartings (D : DefAt K mg "_law_partings" sLPartings ["left", "right"]) (CFirstApart : Cal P w K mg base "first_apart" ["one", "other"] 6 (spFirstApart)) (CLBegun : Cal P w K mg base "_law_begun" ["row", "at"] 1 (spBegun)) (T : Txt mg) : Cal P w K mg base "_law_partings" ["left", "right"] 8 (spPartings) := by
  refine D.cal scLPartings (fun vs H Q E h => (by (obtain ⟨_, _, _, _, _, _, _, rfl, _⟩ := h); rfl)) (fun f cdv A outer s H vs Q E hr h => ?_)
  obtain ⟨p, r, v1, l1, v2, l2, s, rfl, hP, hR, ⟨F1, F2, hv, hl⟩, q⟩ := h
  refine ⟨_, pss_cons (ps_par (i := 2) (j := 3) (by rfl) scLPartings.nd rfl rfl (by decide) rfl rfl (pa_cons (pe_lst pa_nil) (pa_cons pe_int pa_nil)) (by rfl))
      (pss_cons (ps_for PassesOwn.never rfl (pi_range1 (by rfl) T.range (pa_cons pe_int pa_nil)) (pg_name (i := 4) scLPartings.nd rfl (Or.inl rfl))
        (pss_cons (ps_set (i := 5) scLPartings.nd rfl (Or.inl rfl) (pe_cal CFirstApart hr (by rfl) (pa_cons (pe_cal CLBegun hr (by rfl) (pa_cons (pv 0) (pa_cons (pv 3) pa_nil))) (pa_cons (pe_cal CLBegun hr (by rfl) (pa_cons (pv 1) (pa_cons (pv 3) pa_nil))) pa_nil))))
        (pss_cons (ps_if (pt_cmpR op_isN (pv 5) pe_non (nomark _))
          (pss_one (ps_ret (pv 2)))
          pss_nil)
        (pss_cons (ps_expr (pe_bm PySem.F.plainAttrs_list PySem.F.slot_list_append PySem.F.type_list_append mt_append (pv 2) (pa_cons (pe_op op_add (pv 3) (pv 5)) pa_nil)))
        (pss_one (ps_set (i := 3) scLPartings.nd rfl (Or.inl rfl) (pe_op op_add (pe_op op_add (pv 3) (pv 5)) pe_int)))))))
      (pss_one (ps_ret (pv 2)))), ?_⟩
  have l10 := F1.l0
  have l11 := F1.l1
  have v10 := F1.v0
  have v11 := F1.v1
  have l20 := F2.l0
  have l21 := F2.l1
  have v20 := F2.v0
  have v21 := F2.v1
  have hz := pos_pow s.toNat
  have hz1 := shl_one F1.s0 F1.s1
  walk_at "go"
  intro D hD
  walk_at "go"
  refine for_range (lo := 0) (n := 12) (fun i σ H' => ∃ (ns : List Int) (v4 v5 : Option V), σ = [some (.ref p), some (.ref r), some (.ref D), some (.int (prv ns ns.length)), v4, v5] ∧ Same H H' ∧ H' D = some (.lst (ns.map V.int)) ∧ ns.length = i ∧ Parts (fun c => FS.rd v1 l1 (2 ^ s.toNat) c ≠ FS.rd v2 l2 (2 ^ s.toNat) c) ns (2 ^ s.toNat))
    ⟨[], none, none, rfl, same_upd hD, upd_same, rfl, .nil⟩ (fun i σ H1 hi ⟨ns, v4, v5, e, sm, hD1, hn, hp⟩ => ?_) (fun σ H1 ⟨ns, v4, v5, e, sm, hD1, hn, hp⟩ => ?_)
  · subst e
    have b0 := hp.lo _ (Nat.le_refl _)
    have b1 := hp.far _ (Nat.le_refl _)
    have b2 : (ns.length : Int) * (2 ^ s.toNat + 1) ≤ 12 * 18446744073709551617 := Int.mul_le_mul (by omega) (by omega) (by omega) (by decide)
    obtain ⟨b, hb⟩ : ∃ b, b = prv ns ns.length := ⟨_, rfl⟩
    rw [← hb] at b0 b1 ⊢
    have m1 : l1 * b ≤ 200000000000000000000000000000000000000000000000000 * (12 * 18446744073709551617) := Int.mul_le_mul l11 (by omega) b0 (by decide)
    have m2 : l2 * b ≤ 200000000000000000000000000000000000000000000000000 * (12 * 18446744073709551617) := Int.mul_le_mul l21 (by omega) b0 (by decide)
    have m10 := Int.mul_nonneg l10 b0
    have m20 := Int.mul_nonneg l20 b0
    have hP1 := sm _ _ hP
    have hR1 := sm _ _ hR
    walk_at "go"
    refine ⟨p, _, _, _, b, rfl, hP1, mulE3 (by omega) (by omega), fun x hx => ?_⟩
    walk_at "go"
    have hR2 := upd_at (u := .tup [.int (v1 + l1 * b), .int l1, .int s]) hR1 hx
    refine ⟨r, _, _, _, b, rfl, hR2, mulE3 (by omega) (by omega), fun y hy => ?_⟩
    have hX3 : upd (upd H1 x (.tup [.int (v1 + l1 * b), .int l1, .int s])) y (.tup [.int (v2 + l2 * b), .int l2, .int s]) x = some (.tup [.int (v1 + l1 * b), .int l1, .int s]) := upd_at upd_same hy
    have hY3 : upd (upd H1 x (.tup [.int (v1 + l1 * b), .int l1, .int s])) y (.tup [.int (v2 + l2 * b), .int l2, .int s]) y = some (.tup [.int (v2 + l2 * b), .int l2, .int s]) := upd_same
    have sm3 := (same_upd (o := .tup [.int (v1 + l1 * b), .int l1, .int s]) hx).trans (same_upd (o := .tup [.int (v2 + l2 * b), .int l2, .int s]) hy)
    generalize upd (upd H1 x (.tup [.int (v1 + l1 * b), .int l1, .int s])) y (.tup [.int (v2 + l2 * b), .int l2, .int s]) = H3 at hX3 hY3 sm3
    have ZX : Line H3 x (v1 + l1 * b) l1 s := ⟨hX3, by omega, by omega, l10, by omega, F1.s0, F1.s1⟩
    have ZY : Line H3 y (v2 + l2 * b) l2 s := ⟨hY3, by omega, by omega, l20, by omega, F2.s0, F2.s1⟩
    walk_at "go"
    refine ⟨x, y, _, _, _, _, _, _, rfl, ZX, ZY, fun o H4 sm4 so ho => ?_⟩
    have ho := ho.congr (P' := fun c => FS.rd v1 l1 (2 ^ s.toNat) (b + c) ≠ FS.rd v2 l2 (2 ^ s.toNat) (b + c)) (fun c _ => by rw [FS.rd_shift, FS.rd_shift])
    have smH := (sm.trans sm3).trans sm4
    have hD4 := sm4 _ _ (sm3 _ _ hD1)
    cases o with
    | none =>
      walk_at "go"
      refine q D ns _ smH hD hD4 hp (by omega) (.inr fun c hc => ?_)
      have := ho (c - b) (by omega)
      dsimp only at this
      rw [show b + (c - b) = c by omega] at this
      exact this
    | some a =>
      obtain ⟨a0, a1, a2⟩ := ho
      obtain ⟨c', k0, k1, k2⟩ := soon (b := b) (c := b + a) hz hv hl b0 (by omega) a1
      have a3 : a ≤ 2 ^ s.toNat := by
        rcases Int.lt_or_le (c' - b) a with h | h
        · refine absurd ?_ (a2 (c' - b) (by omega) h)
          dsimp only
          rw [show b + (c' - b) = c' by omega]
          exact k2
        · omega
      walk_at "go"
      refine ⟨D, _, _, rfl, rfl, hD4, ?_, ?_⟩
      · rw [List.length_map]
        exact Nat.lt_of_le_of_lt (show ns.length ≤ 100 by omega) (by decide)
      walk_at "go"
      have hl2 : (ns ++ [b + a]).length = ns.length + 1 := by rw [List.length_append]; rfl
      refine ⟨ns ++ [b + a], some (.int (0 + (i : Int))), some (optV (some a)), ?_, same_set smH hD, ?_, by omega, ?_⟩
      · rw [hl2]
        show [some (V.ref p), some (V.ref r), some (V.ref D), some (V.int (b + a + 1)), some (.int (0 + (i : Int))), some (optV (some a))] = [some (V.ref p), some (V.ref r), some (V.ref D), some (V.int (nth (ns ++ [b + a]) ns.length + 1)), some (.int (0 + (i : Int))), some (optV (some a))]
        rw [nth_last]
      · rw [List.map_append]
        exact upd_same
      · refine hp.add (by omega) a1 (fun c c0 c1 => ?_) (by omega)
        have := a2 (c - b) (by omega) (by omega)
        dsimp only at this
        rw [show b + (c - b) = c by omega] at this
        exact this
  · subst e
    walk_at "go"
    exact q D ns _ sm hD hD1 hp (by omega) (.inl (by omega))
def spBetween : Sp := fun vs H Q _ => ∃ (a p r D : Addr) (v1 l1 v2 l2 s : Int) (ns : List Int), vs = [.ref a, .ref p, .ref r, .ref D] ∧ Src H a ∧ H p = some (.tup [.int v1, .int l1, .int s]) ∧ H r = some (.tup [.int v2, .int l2, .int s]) ∧ Pair2 v1 l1 v2 l2 s ∧
  H D = some (.lst (ns.map V.int)) ∧ D ≠ a ∧ Parts (fun c => FS.rd v1 l1 (2 ^ s.toNat) c ≠ FS.rd v2 l2 (2 ^ s.toNat) c) ns (2 ^ s.toNat) ∧ ns.length ≤ 12 ∧ ∀ H', Dr a H H' → Q (.bl true) H'
abbrev sLBetweenRight : Stmt := topS 33
theorem scLBetweenRight : FnScope ["source", "left", "right", "found", "begin", "at", "turn", "middle"] ["source", "left", "right", "found"] (defScope sLBetweenRight) := ⟨rfl, rfl, rfl, by decide +kernel, rfl, by decide +kernel, by decide +kernel⟩
set_option maxHeartbeats 2000000 in
theorem ok_LBetweenRight (D : DefAt K mg "_law_between_right" sLBetweenRight ["source", "left", "right", "found"]) (CLineReading : Cal P w K mg base "line_reading" ["line", "cycle"] 5 (spLineReading)) (CLNext : Cal P w K mg base "_law_next" ["source", "many"] 2 (spNext)) (T : Txt mg) : Cal P w K mg base "_law_between_right" ["source", "left", "right", "found"] 8 (spBetween) := by
  refine D.cal scLBetweenRight (fun vs H Q E h => (by (obtain ⟨_, _, _, _, _, _, _, _, _, _, rfl, _⟩ := h); rfl)) (fun f cdv A outer s H vs Q E hr h => ?_)
  obtain ⟨a, p, r, D, v1, l1, v2, l2, s, ns, rfl, hS, hP, hR, ⟨F1, F2, hv, hl⟩, hD, nD, hp, h12, q⟩ := h
  refine ⟨_, pss_cons (ps_set (i := 4) scLBetweenRight.nd rfl (Or.inl rfl) pe_int)
      (pss_cons (ps_for PassesOwn.never rfl (pi_list (pv 3)) (pg_name (i := 5) scLBetweenRight.nd rfl (Or.inl rfl))
        (pss_cons (ps_if (pt_cmpR op_ge (pe_cal CLineReading hr (by rfl) (pa_cons (pv 1) (pa_cons (pv 5) pa_nil))) (pe_cal CLineReading hr (by rfl) (pa_cons (pv 2) (pa_cons (pv 5) pa_nil))) (nomark _))
          (pss_one (ps_ret pe_bl))
          pss_nil)
        (pss_cons (ps_for PassesOwn.never rfl (pi_range1 (by rfl) T.range (pa_cons (pe_callB (call_min2 rfl) (by rfl) T.min (by decide +kernel) (pa_cons pe_int (pa_cons (pe_op op_sub (pv 5) (pv 4)) pa_nil))) pa_nil)) (pg_name (i := 6) scLBetweenRight.nd rfl (Or.inl rfl))
          (pss_cons (ps_set (i := 7) scLBetweenRight.nd rfl (Or.inl rfl) (pe_op op_add (pv 4) (pe_op op_fdivW (pe_op op_mulE (pe_op op_sub (pv 5) (pv 4)) (pe_cal CLNext hr (by rfl) (pa_cons (pv 0) (pa_cons (pe_op op_powE pe_int pe_int) pa_nil)))) (pe_op op_powE pe_int pe_int))))
          (pss_one (ps_if (pt_cmpR op_ne (pe_cal CLineReading hr (by rfl) (pa_cons (pv 1) (pa_cons (pv 7) pa_nil))) (pe_cal CLineReading hr (by rfl) (pa_cons (pv 2) (pa_cons (pv 7) pa_nil))) (nomark _))
            (pss_one (ps_ret pe_bl))
            pss_nil))))
        (pss_one (ps_set (i := 4) scLBetweenRight.nd rfl (Or.inl rfl) (pe_op op_add (pv 5) pe_int))))))
      (pss_one (ps_ret pe_bl))), ?_⟩
  have nP := Dr.ne_of hS hP
  have nR := Dr.ne_of hS hR
  have l10 := F1.l0
  have l11 := F1.l1
  have l20 := F2.l0
  have l21 := F2.l1
  have hz := pos_pow s.toNat
  have hz1 := shl_one F1.s0 F1.s1
  walk_at "go"
  refine for_list (K := K) (a := D) (xs := ns.map V.int) (fun i σ H' => ∃ (v5 v6 v7 : Option V), σ = [some (.ref a), some (.ref p), some (.ref r), some (.ref D), some (.int (prv ns i)), v5, v6, v7] ∧ Dr a H H')
    ⟨none, none, none, rfl, Dr.refl hS⟩ (fun i σ H1 _ ⟨v5, v6, v7, e, D1⟩ => SqL.of (D1.at nD hD)) (fun i x σ H1 hx ⟨v5, v6, v7, e, D1⟩ => ?_) (fun σ H1 ⟨v5, v6, v7, e, D1⟩ => ?_)
  · subst e
    obtain ⟨hi, ex⟩ := nth_of hx
    subst ex
    have b0 := hp.lo i (by omega)
    have b1 := hp.le i hi
    have b2 := hp.far (i + 1) hi
    have b3 : ((i + 1 : Nat) : Int) * (2 ^ s.toNat + 1) ≤ 12 * 18446744073709551617 := Int.mul_le_mul (by omega) (by omega) (by omega) (by decide)
    have hit := hp.hit i hi
    have gap := hp.gap i hi
    have en : prv ns (i + 1) = nth ns i + 1 := rfl
    rw [en] at b2
    generalize nth ns i = x at *
    generalize prv ns i = b at *
    have hle := two_le (z := 2 ^ s.toNat) hz hv hl (show 0 ≤ x by omega)
    have hlt : ¬ (v2 + l2 * x) / 2 ^ s.toNat ≤ (v1 + l1 * x) / 2 ^ s.toNat := by
      have h1 : (v1 + l1 * x) / 2 ^ s.toNat ≤ (v2 + l2 * x) / 2 ^ s.toNat := hle
      have h2 : (v1 + l1 * x) / 2 ^ s.toNat ≠ (v2 + l2 * x) / 2 ^ s.toNat := hit
      omega
    have ZP := F1.line (D1.at nP hP)
    have ZR := F2.line (D1.at nR hR)
    walk_at "go"
    refine ⟨p, _, _, _, x, rfl, ZP, by omega, mulE3 (by omega) (by omega), ?_⟩
    walk_at "go"
    refine ⟨r, _, _, _, x, rfl, ZR, by omega, mulE3 (by omega) (by omega), ?_⟩
    walk_at "go"
    refine for_range (lo := 0) (n := _) (fun j σ H' => ∃ (v6 v7 : Option V), σ = [some (.ref a), some (.ref p), some (.ref r), some (.ref D), some (.int b), some (.int x), v6, v7] ∧ Dr a H H')
      ⟨v6, v7, rfl, D1⟩ (fun j σ H2 hj ⟨v6, v7, e, D2⟩ => ?_) (fun σ H2 ⟨v6, v7, e, D2⟩ => ?_)
    · subst e
      have hb : b < x := by
        split at hj <;> omega
      walk_at "go"
      intro y H3 y0 y1 D3
      have D4 := D2.trans D3
      have ZP := F1.line (D4.at nP hP)
      have ZR := F2.line (D4.at nR hR)
      have w0 := Int.mul_nonneg (show 0 ≤ x - b by omega) y0
      have w1 : (x - b) * y < (x - b) * 1000000000 := Int.mul_lt_mul_of_pos_left y1 (by omega)
      have w2 : 0 ≤ (x - b) * y / 1000000000 := Int.ediv_nonneg w0 (by decide)
      have w3 : (x - b) * y / 1000000000 < x - b := Int.ediv_lt_of_lt_mul (by decide) w1
      have g := gap (b + (x - b) * y / 1000000000) (by omega) (by omega)
      have g : (v1 + l1 * (b + (x - b) * y / 1000000000)) / 2 ^ s.toNat = (v2 + l2 * (b + (x - b) * y / 1000000000)) / 2 ^ s.toNat := Classical.byContradiction g
      walk_at "go"
      refine ⟨p, _, _, _, b + (x - b) * y / 1000000000, rfl, ZP, by omega, mulE3 (by omega) (by omega), ?_⟩
      walk_at "go"
      refine ⟨r, _, _, _, b + (x - b) * y / 1000000000, rfl, ZR, by omega, mulE3 (by omega) (by omega), ?_⟩
      rw [g]
      refine ⟨rfl, _, rfl, ifEn rfl ?_⟩
      exact ⟨_, _, rfl, D4⟩
    · subst e
      refine ⟨_, rfl, _, _, rfl, rfl, ?_⟩
      exact ⟨some (.int x), v6, v7, by rw [en]; rfl, D2⟩
  · subst e
    walk_at "go"
    exact q _ D1
theorem scal_opt (o : Option Int) : scal (optV o) (optV o) = true := by cases o <;> rfl
theorem steep {v1 l1 v2 l2 z b : Int} (hz : 0 < z) (hv : v1 ≤ v2) (hl : l2 = l1 + 1) (hb : 0 ≤ b) : FS.rd v1 l1 z (b + z) ≠ FS.rd v2 l2 z (b + z) := by
  subst hl
  intro e
  unfold FS.rd at e
  have h1 : (v1 + l1 * (b + z) + z * 1) / z ≤ (v2 + (l1 + 1) * (b + z)) / z := Int.ediv_le_ediv hz (by rw [Int.add_mul]; omega)
  rw [Int.add_mul_ediv_left _ _ (by omega)] at h1
  omega
def spRight : Sp := fun vs H Q _ => ∃ (a : Addr), vs = [.ref a] ∧ Src H a ∧ ∀ (H' : Hp), Dr a H H' → Q (.bl true) H'
def spLaw (K : PySem.W.Frag) : Sp := fun vs H Q _ => ∃ (a : Addr) (ns : List Int), vs = [.ref a] ∧ SqL K H a (ns.map V.int) ∧ ns.length ≤ 63 ∧ ∀ H', Q (.bl true) H'
abbrev sLRight : Stmt := topS 34
theorem scLRight : FnScope ["source", "left", "right", "found", "number", "at"] ["source"] (defScope sLRight) := ⟨rfl, rfl, rfl, by decide +kernel, rfl, by decide +kernel, by decide +kernel⟩
set_option maxHeartbeats 2000000 in
theorem ok_LRight (D : DefAt K mg "_law_right" sLRight ["source"]) (CLTwo : Cal P w K mg base "_law_two" ["source"] 5 (spTwo)) (CLPartings : Cal P w K mg base "_law_partings" ["left", "right"] 8 (spPartings)) (CFirstAhead : Cal P w K mg base "first_ahead" ["one", "other"] 5 (spFirstAhead)) (CLBetweenRight : Cal P w K mg base "_law_between_right" ["source", "left", "right", "found"] 8 (spBetween)) (CApartMany : Cal P w K mg base "apart_many" ["one", "other", "last"] 6 (spApartMany)) (T : Txt mg) : Cal P w K mg base "_law_right" ["source"] 9 (spRight) := by
  refine D.cal scLRight (fun vs H Q E h => (by (obtain ⟨_, rfl, _⟩ := h); rfl)) (fun f cdv A outer s H vs Q E hr h => ?_)
  obtain ⟨a, rfl, hS, q⟩ := h
  refine ⟨_, pss_cons (ps_asg (pe_cal CLTwo hr (by rfl) (pa_cons (pv 0) pa_nil)) (pg_tup rfl (pgs_cons (pg_name (i := 1) scLRight.nd rfl (Or.inl rfl)) (pgs_cons (pg_name (i := 2) scLRight.nd rfl (Or.inl rfl)) pgs_nil))))
      (pss_cons (ps_set (i := 3) scLRight.nd rfl (Or.inl rfl) (pe_cal CLPartings hr (by rfl) (pa_cons (pv 1) (pa_cons (pv 2) pa_nil))))
      (pss_cons (ps_if (PW.pt (pw_or (pt_not (pt_val (pe_cal CLBetweenRight hr (by rfl) (pa_cons (pv 0) (pa_cons (pv 1) (pa_cons (pv 2) (pa_cons (pv 3) pa_nil))))))) (pw_or1 (pt_cmpR op_notN (pe_cal CFirstAhead hr (by rfl) (pa_cons (pv 1) (pa_cons (pv 2) pa_nil))) pe_non (nomark _)))))
        (pss_one (ps_ret pe_bl))
        pss_nil)
      (pss_cons (ps_if (pt_cmpR op_ne (pe_cal CFirstAhead hr (by rfl) (pa_cons (pv 2) (pa_cons (pv 1) pa_nil))) (pe_ix ix_list (pe_op op_cat (pv 3) (pe_lst (pa_cons pe_non pa_nil))) pe_int (fun _ _ => rfl)) (nomark _))
        (pss_one (ps_ret pe_bl))
        pss_nil)
      (pss_cons (ps_if (pt_cmpR op_ne (pe_ix ix_tup (pv 1) pe_int (fun _ _ => rfl)) (pe_ix ix_tup (pv 2) pe_int (fun _ _ => rfl)) (nomark _))
        (pss_one (ps_ret (pe_cmpR op_eq (pe_callB call_len_seq (by rfl) T.len PySem.boot_len (pa_cons (pv 3) pa_nil)) pe_int (nomark _))))
        pss_nil)
      (pss_cons (ps_for PassesOwn.never rfl (pi_enum (by rfl) T.enumerate (pa_cons (pv 3) pa_nil)) (pg_tup rfl (pgs_cons (pg_name (i := 4) scLRight.nd rfl (Or.inl rfl)) (pgs_cons (pg_name (i := 5) scLRight.nd rfl (Or.inl rfl)) pgs_nil)))
        (pss_one (ps_if (PW.pt (pw_or (pt_cmpR op_ne (pe_cal CApartMany hr (by rfl) (pa_cons (pv 1) (pa_cons (pv 2) (pa_cons (pv 5) pa_nil)))) (pv 4) (nomark _)) (pw_or1 (pt_cmpR op_ne (pe_cal CApartMany hr (by rfl) (pa_cons (pv 2) (pa_cons (pv 1) (pa_cons (pe_op op_add (pv 5) pe_int) pa_nil)))) (pe_op op_add (pv 4) pe_int) (nomark _)))))
          (pss_one (ps_ret pe_bl))
          pss_nil)))
      (pss_one (ps_ret (pe_or (pe_cmpR op_eq (pe_callB call_len_seq (by rfl) T.len PySem.boot_len (pa_cons (pv 3) pa_nil)) pe_int (nomark _)) (pe_one (pe_cmpR op_eq (pe_cal CApartMany hr (by rfl) (pa_cons (pv 1) (pa_cons (pv 2) (pa_cons (pe_op op_powE pe_int pe_int) pa_nil)))) pe_int (nomark _))))))))))), ?_⟩
  walk_at "go"
  intro t p r v1 l1 v2 l2 s H1 D1 hT hP hR PP
  have nP := Dr.ne_of D1.src hP
  have nR := Dr.ne_of D1.src hR
  walk_at "go"
  refine ⟨p, r, _, _, _, _, _, rfl, hP, hR, PP, fun D ns H2 sm2 hD hD2 hp h12 hend => ?_⟩
  have D2 : Dr a H1 H2 := ⟨D1.src.same sm2, .of sm2⟩
  have nD : D ≠ a := D1.src.ne hD
  have hP2 := sm2 _ _ hP
  have hR2 := sm2 _ _ hR
  walk_at "go"
  refine ⟨a, p, r, D, _, _, _, _, _, ns, rfl, D2.src, hP2, hR2, PP, hD2, nD, hp, h12, fun H3 D3 => ?_⟩
  have hP3 := D3.at nP hP2
  have hR3 := D3.at nR hR2
  have hD3 := D3.at nD hD2
  obtain ⟨F1, F2, hv, hl⟩ := PP
  have hz := pos_pow s.toNat
  have hz1 := shl_one F1.s0 F1.s1
  have ZP := F1.line hP3
  have ZR := F2.line hR3
  walk_at "go"
  refine ⟨p, r, _, _, _, _, _, _, rfl, ZP, ZR, fun o H4 sm4 so ho => ?_⟩
  have eo : o = none := FS.Least.uniq ho (fun c hc h => by
    have := two_le (v1 := v1) (v2 := v2) hz hv hl hc
    omega)
  subst eo
  have Dx := (D1.trans D2).trans D3
  have D4 : Dr a H H4 := ⟨Dx.src.same sm4, Dx.but.trans (.of sm4)⟩
  walk_at "go"
  refine ⟨r, p, _, _, _, _, _, _, rfl, ZR.same sm4, ZP.same sm4, fun o H5 sm5 so ho => ?_⟩
  have ho := ho.congr (P' := fun c => FS.rd v1 l1 (2 ^ s.toNat) c ≠ FS.rd v2 l2 (2 ^ s.toNat) c) (fun c hc => by
    have := two_le (v1 := v1) (v2 := v2) hz hv hl hc
    omega)
  have D5 : Dr a H H5 := ⟨D4.src.same sm5, D4.but.trans (.of sm5)⟩
  have hD5 := sm5 _ _ (sm4 _ _ hD3)
  have ZP5 := (ZP.same sm4).same sm5
  have ZR5 := (ZR.same sm4).same sm5
  have hP5 := ZP5.at_
  have hR5 := ZR5.at_
  walk_at "go"
  intro L hL
  refine ⟨D, L, ns.map V.int, [V.non], rfl, rfl, upd_at hD5 hL, upd_same, ?_, fun N hN => ?_⟩
  · rw [List.length_map]
    exact Nat.le_trans (show ns.length + 1 ≤ 100 by omega) (by decide)
  have eh : atI (ns.map V.int ++ [V.non]) 0 = some (optV ns.head?) := by
    cases ns with
    | nil => exact at_of (j := 0) rfl rfl
    | cons x r => exact at_of (j := 0) rfl rfl
  have eo : o = ns.head? := FS.Least.uniq ho (by
    cases ns with
    | nil =>
      intro c hc
      rcases hend with h | h
      · cases h
      · exact h c hc
    | cons x r => exact ⟨hp.le 0 (Nat.succ_pos _), hp.hit 0 (Nat.succ_pos _), fun c hc hl => hp.gap 0 (Nat.succ_pos _) c hc hl⟩)
  subst eo
  walk_at "go"
  refine ⟨_, _, _, _, rfl, rfl, SqL.of upd_same, eh, ?_⟩
  refine ⟨scal_opt _, _, rfl, ?_⟩
  rw [decide_eq_true (rfl : optV ns.head? = optV ns.head?)]
  have D6 := (D5.new (o := .lst [V.non]) hL).new (o := .lst (ns.map V.int ++ [V.non])) hN
  have hD6 := upd_at (u := .lst (ns.map V.int ++ [V.non])) (upd_at (u := .lst [V.non]) hD5 hL) hN
  have hP6 := upd_at (u := .lst (ns.map V.int ++ [V.non])) (upd_at (u := .lst [V.non]) hP5 hL) hN
  have hR6 := upd_at (u := .lst (ns.map V.int ++ [V.non])) (upd_at (u := .lst [V.non]) hR5 hL) hN
  generalize upd (upd H5 L (.lst [V.non])) N (.lst (ns.map V.int ++ [V.non])) = H6 at D6 hD6 hP6 hR6
  walk_at "go"
  rcases hl with hl | hl
  · subst hl
    refine ifEn rfl ?_
    walk_at "go"
    refine for_enumS (K := K) (a := D) (xs := ns.map V.int) (fun i σ H' => ∃ (v4 v5 : Option V), σ = [some (.ref a), some (.ref p), some (.ref r), some (.ref D), v4, v5] ∧ Dr a H H' ∧ H' D = some (.lst (ns.map V.int)) ∧ H' p = some (.tup [.int v1, .int l2, .int s]) ∧ H' r = some (.tup [.int v2, .int l2, .int s]))
      ⟨_, _, rfl, D6, hD6, hP6, hR6⟩ (fun i σ H7 ⟨v4, v5, e, D7, hD7, hP7, hR7⟩ => SqL.of hD7) (fun i x T σ H7 hx ⟨v4, v5, e, D7, hD7, hP7, hR7⟩ hT => ?_) (fun σ H7 ⟨v4, v5, e, D7, hD7, hP7, hR7⟩ => ?_)
    · subst e
      obtain ⟨hi, ex⟩ := nth_of hx
      subst ex
      have b0 := hp.lo i (by omega)
      have b1 := hp.le i hi
      have b2 := hp.far (i + 1) hi
      have b3 : ((i + 1 : Nat) : Int) * (2 ^ s.toNat + 1) ≤ 12 * 18446744073709551617 := Int.mul_le_mul (by omega) (by omega) (by omega) (by decide)
      have c1 := (hp.count i (by omega)).2 hi
      have c2 := (hp.count (i + 1) hi).1
      have en : prv ns (i + 1) = nth ns i + 1 := rfl
      rw [en] at b2 c2
      generalize nth ns i = x at *
      generalize prv ns i = b at *
      have hP8 := upd_at (u := .tup [.int (i : Int), .int x]) hP7 hT
      have hR8 := upd_at (u := .tup [.int (i : Int), .int x]) hR7 hT
      have ZP8 := F1.line hP8
      have ZR8 := F2.line hR8
      walk_at "go"
      refine ⟨p, r, _, _, _, _, x, rfl, ZP8, ZR8, by omega, by omega, fun H9 sm9 => ?_⟩
      rw [c1]
      refine ⟨_, rfl, rfl, _, rfl, ?_⟩
      refine ifDn rfl ?_
      walk_at "go"
      refine ⟨r, p, _, _, _, _, x + 1, rfl, ZR8.same sm9, ZP8.same sm9, by omega, by omega, fun H10 sm10 => ?_⟩
      rw [FS.unl_comm, c2]
      have sm8 := (same_upd (o := .tup [.int (i : Int), .int x]) hT).trans (sm9.trans sm10)
      have Dz : Dr a H H10 := ⟨D7.src.same sm8, D7.but.trans (.of sm8)⟩
      have e1 : V.int ((i + 1 : Nat) : Int) = V.int ((i : Int) + 1) := rfl
      rw [e1]
      walk_at "go"
      first | exact sm8 _ _ hR7 | exact ⟨sm8 _ _ hP7, sm8 _ _ hR7⟩ | exact ⟨sm8 _ _ hD7, sm8 _ _ hP7, sm8 _ _ hR7⟩ | exact ⟨Dz, sm8 _ _ hD7, sm8 _ _ hP7, sm8 _ _ hR7⟩
    · subst e
      walk_at "go"
      by_cases h : ns.length = 12
      · refine ifE (by rw [List.length_map]; omega) (q _ D7)
      · refine ifNE (by rw [List.length_map]; omega) ?_
        have ne := never (v1 := v1) (v2 := v2) (l := l2) hz (hend.resolve_left h)
        walk_at "go"
        refine ⟨p, r, _, _, _, _, _, rfl, F1.line hP7, F2.line hR7, by omega, by omega, fun H9 sm9 => ?_⟩
        rw [unl_const (a := 0) (by omega) (fun c _ _ h => h (ne c))]
        refine ⟨rfl, ?_⟩
        have hb : V.int (FS.unl v1 v2 l2 (2 ^ s.toNat) 0) = V.int 0 := rfl
        have hq := q _ (⟨D7.src.same sm9, D7.but.trans (.of sm9)⟩ : Dr a H H9)
        rw [← decide_eq_true hb] at hq
        exact hq
  · refine ifNEn (by omega) ?_
    have e12 : ns.length = 12 := by
      rcases hend with h | h
      · exact h
      · exact absurd (steep (v1 := v1) (v2 := v2) hz hv hl (hp.lo _ (Nat.le_refl _))) (h _ (by omega))
    walk_at "go"
    have hb : V.int ((ns.map V.int).length : Int) = V.int 12 := by
      rw [List.length_map, e12]
      rfl
    have hq := q _ D6
    rw [← decide_eq_true hb] at hq
    exact hq
abbrev sLaw : Stmt := topS 35
theorem scLaw : FnScope ["script", "k", "source", "turn"] ["script"] (defScope sLaw) := ⟨rfl, rfl, rfl, by decide +kernel, rfl, by decide +kernel, by decide +kernel⟩
set_option maxHeartbeats 2000000 in
theorem ok_Law (D : DefAt K mg "law" sLaw ["script"]) (CLSource : Cal P w K mg base "_law_source" ["script", "k"] 2 (spSource K)) (CLRight : Cal P w K mg base "_law_right" ["source"] 9 (spRight)) (T : Txt mg) : Cal P w K mg base "law" ["script"] 10 (spLaw K) := by
  refine D.cal scLaw (fun vs H Q E h => (by (obtain ⟨_, _, rfl, _⟩ := h); rfl)) (fun f cdv A outer s H vs Q E hr h => ?_)
  obtain ⟨a, ns, rfl, hS, hl, q⟩ := h
  refine ⟨_, pss_cons (ps_for PassesOwn.never rfl (pi_range1 (by rfl) T.range (pa_cons (pe_callB (call_min2 rfl) (by rfl) T.min (by decide +kernel) (pa_cons pe_int (pa_cons (pe_callB (call_max2 rfl) (by rfl) T.max (by decide +kernel) (pa_cons pe_int (pa_cons (pe_callB call_len_seq (by rfl) T.len PySem.boot_len (pa_cons (pv 0) pa_nil)) pa_nil))) pa_nil))) pa_nil)) (pg_name (i := 1) scLaw.nd rfl (Or.inl rfl))
        (pss_cons (ps_set (i := 2) scLaw.nd rfl (Or.inl rfl) (pe_cal CLSource hr (by rfl) (pa_cons (pv 0) (pa_cons (pv 1) pa_nil))))
        (pss_one (ps_for PassesOwn.never rfl (pi_range1 (by rfl) T.range (pa_cons pe_int pa_nil)) (pg_name (i := 3) scLaw.nd rfl (Or.inl rfl))
          (pss_one (ps_if (pt_not (pt_val (pe_cal CLRight hr (by rfl) (pa_cons (pv 2) pa_nil))))
            (pss_one (ps_ret pe_bl))
            pss_nil))))))
      (pss_one (ps_ret pe_bl)), ?_⟩
  walk_at "go"
  refine for_range (lo := 0) (n := _) (fun i σ H' => ∃ v1 v2 v3 : Option V, σ = [some (.ref a), v1, v2, v3] ∧ Same H H')
    ⟨none, none, none, rfl, Same.refl H⟩ (fun i σ H1 hi ⟨v1, v2, v3, e, sm⟩ => ?_) (fun σ H1 ⟨v1, v2, v3, e, sm⟩ => ?_)
  · subst e
    walk_at "go"
    refine ⟨a, ns, _, rfl, sm.seq hS, by omega, fun p x y n hp => ?_⟩
    have s2 : Src (upd H1 p (.lst [.int x, .int y, .int n])) p := Src.made
    walk_at "go"
    refine for_range (lo := 0) (n := 2) (fun j σ H' => ∃ v3 : Option V, σ = [some (.ref a), some (.int (0 + (i : Int))), some (.ref p), v3] ∧ Dr p (upd H1 p (.lst [.int x, .int y, .int n])) H')
      ⟨_, rfl, Dr.refl s2⟩ (fun j σ H3 hj ⟨v3, e, D3⟩ => ?_) (fun σ H3 ⟨v3, e, D3⟩ => ?_)
    · subst e
      walk_at "go"
      intro H4 D4
      walk_at "go"
      exact D3.trans D4
    · subst e
      exact ⟨_, _, _, rfl, sm.trans (D3.same hp)⟩
  · subst e
    walk_at "go"
    exact q _
theorem all (DLCellAt : DefAt K mg "_law_cell_at" sLCellAt ["script", "k"]) (DLMixed : DefAt K mg "_law_mixed" sLMixed ["cell", "k"]) (DLSource : DefAt K mg "_law_source" sLSource ["script", "k"]) (DLNext : DefAt K mg "_law_next" sLNext ["source", "many"]) (DIsInteger : DefAt K mg "is_integer" sIsInteger ["thing"]) (DIsWithin : DefAt K mg "is_within" sIsWithin ["thing", "least", "greatest"]) (DIsAtLeast : DefAt K mg "is_at_least" sIsAtLeast ["thing", "least"]) (DCheckCycle : DefAt K mg "check_cycle" sCheckCycle ["cycle"]) (DRoundedUp : DefAt K mg "rounded_up" sRoundedUp ["parts", "unit"]) (DCheckLine : DefAt K mg "check_line" sCheckLine ["line"]) (DLineReading : DefAt K mg "line_reading" sLineReading ["line", "cycle"]) (DFloorSum : DefAt K mg "floor_sum" sFloorSum ["many", "unit", "slope", "value"]) (DWidened : DefAt K mg "widened" sWidened ["line", "unit"]) (DStretchAbove : DefAt K mg "stretch_above" sStretchAbove ["gap", "turn", "unit"]) (DIsExcess : DefAt K mg "is_excess" sIsExcess ["high", "low", "unit", "many"]) (DFirstExcess : DefAt K mg "first_excess" sFirstExcess ["high", "low", "unit", "most"]) (DFirstAhead : DefAt K mg "first_ahead" sFirstAhead ["one", "other"]) (DFirstApart : DefAt K mg "first_apart" sFirstApart ["one", "other"]) (DApartMany : DefAt K mg "apart_many" sApartMany ["one", "other", "last"]) (DLFar : DefAt K mg "_law_far" sLFar ["source"]) (DLLine : DefAt K mg "_law_line" sLLine ["source"]) (DLTwo : DefAt K mg "_law_two" sLTwo ["source"]) (DLBegun : DefAt K mg "_law_begun" sLBegun ["row", "at"]) (DLPartings : DefAt K mg "_law_partings" sLPartings ["left", "right"]) (DLBetweenRight : DefAt K mg "_law_between_right" sLBetweenRight ["source", "left", "right", "found"]) (DLRight : DefAt K mg "_law_right" sLRight ["source"]) (DLaw : DefAt K mg "law" sLaw ["script"]) (T : Txt mg) : Cal P w K mg base "law" ["script"] 10 (spLaw K) := by
  have CLCellAt : Cal P w K mg base "_law_cell_at" ["script", "k"] 1 (spCell K) := ok_LCellAt DLCellAt  T
  have CLMixed : Cal P w K mg base "_law_mixed" ["cell", "k"] 1 (spMixed) := ok_LMixed DLMixed  T
  have CLSource : Cal P w K mg base "_law_source" ["script", "k"] 2 (spSource K) := ok_LSource DLSource CLMixed CLCellAt T
  have CLNext : Cal P w K mg base "_law_next" ["source", "many"] 2 (spNext) := ok_LNext DLNext CLMixed T
  have CIsInteger : Cal P w K mg base "is_integer" ["thing"] 1 (spIsInt) := ok_IsInteger DIsInteger  T
  have CIsWithin : Cal P w K mg base "is_within" ["thing", "least", "greatest"] 2 (spWithin) := ok_IsWithin DIsWithin CIsInteger T
  have CIsAtLeast : Cal P w K mg base "is_at_least" ["thing", "least"] 2 (spAtLeast) := ok_IsAtLeast DIsAtLeast CIsInteger T
  have CCheckCycle : Cal P w K mg base "check_cycle" ["cycle"] 3 (spNat) := ok_CheckCycle DCheckCycle CIsAtLeast T
  have CRoundedUp : Cal P w K mg base "rounded_up" ["parts", "unit"] 1 (spUp) := ok_RoundedUp DRoundedUp  T
  have CCheckLine : Cal P w K mg base "check_line" ["line"] 4 (spLine) := ok_CheckLine DCheckLine CIsInteger CIsAtLeast CIsWithin T
  have CLineReading : Cal P w K mg base "line_reading" ["line", "cycle"] 5 (spLineReading) := ok_LineReading DLineReading CCheckLine CCheckCycle T
  have CFloorSum : Cal P w K mg base "floor_sum" ["many", "unit", "slope", "value"] 1 (spFloorSum) := ok_FloorSum DFloorSum  T
  have CWidened : Cal P w K mg base "widened" ["line", "unit"] 1 (spWidened) := ok_Widened DWidened  T
  have CStretchAbove : Cal P w K mg base "stretch_above" ["gap", "turn", "unit"] 2 (spStretch) := ok_StretchAbove DStretchAbove CRoundedUp T
  have CIsExcess : Cal P w K mg base "is_excess" ["high", "low", "unit", "many"] 2 (spExcess) := ok_IsExcess DIsExcess CFloorSum T
  have CFirstExcess : Cal P w K mg base "first_excess" ["high", "low", "unit", "most"] 3 (spFirstExcess) := ok_FirstExcess DFirstExcess CIsExcess T
  have CFirstAhead : Cal P w K mg base "first_ahead" ["one", "other"] 5 (spFirstAhead) := ok_FirstAhead DFirstAhead CCheckLine CWidened CStretchAbove CFirstExcess T
  have CFirstApart : Cal P w K mg base "first_apart" ["one", "other"] 6 (spFirstApart) := ok_FirstApart DFirstApart CFirstAhead T
  have CApartMany : Cal P w K mg base "apart_many" ["one", "other", "last"] 6 (spApartMany) := ok_ApartMany DApartMany CCheckLine CCheckCycle CFloorSum T
  have CLFar : Cal P w K mg base "_law_far" ["source"] 3 (spFar) := ok_LFar DLFar CLNext T
  have CLLine : Cal P w K mg base "_law_line" ["source"] 4 (spLawLine) := ok_LLine DLLine CLNext CLFar T
  have CLTwo : Cal P w K mg base "_law_two" ["source"] 5 (spTwo) := ok_LTwo DLTwo CLLine CLNext T
  have CLBegun : Cal P w K mg base "_law_begun" ["row", "at"] 1 (spBegun) := ok_LBegun DLBegun  T
  have CLPartings : Cal P w K mg base "_law_partings" ["left", "right"] 8 (spPartings) := ok_LPartings DLPartings CFirstApart CLBegun T
  have CLBetweenRight : Cal P w K mg base "_law_between_right" ["source", "left", "right", "found"] 8 (spBetween) := ok_LBetweenRight DLBetweenRight CLineReading CLNext T
  have CLRight : Cal P w K mg base "_law_right" ["source"] 9 (spRight) := ok_LRight DLRight CLTwo CLPartings CFirstAhead CLBetweenRight CApartMany T
  have CLaw : Cal P w K mg base "law" ["script"] 10 (spLaw K) := ok_Law DLaw CLSource CLRight T
  exact CLaw

end
end My
open PySem PySem.W PyProof.Rows
set_option maxRecDepth 100000 in
set_option maxHeartbeats 0 in
theorem PySem.Challenge.cw_timekernel_k19_whole_partings_in_turn_holds : PySem.Challenge.rw_timekernel_k19_whole_partings_in_turn.Holds := by
  w_on; o_law; k_head; (case hw => w_witness2)
  k_fill
  refine L2.walk_of (l := PySem.Challenge.rw_timekernel_k19_whole_partings_in_turn) (n := 63) (k := 10) (x := "script") (CX := fun _ => L2.CX0) (sp := fun w => My.spLaw _) rfl (by decide) rfl ⟨rfl, by decide, by decide⟩ (fun w h Y => PySem.W.kIn_of Y) ?F (fun _ _ a ns hl _ hS => ⟨a, ns, rfl, hS, hl, fun _ => rfl⟩) (fun _ _ _ _ _ h => h)
  case F =>
    intro w mg fa h KX G hmg
    refine' TK.use (TK.defAt_mk (mg := mg) (x := "_law_cell_at") (st := My.sLCellAt) (ps := ["script", "k"]) KX G ?aLCellAt ?lLCellAt ?cLCellAt ?kLCellAt (fun _ _ _ _ _ _ us hl => match us, hl with | [_, _], _ => rfl)) ?rLCellAt
    (case aLCellAt => k_is); (case lLCellAt => k_is); (case cLCellAt => k_is); (case kLCellAt => k_is)
    intro DLCellAt
    refine' TK.use (TK.defAt_mk (mg := mg) (x := "_law_mixed") (st := My.sLMixed) (ps := ["cell", "k"]) KX G ?aLMixed ?lLMixed ?cLMixed ?kLMixed (fun _ _ _ _ _ _ us hl => match us, hl with | [_, _], _ => rfl)) ?rLMixed
    (case aLMixed => k_is); (case lLMixed => k_is); (case cLMixed => k_is); (case kLMixed => k_is)
    intro DLMixed
    refine' TK.use (TK.defAt_mk (mg := mg) (x := "_law_source") (st := My.sLSource) (ps := ["script", "k"]) KX G ?aLSource ?lLSource ?cLSource ?kLSource (fun _ _ _ _ _ _ us hl => match us, hl with | [_, _], _ => rfl)) ?rLSource
    (case aLSource => k_is); (case lLSource => k_is); (case cLSource => k_is); (case kLSource => k_is)
    intro DLSource
    refine' TK.use (TK.defAt_mk (mg := mg) (x := "_law_next") (st := My.sLNext) (ps := ["source", "many"]) KX G ?aLNext ?lLNext ?cLNext ?kLNext (fun _ _ _ _ _ _ us hl => match us, hl with | [_, _], _ => rfl)) ?rLNext
    (case aLNext => k_is); (case lLNext => k_is); (case cLNext => k_is); (case kLNext => k_is)
    intro DLNext
    refine' TK.use (TK.defAt_mk (mg := mg) (x := "is_integer") (st := My.sIsInteger) (ps := ["thing"]) KX G ?aIsInteger ?lIsInteger ?cIsInteger ?kIsInteger (fun _ _ _ _ _ _ us hl => match us, hl with | [_], _ => rfl)) ?rIsInteger
    (case aIsInteger => k_is); (case lIsInteger => k_is); (case cIsInteger => k_is); (case kIsInteger => k_is)
    intro DIsInteger
    refine' TK.use (TK.defAt_mk (mg := mg) (x := "is_within") (st := My.sIsWithin) (ps := ["thing", "least", "greatest"]) KX G ?aIsWithin ?lIsWithin ?cIsWithin ?kIsWithin (fun _ _ _ _ _ _ us hl => match us, hl with | [_, _, _], _ => rfl)) ?rIsWithin
    (case aIsWithin => k_is); (case lIsWithin => k_is); (case cIsWithin => k_is); (case kIsWithin => k_is)
    intro DIsWithin
    refine' TK.use (TK.defAt_mk (mg := mg) (x := "is_at_least") (st := My.sIsAtLeast) (ps := ["thing", "least"]) KX G ?aIsAtLeast ?lIsAtLeast ?cIsAtLeast ?kIsAtLeast (fun _ _ _ _ _ _ us hl => match us, hl with | [_, _], _ => rfl)) ?rIsAtLeast
    (case aIsAtLeast => k_is); (case lIsAtLeast => k_is); (case cIsAtLeast => k_is); (case kIsAtLeast => k_is)
    intro DIsAtLeast
    refine' TK.use (TK.defAt_mk (mg := mg) (x := "check_cycle") (st := My.sCheckCycle) (ps := ["cycle"]) KX G ?aCheckCycle ?lCheckCycle ?cCheckCycle ?kCheckCycle (fun _ _ _ _ _ _ us hl => match us, hl with | [_], _ => rfl)) ?rCheckCycle
    (case aCheckCycle => k_is); (case lCheckCycle => k_is); (case cCheckCycle => k_is); (case kCheckCycle => k_is)
    intro DCheckCycle
    refine' TK.use (TK.defAt_mk (mg := mg) (x := "rounded_up") (st := My.sRoundedUp) (ps := ["parts", "unit"]) KX G ?aRoundedUp ?lRoundedUp ?cRoundedUp ?kRoundedUp (fun _ _ _ _ _ _ us hl => match us, hl with | [_, _], _ => rfl)) ?rRoundedUp
    (case aRoundedUp => k_is); (case lRoundedUp => k_is); (case cRoundedUp => k_is); (case kRoundedUp => k_is)
    intro DRoundedUp
    refine' TK.use (TK.defAt_mk (mg := mg) (x := "check_line") (st := My.sCheckLine) (ps := ["line"]) KX G ?aCheckLine ?lCheckLine ?cCheckLine ?kCheckLine (fun _ _ _ _ _ _ us hl => match us, hl with | [_], _ => rfl)) ?rCheckLine
    (case aCheckLine => k_is); (case lCheckLine => k_is); (case cCheckLine => k_is); (case kCheckLine => k_is)
    intro DCheckLine
    refine' TK.use (TK.defAt_mk (mg := mg) (x := "line_reading") (st := My.sLineReading) (ps := ["line", "cycle"]) KX G ?aLineReading ?lLineReading ?cLineReading ?kLineReading (fun _ _ _ _ _ _ us hl => match us, hl with | [_, _], _ => rfl)) ?rLineReading
    (case aLineReading => k_is); (case lLineReading => k_is); (case cLineReading => k_is); (case kLineReading => k_is)
    intro DLineReading
    refine' TK.use (TK.defAt_mk (mg := mg) (x := "floor_sum") (st := My.sFloorSum) (ps := ["many", "unit", "slope", "value"]) KX G ?aFloorSum ?lFloorSum ?cFloorSum ?kFloorSum (fun _ _ _ _ _ _ us hl => match us, hl with | [_, _, _, _], _ => rfl)) ?rFloorSum
    (case aFloorSum => k_is); (case lFloorSum => k_is); (case cFloorSum => k_is); (case kFloorSum => k_is)
    intro DFloorSum
    refine' TK.use (TK.defAt_mk (mg := mg) (x := "widened") (st := My.sWidened) (ps := ["line", "unit"]) KX G ?aWidened ?lWidened ?cWidened ?kWidened (fun _ _ _ _ _ _ us hl => match us, hl with | [_, _], _ => rfl)) ?rWidened
    (case aWidened => k_is); (case lWidened => k_is); (case cWidened => k_is); (case kWidened => k_is)
    intro DWidened
    refine' TK.use (TK.defAt_mk (mg := mg) (x := "stretch_above") (st := My.sStretchAbove) (ps := ["gap", "turn", "unit"]) KX G ?aStretchAbove ?lStretchAbove ?cStretchAbove ?kStretchAbove (fun _ _ _ _ _ _ us hl => match us, hl with | [_, _, _], _ => rfl)) ?rStretchAbove
    (case aStretchAbove => k_is); (case lStretchAbove => k_is); (case cStretchAbove => k_is); (case kStretchAbove => k_is)
    intro DStretchAbove
    refine' TK.use (TK.defAt_mk (mg := mg) (x := "is_excess") (st := My.sIsExcess) (ps := ["high", "low", "unit", "many"]) KX G ?aIsExcess ?lIsExcess ?cIsExcess ?kIsExcess (fun _ _ _ _ _ _ us hl => match us, hl with | [_, _, _, _], _ => rfl)) ?rIsExcess
    (case aIsExcess => k_is); (case lIsExcess => k_is); (case cIsExcess => k_is); (case kIsExcess => k_is)
    intro DIsExcess
    refine' TK.use (TK.defAt_mk (mg := mg) (x := "first_excess") (st := My.sFirstExcess) (ps := ["high", "low", "unit", "most"]) KX G ?aFirstExcess ?lFirstExcess ?cFirstExcess ?kFirstExcess (fun _ _ _ _ _ _ us hl => match us, hl with | [_, _, _, _], _ => rfl)) ?rFirstExcess
    (case aFirstExcess => k_is); (case lFirstExcess => k_is); (case cFirstExcess => k_is); (case kFirstExcess => k_is)
    intro DFirstExcess
    refine' TK.use (TK.defAt_mk (mg := mg) (x := "first_ahead") (st := My.sFirstAhead) (ps := ["one", "other"]) KX G ?aFirstAhead ?lFirstAhead ?cFirstAhead ?kFirstAhead (fun _ _ _ _ _ _ us hl => match us, hl with | [_, _], _ => rfl)) ?rFirstAhead
    (case aFirstAhead => k_is); (case lFirstAhead => k_is); (case cFirstAhead => k_is); (case kFirstAhead => k_is)
    intro DFirstAhead
    refine' TK.use (TK.defAt_mk (mg := mg) (x := "first_apart") (st := My.sFirstApart) (ps := ["one", "other"]) KX G ?aFirstApart ?lFirstApart ?cFirstApart ?kFirstApart (fun _ _ _ _ _ _ us hl => match us, hl with | [_, _], _ => rfl)) ?rFirstApart
    (case aFirstApart => k_is); (case lFirstApart => k_is); (case cFirstApart => k_is); (case kFirstApart => k_is)
    intro DFirstApart
    refine' TK.use (TK.defAt_mk (mg := mg) (x := "apart_many") (st := My.sApartMany) (ps := ["one", "other", "last"]) KX G ?aApartMany ?lApartMany ?cApartMany ?kApartMany (fun _ _ _ _ _ _ us hl => match us, hl with | [_, _, _], _ => rfl)) ?rApartMany
    (case aApartMany => k_is); (case lApartMany => k_is); (case cApartMany => k_is); (case kApartMany => k_is)
    intro DApartMany
    refine' TK.use (TK.defAt_mk (mg := mg) (x := "_law_far") (st := My.sLFar) (ps := ["source"]) KX G ?aLFar ?lLFar ?cLFar ?kLFar (fun _ _ _ _ _ _ us hl => match us, hl with | [_], _ => rfl)) ?rLFar
    (case aLFar => k_is); (case lLFar => k_is); (case cLFar => k_is); (case kLFar => k_is)
    intro DLFar
    refine' TK.use (TK.defAt_mk (mg := mg) (x := "_law_line") (st := My.sLLine) (ps := ["source"]) KX G ?aLLine ?lLLine ?cLLine ?kLLine (fun _ _ _ _ _ _ us hl => match us, hl with | [_], _ => rfl)) ?rLLine
    (case aLLine => k_is); (case lLLine => k_is); (case cLLine => k_is); (case kLLine => k_is)
    intro DLLine
    refine' TK.use (TK.defAt_mk (mg := mg) (x := "_law_two") (st := My.sLTwo) (ps := ["source"]) KX G ?aLTwo ?lLTwo ?cLTwo ?kLTwo (fun _ _ _ _ _ _ us hl => match us, hl with | [_], _ => rfl)) ?rLTwo
    (case aLTwo => k_is); (case lLTwo => k_is); (case cLTwo => k_is); (case kLTwo => k_is)
    intro DLTwo
    refine' TK.use (TK.defAt_mk (mg := mg) (x := "_law_begun") (st := My.sLBegun) (ps := ["row", "at"]) KX G ?aLBegun ?lLBegun ?cLBegun ?kLBegun (fun _ _ _ _ _ _ us hl => match us, hl with | [_, _], _ => rfl)) ?rLBegun
    (case aLBegun => k_is); (case lLBegun => k_is); (case cLBegun => k_is); (case kLBegun => k_is)
    intro DLBegun
    refine' TK.use (TK.defAt_mk (mg := mg) (x := "_law_partings") (st := My.sLPartings) (ps := ["left", "right"]) KX G ?aLPartings ?lLPartings ?cLPartings ?kLPartings (fun _ _ _ _ _ _ us hl => match us, hl with | [_, _], _ => rfl)) ?rLPartings
    (case aLPartings => k_is); (case lLPartings => k_is); (case cLPartings => k_is); (case kLPartings => k_is)
    intro DLPartings
    refine' TK.use (TK.defAt_mk (mg := mg) (x := "_law_between_right") (st := My.sLBetweenRight) (ps := ["source", "left", "right", "found"]) KX G ?aLBetweenRight ?lLBetweenRight ?cLBetweenRight ?kLBetweenRight (fun _ _ _ _ _ _ us hl => match us, hl with | [_, _, _, _], _ => rfl)) ?rLBetweenRight
    (case aLBetweenRight => k_is); (case lLBetweenRight => k_is); (case cLBetweenRight => k_is); (case kLBetweenRight => k_is)
    intro DLBetweenRight
    refine' TK.use (TK.defAt_mk (mg := mg) (x := "_law_right") (st := My.sLRight) (ps := ["source"]) KX G ?aLRight ?lLRight ?cLRight ?kLRight (fun _ _ _ _ _ _ us hl => match us, hl with | [_], _ => rfl)) ?rLRight
    (case aLRight => k_is); (case lLRight => k_is); (case cLRight => k_is); (case kLRight => k_is)
    intro DLRight
    refine' TK.use (TK.defAt_mk (mg := mg) (x := "law") (st := My.sLaw) (ps := ["script"]) KX G ?aLaw ?lLaw ?cLaw ?kLaw (fun _ _ _ _ _ _ us hl => match us, hl with | [_], _ => rfl)) ?rLaw
    (case aLaw => k_is); (case lLaw => k_is); (case cLaw => k_is); (case kLaw => k_is)
    intro DLaw
    have T : My.Txt mg  := by
      refine' ⟨?f0, ?f1, ?f2, ?f3, ?f4, ?f5, ?f6, ?f7, ?f8, ?f9, ?f10⟩
      (case f0 => (refine' PySem.W.mg_none_of KX G ?z0; (case z0 => k_is)))
      (case f1 => (refine' PySem.W.mg_none_of KX G ?z1; (case z1 => k_is)))
      (case f2 => (refine' PySem.W.mg_none_of KX G ?z2; (case z2 => k_is)))
      (case f3 => (refine' PySem.W.mg_none_of KX G ?z3; (case z3 => k_is)))
      (case f4 => (refine' PySem.W.mg_none_of KX G ?z4; (case z4 => k_is)))
      (case f5 => (refine' PySem.W.mg_none_of KX G ?z5; (case z5 => k_is)))
      (case f6 => (refine' PySem.W.mg_none_of KX G ?z6; (case z6 => k_is)))
      (case f7 => (refine' PySem.W.mg_none_of KX G ?z7; (case z7 => k_is)))
      (case f8 => (refine' PySem.W.mg_none_of KX G ?z8; (case z8 => k_is)))
      (case f9 => (refine' PySem.W.mg_none_of KX G ?z9; (case z9 => k_is)))
      (case f10 => (refine' TK.gint_mk KX G ?z10; (case z10 => k_is)))
    exact TK.law_end DLaw hmg (fun base _ _ => My.all DLCellAt DLMixed DLSource DLNext DIsInteger DIsWithin DIsAtLeast DCheckCycle DRoundedUp DCheckLine DLineReading DFloorSum DWidened DStretchAbove DIsExcess DFirstExcess DFirstAhead DFirstApart DApartMany DLFar DLLine DLTwo DLBegun DLPartings DLBetweenRight DLRight DLaw T)
