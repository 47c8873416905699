import PyProof.Rows.All
import Wide.All
import OpenK.AllK
import Wide.FinOn
import HandS.ForMost
import HandS.Wide
import HandS.WideBits
import HandS.IsInst
import HandS.Flow
import HandS.ForExc
import HandS.ExcIs
import HandS.SortKw
import HandS.SortRule
import HandS.SortInts
import HandS.Sort
import HandS.Deep
import HandS.Style
import HandS.Conv
import HandS.RevRange
import HandS.TryOnly
import HandS.Strs
import HandS.Rev
import KE.DatumOrd
import HandS.TryElse
import HandS.SetFor
import HandS.Gcd
import HandS.MakeKwOnly
import HandS.DictComp
import KE.GoesMore
import HandS.Small

import PySem.Challenge.RW_timekernel_k40_clocks_count_by_count
set_option Elab.async false
set_option linter.all false
set_option maxRecDepth 100000
/-! Defs of the text by their names, and calls of them. -/
namespace TK
open PySem PySem.Spec PyProof.Rows L2
/-- fd stands at f, under the module's name x, and takes its arguments by place -/
structure Stands (K : PySem.W.Frag) (mg : Str → Option Value) (x : Str) (ps : List Str) (f : Addr) (fd : FuncData) : Prop where
  lk : ∃ (oc : Value) (od : Option Addr) (osl : Array (Option Value)), K.lookup f = some ⟨oc, od, .func fd, osl⟩
  mg : mg x = some (.ref f)
  kp : PySem.W.keepIn K (.ref f) = true
  bd : ∀ us : List Value, us.length = ps.length → bindArgs fd ⟨us, []⟩ = pure (ps.zip us)
theorem Stands.same {K : PySem.W.Frag} {mg : Str → Option Value} {x : Str} {ps qs : List Str} {f g : Addr} {fd gd : FuncData} (a : Stands K mg x ps f fd) (b : Stands K mg x qs g gd) : f = g ∧ fd = gd := by
  have e : f = g := by
    have h := a.mg.symm.trans b.mg
    exact Value.ref.inj (Option.some.inj h)
  subst e
  obtain ⟨_, _, _, h1⟩ := a.lk
  obtain ⟨_, _, _, h2⟩ := b.lk
  rw [h1] at h2
  cases h2
  exact ⟨rfl, rfl⟩
/-- the def st stands under the module's name x -/
structure DefAt (K : PySem.W.Frag) (mg : Str → Option Value) (x : Str) (st : Stmt) (ps : List Str) : Prop where
  ex : ∃ (f : Addr) (fd : FuncData), Fun K x x st f fd ∧ Stands K mg x ps f fd
/-- what stands under the module's name x keeps the promise sp -/
structure Cal (P : Program) (w : World) (K : PySem.W.Frag) (mg : Str → Option Value) (base : Heap) (x : Str) (ps : List Str) (k : Nat) (sp : Sp) : Prop where
  ex : ∃ (f : Addr) (fd : FuncData), FnOk P w K mg base CX0 k f fd ps sp ∧ Stands K mg x ps f fd
section
variable {P : Program} {w : World} {K : PySem.W.Frag} {mg : Str → Option Value} {base : Heap} {x : Str} {st : Stmt} {N ps : List Str} {k : Nat} {sp : Sp}
theorem DefAt.cal (D : DefAt K mg x st ps) (S : FnScope N ps (defScope st)) (len : ∀ vs H Q E, sp vs H Q E → vs.length = ps.length)
    (hbody : ∀ (f : Addr) (cdv : Value) (A : Around) (outer : List Env) (s : Shared) (H : Hp) (vs : List V) (Q : VK) (E : XK), Room k (A.deeper (envOfC x (defScope st) s.heap.objs.size f cdv)) → sp vs H Q E →
      ∃ t, PSs (cxOf CX0 P w K mg base N x (defScope st) f cdv A outer s H E).nox (defBody st) t ∧ t { nx := fun _ H' => Q .non H', rt := Q } (start N vs) H) : Cal P w K mg base x ps (k + 1) sp := by
  obtain ⟨f, fd, F, b⟩ := D.ex
  exact ⟨f, fd, F.ok S len (hbody f), b⟩
theorem Cal.mono {j : Nat} (C : Cal P w K mg base x ps j sp) (h : j ≤ k) : Cal P w K mg base x ps k sp := by
  obtain ⟨f, fd, F, b⟩ := C.ex
  exact ⟨f, fd, F.mono h, b⟩
end
section
variable {X : Cx} {x : Str} {ps : List Str} {k : Nat} {sp : Sp} {p pos : Pos} {e : Expr} {es : List Expr} {t : TA}
theorem pe_cal {j : Nat} (C : Cal X.prog X.w X.K X.mg X.base x ps j sp) (hr : Room k X.A) (hg : Gl X x) (ha : PA X (e :: es) t) (hj : j ≤ k := by decide) (hdb : (x == ("__debug__" : Str)) = false := by decide)
    (he : starEach (e :: es) X.env = (false, eval e X.env) :: starEach es X.env := by rfl) (hpl : (backTo pos (starEach es X.env)).any (·.1) = false := by rfl) :
    PE X (.Call (.Name x p) (e :: es) [] pos) (tCall sp [] E0 t) := by
  obtain ⟨f, fd, F, b⟩ := C.ex
  exact pe_call F (hr.mono hj) hg b.mg b.kp (.all b.bd) .nil pass0 ha hdb he hpl
end
theorem defAt_mk {K : PySem.W.Frag} {h : Heap} {mg : Str → Option Value} {x : Str} {st : Stmt} {ps : List Str} {f : Addr} {oc : Value} {od an : Option Addr} {osl : Array (Option Value)} {kV doc pm cdv ct : Value} (X : K.In h) (G : h.Ns mainGlobals mg)
    (a : PySem.W.nsIn K mainGlobals x = some (some (.ref f)))
    (l : K.lookup f = some ⟨oc, od, .func (PySem.W.fnOf x x (defArgs st) (defBody st) (defScope st) .none kV doc pm an cdv ct), osl⟩)
    (c : PySem.W.codeIn K cdv x = true) (k : PySem.W.keepIn K (.ref f) = true)
    (b : ∀ (kV doc pm : Value) (an : Option Addr) (cdv ct : Value) (us : List Value), us.length = ps.length → bindArgs (PySem.W.fnOf x x (defArgs st) (defBody st) (defScope st) .none kV doc pm an cdv ct) ⟨us, []⟩ = pure (ps.zip us)) :
    DefAt K mg x st ps := ⟨f, _, fun_mk (st := st) l c k, ⟨_, _, _, l⟩, PySem.W.mg_of X G a, k, b kV doc pm an cdv ct⟩
theorem use {A B : Prop} (a : A) (f : A → B) : B := f a
/-- the law's own end -/
theorem law_end {P : Program} {w : World} {K : PySem.W.Frag} {mg : Str → Option Value} {st : Stmt} {fa : Addr} {k : Nat} {sp : Sp} {y : Str} (D : DefAt K mg "law" st [y]) (hfa : mg "law" = some (.ref fa))
    (F : ∀ base : Heap, K.In base → base.Ns mainGlobals mg → Cal P w K mg base "law" [y] k sp) :
    ∃ fd : FuncData, (∀ (s : Shared) (v : Value), BindsTo s fd ⟨[v], []⟩ [(y, v)]) ∧ ∀ base : Heap, K.In base → base.Ns mainGlobals mg → FnOk P w K mg base CX0 k fa fd [y] sp := by
  obtain ⟨f, fd, _, b⟩ := D.ex
  have e : f = fa := Value.ref.inj (Option.some.inj (b.mg.symm.trans hfa))
  subst e
  refine ⟨fd, fun s v => .of_eq (b.bd [v] rfl), fun base h1 h2 => ?_⟩
  obtain ⟨g, gd, G, b2⟩ := (F base h1 h2).ex
  obtain ⟨e1, e2⟩ := b.same b2
  subst e1 e2
  exact G
/-- what a def reckons without touching what is tracked -/
theorem same_upd {H : Hp} {p : Addr} {o : HO} (h : H p = none) : Same H (upd H p o) := fun b x e => by
  rw [upd_ne (ne_of_none e h)]
  exact e
theorem same_set {H H1 : Hp} {p : Addr} {o : HO} (s : Same H H1) (h : H p = none) : Same H (upd H1 p o) := fun b u e => by
  rw [upd_ne (ne_of_none e h)]
  exact s b u e
/-- what was tracked elsewhere than at a is as it was -/
def SameBut (a : Addr) (H H' : Hp) : Prop := ∀ b o, b ≠ a → H b = some o → H' b = some o
theorem SameBut.refl (a : Addr) (H : Hp) : SameBut a H H := fun _ _ _ h => h
theorem SameBut.trans {a : Addr} {H H1 H2 : Hp} (x : SameBut a H H1) (y : SameBut a H1 H2) : SameBut a H H2 := fun b o n h => y b o n (x b o n h)
theorem SameBut.of {a : Addr} {H H1 : Hp} (x : Same H H1) : SameBut a H H1 := fun b o _ h => x b o h
theorem sb_upd {H : Hp} {a : Addr} {o : HO} : SameBut a H (upd H a o) := fun b x n e => by
  rw [upd_ne n]
  exact e
theorem sb_new {H : Hp} {a p : Addr} {o : HO} (h : H p = none) : SameBut a H (upd H p o) := SameBut.of (same_upd h)
theorem SameBut.lst {a b : Addr} {H H1 : Hp} {xs : List V} {K : PySem.W.Frag} (s : SameBut a H H1) (n : b ≠ a) (h : SqL K H b xs) : SqL K H1 b xs := by
  rcases h with (h | ⟨o, h⟩) | h
  · exact .inl (.inl (s _ _ n h))
  · exact .inl (.inr ⟨o, s _ _ n h⟩)
  · exact .inr h
end TK
namespace TK
open PySem PySem.Spec PyProof.Rows L2
section
variable {X : Cx} {x : Str} {pos : Pos}
/-- a module's name for a whole number -/
theorem pe_gint {i : Int} (hg : Gl X x) (hm : ∃ t, X.mg x = some (.int i t)) (hd : (x == ("__debug__" : Str)) = false := by decide) : PE X (.Name x pos) (tC (.int i)) := by
  obtain ⟨t, hm⟩ := hm
  exact pe_glob hg hm ⟨_, rfl⟩ hd
end
theorem gint_mk {K : PySem.W.Frag} {h : Heap} {mg : Str → Option Value} {x : Str} {i : Int} {t : Tok} (X : K.In h) (G : h.Ns mainGlobals mg) (a : PySem.W.nsIn K mainGlobals x = some (some (.int i t))) : ∃ t, mg x = some (.int i t) := ⟨t, PySem.W.mg_of X G a⟩
end TK
namespace TK
open PySem PySem.Spec PyProof.Rows L2
/-- * of two numbers, one of them below 2 ^ 64 in size, or both below 2 ^ 400 -/
def CMulE (i j : Int) : Prop := CMul i j ∨ CMulX i j
theorem mulE1 {i j : Int} (h0 : -18446744073709551616 < i) (h1 : i < 18446744073709551616) : CMulE i j := .inl (.inl ⟨by omega, by omega⟩)
theorem mulE2 {i j : Int} (h0 : -18446744073709551616 < j) (h1 : j < 18446744073709551616) : CMulE i j := .inl (.inr ⟨by omega, by omega⟩)
theorem mulE3 {i j : Int} (h0 : i.natAbs < 2 ^ 400) (h1 : j.natAbs < 2 ^ 400) : CMulE i j := .inr (mulx_ok h0 h1 (by decide))
/-- e comes out as r -/
structure IsR (e r : Int) : Prop where
  eq : e = r
section
variable {X : Cx}
theorem op_mulE : OpR X (binaryOp .Mult) (rI CMulE fun i j => .int (i * j)) := opI fun _ _ _ _ _ _ _ hc q => mul_int q (hc.elim CMul.ok CMulX.ok)
/-- a power, a shift to the left, with what comes out told by an equation -/
theorem op_powE : OpR X (binaryOp .Pow) (fun x y H Q => ∃ i j, x = .int i ∧ y = .int j ∧ CPow i j ∧ ∃ r, IsR (i ^ j.toNat) r ∧ Q (.int r) H) := by
  intro pins s σ H x y v u Q I rx ry h
  obtain ⟨i, j, rfl, rfl, c, r, ⟨rfl⟩, q⟩ := h
  exact op_pow pins s σ H _ _ v u Q I rx ry ⟨_, _, rfl, rfl, c, q⟩
theorem op_shlE : OpR X (binaryOp .LShift) (fun x y H Q => ∃ i j, x = .int i ∧ y = .int j ∧ CShl i j ∧ ∃ r, IsR (i * 2 ^ j.toNat) r ∧ Q (.int r) H) := by
  intro pins s σ H x y v u Q I rx ry h
  obtain ⟨i, j, rfl, rfl, c, r, ⟨rfl⟩, q⟩ := h
  exact op_shlW pins s σ H _ _ v u Q I rx ry ⟨_, _, rfl, rfl, c, q⟩
end
theorem posLen {n : Nat} (h : Nat.ble 1 n = true) : (0 : Int) < n := by
  have := Nat.le_of_ble_eq_true h
  omega
theorem ltLen {n : Nat} (h : Nat.ble n 1000 = true) : (n : Int) < 1606938044258990275541962092341162602522202993782792835301376 := by
  have := Nat.le_of_ble_eq_true h
  omega
theorem w200 {i m : Int} (h0 : 0 < m) (h : m  < 1606938044258990275541962092341162602522202993782792835301376) : CDivW i m := wide_div h0 (b := 200) (by omega) (by decide) (by decide)
theorem shl400 {i j : Int} (h : i.natAbs < 2 ^ 400) (h0 : 0 ≤ j) (h1 : j ≤ 1000) : CShl i j := by
  have e : j = (j.toNat : Int) := by omega
  rw [e]
  exact shl_ok h (by omega)
/-- a list of whole numbers with a property -/
def AllI (p : Int → Prop) (xs : List V) : Prop := ∀ v ∈ xs, ∃ i, v = .int i ∧ p i
theorem AllI.nil {p : Int → Prop} : AllI p [] := fun _ h => by cases h
theorem AllI.cons {p : Int → Prop} {i : Int} {xs : List V} (h : p i) (t : AllI p xs) : AllI p (.int i :: xs) := fun v hv => by
  rcases List.mem_cons.mp hv with e | e
  · exact ⟨i, e, h⟩
  · exact t v e
theorem AllI.app {p : Int → Prop} {xs ys : List V} (h : AllI p xs) (t : AllI p ys) : AllI p (xs ++ ys) := fun v hv => by
  rcases List.mem_append.mp hv with e | e
  · exact h v e
  · exact t v e
theorem AllI.pick {p : Int → Prop} {xs : List V} (h : AllI p xs) {r : Int} (h0 : 0 ≤ r) (h1 : r < xs.length) : ∃ i, atI xs r = some (.int i) ∧ p i := by
  have hk : r.toNat < xs.length := by omega
  obtain ⟨i, e, hp⟩ := h _ (List.getElem_mem hk)
  refine ⟨i, at_of (j := r.toNat) (by omega) ?_, hp⟩
  rw [List.getElem?_eq_getElem hk, e]
theorem mul_le {x y a b : Int} (x0 : 0 ≤ x) (x1 : x ≤ a) (y0 : 0 ≤ y) (y1 : y ≤ b) : 0 ≤ x * y ∧ x * y ≤ a * b :=
  ⟨Int.mul_nonneg x0 y0, Int.mul_le_mul x1 y1 y0 (Int.le_trans x0 x1)⟩
theorem pos_pow (s : Nat) : (0 : Int) < 2 ^ s := Int.pow_pos (by decide)
theorem ifD {c A B : Prop} [Decidable c] (h : c) (a : A) : if decide c = true then A else B := by
  rw [if_pos (decide_eq_true h)]
  exact a
theorem ifN {c A B : Prop} [Decidable c] (h : ¬ c) (b : B) : if decide c = true then A else B := by
  rw [if_neg (by rw [decide_eq_false h]; decide)]
  exact b
theorem ifDn {c A B : Prop} [Decidable c] (h : c) (b : B) : if (!decide c) = true then A else B := by
  rw [decide_eq_true h]
  exact iteF b
theorem ifNn {c A B : Prop} [Decidable c] (h : ¬ c) (a : A) : if (!decide c) = true then A else B := by
  rw [decide_eq_false h]
  exact iteT a
theorem ifE {x y : Int} {A B : Prop} (h : x = y) (a : A) : if decide (V.int x = V.int y) = true then A else B := ifD (by rw [h]) a
theorem ifNE {x y : Int} {A B : Prop} (h : ¬ x = y) (b : B) : if decide (V.int x = V.int y) = true then A else B := ifN (fun e => h (V.int.inj e)) b
theorem ifEn {x y : Int} {A B : Prop} (h : x = y) (b : B) : if (!decide (V.int x = V.int y)) = true then A else B := by
  rw [decide_eq_true (show V.int x = V.int y by rw [h])]
  exact iteF b
theorem ifNEn {x y : Int} {A B : Prop} (h : ¬ x = y) (a : A) : if (!decide (V.int x = V.int y)) = true then A else B := by
  rw [decide_eq_false (show ¬ V.int x = V.int y from fun e => h (V.int.inj e))]
  exact iteT a
/-- a source of draws stands at a -/
def Src (H : Hp) (a : Addr) : Prop := ∃ x y n : Int, H a = some (.lst [.int x, .int y, .int n])
/-- draws were made of the source at a -/
structure Dr (a : Addr) (H H' : Hp) : Prop where
  src : Src H' a
  but : SameBut a H H'
theorem Dr.trans {a : Addr} {H H1 H2 : Hp} (x : Dr a H H1) (y : Dr a H1 H2) : Dr a H H2 := ⟨y.src, x.but.trans y.but⟩
theorem Dr.refl {a : Addr} {H : Hp} (x : Src H a) : Dr a H H := ⟨x, .refl _ _⟩
theorem Src.new {a p : Addr} {H : Hp} {o : HO} (x : Src H a) (h : H p = none) : Src (upd H p o) a := by
  obtain ⟨u, v, n, e⟩ := x
  exact ⟨u, v, n, by rw [upd_ne (ne_of_none e h)]; exact e⟩
theorem Dr.new {a p : Addr} {H H1 : Hp} {o : HO} (x : Dr a H H1) (h : H1 p = none) : Dr a H (upd H1 p o) := ⟨x.src.new h, x.but.trans (sb_new h)⟩
theorem Src.ne {a p : Addr} {H : Hp} (x : Src H a) (h : H p = none) : p ≠ a := by
  obtain ⟨u, v, n, e⟩ := x
  exact (ne_of_none e h).symm
theorem Dr.free {a p : Addr} {H H1 : Hp} (x : Dr a H H1) (h : H1 p = none) : H p = none := by
  cases q : H p with
  | none => rfl
  | some o =>
    rw [x.but p o (x.src.ne h) q] at h
    cases h
theorem Dr.at {a p : Addr} {H H1 : Hp} {o : HO} (d : Dr a H H1) (n : p ≠ a) (h : H p = some o) : H1 p = some o := d.but p o n h
theorem upd_at {p q : Addr} {H : Hp} {o u : HO} (h : H p = some o) (n : H q = none) : upd H q u p = some o := (upd_ne (ne_of_none h n)).trans h
theorem upd_at' {p q : Addr} {H : Hp} {o u : HO} (h : H p = some o) (n : p ≠ q) : upd H q u p = some o := (upd_ne n).trans h
theorem Src.set {a p : Addr} {H : Hp} {o : HO} (x : Src H a) (n : p ≠ a) : Src (upd H p o) a := by
  obtain ⟨u, v, m, e⟩ := x
  exact ⟨u, v, m, by rw [upd_ne n.symm]; exact e⟩
theorem Dr.set {a p : Addr} {H H1 : Hp} {o : HO} (x : Dr a H H1) (h : H p = none) (n : p ≠ a) : Dr a H (upd H1 p o) := ⟨x.src.set n, fun b u nb e => by
  rw [upd_ne (ne_of_none e h)]
  exact x.but b u nb e⟩
theorem Dr.same {p : Addr} {H H1 : Hp} {o : HO} (d : Dr p (upd H p o) H1) (h : H p = none) : Same H H1 := fun b u e => by
  have n := ne_of_none e h
  exact d.but b u n (by rw [upd_ne n]; exact e)
theorem Src.made {p : Addr} {H : Hp} {x y n : Int} : Src (upd H p (.lst [.int x, .int y, .int n])) p := ⟨x, y, n, upd_same⟩
theorem Src.same {a : Addr} {H H' : Hp} (x : Src H a) (s : Same H H') : Src H' a := by
  obtain ⟨u, v, n, e⟩ := x
  exact ⟨u, v, n, s _ _ e⟩
end TK

/-! ### comprehensions whose elements change nothing -/
namespace TK
open PySem PySem.Spec PyProof.Rows L2
section
variable {K : PySem.W.Frag} {a : Addr} {g : TG} {tt : TT} {te : TE} {vs : List Nat} {σ : L2.St} {H : Hp} {D : Addr} {Qd : Hp → Prop}
theorem take_snoc {ys : List V} {i : Nat} {y : V} (h : ys[i]? = some y) : ys.take i ++ [y] = ys.take (i + 1) := by
  rw [List.take_add_one, h]
  rfl
theorem lc_listP {xs ys : List V} (hD : H D = none) (hl : SqL K H a xs) (n : ys.length = xs.length) (sz : ys.length ≤ sizeLine)
    (hs : ∀ (i : Nat) (x y : V) (R : V → Hp → Prop) (F : Hp → Prop), xs[i]? = some x → ys[i]? = some y → R y (upd H D (.lst (ys.take i))) →
      g x (wipe σ vs) (upd H D (.lst (ys.take i))) fun σ2 H2 => wipe σ2 vs = wipe σ vs ∧ tt σ2 H2 fun b H3 => if b = true then te σ2 H3 R else F H3)
    (hd : Qd (upd H D (.lst ys))) :
    ∃ W : Nat → Nat → Hp → Prop, (∃ m, W 0 m (upd H D (.lst []))) ∧ ∀ i m H, W i m H →
      ((Itl K a).stop i H ∧ Qd H) ∨ ((Itl K a).go i H ∧ ∃ Nx : Hp → Prop, (∀ H', Nx H' → ∃ m', m' < m ∧ W (i + 1) m' H') ∧ ∀ x H', (Itl K a).yld i H x H' → g x (wipe σ vs) H' fun σ2 H2 => wipe σ2 vs = wipe σ vs ∧ tt σ2 H2 fun b H3 =>
        if b = true then te σ2 H3 fun y H4 => ∃ acc, H4 D = some (.lst acc) ∧ acc.length < sizeLine ∧ Nx (upd H4 D (.lst (acc ++ [y]))) else Nx H3) := by
  refine lc_list (K := K) (a := a) (xs := xs) (H1 := H) (Qd := Qd) (fun i H' => H' = upd H D (.lst (ys.take i))) (by rw [List.take_zero]) (fun i H' _ e => ?_) (fun i x H' hx e => ?_) (fun H' e => ?_)
  · subst e
    exact (same_upd hD).seq hl
  · subst e
    have hi : i < xs.length := (List.getElem?_eq_some_iff.mp hx).1
    have hy : ys[i]? = some ys[i] := List.getElem?_eq_getElem (by omega)
    refine hs i x ys[i] _ _ hx hy ⟨ys.take i, upd_same, ?_, ?_⟩
    · rw [List.length_take]
      omega
    · rw [upd_upd, take_snoc hy]
  · subst e
    rw [List.take_of_length_le (by omega)]
    exact hd
theorem lc_rangeP {lo : Int} {m : Nat} {ys : List V} (hD : H D = none) (n : ys.length = m) (sz : ys.length ≤ sizeLine)
    (hs : ∀ (i : Nat) (y : V) (R : V → Hp → Prop) (F : Hp → Prop), i < m → ys[i]? = some y → R y (upd H D (.lst (ys.take i))) →
      g (.int (lo + i)) (wipe σ vs) (upd H D (.lst (ys.take i))) fun σ2 H2 => wipe σ2 vs = wipe σ vs ∧ tt σ2 H2 fun b H3 => if b = true then te σ2 H3 R else F H3)
    (hd : Qd (upd H D (.lst ys))) :
    ∃ W : Nat → Nat → Hp → Prop, (∃ m, W 0 m (upd H D (.lst []))) ∧ ∀ i k H, W i k H →
      ((Itr lo m).stop i H ∧ Qd H) ∨ ((Itr lo m).go i H ∧ ∃ Nx : Hp → Prop, (∀ H', Nx H' → ∃ m', m' < k ∧ W (i + 1) m' H') ∧ ∀ x H', (Itr lo m).yld i H x H' → g x (wipe σ vs) H' fun σ2 H2 => wipe σ2 vs = wipe σ vs ∧ tt σ2 H2 fun b H3 =>
        if b = true then te σ2 H3 fun y H4 => ∃ acc, H4 D = some (.lst acc) ∧ acc.length < sizeLine ∧ Nx (upd H4 D (.lst (acc ++ [y]))) else Nx H3) := by
  refine lc_range (H1 := H) (Qd := Qd) (fun i H' => H' = upd H D (.lst (ys.take i))) (by rw [List.take_zero]) (fun i H' hi e => ?_) (fun H' e => ?_)
  · subst e
    have hy : ys[i]? = some ys[i] := List.getElem?_eq_getElem (by omega)
    refine hs i ys[i] _ _ hi hy ⟨ys.take i, upd_same, ?_, ?_⟩
    · rw [List.length_take]
      omega
    · rw [upd_upd, take_snoc hy]
  · subst e
    rw [List.take_of_length_le (by omega)]
    exact hd
theorem rep_at {α : Type} {n i : Nat} {x y : α} (h : (List.replicate n x)[i]? = some y) : y = x := List.eq_of_mem_replicate (List.mem_of_getElem? h)
theorem rep_bl (n : Nat) : (List.replicate n true).map V.bl = List.replicate n (V.bl true) := List.map_replicate
theorem all_rep (n : Nat) : (List.replicate n true).all id = true := by
  rw [List.all_eq_true]
  intro x hx
  rw [List.eq_of_mem_replicate hx]
  rfl
/-- the numbers below n that pass p -/
def kept (p : Nat → Bool) (n : Nat) : List Nat := (List.range n).filter p
theorem kept_succ (p : Nat → Bool) (n : Nat) : kept p (n + 1) = if p n = true then kept p n ++ [n] else kept p n := by
  unfold kept
  rw [List.range_succ, List.filter_append]
  cases h : p n with
  | true => simp [h]
  | false => simp [h]
theorem kept_len (p : Nat → Bool) (n : Nat) : (kept p n).length ≤ n := by
  unfold kept
  exact Nat.le_trans (List.length_filter_le _ _) (by rw [List.length_range]; exact Nat.le_refl _)
theorem lc_rangeF {lo : Int} {m : Nat} {p : Nat → Bool} {f : Nat → V} (hD : H D = none) (sz : m ≤ sizeLine)
    (hs : ∀ (i : Nat) (R : V → Hp → Prop) (F : Hp → Prop), i < m → (p i = true → R (f i) (upd H D (.lst ((kept p i).map f)))) → (p i = false → F (upd H D (.lst ((kept p i).map f)))) →
      g (.int (lo + i)) (wipe σ vs) (upd H D (.lst ((kept p i).map f))) fun σ2 H2 => wipe σ2 vs = wipe σ vs ∧ tt σ2 H2 fun b H3 => if b = true then te σ2 H3 R else F H3)
    (hd : Qd (upd H D (.lst ((kept p m).map f)))) :
    ∃ W : Nat → Nat → Hp → Prop, (∃ m, W 0 m (upd H D (.lst []))) ∧ ∀ i k H, W i k H →
      ((Itr lo m).stop i H ∧ Qd H) ∨ ((Itr lo m).go i H ∧ ∃ Nx : Hp → Prop, (∀ H', Nx H' → ∃ m', m' < k ∧ W (i + 1) m' H') ∧ ∀ x H', (Itr lo m).yld i H x H' → g x (wipe σ vs) H' fun σ2 H2 => wipe σ2 vs = wipe σ vs ∧ tt σ2 H2 fun b H3 =>
        if b = true then te σ2 H3 fun y H4 => ∃ acc, H4 D = some (.lst acc) ∧ acc.length < sizeLine ∧ Nx (upd H4 D (.lst (acc ++ [y]))) else Nx H3) := by
  refine lc_range (H1 := H) (Qd := Qd) (fun i H' => H' = upd H D (.lst ((kept p i).map f))) rfl (fun i H' hi e => ?_) (fun H' e => ?_)
  · subst e
    refine hs i _ _ hi (fun hp => ⟨(kept p i).map f, upd_same, ?_, ?_⟩) (fun hp => ?_)
    · rw [List.length_map]
      have := kept_len p i
      omega
    · rw [upd_upd, kept_succ, if_pos hp, List.map_append]
      rfl
    · rw [kept_succ, if_neg (by rw [hp]; decide)]
  · subst e
    exact hd
end
end TK
/-! ### == of lists of whole numbers -/
namespace TK
open PySem PySem.Spec PyProof.Rows L2
section
variable {X : Cx} {K : PySem.W.Frag}
/-- within a comprehension the written part is the same -/
theorem ix_listK (h : X.K = K := by rfl) : IxR X (rIxL K) := by
  subst h
  exact ix_list
theorem ix_tupK (h : X.K = K := by rfl) : IxR X (rIxT K) := by
  subst h
  exact ix_tup
theorem pg_tupK {es : List Expr} {k : Nat} {t : TGs} (n : Nat) {pos : Pos} (h : PGs X es t) (hK : X.K = K := by rfl) (hc : X.calm = true := by rfl)
    (hn : (assignEach es X.env).length = n := by rfl) (hst : (assignEach es X.env).findIdx? (·.1) = none := by rfl) : PG X (.Tuple es k pos) (gTup K n t) := by
  subst hK
  exact pg_tup hc h hn hst
theorem call_lenK (h : X.K = K := by rfl) : CallR X (.builtin "len") (fun xs H Q => ∃ p ys, xs = [.ref p] ∧ (SqL K H p ys ∨ SqT K H p ys) ∧ Q (.int ys.length) H) := by
  subst h
  exact call_len_seq
end
theorem eqvAll_int : ∀ ns ms : List Int, PyData.eqvAll (ns.map PyData.int) (ms.map PyData.int) = decide (ns = ms)
  | [], [] => by simp [PyData.eqvAll]
  | [], _ :: _ => by simp [PyData.eqvAll]
  | _ :: _, [] => by simp [PyData.eqvAll]
  | a :: r, b :: t => by
    simp only [List.map_cons, PyData.eqvAll, PyData.eqv, eqvAll_int r t]
    by_cases h : a = b <;> by_cases h' : r = t <;> simp [h, h']
theorem lay_int : ∀ ns : List Int, PyData.canLayAll0 (ns.map PyData.int) = true
  | [] => rfl
  | _ :: r => by simp [PyData.canLayAll0, PyData.canLay0, lay_int r]
theorem deep_int : ∀ ns : List Int, PyData.depthAll (ns.map PyData.int) = 0
  | [] => rfl
  | _ :: r => by simp [PyData.depthAll, PyData.depth, deep_int r]
theorem shaped_int (ns : List Int) : SeqAt.shaped (.list (ns.map PyData.int)) = true := by
  simp [SeqAt.shaped, PyData.canLay0, PyData.depth, lay_int, deep_int]
theorem dpAll_int {K : PySem.W.Frag} {H : Hp} : ∀ ns : List Int, DpAll K H (ns.map V.int) (ns.map PyData.int)
  | [] => .nil
  | n :: r => .cons (.int n) (dpAll_int r)
section
variable {X : Cx}
theorem op_eqIL (hu : X.A.units + 64 < cLine) : OpR X (compareOp .Eq) (fun x y H Q => ∃ (a b : Addr) (ns ms : List Int), x = .ref a ∧ y = .ref b ∧ SqL X.K H a (ns.map V.int) ∧ SqL X.K H b (ms.map V.int) ∧ Q (.bl (decide (ns = ms))) H) := by
  intro pins s σ H x y v u Q I rx ry h
  obtain ⟨a, b, ns, ms, rfl, rfl, h1, h2, q⟩ := h
  refine op_eqD hu pins s σ H _ _ v u Q I rx ry ⟨_, _, .lst h1 (dpAll_int ns), .lst h2 (dpAll_int ms), shaped_int ns, shaped_int ms, ?_⟩
  rw [PyData.eqv, eqvAll_int]
  exact q
theorem op_neIL (hu : X.A.units + 64 < cLine) : OpR X (compareOp .NotEq) (fun x y H Q => ∃ (a b : Addr) (ns ms : List Int), x = .ref a ∧ y = .ref b ∧ SqL X.K H a (ns.map V.int) ∧ SqL X.K H b (ms.map V.int) ∧ Q (.bl (!decide (ns = ms))) H) := by
  intro pins s σ H x y v u Q I rx ry h
  obtain ⟨a, b, ns, ms, rfl, rfl, h1, h2, q⟩ := h
  refine op_neD hu pins s σ H _ _ v u Q I rx ry ⟨_, _, .lst h1 (dpAll_int ns), .lst h2 (dpAll_int ms), shaped_int ns, shaped_int ms, ?_⟩
  rw [PyData.eqv, eqvAll_int]
  exact q
end
theorem kept_first {p : Nat → Bool} {c n : Nat} (hp : p c = true) (hn : ∀ k, k < c → p k = false) (hc : c < n) : ∃ r, kept p n = c :: r := by
  have h0 : ∀ k, k ≤ c → kept p k = [] := by
    intro k
    induction k with
    | zero => intro _; rfl
    | succ k ih =>
      intro hk
      rw [kept_succ, if_neg (by rw [hn k (by omega)]; decide), ih (by omega)]
  have h1 : ∀ d, ∃ r, kept p (c + 1 + d) = c :: r := by
    intro d
    induction d with
    | zero => exact ⟨[], by rw [Nat.add_zero, kept_succ, if_pos hp, h0 c (Nat.le_refl _)]; rfl⟩
    | succ d ih =>
      obtain ⟨r, e⟩ := ih
      rw [show c + 1 + (d + 1) = (c + 1 + d) + 1 by omega, kept_succ, e]
      split
      · exact ⟨r ++ [c + 1 + d], rfl⟩
      · exact ⟨r, rfl⟩
  have := h1 (n - (c + 1))
  rw [show c + 1 + (n - (c + 1)) = n by omega] at this
  exact this
/-- the first n values of a function -/
def tab (f : Nat → Int) (n : Nat) : List Int := (List.range n).map f
theorem tab_len (f : Nat → Int) (n : Nat) : ((tab f n).map V.int).length = n := by
  unfold tab
  rw [List.length_map, List.length_map, List.length_range]
theorem tab_at {f : Nat → Int} {n i : Nat} {y : V} (h : ((tab f n).map V.int)[i]? = some y) : y = .int (f i) := by
  unfold tab at h
  rw [List.getElem?_map, List.getElem?_map] at h
  cases e : (List.range n)[i]? with
  | none => rw [e] at h; cases h
  | some k =>
    rw [e] at h
    obtain ⟨h1, h2⟩ := List.getElem?_eq_some_iff.mp e
    rw [List.getElem_range] at h2
    subst h2
    exact (Option.some.inj h).symm
theorem tab_get (f : Nat → Int) {n i : Nat} (h : i < n) : ((tab f n).map V.int)[i]? = some (.int (f i)) := by
  unfold tab
  rw [List.getElem?_map, List.getElem?_map, List.getElem?_range h]
  rfl
end TK
/-! ### a comprehension over zip; rows of pairs -/
namespace TK
open PySem PySem.Spec PyProof.Rows L2
section
variable {K : PySem.W.Frag} {a b : Addr} {g : TG} {tt : TT} {te : TE} {vs : List Nat} {σ : L2.St} {H : Hp} {D : Addr} {Qd : Hp → Prop}
theorem lc_zipS {xs ys zs : List V} (hD : H D = none) (hx : SqL K H a xs) (hy : SqL K H b ys) (n : zs.length = min xs.length ys.length) (sz : zs.length ≤ sizeLine)
    (hs : ∀ (i : Nat) (x y z : V) (T : Addr) (Hi : Hp) (R : V → Hp → Prop) (F : Hp → Prop), xs[i]? = some x → ys[i]? = some y → zs[i]? = some z → Same H Hi → Hi T = none → R z (upd Hi T (.tup [x, y])) →
      g (.ref T) (wipe σ vs) (upd Hi T (.tup [x, y])) fun σ2 H2 => wipe σ2 vs = wipe σ vs ∧ tt σ2 H2 fun b H3 => if b = true then te σ2 H3 R else F H3)
    (hd : ∀ H', Same H H' → H' D = some (.lst zs) → Qd H') :
    ∃ W : Nat → Nat → Hp → Prop, (∃ m, W 0 m (upd H D (.lst []))) ∧ ∀ i m H, W i m H →
      ((Itz K a b).stop i H ∧ Qd H) ∨ ((Itz K a b).go i H ∧ ∃ Nx : Hp → Prop, (∀ H', Nx H' → ∃ m', m' < m ∧ W (i + 1) m' H') ∧ ∀ x H', (Itz K a b).yld i H x H' → g x (wipe σ vs) H' fun σ2 H2 => wipe σ2 vs = wipe σ vs ∧ tt σ2 H2 fun b H3 =>
        if b = true then te σ2 H3 fun y H4 => ∃ acc, H4 D = some (.lst acc) ∧ acc.length < sizeLine ∧ Nx (upd H4 D (.lst (acc ++ [y]))) else Nx H3) := by
  refine ⟨fun i m H' => i + m = zs.length ∧ Same H H' ∧ H' D = some (.lst (zs.take i)), ⟨zs.length, by omega, same_upd hD, upd_same⟩, fun i m H' hW => ?_⟩
  obtain ⟨em, sm, eD⟩ := hW
  have hA : SqL K H' a xs := sm.seq hx
  have hB : SqL K H' b ys := sm.seq hy
  by_cases hi : i < zs.length
  · have h1 : i < xs.length := by omega
    have h2 : i < ys.length := by omega
    have g1 := List.getElem?_eq_getElem h1
    have g2 := List.getElem?_eq_getElem h2
    have g3 := List.getElem?_eq_getElem hi
    refine .inr ⟨⟨_, _, _, _, hA, hB, g1, g2⟩, fun H'' => Same H H'' ∧ H'' D = some (.lst (zs.take (i + 1))), fun H'' hN => ⟨m - 1, by omega, by omega, hN⟩, fun x H'' hy' => ?_⟩
    obtain ⟨T, x1, x2, rfl, nT, rfl, f1, f2⟩ := hy'
    have ex1 : x1 = xs[i] := Option.some.inj ((f1 _ hA).symm.trans g1)
    have ex2 : x2 = ys[i] := Option.some.inj ((f2 _ hB).symm.trans g2)
    subst ex1 ex2
    refine hs i _ _ zs[i] T H' _ _ g1 g2 g3 sm nT ⟨zs.take i, upd_at eD nT, ?_, ?_, ?_⟩
    · rw [List.length_take]
      omega
    · refine fun c o e => ?_
      rw [upd_ne (ne_of_none e hD)]
      exact same_upd nT _ _ (sm _ _ e)
    · rw [upd_same, take_snoc g3]
  · refine .inl ⟨⟨_, _, hA, hB, ?_⟩, hd _ sm ?_⟩
    · omega
    · rw [List.take_of_length_le (by omega)] at eD
      exact eD
end
theorem cut1 (xs : List V) : cutV xs (some 1) none = xs.drop 1 := by
  unfold cutV
  rw [show HT.sIx xs.length 0 (some 1) = min 1 xs.length from HT.sIx_nat xs.length 0 1, HT.sIx_none]
  cases xs with
  | nil => rfl
  | cons x r =>
    rw [show min 1 (x :: r).length = 1 by
      rw [List.length_cons]
      omega]
    show (List.take ((x :: r).length - 1) r) = r
    rw [List.length_cons, Nat.add_sub_cancel]
    exact List.take_length
/-- rows (i, m) as tuples -/
def Pairs (H : Hp) : List V → List (Int × Int) → Prop
  | [], [] => True
  | x :: xs, r :: rs => (∃ a, x = .ref a ∧ H a = some (.tup [.int r.1, .int r.2])) ∧ Pairs H xs rs
  | _, _ => False
theorem Pairs.same {H H' : Hp} (s : Same H H') : ∀ {xs : List V} {rs : List (Int × Int)}, Pairs H xs rs → Pairs H' xs rs
  | [], [], _ => trivial
  | _ :: _, _ :: _, h => ⟨by obtain ⟨a, e, h1⟩ := h.1; exact ⟨a, e, s _ _ h1⟩, Pairs.same s h.2⟩
  | [], _ :: _, h => h.elim
  | _ :: _, [], h => h.elim
/-- a list that is written over is none of the tuples -/
theorem Pairs.keep {H : Hp} {l : Addr} {ys zs : List V} (hl : H l = some (.lst ys)) : ∀ {xs : List V} {rs : List (Int × Int)}, Pairs H xs rs → Pairs (upd H l (.lst zs)) xs rs
  | [], [], _ => trivial
  | _ :: _, _ :: _, h => ⟨by
      obtain ⟨a, e, h1⟩ := h.1
      exact ⟨a, e, upd_at' h1 (ne_of h1 hl (by intro z; cases z))⟩, Pairs.keep hl h.2⟩
  | [], _ :: _, h => h.elim
  | _ :: _, [], h => h.elim
theorem Pairs.snoc {H : Hp} {p : Addr} {i m : Int} (hp : H p = some (.tup [.int i, .int m])) : ∀ {xs : List V} {rs : List (Int × Int)}, Pairs H xs rs → Pairs H (xs ++ [.ref p]) (rs ++ [(i, m)])
  | [], [], _ => ⟨⟨p, rfl, hp⟩, trivial⟩
  | _ :: _, _ :: _, h => ⟨h.1, Pairs.snoc hp h.2⟩
  | [], _ :: _, h => h.elim
  | _ :: _, [], h => h.elim
def pD (r : Int × Int) : PyData := .tuple [.int r.1, .int r.2]
theorem Pairs.dp {K : PySem.W.Frag} {H : Hp} : ∀ {xs : List V} {rs : List (Int × Int)}, Pairs H xs rs → DpAll K H xs (rs.map pD)
  | [], [], _ => .nil
  | _ :: _, _ :: _, h => by
    obtain ⟨a, e, h1⟩ := h.1
    subst e
    exact .cons (.tup (SqT.of h1) (.cons (.int _) (.cons (.int _) .nil))) (Pairs.dp h.2)
  | [], _ :: _, h => h.elim
  | _ :: _, [], h => h.elim
theorem lay_pairs : ∀ rs : List (Int × Int), PyData.canLayAll0 (rs.map pD) = true
  | [] => rfl
  | _ :: r => by simp [PyData.canLayAll0, PyData.canLay0, pD, lay_pairs r]
theorem deep_pairs : ∀ rs : List (Int × Int), PyData.depthAll (rs.map pD) ≤ 2
  | [] => by simp [PyData.depthAll]
  | _ :: r => by
    have := deep_pairs r
    simp [PyData.depthAll, PyData.depth, pD]
    omega
theorem shaped_pairs (rs : List (Int × Int)) : SeqAt.shaped (.list (rs.map pD)) = true := by
  have := deep_pairs rs
  simp [SeqAt.shaped, PyData.canLay0, PyData.depth, lay_pairs]
  omega
theorem Pairs.length {H : Hp} : ∀ {xs : List V} {rs : List (Int × Int)}, Pairs H xs rs → xs.length = rs.length
  | [], [], _ => rfl
  | _ :: _, _ :: _, h => by rw [List.length_cons, List.length_cons, Pairs.length h.2]
  | [], _ :: _, h => h.elim
  | _ :: _, [], h => h.elim
theorem eqv_pairs : ∀ rs ss : List (Int × Int), PyData.eqvAll (rs.map pD) (ss.map pD) = decide (rs = ss)
  | [], [] => by simp [PyData.eqvAll]
  | [], _ :: _ => by simp [PyData.eqvAll]
  | _ :: _, [] => by simp [PyData.eqvAll]
  | (a, b) :: r, (c, d) :: t => by
    simp only [List.map_cons, PyData.eqvAll, eqv_pairs r t]
    by_cases h1 : a = c <;> by_cases h2 : b = d <;> by_cases h' : r = t <;> simp [pD, PyData.eqv, PyData.eqvAll, h1, h2, h']
/-- a list of rows stands at l -/
structure Rows (H : Hp) (l : Addr) (rs : List (Int × Int)) : Prop where
  ex : ∃ xs, H l = some (.lst xs) ∧ Pairs H xs rs
theorem Rows.same {H H' : Hp} {l : Addr} {rs : List (Int × Int)} (s : Same H H') (h : Rows H l rs) : Rows H' l rs := by
  obtain ⟨xs, e, p⟩ := h.ex
  exact ⟨xs, s _ _ e, p.same s⟩
theorem Rows.add {H : Hp} {l t : Addr} {xs : List V} {rs : List (Int × Int)} {i m : Int} (hl : H l = some (.lst xs)) (p : Pairs H xs rs) (ht : H t = some (.tup [.int i, .int m])) : Rows (upd H l (.lst (xs ++ [.ref t]))) l (rs ++ [(i, m)]) :=
  ⟨_, upd_same, (Pairs.snoc ht p).keep hl⟩
section
variable {X : Cx}
theorem op_eqPL (hu : X.A.units + 64 < cLine) : OpR X (compareOp .Eq) (fun x y H Q => ∃ (a b : Addr) (rs ss : List (Int × Int)), x = .ref a ∧ y = .ref b ∧ Rows H a rs ∧ Rows H b ss ∧ Q (.bl (decide (rs = ss))) H) := by
  intro pins s σ H x y v u Q I rx ry h
  obtain ⟨a, b, ns, ms, rfl, rfl, ⟨⟨xs, h1, p1⟩⟩, ⟨⟨ys, h2, p2⟩⟩, q⟩ := h
  refine op_eqD hu pins s σ H _ _ v u Q I rx ry ⟨_, _, .lst (SqL.of h1) p1.dp, .lst (SqL.of h2) p2.dp, shaped_pairs ns, shaped_pairs ms, ?_⟩
  rw [PyData.eqv, eqv_pairs]
  exact q
theorem op_nePL (hu : X.A.units + 64 < cLine) : OpR X (compareOp .NotEq) (fun x y H Q => ∃ (a b : Addr) (rs ss : List (Int × Int)), x = .ref a ∧ y = .ref b ∧ Rows H a rs ∧ Rows H b ss ∧ Q (.bl (!decide (rs = ss))) H) := by
  intro pins s σ H x y v u Q I rx ry h
  obtain ⟨a, b, ns, ms, rfl, rfl, ⟨⟨xs, h1, p1⟩⟩, ⟨⟨ys, h2, p2⟩⟩, q⟩ := h
  refine op_neD hu pins s σ H _ _ v u Q I rx ry ⟨_, _, .lst (SqL.of h1) p1.dp, .lst (SqL.of h2) p2.dp, shaped_pairs ns, shaped_pairs ms, ?_⟩
  rw [PyData.eqv, eqv_pairs]
  exact q
end
end TK
namespace TK
open PySem PySem.Spec PyProof.Rows L2
/-- the i-th number of a list -/
def nth (ns : List Int) (i : Nat) : Int := ns.getD i 0
theorem nth_get {ns : List Int} {i : Nat} (h : i < ns.length) : (ns.map V.int)[i]? = some (.int (nth ns i)) := by
  unfold nth
  rw [List.getElem?_map, List.getElem?_eq_getElem h, List.getD_eq_getElem?_getD, List.getElem?_eq_getElem h]
  rfl
theorem nth_of {ns : List Int} {i : Nat} {y : V} (h : (ns.map V.int)[i]? = some y) : i < ns.length ∧ y = .int (nth ns i) := by
  have hi : i < ns.length := by
    have := (List.getElem?_eq_some_iff.mp h).1
    rw [List.length_map] at this
    exact this
  refine ⟨hi, ?_⟩
  rw [nth_get hi] at h
  exact (Option.some.inj h).symm
theorem at_nth {ns : List Int} {z : Int} (h0 : 0 ≤ z) (h1 : z < ns.length) : atI (ns.map V.int) z = some (.int (nth ns z.toNat)) := at_of (j := z.toNat) (by omega) (nth_get (by omega))
end TK
namespace TK
open PySem PySem.Spec PyProof.Rows L2
/-- a loop over zip of two lists, the shorter one's length -/
theorem for_zipS {K : PySem.W.Frag} {a b : Addr} {xs ys : List V} {g : TG} {tb : TS} {D : Ends} {σ : L2.St} {H : Hp} {n : Nat} (hn : n = min xs.length ys.length) (Pv : Nat → L2.St → Hp → Prop) (h0 : Pv 0 σ H)
    (hq : ∀ i σ H, Pv i σ H → SqL K H a xs ∧ SqL K H b ys)
    (hs : ∀ i x y T σ H, xs[i]? = some x → ys[i]? = some y → Pv i σ H → H T = none → g (.ref T) σ (upd H T (.tup [x, y])) fun σ2 H2 => tb { D with nx := Pv (i + 1), ct := Pv (i + 1), bk := D.nx } σ2 H2)
    (hd : ∀ σ H, Pv n σ H → D.nx σ H) :
    ∃ W : Nat → Nat → L2.St → Hp → Prop, (∃ m, W 0 m σ H) ∧ ∀ i m σ H, W i m σ H →
      ((Itz K a b).stop i H ∧ D.nx σ H) ∨ ((Itz K a b).go i H ∧ ∃ N : L2.St → Hp → Prop, (∀ σ' H', N σ' H' → ∃ m', m' < m ∧ W (i + 1) m' σ' H') ∧ ∀ v H', (Itz K a b).yld i H v H' → g v σ H' fun σ2 H2 => tb { D with nx := N, ct := N, bk := D.nx } σ2 H2) := by
  refine ⟨fun i m σ H => m = n - i ∧ i ≤ n ∧ Pv i σ H, ⟨n, by simp, Nat.zero_le _, h0⟩, ?_⟩
  rintro i m σ H ⟨rfl, hi, p⟩
  obtain ⟨hA, hB⟩ := hq i σ H p
  by_cases hlt : i < n
  · have h1 : i < xs.length := by omega
    have h2 : i < ys.length := by omega
    have g1 := List.getElem?_eq_getElem h1
    have g2 := List.getElem?_eq_getElem h2
    refine .inr ⟨⟨_, _, _, _, hA, hB, g1, g2⟩, Pv (i + 1), fun σ' H' p' => ⟨n - (i + 1), by omega, rfl, hlt, p'⟩, fun v H' hy => ?_⟩
    obtain ⟨T, x1, x2, rfl, nT, rfl, f1, f2⟩ := hy
    have ex1 : x1 = xs[i] := Option.some.inj ((f1 _ hA).symm.trans g1)
    have ex2 : x2 = ys[i] := Option.some.inj ((f2 _ hB).symm.trans g2)
    subst ex1 ex2
    exact hs i _ _ T σ H g1 g2 p nT
  · have e : i = n := by omega
    subst e
    exact .inl ⟨⟨_, _, hA, hB, by omega⟩, hd σ H p⟩
/-- a and b as a test, where b may add to the heap: what comes of False is told once -/
theorem and_cut {c : Bool} {T2 : Hp → (Bool → Hp → Prop) → Prop} {R : Bool → Hp → Prop} {H5 : Hp} (hr : ∀ H6, Same H5 H6 → R false H6) (ht : c = true → (∀ H6, Same H5 H6 → R false H6) → T2 H5 R) : if c = true then T2 H5 R else R false H5 := by
  cases c with
  | true => exact iteT (ht rfl hr)
  | false => exact iteF (hr H5 (Same.refl H5))
theorem cutLast (xs : List V) : cutV xs none (some (-1)) = xs.dropLast := by
  unfold cutV
  rw [HT.sIx_none]
  show (xs.drop 0).take ((if (-1 : Int) < 0 then (-1 + (xs.length : Int)).toNat else min (-1 : Int).toNat xs.length) - 0) = _
  rw [if_pos (by decide), List.drop_zero, List.dropLast_eq_take, show (-1 + (xs.length : Int)).toNat - 0 = xs.length - 1 by omega]
end TK
namespace TK
open PySem PySem.Spec PyProof.Rows L2
/-- while, with a number that falls; what comes of a turn is told once -/
theorem while_m {c : TT} {tb : TS} {D : Ends} {σ : L2.St} {H : Hp} (Pv : Nat → L2.St → Hp → Prop) {m0 : Nat} (h0 : Pv m0 σ H)
    (hs : ∀ m σ H, Pv m σ H → ∀ Bt : Hp → Prop, (∀ H1, tb { D with nx := fun σ' H' => ∃ m', m' < m ∧ Pv m' σ' H', ct := fun σ' H' => ∃ m', m' < m ∧ Pv m' σ' H', bk := D.nx } σ H1 → Bt H1) →
      c σ H fun b H1 => if b = true then Bt H1 else D.nx σ H1) : tWhile c tb D σ H :=
  ⟨Pv, ⟨m0, h0⟩, fun m σ H p => hs m σ H p _ (fun H1 h => ⟨_, fun σ' H' x => x, h⟩)⟩
/-- numbers of a list of numbers, by place -/
theorem mapI {f : Nat → Int} {l : List Nat} : l.map (fun k => V.int (f k)) = (l.map f).map V.int := by
  rw [List.map_map]
  rfl
theorem kept_nil {p : Nat → Bool} : ∀ {n : Nat}, (∀ k, k < n → p k = false) → kept p n = []
  | 0, _ => rfl
  | n + 1, h => by
    rw [kept_succ, if_neg (by rw [h n (by omega)]; decide)]
    exact kept_nil (fun k hk => h k (by omega))
theorem kept_last {p : Nat → Bool} {d n : Nat} (hp : p d = true) (hd : d < n) (hn : ∀ k, d < k → k < n → p k = false) : ∃ r, kept p n = r ++ [d] := by
  induction n with
  | zero => omega
  | succ n ih =>
    rw [kept_succ]
    by_cases e : d = n
    · subst e
      rw [if_pos hp]
      exact ⟨_, rfl⟩
    · rw [if_neg (by rw [hn n (by omega) (by omega)]; decide)]
      exact ih (by omega) (fun k h1 h2 => hn k h1 (by omega))
end TK
/-! ### comprehensions with a test, over lists and tuples -/
namespace TK
open PySem PySem.Spec PyProof.Rows L2
section
variable {K : PySem.W.Frag} {a : Addr} {g : TG} {tt : TT} {te : TE} {vs : List Nat} {σ : L2.St} {H : Hp} {D : Addr} {Qd : Hp → Prop}
theorem lc_itF {J : It} {xs : List V} {p : Nat → Bool} {f : Nat → V} (hD : H D = none) (jg : ∀ i H', Same H H' → i < xs.length → J.go i H') (jy : ∀ i H' x H'', Same H H' → J.yld i H' x H'' → H'' = H' ∧ xs[i]? = some x) (js : ∀ H', Same H H' → J.stop xs.length H') (sz : xs.length ≤ sizeLine)
    (hs : ∀ (i : Nat) (x : V) (R : V → Hp → Prop) (F : Hp → Prop), xs[i]? = some x → (p i = true → R (f i) (upd H D (.lst ((kept p i).map f)))) → (p i = false → F (upd H D (.lst ((kept p i).map f)))) →
      g x (wipe σ vs) (upd H D (.lst ((kept p i).map f))) fun σ2 H2 => wipe σ2 vs = wipe σ vs ∧ tt σ2 H2 fun b H3 => if b = true then te σ2 H3 R else F H3)
    (hd : Qd (upd H D (.lst ((kept p xs.length).map f)))) :
    ∃ W : Nat → Nat → Hp → Prop, (∃ m, W 0 m (upd H D (.lst []))) ∧ ∀ i m H, W i m H →
      (J.stop i H ∧ Qd H) ∨ (J.go i H ∧ ∃ Nx : Hp → Prop, (∀ H', Nx H' → ∃ m', m' < m ∧ W (i + 1) m' H') ∧ ∀ x H', J.yld i H x H' → g x (wipe σ vs) H' fun σ2 H2 => wipe σ2 vs = wipe σ vs ∧ tt σ2 H2 fun b H3 =>
        if b = true then te σ2 H3 fun y H4 => ∃ acc, H4 D = some (.lst acc) ∧ acc.length < sizeLine ∧ Nx (upd H4 D (.lst (acc ++ [y]))) else Nx H3) := by
  refine ⟨fun i m H' => i + m = xs.length ∧ H' = upd H D (.lst ((kept p i).map f)), ⟨xs.length, by omega, rfl⟩, fun i m H' hW => ?_⟩
  obtain ⟨em, e⟩ := hW
  have sm : Same H H' := by
    subst e
    exact same_upd hD
  by_cases hi : i < xs.length
  · refine .inr ⟨jg i H' sm hi, fun H'' => H'' = upd H D (.lst ((kept p (i + 1)).map f)), fun H'' hN => ⟨m - 1, by omega, by omega, hN⟩, fun x H'' hy => ?_⟩
    obtain ⟨e1, hx⟩ := jy i H' x H'' sm hy
    subst e1 e
    refine hs i x _ _ hx (fun hp => ⟨(kept p i).map f, upd_same, ?_, ?_⟩) (fun hp => ?_)
    · have := kept_len p i
      rw [List.length_map]
      omega
    · rw [upd_upd, kept_succ, if_pos hp, List.map_append]
      rfl
    · rw [kept_succ, if_neg (by rw [hp]; decide)]
  · have ei : i = xs.length := by omega
    subst ei e
    exact .inl ⟨js _ sm, hd⟩
theorem lc_listF {xs : List V} {p : Nat → Bool} {f : Nat → V} (hD : H D = none) (hl : SqL K H a xs) (sz : xs.length ≤ sizeLine)
    (hs : ∀ (i : Nat) (x : V) (R : V → Hp → Prop) (F : Hp → Prop), xs[i]? = some x → (p i = true → R (f i) (upd H D (.lst ((kept p i).map f)))) → (p i = false → F (upd H D (.lst ((kept p i).map f)))) →
      g x (wipe σ vs) (upd H D (.lst ((kept p i).map f))) fun σ2 H2 => wipe σ2 vs = wipe σ vs ∧ tt σ2 H2 fun b H3 => if b = true then te σ2 H3 R else F H3)
    (hd : Qd (upd H D (.lst ((kept p xs.length).map f)))) :
    ∃ W : Nat → Nat → Hp → Prop, (∃ m, W 0 m (upd H D (.lst []))) ∧ ∀ i m H, W i m H →
      ((Itl K a).stop i H ∧ Qd H) ∨ ((Itl K a).go i H ∧ ∃ Nx : Hp → Prop, (∀ H', Nx H' → ∃ m', m' < m ∧ W (i + 1) m' H') ∧ ∀ x H', (Itl K a).yld i H x H' → g x (wipe σ vs) H' fun σ2 H2 => wipe σ2 vs = wipe σ vs ∧ tt σ2 H2 fun b H3 =>
        if b = true then te σ2 H3 fun y H4 => ∃ acc, H4 D = some (.lst acc) ∧ acc.length < sizeLine ∧ Nx (upd H4 D (.lst (acc ++ [y]))) else Nx H3) :=
  lc_itF (J := Itl K a) hD (fun i H' sm hi => ⟨xs, _, sm.seq hl, List.getElem?_eq_getElem hi⟩) (fun i H' x H'' sm hy => ⟨hy.1, hy.2 _ (sm.seq hl)⟩) (fun H' sm => ⟨xs, sm.seq hl, Nat.le_refl _⟩) sz hs hd
theorem lc_tupF {xs : List V} {p : Nat → Bool} {f : Nat → V} (hD : H D = none) (hl : H a = some (.tup xs)) (sz : xs.length ≤ sizeLine)
    (hs : ∀ (i : Nat) (x : V) (R : V → Hp → Prop) (F : Hp → Prop), xs[i]? = some x → (p i = true → R (f i) (upd H D (.lst ((kept p i).map f)))) → (p i = false → F (upd H D (.lst ((kept p i).map f)))) →
      g x (wipe σ vs) (upd H D (.lst ((kept p i).map f))) fun σ2 H2 => wipe σ2 vs = wipe σ vs ∧ tt σ2 H2 fun b H3 => if b = true then te σ2 H3 R else F H3)
    (hd : Qd (upd H D (.lst ((kept p xs.length).map f)))) :
    ∃ W : Nat → Nat → Hp → Prop, (∃ m, W 0 m (upd H D (.lst []))) ∧ ∀ i m H, W i m H →
      ((Itt K a).stop i H ∧ Qd H) ∨ ((Itt K a).go i H ∧ ∃ Nx : Hp → Prop, (∀ H', Nx H' → ∃ m', m' < m ∧ W (i + 1) m' H') ∧ ∀ x H', (Itt K a).yld i H x H' → g x (wipe σ vs) H' fun σ2 H2 => wipe σ2 vs = wipe σ vs ∧ tt σ2 H2 fun b H3 =>
        if b = true then te σ2 H3 fun y H4 => ∃ acc, H4 D = some (.lst acc) ∧ acc.length < sizeLine ∧ Nx (upd H4 D (.lst (acc ++ [y]))) else Nx H3) :=
  lc_itF (J := Itt K a) hD (fun i H' sm hi => ⟨xs, _, SqT.of (sm _ _ hl), List.getElem?_eq_getElem hi⟩) (fun i H' x H'' sm hy => ⟨hy.1, hy.2 _ (SqT.of (sm _ _ hl))⟩) (fun H' sm => ⟨xs, SqT.of (sm _ _ hl), Nat.le_refl _⟩) sz hs hd
end
end TK
namespace TK
open PySem PySem.Spec PyProof.Rows L2
/-- a loop over enumerate of a list -/
theorem for_enumS {K : PySem.W.Frag} {a : Addr} {xs : List V} {g : TG} {tb : TS} {D : Ends} {σ : L2.St} {H : Hp} (Pv : Nat → L2.St → Hp → Prop) (h0 : Pv 0 σ H)
    (hq : ∀ i σ H, Pv i σ H → SqL K H a xs)
    (hs : ∀ i x T σ H, xs[i]? = some x → Pv i σ H → H T = none → g (.ref T) σ (upd H T (.tup [.int (i : Nat), x])) fun σ2 H2 => tb { D with nx := Pv (i + 1), ct := Pv (i + 1), bk := D.nx } σ2 H2)
    (hd : ∀ σ H, Pv xs.length σ H → D.nx σ H) :
    ∃ W : Nat → Nat → L2.St → Hp → Prop, (∃ m, W 0 m σ H) ∧ ∀ i m σ H, W i m σ H →
      ((Ite K a).stop i H ∧ D.nx σ H) ∨ ((Ite K a).go i H ∧ ∃ N : L2.St → Hp → Prop, (∀ σ' H', N σ' H' → ∃ m', m' < m ∧ W (i + 1) m' σ' H') ∧ ∀ v H', (Ite K a).yld i H v H' → g v σ H' fun σ2 H2 => tb { D with nx := N, ct := N, bk := D.nx } σ2 H2) := by
  refine ⟨fun i m σ H => m = xs.length - i ∧ i ≤ xs.length ∧ Pv i σ H, ⟨xs.length, by simp, Nat.zero_le _, h0⟩, ?_⟩
  rintro i m σ H ⟨rfl, hi, p⟩
  have hA := hq i σ H p
  by_cases hlt : i < xs.length
  · have g1 := List.getElem?_eq_getElem hlt
    refine .inr ⟨⟨_, _, hA, g1⟩, Pv (i + 1), fun σ' H' p' => ⟨xs.length - (i + 1), by omega, rfl, hlt, p'⟩, fun v H' hy => ?_⟩
    obtain ⟨T, x1, rfl, nT, rfl, f1⟩ := hy
    have ex1 : x1 = xs[i] := Option.some.inj ((f1 _ hA).symm.trans g1)
    subst ex1
    exact hs i _ T σ H g1 p nT
  · have e : i = xs.length := by omega
    subst e
    exact .inl ⟨⟨_, hA, by omega⟩, hd σ H p⟩
/-- a and b as a test, where b may change the heap: what comes of False is told once -/
theorem and_cutP {c : Bool} {T2 : Hp → (Bool → Hp → Prop) → Prop} {R : Bool → Hp → Prop} {H5 : Hp} (P : Hp → Prop) (h5 : P H5) (hr : ∀ H6, P H6 → R false H6) (ht : c = true → (∀ H6, P H6 → R false H6) → T2 H5 R) : if c = true then T2 H5 R else R false H5 := by
  cases c with
  | true => exact iteT (ht rfl hr)
  | false => exact iteF (hr H5 h5)
theorem ofF {A B : Prop} (h : if false = true then A else B) : B := by simpa using h
end TK
namespace TK
open PySem PySem.Spec PyProof.Rows L2
/-- an if whose two ways go on alike: what follows is told once -/
theorem ifs_cut {c : Bool} {tb tb2 : TS} {D : Ends} {σ : L2.St} {H : Hp} (Inv : L2.St → Hp → Prop) (hR : ∀ σ' H', Inv σ' H' → D.nx σ' H')
    (ht : c = true → (∀ σ' H', Inv σ' H' → D.nx σ' H') → tb D σ H) (he : c = false → (∀ σ' H', Inv σ' H' → D.nx σ' H') → tb2 D σ H) : if c = true then tb D σ H else tb2 D σ H := by
  cases c with
  | true => exact iteT (ht rfl hR)
  | false => exact iteF (he rfl hR)
end TK

/-! ### defs that raise errors of the program's own -/
namespace TK
open PySem PySem.Spec PyProof.Rows L2
/-- the error class under the module's name x, at C -/
structure ErrAt (K : PySem.W.Frag) (mg : Str → Option Value) (x : Str) (C : Addr) : Prop where
  g : mg x = some (.ref C)
  x : PySem.W.excIn K C [.type "ValueError", .type "Exception", .type "BaseException", .type "object"] "ValueError.__new__" = true
  k : PySem.W.keepIn K (.ref C) = true
  b : PySem.W.subIn K (.ref C) (.type "BaseException") = some true
  t : PySem.W.typeIn K (.ref C) = some (.type "type")
theorem errAt_mk {K : PySem.W.Frag} {h : Heap} {mg : Str → Option Value} {x : Str} {C : Addr} (X : K.In h) (G : h.Ns mainGlobals mg) (a : PySem.W.nsIn K mainGlobals x = some (some (.ref C)))
    (hx : PySem.W.excIn K C [.type "ValueError", .type "Exception", .type "BaseException", .type "object"] "ValueError.__new__" = true) (hk : PySem.W.keepIn K (.ref C) = true) (hb : PySem.W.subIn K (.ref C) (.type "BaseException") = some true) (ht : PySem.W.typeIn K (.ref C) = some (.type "type")) :
    ErrAt K mg x C := ⟨PySem.W.mg_of X G a, hx, hk, hb, ht⟩
structure CalX (P : Program) (w : World) (K : PySem.W.Frag) (mg : Str → Option Value) (base : Heap) (x : Str) (ps : List Str) (k : Nat) (sp : Sp) : Prop where
  ex : ∃ (f : Addr) (fd : FuncData), FnOk P w K mg base (L2.CX P w) k f fd ps sp ∧ Stands K mg x ps f fd
section
variable {P : Program} {w : World} {K : PySem.W.Frag} {mg : Str → Option Value} {base : Heap} {x : Str} {st : Stmt} {N ps : List Str} {k : Nat} {sp : Sp}
theorem DefAt.calX (D : DefAt K mg x st ps) (S : FnScope N ps (defScope st)) (len : ∀ vs H Q E, sp vs H Q E → vs.length = ps.length)
    (hbody : ∀ (f : Addr) (cdv : Value) (A : Around) (outer : List Env) (s : Shared) (H : Hp) (vs : List V) (Q : VK) (E : XK), Room k (A.deeper (envOfC x (defScope st) s.heap.objs.size f cdv)) → sp vs H Q E →
      ∃ t, PSs (cxOf (L2.CX P w) P w K mg base N x (defScope st) f cdv A outer s H E) (defBody st) t ∧ t { nx := fun _ H' => Q .non H', rt := Q } (start N vs) H) : CalX P w K mg base x ps (k + 1) sp := by
  obtain ⟨f, fd, F, b⟩ := D.ex
  exact ⟨f, fd, F.okX S len (hbody f), b⟩
end
section
variable {X : Cx} {x : Str} {ps : List Str} {k : Nat} {sp : Sp} {p p2 pos pos2 : Pos} {e : Expr} {es : List Expr} {t : TA} {C : Addr} {W : WX} {E : XK} {m : Str} {j : Nat}
theorem pe_calX {i : Nat} (C : CalX X.prog X.w X.K X.mg X.base x ps i sp) (hr : Room k X.A) (hg : Gl X x) (tk : Takes X (fun cls d _ H => E cls d H)) (ha : PA X (e :: es) t) (hj : i ≤ k := by decide) (hdb : (x == ("__debug__" : Str)) = false := by decide)
    (he : starEach (e :: es) X.env = (false, eval e X.env) :: starEach es X.env := by rfl) (hpl : (backTo pos (starEach es X.env)).any (·.1) = false := by rfl) :
    PE X (.Call (.Name x p) (e :: es) [] pos) (tCall sp [] E t) := by
  obtain ⟨f, fd, F, b⟩ := C.ex
  exact pe_call F (hr.mono hj) hg b.mg b.kp (.all b.bd) .nil (passes_call tk fun _ _ _ _ h => h) ha hdb he hpl
/-- the same in a try's body -/
theorem pe_calT {i : Nat} (C : CalX X.prog X.w X.K X.mg X.base x ps i sp) (hr : Room k X.A) (hg : Gl X x) (tk : Takes X W) (ha : PA X (e :: es) t) (hj : i ≤ k := by decide) (hdb : (x == ("__debug__" : Str)) = false := by decide)
    (he : starEach (e :: es) X.env = (false, eval e X.env) :: starEach es X.env := by rfl) (hpl : (backTo pos (starEach es X.env)).any (·.1) = false := by rfl) :
    PE X (.Call (.Name x p) (e :: es) [] pos) (tCallS sp (WE W) t) := by
  obtain ⟨f, fd, F, b⟩ := C.ex
  exact pe_callS F (hr.mono hj) hg b.mg b.kp (.all b.bd) (fun σ => passAt tk σ) ha hdb he hpl
/-- raise x('..') -/
theorem ps_raiseE (T : ErrAt X.K X.mg x C) (hc : X.calm = true) (tk : Takes X W) (hg : Gl X x) (hdb : (x == ("__debug__" : Str)) = false := by decide) :
    PS X (.Raise (some (.Call (.Name x p) [.Constant (.str m) j p2] [] pos)) none pos2) (fun _ σ H => W (.ref C) none σ H) :=
  ps_raise hc tk (pmk_own PySem.F.excBase_ValueError T.x T.g T.k (raises_own T.b T.t) hg hdb)
end
end TK

/-! ### min with default=None -/
namespace TK
open PySem PySem.Spec PyProof.Rows L2
def rMinDef (K : PySem.W.Frag) : List V → List V → Hp → VK → Prop := fun vs zs H Q => ∃ (a : Addr) (ns : List Int), vs = [V.ref a] ∧ zs = [V.non] ∧ SqL K H a (ns.map V.int) ∧ (ns = [] → Q .non H) ∧ (∀ n r, ns = n :: r → Q (.int (r.foldl min n)) H)
theorem cr_minDef {X : Cx} (hc : X.calm = true) (hu : X.A.units + 64 < cLine) : CallRK X (.builtin "min") [Str.ofString "default"] (rMinDef X.K) := by
  intro pins s σ H vs zs us ws Q I r rz h
  obtain ⟨a, ns, rfl, rfl, hs, q0, q1⟩ := h
  obtain rfl := Vals.ref1 r
  obtain ⟨w1, rfl, e1⟩ := vals1 rz
  obtain rfl : w1 = Value.none := e1
  obtain ⟨its, rv, hl, _⟩ := I.list hs
  obtain ⟨as, ra⟩ := Dp.readsAll I (ns.map PyData.int) _ _ (dpAll_int ns) rv
  refine PySem.W.min_list_default (xs := ns.map PyData.int) (as := as) (I.ok.hd hc) hl.isList (by first | exact ra | (rw [List.toList_toArray]; exact ra)) ⟨?_, ?_⟩ (by rw [deep_int]; omega) (fun e h' tk hk => ?_) (fun y ys i v h' tk bs e hi rd hk => ?_)
  · intro x hx y hy
    obtain ⟨i, _, rfl⟩ := List.mem_map.mp hx
    obtain ⟨j, _, rfl⟩ := List.mem_map.mp hy
    rfl
  · intro x hx
    obtain ⟨i, _, rfl⟩ := List.mem_map.mp hx
    intro h
    cases h
  · exact ⟨.non, H, I.kept hk, rfl, q0 (List.map_eq_nil_iff.mp e)⟩
  · cases ns with
    | nil => cases e
    | cons n r2 =>
      rw [List.map_cons] at e
      injection e with e1 e2
      subst e1 e2
      rw [PySem.W.minD_ints] at rd
      cases rd
      exact ⟨.int _, H, I.kept hk, ⟨_, rfl⟩, q1 n r2 rfl⟩
end TK
namespace TK
open PySem PySem.Spec PyProof.Rows L2
def rMinT (K : PySem.W.Frag) : List V → Hp → VK → Prop := fun vs H Q => ∃ (a : Addr) (x y : Int), vs = [V.ref a] ∧ SqT K H a [V.int x, V.int y] ∧ Q (.int (min x y)) H
theorem cr_minT {X : Cx} (hc : X.calm = true) (hu : X.A.units + 64 < cLine) : CallR X (.builtin "min") (rMinT X.K) := by
  intro pins s σ H vs us Q I r h
  obtain ⟨a, x, y, rfl, hs, q⟩ := h
  obtain rfl := Vals.ref1 r
  obtain ⟨its, rv, hl, _⟩ := I.tuple hs
  obtain ⟨as, ra⟩ := Dp.readsAll I [PyData.int x, PyData.int y] _ _ (.cons (.int x) (.cons (.int y) .nil)) rv
  refine PySem.W.min_tuple_data (x := PyData.int x) (xs := [PyData.int y]) (as := as) (I.ok.hd hc) hl (by first | exact ra | (rw [List.toList_toArray]; exact ra)) ⟨?_, ?_⟩ (by simp [PyData.depthAll, PyData.depth]; omega) (fun i v h' tk bs hi rd hk => ?_)
  · intro x hx y hy
    simp only [List.mem_cons, List.mem_nil_iff, or_false] at hx hy
    rcases hx with rfl | rfl <;> rcases hy with rfl | rfl <;> rfl
  · intro x hx
    simp only [List.mem_cons, List.mem_nil_iff, or_false] at hx
    rcases hx with rfl | rfl <;> (intro h; cases h)
  · have e := PySem.W.minD_ints x [y]
    rw [List.map_cons, List.map_nil] at e
    rw [e] at rd
    cases rd
    exact ⟨.int _, H, I.kept hk, ⟨_, rfl⟩, q⟩
end TK

/-! DM: what stands in the heap is told as data; slots hold data, lists of one's own stay writable. -/
namespace DM
open PySem PySem.Spec PyProof.Rows L2 TK
/-- data: what a value is, told without addresses (ref: a thing that is shared and may change) -/
inductive D where
  | non | bl (b : Bool) | int (i : Int) | str (x : Str) | ty (n : String) | ref (a : Addr)
  | tup (ds : List D) | lst (ds : List D) | kl (ds : List D) | kt (ds : List D) | dK (ks : List Key) (ds : List D) | fK (ks : List Key) (ds : List D)
/-- what is shared and may change: a source of draws, a list -/
inductive MO where
  | src | lst (ds : List D) | dk (es : List (Int × Int)) | ins (C dx : Addr) (fs : List (Str × D)) | dg (es : List (Key × D))
/-- a dict of whole numbers -/
def dkI (es : List (Int × Int)) : List (Key × V) := es.map fun p => (.inl p.1, .int p.2)
abbrev Mm := Addr → Option MO
def SqTa (K : PySem.W.Frag) (Av : Addr → Prop) (H : Hp) (a : Addr) (xs : List V) : Prop :=
  (¬ Av a ∧ Rd H a (.tup xs)) ∨
    ∃ (o : Obj) (its : Array Value) (n : Nat), K.lookup a = some o ∧ o.cls = .type "tuple" ∧ o.data = .seq its n ∧ its.size ≤ sizeLine ∧ Vals xs its.toList
def SqLa (K : PySem.W.Frag) (Av : Addr → Prop) (H : Hp) (a : Addr) (xs : List V) : Prop :=
  (¬ Av a ∧ Rd H a (.lst xs)) ∨
    ∃ (o : Obj) (its : Array Value) (n : Nat), K.lookup a = some o ∧ o.cls = .type "list" ∧ o.dict = none ∧ o.data = .seq its n ∧ its.size ≤ sizeLine ∧ Vals xs its.toList
theorem SqTa.sq {K : PySem.W.Frag} {Av : Addr → Prop} {H : Hp} {a : Addr} {xs : List V} (h : SqTa K Av H a xs) : SqT K H a xs := h.elim (fun h => .inl h.2) .inr
theorem SqLa.sq {K : PySem.W.Frag} {Av : Addr → Prop} {H : Hp} {a : Addr} {xs : List V} (h : SqLa K Av H a xs) : SqL K H a xs := h.elim (fun h => .inl h.2) .inr
mutual
/-- the value v is the data d, by what is not changed -/
inductive Hd (K : PySem.W.Frag) (Av : Addr → Prop) (H : Hp) : D → V → Prop
  | non : Hd K Av H .non .non
  | bl (b : Bool) : Hd K Av H (.bl b) (.bl b)
  | int (i : Int) : Hd K Av H (.int i) (.int i)
  | str (x : Str) : Hd K Av H (.str x) (.str x)
  | ty (n : String) : Hd K Av H (.ty n) (.ty n)
  | ref (a : Addr) : Hd K Av H (.ref a) (.ref a)
  | tup {a : Addr} {vs : List V} {ds : List D} : ¬ Av a → H a = some (.tup vs) → HdL K Av H ds vs → Hd K Av H (.tup ds) (.ref a)
  | kt {a : Addr} {vs : List V} {ds : List D} : SqTa K Av H a vs → HdL K Av H ds vs → Hd K Av H (.kt ds) (.ref a)
  | lst {a : Addr} {vs : List V} {ds : List D} : ¬ Av a → H a = some (.lst vs) → HdL K Av H ds vs → Hd K Av H (.lst ds) (.ref a)
  | kl {a : Addr} {vs : List V} {ds : List D} : SqLa K Av H a vs → HdL K Av H ds vs → Hd K Av H (.kl ds) (.ref a)
  | dK {a : Addr} {ks : List Key} {vs : List V} {ds : List D} : ¬ Av a → H a = some (.dK (ks.zip vs)) → ks.length = vs.length → HdL K Av H ds vs → Hd K Av H (.dK ks ds) (.ref a)
  | fK {a : Addr} {od : Obj} {ks : List Key} {vs : List V} {ds : List D} : ¬ Av a → H a = some (.frz od (.dK (ks.zip vs))) → ks.length = vs.length → HdL K Av H ds vs → Hd K Av H (.fK ks ds) (.ref a)
inductive HdL (K : PySem.W.Frag) (Av : Addr → Prop) (H : Hp) : List D → List V → Prop
  | nil : HdL K Av H [] []
  | cons {d : D} {v : V} {ds : List D} {vs : List V} : Hd K Av H d v → HdL K Av H ds vs → HdL K Av H (d :: ds) (v :: vs)
end
/-- what is not to be changed stays -/
def Fr (Av Av' : Addr → Prop) (H H' : Hp) : Prop := ∀ b o, ¬ Av b → H b = some o → H' b = some o ∧ ¬ Av' b
theorem Fr.refl {Av : Addr → Prop} {H : Hp} : Fr Av Av H H := fun _ _ n h => ⟨h, n⟩
theorem Fr.trans {Av Av1 Av2 : Addr → Prop} {H H1 H2 : Hp} (a : Fr Av Av1 H H1) (b : Fr Av1 Av2 H1 H2) : Fr Av Av2 H H2 := fun c o n h => by
  obtain ⟨h1, n1⟩ := a c o n h
  exact b c o n1 h1
theorem Fr.less {Av Av' : Addr → Prop} {H : Hp} (h : ∀ b, Av' b → Av b) : Fr Av Av' H H := fun b _ n e => ⟨e, fun q => n (h b q)⟩
section
variable {K : PySem.W.Frag} {Av Av' : Addr → Prop} {H H' : Hp}
theorem Fr.rd (f : Fr Av Av' H H') {a : Addr} {o : HO} (n : ¬ Av a) (h : Rd H a o) : ¬ Av' a ∧ Rd H' a o := by
  rcases h with h | ⟨ob, h⟩
  · exact ⟨(f _ _ n h).2, .inl (f _ _ n h).1⟩
  · exact ⟨(f _ _ n h).2, .inr ⟨ob, (f _ _ n h).1⟩⟩
theorem SqTa.fr (f : Fr Av Av' H H') {a : Addr} {xs : List V} (h : SqTa K Av H a xs) : SqTa K Av' H' a xs := h.elim (fun h => .inl (f.rd h.1 h.2)) .inr
theorem SqLa.fr (f : Fr Av Av' H H') {a : Addr} {xs : List V} (h : SqLa K Av H a xs) : SqLa K Av' H' a xs := h.elim (fun h => .inl (f.rd h.1 h.2)) .inr
mutual
theorem Hd.fr (f : Fr Av Av' H H') : ∀ {d : D} {v : V}, Hd K Av H d v → Hd K Av' H' d v
  | _, _, .non => .non
  | _, _, .bl b => .bl b
  | _, _, .int b => .int b
  | _, _, .str b => .str b
  | _, _, .ty b => .ty b
  | _, _, .ref b => .ref b
  | _, _, .tup n h l => .tup (f _ _ n h).2 (f _ _ n h).1 (HdL.fr f l)
  | _, _, .kt s l => .kt (s.fr f) (HdL.fr f l)
  | _, _, .lst n h l => .lst (f _ _ n h).2 (f _ _ n h).1 (HdL.fr f l)
  | _, _, .kl s l => .kl (s.fr f) (HdL.fr f l)
  | _, _, .dK n h e l => .dK (f _ _ n h).2 (f _ _ n h).1 e (HdL.fr f l)
  | _, _, .fK n h e l => .fK (f _ _ n h).2 (f _ _ n h).1 e (HdL.fr f l)
theorem HdL.fr (f : Fr Av Av' H H') : ∀ {d : List D} {v : List V}, HdL K Av H d v → HdL K Av' H' d v
  | _, _, .nil => .nil
  | _, _, .cons a b => .cons (Hd.fr f a) (HdL.fr f b)
end
theorem HdL.length : ∀ {ds : List D} {vs : List V}, HdL K Av H ds vs → ds.length = vs.length
  | _, _, .nil => rfl
  | _, _, .cons _ t => by rw [List.length_cons, List.length_cons, HdL.length t]
theorem HdL.app : ∀ {ds es : List D} {vs us : List V}, HdL K Av H ds vs → HdL K Av H es us → HdL K Av H (ds ++ es) (vs ++ us)
  | _, _, _, _, .nil, s => s
  | _, _, _, _, .cons r t, s => .cons r (HdL.app t s)
theorem HdL.one {d : D} {v : V} (h : Hd K Av H d v) : HdL K Av H [d] [v] := .cons h .nil
theorem HdL.get : ∀ {ds : List D} {vs : List V} {i : Nat} {d : D}, HdL K Av H ds vs → ds[i]? = some d → ∃ v, vs[i]? = some v ∧ Hd K Av H d v
  | _, _, _, _, .nil, e => by simp at e
  | _, _, 0, _, .cons r _, e => by simp at e; subst e; exact ⟨_, rfl, r⟩
  | _, _, i + 1, d, .cons _ t, e => by
    obtain ⟨u, h1, h2⟩ := HdL.get (i := i) (d := d) t (by simpa using e)
    exact ⟨u, by simpa using h1, h2⟩
theorem HdL.get' : ∀ {ds : List D} {vs : List V} {i : Nat} {v : V}, HdL K Av H ds vs → vs[i]? = some v → ∃ d, ds[i]? = some d ∧ Hd K Av H d v
  | _, _, _, _, .nil, e => by simp at e
  | _, _, 0, _, .cons r _, e => by simp at e; subst e; exact ⟨_, rfl, r⟩
  | _, _, i + 1, d, .cons _ t, e => by
    obtain ⟨u, h1, h2⟩ := HdL.get' (i := i) (v := d) t (by simpa using e)
    exact ⟨u, by simpa using h1, h2⟩
theorem HdL.take : ∀ {ds : List D} {vs : List V} (n : Nat), HdL K Av H ds vs → HdL K Av H (ds.take n) (vs.take n)
  | _, _, 0, _ => .nil
  | _, _, _ + 1, .nil => .nil
  | _, _, n + 1, .cons r t => .cons r (HdL.take n t)
theorem HdL.drop : ∀ {ds : List D} {vs : List V} (n : Nat), HdL K Av H ds vs → HdL K Av H (ds.drop n) (vs.drop n)
  | _, _, 0, r => r
  | _, _, _ + 1, .nil => .nil
  | _, _, n + 1, .cons _ t => HdL.drop n t
theorem HdL.set : ∀ {ds : List D} {vs : List V} {d : D} {v : V} (n : Nat), Hd K Av H d v → HdL K Av H ds vs → HdL K Av H (ds.set n d) (vs.set n v)
  | _, _, _, _, _, _, .nil => .nil
  | _, _, _, _, 0, h, .cons _ t => .cons h t
  | _, _, _, _, n + 1, h, .cons r t => .cons r (HdL.set n h t)
theorem HdL.rev : ∀ {ds : List D} {vs : List V}, HdL K Av H ds vs → HdL K Av H ds.reverse vs.reverse
  | _, _, .nil => .nil
  | _, _, .cons r t => by
    rw [List.reverse_cons, List.reverse_cons]
    exact (HdL.rev t).app (.one r)
theorem HdL.dropLast {ds : List D} {vs : List V} (h : HdL K Av H ds vs) : HdL K Av H ds.dropLast vs.dropLast := by
  rw [List.dropLast_eq_take, List.dropLast_eq_take, h.length]
  exact h.take _
theorem HdL.rep {ds : List D} {vs : List V} (h : HdL K Av H ds vs) : ∀ k : Nat, HdL K Av H (List.replicate k ds).flatten (List.replicate k vs).flatten
  | 0 => .nil
  | k + 1 => by
    rw [List.replicate_succ, List.replicate_succ, List.flatten_cons, List.flatten_cons]
    exact h.app (HdL.rep h k)
theorem HdL.ints : ∀ {ns : List Int} {vs : List V}, HdL K Av H (ns.map D.int) vs → vs = ns.map V.int
  | [], _, .nil => rfl
  | n :: ns, _, .cons r t => by cases r; rw [List.map_cons, HdL.ints t]
theorem HdL.ofInts : ∀ {ns : List Int}, HdL K Av H (ns.map D.int) (ns.map V.int)
  | [] => .nil
  | n :: ns => .cons (.int n) HdL.ofInts
theorem HdL.bls : ∀ {ns : List Bool} {vs : List V}, HdL K Av H (ns.map D.bl) vs → vs = ns.map V.bl
  | [], _, .nil => rfl
  | n :: ns, _, .cons r t => by cases r; rw [List.map_cons, HdL.bls t]
theorem HdL.strs : ∀ {ns : List Str} {vs : List V}, HdL K Av H (ns.map D.str) vs → vs = ns.map V.str
  | [], _, .nil => rfl
  | n :: ns, _, .cons r t => by cases r; rw [List.map_cons, HdL.strs t]
end
/-- slots -/
inductive Sl where
  | un | val (d : D) | own (ds : List D)
abbrev Env := List Sl
/-- the callers' own lists, and which things are shared -/
structure CA where
  h : Hp
  d : Addr → Prop
def Av (A : CA) (B : Nat → Option Addr) (M : Mm) (b : Addr) : Prop := A.h b ≠ none ∨ (∃ i, B i = some b) ∨ M b ≠ none
/-- the attributes of an object -/
inductive FsD (K : PySem.W.Frag) (Av : Addr → Prop) (H : Hp) : List (Str × D) → List (Str × V) → Prop
  | nil : FsD K Av H [] []
  | cons {f : Str} {d : D} {v : V} {fs : List (Str × D)} {vs : List (Str × V)} : Hd K Av H d v → FsD K Av H fs vs → FsD K Av H ((f, d) :: fs) ((f, v) :: vs)
theorem FsD.fr {K : PySem.W.Frag} {Av Av' : Addr → Prop} {H H' : Hp} (r : Fr Av Av' H H') {fs : List (Str × D)} {vs : List (Str × V)} (h : FsD K Av H fs vs) : FsD K Av' H' fs vs := by
  induction h with
  | nil => exact .nil
  | cons a _ ih => exact .cons (a.fr r) ih
/-- the pairs of a dict -/
inductive KvD (K : PySem.W.Frag) (Av : Addr → Prop) (H : Hp) : List (Key × D) → List (Key × V) → Prop
  | nil : KvD K Av H [] []
  | cons {k : Key} {d : D} {v : V} {es : List (Key × D)} {kvs : List (Key × V)} : Hd K Av H d v → KvD K Av H es kvs → KvD K Av H ((k, d) :: es) ((k, v) :: kvs)
theorem KvD.fr {K : PySem.W.Frag} {Av Av' : Addr → Prop} {H H' : Hp} (r : Fr Av Av' H H') {es : List (Key × D)} {kvs : List (Key × V)} (h : KvD K Av H es kvs) : KvD K Av' H' es kvs := by
  induction h with
  | nil => exact .nil
  | cons a _ ih => exact .cons (a.fr r) ih
def MOk (K : PySem.W.Frag) (Av : Addr → Prop) (H : Hp) (a : Addr) : MO → Prop
  | .src => ∃ x y n : Int, H a = some (.lst [.int x, .int y, .int n])
  | .lst ds => ∃ vs, H a = some (.lst vs) ∧ HdL K Av H ds vs
  | .dk es => H a = some (.dK (dkI es))
  | .ins C dx fs => ∃ vs, H a = some (.ins C dx vs) ∧ FsD K Av H fs vs ∧ ¬ Av dx ∧ H dx = some (.own a)
  | .dg es => ∃ kvs, H a = some (.dK kvs) ∧ KvD K Av H es kvs
def SlOk (K : PySem.W.Frag) (Av : Addr → Prop) (H : Hp) (b : Option Addr) (v : Option V) : Sl → Prop
  | .un => True
  | .val d => ∃ x, v = some x ∧ Hd K Av H d x
  | .own ds => ∃ a vs, b = some a ∧ v = some (.ref a) ∧ H a = some (.lst vs) ∧ HdL K Av H ds vs
def CA.add (A : CA) (a : Addr) (o : HO) : CA := ⟨upd A.h a o, A.d⟩
/-- what is kept in mind of the beginning, as long as nothing else is written -/
class Gd where
  F : CA → (Addr → Prop) → Hp → Prop
  cl : ∀ {A : CA} {Av Av' : Addr → Prop} {H H' : Hp}, Fr Av Av' H H' → F A Av H → F A Av' H'
  add : ∀ {A : CA} {Av : Addr → Prop} {H : Hp} {a : Addr} {o : HO}, A.h a = none → F A Av H → F (A.add a o) Av H
instance (priority := low) Gd.triv : Gd := ⟨fun _ _ _ => True, fun _ _ => trivial, fun _ _ => trivial⟩
variable [Gd]
/-- the slots and the shared things, as they are told -/
structure ER (K : PySem.W.Frag) (A : CA) (B : Nat → Option Addr) (M : Mm) (ρ : Env) (σ : L2.St) (H : Hp) : Prop where
  len : σ.length = ρ.length
  sl : ∀ i s v, ρ[i]? = some s → σ[i]? = some v → SlOk K (Av A B M) H (B i) v s
  inj : ∀ i j a, B i = some a → B j = some a → i = j
  ob : ∀ a mo, M a = some mo → MOk K (Av A B M) H a mo
  tr : ∀ b, Av A B M b → H b ≠ none
  sepM : ∀ i a, B i = some a → M a = none
  sepA : ∀ a, A.h a ≠ none → M a = none
  sepB : ∀ i a, B i = some a → A.h a = none
  sn : ∀ b o, A.h b = some o → H b = some o
  md : ∀ b, A.d b → M b ≠ none
  gd : Gd.F A (Av A B M) H
/-- the shared things stay what they are; all else is as it was -/
def FrM (M M' : Mm) (H H' : Hp) : Prop := ∀ b o, M b = none → H b = some o → H' b = some o ∧ M' b = none
theorem FrM.refl {M : Mm} {H : Hp} : FrM M M H H := fun _ _ n h => ⟨h, n⟩
theorem FrM.trans {M M1 M2 : Mm} {H H1 H2 : Hp} (a : FrM M M1 H H1) (b : FrM M1 M2 H1 H2) : FrM M M2 H H2 := fun c o n h => by
  obtain ⟨h1, n1⟩ := a c o n h
  exact b c o n1 h1
/-- what may be read: also a list of one's own -/
def HdB (K : PySem.W.Frag) (A : CA) (B : Nat → Option Addr) (M : Mm) (H : Hp) (d : D) (v : V) : Prop :=
  Hd K (Av A B M) H d v ∨ ∃ ds a vs, d = .lst ds ∧ v = .ref a ∧ M a = none ∧ H a = some (.lst vs) ∧ HdL K (Av A B M) H ds vs
abbrev TED := Env → Mm → (D → Env → Mm → Prop) → Prop
abbrev TEN := Env → Mm → (List D → Env → Mm → Prop) → Prop
abbrev TTD := Env → Mm → (Bool → Env → Mm → Prop) → Prop
abbrev TAD := Env → Mm → (List D → Env → Mm → Prop) → Prop
def SimE (K : PySem.W.Frag) (t : TE) (t' : TED) : Prop := ∀ (A : CA) B M ρ σ H Q Q', ER K A B M ρ σ H → t' ρ M Q' →
  (∀ d ρ' M' B' v H', ER K A B' M' ρ' σ H' → Fr (Av A B M) (Av A B' M') H H' → FrM M M' H H' → Hd K (Av A B' M') H' d v → Q' d ρ' M' → Q v H') → t σ H Q
def SimB (K : PySem.W.Frag) (t : TE) (t' : TED) : Prop := ∀ (A : CA) B M ρ σ H Q Q', ER K A B M ρ σ H → t' ρ M Q' →
  (∀ d ρ' M' B' v H', ER K A B' M' ρ' σ H' → Fr (Av A B M) (Av A B' M') H H' → FrM M M' H H' → HdB K A B' M' H' d v → Q' d ρ' M' → Q v H') → t σ H Q
/-- .. a new list, in nobody else's hands: its address stands behind the slots -/
def SimN (K : PySem.W.Frag) (t : TE) (t' : TEN) : Prop := ∀ (A : CA) B M ρ σ H Q Q', ER K A B M ρ σ H → t' ρ M Q' →
  (∀ ds ρ' M' B' a vs H', ER K A B' M' ρ' σ H' → Fr (Av A B M) (Av A B' M') H H' → FrM M M' H H' → B' σ.length = some a → H' a = some (.lst vs) → HdL K (Av A B' M') H' ds vs → Q' ds ρ' M' → Q (.ref a) H') → t σ H Q
def SimT (K : PySem.W.Frag) (t : TT) (t' : TTD) : Prop := ∀ (A : CA) B M ρ σ H Q Q', ER K A B M ρ σ H → t' ρ M Q' →
  (∀ c ρ' M' B' H', ER K A B' M' ρ' σ H' → Fr (Av A B M) (Av A B' M') H H' → FrM M M' H H' → Q' c ρ' M' → Q c H') → t σ H Q
def SimA (K : PySem.W.Frag) (t : TA) (t' : TAD) : Prop := ∀ (A : CA) B M ρ σ H Q Q', ER K A B M ρ σ H → t' ρ M Q' →
  (∀ ds ρ' M' B' vs H', ER K A B' M' ρ' σ H' → Fr (Av A B M) (Av A B' M') H H' → FrM M M' H H' → HdL K (Av A B' M') H' ds vs → Q' ds ρ' M' → Q vs H') → t σ H Q
structure EndsD where
  nx : Env → Mm → Prop
  rt : D → Mm → Prop
  rn : List D → Mm → Prop := fun _ _ => False
  bk : Env → Mm → Prop := fun _ _ => False
  ct : Env → Mm → Prop := fun _ _ => False
abbrev TSD := EndsD → Env → Mm → Prop
structure EndsOk (K : PySem.W.Frag) (A : CA) (Av0 : Addr → Prop) (H0 : Hp) (D' : EndsD) (E : Ends) : Prop where
  nx : ∀ ρ M B σ H, ER K A B M ρ σ H → Fr Av0 (Av A B M) H0 H → D'.nx ρ M → E.nx σ H
  rt : ∀ d v ρ M B σ H, ER K A B M ρ σ H → Fr Av0 (Av A B M) H0 H → Hd K (Av A B M) H d v → D'.rt d M → E.rt v H
  rn : ∀ ds a vs ρ M B σ H, ER K A B M ρ σ H → Fr Av0 (Av A B M) H0 H → (∃ i, B i = some a) → H a = some (.lst vs) → HdL K (Av A B M) H ds vs → D'.rn ds M → E.rt (.ref a) H
  bk : ∀ ρ M B σ H, ER K A B M ρ σ H → Fr Av0 (Av A B M) H0 H → D'.bk ρ M → E.bk σ H
  ct : ∀ ρ M B σ H, ER K A B M ρ σ H → Fr Av0 (Av A B M) H0 H → D'.ct ρ M → E.ct σ H
def SimS (K : PySem.W.Frag) (t : TS) (t' : TSD) : Prop := ∀ (A : CA) B M ρ σ H E D', ER K A B M ρ σ H → t' D' ρ M → EndsOk K A (Av A B M) H D' E → t E σ H
theorem EndsOk.from {K : PySem.W.Frag} {A : CA} {Av0 Av1 : Addr → Prop} {H0 H1 : Hp} {D' : EndsD} {E : Ends} (f : Fr Av0 Av1 H0 H1) (e : EndsOk K A Av0 H0 D' E) : EndsOk K A Av1 H1 D' E :=
  ⟨fun ρ M B σ H r g q => e.nx ρ M B σ H r (f.trans g) q, fun d v ρ M B σ H r g h q => e.rt d v ρ M B σ H r (f.trans g) h q,
   fun ds a vs ρ M B σ H r g i h l q => e.rn ds a vs ρ M B σ H r (f.trans g) i h l q, fun ρ M B σ H r g q => e.bk ρ M B σ H r (f.trans g) q, fun ρ M B σ H r g q => e.ct ρ M B σ H r (f.trans g) q⟩
end DM

namespace DM
open PySem PySem.Spec PyProof.Rows L2 TK
variable [Gd]
section
variable {K : PySem.W.Frag} {A : CA} {B : Nat → Option Addr} {M : Mm} {ρ : Env} {σ : L2.St} {H : Hp}
def put (B : Nat → Option Addr) (i : Nat) (o : Option Addr) : Nat → Option Addr := fun j => if j = i then o else B j
theorem put_same {B : Nat → Option Addr} {i : Nat} {o : Option Addr} : put B i o i = o := by unfold put; rw [if_pos rfl]
theorem put_ne {B : Nat → Option Addr} {i j : Nat} {o : Option Addr} (h : j ≠ i) : put B i o j = B j := by unfold put; rw [if_neg h]
theorem av_put_none {i : Nat} {b : Addr} (h : Av A (put B i none) M b) : Av A B M b := by
  rcases h with h | ⟨j, h⟩ | h
  · exact .inl h
  · by_cases e : j = i
    · subst e; rw [put_same] at h; cases h
    · rw [put_ne e] at h; exact .inr (.inl ⟨j, h⟩)
  · exact .inr (.inr h)
theorem av_put_some {i : Nat} {a b : Addr} (h : Av A (put B i (some a)) M b) : Av A B M b ∨ b = a := by
  rcases h with h | ⟨j, h⟩ | h
  · exact .inl (.inl h)
  · by_cases e : j = i
    · subst e; rw [put_same] at h; exact .inr (Option.some.inj h).symm
    · rw [put_ne e] at h; exact .inl (.inr (.inl ⟨j, h⟩))
  · exact .inl (.inr (.inr h))
theorem SlOk.fr {Av Av' : Addr → Prop} {H H' : Hp} (f : Fr Av Av' H H') {b b' : Option Addr} {v : Option V} {s : Sl} (hb : ∀ a, b = some a → b' = some a ∧ ∀ o, H a = some o → H' a = some o) (h : SlOk K Av H b v s) : SlOk K Av' H' b' v s := by
  cases s with
  | un => trivial
  | val d => obtain ⟨x, e, q⟩ := h; exact ⟨x, e, q.fr f⟩
  | own ds =>
    obtain ⟨a, vs, e, ev, hl, q⟩ := h
    exact ⟨a, vs, (hb a e).1, ev, (hb a e).2 _ hl, q.fr f⟩
theorem MOk.fr {Av Av' : Addr → Prop} {H H' : Hp} (f : Fr Av Av' H H') {a : Addr} {mo : MO} (k : ∀ o, H a = some o → H' a = some o) (h : MOk K Av H a mo) : MOk K Av' H' a mo := by
  cases mo with
  | src => obtain ⟨x, y, n, e⟩ := h; exact ⟨x, y, n, k _ e⟩
  | lst ds => obtain ⟨vs, e, q⟩ := h; exact ⟨vs, k _ e, q.fr f⟩
  | dk es => exact k _ h
  | dg es => obtain ⟨kvs, e, q⟩ := h; exact ⟨kvs, k _ e, q.fr f⟩
  | ins C dx fs => obtain ⟨vs, e, q, n, o⟩ := h; exact ⟨vs, k _ e, q.fr f, (f _ _ n o).2, (f _ _ n o).1⟩
/-- one more shared thing -/
def addM (M : Mm) (p : Addr) (mo : MO) : Mm := fun b => if b = p then some mo else M b
theorem addM_same {M : Mm} {p : Addr} {mo : MO} : addM M p mo p = some mo := by unfold addM; rw [if_pos rfl]
theorem addM_ne {M : Mm} {p b : Addr} {mo : MO} (h : b ≠ p) : addM M p mo b = M b := by unfold addM; rw [if_neg h]
/-- an address that nobody tells of any more -/
theorem ER.drop (r : ER K A B M ρ σ H) {i : Nat} (hi : ρ.length ≤ i) : ER K A (put B i none) M ρ σ H ∧ Fr (Av A B M) (Av A (put B i none) M) H H := by
  have f : Fr (Av A B M) (Av A (put B i none) M) H H := .less fun b => av_put_none
  refine ⟨⟨r.len, fun j s v e1 e2 => ?_, fun j k a e1 e2 => ?_, fun a mo e => (r.ob a mo e).fr f fun _ h => h, fun b h => r.tr b (av_put_none h), fun j a e => ?_, r.sepA, fun j a e => ?_, r.sn, r.md, Gd.cl f r.gd⟩, f⟩
  · have hj : j ≠ i := by
      have := (List.getElem?_eq_some_iff.mp e1).1
      omega
    exact (r.sl j s v e1 e2).fr f fun a e => ⟨by rw [put_ne hj]; exact e, fun _ h => h⟩
  · have hj : j ≠ i := fun z => by subst z; rw [put_same] at e1; cases e1
    have hk : k ≠ i := fun z => by subst z; rw [put_same] at e2; cases e2
    rw [put_ne hj] at e1
    rw [put_ne hk] at e2
    exact r.inj j k a e1 e2
  · have hj : j ≠ i := fun z => by subst z; rw [put_same] at e; cases e
    rw [put_ne hj] at e
    exact r.sepM j a e
  · have hj : j ≠ i := fun z => by subst z; rw [put_same] at e; cases e
    rw [put_ne hj] at e
    exact r.sepB j a e
/-- a slot's own list is no longer written -/
theorem ER.fz (r : ER K A B M ρ σ H) {i : Nat} {ds : List D} (hi : ρ[i]? = some (.own ds)) : ∃ a vs, B i = some a ∧ σ[i]? = some (some (.ref a)) ∧ H a = some (.lst vs) ∧
    ER K A (put B i none) M (ρ.set i (.val (.lst ds))) σ H ∧ Fr (Av A B M) (Av A (put B i none) M) H H ∧ Hd K (Av A (put B i none) M) H (.lst ds) (.ref a) := by
  have hil : i < ρ.length := (List.getElem?_eq_some_iff.mp hi).1
  obtain ⟨sv, hsv⟩ : ∃ sv, σ[i]? = some sv := ⟨_, List.getElem?_eq_getElem (by rw [r.len]; exact hil)⟩
  obtain ⟨a, vs, eb, ev, hl, q⟩ := r.sl i _ sv hi hsv
  have f : Fr (Av A B M) (Av A (put B i none) M) H H := .less fun b => av_put_none
  have na : ¬ Av A (put B i none) M a := by
    rintro (h | ⟨j, h⟩ | h)
    · exact h (r.sepB i a eb)
    · have hj : j ≠ i := fun z => by subst z; rw [put_same] at h; cases h
      rw [put_ne hj] at h
      exact hj (r.inj j i a h eb)
    · exact h (r.sepM i a eb)
  have hd : Hd K (Av A (put B i none) M) H (.lst ds) (.ref a) := .lst na hl (q.fr f)
  refine ⟨a, vs, eb, by rw [hsv, ev], hl, ⟨by rw [List.length_set]; exact r.len, fun j s v e1 e2 => ?_, fun j k a e1 e2 => ?_, fun a mo e => (r.ob a mo e).fr f fun _ h => h, fun b h => r.tr b (av_put_none h), fun j a e => ?_, r.sepA, fun j a e => ?_, r.sn, r.md, Gd.cl f r.gd⟩, f, hd⟩
  · by_cases hj : j = i
    · subst hj
      rw [List.getElem?_set_self hil] at e1
      cases e1
      rw [hsv] at e2
      cases e2
      exact ⟨_, ev, hd⟩
    · rw [List.getElem?_set_ne (Ne.symm hj)] at e1
      exact (r.sl j s v e1 e2).fr f fun a e => ⟨by rw [put_ne hj]; exact e, fun _ h => h⟩
  · have hj : j ≠ i := fun z => by subst z; rw [put_same] at e1; cases e1
    have hk : k ≠ i := fun z => by subst z; rw [put_same] at e2; cases e2
    rw [put_ne hj] at e1
    rw [put_ne hk] at e2
    exact r.inj j k a e1 e2
  · have hj : j ≠ i := fun z => by subst z; rw [put_same] at e; cases e
    rw [put_ne hj] at e
    exact r.sepM j a e
  · have hj : j ≠ i := fun z => by subst z; rw [put_same] at e; cases e
    rw [put_ne hj] at e
    exact r.sepB j a e
/-- a slot takes data -/
theorem ER.set (r : ER K A B M ρ σ H) {i : Nat} {d : D} {v : V} (h : Hd K (Av A B M) H d v) : ER K A B M (ρ.set i (.val d)) (σ.set i (some v)) H := by
  refine ⟨by rw [List.length_set, List.length_set]; exact r.len, fun j s u e1 e2 => ?_, r.inj, r.ob, r.tr, r.sepM, r.sepA, r.sepB, r.sn, r.md, r.gd⟩
  by_cases hj : j = i
  · subst hj
    have h1 : j < ρ.length := by
      have := (List.getElem?_eq_some_iff.mp e1).1
      rwa [List.length_set] at this
    rw [List.getElem?_set_self h1] at e1
    rw [List.getElem?_set_self (by rw [r.len]; exact h1)] at e2
    cases e1
    cases e2
    exact ⟨v, rfl, h⟩
  · rw [List.getElem?_set_ne (Ne.symm hj)] at e1 e2
    exact r.sl j s u e1 e2
/-- a slot is forgotten -/
theorem ER.unset (r : ER K A B M ρ σ H) {i : Nat} {o : Option V} : ER K A B M (ρ.set i .un) (σ.set i o) H := by
  refine ⟨by rw [List.length_set, List.length_set]; exact r.len, fun j s u e1 e2 => ?_, r.inj, r.ob, r.tr, r.sepM, r.sepA, r.sepB, r.sn, r.md, r.gd⟩
  by_cases hj : j = i
  · subst hj
    have h1 : j < ρ.length := by
      have := (List.getElem?_eq_some_iff.mp e1).1
      rwa [List.length_set] at this
    rw [List.getElem?_set_self h1] at e1
    cases e1
    trivial
  · rw [List.getElem?_set_ne (Ne.symm hj)] at e1 e2
    exact r.sl j s u e1 e2
/-- a slot takes the new list that stands behind the slots -/
theorem ER.setOwn (r : ER K A B M ρ σ H) {i : Nat} {a : Addr} {vs : List V} {ds : List D} (hb : B σ.length = some a) (hl : H a = some (.lst vs)) (h : HdL K (Av A B M) H ds vs) :
    ∃ B', ER K A B' M (ρ.set i (.own ds)) (σ.set i (some (.ref a))) H ∧ Fr (Av A B M) (Av A B' M) H H := by
  by_cases hi : i < ρ.length
  case neg =>
    refine ⟨B, ?_, .refl⟩
    rw [List.set_eq_of_length_le (by omega), List.set_eq_of_length_le (by rw [r.len]; omega)]
    exact r
  have hne : i ≠ σ.length := by rw [r.len]; omega
  have less : ∀ b, Av A (put (put B i (some a)) σ.length none) M b → Av A B M b := fun b h => by
    rcases av_put_some (av_put_none h) with h | h
    · exact h
    · subst h; exact .inr (.inl ⟨_, hb⟩)
  have f := Fr.less (H := H) less
  have at_ : ∀ j c, put (put B i (some a)) σ.length none j = some c → j ≠ σ.length ∧ ((j = i ∧ c = a) ∨ (j ≠ i ∧ B j = some c)) := fun j c e => by
    have h1 : j ≠ σ.length := fun z => by subst z; rw [put_same] at e; cases e
    rw [put_ne h1] at e
    refine ⟨h1, ?_⟩
    by_cases hj : j = i
    · subst hj; rw [put_same] at e; exact .inl ⟨rfl, (Option.some.inj e).symm⟩
    · rw [put_ne hj] at e; exact .inr ⟨hj, e⟩
  refine ⟨_, ⟨by rw [List.length_set, List.length_set]; exact r.len, fun j s u e1 e2 => ?_, fun j k c e1 e2 => ?_, fun a mo e => (r.ob a mo e).fr f fun _ h => h, fun b h => r.tr b (less b h), fun j c e => ?_, r.sepA, fun j c e => ?_, r.sn, r.md, Gd.cl f r.gd⟩, f⟩
  · by_cases hj : j = i
    · subst hj
      rw [List.getElem?_set_self hi] at e1
      rw [List.getElem?_set_self (by rw [r.len]; exact hi)] at e2
      cases e1
      cases e2
      exact ⟨a, vs, by rw [put_ne hne, put_same], rfl, hl, h.fr f⟩
    · rw [List.getElem?_set_ne (Ne.symm hj)] at e1 e2
      have h1 : j ≠ σ.length := by
        have := (List.getElem?_eq_some_iff.mp e1).1
        rw [r.len]
        omega
      exact (r.sl j s u e1 e2).fr f fun c e => ⟨by rw [put_ne h1, put_ne hj]; exact e, fun _ h => h⟩
  · obtain ⟨n1, h1⟩ := at_ j c e1
    obtain ⟨n2, h2⟩ := at_ k c e2
    rcases h1 with ⟨rfl, rfl⟩ | ⟨q1, h1⟩
    · rcases h2 with ⟨rfl, _⟩ | ⟨q2, h2⟩
      · rfl
      · exact absurd (r.inj _ _ _ h2 hb) n2
    · rcases h2 with ⟨rfl, rfl⟩ | ⟨q2, h2⟩
      · exact absurd (r.inj _ _ _ h1 hb) n1
      · exact r.inj _ _ _ h1 h2
  · obtain ⟨n1, h1⟩ := at_ j c e
    rcases h1 with ⟨_, rfl⟩ | ⟨_, h1⟩
    · exact r.sepM _ _ hb
    · exact r.sepM _ _ h1
  · obtain ⟨n1, h1⟩ := at_ j c e
    rcases h1 with ⟨_, rfl⟩ | ⟨_, h1⟩
    · exact r.sepB _ _ hb
    · exact r.sepB _ _ h1
/-- a new thing that is not changed -/
theorem ER.new (r : ER K A B M ρ σ H) {p : Addr} {o : HO} (hp : H p = none) : ER K A B M ρ σ (upd H p o) ∧ Fr (Av A B M) (Av A B M) H (upd H p o) ∧ FrM M M H (upd H p o) ∧ ¬ Av A B M p ∧ M p = none := by
  have k : ∀ b u, H b = some u → upd H p o b = some u := fun b u e => by rw [upd_ne (ne_of_none e hp)]; exact e
  have f : Fr (Av A B M) (Av A B M) H (upd H p o) := fun b u n e => ⟨k b u e, n⟩
  have np : ¬ Av A B M p := fun h => r.tr p h hp
  refine ⟨⟨r.len, fun j s v e1 e2 => (r.sl j s v e1 e2).fr f fun a e => ⟨e, fun o h => k _ _ h⟩, r.inj, fun a mo e => (r.ob a mo e).fr f fun o h => k _ _ h, fun b h => ?_, r.sepM, r.sepA, r.sepB, fun b u e => k b u (r.sn b u e), r.md, Gd.cl f r.gd⟩, f, fun b u n e => ⟨k b u e, n⟩, np, ?_⟩
  · have := r.tr b h
    by_cases hb : b = p
    · subst hb; exact absurd h np
    · rw [upd_ne hb]; exact this
  · cases q : M p with
    | none => rfl
    | some mo => exact absurd (.inr (.inr (by rw [q]; simp))) np
/-- a new list in our hands: behind the slots -/
theorem ER.newOwn (r : ER K A B M ρ σ H) {p : Addr} {vs : List V} {ds : List D} (hp : H p = none) (h : HdL K (Av A B M) H ds vs) : ∃ B', ER K A B' M ρ σ (upd H p (.lst vs)) ∧ Fr (Av A B M) (Av A B' M) H (upd H p (.lst vs)) ∧ FrM M M H (upd H p (.lst vs)) ∧
    B' σ.length = some p ∧ HdL K (Av A B' M) (upd H p (.lst vs)) ds vs := by
  obtain ⟨r1, f1, m1, np, mp⟩ := r.new (o := .lst vs) hp
  have f : Fr (Av A B M) (Av A (put B σ.length (some p)) M) H (upd H p (.lst vs)) := fun b u n e => by
    refine ⟨(f1 b u n e).1, fun h => ?_⟩
    rcases av_put_some h with h | h
    · exact n h
    · subst h; rw [hp] at e; cases e
  have at_ : ∀ j c, put B σ.length (some p) j = some c → (j = σ.length ∧ c = p) ∨ (j ≠ σ.length ∧ B j = some c) := fun j c e => by
    by_cases hj : j = σ.length
    · subst hj; rw [put_same] at e; exact .inl ⟨rfl, (Option.some.inj e).symm⟩
    · rw [put_ne hj] at e; exact .inr ⟨hj, e⟩
  have nb : ∀ j c, B j = some c → c ≠ p := fun j c e z => np (.inr (.inl ⟨j, z ▸ e⟩))
  refine ⟨put B σ.length (some p), ⟨r.len, fun j s v e1 e2 => ?_, fun j k c e1 e2 => ?_, fun a mo e => (r.ob a mo e).fr f fun o h => ?_, fun b h => ?_, fun j c e => ?_, r.sepA, fun j c e => ?_, r1.sn, r1.md, Gd.cl f r.gd⟩, f, m1, put_same, h.fr f⟩
  · have h1 : j ≠ σ.length := by
      have := (List.getElem?_eq_some_iff.mp e1).1
      rw [r.len]
      omega
    exact (r.sl j s v e1 e2).fr f fun a e => ⟨by rw [put_ne h1]; exact e, fun o h => by rw [upd_ne (ne_of_none h hp)]; exact h⟩
  · rcases at_ j c e1 with ⟨rfl, rfl⟩ | ⟨n1, h1⟩
    · rcases at_ k c e2 with ⟨rfl, _⟩ | ⟨n2, h2⟩
      · rfl
      · exact absurd rfl (nb _ _ h2)
    · rcases at_ k c e2 with ⟨rfl, rfl⟩ | ⟨n2, h2⟩
      · exact absurd rfl (nb _ _ h1)
      · exact r.inj _ _ _ h1 h2
  · rw [upd_ne (ne_of_none h hp)]; exact h
  · rcases av_put_some h with h | h
    · exact r1.tr b h
    · subst h; rw [upd_same]; simp
  · rcases at_ j c e with ⟨_, rfl⟩ | ⟨_, h1⟩
    · exact mp
    · exact r.sepM _ _ h1
  · rcases at_ j c e with ⟨_, rfl⟩ | ⟨_, h1⟩
    · cases q : A.h c with
      | none => rfl
      | some u => exact absurd (.inl (by rw [q]; simp)) np
    · exact r.sepB _ _ h1
/-- a list of one's own is written -/
theorem ER.write (r : ER K A B M ρ σ H) {i : Nat} {a : Addr} {ds ds' : List D} {vs' : List V} (hi : ρ[i]? = some (.own ds)) (hb : B i = some a) (h : HdL K (Av A B M) H ds' vs') :
    ER K A B M (ρ.set i (.own ds')) σ (upd H a (.lst vs')) ∧ Fr (Av A B M) (Av A B M) H (upd H a (.lst vs')) := by
  have av : Av A B M a := .inr (.inl ⟨i, hb⟩)
  have k : ∀ b u, b ≠ a → H b = some u → upd H a (.lst vs') b = some u := fun b u n e => by rw [upd_ne n]; exact e
  have f : Fr (Av A B M) (Av A B M) H (upd H a (.lst vs')) := fun b u n e => ⟨k b u (fun z => n (z ▸ av)) e, n⟩
  have hil : i < ρ.length := (List.getElem?_eq_some_iff.mp hi).1
  refine ⟨⟨by rw [List.length_set]; exact r.len, fun j s v e1 e2 => ?_, r.inj, fun c mo e => (r.ob c mo e).fr f fun o h => k _ _ (fun z => ?_) h, fun b hb' => ?_, r.sepM, r.sepA, r.sepB, fun b u e => k b u (fun z => ?_) (r.sn b u e), r.md, Gd.cl f r.gd⟩, f⟩
  · by_cases hj : j = i
    · subst hj
      rw [List.getElem?_set_self hil] at e1
      cases e1
      obtain ⟨a', vs, eb, ev, _, _⟩ := r.sl j _ v hi e2
      rw [hb] at eb
      cases eb
      exact ⟨a, vs', hb, ev, upd_same, h.fr f⟩
    · rw [List.getElem?_set_ne (Ne.symm hj)] at e1
      refine (r.sl j s v e1 e2).fr f fun c e => ⟨e, fun o h => k _ _ (fun z => ?_) h⟩
      subst z
      exact hj (r.inj _ _ _ e hb)
  · subst z
    rw [r.sepM _ _ hb] at e
    cases e
  · have := r.tr b hb'
    by_cases e : b = a
    · subst e; rw [upd_same]; simp
    · rw [upd_ne e]; exact this
  · subst z
    rw [r.sepB _ _ hb] at e
    cases e
end
end DM

namespace DM
open PySem PySem.Spec PyProof.Rows L2 TK
variable [Gd]
structure DE (X : Cx) (K : PySem.W.Frag) (e : Expr) (t : TE) (t' : TED) : Prop where
  pe : PE X e t
  sim : SimE K t t'
structure DB (X : Cx) (K : PySem.W.Frag) (e : Expr) (t : TE) (t' : TED) : Prop where
  pe : PE X e t
  sim : SimB K t t'
structure DN (X : Cx) (K : PySem.W.Frag) (e : Expr) (t : TE) (t' : TEN) : Prop where
  pe : PE X e t
  sim : SimN K t t'
structure DT (X : Cx) (K : PySem.W.Frag) (e : Expr) (t : TT) (t' : TTD) : Prop where
  pt : PT X e t
  sim : SimT K t t'
structure DW (X : Cx) (K : PySem.W.Frag) (e : Expr) (t : TT) (t' : TTD) : Prop where
  pw : PW X e t
  sim : SimT K t t'
structure DA (X : Cx) (K : PySem.W.Frag) (es : List Expr) (t : TA) (t' : TAD) : Prop where
  pa : PA X es t
  sim : SimA K t t'
section
variable {X : Cx} {K : PySem.W.Frag} {A : CA} {a b c e : Expr} {es : List Expr} {ta tb tc t : TE} {ta' tb' tc' t' : TED} {tn' : TEN} {pos p : Pos} {x : Str}
theorem HdB.fr {B B' : Nat → Option Addr} {M M' : Mm} {H H' : Hp} {d : D} {v : V} (f : Fr (Av A B M) (Av A B' M') H H') (m : FrM M M' H H') (h : HdB K A B M H d v) : HdB K A B' M' H' d v := by
  rcases h with h | ⟨ds, a, vs, e1, e2, e3, e4, e5⟩
  · exact .inl (h.fr f)
  · exact .inr ⟨ds, a, vs, e1, e2, (m _ _ e3 e4).2, (m _ _ e3 e4).1, e5.fr f⟩
theorem de_db (h : DE X K e t t') : DB X K e t t' := ⟨h.pe, fun A B M ρ σ H Q Q' r q k => h.sim A B M ρ σ H Q Q' r q fun d ρ' M' B' v H' r' f m hd q' => k d ρ' M' B' v H' r' f m (.inl hd) q'⟩
def dN (tn' : TEN) : TED := fun ρ M Q => tn' ρ M fun ds ρ' M' => Q (.lst ds) ρ' M'
theorem simN_E (h : SimN K t tn') : SimE K t (dN tn') := fun A B M ρ σ H Q Q' r q k => h A B M ρ σ H Q _ r q fun ds ρ' M' B' a vs H' r' f m hb hl hd q' => by
  obtain ⟨r2, f2⟩ := r'.drop (i := σ.length) (by rw [r'.len]; exact Nat.le_refl _)
  refine k (.lst ds) ρ' M' _ (.ref a) H' r2 (f.trans f2) m (.lst ?_ hl (hd.fr f2)) q'
  rintro (h | ⟨j, h⟩ | h)
  · exact h (r'.sepB _ _ hb)
  · have hj : j ≠ σ.length := fun z => by subst z; rw [put_same] at h; cases h
    rw [put_ne hj] at h
    exact hj (r'.inj _ _ _ h hb)
  · exact h (r'.sepM _ _ hb)
theorem dn_de (h : DN X K e t tn') : DE X K e t (dN tn') := ⟨h.pe, simN_E h.sim⟩
/-! names -/
def rdS (i : Nat) (s : Sl) (ρ : Env) (M : Mm) (Q : D → Env → Mm → Prop) : Prop := match s with
  | .un => False
  | .val d => Q d ρ M
  | .own ds => Q (.lst ds) (ρ.set i (.val (.lst ds))) M
def rbS (s : Sl) (ρ : Env) (M : Mm) (Q : D → Env → Mm → Prop) : Prop := match s with
  | .un => False
  | .val d => Q d ρ M
  | .own ds => Q (.lst ds) ρ M
def dVar (i : Nat) : TED := fun ρ M Q => ∃ s, ρ[i]? = some s ∧ rdS i s ρ M Q
def dVarB (i : Nat) : TED := fun ρ M Q => ∃ s, ρ[i]? = some s ∧ rbS s ρ M Q
theorem ER.at (r : ER K A B M ρ σ H) {i : Nat} {s : Sl} (h : ρ[i]? = some s) : ∃ v, σ[i]? = some v ∧ SlOk K (Av A B M) H (B i) v s := by
  have hil : i < ρ.length := (List.getElem?_eq_some_iff.mp h).1
  have e : σ[i]? = some (σ[i]'(by rw [r.len]; exact hil)) := List.getElem?_eq_getElem _
  exact ⟨_, e, r.sl i s _ h e⟩
theorem sim_var {i : Nat} : SimE K (tVar i) (dVar i) := fun A B M ρ σ H Q Q' r q k => by
  obtain ⟨s, e, q⟩ := q
  obtain ⟨v, ev, ok⟩ := r.at e
  cases s with
  | un => exact False.elim q
  | val d =>
    obtain ⟨y, rfl, hd⟩ := ok
    exact ⟨y, ev, k d ρ M B y H r .refl .refl hd q⟩
  | own ds =>
    obtain ⟨a, vs, hb, es, hl, r2, f, hd⟩ := r.fz e
    exact ⟨_, es, k (.lst ds) _ M _ _ H r2 f .refl hd q⟩
theorem sim_varB {i : Nat} : SimB K (tVar i) (dVarB i) := fun A B M ρ σ H Q Q' r q k => by
  obtain ⟨s, e, q⟩ := q
  obtain ⟨v, ev, ok⟩ := r.at e
  cases s with
  | un => exact False.elim q
  | val d =>
    obtain ⟨y, rfl, hd⟩ := ok
    exact ⟨y, ev, k d ρ M B y H r .refl .refl (.inl hd) q⟩
  | own ds =>
    obtain ⟨a, vs, hb, rfl, hl, hd⟩ := ok
    exact ⟨_, ev, k (.lst ds) ρ M B _ H r .refl .refl (.inr ⟨ds, a, vs, rfl, rfl, r.sepM _ _ hb, hl, hd⟩) q⟩
theorem dv (i : Nat) (hN : X.N[i]? = some x := by rfl) (hv : Vis X.env.scope x := by first | exact .inl rfl | exact .inr (.inl rfl) | exact .inr (.inr rfl)) (hd : (x == ("__debug__" : Str)) = false := by decide) (hcd : (x == ("__classdict__" : Str)) = false := by decide) : DE X K (.Name x pos) (tVar i) (dVar i) :=
  ⟨pe_var hN hv hd hcd, sim_var⟩
theorem db (i : Nat) (hN : X.N[i]? = some x := by rfl) (hv : Vis X.env.scope x := by first | exact .inl rfl | exact .inr (.inl rfl) | exact .inr (.inr rfl)) (hd : (x == ("__debug__" : Str)) = false := by decide) (hcd : (x == ("__classdict__" : Str)) = false := by decide) : DB X K (.Name x pos) (tVar i) (dVarB i) :=
  ⟨pe_var hN hv hd hcd, sim_varB⟩
/-! constants -/
def dC (d : D) : TED := fun ρ M Q => Q d ρ M
theorem sim_c {v : V} {d : D} (h : ∀ (Av : Addr → Prop) (H : Hp), Hd K Av H d v) : SimE K (tC v) (dC d) := fun A B M ρ σ H Q Q' r q k => k d ρ M B v H r .refl .refl (h _ _) q
theorem de_int {i j} : DE X K (.Constant (.int i) j pos) (tC (.int i)) (dC (.int i)) := ⟨pe_int, sim_c fun _ _ => .int _⟩
theorem de_bl {i j} : DE X K (.Constant (.bool i) j pos) (tC (.bl i)) (dC (.bl i)) := ⟨pe_bl, sim_c fun _ _ => .bl _⟩
theorem de_non {j} : DE X K (.Constant .none j pos) (tC .non) (dC .non) := ⟨pe_non, sim_c fun _ _ => .non⟩
theorem de_str {i j} : DE X K (.Constant (.str i) j pos) (tC (.str i)) (dC (.str i)) := ⟨pe_str, sim_c fun _ _ => .str _⟩
theorem de_gint {i : Int} (hg : Gl X x) (hm : ∃ t, X.mg x = some (.int i t)) (hd : (x == ("__debug__" : Str)) = false := by decide) : DE X K (.Name x pos) (tC (.int i)) (dC (.int i)) := ⟨pe_gint hg hm hd, sim_c fun _ _ => .int _⟩
theorem de_ty {n : String} (hg : Gl X x) (hm : X.mg x = none) (hv : bootBuiltins x = some (.type n)) (hn : x ≠ "__name__" := by decide) (hd : (x == ("__debug__" : Str)) = false := by decide) : DE X K (.Name x pos) (tC (.ty n)) (dC (.ty n)) :=
  ⟨pe_bltn (v := .ty n) hg hm hv rfl hn hd, sim_c fun _ _ => .ty _⟩
/-! operators of two values -/
abbrev R2D := D → D → (D → Prop) → Prop
def SimR (K : PySem.W.Frag) (r : R2) (r' : R2D) : Prop := ∀ (A : CA) (B : Nat → Option Addr) (M : Mm) (H : Hp) (d e : D) (x y : V) (Q : VK) (Q' : D → Prop), HdB K A B M H d x → HdB K A B M H e y → r' d e Q' →
  (∀ c v, Hd K (Av A B M) H c v → Q' c → Q v H) → r x y H Q
def dOp (r' : R2D) (ta' tb' : TED) : TED := fun ρ M Q => ta' ρ M fun d ρ1 M1 => tb' ρ1 M1 fun e ρ2 M2 => r' d e fun c => Q c ρ2 M2
theorem sim_op {r : R2} {r' : R2D} (s : SimR K r r') (ha : SimB K ta ta') (hb : SimB K tb tb') : SimE K (tOp r ta tb) (dOp r' ta' tb') := fun A B M ρ σ H Q Q' R q k =>
  ha A B M ρ σ H _ _ R q fun d ρ1 M1 B1 v H1 R1 f1 m1 h1 q1 => hb A B1 M1 ρ1 σ H1 _ _ R1 q1 fun e ρ2 M2 B2 u H2 R2 f2 m2 h2 q2 =>
    s A B2 M2 H2 d e v u Q _ (h1.fr f2 m2) h2 q2 fun c w hw q3 => k c ρ2 M2 B2 w H2 R2 (f1.trans f2) (m1.trans m2) hw q3
theorem de_op {op : Operator} {r : R2} {r' : R2D} (o : OpR X (binaryOp op) r ∧ SimR K r r') (ha : DB X K a ta ta') (hb : DB X K b tb tb') : DE X K (.BinOp a op b pos) (tOp r ta tb) (dOp r' ta' tb') := ⟨pe_op o.1 ha.pe hb.pe, sim_op o.2 ha.sim hb.sim⟩
theorem de_cmp {op : CmpOp} {r : R2} {r' : R2D} (o : OpR X (compareOp op) r ∧ SimR K r r') (ha : DB X K a ta ta') (hb : DB X K b tb tb') (hm : behindInMarks op b = false) : DE X K (.Compare a [op] [b] pos) (tOp r ta tb) (dOp r' ta' tb') := ⟨pe_cmpR o.1 ha.pe hb.pe hm, sim_op o.2 ha.sim hb.sim⟩
theorem de_ix {r : R2} {r' : R2D} (o : IxR X r ∧ SimR K r r') (ha : DB X K a ta ta') (hb : DB X K b tb tb') (hs : PlainIx b) : DE X K (.Subscript a b pos) (tOp r ta tb) (dOp r' ta' tb') := ⟨pe_ix o.1 ha.pe hb.pe hs, sim_op o.2 ha.sim hb.sim⟩
/-- the value is a bool -/
def dTest (t' : TED) : TTD := fun ρ M Q => t' ρ M fun d ρ1 M1 => ∃ k, d = .bl k ∧ Q k ρ1 M1
theorem sim_test (h : SimE K t t') : SimT K (tTest t) (dTest t') := fun A B M ρ σ H Q Q' R q k => h A B M ρ σ H _ _ R q fun d ρ1 M1 B1 v H1 R1 f1 m1 h1 q1 => by
  obtain ⟨c, rfl, q1⟩ := q1
  cases h1
  exact ⟨c, rfl, k c ρ1 M1 B1 H1 R1 f1 m1 q1⟩
theorem dt_cmp {op : CmpOp} {r : R2} {r' : R2D} (o : OpR X (compareOp op) r ∧ SimR K r r') (ha : DB X K a ta ta') (hb : DB X K b tb tb') (hm : behindInMarks op b = false) : DT X K (.Compare a [op] [b] pos) (tTest (tOp r ta tb)) (dTest (dOp r' ta' tb')) := ⟨pt_cmpR o.1 ha.pe hb.pe hm, sim_test (sim_op o.2 ha.sim hb.sim)⟩
theorem dt_val (h : DE X K e t t') (he : ∀ whole, isTrue e X.env whole = (do let v ← whole; standAt e.pos; holding [v] (truthy v)) := by intro _; rfl) : DT X K e (tB t) (dTest t') := ⟨pt_val h.pe he, sim_test h.sim⟩
def dChain (r r' : R2D) (ta' tb' tc' : TED) : TED := fun ρ M Q => ta' ρ M fun d ρ1 M1 => tb' ρ1 M1 fun e ρ2 M2 => r d e fun z => ∃ k, z = .bl k ∧ (if k = true then tc' ρ2 M2 fun f ρ3 M3 => r' e f fun c => Q c ρ3 M3 else Q (.bl false) ρ2 M2)
theorem sim_chain {r1 r2 : R2} {r1' r2' : R2D} (s : SimR K r1 r1') (s' : SimR K r2 r2') (ha : SimB K ta ta') (hb : SimB K tb tb') (hc : SimB K tc tc') : SimE K (tChain r1 r2 ta tb tc) (dChain r1' r2' ta' tb' tc') := fun A B M ρ σ H Q Q' R q k =>
  ha A B M ρ σ H _ _ R q fun d ρ1 M1 B1 v H1 R1 f1 m1 h1 q1 => hb A B1 M1 ρ1 σ H1 _ _ R1 q1 fun e ρ2 M2 B2 u H2 R2 f2 m2 h2 q2 =>
    s A B2 M2 H2 d e v u _ _ (h1.fr f2 m2) h2 q2 fun z w hw q3 => by
      obtain ⟨kk, rfl, q3⟩ := q3
      cases hw
      refine ⟨kk, rfl, ?_⟩
      cases kk with
      | false => exact k (.bl false) ρ2 M2 B2 _ H2 R2 (f1.trans f2) (m1.trans m2) (.bl _) q3
      | true => exact hc A B2 M2 ρ2 σ H2 _ _ R2 q3 fun f ρ3 M3 B3 w' H3 R3 f3 m3 h3 q4 => s' A B3 M3 H3 e f u w' Q _ (h2.fr f3 m3) h3 q4 fun c w2 hw2 q5 => k c ρ3 M3 B3 w2 H3 R3 ((f1.trans f2).trans f3) ((m1.trans m2).trans m3) hw2 q5
theorem de_chain {op op' : CmpOp} {r1 r2 : R2} {r1' r2' : R2D} (o : OpR X (compareOp op) r1 ∧ SimR K r1 r1') (o' : OpR X (compareOp op') r2 ∧ SimR K r2 r2') (ha : DB X K a ta ta') (hb : DB X K b tb tb') (hc : DB X K c tc tc')
    (hm : lastMarks [op, op'] [b, c] = false := by with_unfolding_all rfl) : DE X K (.Compare a [op, op'] [b, c] pos) (tChain r1 r2 ta tb tc) (dChain r1' r2' ta' tb' tc') := ⟨pe_chain o.1 o'.1 ha.pe hb.pe hc.pe hm, sim_chain o.2 o'.2 ha.sim hb.sim hc.sim⟩
theorem dt_chain {op op' : CmpOp} {r1 r2 : R2} {r1' r2' : R2D} (o : OpR X (compareOp op) r1 ∧ SimR K r1 r1') (o' : OpR X (compareOp op') r2 ∧ SimR K r2 r2') (ha : DB X K a ta ta') (hb : DB X K b tb tb') (hc : DB X K c tc tc')
    (hm : lastMarks [op, op'] [b, c] = false := by with_unfolding_all rfl) : DT X K (.Compare a [op, op'] [b, c] pos) (tTest (tChain r1 r2 ta tb tc)) (dTest (dChain r1' r2' ta' tb' tc')) := ⟨pt_chain o.1 o'.1 ha.pe hb.pe hc.pe hm, sim_test (sim_chain o.2 o'.2 ha.sim hb.sim hc.sim)⟩
/-! operators of one value -/
abbrev R1D := D → (D → Prop) → Prop
def SimU (K : PySem.W.Frag) (r : V → Hp → VK → Prop) (r' : R1D) : Prop := ∀ (A : CA) (B : Nat → Option Addr) (M : Mm) (H : Hp) (d : D) (x : V) (Q : VK) (Q' : D → Prop), HdB K A B M H d x → r' d Q' →
  (∀ c v, Hd K (Av A B M) H c v → Q' c → Q v H) → r x H Q
def dUn (r' : R1D) (ta' : TED) : TED := fun ρ M Q => ta' ρ M fun d ρ1 M1 => r' d fun c => Q c ρ1 M1
theorem sim_un {r : V → Hp → VK → Prop} {r' : R1D} (s : SimU K r r') (ha : SimB K ta ta') : SimE K (tUn r ta) (dUn r' ta') := fun A B M ρ σ H Q Q' R q k =>
  ha A B M ρ σ H _ _ R q fun d ρ1 M1 B1 v H1 R1 f1 m1 h1 q1 => s A B1 M1 H1 d v Q _ h1 q1 fun c w hw q3 => k c ρ1 M1 B1 w H1 R1 f1 m1 hw q3
theorem de_un {op : UnaryOp} {r : V → Hp → VK → Prop} {r' : R1D} (o : UnR X (unaryOp op) r ∧ SimU K r r') (ha : DB X K a ta ta') : DE X K (.UnaryOp op a pos) (tUn r ta) (dUn r' ta') := ⟨pe_un o.1 ha.pe, sim_un o.2 ha.sim⟩
/-! calls of built-in things by one, two values -/
def SimC (K : PySem.W.Frag) (r : List V → Hp → VK → Prop) (r' : R1D) : Prop := SimU K (fun x H Q => r [x] H Q) r'
theorem sim_call1 {r : List V → Hp → VK → Prop} {r' : R1D} (s : SimC K r r') (ha : SimB K ta ta') : SimE K (tCB r (tCons ta tNil)) (dUn r' ta') := fun A B M ρ σ H Q Q' R q k => sim_un s ha A B M ρ σ H Q Q' R q k
theorem de_call1 {id : String} {r : List V → Hp → VK → Prop} {r' : R1D} (o : CallR X (.builtin id) r ∧ SimC K r r') (hg : Gl X x) (hm : X.mg x = none) (hv : bootBuiltins x = some (.builtin id)) (ha : DB X K e ta ta')
    (hs : starEach [e] X.env = (false, eval e X.env) :: starEach [] X.env := by rfl) (hn : x ≠ "__name__" := by decide) (hdb : (x == ("__debug__" : Str)) = false := by decide) : DE X K (.Call (.Name x p) [e] [] pos) (tCB r (tCons ta tNil)) (dUn r' ta') :=
  ⟨pe_callB o.1 hg hm hv (pa_cons ha.pe pa_nil hs) hn hdb hs rfl, sim_call1 o.2 ha.sim⟩
theorem de_callT1 {T : String} {r : List V → Hp → VK → Prop} {r' : R1D} (o : CallR X (.type T) r ∧ SimC K r r') (hg : Gl X x) (hm : X.mg x = none) (hv : bootBuiltins x = some (.type T)) (ha : DB X K e ta ta')
    (hs : starEach [e] X.env = (false, eval e X.env) :: starEach [] X.env := by rfl) (hn : x ≠ "__name__" := by decide) (hdb : (x == ("__debug__" : Str)) = false := by decide) : DE X K (.Call (.Name x p) [e] [] pos) (tCB r (tCons ta tNil)) (dUn r' ta') :=
  ⟨pe_callTy o.1 hg hm hv (pa_cons ha.pe pa_nil hs) hn hdb hs rfl, sim_call1 o.2 ha.sim⟩
def SimC2 (K : PySem.W.Frag) (r : List V → Hp → VK → Prop) (r' : R2D) : Prop := SimR K (fun x y H Q => r [x, y] H Q) r'
theorem sim_call2 {r : List V → Hp → VK → Prop} {r' : R2D} (s : SimC2 K r r') (ha : SimB K ta ta') (hb : SimB K tb tb') : SimE K (tCB r (tCons ta (tCons tb tNil))) (dOp r' ta' tb') := fun A B M ρ σ H Q Q' R q k => sim_op s ha hb A B M ρ σ H Q Q' R q k
theorem de_call2 {id : String} {r : List V → Hp → VK → Prop} {r' : R2D} (o : CallR X (.builtin id) r ∧ SimC2 K r r') (hg : Gl X x) (hm : X.mg x = none) (hv : bootBuiltins x = some (.builtin id)) (ha : DB X K a ta ta') (hb : DB X K b tb tb')
    (hs : starEach [a, b] X.env = (false, eval a X.env) :: starEach [b] X.env := by rfl) (hs2 : starEach [b] X.env = (false, eval b X.env) :: starEach [] X.env := by rfl) (hpl : (backTo pos (starEach [b] X.env)).any (·.1) = false := by rfl)
    (hn : x ≠ "__name__" := by decide) (hdb : (x == ("__debug__" : Str)) = false := by decide) : DE X K (.Call (.Name x p) [a, b] [] pos) (tCB r (tCons ta (tCons tb tNil))) (dOp r' ta' tb') :=
  ⟨pe_callB o.1 hg hm hv (pa_cons ha.pe (pa_cons hb.pe pa_nil hs2) hs) hn hdb hs hpl, sim_call2 o.2 ha.sim hb.sim⟩
/-! and, or, not, if -/
variable {tA tB' : TT} {dA dB' : TTD} {rest : List Expr}
def dAnd (t u : TTD) : TTD := fun ρ M Q => t ρ M fun c ρ1 M1 => if c = true then u ρ1 M1 Q else Q false ρ1 M1
def dOr (t u : TTD) : TTD := fun ρ M Q => t ρ M fun c ρ1 M1 => if c = true then Q true ρ1 M1 else u ρ1 M1 Q
def dNot (t : TTD) : TTD := fun ρ M Q => t ρ M fun c ρ1 M1 => Q (!c) ρ1 M1
theorem sim_and (h : SimT K tA dA) (h2 : SimT K tB' dB') : SimT K (tAnd tA tB') (dAnd dA dB') := fun A B M ρ σ H Q Q' R q k => h A B M ρ σ H _ _ R q fun c ρ1 M1 B1 H1 R1 f1 m1 q1 => by
  cases c with
  | true => exact h2 A B1 M1 ρ1 σ H1 _ _ R1 q1 fun c ρ2 M2 B2 H2 R2 f2 m2 q2 => k c ρ2 M2 B2 H2 R2 (f1.trans f2) (m1.trans m2) q2
  | false => exact k false ρ1 M1 B1 H1 R1 f1 m1 q1
theorem sim_or (h : SimT K tA dA) (h2 : SimT K tB' dB') : SimT K (tOr tA tB') (dOr dA dB') := fun A B M ρ σ H Q Q' R q k => h A B M ρ σ H _ _ R q fun c ρ1 M1 B1 H1 R1 f1 m1 q1 => by
  cases c with
  | false => exact h2 A B1 M1 ρ1 σ H1 _ _ R1 q1 fun c ρ2 M2 B2 H2 R2 f2 m2 q2 => k c ρ2 M2 B2 H2 R2 (f1.trans f2) (m1.trans m2) q2
  | true => exact k true ρ1 M1 B1 H1 R1 f1 m1 q1
theorem sim_not (h : SimT K tA dA) : SimT K (tNot tA) (dNot dA) := fun A B M ρ σ H Q Q' R q k => h A B M ρ σ H _ _ R q fun c ρ1 M1 B1 H1 R1 f1 m1 q1 => k (!c) ρ1 M1 B1 H1 R1 f1 m1 q1
theorem dw_and1 (h : DT X K a tA dA) : DW X K (.BoolOp .And [a] pos) tA dA := ⟨pw_and1 h.pt, h.sim⟩
theorem dw_or1 (h : DT X K a tA dA) : DW X K (.BoolOp .Or [a] pos) tA dA := ⟨pw_or1 h.pt, h.sim⟩
theorem dw_and (h : DT X K a tA dA) (h2 : DW X K (.BoolOp .And (b :: rest) pos) tB' dB') : DW X K (.BoolOp .And (a :: b :: rest) pos) (tAnd tA tB') (dAnd dA dB') := ⟨pw_and h.pt h2.pw, sim_and h.sim h2.sim⟩
theorem dw_or (h : DT X K a tA dA) (h2 : DW X K (.BoolOp .Or (b :: rest) pos) tB' dB') : DW X K (.BoolOp .Or (a :: b :: rest) pos) (tOr tA tB') (dOr dA dB') := ⟨pw_or h.pt h2.pw, sim_or h.sim h2.sim⟩
theorem dt_w (h : DW X K a tA dA) : DT X K a tA dA := ⟨h.pw.pt, h.sim⟩
theorem dt_not (h : DT X K a tA dA) : DT X K (.UnaryOp .Not a pos) (tNot tA) (dNot dA) := ⟨pt_not h.pt, sim_not h.sim⟩
def dAndV (ta' tb' : TED) : TED := fun ρ M Q => ta' ρ M fun d ρ1 M1 => ∃ c, d = .bl c ∧ if c = true then tb' ρ1 M1 Q else Q (.bl false) ρ1 M1
def dOrV (ta' tb' : TED) : TED := fun ρ M Q => ta' ρ M fun d ρ1 M1 => ∃ c, d = .bl c ∧ if c = true then Q (.bl true) ρ1 M1 else tb' ρ1 M1 Q
def dNotV (ta' : TED) : TED := fun ρ M Q => ta' ρ M fun d ρ1 M1 => ∃ c, d = .bl c ∧ Q (.bl (!c)) ρ1 M1
theorem sim_andV (ha : SimE K ta ta') (hb : SimE K tb tb') : SimE K (tAndV ta tb) (dAndV ta' tb') := fun A B M ρ σ H Q Q' R q k => ha A B M ρ σ H _ _ R q fun d ρ1 M1 B1 v H1 R1 f1 m1 h1 q1 => by
  obtain ⟨c, rfl, q1⟩ := q1
  cases h1
  refine ⟨c, rfl, ?_⟩
  cases c with
  | true => exact hb A B1 M1 ρ1 σ H1 _ _ R1 q1 fun d ρ2 M2 B2 v H2 R2 f2 m2 h2 q2 => k d ρ2 M2 B2 v H2 R2 (f1.trans f2) (m1.trans m2) h2 q2
  | false => exact k _ ρ1 M1 B1 _ H1 R1 f1 m1 (.bl _) q1
theorem sim_orV (ha : SimE K ta ta') (hb : SimE K tb tb') : SimE K (tOrV ta tb) (dOrV ta' tb') := fun A B M ρ σ H Q Q' R q k => ha A B M ρ σ H _ _ R q fun d ρ1 M1 B1 v H1 R1 f1 m1 h1 q1 => by
  obtain ⟨c, rfl, q1⟩ := q1
  cases h1
  refine ⟨c, rfl, ?_⟩
  cases c with
  | false => exact hb A B1 M1 ρ1 σ H1 _ _ R1 q1 fun d ρ2 M2 B2 v H2 R2 f2 m2 h2 q2 => k d ρ2 M2 B2 v H2 R2 (f1.trans f2) (m1.trans m2) h2 q2
  | true => exact k _ ρ1 M1 B1 _ H1 R1 f1 m1 (.bl _) q1
theorem sim_notV (ha : SimE K ta ta') : SimE K (tNotV ta) (dNotV ta') := fun A B M ρ σ H Q Q' R q k => ha A B M ρ σ H _ _ R q fun d ρ1 M1 B1 v H1 R1 f1 m1 h1 q1 => by
  obtain ⟨c, rfl, q1⟩ := q1
  cases h1
  exact ⟨c, rfl, k _ ρ1 M1 B1 _ H1 R1 f1 m1 (.bl _) q1⟩
theorem de_one {op} (h : DE X K a ta ta') : DE X K (.BoolOp op [a] pos) ta ta' := ⟨pe_one h.pe, h.sim⟩
theorem de_and (ha : DE X K a ta ta') (hb : DE X K (.BoolOp .And (b :: rest) pos) tb tb') : DE X K (.BoolOp .And (a :: b :: rest) pos) (tAndV ta tb) (dAndV ta' tb') := ⟨pe_and ha.pe hb.pe, sim_andV ha.sim hb.sim⟩
theorem de_or (ha : DE X K a ta ta') (hb : DE X K (.BoolOp .Or (b :: rest) pos) tb tb') : DE X K (.BoolOp .Or (a :: b :: rest) pos) (tOrV ta tb) (dOrV ta' tb') := ⟨pe_or ha.pe hb.pe, sim_orV ha.sim hb.sim⟩
theorem de_not (ha : DE X K a ta ta') : DE X K (.UnaryOp .Not a pos) (tNotV ta) (dNotV ta') := ⟨pe_not ha.pe, sim_notV ha.sim⟩
def dIf (t : TTD) (ta' tb' : TED) : TED := fun ρ M Q => t ρ M fun c ρ1 M1 => if c = true then ta' ρ1 M1 Q else tb' ρ1 M1 Q
theorem sim_if (h : SimT K tA dA) (ha : SimE K ta ta') (hb : SimE K tb tb') : SimE K (tIf tA ta tb) (dIf dA ta' tb') := fun A B M ρ σ H Q Q' R q k => h A B M ρ σ H _ _ R q fun c ρ1 M1 B1 H1 R1 f1 m1 q1 => by
  cases c with
  | true => exact ha A B1 M1 ρ1 σ H1 _ _ R1 q1 fun d ρ2 M2 B2 v H2 R2 f2 m2 h2 q2 => k d ρ2 M2 B2 v H2 R2 (f1.trans f2) (m1.trans m2) h2 q2
  | false => exact hb A B1 M1 ρ1 σ H1 _ _ R1 q1 fun d ρ2 M2 B2 v H2 R2 f2 m2 h2 q2 => k d ρ2 M2 B2 v H2 R2 (f1.trans f2) (m1.trans m2) h2 q2
theorem de_ifExp (h : DT X K c tA dA) (ha : DE X K a ta ta') (hb : DE X K b tb tb') : DE X K (.IfExp c a b pos) (tIf tA ta tb) (dIf dA ta' tb') := ⟨pe_ifExp h.pt ha.pe hb.pe, sim_if h.sim ha.sim hb.sim⟩
/-! arguments, displays -/
variable {tr : TA} {tr' : TAD}
def dNil : TAD := fun ρ M Q => Q [] ρ M
def dCons (ta' : TED) (tr' : TAD) : TAD := fun ρ M Q => ta' ρ M fun d ρ1 M1 => tr' ρ1 M1 fun ds ρ2 M2 => Q (d :: ds) ρ2 M2
theorem da_nil : DA X K [] tNil dNil := ⟨pa_nil, fun A B M ρ σ H Q Q' R q k => k [] ρ M B [] H R .refl .refl .nil q⟩
theorem da_cons (ha : DE X K e ta ta') (hr : DA X K es tr tr') (hs : starEach (e :: es) X.env = (false, eval e X.env) :: starEach es X.env := by rfl) : DA X K (e :: es) (tCons ta tr) (dCons ta' tr') :=
  ⟨pa_cons ha.pe hr.pa hs, fun A B M ρ σ H Q Q' R q k => ha.sim A B M ρ σ H _ _ R q fun d ρ1 M1 B1 v H1 R1 f1 m1 h1 q1 => hr.sim A B1 M1 ρ1 σ H1 _ _ R1 q1 fun ds ρ2 M2 B2 vs H2 R2 f2 m2 h2 q2 =>
    k (d :: ds) ρ2 M2 B2 (v :: vs) H2 R2 (f1.trans f2) (m1.trans m2) (.cons (h1.fr f2) h2) q2⟩
def dTup (tr' : TAD) : TED := fun ρ M Q => tr' ρ M fun ds ρ1 M1 => ds.length ≤ sizeLine ∧ Q (.tup ds) ρ1 M1
theorem sim_tup (h : SimA K tr tr') : SimE K (tTup tr) (dTup tr') := fun A B M ρ σ H Q Q' R q k => h A B M ρ σ H _ _ R q fun ds ρ1 M1 B1 vs H1 R1 f1 m1 h1 q1 => by
  refine ⟨by rw [← h1.length]; exact q1.1, fun p hp => ?_⟩
  obtain ⟨R2, f2, m2, np, _⟩ := R1.new (o := .tup vs) hp
  exact k (.tup ds) ρ1 M1 B1 _ _ R2 (f1.trans f2) (m1.trans m2) (.tup np upd_same (h1.fr f2)) q1.2
theorem de_tup {k} (h : DA X K es tr tr') : DE X K (.Tuple es k pos) (tTup tr) (dTup tr') := ⟨pe_tup h.pa, sim_tup h.sim⟩
def dLst (tr' : TAD) : TEN := fun ρ M Q => tr' ρ M fun ds ρ1 M1 => ds.length ≤ sizeLine ∧ Q ds ρ1 M1
theorem sim_lst (h : SimA K tr tr') : SimN K (tLst tr) (dLst tr') := fun A B M ρ σ H Q Q' R q k => h A B M ρ σ H _ _ R q fun ds ρ1 M1 B1 vs H1 R1 f1 m1 h1 q1 => by
  refine ⟨by rw [← h1.length]; exact q1.1, fun p hp => ?_⟩
  obtain ⟨B2, R2, f2, m2, hb, h2⟩ := R1.newOwn hp h1
  exact k ds ρ1 M1 B2 p vs _ R2 (f1.trans f2) (m1.trans m2) hb upd_same h2 q1.2
theorem dn_lst (h : DA X K es tr tr') : DN X K (.List es pos) (tLst tr) (dLst tr') := ⟨pe_lst h.pa, sim_lst h.sim⟩
/-! what makes a new list of two values: list + list, list * number -/
abbrev R2N := D → D → (List D → Prop) → Prop
def SimRN (K : PySem.W.Frag) (r : R2) (r' : R2N) : Prop := ∀ (A : CA) (B : Nat → Option Addr) (M : Mm) (H : Hp) (d e : D) (x y : V) (Q : VK) (Q' : List D → Prop), HdB K A B M H d x → HdB K A B M H e y → r' d e Q' →
  (∀ ds vs p, HdL K (Av A B M) H ds vs → H p = none → Q' ds → Q (.ref p) (upd H p (.lst vs))) → r x y H Q
def dOpN (r' : R2N) (ta' tb' : TED) : TEN := fun ρ M Q => ta' ρ M fun d ρ1 M1 => tb' ρ1 M1 fun e ρ2 M2 => r' d e fun c => Q c ρ2 M2
theorem sim_opN {r : R2} {r' : R2N} (s : SimRN K r r') (ha : SimB K ta ta') (hb : SimB K tb tb') : SimN K (tOp r ta tb) (dOpN r' ta' tb') := fun A B M ρ σ H Q Q' R q k =>
  ha A B M ρ σ H _ _ R q fun d ρ1 M1 B1 v H1 R1 f1 m1 h1 q1 => hb A B1 M1 ρ1 σ H1 _ _ R1 q1 fun e ρ2 M2 B2 u H2 R2 f2 m2 h2 q2 =>
    s A B2 M2 H2 d e v u Q _ (h1.fr f2 m2) h2 q2 fun ds vs p hl hp q3 => by
      obtain ⟨B3, R3, f3, m3, hb3, h3⟩ := R2.newOwn hp hl
      exact k ds ρ2 M2 B3 p vs _ R3 ((f1.trans f2).trans f3) ((m1.trans m2).trans m3) hb3 upd_same h3 q3
theorem dn_op {op : Operator} {r : R2} {r' : R2N} (o : OpR X (binaryOp op) r ∧ SimRN K r r') (ha : DB X K a ta ta') (hb : DB X K b tb tb') : DN X K (.BinOp a op b pos) (tOp r ta tb) (dOpN r' ta' tb') := ⟨pe_op o.1 ha.pe hb.pe, sim_opN o.2 ha.sim hb.sim⟩
abbrev R1N := D → (List D → Prop) → Prop
def SimUN (K : PySem.W.Frag) (r : List V → Hp → VK → Prop) (r' : R1N) : Prop := ∀ (A : CA) (B : Nat → Option Addr) (M : Mm) (H : Hp) (d : D) (x : V) (Q : VK) (Q' : List D → Prop), HdB K A B M H d x → r' d Q' →
  (∀ ds vs p, HdL K (Av A B M) H ds vs → H p = none → Q' ds → Q (.ref p) (upd H p (.lst vs))) → r [x] H Q
def dUnN (r' : R1N) (ta' : TED) : TEN := fun ρ M Q => ta' ρ M fun d ρ1 M1 => r' d fun c => Q c ρ1 M1
theorem sim_unN {r : List V → Hp → VK → Prop} {r' : R1N} (s : SimUN K r r') (ha : SimB K ta ta') : SimN K (tCB r (tCons ta tNil)) (dUnN r' ta') := fun A B M ρ σ H Q Q' R q k =>
  ha A B M ρ σ H _ _ R q fun d ρ1 M1 B1 v H1 R1 f1 m1 h1 q1 => s A B1 M1 H1 d v Q _ h1 q1 fun ds vs p hl hp q3 => by
      obtain ⟨B3, R3, f3, m3, hb3, h3⟩ := R1.newOwn hp hl
      exact k ds ρ1 M1 B3 p vs _ R3 (f1.trans f3) (m1.trans m3) hb3 upd_same h3 q3
theorem dn_call1 {id : String} {r : List V → Hp → VK → Prop} {r' : R1N} (o : CallR X (.builtin id) r ∧ SimUN K r r') (hg : Gl X x) (hm : X.mg x = none) (hv : bootBuiltins x = some (.builtin id)) (ha : DB X K e ta ta')
    (hs : starEach [e] X.env = (false, eval e X.env) :: starEach [] X.env := by rfl) (hn : x ≠ "__name__" := by decide) (hdb : (x == ("__debug__" : Str)) = false := by decide) : DN X K (.Call (.Name x p) [e] [] pos) (tCB r (tCons ta tNil)) (dUnN r' ta') :=
  ⟨pe_callB o.1 hg hm hv (pa_cons ha.pe pa_nil hs) hn hdb hs rfl, sim_unN o.2 ha.sim⟩
theorem dn_callT1 {T : String} {r : List V → Hp → VK → Prop} {r' : R1N} (o : CallR X (.type T) r ∧ SimUN K r r') (hg : Gl X x) (hm : X.mg x = none) (hv : bootBuiltins x = some (.type T)) (ha : DB X K e ta ta')
    (hs : starEach [e] X.env = (false, eval e X.env) :: starEach [] X.env := by rfl) (hn : x ≠ "__name__" := by decide) (hdb : (x == ("__debug__" : Str)) = false := by decide) : DN X K (.Call (.Name x p) [e] [] pos) (tCB r (tCons ta tNil)) (dUnN r' ta') :=
  ⟨pe_callTy o.1 hg hm hv (pa_cons ha.pe pa_nil hs) hn hdb hs rfl, sim_unN o.2 ha.sim⟩
end
end DM

namespace DM
open PySem PySem.Spec PyProof.Rows L2 TK
variable [Gd]
section
variable {X : Cx} {K : PySem.W.Frag} {A : CA} {B : Nat → Option Addr} {M : Mm} {H : Hp}
theorem HdB.cases' {d : D} {v : V} (h : HdB K A B M H d v) (hd : ∀ ds, d ≠ .lst ds) : Hd K (Av A B M) H d v := h.elim id fun ⟨ds, _, _, e, _⟩ => absurd e (hd ds)
theorem HdB.int {i : Int} {v : V} (h : HdB K A B M H (.int i) v) : v = .int i := by cases h.cases' (fun _ e => nomatch e); rfl
theorem HdB.bl {i : Bool} {v : V} (h : HdB K A B M H (.bl i) v) : v = .bl i := by cases h.cases' (fun _ e => nomatch e); rfl
theorem HdB.str {i : Str} {v : V} (h : HdB K A B M H (.str i) v) : v = .str i := by cases h.cases' (fun _ e => nomatch e); rfl
theorem HdB.non {v : V} (h : HdB K A B M H .non v) : v = .non := by cases h.cases' (fun _ e => nomatch e); rfl
theorem HdB.ty {n : String} {v : V} (h : HdB K A B M H (.ty n) v) : v = .ty n := by cases h.cases' (fun _ e => nomatch e); rfl
/-- a list's items -/
def D.lq : D → Option (List D)
  | .lst ds => some ds
  | .kl ds => some ds
  | _ => none
theorem HdB.list {d : D} {ds : List D} {v : V} (h : HdB K A B M H d v) (e : d.lq = some ds) : ∃ a vs, v = .ref a ∧ SqL K H a vs ∧ HdL K (Av A B M) H ds vs := by
  rcases h with h | ⟨es, a, vs, e1, e2, e3, e4, e5⟩
  · cases h with
    | @lst a vs _ n h l => cases e; exact ⟨a, vs, rfl, SqL.of h, l⟩
    | @kl a vs _ s l => cases e; exact ⟨a, vs, rfl, s.sq, l⟩
    | _ => cases e
  · subst e1
    cases e
    exact ⟨a, vs, e2, SqL.of e4, e5⟩
theorem HdB.lst {ds : List D} {v : V} (h : HdB K A B M H (.lst ds) v) : ∃ a vs, v = .ref a ∧ H a = some (.lst vs) ∧ HdL K (Av A B M) H ds vs := by
  rcases h with h | ⟨es, a, vs, e1, e2, e3, e4, e5⟩
  · cases h with
    | @lst a vs _ n h l => exact ⟨a, vs, rfl, h, l⟩
  · cases e1
    exact ⟨a, vs, e2, e4, e5⟩
def D.tq : D → Option (List D)
  | .tup ds => some ds
  | .kt ds => some ds
  | _ => none
theorem Hd.tq {d : D} {ds : List D} {v : V} (h : Hd K (Av A B M) H d v) (e : d.tq = some ds) : ∃ a vs, v = .ref a ∧ SqT K H a vs ∧ HdL K (Av A B M) H ds vs := by
  cases h with
  | @tup a vs _ n s l => cases e; exact ⟨a, vs, rfl, SqT.of s, l⟩
  | @kt a vs _ s l => cases e; exact ⟨a, vs, rfl, s.sq, l⟩
  | _ => cases e
theorem HdB.tup {d : D} {ds : List D} {v : V} (h : HdB K A B M H d v) (e : d.tq = some ds) : ∃ a vs, v = .ref a ∧ SqT K H a vs ∧ HdL K (Av A B M) H ds vs :=
  (h.cases' (fun _ z => by subst z; cases e)).tq e
/-! numbers -/
def dI (C : Int → Int → Prop) (g : Int → Int → D) : R2D := fun d e Q => ∃ i j, d = .int i ∧ e = .int j ∧ C i j ∧ Q (g i j)
def dI0 (g : Int → Int → D) : R2D := fun d e Q => ∃ i j, d = .int i ∧ e = .int j ∧ Q (g i j)
theorem sim_rI {C : Int → Int → Prop} {g : Int → Int → V} {g' : Int → Int → D} (h : ∀ i j (Av : Addr → Prop) (H : Hp), Hd K Av H (g' i j) (g i j)) : SimR K (rI C g) (dI C g') := fun A B M H d e x y Q Q' hx hy q k => by
  obtain ⟨i, j, rfl, rfl, c, q⟩ := q
  exact ⟨i, j, hx.int, hy.int, c, k _ _ (h _ _ _ _) q⟩
theorem sim_rI0 {g : Int → Int → V} {g' : Int → Int → D} (h : ∀ i j (Av : Addr → Prop) (H : Hp), Hd K Av H (g' i j) (g i j)) : SimR K (rI0 g) (dI0 g') := fun A B M H d e x y Q Q' hx hy q k => by
  obtain ⟨i, j, rfl, rfl, q⟩ := q
  exact ⟨i, j, hx.int, hy.int, k _ _ (h _ _ _ _) q⟩
theorem o_add : OpR X (binaryOp .Add) (rI0 fun i j => .int (i + j)) ∧ SimR K (rI0 fun i j => .int (i + j)) (dI0 fun i j => .int (i + j)) := ⟨op_add, sim_rI0 fun _ _ _ _ => .int _⟩
theorem o_sub : OpR X (binaryOp .Sub) (rI0 fun i j => .int (i - j)) ∧ SimR K (rI0 fun i j => .int (i - j)) (dI0 fun i j => .int (i - j)) := ⟨op_sub, sim_rI0 fun _ _ _ _ => .int _⟩
theorem o_mul : OpR X (binaryOp .Mult) (rI CMulE fun i j => .int (i * j)) ∧ SimR K (rI CMulE fun i j => .int (i * j)) (dI CMulE fun i j => .int (i * j)) := ⟨op_mulE, sim_rI fun _ _ _ _ => .int _⟩
theorem o_mod : OpR X (binaryOp .Mod) (rI (fun _ j => 0 < j) fun i j => .int (i % j)) ∧ SimR K (rI (fun _ j => 0 < j) fun i j => .int (i % j)) (dI (fun _ j => 0 < j) fun i j => .int (i % j)) := ⟨op_mod, sim_rI fun _ _ _ _ => .int _⟩
theorem o_fdiv : OpR X (binaryOp .FloorDiv) (rI CDivW fun i j => .int (i / j)) ∧ SimR K (rI CDivW fun i j => .int (i / j)) (dI CDivW fun i j => .int (i / j)) := ⟨op_fdivW, sim_rI fun _ _ _ _ => .int _⟩
theorem o_shr : OpR X (binaryOp .RShift) (rI (fun _ j => 0 ≤ j) fun i j => .int (i / 2 ^ j.toNat)) ∧ SimR K (rI (fun _ j => 0 ≤ j) fun i j => .int (i / 2 ^ j.toNat)) (dI (fun _ j => 0 ≤ j) fun i j => .int (i / 2 ^ j.toNat)) := ⟨op_shr, sim_rI fun _ _ _ _ => .int _⟩
def dPow : R2D := fun d e Q => ∃ i j, d = .int i ∧ e = .int j ∧ CPow i j ∧ ∃ r, IsR (i ^ j.toNat) r ∧ Q (.int r)
theorem o_pow : OpR X (binaryOp .Pow) (fun x y H Q => ∃ i j, x = .int i ∧ y = .int j ∧ CPow i j ∧ ∃ r, IsR (i ^ j.toNat) r ∧ Q (.int r) H) ∧ SimR K (fun x y H Q => ∃ i j, x = .int i ∧ y = .int j ∧ CPow i j ∧ ∃ r, IsR (i ^ j.toNat) r ∧ Q (.int r) H) dPow :=
  ⟨op_powE, fun A B M H d e x y Q Q' hx hy q k => by
    obtain ⟨i, j, rfl, rfl, c, r, er, q⟩ := q
    exact ⟨i, j, hx.int, hy.int, c, r, er, k _ _ (.int _) q⟩⟩
def dShl : R2D := fun d e Q => ∃ i j, d = .int i ∧ e = .int j ∧ CShl i j ∧ ∃ r, IsR (i * 2 ^ j.toNat) r ∧ Q (.int r)
theorem o_shl : OpR X (binaryOp .LShift) (fun x y H Q => ∃ i j, x = .int i ∧ y = .int j ∧ CShl i j ∧ ∃ r, IsR (i * 2 ^ j.toNat) r ∧ Q (.int r) H) ∧ SimR K (fun x y H Q => ∃ i j, x = .int i ∧ y = .int j ∧ CShl i j ∧ ∃ r, IsR (i * 2 ^ j.toNat) r ∧ Q (.int r) H) dShl :=
  ⟨op_shlE, fun A B M H d e x y Q Q' hx hy q k => by
    obtain ⟨i, j, rfl, rfl, c, r, er, q⟩ := q
    exact ⟨i, j, hx.int, hy.int, c, r, er, k _ _ (.int _) q⟩⟩
def dNeg : R1D := fun d Q => ∃ i, d = .int i ∧ Q (.int (-i))
theorem o_neg : UnR X (unaryOp .USub) (rU fun i => .int (-i)) ∧ SimU K (rU fun i => .int (-i)) dNeg := ⟨un_neg, fun A B M H d x Q Q' hx q k => by
  obtain ⟨i, rfl, q⟩ := q
  exact ⟨i, hx.int, k _ _ (.int _) q⟩⟩
theorem o_lt : OpR X (compareOp .Lt) (rI0 fun i j => .bl (decide (i < j))) ∧ SimR K (rI0 fun i j => .bl (decide (i < j))) (dI0 fun i j => .bl (decide (i < j))) := ⟨op_lt, sim_rI0 fun _ _ _ _ => .bl _⟩
theorem o_le : OpR X (compareOp .LtE) (rI0 fun i j => .bl (decide (i ≤ j))) ∧ SimR K (rI0 fun i j => .bl (decide (i ≤ j))) (dI0 fun i j => .bl (decide (i ≤ j))) := ⟨op_le, sim_rI0 fun _ _ _ _ => .bl _⟩
theorem o_gt : OpR X (compareOp .Gt) (rI0 fun i j => .bl (decide (i > j))) ∧ SimR K (rI0 fun i j => .bl (decide (i > j))) (dI0 fun i j => .bl (decide (i > j))) := ⟨op_gt, sim_rI0 fun _ _ _ _ => .bl _⟩
theorem o_ge : OpR X (compareOp .GtE) (rI0 fun i j => .bl (decide (i ≥ j))) ∧ SimR K (rI0 fun i j => .bl (decide (i ≥ j))) (dI0 fun i j => .bl (decide (i ≥ j))) := ⟨op_ge, sim_rI0 fun _ _ _ _ => .bl _⟩
/-- == of numbers -/
def dEqI : R2D := dI0 fun i j => .bl (decide (i = j))
def dNeI : R2D := dI0 fun i j => .bl (!decide (i = j))
theorem dec_int (i j : Int) : decide (V.int i = V.int j) = decide (i = j) := by
  by_cases h : i = j
  · rw [decide_eq_true h, decide_eq_true (by rw [h])]
  · rw [decide_eq_false h, decide_eq_false (fun e => h (V.int.inj e))]
theorem o_eqI : OpR X (compareOp .Eq) rEq ∧ SimR K rEq dEqI := ⟨op_eq, fun A B M H d e x y Q Q' hx hy q k => by
  obtain ⟨i, j, rfl, rfl, q⟩ := q
  rw [hx.int, hy.int]
  exact ⟨rfl, by rw [dec_int]; exact k _ _ (.bl _) q⟩⟩
theorem o_neI : OpR X (compareOp .NotEq) rNe ∧ SimR K rNe dNeI := ⟨op_ne, fun A B M H d e x y Q Q' hx hy q k => by
  obtain ⟨i, j, rfl, rfl, q⟩ := q
  rw [hx.int, hy.int]
  exact ⟨rfl, by rw [dec_int]; exact k _ _ (.bl _) q⟩⟩
def dEqS : R2D := fun d e Q => ∃ i j, d = .str i ∧ e = .str j ∧ Q (.bl (decide (i = j)))
def dNeS : R2D := fun d e Q => ∃ i j, d = .str i ∧ e = .str j ∧ Q (.bl (!decide (i = j)))
theorem dec_str (i j : Str) : decide (V.str i = V.str j) = decide (i = j) := by
  by_cases h : i = j
  · rw [decide_eq_true h, decide_eq_true (by rw [h])]
  · rw [decide_eq_false h, decide_eq_false (fun e => h (V.str.inj e))]
theorem o_eqS : OpR X (compareOp .Eq) rEq ∧ SimR K rEq dEqS := ⟨op_eq, fun A B M H d e x y Q Q' hx hy q k => by
  obtain ⟨i, j, rfl, rfl, q⟩ := q
  rw [hx.str, hy.str]
  exact ⟨rfl, by rw [dec_str]; exact k _ _ (.bl _) q⟩⟩
theorem o_neS : OpR X (compareOp .NotEq) rNe ∧ SimR K rNe dNeS := ⟨op_ne, fun A B M H d e x y Q Q' hx hy q k => by
  obtain ⟨i, j, rfl, rfl, q⟩ := q
  rw [hx.str, hy.str]
  exact ⟨rfl, by rw [dec_str]; exact k _ _ (.bl _) q⟩⟩
/-! is None -/
def D.isN : D → Bool
  | .non => true
  | _ => false
theorem HdB.isN {d : D} {v : V} (h : HdB K A B M H d v) : decide (v = .non) = d.isN := by
  rcases h with h | ⟨es, a, vs, e1, e2, e3, e4, e5⟩
  · cases h <;> first | rfl | exact decide_eq_false (fun e => nomatch e)
  · subst e1 e2
    exact decide_eq_false (fun e => nomatch e)
def dIsN : R2D := fun d e Q => e = .non ∧ Q (.bl d.isN)
def dNotN : R2D := fun d e Q => e = .non ∧ Q (.bl (!d.isN))
theorem o_isN : OpR X (compareOp .Is) (fun x y H Q => y = .non ∧ Q (.bl (decide (x = .non))) H) ∧ SimR K (fun x y H Q => y = .non ∧ Q (.bl (decide (x = .non))) H) dIsN := ⟨op_isN, fun A B M H d e x y Q Q' hx hy q k => by
  obtain ⟨rfl, q⟩ := q
  exact ⟨hy.non, by rw [hx.isN]; exact k _ _ (.bl _) q⟩⟩
theorem o_notN : OpR X (compareOp .IsNot) (fun x y H Q => y = .non ∧ Q (.bl (!decide (x = .non))) H) ∧ SimR K (fun x y H Q => y = .non ∧ Q (.bl (!decide (x = .non))) H) dNotN := ⟨op_notN, fun A B M H d e x y Q Q' hx hy q k => by
  obtain ⟨rfl, q⟩ := q
  exact ⟨hy.non, by rw [hx.isN]; exact k _ _ (.bl _) q⟩⟩
/-! == of data -/
mutual
def D.pd : D → PyData
  | .bl b => .bool b
  | .int i => .int i
  | .str x => .str x
  | .tup ds => .tuple (D.pdL ds)
  | .lst ds => .list (D.pdL ds)
  | .kl ds => .list (D.pdL ds)
  | .kt ds => .tuple (D.pdL ds)
  | .non => .none
  | .ty _ => .none
  | .ref _ => .none
  | .dK _ _ => .none
  | .fK _ _ => .none
def D.pdL : List D → List PyData
  | [] => []
  | d :: ds => D.pd d :: D.pdL ds
end
mutual
/-- of a depth of at most n, without what is not compared -/
def okN : Nat → D → Prop
  | _, .non => True
  | _, .bl _ => True
  | _, .int _ => True
  | _, .str x => PyData.strOk x = true
  | n + 1, .tup ds => okL n ds
  | n + 1, .lst ds => okL n ds
  | n + 1, .kl ds => okL n ds
  | n + 1, .kt ds => okL n ds
  | _, _ => False
def okL : Nat → List D → Prop
  | _, [] => True
  | n, d :: ds => okN n d ∧ okL n ds
end
theorem okL_of {n : Nat} : ∀ {ds : List D}, (∀ d ∈ ds, okN n d) → okL n ds
  | [], _ => by unfold okL; trivial
  | d :: ds, h => by unfold okL; exact ⟨h d List.mem_cons_self, okL_of fun e he => h e (List.mem_cons_of_mem _ he)⟩
theorem okL_mem {n : Nat} : ∀ {ds : List D}, okL n ds → ∀ d ∈ ds, okN n d
  | [], _, _, h => by cases h
  | d :: ds, h, e, he => by
    unfold okL at h
    rcases List.mem_cons.mp he with r | r
    · subst r; exact h.1
    · exact okL_mem h.2 e r
mutual
theorem ok_lay : ∀ (n : Nat) (d : D), okN n d → d.pd.canLay0 = true ∧ d.pd.depth ≤ n
  | n, .non, _ => by unfold D.pd; exact ⟨by rw [PyData.canLay0], by rw [PyData.depth]; omega⟩
  | n, .bl _, _ => by unfold D.pd; exact ⟨by rw [PyData.canLay0], by rw [PyData.depth]; omega⟩
  | n, .int _, _ => by unfold D.pd; exact ⟨by rw [PyData.canLay0], by rw [PyData.depth]; omega⟩
  | n, .str x, h => by unfold D.pd; unfold okN at h; exact ⟨by rw [PyData.canLay0]; exact h, by rw [PyData.depth]; omega⟩
  | n + 1, .tup ds, h => by
    unfold D.pd
    unfold okN at h
    have := okL_lay n ds h
    exact ⟨by rw [PyData.canLay0]; exact this.1, by rw [PyData.depth]; omega⟩
  | n + 1, .lst ds, h => by
    unfold D.pd
    unfold okN at h
    have := okL_lay n ds h
    exact ⟨by rw [PyData.canLay0]; exact this.1, by rw [PyData.depth]; omega⟩
  | n + 1, .kl ds, h => by
    unfold D.pd
    unfold okN at h
    have := okL_lay n ds h
    exact ⟨by rw [PyData.canLay0]; exact this.1, by rw [PyData.depth]; omega⟩
  | n + 1, .kt ds, h => by
    unfold D.pd
    unfold okN at h
    have := okL_lay n ds h
    exact ⟨by rw [PyData.canLay0]; exact this.1, by rw [PyData.depth]; omega⟩
  | 0, .kt ds, h => by unfold okN at h; exact h.elim
  | 0, .tup ds, h => by unfold okN at h; exact h.elim
  | 0, .lst ds, h => by unfold okN at h; exact h.elim
  | 0, .kl ds, h => by unfold okN at h; exact h.elim
  | n, .ty _, h => by unfold okN at h; exact h.elim
  | n, .ref _, h => by unfold okN at h; exact h.elim
  | n, .dK _ _, h => by unfold okN at h; exact h.elim
theorem okL_lay : ∀ (n : Nat) (ds : List D), okL n ds → PyData.canLayAll0 (D.pdL ds) = true ∧ PyData.depthAll (D.pdL ds) ≤ n
  | n, [], _ => by unfold D.pdL; exact ⟨by rw [PyData.canLayAll0], by rw [PyData.depthAll]; omega⟩
  | n, d :: ds, h => by
    unfold D.pdL
    unfold okL at h
    have h1 := ok_lay n d h.1
    have h2 := okL_lay n ds h.2
    exact ⟨by rw [PyData.canLayAll0, h1.1, h2.1]; rfl, by rw [PyData.depthAll]; omega⟩
end
theorem ok_shaped {n : Nat} {d : D} (h : okN n d) (hn : n ≤ 60) : SeqAt.shaped d.pd = true := by
  obtain ⟨h1, h2⟩ := ok_lay n d h
  unfold SeqAt.shaped
  rw [h1, decide_eq_true (show d.pd.depth ≤ 64 by omega)]
  rfl
mutual
theorem dp_of {Av : Addr → Prop} : ∀ (n : Nat) (d : D) {v : V}, okN n d → Hd K Av H d v → Dp K H v d.pd
  | n, .non, _, _, h => by cases h; exact .non
  | n, .bl _, _, _, h => by cases h; exact .bl _
  | n, .int _, _, _, h => by cases h; exact .int _
  | n, .str x, _, _, h => by cases h; exact .str _
  | n + 1, .tup ds, _, o, h => by
    unfold okN at o
    cases h with
    | tup a s l => unfold D.pd; exact .tup (SqT.of s) (dpL_of n ds o l)
  | n + 1, .lst ds, _, o, h => by
    unfold okN at o
    cases h with
    | lst a s l => unfold D.pd; exact .lst (SqL.of s) (dpL_of n ds o l)
  | n + 1, .kl ds, _, o, h => by
    unfold okN at o
    cases h with
    | kl s l => unfold D.pd; exact .lst s.sq (dpL_of n ds o l)
  | n + 1, .kt ds, _, o, h => by
    unfold okN at o
    cases h with
    | kt s l => unfold D.pd; exact .tup s.sq (dpL_of n ds o l)
  | 0, .kt ds, _, h, _ => by unfold okN at h; exact h.elim
  | 0, .tup ds, _, h, _ => by unfold okN at h; exact h.elim
  | 0, .lst ds, _, h, _ => by unfold okN at h; exact h.elim
  | 0, .kl ds, _, h, _ => by unfold okN at h; exact h.elim
  | n, .ty _, _, h, _ => by unfold okN at h; exact h.elim
  | n, .ref _, _, h, _ => by unfold okN at h; exact h.elim
  | n, .dK _ _, _, h, _ => by unfold okN at h; exact h.elim
theorem dpL_of {Av : Addr → Prop} : ∀ (n : Nat) (ds : List D) {vs : List V}, okL n ds → HdL K Av H ds vs → DpAll K H vs (D.pdL ds)
  | n, [], _, _, h => by cases h; exact .nil
  | n, d :: ds, _, o, h => by
    unfold okL at o
    cases h with
    | cons a b => exact .cons (dp_of n d o.1 a) (dpL_of n ds o.2 b)
end
theorem HdB.dp {n : Nat} {d : D} {v : V} (o : okN n d) (h : HdB K A B M H d v) : Dp K H v d.pd := by
  rcases h with h | ⟨es, a, vs, e1, e2, e3, e4, e5⟩
  · exact dp_of n d o h
  · subst e1 e2
    cases n with
    | zero => unfold okN at o; exact o.elim
    | succ n =>
      unfold okN at o
      unfold D.pd
      exact .lst (SqL.of e4) (dpL_of n es o e5)
def eqD (d e : D) : Bool := PyData.eqv d.pd e.pd
def dEqD : R2D := fun d e Q => ∃ n, n ≤ 60 ∧ okN n d ∧ okN n e ∧ Q (.bl (eqD d e))
def dNeD : R2D := fun d e Q => ∃ n, n ≤ 60 ∧ okN n d ∧ okN n e ∧ Q (.bl (!eqD d e))
theorem o_eqD (hu : X.A.units + 64 < cLine) (hK : X.K = K := by rfl) : OpR X (compareOp .Eq) (rEqD K) ∧ SimR K (rEqD K) dEqD := by
  subst hK
  refine ⟨op_eqD hu, fun A B M H d e x y Q Q' hx hy q k => ?_⟩
  obtain ⟨n, hn, o1, o2, q⟩ := q
  exact ⟨_, _, hx.dp o1, hy.dp o2, ok_shaped o1 hn, ok_shaped o2 hn, k _ _ (.bl _) q⟩
theorem o_neD (hu : X.A.units + 64 < cLine) (hK : X.K = K := by rfl) : OpR X (compareOp .NotEq) (rNeD K) ∧ SimR K (rNeD K) dNeD := by
  subst hK
  refine ⟨op_neD hu, fun A B M H d e x y Q Q' hx hy q k => ?_⟩
  obtain ⟨n, hn, o1, o2, q⟩ := q
  exact ⟨_, _, hx.dp o1, hy.dp o2, ok_shaped o1 hn, ok_shaped o2 hn, k _ _ (.bl _) q⟩
/-! items, len -/
theorem HdL.at {Av : Addr → Prop} {ds : List D} {vs : List V} {i : Int} {c : D} (h : HdL K Av H ds vs) (e : atI ds i = some c) : ∃ v, atI vs i = some v ∧ Hd K Av H c v := by
  unfold atI at e ⊢
  rw [← h.length]
  cases q : ixN ds.length i with
  | none => rw [q] at e; cases e
  | some j =>
    rw [q] at e
    exact h.get e
def dIxL : R2D := fun d e Q => ∃ ds i c, d.lq = some ds ∧ e = .int i ∧ atI ds i = some c ∧ Q c
def dIxT : R2D := fun d e Q => ∃ ds i c, d.tq = some ds ∧ e = .int i ∧ atI ds i = some c ∧ Q c
theorem o_ixL (hK : X.K = K := by rfl) : IxR X (rIxL K) ∧ SimR K (rIxL K) dIxL := by
  subst hK
  refine ⟨ix_list, fun A B M H d e x y Q Q' hx hy q k => ?_⟩
  obtain ⟨ds, i, c, e1, rfl, e3, q⟩ := q
  obtain ⟨a, vs, rfl, s, l⟩ := hx.list e1
  obtain ⟨v, ev, hv⟩ := l.at e3
  exact ⟨a, vs, i, v, rfl, hy.int, s, ev, k c v hv q⟩
theorem o_ixT (hK : X.K = K := by rfl) : IxR X (rIxT K) ∧ SimR K (rIxT K) dIxT := by
  subst hK
  refine ⟨ix_tup, fun A B M H d e x y Q Q' hx hy q k => ?_⟩
  obtain ⟨ds, i, c, e1, rfl, e3, q⟩ := q
  obtain ⟨a, vs, rfl, s, l⟩ := hx.tup e1
  obtain ⟨v, ev, hv⟩ := l.at e3
  exact ⟨a, vs, i, v, rfl, hy.int, s, ev, k c v hv q⟩
def D.lenQ : D → Option Nat
  | .lst ds => some ds.length
  | .kl ds => some ds.length
  | .tup ds => some ds.length
  | .kt ds => some ds.length
  | _ => none
def dLen : R1D := fun d Q => ∃ n, d.lenQ = some n ∧ Q (.int n)
theorem HdB.len {d : D} {n : Nat} {v : V} (h : HdB K A B M H d v) (e : d.lenQ = some n) : ∃ p ys, v = .ref p ∧ (SqL K H p ys ∨ SqT K H p ys) ∧ ys.length = n := by
  cases d with
  | lst ds => cases e; obtain ⟨a, vs, e, s, l⟩ := h.lst; exact ⟨a, vs, e, .inl (SqL.of s), l.length.symm⟩
  | kl ds => cases e; obtain ⟨a, vs, e, s, l⟩ := h.list rfl; exact ⟨a, vs, e, .inl s, l.length.symm⟩
  | tup ds => cases e; obtain ⟨a, vs, e, s, l⟩ := h.tup rfl; exact ⟨a, vs, e, .inr s, l.length.symm⟩
  | kt ds => cases e; obtain ⟨a, vs, e, s, l⟩ := h.tup rfl; exact ⟨a, vs, e, .inr s, l.length.symm⟩
  | _ => cases e
theorem o_len (hK : X.K = K := by rfl) : CallR X (.builtin "len") (fun xs H Q => ∃ p ys, xs = [.ref p] ∧ (SqL K H p ys ∨ SqT K H p ys) ∧ Q (.int ys.length) H) ∧ SimC K (fun xs H Q => ∃ p ys, xs = [.ref p] ∧ (SqL K H p ys ∨ SqT K H p ys) ∧ Q (.int ys.length) H) dLen := by
  subst hK
  refine ⟨call_len_seq, fun A B M H d x Q Q' hx q k => ?_⟩
  obtain ⟨n, e, q⟩ := q
  obtain ⟨p, ys, rfl, s, l⟩ := hx.len e
  subst l
  exact ⟨p, ys, rfl, s, k _ _ (.int _) q⟩
def dLenS : R1D := fun d Q => ∃ x, d = .str x ∧ x.length ≤ sizeLine ∧ Q (.int x.length)
theorem o_lenS : CallR X (.builtin "len") (fun xs H Q => ∃ z, xs = [.str z] ∧ z.length ≤ sizeLine ∧ Q (.int z.length) H) ∧ SimC K (fun xs H Q => ∃ z, xs = [.str z] ∧ z.length ≤ sizeLine ∧ Q (.int z.length) H) dLenS := by
  refine ⟨call_len_str, fun A B M H d x Q Q' hx q k => ?_⟩
  obtain ⟨z, rfl, hz, q⟩ := q
  rw [hx.str]
  exact ⟨z, rfl, hz, k _ _ (.int _) q⟩
/-! sum, any, all, min, max, abs, int -/
def dSum : R1D := fun d Q => ∃ ns : List Int, d.lq = some (ns.map .int) ∧ Q (.int ns.sum)
theorem o_sum (hc : X.calm = true) (hK : X.K = K := by rfl) : CallR X (.builtin "sum") (rSum K) ∧ SimC K (rSum K) dSum := by
  subst hK
  refine ⟨cr_sum hc, fun A B M H d x Q Q' hx q k => ?_⟩
  obtain ⟨ns, e, q⟩ := q
  obtain ⟨a, vs, rfl, s, l⟩ := hx.list e
  rw [l.ints] at s
  exact ⟨a, ns, rfl, s, k _ _ (.int _) q⟩
def dAny : R1D := fun d Q => ∃ ns : List Bool, d.lq = some (ns.map .bl) ∧ Q (.bl (ns.any id))
def dAll : R1D := fun d Q => ∃ ns : List Bool, d.lq = some (ns.map .bl) ∧ Q (.bl (ns.all id))
theorem o_any (hc : X.calm = true) (hK : X.K = K := by rfl) : CallR X (.builtin "any") (rAny K) ∧ SimC K (rAny K) dAny := by
  subst hK
  refine ⟨cr_any hc, fun A B M H d x Q Q' hx q k => ?_⟩
  obtain ⟨ns, e, q⟩ := q
  obtain ⟨a, vs, rfl, s, l⟩ := hx.list e
  rw [l.bls] at s
  exact ⟨a, ns, rfl, s, k _ _ (.bl _) q⟩
theorem o_all (hc : X.calm = true) (hK : X.K = K := by rfl) : CallR X (.builtin "all") (rAll K) ∧ SimC K (rAll K) dAll := by
  subst hK
  refine ⟨cr_all hc, fun A B M H d x Q Q' hx q k => ?_⟩
  obtain ⟨ns, e, q⟩ := q
  obtain ⟨a, vs, rfl, s, l⟩ := hx.list e
  rw [l.bls] at s
  exact ⟨a, ns, rfl, s, k _ _ (.bl _) q⟩
def dMax : R1D := fun d Q => ∃ ns : List Int, d.lq = some (ns.map .int) ∧ 0 < ns.length ∧ ∀ m, m ∈ ns → (∀ y, y ∈ ns → y ≤ m) → Q (.int m)
def dMin : R1D := fun d Q => ∃ ns : List Int, d.lq = some (ns.map .int) ∧ 0 < ns.length ∧ ∀ m, m ∈ ns → (∀ y, y ∈ ns → m ≤ y) → Q (.int m)
theorem o_max (hc : X.calm = true) (hK : X.K = K := by rfl) : CallR X (.builtin "max") (rMax K) ∧ SimC K (rMax K) dMax := by
  subst hK
  refine ⟨cr_max hc, fun A B M H d x Q Q' hx q k => ?_⟩
  obtain ⟨ns, e, h0, q⟩ := q
  obtain ⟨a, vs, rfl, s, l⟩ := hx.list e
  rw [l.ints] at s
  exact ⟨a, ns, rfl, s, h0, fun m h1 h2 => k _ _ (.int _) (q m h1 h2)⟩
theorem o_min (hc : X.calm = true) (hK : X.K = K := by rfl) : CallR X (.builtin "min") (rMin K) ∧ SimC K (rMin K) dMin := by
  subst hK
  refine ⟨cr_min hc, fun A B M H d x Q Q' hx q k => ?_⟩
  obtain ⟨ns, e, h0, q⟩ := q
  obtain ⟨a, vs, rfl, s, l⟩ := hx.list e
  rw [l.ints] at s
  exact ⟨a, ns, rfl, s, h0, fun m h1 h2 => k _ _ (.int _) (q m h1 h2)⟩
def dMin2 : R2D := dI0 fun i j => .int (if j < i then j else i)
def dMax2 : R2D := dI0 fun i j => .int (if j > i then j else i)
theorem o_min2 (hc : X.calm = true) : CallR X (.builtin "min") (fun xs H Q => ∃ i j, xs = [.int i, .int j] ∧ Q (.int (if j < i then j else i)) H) ∧ SimC2 K (fun xs H Q => ∃ i j, xs = [.int i, .int j] ∧ Q (.int (if j < i then j else i)) H) dMin2 :=
  ⟨call_min2 hc, fun A B M H d e x y Q Q' hx hy q k => by
    obtain ⟨i, j, rfl, rfl, q⟩ := q
    rw [hx.int, hy.int]
    exact ⟨i, j, rfl, k _ _ (.int _) q⟩⟩
theorem o_max2 (hc : X.calm = true) : CallR X (.builtin "max") (fun xs H Q => ∃ i j, xs = [.int i, .int j] ∧ Q (.int (if j > i then j else i)) H) ∧ SimC2 K (fun xs H Q => ∃ i j, xs = [.int i, .int j] ∧ Q (.int (if j > i then j else i)) H) dMax2 :=
  ⟨call_max2 hc, fun A B M H d e x y Q Q' hx hy q k => by
    obtain ⟨i, j, rfl, rfl, q⟩ := q
    rw [hx.int, hy.int]
    exact ⟨i, j, rfl, k _ _ (.int _) q⟩⟩
def dAbs : R1D := fun d Q => ∃ i, d = .int i ∧ Q (.int (if i < 0 then -i else i))
theorem o_abs : CallR X (.builtin "abs") (fun xs H Q => ∃ i, xs = [.int i] ∧ Q (.int (if i < 0 then -i else i)) H) ∧ SimC K (fun xs H Q => ∃ i, xs = [.int i] ∧ Q (.int (if i < 0 then -i else i)) H) dAbs :=
  ⟨call_abs, fun A B M H d x Q Q' hx q k => by
    obtain ⟨i, rfl, q⟩ := q
    rw [hx.int]
    exact ⟨i, rfl, k _ _ (.int _) q⟩⟩
def D.toI : D → Option Int
  | .int i => some i
  | .bl b => some (if b then 1 else 0)
  | _ => none
def dInt : R1D := fun d Q => ∃ i, d.toI = some i ∧ Q (.int i)
theorem o_int : CallR X (.type "int") (fun xs H Q => (∃ i, xs = [.int i] ∧ Q (.int i) H) ∨ ∃ k, xs = [.bl k] ∧ Q (.int (if k then 1 else 0)) H) ∧ SimC K (fun xs H Q => (∃ i, xs = [.int i] ∧ Q (.int i) H) ∨ ∃ k, xs = [.bl k] ∧ Q (.int (if k then 1 else 0)) H) dInt :=
  ⟨call_int1, fun A B M H d x Q Q' hx q k => by
    obtain ⟨i, e, q⟩ := q
    cases d with
    | int j => cases e; rw [hx.int]; exact .inl ⟨_, rfl, k _ _ (.int _) q⟩
    | bl b => cases e; rw [hx.bl]; exact .inr ⟨_, rfl, k _ _ (.int _) q⟩
    | _ => cases e⟩
/-! isinstance -/
def D.tn : D → String
  | .non => "NoneType"
  | .bl _ => "bool"
  | .int _ => "int"
  | .str _ => "str"
  | .tup _ => "tuple"
  | .kt _ => "tuple"
  | .lst _ => "list"
  | .kl _ => "list"
  | .dK _ _ => "dict"
  | _ => "?"
theorem SqTa.ty {Av : Addr → Prop} {a : Addr} {vs : List V} (s : SqTa K Av H a vs) : TyX K H (.ref a) (.type "tuple") := by
  rcases s with ⟨_, h | ⟨o, h⟩⟩ | ⟨o, its, n, hk, hc, _⟩
  · exact .base (.tup h)
  · exact .fTuple h
  · exact .kTuple hk hc
theorem SqLa.ty {Av : Addr → Prop} {a : Addr} {vs : List V} (s : SqLa K Av H a vs) : TyX K H (.ref a) (.type "list") := by
  rcases s with ⟨_, h | ⟨o, h⟩⟩ | ⟨o, its, n, hk, hc, _⟩
  · exact .base (.lst h)
  · exact .base (.frz h)
  · exact .kList hk hc
def D.tk : D → Bool
  | .ty _ => false
  | .ref _ => false
  | .fK _ _ => false
  | _ => true
theorem HdB.tyx {d : D} {v : V} (h : HdB K A B M H d v) (k : d.tk = true) : TyX K H v (.type d.tn) := by
  rcases h with h | ⟨es, a, vs, e1, e2, e3, e4, e5⟩
  · cases h with
    | non => exact .base .non
    | bl b => exact .base (.bl b)
    | int i => exact .base (.int i)
    | str x => exact .base (.str x)
    | tup n s l => exact .base (.tup s)
    | kt s l => exact s.ty
    | lst a s l => exact .base (.lst s)
    | kl s l => exact s.ty
    | dK n s _ l => exact .base (.dK s)
    | _ => cases k
  · subst e1 e2
    exact .base (.lst e4)
def dIsi : R2D := fun d e Q => ∃ n b, e = .ty n ∧ d.tk = true ∧ kitB d.tn n = some b ∧ Q (.bl b)
theorem o_isi (hK : X.K = K := by rfl) : CallR X (.builtin "isinstance") (rIsi K) ∧ SimC2 K (rIsi K) dIsi := by
  subst hK
  refine ⟨call_isi, fun A B M H d e x y Q Q' hx hy q k => ?_⟩
  obtain ⟨n, b, rfl, hk, hb, q⟩ := q
  rw [hy.ty]
  exact ⟨x, _, _, _, b, rfl, .ty n, hx.tyx hk, kit_ty hb, k _ _ (.bl _) q⟩
/-! new lists -/
def dCat : R2N := fun d e Q => ∃ ds es, d = .lst ds ∧ e = .lst es ∧ ds.length + es.length ≤ sizeLine ∧ Q (ds ++ es)
theorem o_cat : OpR X (binaryOp .Add) rCat ∧ SimRN K rCat dCat := ⟨op_cat, fun A B M H d e x y Q Q' hx hy q k => by
  obtain ⟨ds, es, rfl, rfl, hz, q⟩ := q
  obtain ⟨a, vs, rfl, s, l⟩ := hx.lst
  obtain ⟨b, us, rfl, s2, l2⟩ := hy.lst
  exact ⟨a, b, vs, us, rfl, rfl, s, s2, by rw [← l.length, ← l2.length]; exact hz, fun p hp => k _ _ p (l.app l2) hp q⟩⟩
def dRep : R2N := fun d e Q => ∃ ds i, d = .lst ds ∧ e = .int i ∧ -(2 ^ 63) ≤ i ∧ i < 2 ^ 63 ∧ ds.length * i.toNat ≤ sizeLine ∧ Q (List.replicate i.toNat ds).flatten
theorem o_rep : OpR X (binaryOp .Mult) rRep ∧ SimRN K rRep dRep := ⟨op_rep, fun A B M H d e x y Q Q' hx hy q k => by
  obtain ⟨ds, i, rfl, rfl, h0, h1, hz, q⟩ := q
  obtain ⟨a, vs, rfl, s, l⟩ := hx.lst
  exact ⟨a, i, vs, rfl, hy.int, s, h0, h1, by rw [← l.length]; exact hz, fun p hp => k _ _ p (l.rep _) hp q⟩⟩
def D.itQ : D → Option (List D)
  | .lst ds => some ds
  | .kl ds => some ds
  | .tup ds => some ds
  | .kt ds => some ds
  | _ => none
theorem HdB.its {d : D} {ds : List D} {v : V} (h : HdB K A B M H d v) (e : d.itQ = some ds) : ∃ a vs, v = .ref a ∧ (SqL K H a vs ∨ SqT K H a vs) ∧ HdL K (Av A B M) H ds vs := by
  cases d with
  | lst ds => cases e; obtain ⟨a, vs, e, s, l⟩ := h.lst; exact ⟨a, vs, e, .inl (SqL.of s), l⟩
  | kl ds => cases e; obtain ⟨a, vs, e, s, l⟩ := h.list rfl; exact ⟨a, vs, e, .inl s, l⟩
  | tup ds => cases e; obtain ⟨a, vs, e, s, l⟩ := h.tup rfl; exact ⟨a, vs, e, .inr s, l⟩
  | kt ds => cases e; obtain ⟨a, vs, e, s, l⟩ := h.tup rfl; exact ⟨a, vs, e, .inr s, l⟩
  | _ => cases e
def dListOf : R1N := fun d Q => ∃ ds, d.itQ = some ds ∧ Q ds
theorem o_listOf (hK : X.K = K := by rfl) : CallR X (.type "list") (fun xs H Q => ∃ p ys, xs = [.ref p] ∧ (SqL K H p ys ∨ SqT K H p ys) ∧ ∀ l, H l = none → Q (.ref l) (upd H l (.lst ys))) ∧ SimUN K (fun xs H Q => ∃ p ys, xs = [.ref p] ∧ (SqL K H p ys ∨ SqT K H p ys) ∧ ∀ l, H l = none → Q (.ref l) (upd H l (.lst ys))) dListOf := by
  subst hK
  refine ⟨call_list_of, fun A B M H d x Q Q' hx q k => ?_⟩
  obtain ⟨ds, e, q⟩ := q
  obtain ⟨a, vs, rfl, s, l⟩ := hx.its e
  exact ⟨a, vs, rfl, s, fun p hp => k _ _ p l hp q⟩
def dSorted : R1N := fun d Q => ∃ ns : List Int, d.lq = some (ns.map .int) ∧ ns.length < 64 ∧ ∀ ms : List Int, ms.Perm ns → ms.Pairwise (· ≤ ·) → Q (ms.map .int)
theorem o_sorted (hK : X.K = K := by rfl) : CallR X (.builtin "sorted") (rSorted K) ∧ SimUN K (rSorted K) dSorted := by
  subst hK
  refine ⟨cr_sorted, fun A B M H d x Q Q' hx q k => ?_⟩
  obtain ⟨ns, e, h64, q⟩ := q
  obtain ⟨a, vs, rfl, s, l⟩ := hx.list e
  rw [l.ints] at s
  exact ⟨a, ns, rfl, s, h64, fun ms p h1 h2 hp => k _ _ p .ofInts hp (q ms h1 h2)⟩
/-! slices -/
def cutD (ds : List D) (lo hi : Option Int) : List D := (ds.drop (HT.sIx ds.length 0 lo)).take (HT.sIx ds.length ds.length hi - HT.sIx ds.length 0 lo)
theorem HdL.cut {Av : Addr → Prop} {ds : List D} {vs : List V} (h : HdL K Av H ds vs) (lo hi : Option Int) : HdL K Av H (cutD ds lo hi) (cutV vs lo hi) := by
  unfold cutD cutV
  rw [h.length]
  exact (h.drop _).take _
end
abbrev TOD := Env → Mm → (Option Int → Env → Mm → Prop) → Prop
def SimO (K : PySem.W.Frag) (t : TO) (t' : TOD) : Prop := ∀ A B M ρ σ H Q Q', ER K A B M ρ σ H → t' ρ M Q' →
  (∀ o ρ' M' B' H', ER K A B' M' ρ' σ H' → Fr (Av A B M) (Av A B' M') H H' → FrM M M' H H' → Q' o ρ' M' → Q o H') → t σ H Q
structure DO (X : Cx) (K : PySem.W.Frag) (e : Option Expr) (t : TO) (t' : TOD) : Prop where
  po : PO X e t
  sim : SimO K t t'
section
variable {X : Cx} {K : PySem.W.Frag} {A : CA} {e : Expr} {lo hi : Option Expr} {te : TE} {tl th : TO} {te' : TED} {tl' th' : TOD} {pos p2 : Pos}
def dNoPart : TOD := fun ρ M Q => Q none ρ M
def dPart (t : TED) : TOD := fun ρ M Q => t ρ M fun d ρ1 M1 => ∃ i, d = .int i ∧ Q (some i) ρ1 M1
theorem do_none : DO X K none tNoPart dNoPart := ⟨po_none, fun A B M ρ σ H Q Q' r q k => k none ρ M B H r .refl .refl q⟩
theorem do_some (h : DE X K e te te') : DO X K (some e) (tPart te) (dPart te') := ⟨po_some h.pe, fun A B M ρ σ H Q Q' R q k => h.sim A B M ρ σ H _ _ R q fun d ρ1 M1 B1 v H1 R1 f1 m1 h1 q1 => by
  obtain ⟨i, rfl, q1⟩ := q1
  cases h1
  exact ⟨i, rfl, k _ ρ1 M1 B1 H1 R1 f1 m1 q1⟩⟩
def dSlL (t : TED) (tl th : TOD) : TEN := fun ρ M Q => t ρ M fun d ρ1 M1 => tl ρ1 M1 fun l ρ2 M2 => th ρ2 M2 fun u ρ3 M3 => ∃ ds, d.lq = some ds ∧ Q (cutD ds l u) ρ3 M3
theorem dn_sl (he : DB X K e te te') (hl : DO X K lo tl tl') (hu : DO X K hi th th') (hK : X.K = K := by rfl) : DN X K (.Subscript e (.Slice lo hi none p2) pos) (tSl (rSlL K) te tl th) (dSlL te' tl' th') := by
  subst hK
  refine ⟨pe_slice sl_list he.pe hl.po hu.po, fun A B M ρ σ H Q Q' R q k => he.sim A B M ρ σ H _ _ R q fun d ρ1 M1 B1 v H1 R1 f1 m1 h1 q1 => hl.sim A B1 M1 ρ1 σ H1 _ _ R1 q1 fun l ρ2 M2 B2 H2 R2 f2 m2 q2 =>
    hu.sim A B2 M2 ρ2 σ H2 _ _ R2 q2 fun u ρ3 M3 B3 H3 R3 f3 m3 q3 => ?_⟩
  obtain ⟨ds, e, q3⟩ := q3
  obtain ⟨a, vs, rfl, s, hd⟩ := ((h1.fr f2 m2).fr f3 m3).list e
  refine ⟨a, vs, rfl, s, fun p hp => ?_⟩
  obtain ⟨B4, R4, f4, m4, hb4, h4⟩ := R3.newOwn hp (hd.cut l u)
  exact k _ ρ3 M3 B4 p _ _ R4 (((f1.trans f2).trans f3).trans f4) (((m1.trans m2).trans m3).trans m4) hb4 upd_same h4 q3
def dSlT (t : TED) (tl th : TOD) : TED := fun ρ M Q => t ρ M fun d ρ1 M1 => tl ρ1 M1 fun l ρ2 M2 => th ρ2 M2 fun u ρ3 M3 => ∃ ds, d.tq = some ds ∧ ¬ (HT.sIx ds.length 0 l = 0 ∧ HT.sIx ds.length ds.length u = ds.length) ∧ Q (.tup (cutD ds l u)) ρ3 M3
theorem de_slT (he : DB X K e te te') (hl : DO X K lo tl tl') (hu : DO X K hi th th') (hK : X.K = K := by rfl) : DE X K (.Subscript e (.Slice lo hi none p2) pos) (tSl (rSlT K) te tl th) (dSlT te' tl' th') := by
  subst hK
  refine ⟨pe_slice sl_tup he.pe hl.po hu.po, fun A B M ρ σ H Q Q' R q k => he.sim A B M ρ σ H _ _ R q fun d ρ1 M1 B1 v H1 R1 f1 m1 h1 q1 => hl.sim A B1 M1 ρ1 σ H1 _ _ R1 q1 fun l ρ2 M2 B2 H2 R2 f2 m2 q2 =>
    hu.sim A B2 M2 ρ2 σ H2 _ _ R2 q2 fun u ρ3 M3 B3 H3 R3 f3 m3 q3 => ?_⟩
  obtain ⟨ds, e1, nw, q3⟩ := q3
  obtain ⟨a, vs, rfl, s, hd⟩ := ((h1.fr f2 m2).fr f3 m3).tup e1
  refine ⟨a, vs, rfl, s, by rw [← hd.length]; exact nw, fun p hp => ?_⟩
  obtain ⟨R4, f4, m4, np, _⟩ := R3.new (o := .tup (cutV vs l u)) hp
  exact k _ ρ3 M3 B3 _ _ R4 (((f1.trans f2).trans f3).trans f4) (((m1.trans m2).trans m3).trans m4) (.tup np upd_same ((hd.cut l u).fr f4)) q3
end
end DM

namespace DM
open PySem PySem.Spec PyProof.Rows L2 TK
variable [Gd]
/-- a promise told by data: arguments, shared things, what is wanted of a value, of a new list, of an error of a class -/
abbrev SpD := List D → Mm → (D → Mm → Prop) → (List D → Mm → Prop) → (Addr → Mm → Prop) → Prop
/-- what is not to be changed by a callee: the callers' own lists, the shared things -/
abbrev Avc (A : CA) (M : Mm) : Addr → Prop := Av A (fun _ => none) M
structure ROk (K : PySem.W.Frag) (A : CA) (M : Mm) (H : Hp) : Prop where
  ob : ∀ a mo, M a = some mo → MOk K (Avc A M) H a mo
  tr : ∀ b, M b ≠ none → H b ≠ none
  sep : ∀ a, A.h a ≠ none → M a = none
  sn : ∀ b o, A.h b = some o → H b = some o
  md : ∀ b, A.d b → M b ≠ none
/-- the promise by values: A, what the callers write -/
def ofD (K : PySem.W.Frag) (sp : SpD) : Sp := fun vs H Q E => ∃ (A : CA) (M : Mm) (ds : List D), ROk K A M H ∧ HdL K (Avc A M) H ds vs ∧
  sp ds M (fun d M' => ∀ v H', ROk K A M' H' → FrM M M' H H' → Hd K (Avc A M') H' d v → Q v H')
    (fun es M' => ∀ a us H', H a = none → ROk K (A.add a (.lst us)) M' H' → FrM M M' H H' → HdL K (Avc (A.add a (.lst us)) M') H' es us → Q (.ref a) H')
    (fun C M' => ∀ H', ROk K A M' H' → FrM M M' H H' → E (.ref C) none H')
section
variable {K : PySem.W.Frag} {A : CA} {B : Nat → Option Addr} {M : Mm} {ρ : Env} {σ : L2.St} {H : Hp}
open Classical in
/-- what a callee is to leave alone -/
noncomputable def AB (A : CA) (B : Nat → Option Addr) (M : Mm) (H : Hp) : CA := ⟨fun b => if A.h b ≠ none ∨ ∃ i, B i = some b then H b else none, fun b => M b ≠ none⟩
theorem ab_h {b : Addr} : (AB A B M H).h b = (open Classical in if A.h b ≠ none ∨ ∃ i, B i = some b then H b else none) := rfl
theorem ab_some {b : Addr} {o : HO} (h : (AB A B M H).h b = some o) : H b = some o ∧ (A.h b ≠ none ∨ ∃ i, B i = some b) := by
  rw [ab_h] at h
  split at h
  case isTrue q => exact ⟨h, q⟩
  case isFalse q => cases h
theorem ER.ab (r : ER K A B M ρ σ H) {b : Addr} : (AB A B M H).h b ≠ none ↔ (A.h b ≠ none ∨ ∃ i, B i = some b) := by
  rw [ab_h]
  constructor
  · intro h
    split at h
    case isTrue q => exact q
    case isFalse q => exact absurd rfl h
  · intro h
    rw [if_pos h]
    exact r.tr b (h.elim .inl fun h => .inr (.inl h))
theorem ER.av_ab (r : ER K A B M ρ σ H) (M' : Mm) : Avc (AB A B M H) M' = Av A B M' := by
  funext b
  unfold Avc Av
  refine propext ⟨fun h => ?_, fun h => ?_⟩
  · rcases h with h | ⟨i, h⟩ | h
    · rcases r.ab.mp h with h | h
      · exact .inl h
      · exact .inr (.inl h)
    · cases h
    · exact .inr (.inr h)
  · rcases h with h | h | h
    · exact .inl (r.ab.mpr (.inl h))
    · exact .inl (r.ab.mpr (.inr h))
    · exact .inr (.inr h)
theorem ER.rok (r : ER K A B M ρ σ H) : ROk K (AB A B M H) M H := by
  refine ⟨fun a mo e => ?_, fun b h => r.tr b (.inr (.inr h)), fun a h => ?_, fun b o h => (ab_some h).1, fun b h => h⟩
  · rw [r.av_ab]; exact r.ob a mo e
  · rcases r.ab.mp h with h | ⟨i, h⟩
    · exact r.sepA a h
    · exact r.sepM i a h
theorem none_of_not_av {b : Addr} (n : ¬ Av A B M b) : M b = none := by
  cases q : M b with
  | none => rfl
  | some mo => exact absurd (.inr (.inr (by rw [q]; simp))) n
/-- behind a call -/
theorem ER.back {M' : Mm} {H' : Hp} (r : ER K A B M ρ σ H) (o : ROk K (AB A B M H) M' H') (m : FrM M M' H H') : ER K A B M' ρ σ H' ∧ Fr (Av A B M) (Av A B M') H H' := by
  have ownM : ∀ i a, B i = some a → M' a = none := fun i a e => o.sep a (r.ab.mpr (.inr ⟨i, e⟩))
  have f : Fr (Av A B M) (Av A B M') H H' := fun b u n e => by
    obtain ⟨e1, n2⟩ := m b u (none_of_not_av n) e
    refine ⟨e1, fun h => ?_⟩
    rcases h with h | h | h
    · exact n (.inl h)
    · exact n (.inr (.inl h))
    · exact h n2
  refine ⟨⟨r.len, fun j s v e1 e2 => (r.sl j s v e1 e2).fr f fun a e => ⟨e, fun u h => (m a u (r.sepM j a e) h).1⟩, r.inj, fun a mo e => ?_, fun b h => ?_, ownM, fun a h => o.sep a (r.ab.mpr (.inl h)), r.sepB, fun b u e => ?_, fun b h => o.md b (r.md b h), Gd.cl f r.gd⟩, f⟩
  · have := o.ob a mo e
    rwa [r.av_ab] at this
  · have at_ : (A.h b ≠ none ∨ ∃ i, B i = some b) → H' b ≠ none := fun h => by
      have h1 := r.ab.mpr h
      cases q : (AB A B M H).h b with
      | none => exact absurd q h1
      | some u => rw [o.sn b u q]; simp
    rcases h with h | h | h
    · exact at_ (.inl h)
    · exact at_ (.inr h)
    · exact o.tr b h
  · have h1 := r.sn b u e
    exact o.sn b u (by rw [ab_h, if_pos (.inl (by rw [e]; simp))]; exact h1)
theorem ER.args {ds : List D} {vs : List V} (r : ER K A B M ρ σ H) (h : HdL K (Av A B M) H ds vs) : HdL K (Avc (AB A B M H) M) H ds vs := by rw [r.av_ab]; exact h
/-- behind a call that hands back a new list -/
theorem ER.backN {M' : Mm} {H' : Hp} {a : Addr} {us : List V} {es : List D} (r : ER K A B M ρ σ H) (hn : H a = none) (o : ROk K ((AB A B M H).add a (.lst us)) M' H') (m : FrM M M' H H')
    (h : HdL K (Avc ((AB A B M H).add a (.lst us)) M') H' es us) : ∃ B', ER K A B' M' ρ σ H' ∧ Fr (Av A B M) (Av A B' M') H H' ∧ B' σ.length = some a ∧ H' a = some (.lst us) ∧ HdL K (Av A B' M') H' es us := by
  have hl : H' a = some (.lst us) := o.sn a _ upd_same
  have nab : (AB A B M H).h a = none := by
    cases q : (AB A B M H).h a with
    | none => rfl
    | some u => rw [(ab_some q).1] at hn; cases hn
  have up : ∀ b, (AB A B M H).h b ≠ none → ((AB A B M H).add a (.lst us)).h b ≠ none := fun b h => by
    show upd _ _ _ b ≠ none
    by_cases e : b = a
    · subst e; rw [upd_same]; simp
    · rw [upd_ne e]; exact h
  have nB : ∀ j c, B j = some c → c ≠ a := fun j c e z => r.tr c (.inr (.inl ⟨j, e⟩)) (z ▸ hn)
  have nA : A.h a = none := by
    cases q : A.h a with
    | none => rfl
    | some u => rw [r.sn a u q] at hn; cases hn
  have av : ∀ b, Av A (put B σ.length (some a)) M' b → Avc ((AB A B M H).add a (.lst us)) M' b := fun b h => by
    rcases av_put_some h with h | h
    · rcases h with h | h | h
      · exact .inl (up b (r.ab.mpr (.inl h)))
      · exact .inl (up b (r.ab.mpr (.inr h)))
      · exact .inr (.inr h)
    · subst h; exact .inl (by show upd _ _ _ b ≠ none; rw [upd_same]; simp)
  have f : Fr (Av A B M) (Av A (put B σ.length (some a)) M') H H' := fun b u n e => by
    obtain ⟨e1, n2⟩ := m b u (none_of_not_av n) e
    refine ⟨e1, fun h => ?_⟩
    rcases av_put_some h with h | h
    · rcases h with h | h | h
      · exact n (.inl h)
      · exact n (.inr (.inl h))
      · exact h n2
    · subst h; rw [hn] at e; cases e
  have at_ : ∀ j c, put B σ.length (some a) j = some c → (j = σ.length ∧ c = a) ∨ (j ≠ σ.length ∧ B j = some c) := fun j c e => by
    by_cases hj : j = σ.length
    · subst hj; rw [put_same] at e; exact .inl ⟨rfl, (Option.some.inj e).symm⟩
    · rw [put_ne hj] at e; exact .inr ⟨hj, e⟩
  refine ⟨put B σ.length (some a), ⟨r.len, fun j s v e1 e2 => ?_, fun j k c e1 e2 => ?_, fun c mo e => ?_, fun b h => ?_, fun j c e => ?_, fun c h => o.sep c (up c (r.ab.mpr (.inl h))), fun j c e => ?_, fun b u e => ?_, fun b h => o.md b (r.md b h), Gd.cl f r.gd⟩, f, put_same, hl, h.fr (.less av)⟩
  · have h1 : j ≠ σ.length := by
      have := (List.getElem?_eq_some_iff.mp e1).1
      rw [r.len]
      omega
    exact (r.sl j s v e1 e2).fr f fun c e => ⟨by rw [put_ne h1]; exact e, fun u h => (m c u (r.sepM j c e) h).1⟩
  · rcases at_ j c e1 with ⟨rfl, rfl⟩ | ⟨n1, h1⟩
    · rcases at_ k c e2 with ⟨rfl, _⟩ | ⟨n2, h2⟩
      · rfl
      · exact absurd rfl (nB _ _ h2)
    · rcases at_ k c e2 with ⟨rfl, rfl⟩ | ⟨n2, h2⟩
      · exact absurd rfl (nB _ _ h1)
      · exact r.inj _ _ _ h1 h2
  · exact (o.ob c mo e).fr (.less av) fun _ h => h
  · rcases av b h with h | ⟨i, h⟩ | h
    · cases q : ((AB A B M H).add a (.lst us)).h b with
      | none => exact absurd q h
      | some u => rw [o.sn b u q]; simp
    · cases h
    · exact o.tr b h
  · rcases at_ j c e with ⟨_, rfl⟩ | ⟨_, h1⟩
    · exact o.sep _ (by show upd _ _ _ _ ≠ none; rw [upd_same]; simp)
    · exact o.sep _ (up _ (r.ab.mpr (.inr ⟨_, h1⟩)))
  · rcases at_ j c e with ⟨_, rfl⟩ | ⟨_, h1⟩
    · exact nA
    · exact r.sepB _ _ h1
  · have h1 : (AB A B M H).h b = some u := by rw [ab_h, if_pos (.inl (by rw [e]; simp))]; exact r.sn b u e
    have h2 : b ≠ a := fun z => by subst z; rw [nab] at h1; cases h1
    exact o.sn b u (by show upd _ _ _ b = _; rw [upd_ne h2]; exact h1)
end
section
variable {X : Cx} {K : PySem.W.Frag} {e : Expr} {es : List Expr} {ta : TA} {ta' : TAD} {x : Str} {ps : List Str} {sp : SpD} {p pos : Pos} {k : Nat}
/-- f(..) of a def that lets no error out: a value -/
def dCall (sp : SpD) (ta' : TAD) : TED := fun ρ M Q => ta' ρ M fun ds ρ1 M1 => sp ds M1 (fun d M2 => Q d ρ1 M2) (fun es M2 => Q (.lst es) ρ1 M2) (fun _ _ => False)
def dCallN (sp : SpD) (ta' : TAD) : TEN := fun ρ M Q => ta' ρ M fun ds ρ1 M1 => sp ds M1 (fun _ _ => False) (fun es M2 => Q es ρ1 M2) (fun _ _ => False)
/-- promises that may be asked with less -/
structure SpMono (sp : SpD) : Prop where
  mono : ∀ ds M Q N E Q' N' E', sp ds M Q N E → (∀ d M', Q d M' → Q' d M') → (∀ d M', N d M' → N' d M') → (∀ d M', E d M' → E' d M') → sp ds M Q' N' E'
theorem sim_call (hm : SpMono sp) (h : SimA K ta ta') : SimE K (tCall (ofD K sp) [] E0 ta) (dCall sp ta') := fun A B M ρ σ H Q Q' R q kk => h A B M ρ σ H _ _ R q fun ds ρ1 M1 B1 vs H1 R1 f1 m1 h1 q1 => by
  refine ⟨AB A B1 M1 H1, M1, ds, R1.rok, ?_, hm.mono _ _ _ _ _ _ _ _ q1 (fun d M2 q2 => ?_) (fun es M2 q2 => ?_) (fun _ _ z => z.elim)⟩
  · rw [List.append_nil]
    exact R1.args h1
  · intro v H2 o m hd
    obtain ⟨R2, f2⟩ := R1.back o m
    rw [R1.av_ab] at hd
    exact kk d ρ1 M2 B1 v H2 R2 (f1.trans f2) (m1.trans m) hd q2
  · intro a us H2 hn o m hd
    obtain ⟨B2, R2, f2, hb, hl, h2⟩ := R1.backN hn o m hd
    obtain ⟨R3, f3⟩ := R2.drop (i := σ.length) (by rw [R2.len]; exact Nat.le_refl _)
    refine kk (.lst es) ρ1 M2 _ (.ref a) H2 R3 ((f1.trans f2).trans f3) (m1.trans m) (.lst ?_ hl (h2.fr f3)) q2
    rintro (h | ⟨j, h⟩ | h)
    · exact h (R2.sepB _ _ hb)
    · have hj : j ≠ σ.length := fun z => by subst z; rw [put_same] at h; cases h
      rw [put_ne hj] at h
      exact hj (R2.inj _ _ _ h hb)
    · exact h (R2.sepM _ _ hb)
theorem sim_callN (hm : SpMono sp) (h : SimA K ta ta') : SimN K (tCall (ofD K sp) [] E0 ta) (dCallN sp ta') := fun A B M ρ σ H Q Q' R q kk => h A B M ρ σ H _ _ R q fun ds ρ1 M1 B1 vs H1 R1 f1 m1 h1 q1 => by
  refine ⟨AB A B1 M1 H1, M1, ds, R1.rok, ?_, hm.mono _ _ _ _ _ _ _ _ q1 (fun _ _ z => z.elim) (fun es M2 q2 => ?_) (fun _ _ z => z.elim)⟩
  · rw [List.append_nil]
    exact R1.args h1
  · intro a us H2 hn o m hd
    obtain ⟨B2, R2, f2, hb, hl, h2⟩ := R1.backN hn o m hd
    exact kk es ρ1 M2 B2 a us H2 R2 (f1.trans f2) (m1.trans m) hb hl h2 q2
theorem de_cal {j : Nat} (C : Cal X.prog X.w X.K X.mg X.base x ps j (ofD K sp)) (hm : SpMono sp) (hr : Room k X.A) (hg : Gl X x) (ha : DA X K (e :: es) ta ta') (hj : j ≤ k := by decide) (hdb : (x == ("__debug__" : Str)) = false := by decide)
    (he : starEach (e :: es) X.env = (false, eval e X.env) :: starEach es X.env := by rfl) (hpl : (backTo pos (starEach es X.env)).any (·.1) = false := by rfl) : DE X K (.Call (.Name x p) (e :: es) [] pos) (tCall (ofD K sp) [] E0 ta) (dCall sp ta') :=
  ⟨pe_cal C hr hg ha.pa hj hdb he hpl, sim_call hm ha.sim⟩
theorem dn_cal {j : Nat} (C : Cal X.prog X.w X.K X.mg X.base x ps j (ofD K sp)) (hm : SpMono sp) (hr : Room k X.A) (hg : Gl X x) (ha : DA X K (e :: es) ta ta') (hj : j ≤ k := by decide) (hdb : (x == ("__debug__" : Str)) = false := by decide)
    (he : starEach (e :: es) X.env = (false, eval e X.env) :: starEach es X.env := by rfl) (hpl : (backTo pos (starEach es X.env)).any (·.1) = false := by rfl) : DN X K (.Call (.Name x p) (e :: es) [] pos) (tCall (ofD K sp) [] E0 ta) (dCallN sp ta') :=
  ⟨pe_cal C hr hg ha.pa hj hdb he hpl, sim_callN hm ha.sim⟩
end
/-! statements -/
structure DS (X : Cx) (K : PySem.W.Frag) (st : Stmt) (t : TS) (t' : TSD) : Prop where
  ps : PS X st t
  sim : SimS K t t'
structure DSs (X : Cx) (K : PySem.W.Frag) (st : List Stmt) (t : TS) (t' : TSD) : Prop where
  ps : PSs X st t
  sim : SimS K t t'
structure DG (X : Cx) (K : PySem.W.Frag) (tg : Expr) (t : TG) (t' : D → TSD) : Prop where
  pg : PG X tg t
  sim : ∀ (A : CA) (B : Nat → Option Addr) (M : Mm) (ρ : Env) (σ : L2.St) (H : Hp) (d : D) (v : V) (D' : EndsD) (Q : L2.St → Hp → Prop), ER K A B M ρ σ H → Hd K (Av A B M) H d v → t' d D' ρ M →
    (∀ ρ' M' B' σ' H', ER K A B' M' ρ' σ' H' → Fr (Av A B M) (Av A B' M') H H' → D'.nx ρ' M' → Q σ' H') → t v σ H Q
structure DGs (X : Cx) (K : PySem.W.Frag) (tg : List Expr) (t : TGs) (t' : List D → TSD) : Prop where
  pg : PGs X tg t
  sim : ∀ (A : CA) (B : Nat → Option Addr) (M : Mm) (ρ : Env) (σ : L2.St) (H : Hp) (ds : List D) (vs : List V) (D' : EndsD) (Q : L2.St → Hp → Prop), ER K A B M ρ σ H → HdL K (Av A B M) H ds vs → t' ds D' ρ M →
    (∀ ρ' M' B' σ' H', ER K A B' M' ρ' σ' H' → Fr (Av A B M) (Av A B' M') H H' → D'.nx ρ' M' → Q σ' H') → t vs σ H Q
section
variable {X : Cx} {K : PySem.W.Frag} {A : CA} {st : Stmt} {rest : List Stmt} {t u : TS} {t' u' : TSD} {e : Expr} {te : TE} {te' : TED} {tn' : TEN} {pos : Pos} {x : Str}
theorem SimS.ends (h : SimS K t t') {A : CA} {B M ρ σ H E D'} {Av0 : Addr → Prop} {H0 : Hp} (r : ER K A B M ρ σ H) (f : Fr Av0 (Av A B M) H0 H) (q : t' D' ρ M) (k : EndsOk K A Av0 H0 D' E) : t E σ H := h A B M ρ σ H E D' r q (k.from f)
def dNext : TSD := fun D ρ M => D.nx ρ M
def dSeq (t u : TSD) : TSD := fun D ρ M => t { D with nx := u D } ρ M
theorem dss_nil : DSs X K [] tNext dNext := ⟨pss_nil, fun A B M ρ σ H E D r q k => k.nx ρ M B σ H r .refl q⟩
theorem dss_cons (h1 : DS X K st t t') (h2 : DSs X K rest u u') : DSs X K (st :: rest) (tSeq t u) (dSeq t' u') :=
  ⟨pss_cons h1.ps h2.ps, fun A B M ρ σ H E D r q k => h1.sim A B M ρ σ H _ _ r q ⟨fun ρ' M' B' σ' H' r' f q' => h2.sim.ends r' f q' k, k.rt, k.rn, k.bk, k.ct⟩⟩
theorem dss_one (h : DS X K st t t') : DSs X K [st] t t' := ⟨pss_one h.ps, h.sim⟩
def dBreak : TSD := fun D ρ M => D.bk ρ M
def dCont : TSD := fun D ρ M => D.ct ρ M
theorem ds_pass : DS X K (.Pass pos) tNext dNext := ⟨ps_pass, fun A B M ρ σ H E D r q k => k.nx ρ M B σ H r .refl q⟩
theorem ds_break : DS X K (.Break pos) tBreak dBreak := ⟨ps_break, fun A B M ρ σ H E D r q k => k.bk ρ M B σ H r .refl q⟩
theorem ds_continue : DS X K (.Continue pos) tCont dCont := ⟨ps_continue, fun A B M ρ σ H E D r q k => k.ct ρ M B σ H r .refl q⟩
def dDrop (te' : TED) : TSD := fun D ρ M => te' ρ M fun _ ρ1 M1 => D.nx ρ1 M1
theorem ds_expr (h : DE X K e te te') (hs : swapsWith e none pos.line X.env = pure false := by rfl) : DS X K (.Expr e pos) (tDrop te) (dDrop te') :=
  ⟨ps_expr h.pe hs, fun A B M ρ σ H E D r q k => h.sim A B M ρ σ H _ _ r q fun d ρ' M' B' v H' r' f m hd q' => k.nx ρ' M' B' σ H' r' f q'⟩
def dRet (te' : TED) : TSD := fun D ρ M => te' ρ M fun d _ M1 => D.rt d M1
theorem ds_ret (h : DE X K e te te') : DS X K (.Return (some e) pos) (tRet te) (dRet te') :=
  ⟨ps_ret h.pe, fun A B M ρ σ H E D r q k => h.sim A B M ρ σ H _ _ r q fun d ρ' M' B' v H' r' f m hd q' => k.rt d v ρ' M' B' σ H' r' f hd q'⟩
/-- a new list is handed back -/
def dRetNew (tn' : TEN) : TSD := fun D ρ M => tn' ρ M fun ds _ M1 => D.rn ds M1
theorem ds_retNew (h : DN X K e te tn') : DS X K (.Return (some e) pos) (tRet te) (dRetNew tn') :=
  ⟨ps_ret h.pe, fun A B M ρ σ H E D r q k => h.sim A B M ρ σ H _ _ r q fun ds ρ' M' B' a vs H' r' f m hb hl hd q' => k.rn ds a vs ρ' M' B' σ H' r' f ⟨_, hb⟩ hl hd q'⟩
/-- a list of one's own is handed back -/
def dRetOwn (i : Nat) : TSD := fun D ρ M => ∃ ds, ρ[i]? = some (.own ds) ∧ D.rn ds M
theorem ds_retOwn (i : Nat) (hN : X.N[i]? = some x := by rfl) (hv : Vis X.env.scope x := by first | exact .inl rfl | exact .inr (.inl rfl) | exact .inr (.inr rfl)) (hd : (x == ("__debug__" : Str)) = false := by decide) (hcd : (x == ("__classdict__" : Str)) = false := by decide) {pos2 : Pos} :
    DS X K (.Return (some (.Name x pos2)) pos) (tRet (tVar i)) (dRetOwn i) :=
  ⟨ps_ret (pe_var hN hv hd hcd), fun A B M ρ σ H E D r q k => by
    obtain ⟨ds, e, q⟩ := q
    obtain ⟨v, ev, a, vs, hb, rfl, hl, hh⟩ := r.at e
    exact ⟨_, ev, k.rn ds a vs ρ M B σ H r .refl ⟨i, hb⟩ hl hh q⟩⟩
def dRetN : TSD := fun D _ M => D.rt .non M
theorem ds_retN : DS X K (.Return none pos) tRetN dRetN := ⟨ps_retN, fun A B M ρ σ H E D r q k => k.rt .non .non ρ M B σ H r .refl .non q⟩
def dIfS (c : TTD) (t u : TSD) : TSD := fun D ρ M => c ρ M fun b ρ1 M1 => if b = true then t D ρ1 M1 else u D ρ1 M1
theorem ds_if {c : Expr} {a b : List Stmt} {tc : TT} {tc' : TTD} (hc : DT X K c tc tc') (ha : DSs X K a t t') (hb : DSs X K b u u') : DS X K (.If c a b pos) (tIfS tc t u) (dIfS tc' t' u') :=
  ⟨ps_if hc.pt ha.ps hb.ps, fun A B M ρ σ H E D r q k => hc.sim A B M ρ σ H _ _ r q fun c ρ' M' B' H' r' f m q' => by
    cases c with
    | true => exact ha.sim.ends r' f q' k
    | false => exact hb.sim.ends r' f q' k⟩
def dNever : TSD := fun _ _ _ => False
theorem ds_never : DS X K st tNever dNever := ⟨ps_never, fun A B M ρ σ H E D r q k => q.elim⟩
theorem dss_never : DSs X K rest tNever dNever := ⟨pss_never, fun A B M ρ σ H E D r q k => q.elim⟩
/-! targets -/
def gdName (i : Nat) : D → TSD := fun d D ρ M => D.nx (ρ.set i (.val d)) M
theorem dg_name (i : Nat) (hN : X.N.Nodup) (hi : X.N[i]? = some x := by rfl) (hx : Loc X.env.scope x := by first | exact .inl rfl | exact .inr rfl) (hf : X.fn x = true ∨ X.env.scope.names.lookup x = some .local := by first | exact .inl rfl | exact .inr rfl | assumption) : DG X K (.Name x pos) (gName i) (gdName i) :=
  ⟨pg_name hN hi hx hf, fun A B M ρ σ H d v D Q r hd q k => k _ M B _ H (r.set hd) .refl q⟩
def gdNil : List D → TSD := fun ds D ρ M => ds = [] ∧ D.nx ρ M
def gdCons (t : D → TSD) (u : List D → TSD) : List D → TSD := fun ds D ρ M => ∃ d r, ds = d :: r ∧ t d { D with nx := fun ρ' M' => u r D ρ' M' } ρ M
theorem dgs_nil : DGs X K [] gNil gdNil := ⟨pgs_nil, fun A B M ρ σ H ds vs D Q r hd q k => by
  obtain ⟨rfl, q⟩ := q
  cases hd
  exact ⟨rfl, k ρ M B σ H r .refl q⟩⟩
theorem dgs_cons {es : List Expr} {tg : TG} {ug : TGs} {tg' : D → TSD} {ug' : List D → TSD} (h1 : DG X K e tg tg') (h2 : DGs X K es ug ug') (hs : (assignEach (e :: es) X.env).map (·.2) = assign e X.env :: (assignEach es X.env).map (·.2) := by rfl) : DGs X K (e :: es) (gCons tg ug) (gdCons tg' ug') :=
  ⟨pgs_cons h1.pg h2.pg hs, fun A B M ρ σ H ds vs D Q r hd q k => by
    obtain ⟨d, rr, rfl, q⟩ := q
    cases hd with
    | cons a b => exact ⟨_, _, rfl, h1.sim A B M ρ σ H d _ _ _ r a q fun ρ' M' B' σ' H' r' f q' => h2.sim A B' M' ρ' σ' H' rr _ D Q r' (b.fr f) q' fun ρ2 M2 B2 σ2 H2 r2 f2 q2 => k ρ2 M2 B2 σ2 H2 r2 (f.trans f2) q2⟩⟩
def gdTup (n : Nat) (t : List D → TSD) : D → TSD := fun d D ρ M => ∃ ds, d.tq = some ds ∧ ds.length = n ∧ t ds D ρ M
theorem dg_tup {es : List Expr} {k n : Nat} {tg : TGs} {tg' : List D → TSD} (h : DGs X K es tg tg') (hK : X.K = K := by rfl) (hc : X.calm = true := by rfl) (hn : (assignEach es X.env).length = n := by rfl) (hst : (assignEach es X.env).findIdx? (·.1) = none := by rfl) : DG X K (.Tuple es k pos) (gTup K n tg) (gdTup n tg') := by
  subst hK
  refine ⟨pg_tup hc h.pg hn hst, fun A B M ρ σ H d v D Q r hd q kk => ?_⟩
  obtain ⟨ds, e1, hl, q⟩ := q
  obtain ⟨a, vs, rfl, s, l⟩ := hd.tq e1
  exact ⟨a, vs, rfl, s, by rw [← l.length]; exact hl, h.sim A B M ρ σ H ds _ D Q r l q kk⟩
def dAsg (te' : TED) (g : D → TSD) : TSD := fun D ρ M => te' ρ M fun d ρ1 M1 => g d D ρ1 M1
theorem ds_asg {tg : Expr} {g : TG} {g' : D → TSD} (he : DE X K e te te') (hg : DG X K tg g g') (hs : swapsWithSole [tg] e pos.line X.env = pure false := by rfl) (hw : swappedStores [tg] e X.env = pure none := by rfl)
    (h1 : (assignEach [tg] X.env).map (·.2) = [assign tg X.env] := by rfl) : DS X K (.Assign [tg] e pos) (tAsg te g) (dAsg te' g') :=
  ⟨ps_asg he.pe hg.pg hs hw h1, fun A B M ρ σ H E D r q k => he.sim A B M ρ σ H _ _ r q fun d ρ' M' B' v H' r' f m hd q' => hg.sim A B' M' ρ' σ H' d v D _ r' hd q' fun ρ2 M2 B2 σ2 H2 r2 f2 q2 => k.nx ρ2 M2 B2 σ2 H2 r2 (f.trans f2) q2⟩
theorem ds_set (i : Nat) {pos' : Pos} (hN : X.N.Nodup) (he : DE X K e te te') (hi : X.N[i]? = some x := by rfl) (hx : Loc X.env.scope x := by first | exact .inl rfl | exact .inr rfl) (hs : swapsWith e (some (.Name x pos')) pos.line X.env = pure false := by rfl) (hf : X.fn x = true ∨ X.env.scope.names.lookup x = some .local := by first | exact .inl rfl | exact .inr rfl | assumption) :
    DS X K (.Assign [.Name x pos'] e pos) (tAsg te (gName i)) (dAsg te' (gdName i)) :=
  ⟨ps_set hN hi hx he.pe hs hf, fun A B M ρ σ H E D r q k => he.sim A B M ρ σ H _ _ r q fun d ρ' M' B' v H' r' f m hd q' => k.nx _ M' B' _ H' (r'.set hd) f q'⟩
/-- a new list to a name: it may be written -/
def dOwn (tn' : TEN) (i : Nat) : TSD := fun D ρ M => tn' ρ M fun ds ρ1 M1 => D.nx (ρ1.set i (.own ds)) M1
theorem sim_own (i : Nat) (h : SimN K te tn') : SimS K (tAsg te (gName i)) (dOwn tn' i) := fun A B M ρ σ H E D r q k => h A B M ρ σ H _ _ r q fun ds ρ' M' B' a vs H' r' f m hb hl hd q' => by
  obtain ⟨B2, r2, f2⟩ := r'.setOwn (i := i) hb hl hd
  exact k.nx _ M' B2 _ H' r2 (f.trans f2) q'
theorem ds_own (i : Nat) {pos' : Pos} (hN : X.N.Nodup) (he : DN X K e te tn') (hi : X.N[i]? = some x := by rfl) (hx : Loc X.env.scope x := by first | exact .inl rfl | exact .inr rfl) (hs : swapsWith e (some (.Name x pos')) pos.line X.env = pure false := by rfl) (hf : X.fn x = true ∨ X.env.scope.names.lookup x = some .local := by first | exact .inl rfl | exact .inr rfl | assumption) :
    DS X K (.Assign [.Name x pos'] e pos) (tAsg te (gName i)) (dOwn tn' i) := ⟨ps_set hN hi hx he.pe hs hf, sim_own i he.sim⟩
/-- a, b = x, y -/
def dPar (i j : Nat) (ta' : TAD) : TSD := fun D ρ M => ta' ρ M fun ds ρ1 M1 => ∃ d e, ds = [d, e] ∧ D.nx ((ρ1.set i (.val d)).set j (.val e)) M1
theorem ds_par (i j : Nat) {y : Str} {a b : Expr} {ta : TA} {ta' : TAD} {px py pt : Pos} {kt k2 pt2} (hN : X.N.Nodup) (ha : DA X K [a, b] ta ta') (hc : X.calm = true := by rfl) (hi : X.N[i]? = some x := by rfl) (hj : X.N[j]? = some y := by rfl) (hij : i ≠ j := by decide)
    (hx : X.env.scope.names.lookup x = some .local := by rfl) (hy : X.env.scope.names.lookup y = some .local := by rfl)
    (hw : swappedStores [.Tuple [.Name x px, .Name y py] kt pt] (.Tuple [a, b] k2 pt2) X.env = pure (some [x, y]) := by rfl)
    (hs : swapsWithSole [.Tuple [.Name x px, .Name y py] kt pt] (.Tuple [a, b] k2 pt2) pos.line X.env = pure false := by rfl) :
    DS X K (.Assign [.Tuple [.Name x px, .Name y py] kt pt] (.Tuple [a, b] k2 pt2) pos) (tPar i j ta) (dPar i j ta') :=
  ⟨ps_par hc hN hi hj hij hx hy ha.pa hw hs, fun A B M ρ σ H E D r q k => ha.sim A B M ρ σ H _ _ r q fun ds ρ' M' B' vs H' r' f m hd q' => by
    obtain ⟨d, e, rfl, q'⟩ := q'
    cases hd with
    | cons h1 h2 =>
      cases h2 with
      | cons h3 h4 =>
        cases h4
        exact ⟨_, _, rfl, k.nx _ M' B' _ H' ((r'.set h1).set h3) f q'⟩⟩
/-- name += e, of numbers -/
def dAug (i : Nat) (te' : TED) (g : Int → Int → Int) : TSD := fun D ρ M => ∃ a, ρ[i]? = some (.val (.int a)) ∧ te' ρ M fun d ρ1 M1 => ∃ b, d = .int b ∧ D.nx (ρ1.set i (.val (.int (g a b)))) M1
theorem ds_aug (i : Nat) {op : Operator} {g : Int → Int → Int} {pos' : Pos} (hN : X.N.Nodup) (he : DE X K e te te') (ho : PIp X op (ipI g)) (hi : X.N[i]? = some x := by rfl) (hx : Loc X.env.scope x := by first | exact .inl rfl | exact .inr rfl) (hf : X.fn x = true ∨ X.env.scope.names.lookup x = some .local := by first | exact .inl rfl | exact .inr rfl | assumption) :
    DS X K (.AugAssign (.Name x pos') op e pos) (tAug i te (ipI g)) (dAug i te' g) :=
  ⟨ps_aug hN hi hx he.pe ho hf, fun A B M ρ σ H E D r q k => by
    obtain ⟨a, e1, q⟩ := q
    obtain ⟨v, ev, y, rfl, hd⟩ := r.at e1
    cases hd
    refine ⟨_, ev, he.sim A B M ρ σ H _ _ r q fun d ρ' M' B' v H' r' f m hd q' => ?_⟩
    obtain ⟨b, rfl, q'⟩ := q'
    cases hd
    exact ⟨a, b, rfl, rfl, k.nx _ M' B' _ H' (r'.set (.int _)) f q'⟩⟩
end
end DM

namespace DM
open PySem PySem.Spec PyProof.Rows L2 TK
variable [Gd]
section
variable {X : Cx} {K : PySem.W.Frag} {st : Stmt} {t : TS} {t' u' : TSD} {e : Expr} {te : TE} {te' : TED} {tn' : TEN} {pos apos cpos pos2 : Pos} {x : Str}
/-- xs.append(e): a list of one's own -/
def dAppend (i : Nat) (te' : TED) : TSD := fun D ρ M => ∃ ds0, ρ[i]? = some (.own ds0) ∧ te' ρ M fun d ρ1 M1 => ∃ ds, ρ1[i]? = some (.own ds) ∧ ds.length < sizeLine ∧ D.nx (ρ1.set i (.own (ds ++ [d]))) M1
theorem sim_append (i : Nat) (h : SimE K te te') : SimS K (tDrop (tBM K "list" rAppend (tVar i) (tCons te tNil))) (dAppend i te') := fun A B M ρ σ H E D r q k => by
  obtain ⟨ds0, e0, q⟩ := q
  obtain ⟨v, ev, a, vs, hb, rfl, hl, _⟩ := r.at e0
  refine ⟨_, ev, Or.inl ⟨rfl, _, SqL.of hl⟩, h A B M ρ σ H _ _ r q fun d ρ1 M1 B1 y H1 r1 f1 m1 hd q1 => ?_⟩
  obtain ⟨ds, e1, hz, q1⟩ := q1
  obtain ⟨v1, ev1, a1, vs1, hb1, rfl, hl1, hds⟩ := r1.at e1
  rw [ev] at ev1
  cases ev1
  refine ⟨a, vs1, y, rfl, rfl, hl1, by rw [← hds.length]; exact hz, ?_⟩
  obtain ⟨r2, f2⟩ := r1.write e1 hb1 (hds.app (.one hd))
  exact k.nx _ M1 B1 σ _ r2 (f1.trans f2) q1
theorem ds_append (i : Nat) (he : DE X K e te te') (hN : X.N[i]? = some x := by rfl) (hv : Vis X.env.scope x := by first | exact .inl rfl | exact .inr (.inl rfl) | exact .inr (.inr rfl)) (hK : X.K = K := by rfl) (hd : (x == ("__debug__" : Str)) = false := by decide) (hcd : (x == ("__classdict__" : Str)) = false := by decide)
    (hbase : attributeBase (.Name x pos2) "append" X.env (eval (.Name x pos2) X.env) = eval (.Name x pos2) X.env := by rfl)
    (hfew : ((backTo cpos (starEach [e] X.env)).all (fun x => !x.1) && (backToKw cpos (keywordEach [] X.env)).all (fun x => x.1.isSome)
      && decide (([e] : List Expr).length + ([] : List Keyword).length + (if ([] : List Keyword).isEmpty then 0 else 1) < 30)) = true := by rfl)
    (hline : (apos.endLine == cpos.line) = true := by rfl) (hs : starEach [e] X.env = (false, eval e X.env) :: starEach [] X.env := by rfl) (hplain : (backTo cpos (starEach [] X.env)).any (·.1) = false := by rfl)
    (hsw : swapsWith (.Call (.Attribute (.Name x pos2) "append" apos) [e] [] cpos) none pos.line X.env = pure false := by rfl) :
    DS X K (.Expr (.Call (.Attribute (.Name x pos2) "append" apos) [e] [] cpos) pos) (tDrop (tBM K "list" rAppend (tVar i) (tCons te tNil))) (dAppend i te') := by
  subst hK
  exact ⟨ps_expr (pe_bm PySem.F.plainAttrs_list PySem.F.slot_list_append PySem.F.type_list_append mt_append (pe_var hN hv hd hcd) (pa_cons he.pe pa_nil hs) hbase hfew hline hs hplain) hsw, sim_append i he.sim⟩
/-- xs[k] = e: a list of one's own -/
def gdSetI (i : Nat) (ti' : TED) : D → TSD := fun d D ρ M => ∃ ds0, ρ[i]? = some (.own ds0) ∧ ti' ρ M fun c ρ1 M1 => ∃ ds k j, ρ1[i]? = some (.own ds) ∧ c = .int k ∧ ixN ds.length k = some j ∧ D.nx (ρ1.set i (.own (ds.set j d))) M1
theorem dg_setI (i : Nat) {ie : Expr} {ti : TE} {ti' : TED} (hi : DE X K ie ti ti') (hN : X.N[i]? = some x := by rfl) (hv : Vis X.env.scope x := by first | exact .inl rfl | exact .inr (.inl rfl) | exact .inr (.inr rfl)) (hd : (x == ("__debug__" : Str)) = false := by decide) (hcd : (x == ("__classdict__" : Str)) = false := by decide)
    (ha : ∀ v, assign (.Subscript (.Name x pos2) ie pos) X.env v = (do
      let ov ← holding [v] (eval (.Name x pos2) X.env)
      let iv ← holding [v, ov] (eval ie X.env)
      standAt pos
      holding [v, ov, iv] (setItem ov iv v)
      release [v, ov, iv] []) := by intro _; rfl) :
    DG X K (.Subscript (.Name x pos2) ie pos) (gSub (tVar i) ti rSetL) (gdSetI i ti') :=
  ⟨pg_sub (pe_var hN hv hd hcd) hi.pe set_list ha, fun A B M ρ σ H d v D Q r hd q k => by
    obtain ⟨ds0, e0, q⟩ := q
    obtain ⟨w, ev, a, vs, hb, rfl, hl, _⟩ := r.at e0
    refine ⟨_, ev, hi.sim A B M ρ σ H _ _ r q fun c ρ1 M1 B1 y H1 r1 f1 m1 hc q1 => ?_⟩
    obtain ⟨ds, kk, j, e1, rfl, hj, q1⟩ := q1
    cases hc
    obtain ⟨v1, ev1, a1, vs1, hb1, rfl, hl1, hds⟩ := r1.at e1
    rw [ev] at ev1
    cases ev1
    refine ⟨a, vs1, kk, j, rfl, rfl, hl1, by rw [← hds.length]; exact hj, ?_⟩
    obtain ⟨r2, f2⟩ := r1.write e1 hb1 (hds.set j (hd.fr f1))
    exact k _ M1 B1 σ _ r2 (f1.trans f2) q1⟩
/-- slot i is not written any more -/
def fzS (i : Nat) (ρ : Env) : Env := match ρ[i]? with
  | some (.own ds) => ρ.set i (.val (.lst ds))
  | _ => ρ
theorem ds_fz (i : Nat) (h : DS X K st t t') : DS X K st t (fun D ρ M => t' D (fzS i ρ) M) := ⟨h.ps, fun A B M ρ σ H E D r q k => by
  unfold fzS at q
  split at q
  case h_1 ds e =>
    obtain ⟨a, vs, _, _, _, r2, f, _⟩ := r.fz e
    exact h.sim.ends r2 f q k
  case h_2 => exact h.sim A B M ρ σ H E D r q k⟩
end
/-! what a for walks -/
abbrev TID := Env → Mm → (List D → Env → Mm → Prop) → Prop
structure ItIs (K : PySem.W.Frag) (J : It) (ds : List D) (Av0 : Addr → Prop) (H0 : Hp) : Prop where
  go : ∀ Av H, Fr Av0 Av H0 H → ∀ i, i < ds.length → J.go i H
  stop : ∀ Av H, Fr Av0 Av H0 H → J.stop ds.length H
  yld : ∀ Av H, Fr Av0 Av H0 H → ∀ i d x H', ds[i]? = some d → J.yld i H x H' → (H' = H ∧ Hd K Av H d x) ∨ (∃ p vs es, d = .tup es ∧ x = .ref p ∧ H p = none ∧ H' = upd H p (.tup vs) ∧ HdL K Av H es vs)
theorem ItIs.fr {K : PySem.W.Frag} {J : It} {ds : List D} {Av0 Av1 : Addr → Prop} {H0 H1 : Hp} (h : ItIs K J ds Av0 H0) (f : Fr Av0 Av1 H0 H1) : ItIs K J ds Av1 H1 :=
  ⟨fun Av H g => h.go Av H (f.trans g), fun Av H g => h.stop Av H (f.trans g), fun Av H g => h.yld Av H (f.trans g)⟩
def SimI (K : PySem.W.Frag) (t : TI) (t' : TID) : Prop := ∀ (A : CA) B M ρ σ H R Q', ER K A B M ρ σ H → t' ρ M Q' →
  (∀ ds ρ' M' B' J H', ER K A B' M' ρ' σ H' → Fr (Av A B M) (Av A B' M') H H' → FrM M M' H H' → ItIs K J ds (Av A B' M') H' → Q' ds ρ' M' → R J H') → t σ H R
structure DI (X : Cx) (K : PySem.W.Frag) (tg iter : Expr) (t : TI) (t' : TID) : Prop where
  pi : PI X tg iter t
  sim : SimI K t t'
section
variable {X : Cx} {K : PySem.W.Frag} {tg e l : Expr} {te tb : TE} {te' tb' : TED} {pos p tpos : Pos} {x : Str}
def diList (te' : TED) : TID := fun ρ M Q => te' ρ M fun d ρ1 M1 => ∃ ds, d.lq = some ds ∧ Q ds ρ1 M1
theorem Hd.list {Av : Addr → Prop} {H : Hp} {d : D} {ds : List D} {v : V} (h : Hd K Av H d v) (e : d.lq = some ds) : ∃ a vs, v = .ref a ∧ SqLa K Av H a vs ∧ HdL K Av H ds vs := by
  cases h with
  | @lst a vs _ n h l => cases e; exact ⟨a, vs, rfl, .inl ⟨n, .inl h⟩, l⟩
  | @kl a vs _ s l => cases e; exact ⟨a, vs, rfl, s, l⟩
  | _ => cases e
theorem itIs_list {Av : Addr → Prop} {H : Hp} {a : Addr} {vs : List V} {ds : List D} (s : SqLa K Av H a vs) (l : HdL K Av H ds vs) : ItIs K (Itl K a) ds Av H :=
  ⟨fun Av1 H1 f i hi => by
    obtain ⟨v, hv, _⟩ := l.get (List.getElem?_eq_getElem hi)
    exact ⟨vs, v, (s.fr f).sq, hv⟩,
   fun Av1 H1 f => ⟨vs, (s.fr f).sq, by rw [l.length]; exact Nat.le_refl _⟩,
   fun Av1 H1 f i d x H' hi y => by
    obtain ⟨rfl, y⟩ := y
    obtain ⟨v, hv, hd⟩ := l.get hi
    have := y vs (s.fr f).sq
    rw [hv] at this
    cases this
    exact .inl ⟨rfl, hd.fr f⟩⟩
theorem di_list (he : DE X K l te te') (hK : X.K = K := by rfl) : DI X K tg l (iList K te) (diList te') := by
  subst hK
  refine ⟨pi_list he.pe, fun A B M ρ σ H R Q' r q k => he.sim A B M ρ σ H _ _ r q fun d ρ1 M1 B1 v H1 r1 f1 m1 hd q1 => ?_⟩
  obtain ⟨ds, e1, q1⟩ := q1
  obtain ⟨a, vs, rfl, s, l⟩ := hd.list e1
  exact ⟨a, rfl, ⟨vs, s.sq⟩, k ds ρ1 M1 B1 _ H1 r1 f1 m1 (itIs_list s l) q1⟩
def diTup (te' : TED) : TID := fun ρ M Q => te' ρ M fun d ρ1 M1 => ∃ ds, d.tq = some ds ∧ Q ds ρ1 M1
theorem Hd.tqa {Av : Addr → Prop} {H : Hp} {d : D} {ds : List D} {v : V} (h : Hd K Av H d v) (e : d.tq = some ds) : ∃ a vs, v = .ref a ∧ SqTa K Av H a vs ∧ HdL K Av H ds vs := by
  cases h with
  | @tup a vs _ n s l => cases e; exact ⟨a, vs, rfl, .inl ⟨n, .inl s⟩, l⟩
  | @kt a vs _ s l => cases e; exact ⟨a, vs, rfl, s, l⟩
  | _ => cases e
theorem di_tup (he : DE X K l te te') (hK : X.K = K := by rfl) : DI X K tg l (iTup K te) (diTup te') := by
  subst hK
  refine ⟨pi_tup he.pe, fun A B M ρ σ H R Q' r q k => he.sim A B M ρ σ H _ _ r q fun d ρ1 M1 B1 v H1 r1 f1 m1 hd q1 => ?_⟩
  obtain ⟨ds, e1, q1⟩ := q1
  obtain ⟨a, vs, rfl, s, l⟩ := hd.tqa e1
  refine ⟨a, rfl, ⟨vs, s.sq⟩, k ds ρ1 M1 B1 _ H1 r1 f1 m1 ⟨fun Av1 H1 f i hi => ?_, fun Av1 H1 f => ⟨vs, (s.fr f).sq, by rw [l.length]; exact Nat.le_refl _⟩, fun Av1 H1 f i d x H' hi y => ?_⟩ q1⟩
  · obtain ⟨v, hv, _⟩ := l.get (List.getElem?_eq_getElem hi)
    exact ⟨vs, v, (s.fr f).sq, hv⟩
  · obtain ⟨rfl, y⟩ := y
    obtain ⟨v, hv, hd⟩ := l.get hi
    have := y vs (s.fr f).sq
    rw [hv] at this
    cases this
    exact .inl ⟨rfl, hd.fr f⟩
/-- lo, lo + 1, .. -/
def rng (lo : Int) (n : Nat) : List D := (List.range n).map fun (k : Nat) => D.int (lo + (k : Int))
theorem rng_len (lo : Int) (n : Nat) : (rng lo n).length = n := by unfold rng; rw [List.length_map, List.length_range]
theorem rng_get {lo : Int} {n i : Nat} {d : D} (h : (rng lo n)[i]? = some d) : i < n ∧ d = .int (lo + (i : Int)) := by
  have h1 := (List.getElem?_eq_some_iff.mp h).1
  rw [rng_len] at h1
  unfold rng at h
  rw [List.getElem?_map, List.getElem?_range h1] at h
  cases h
  exact ⟨h1, rfl⟩
theorem itIs_rng {Av : Addr → Prop} {H : Hp} {lo : Int} {n : Nat} : ItIs K (Itr lo n) (rng lo n) Av H :=
  ⟨fun _ _ _ i hi => by rw [rng_len] at hi; exact hi, fun _ _ _ => by rw [rng_len]; exact Nat.le_refl _, fun Av1 H1 f i d x H' hi y => by
    obtain ⟨rfl, rfl⟩ := y
    obtain ⟨_, rfl⟩ := rng_get hi
    exact .inl ⟨rfl, .int _⟩⟩
def diRng1 (ta' : TED) : TID := fun ρ M Q => ta' ρ M fun d ρ1 M1 => ∃ j, d = .int j ∧ -(2 ^ 62) ≤ j ∧ j < 2 ^ 62 ∧ Q (rng 0 j.toNat) ρ1 M1
theorem di_rng1 {a : Expr} (hg : Gl X "range") (hm : X.mg "range" = none) (ha : DE X K a te te') (hs : starEach [a] X.env = [(false, eval a X.env)] := by rfl) : DI X K tg (.Call (.Name "range" p) [a] [] pos) (iRng1 (tCons te tNil)) (diRng1 te') :=
  ⟨pi_range1 hg hm (pa_cons ha.pe pa_nil hs) hs, fun A B M ρ σ H R Q' r q k => ha.sim A B M ρ σ H _ _ r q fun d ρ1 M1 B1 v H1 r1 f1 m1 hd q1 => by
    obtain ⟨j, rfl, h0, h1, q1⟩ := q1
    cases hd
    exact ⟨j, rfl, h0, h1, k _ ρ1 M1 B1 _ H1 r1 f1 m1 itIs_rng q1⟩⟩
def diRng2 (ta' tb' : TED) : TID := fun ρ M Q => ta' ρ M fun d ρ1 M1 => tb' ρ1 M1 fun e ρ2 M2 => ∃ i j, d = .int i ∧ e = .int j ∧ (-(2 ^ 62) ≤ i ∧ i < 2 ^ 62 ∧ -(2 ^ 62) ≤ j ∧ j < 2 ^ 62) ∧ Q (rng i (j - i).toNat) ρ2 M2
theorem di_rng2 {a b : Expr} (hg : Gl X "range") (hm : X.mg "range" = none) (ha : DE X K a te te') (hb : DE X K b tb tb') (hs : starEach [a, b] X.env = [(false, eval a X.env), (false, eval b X.env)] := by rfl) (hs2 : starEach [b] X.env = [(false, eval b X.env)] := by rfl) :
    DI X K tg (.Call (.Name "range" p) [a, b] [] pos) (iRng2 (tCons te (tCons tb tNil))) (diRng2 te' tb') :=
  ⟨pi_range2 hg hm (pa_cons ha.pe (pa_cons hb.pe pa_nil hs2) (by rw [hs, hs2])) hs hs2, fun A B M ρ σ H R Q' r q k => ha.sim A B M ρ σ H _ _ r q fun d ρ1 M1 B1 v H1 r1 f1 m1 hd q1 => hb.sim A B1 M1 ρ1 σ H1 _ _ r1 q1 fun e ρ2 M2 B2 w H2 r2 f2 m2 he q2 => by
    obtain ⟨i, j, rfl, rfl, hij, q2⟩ := q2
    cases hd
    cases he
    exact ⟨i, j, rfl, hij, k _ ρ2 M2 B2 _ H2 r2 (f1.trans f2) (m1.trans m2) itIs_rng q2⟩⟩
/-- zip: pairs -/
def zipD (ds es : List D) : List D := (ds.zip es).map fun p => .tup [p.1, p.2]
theorem zipD_get {ds es : List D} {i : Nat} {d : D} (h : (zipD ds es)[i]? = some d) : ∃ a b, ds[i]? = some a ∧ es[i]? = some b ∧ d = .tup [a, b] := by
  unfold zipD at h
  rw [List.getElem?_map] at h
  cases q : (ds.zip es)[i]? with
  | none => rw [q] at h; cases h
  | some p =>
    rw [q] at h
    cases h
    obtain ⟨h1, h2⟩ := List.getElem?_zip_eq_some.mp q
    exact ⟨p.1, p.2, h1, h2, rfl⟩
def diZip (ta' tb' : TED) : TID := fun ρ M Q => ta' ρ M fun d ρ1 M1 => tb' ρ1 M1 fun e ρ2 M2 => ∃ ds es, d.lq = some ds ∧ e.lq = some es ∧ Q (zipD ds es) ρ2 M2
theorem di_zip {a b : Expr} {elts : List Expr} {kk : Nat} (hg : Gl X "zip") (hm : X.mg "zip" = none) (ha : DE X K a te te') (hb : DE X K b tb tb') (hs : starEach [a, b] X.env = (false, eval a X.env) :: starEach [b] X.env := by rfl) (hs2 : starEach [b] X.env = (false, eval b X.env) :: starEach [] X.env := by rfl) (hpl : (backTo pos (starEach [b] X.env)).any (·.1) = false := by rfl) (hK : X.K = K := by rfl) :
    DI X K (.Tuple elts kk tpos) (.Call (.Name "zip" p) [a, b] [] pos) (iZip K (tCons te (tCons tb tNil))) (diZip te' tb') := by
  subst hK
  refine ⟨pi_zip hg hm (pa_cons ha.pe (pa_cons hb.pe pa_nil hs2) hs) hs hpl, fun A B M ρ σ H R Q' r q k => ha.sim A B M ρ σ H _ _ r q fun d ρ1 M1 B1 v H1 r1 f1 m1 hd q1 => hb.sim A B1 M1 ρ1 σ H1 _ _ r1 q1 fun e ρ2 M2 B2 w H2 r2 f2 m2 he q2 => ?_⟩
  obtain ⟨ds, es, e1, e2, q2⟩ := q2
  obtain ⟨a, vs, rfl, s, l⟩ := (hd.fr f2).list e1
  obtain ⟨b, us, rfl, s2, l2⟩ := he.list e2
  refine ⟨a, b, vs, us, rfl, s.sq, s2.sq, k _ ρ2 M2 B2 _ H2 r2 (f1.trans f2) (m1.trans m2) ⟨fun Av1 H1 f i hi => ?_, fun Av1 H1 f => ?_, fun Av1 H1 f i d x H' hi y => ?_⟩ q2⟩
  · obtain ⟨c1, c2, g1, g2, _⟩ := zipD_get (List.getElem?_eq_getElem hi)
    obtain ⟨v, hv, _⟩ := l.get g1
    obtain ⟨u, hu, _⟩ := l2.get g2
    exact ⟨vs, us, v, u, (s.fr f).sq, (s2.fr f).sq, hv, hu⟩
  · refine ⟨vs, us, (s.fr f).sq, (s2.fr f).sq, ?_⟩
    unfold zipD
    rw [List.length_map, List.length_zip, ← l.length, ← l2.length]
    omega
  · obtain ⟨p, v, u, rfl, hp, rfl, y1, y2⟩ := y
    obtain ⟨c1, c2, g1, g2, rfl⟩ := zipD_get hi
    obtain ⟨v', hv, hd1⟩ := l.get g1
    obtain ⟨u', hu, hd2⟩ := l2.get g2
    have := y1 vs (s.fr f).sq
    rw [hv] at this
    cases this
    have := y2 us (s2.fr f).sq
    rw [hu] at this
    cases this
    exact .inr ⟨p, _, _, rfl, rfl, hp, rfl, .cons (hd1.fr f) (.cons (hd2.fr f) .nil)⟩
/-- enumerate -/
def enumD (ds : List D) : List D := zipD (rng 0 ds.length) ds
theorem enumD_get {ds : List D} {i : Nat} {d : D} (h : (enumD ds)[i]? = some d) : ∃ a, ds[i]? = some a ∧ d = .tup [.int (i : Nat), a] := by
  obtain ⟨a, b, h1, h2, rfl⟩ := zipD_get h
  obtain ⟨_, rfl⟩ := rng_get h1
  exact ⟨b, h2, by rw [Int.zero_add]⟩
theorem enumD_len (ds : List D) : (enumD ds).length = ds.length := by
  unfold enumD zipD
  rw [List.length_map, List.length_zip, rng_len, Nat.min_self]
def diEnum (ta' : TED) : TID := fun ρ M Q => ta' ρ M fun d ρ1 M1 => ∃ ds, d.lq = some ds ∧ Q (enumD ds) ρ1 M1
theorem di_enum {a : Expr} {elts : List Expr} {kk : Nat} (hg : Gl X "enumerate") (hm : X.mg "enumerate" = none) (ha : DE X K a te te') (hs : starEach [a] X.env = [(false, eval a X.env)] := by rfl) (hK : X.K = K := by rfl) :
    DI X K (.Tuple elts kk tpos) (.Call (.Name "enumerate" p) [a] [] pos) (iEnum K (tCons te tNil)) (diEnum te') := by
  subst hK
  refine ⟨pi_enum hg hm (pa_cons ha.pe pa_nil hs) hs, fun A B M ρ σ H R Q' r q k => ha.sim A B M ρ σ H _ _ r q fun d ρ1 M1 B1 v H1 r1 f1 m1 hd q1 => ?_⟩
  obtain ⟨ds, e1, q1⟩ := q1
  obtain ⟨a, vs, rfl, s, l⟩ := hd.list e1
  refine ⟨a, vs, rfl, s.sq, k _ ρ1 M1 B1 _ H1 r1 f1 m1 ⟨fun Av1 H1 f i hi => ?_, fun Av1 H1 f => ?_, fun Av1 H1 f i d x H' hi y => ?_⟩ q1⟩
  · obtain ⟨c, g1, _⟩ := enumD_get (List.getElem?_eq_getElem hi)
    obtain ⟨v, hv, _⟩ := l.get g1
    exact ⟨vs, v, (s.fr f).sq, hv⟩
  · exact ⟨vs, (s.fr f).sq, by rw [enumD_len, l.length]; exact Nat.le_refl _⟩
  · obtain ⟨p, v, rfl, hp, rfl, y1⟩ := y
    obtain ⟨c, g1, rfl⟩ := enumD_get hi
    obtain ⟨v', hv, hd1⟩ := l.get g1
    have := y1 vs (s.fr f).sq
    rw [hv] at this
    cases this
    exact .inr ⟨p, _, _, rfl, rfl, hp, rfl, .cons (.int _) (.cons (hd1.fr f) .nil)⟩
end
/-! for, while -/
section
variable {X : Cx} {K : PySem.W.Frag} {tg iter : Expr} {wi : TI} {wi' : TID} {g : TG} {g' : D → TSD} {body : List Stmt} {tb : TS} {tb' : TSD} {pos : Pos}
def dFor (wi' : TID) (g' : D → TSD) (tb' : TSD) : TSD := fun D ρ M => wi' ρ M fun ds ρ1 M1 => ∃ Pv : Nat → Env → Mm → Prop, Pv 0 ρ1 M1 ∧
  (∀ i d ρ M, ds[i]? = some d → Pv i ρ M → g' d { D with nx := fun ρ2 M2 => tb' { D with nx := Pv (i + 1), ct := Pv (i + 1), bk := D.nx } ρ2 M2 } ρ M) ∧ ∀ ρ M, Pv ds.length ρ M → D.nx ρ M
theorem ER.tup {A : CA} {B : Nat → Option Addr} {M : Mm} {ρ : Env} {σ : L2.St} {H H' : Hp} {d : D} {x : V} (r : ER K A B M ρ σ H) (h : (H' = H ∧ Hd K (Av A B M) H d x) ∨ (∃ p vs es, d = .tup es ∧ x = .ref p ∧ H p = none ∧ H' = upd H p (.tup vs) ∧ HdL K (Av A B M) H es vs)) :
    ER K A B M ρ σ H' ∧ Fr (Av A B M) (Av A B M) H H' ∧ FrM M M H H' ∧ Hd K (Av A B M) H' d x := by
  rcases h with ⟨rfl, h⟩ | ⟨p, vs, es, rfl, rfl, hp, rfl, h⟩
  · exact ⟨r, .refl, .refl, h⟩
  · obtain ⟨r2, f2, m2, np, _⟩ := r.new (o := .tup vs) hp
    exact ⟨r2, f2, m2, .tup np upd_same (h.fr f2)⟩
theorem ds_for (hp : PassesOwn (model X.prog X.w) X.A X.env X.xe) (hi : DI X K tg iter wi wi') (hg : DG X K tg g g') (hb : DSs X K body tb tb') (hc : X.calm = true := by rfl) (hs : ∀ x, foldedSetIterable iter X.env x = pure x := by intro _; rfl) :
    DS X K (.For tg iter body [] pos) (tFor wi g tb) (dFor wi' g' tb') := by
  refine ⟨ps_for hp hc hi.pi hg.pg hb.ps hs, fun A B M ρ σ H E D r q k => hi.sim A B M ρ σ H _ _ r q fun ds ρ1 M1 B1 J H1 r1 f1 m1 it q1 => ?_⟩
  obtain ⟨Pv, p0, step, done⟩ := q1
  refine ⟨fun i m σ' H' => m = ds.length - i ∧ i ≤ ds.length ∧ ∃ ρ' M' B', ER K A B' M' ρ' σ' H' ∧ Fr (Av A B1 M1) (Av A B' M') H1 H' ∧ Pv i ρ' M', ⟨_, rfl, Nat.zero_le _, ρ1, M1, B1, r1, .refl, p0⟩, ?_⟩
  rintro i m σ' H' ⟨rfl, hi', ρ', M', B', r', f', pv⟩
  by_cases hlt : i < ds.length
  · refine .inr ⟨it.go _ _ f' i hlt, fun σ2 H2 => ∃ ρ2 M2 B2, ER K A B2 M2 ρ2 σ2 H2 ∧ Fr (Av A B1 M1) (Av A B2 M2) H1 H2 ∧ Pv (i + 1) ρ2 M2, fun σ2 H2 h2 => ⟨_, by omega, rfl, hlt, h2⟩, fun x H2 y => ?_⟩
    obtain ⟨r2, f2, _, hd⟩ := r'.tup (it.yld _ _ f' i _ x H2 (List.getElem?_eq_getElem hlt) y)
    refine hg.sim A B' M' ρ' σ' H2 _ x _ _ r2 hd (step i _ ρ' M' (List.getElem?_eq_getElem hlt) pv) fun ρ3 M3 B3 σ3 H3 r3 f3 q3 => ?_
    have f13 := (f'.trans f2).trans f3
    refine hb.sim A B3 M3 ρ3 σ3 H3 _ _ r3 q3 ⟨fun ρ4 M4 B4 σ4 H4 r4 f4 p4 => ⟨ρ4, M4, B4, r4, f13.trans f4, p4⟩, fun d v ρ4 M4 B4 σ4 H4 r4 f4 h4 q4 => k.rt d v ρ4 M4 B4 σ4 H4 r4 ((f1.trans f13).trans f4) h4 q4,
      fun ds a vs ρ4 M4 B4 σ4 H4 r4 f4 i4 l4 h4 q4 => k.rn ds a vs ρ4 M4 B4 σ4 H4 r4 ((f1.trans f13).trans f4) i4 l4 h4 q4, fun ρ4 M4 B4 σ4 H4 r4 f4 p4 => k.nx ρ4 M4 B4 σ4 H4 r4 ((f1.trans f13).trans f4) p4, fun ρ4 M4 B4 σ4 H4 r4 f4 p4 => ⟨ρ4, M4, B4, r4, f13.trans f4, p4⟩⟩
  · have e : i = ds.length := by omega
    subst e
    exact .inl ⟨it.stop _ _ f', k.nx ρ' M' B' σ' H' r' (f1.trans f') (done ρ' M' pv)⟩
def dWhile (c' : TTD) (tb' : TSD) : TSD := fun D ρ M => ∃ Pv : Nat → Env → Mm → Prop, (∃ m, Pv m ρ M) ∧ ∀ m ρ M, Pv m ρ M → c' ρ M fun b ρ1 M1 => if b = true then
  tb' { D with nx := fun ρ M => ∃ m', m' < m ∧ Pv m' ρ M, ct := fun ρ M => ∃ m', m' < m ∧ Pv m' ρ M, bk := D.nx } ρ1 M1 else D.nx ρ1 M1
theorem ds_while {c : Expr} {tc : TT} {tc' : TTD} (hp : PassesOwn (model X.prog X.w) X.A X.env X.xe) (hc : DT X K c tc tc') (hb : DSs X K body tb tb') : DS X K (.While c body [] pos) (tWhile tc tb) (dWhile tc' tb') := by
  refine ⟨ps_while hp hc.pt hb.ps, fun A B M ρ σ H E D r q k => ?_⟩
  obtain ⟨Pv, ⟨m0, p0⟩, step⟩ := q
  refine ⟨fun m σ' H' => ∃ ρ' M' B', ER K A B' M' ρ' σ' H' ∧ Fr (Av A B M) (Av A B' M') H H' ∧ Pv m ρ' M', ⟨m0, ρ, M, B, r, .refl, p0⟩, ?_⟩
  rintro m σ' H' ⟨ρ', M', B', r', f', pv⟩
  refine hc.sim A B' M' ρ' σ' H' _ _ r' (step m ρ' M' pv) fun b ρ2 M2 B2 H2 r2 f2 _ q2 => ?_
  cases b with
  | false => exact k.nx ρ2 M2 B2 σ' H2 r2 (f'.trans f2) q2
  | true =>
    have f13 := f'.trans f2
    refine ⟨fun σ3 H3 => ∃ m', m' < m ∧ ∃ ρ3 M3 B3, ER K A B3 M3 ρ3 σ3 H3 ∧ Fr (Av A B M) (Av A B3 M3) H H3 ∧ Pv m' ρ3 M3, fun σ3 H3 h3 => h3, ?_⟩
    exact hb.sim A B2 M2 ρ2 σ' H2 _ _ r2 q2 ⟨fun ρ4 M4 B4 σ4 H4 r4 f4 ⟨m', hm, p4⟩ => ⟨m', hm, ρ4, M4, B4, r4, f13.trans f4, p4⟩, fun d v ρ4 M4 B4 σ4 H4 r4 f4 h4 q4 => k.rt d v ρ4 M4 B4 σ4 H4 r4 (f13.trans f4) h4 q4,
      fun ds a vs ρ4 M4 B4 σ4 H4 r4 f4 i4 l4 h4 q4 => k.rn ds a vs ρ4 M4 B4 σ4 H4 r4 (f13.trans f4) i4 l4 h4 q4, fun ρ4 M4 B4 σ4 H4 r4 f4 p4 => k.nx ρ4 M4 B4 σ4 H4 r4 (f13.trans f4) p4, fun ρ4 M4 B4 σ4 H4 r4 f4 ⟨m', hm, p4⟩ => ⟨m', hm, ρ4, M4, B4, r4, f13.trans f4, p4⟩⟩
end
/-! a def -/
def startD (N : List Str) (ds : List D) : Env := ds.map .val ++ List.replicate (N.length - ds.length) .un
theorem start_er {K : PySem.W.Frag} {A : CA} {M : Mm} {H : Hp} {N : List Str} {ds : List D} {vs : List V} (o : ROk K A M H) (h : HdL K (Avc A M) H ds vs) (g : Gd.F A (Avc A M) H) : ER K A (fun _ => none) M (startD N ds) (L2.start N vs) H := by
  refine ⟨?_, fun i s v e1 e2 => ?_, fun i j a e _ => (nomatch e), o.ob, fun b hb => ?_, fun i a e => (nomatch e), o.sep, fun i a e => (nomatch e), o.sn, o.md, g⟩
  · unfold startD L2.start
    rw [List.length_append, List.length_append, List.length_map, List.length_map, List.length_replicate, List.length_replicate, h.length]
  · unfold startD at e1
    unfold L2.start at e2
    by_cases hi : i < ds.length
    · rw [List.getElem?_append_left (by rw [List.length_map]; exact hi), List.getElem?_map, List.getElem?_eq_getElem hi] at e1
      rw [List.getElem?_append_left (by rw [List.length_map, ← h.length]; exact hi), List.getElem?_map] at e2
      obtain ⟨w, hw, hd⟩ := h.get (List.getElem?_eq_getElem hi)
      rw [hw] at e2
      cases e1
      cases e2
      exact ⟨w, rfl, hd⟩
    · rw [List.getElem?_append_right (by rw [List.length_map]; omega)] at e1
      have := List.mem_of_getElem? e1
      rw [List.eq_of_mem_replicate this]
      trivial
  · rcases hb with hb | ⟨i, hb⟩ | hb
    · cases q : A.h b with
      | none => exact absurd q hb
      | some u => rw [o.sn b u q]; simp
    · cases hb
    · exact o.tr b hb
/-- what a body's end hands to the caller -/
theorem ends_of {K : PySem.W.Frag} {A : CA} {M : Mm} {H : Hp} {Q : VK} (o : ROk K A M H) (hd : ∀ b, M b ≠ none → A.d b) :
    EndsOk K A (Avc A M) H ⟨(fun _ M' => ∀ v H', ROk K A M' H' → FrM M M' H H' → Hd K (Avc A M') H' .non v → Q v H'), (fun d M' => ∀ v H', ROk K A M' H' → FrM M M' H H' → Hd K (Avc A M') H' d v → Q v H'),
      (fun es M' => ∀ a us H', H a = none → ROk K (A.add a (.lst us)) M' H' → FrM M M' H H' → HdL K (Avc (A.add a (.lst us)) M') H' es us → Q (.ref a) H'), (fun _ _ => False), (fun _ _ => False)⟩ { nx := fun _ H' => Q .non H', rt := Q } := by
  have less : ∀ {M' : Mm} {B : Nat → Option Addr} {b : Addr}, Avc A M' b → Av A B M' b := fun h => by
    rcases h with h | ⟨i, h⟩ | h
    · exact .inl h
    · cases h
    · exact .inr (.inr h)
  have rok : ∀ {ρ M' B σ H'}, ER K A B M' ρ σ H' → ROk K A M' H' := fun r => ⟨fun a mo e => (r.ob a mo e).fr (.less fun b => less) fun _ h => h, fun b h => r.tr b (.inr (.inr h)), r.sepA, r.sn, r.md⟩
  have frm : ∀ {ρ M' B σ H'}, ER K A B M' ρ σ H' → Fr (Avc A M) (Av A B M') H H' → FrM M M' H H' := fun {ρ M' B σ H'} r f b u n e => by
    cases q : A.h b with
    | some w =>
      have e1 := o.sn b w q
      rw [e] at e1
      cases e1
      exact ⟨r.sn b _ q, r.sepA b (by rw [q]; simp)⟩
    | none =>
      obtain ⟨h1, h2⟩ := f b u (by rintro (h | ⟨i, h⟩ | h); exact h q; cases h; exact h n) e
      exact ⟨h1, none_of_not_av h2⟩
  refine ⟨fun ρ M' B σ H' r f q => q _ _ (rok r) (frm r f) .non, fun d v ρ M' B σ H' r f h q => q v H' (rok r) (frm r f) (h.fr (.less fun b => less)), fun ds a vs ρ M' B σ H' r f hi hl h q => ?_, fun _ _ _ _ _ _ _ z => z.elim, fun _ _ _ _ _ _ _ z => z.elim⟩
  obtain ⟨i, hi⟩ := hi
  have aa : A.h a = none := r.sepB i a hi
  have ma : M' a = none := r.sepM i a hi
  have hn : H a = none := by
    cases e : H a with
    | none => rfl
    | some u =>
      have q : M a = none := by
        cases q : M a with
        | none => rfl
        | some mo => exact absurd ma (r.md a (hd a (by rw [q]; simp)))
      exact absurd (.inr (.inl ⟨i, hi⟩)) (f a u (by rintro (h | ⟨j, h⟩ | h); exact h aa; cases h; exact h q) e).2
  have avl : ∀ b, Avc (A.add a (.lst vs)) M' b → Av A B M' b := fun b h => by
    rcases h with h | ⟨j, h⟩ | h
    · by_cases e : b = a
      · subst e; exact .inr (.inl ⟨i, hi⟩)
      · refine .inl fun q => h ?_
        show upd _ _ _ b = none
        rw [upd_ne e]
        exact q
    · cases h
    · exact .inr (.inr h)
  refine q a vs H' hn ⟨fun c mo e => (r.ob c mo e).fr (.less avl) fun _ h => h, fun b h => r.tr b (.inr (.inr h)), fun c h => ?_, fun b u e => ?_, r.md⟩ (frm r f) (h.fr (.less avl))
  · by_cases e : c = a
    · subst e; exact ma
    · refine r.sepA c fun q => h ?_
      show upd _ _ _ c = none
      rw [upd_ne e]
      exact q
  · by_cases e2 : b = a
    · subst e2
      have e : upd A.h b (.lst vs) b = some u := e
      rw [upd_same] at e
      cases e
      exact hl
    · have e : upd A.h a (.lst vs) b = some u := e
      rw [upd_ne e2] at e
      exact r.sn b u e
end DM

namespace DM
open PySem PySem.Spec PyProof.Rows L2 TK
variable [Gd]
def wipeD (ρ : Env) : List Nat → Env
  | [] => ρ
  | v :: vs => (wipeD ρ vs).set v .un
section
variable {K : PySem.W.Frag} {A : CA} {B : Nat → Option Addr} {M : Mm} {ρ : Env} {σ : L2.St} {H : Hp}
theorem ER.wipe (r : ER K A B M ρ σ H) : ∀ vs : List Nat, ER K A B M (wipeD ρ vs) (wipe σ vs) H
  | [] => r
  | v :: vs => (ER.wipe r vs).unset
theorem wipeD_length (ρ : Env) : ∀ vs : List Nat, (wipeD ρ vs).length = ρ.length
  | [] => rfl
  | v :: vs => by unfold wipeD; rw [List.length_set, wipeD_length ρ vs]
theorem wipeD_own {i : Nat} {ds : List D} : ∀ {vs : List Nat}, (wipeD ρ vs)[i]? = some (.own ds) → ρ[i]? = some (.own ds) ∧ i ∉ vs
  | [], h => ⟨h, by simp⟩
  | v :: vs, h => by
    unfold wipeD at h
    by_cases hi : v = i
    · subst hi
      by_cases hl : v < (wipeD ρ vs).length
      · rw [List.getElem?_set_self hl] at h; cases h
      · rw [List.set_eq_of_length_le (by omega), List.getElem?_eq_none (by omega)] at h
        cases h
    · rw [List.getElem?_set_ne hi] at h
      obtain ⟨h1, h2⟩ := wipeD_own h
      exact ⟨h1, fun m => (List.mem_cons.mp m).elim (fun e => hi e.symm) h2⟩
theorem wipeD_out {i : Nat} : ∀ {vs : List Nat}, i ∉ vs → (wipeD ρ vs)[i]? = ρ[i]?
  | [], _ => rfl
  | v :: vs, h => by
    have h1 : v ≠ i := fun e => h (by rw [e]; exact List.mem_cons_self)
    unfold wipeD
    rw [List.getElem?_set_ne h1]
    exact wipeD_out fun m => h (List.mem_cons_of_mem _ m)
/-- the places of the lists of one's own alone -/
def canon (ρ : Env) (B : Nat → Option Addr) : Nat → Option Addr := fun i => match ρ[i]? with
  | some (.own _) => B i
  | _ => none
theorem canon_some {i : Nat} {a : Addr} (h : canon ρ B i = some a) : B i = some a ∧ ∃ ds, ρ[i]? = some (.own ds) := by
  unfold canon at h
  split at h
  case h_1 ds e => exact ⟨h, ds, e⟩
  case h_2 => cases h
theorem canon_own {i : Nat} {ds : List D} (h : ρ[i]? = some (.own ds)) : canon ρ B i = B i := by
  unfold canon
  rw [h]
theorem ER.can (r : ER K A B M ρ σ H) : ER K A (canon ρ B) M ρ σ H ∧ Fr (Av A B M) (Av A (canon ρ B) M) H H := by
  have less : ∀ b, Av A (canon ρ B) M b → Av A B M b := fun b h => by
    rcases h with h | ⟨i, h⟩ | h
    · exact .inl h
    · exact .inr (.inl ⟨i, (canon_some h).1⟩)
    · exact .inr (.inr h)
  have f : Fr (Av A B M) (Av A (canon ρ B) M) H H := .less less
  refine ⟨⟨r.len, fun i s v e1 e2 => ?_, fun i j a e1 e2 => r.inj i j a (canon_some e1).1 (canon_some e2).1, fun a mo e => (r.ob a mo e).fr f fun _ h => h, fun b h => r.tr b (less b h), fun i a e => r.sepM i a (canon_some e).1, r.sepA, fun i a e => r.sepB i a (canon_some e).1, r.sn, r.md, Gd.cl f r.gd⟩, f⟩
  have h := r.sl i s v e1 e2
  cases s with
  | un => trivial
  | val d => obtain ⟨x, e, q⟩ := h; exact ⟨x, e, q.fr f⟩
  | own ds => obtain ⟨a, vs, e, ev, hl, q⟩ := h; exact ⟨a, vs, by rw [canon_own e1]; exact e, ev, hl, q.fr f⟩
/-- another hand's list is kept from us -/
theorem ER.hide (r : ER K A B M ρ σ H) {D : Addr} {vs : List V} (hD : H D = none) : ER K (A.add D (.lst vs)) B M ρ σ (upd H D (.lst vs)) ∧ Fr (Av A B M) (Av (A.add D (.lst vs)) B M) H (upd H D (.lst vs)) ∧ FrM M M H (upd H D (.lst vs)) := by
  obtain ⟨r1, f1, m1, np, mp⟩ := r.new (o := .lst vs) hD
  have aD : A.h D = none := by
    cases q : A.h D with
    | none => rfl
    | some u => rw [r.sn D u q] at hD; cases hD
  have av : ∀ b, Av (A.add D (.lst vs)) B M b → Av A B M b ∨ b = D := fun b h => by
    rcases h with h | h | h
    · by_cases e : b = D
      · exact .inr e
      · refine .inl (.inl fun q => h ?_)
        show upd _ _ _ b = none
        rw [upd_ne e]
        exact q
    · exact .inl (.inr (.inl h))
    · exact .inl (.inr (.inr h))
  have f : Fr (Av A B M) (Av (A.add D (.lst vs)) B M) H (upd H D (.lst vs)) := fun b u n e => ⟨(f1 b u n e).1, fun h => by
    rcases av b h with h | h
    · exact n h
    · subst h; rw [hD] at e; cases e⟩
  refine ⟨⟨r.len, fun i s v e1 e2 => (r.sl i s v e1 e2).fr f fun a e => ⟨e, fun o h => by rw [upd_ne (ne_of_none h hD)]; exact h⟩, r.inj, fun a mo e => (r.ob a mo e).fr f fun o h => by rw [upd_ne (ne_of_none h hD)]; exact h, fun b h => ?_, r.sepM, fun a h => ?_, fun i a e => ?_, fun b o e => ?_, r.md, Gd.add aD (Gd.cl f r.gd)⟩, f, m1⟩
  · rcases av b h with h | h
    · exact r1.tr b h
    · subst h; rw [upd_same]; simp
  · by_cases e : a = D
    · subst e; exact mp
    · refine r.sepA a fun q => h ?_
      show upd _ _ _ a = none
      rw [upd_ne e]
      exact q
  · have ne : a ≠ D := fun z => r.tr a (.inr (.inl ⟨i, e⟩)) (z ▸ hD)
    show upd _ _ _ a = none
    rw [upd_ne ne]
    exact r.sepB i a e
  · by_cases e2 : b = D
    · subst e2
      have e : upd A.h b (.lst vs) b = some o := e
      rw [upd_same] at e
      cases e
      exact upd_same
    · have e : upd A.h D (.lst vs) b = some o := e
      rw [upd_ne e2] at e
      rw [upd_ne e2]
      exact r.sn b o e
/-- behind an element's reckoning: the slots as they were -/
theorem ER.keep {A : CA} {B' : Nat → Option Addr} {M' : Mm} {ρ' : Env} {σ' : L2.St} {H' : Hp} (r : ER K A B M ρ σ H) (r' : ER K A B' M' ρ' σ' H') (f : Fr (Av A B M) (Av A B' M') H H') (m : FrM M M' H H') (le : ∀ i a, B i = some a → ∃ j, B' j = some a) :
    ER K A B M' ρ σ H' ∧ Fr (Av A B M) (Av A B M') H H' ∧ Fr (Av A B' M') (Av A B M') H' H' := by
  have less : ∀ b, Av A B M' b → Av A B' M' b := fun b h => by
    rcases h with h | ⟨i, h⟩ | h
    · exact .inl h
    · exact .inr (.inl (le i b h))
    · exact .inr (.inr h)
  have f2 : Fr (Av A B' M') (Av A B M') H' H' := .less less
  have f1 := f.trans f2
  exact ⟨⟨r.len, fun i s v e1 e2 => (r.sl i s v e1 e2).fr f1 fun a e => ⟨e, fun o h => (m a o (r.sepM i a e) h).1⟩, r.inj, fun a mo e => (r'.ob a mo e).fr f2 fun _ h => h, fun b h => r'.tr b (less b h), fun i a e => let ⟨j, q⟩ := le i a e; r'.sepM j a q, r'.sepA, r.sepB, r'.sn, r'.md, Gd.cl f2 r'.gd⟩, f1, f2⟩
/-- a hidden list grows -/
theorem ER.grow {D : Addr} {vs ws : List V} (r : ER K (A.add D (.lst vs)) B M ρ σ H) (aD : A.h D = none) (g : Gd.F A (Av (A.add D (.lst vs)) B M) H) : ER K (A.add D (.lst ws)) B M ρ σ (upd H D (.lst ws)) ∧ Fr (Av (A.add D (.lst vs)) B M) (Av (A.add D (.lst ws)) B M) H (upd H D (.lst ws)) := by
  have avD : Av (A.add D (.lst vs)) B M D := .inl (by show upd _ _ _ D ≠ none; rw [upd_same]; simp)
  have av : ∀ b, Av (A.add D (.lst ws)) B M b → Av (A.add D (.lst vs)) B M b := fun b h => by
    rcases h with h | h | h
    · refine .inl fun q => h ?_
      have q : upd A.h D (.lst vs) b = none := q
      show upd A.h D (.lst ws) b = none
      by_cases e : b = D
      · subst e; rw [upd_same] at q; cases q
      · rw [upd_ne e] at q ⊢; exact q
    · exact .inr (.inl h)
    · exact .inr (.inr h)
  have k : ∀ b u, b ≠ D → H b = some u → upd H D (.lst ws) b = some u := fun b u n e => by rw [upd_ne n]; exact e
  have f : Fr (Av (A.add D (.lst vs)) B M) (Av (A.add D (.lst ws)) B M) H (upd H D (.lst ws)) := fun b u n e => ⟨k b u (fun z => n (z ▸ avD)) e, fun h => n (av b h)⟩
  have mD : M D = none := r.sepA D (by show upd _ _ _ D ≠ none; rw [upd_same]; simp)
  have bD : ∀ i a, B i = some a → a ≠ D := fun i a e z => by
    have := r.sepB i a e
    subst z
    have : upd A.h a (.lst vs) a = none := this
    rw [upd_same] at this
    cases this
  refine ⟨⟨r.len, fun i s v e1 e2 => (r.sl i s v e1 e2).fr f fun a e => ⟨e, fun o h => k _ _ (bD i a e) h⟩, r.inj, fun a mo e => (r.ob a mo e).fr f fun o h => k _ _ (fun z => by subst z; rw [mD] at e; cases e) h, fun b h => ?_, r.sepM, fun a h => ?_, fun i a e => ?_, fun b o e => ?_, r.md, Gd.add aD (Gd.cl f g)⟩, f⟩
  · have := r.tr b (av b h)
    by_cases e : b = D
    · subst e; rw [upd_same]; simp
    · rw [upd_ne e]; exact this
  · by_cases e : a = D
    · subst e; exact mD
    · refine r.sepA a fun q => h ?_
      have q : upd A.h D (.lst vs) a = none := q
      show upd A.h D (.lst ws) a = none
      rw [upd_ne e] at q ⊢
      exact q
  · have := r.sepB i a e
    have : upd A.h D (.lst vs) a = none := this
    show upd A.h D (.lst ws) a = none
    rw [upd_ne (bD i a e)] at this ⊢
    exact this
  · have e : upd A.h D (.lst ws) b = some o := e
    by_cases e2 : b = D
    · subst e2; rw [upd_same] at e ⊢; exact e
    · rw [upd_ne e2] at e ⊢
      exact r.sn b o (by show upd A.h D (.lst vs) b = _; rw [upd_ne e2]; exact e)
/-- the hidden list is ours, behind the slots -/
theorem ER.unhide {D : Addr} {vs : List V} (r : ER K (A.add D (.lst vs)) B M ρ σ H) (aD : A.h D = none) (hB : B σ.length = none) (h1 : ∀ b o, A.h b = some o → H b = some o) (g : Gd.F A (Av (A.add D (.lst vs)) B M) H) : ER K A (put B σ.length (some D)) M ρ σ H ∧ Fr (Av (A.add D (.lst vs)) B M) (Av A (put B σ.length (some D)) M) H H := by
  have av : ∀ b, Av A (put B σ.length (some D)) M b → Av (A.add D (.lst vs)) B M b := fun b h => by
    rcases av_put_some h with h | h
    · rcases h with h | h | h
      · refine .inl fun q => h ?_
        have q : upd A.h D (.lst vs) b = none := q
        by_cases e : b = D
        · subst e; rw [upd_same] at q; cases q
        · rw [upd_ne e] at q; exact q
      · exact .inr (.inl h)
      · exact .inr (.inr h)
    · subst h
      exact .inl (by show upd _ _ _ b ≠ none; rw [upd_same]; simp)
  have f : Fr (Av (A.add D (.lst vs)) B M) (Av A (put B σ.length (some D)) M) H H := .less av
  have up : ∀ b, A.h b ≠ none → (A.add D (.lst vs)).h b ≠ none := fun b h => by
    show upd _ _ _ b ≠ none
    by_cases e : b = D
    · subst e; rw [upd_same]; simp
    · rw [upd_ne e]; exact h
  have dD : (A.add D (.lst vs)).h D ≠ none := by show upd _ _ _ D ≠ none; rw [upd_same]; simp
  have bD : ∀ i a, B i = some a → a ≠ D := fun i a e z => by subst z; exact dD (r.sepB i a e)
  have at_ : ∀ j c, put B σ.length (some D) j = some c → (j = σ.length ∧ c = D) ∨ (j ≠ σ.length ∧ B j = some c) := fun j c e => by
    by_cases hj : j = σ.length
    · subst hj; rw [put_same] at e; exact .inl ⟨rfl, (Option.some.inj e).symm⟩
    · rw [put_ne hj] at e; exact .inr ⟨hj, e⟩
  refine ⟨⟨r.len, fun j s v e1 e2 => ?_, fun j k c e1 e2 => ?_, fun a mo e => (r.ob a mo e).fr f fun _ h => h, fun b h => r.tr b (av b h), fun j c e => ?_, fun a h => r.sepA a (up a h), fun j c e => ?_, h1, r.md, Gd.cl f g⟩, f⟩
  · have h1 : j ≠ σ.length := by
      have := (List.getElem?_eq_some_iff.mp e1).1
      rw [r.len]
      omega
    exact (r.sl j s v e1 e2).fr f fun a e => ⟨by rw [put_ne h1]; exact e, fun _ h => h⟩
  · rcases at_ j c e1 with ⟨rfl, rfl⟩ | ⟨n1, h1⟩
    · rcases at_ k c e2 with ⟨rfl, _⟩ | ⟨n2, h2⟩
      · rfl
      · exact absurd rfl (bD _ _ h2)
    · rcases at_ k c e2 with ⟨rfl, rfl⟩ | ⟨n2, h2⟩
      · exact absurd rfl (bD _ _ h1)
      · exact r.inj _ _ _ h1 h2
  · rcases at_ j c e with ⟨_, rfl⟩ | ⟨_, h1⟩
    · exact r.sepA _ dD
    · exact r.sepM _ _ h1
  · rcases at_ j c e with ⟨_, rfl⟩ | ⟨_, h1⟩
    · exact aD
    · have := r.sepB _ _ h1
      have : upd A.h D (.lst vs) c = none := this
      rw [upd_ne (bD _ _ h1)] at this
      exact this
end
/-! a comprehension's target -/
abbrev TGC := D → Env → (Env → Prop) → Prop
structure DGc (X : Cx) (K : PySem.W.Frag) (vs : List Nat) (tg : Expr) (t : TG) (t' : TGC) : Prop where
  pg : PG X tg t
  sim : ∀ (A : CA) (B : Nat → Option Addr) (M : Mm) (ρ : Env) (σ : L2.St) (H : Hp) (d : D) (v : V) (Q' : Env → Prop) (Q : L2.St → Hp → Prop), ER K A B M ρ σ H → Hd K (Av A B M) H d v → t' d ρ Q' →
    (∀ ρ' σ', ER K A B M ρ' σ' H → wipe σ' vs = wipe σ vs → wipeD ρ' vs = wipeD ρ vs → Q' ρ' → Q σ' H) → t v σ H Q
structure DGcs (X : Cx) (K : PySem.W.Frag) (vs : List Nat) (tg : List Expr) (t : TGs) (t' : List D → Env → (Env → Prop) → Prop) : Prop where
  pg : PGs X tg t
  sim : ∀ (A : CA) (B : Nat → Option Addr) (M : Mm) (ρ : Env) (σ : L2.St) (H : Hp) (ds : List D) (us : List V) (Q' : Env → Prop) (Q : L2.St → Hp → Prop), ER K A B M ρ σ H → HdL K (Av A B M) H ds us → t' ds ρ Q' →
    (∀ ρ' σ', ER K A B M ρ' σ' H → wipe σ' vs = wipe σ vs → wipeD ρ' vs = wipeD ρ vs → Q' ρ' → Q σ' H) → t us σ H Q
theorem wipe_set {σ : L2.St} {i : Nat} {x : Option V} : ∀ {vs : List Nat}, i ∈ vs → wipe (σ.set i x) vs = wipe σ vs
  | [], h => by cases h
  | v :: vs, h => by
    unfold wipe
    by_cases e : i ∈ vs
    · rw [wipe_set e]
    · rcases List.mem_cons.mp h with rfl | h
      · have : ∀ {us : List Nat}, wipe (σ.set i x) us = (wipe σ us).set i x ∨ wipe (σ.set i x) us = wipe σ us := by
          intro us
          induction us with
          | nil => exact .inl rfl
          | cons u us ih =>
            unfold wipe
            rcases ih with ih | ih
            · rw [ih]
              by_cases e : i = u
              · subst e; exact .inr (by rw [List.set_set])
              · exact .inl (by rw [List.set_comm _ _ e])
            · exact .inr (by rw [ih])
        rcases this (us := vs) with ih | ih
        · rw [ih, List.set_set]
        · rw [ih]
      · exact absurd h e
theorem wipeD_set {σ : Env} {i : Nat} {x : Sl} : ∀ {vs : List Nat}, i ∈ vs → wipeD (σ.set i x) vs = wipeD σ vs
  | [], h => by cases h
  | v :: vs, h => by
    unfold wipeD
    by_cases e : i ∈ vs
    · rw [wipeD_set e]
    · rcases List.mem_cons.mp h with rfl | h
      · have : ∀ {us : List Nat}, wipeD (σ.set i x) us = (wipeD σ us).set i x ∨ wipeD (σ.set i x) us = wipeD σ us := by
          intro us
          induction us with
          | nil => exact .inl rfl
          | cons u us ih =>
            unfold wipeD
            rcases ih with ih | ih
            · rw [ih]
              by_cases e : i = u
              · subst e; exact .inr (by rw [List.set_set])
              · exact .inl (by rw [List.set_comm _ _ e])
            · exact .inr (by rw [ih])
        rcases this (us := vs) with ih | ih
        · rw [ih, List.set_set]
        · rw [ih]
      · exact absurd h e
section
variable {X : Cx} {K : PySem.W.Frag} {e : Expr} {es : List Expr} {pos : Pos} {x : Str} {vs : List Nat}
def gcName (i : Nat) : TGC := fun d ρ Q => Q (ρ.set i (.val d))
theorem dgc_name (i : Nat) (hv : i ∈ vs := by decide) (hN : X.N.Nodup) (hi : X.N[i]? = some x := by rfl) (hx : Loc X.env.scope x := by first | exact .inl rfl | exact .inr rfl) (hf : X.fn x = true ∨ X.env.scope.names.lookup x = some .local := by first | exact .inl rfl | exact .inr rfl | assumption) : DGc X K vs (.Name x pos) (gName i) (gcName i) :=
  ⟨pg_name hN hi hx hf, fun A B M ρ σ H d v Q' Q r hd q k => k _ _ (r.set hd) (wipe_set hv) (wipeD_set hv) q⟩
def gcNil : List D → Env → (Env → Prop) → Prop := fun ds ρ Q => ds = [] ∧ Q ρ
def gcCons (t : TGC) (u : List D → Env → (Env → Prop) → Prop) : List D → Env → (Env → Prop) → Prop := fun ds ρ Q => ∃ d r, ds = d :: r ∧ t d ρ fun ρ' => u r ρ' Q
theorem dgcs_nil : DGcs X K vs [] gNil gcNil := ⟨pgs_nil, fun A B M ρ σ H ds us Q' Q r hd q k => by
  obtain ⟨rfl, q⟩ := q
  cases hd
  exact ⟨rfl, k ρ σ r rfl rfl q⟩⟩
theorem dgcs_cons {tg : TG} {ug : TGs} {tg' : TGC} {ug' : List D → Env → (Env → Prop) → Prop} (h1 : DGc X K vs e tg tg') (h2 : DGcs X K vs es ug ug') (hs : (assignEach (e :: es) X.env).map (·.2) = assign e X.env :: (assignEach es X.env).map (·.2) := by rfl) : DGcs X K vs (e :: es) (gCons tg ug) (gcCons tg' ug') :=
  ⟨pgs_cons h1.pg h2.pg hs, fun A B M ρ σ H ds us Q' Q r hd q k => by
    obtain ⟨d, rr, rfl, q⟩ := q
    cases hd with
    | cons a b => exact ⟨_, _, rfl, h1.sim A B M ρ σ H d _ _ _ r a q fun ρ' σ' r' w' w2 q' => h2.sim A B M ρ' σ' H rr _ _ _ r' b q' fun ρ3 σ3 r3 w3 w4 q3 => k ρ3 σ3 r3 (w3.trans w') (w4.trans w2) q3⟩⟩
def gcTup (n : Nat) (t : List D → Env → (Env → Prop) → Prop) : TGC := fun d ρ Q => ∃ ds, d.tq = some ds ∧ ds.length = n ∧ t ds ρ Q
theorem dgc_tup (n : Nat) {k : Nat} {tg : TGs} {tg' : List D → Env → (Env → Prop) → Prop} (h : DGcs X K vs es tg tg') (hK : X.K = K := by rfl) (hc : X.calm = true := by rfl) (hn : (assignEach es X.env).length = n := by rfl) (hst : (assignEach es X.env).findIdx? (·.1) = none := by rfl) : DGc X K vs (.Tuple es k pos) (gTup K n tg) (gcTup n tg') := by
  subst hK
  refine ⟨pg_tup hc h.pg hn hst, fun A B M ρ σ H d v Q' Q r hd q kk => ?_⟩
  obtain ⟨ds, e1, hl, q⟩ := q
  obtain ⟨a, us, rfl, s, l⟩ := hd.tq e1
  exact ⟨a, us, rfl, s, by rw [← l.length]; exact hl, h.sim A B M ρ σ H ds _ Q' Q r l q kk⟩
/-- tests of a clause -/
structure DTs (X : Cx) (K : PySem.W.Frag) (ifs : List Expr) (t : TT) (t' : TTD) : Prop where
  pts : PTs X ifs t
  sim : SimT K t t'
def dYes : TTD := fun ρ M Q => Q true ρ M
theorem dts_nil : DTs X K [] tYes dYes := ⟨pts_nil, fun A B M ρ σ H Q Q' r q k => k true ρ M B H r .refl .refl q⟩
theorem dts_one {c : Expr} {t : TT} {t' : TTD} (h : DT X K c t t') : DTs X K [c] t t' := ⟨pts_one h.pt, h.sim⟩
/-- the names of a comprehension are no lists of one's own -/
def noOwn (ρ : Env) (vs : List Nat) : Bool := vs.all fun j => match ρ[j]? with
  | some (.own _) => false
  | _ => true
theorem noOwn_out {ρ : Env} {vs : List Nat} (h : noOwn ρ vs = true) {j : Nat} {ds : List D} (e : ρ[j]? = some (.own ds)) : j ∉ vs := fun m => by
  have := List.all_eq_true.mp h j m
  rw [e] at this
  cases this
def dLc (wi' : TID) (g' : TGC) (tt' : TTD) (te' : TED) (vs : List Nat) : TEN := fun ρ M Q => wi' ρ M fun ds ρ1 M1 => noOwn ρ1 vs = true ∧ ∃ Pv : Nat → List D → Mm → Prop, Pv 0 [] M1 ∧
  (∀ i d acc M, ds[i]? = some d → Pv i acc M → g' d (wipeD ρ1 vs) fun ρ2 => tt' ρ2 M fun b ρ3 M3 => if b = true then te' ρ3 M3 fun y ρ4 M4 => wipeD ρ4 vs = wipeD ρ1 vs ∧ acc.length < sizeLine ∧ Pv (i + 1) (acc ++ [y]) M4 else wipeD ρ3 vs = wipeD ρ1 vs ∧ Pv (i + 1) acc M3) ∧
  ∀ acc M, Pv ds.length acc M → Q acc ρ1 M
theorem sim_lc {wi : TI} {wi' : TID} {g : TG} {g' : TGC} {tt : TT} {tt' : TTD} {te : TE} {te' : TED} (hi : SimI K wi wi')
    (hg : ∀ (A : CA) (B : Nat → Option Addr) (M : Mm) (ρ : Env) (σ : L2.St) (H : Hp) (d : D) (v : V) (Q' : Env → Prop) (Q : L2.St → Hp → Prop), ER K A B M ρ σ H → Hd K (Av A B M) H d v → g' d ρ Q' →
      (∀ ρ' σ', ER K A B M ρ' σ' H → wipe σ' vs = wipe σ vs → wipeD ρ' vs = wipeD ρ vs → Q' ρ' → Q σ' H) → g v σ H Q)
    (ht : SimT K tt tt') (he : SimE K te te') : SimN K (tLc wi g tt te vs) (dLc wi' g' tt' te' vs) := by
  intro A B M ρ σ H Q Q' r q k
  refine hi A B M ρ σ H _ _ r q fun ds ρ1 M1 B1 J H1 r1 f1 m1 it q1 => ?_
  obtain ⟨w1, Pv, p0, step, done⟩ := q1
  obtain ⟨r1c, f1c⟩ := r1.can
  intro D hD
  obtain ⟨r2, f2, m2⟩ := r1c.hide (vs := []) hD
  have aD : A.h D = none := by
    cases q : A.h D with
    | none => rfl
    | some u => rw [r1.sn D u q] at hD; cases hD
  refine ⟨fun i m H' => m = ds.length - i ∧ i ≤ ds.length ∧ ∃ M' acc us, ER K (A.add D (.lst us)) (canon ρ1 B1) M' ρ1 σ H' ∧ Fr (Av A B1 M1) (Av (A.add D (.lst us)) (canon ρ1 B1) M') H1 H' ∧ FrM M1 M' H1 H' ∧ HdL K (Av (A.add D (.lst us)) (canon ρ1 B1) M') H' acc us ∧ Pv i acc M',
    ⟨_, rfl, Nat.zero_le _, M1, [], [], r2, f1c.trans f2, m2, .nil, p0⟩, ?_⟩
  rintro i m H' ⟨rfl, hi', M', acc, us, r', f', m', ha, pv⟩
  have hl : H' D = some (.lst us) := r'.sn D _ upd_same
  by_cases hlt : i < ds.length
  · refine .inr ⟨it.go _ _ f' i hlt, fun H2 => ∃ M2 acc2 us2, ER K (A.add D (.lst us2)) (canon ρ1 B1) M2 ρ1 σ H2 ∧ Fr (Av A B1 M1) (Av (A.add D (.lst us2)) (canon ρ1 B1) M2) H1 H2 ∧ FrM M1 M2 H1 H2 ∧ HdL K (Av (A.add D (.lst us2)) (canon ρ1 B1) M2) H2 acc2 us2 ∧ Pv (i + 1) acc2 M2,
      fun H2 h2 => ⟨_, by omega, rfl, hlt, h2⟩, fun x H2 y => ?_⟩
    obtain ⟨r3, f3, m3, hd⟩ := r'.tup (it.yld _ _ f' i _ x H2 (List.getElem?_eq_getElem hlt) y)
    have r3w : ER K (A.add D (.lst us)) (canon ρ1 B1) M' (wipeD ρ1 vs) (wipe σ vs) H2 := r3.wipe vs
    refine hg _ _ M' (wipeD ρ1 vs) (wipe σ vs) H2 _ x _ _ r3w hd (step i _ acc M' (List.getElem?_eq_getElem hlt) pv) fun ρ4 σ4 r4 ws wd q4 => ⟨ws.trans ?_, ?_⟩
    · have e : ∀ us : List Nat, wipe (wipe σ vs) us = wipe σ vs ∨ True := fun _ => .inr trivial
      have hh : ∀ us : List Nat, (∀ v ∈ us, v ∈ vs) → wipe (wipe σ vs) us = wipe σ vs := by
        intro us
        induction us with
        | nil => intro _; rfl
        | cons u us ih =>
          intro h
          show (wipe (wipe σ vs) us).set u none = wipe σ vs
          rw [ih fun v hv => h v (List.mem_cons_of_mem _ hv)]
          have hu := h u List.mem_cons_self
          have : ∀ {ws : List Nat}, u ∈ ws → (wipe σ ws).set u none = wipe σ ws := by
            intro ws
            induction ws with
            | nil => intro h; cases h
            | cons w ws ih2 =>
              intro h
              unfold wipe
              by_cases e : u = w
              · subst e; rw [List.set_set]
              · rw [List.set_comm _ _ (Ne.symm e), ih2 ((List.mem_cons.mp h).resolve_left e)]
          exact this hu
      exact hh vs fun v hv => hv
    -- what an element's reckoning leaves
    have owns : ∀ {ρ5 : Env} {B5 : Nat → Option Addr} {M5 : Mm} {H5 : Hp}, ER K (A.add D (.lst us)) B5 M5 ρ5 σ4 H5 → wipeD ρ5 vs = wipeD ρ1 vs → ∀ j a, canon ρ1 B1 j = some a → ∃ j', B5 j' = some a := fun {ρ5 B5 M5 H5} r5 w5 j a e => by
      obtain ⟨eb, es, eo⟩ := canon_some e
      have nj := noOwn_out w1 eo
      have eo5 := eo
      rw [← wipeD_out nj, ← w5] at eo5
      obtain ⟨e5, _⟩ := wipeD_own eo5
      obtain ⟨v5, ev5, a5, _, hb5, hs5, _, _⟩ := r5.at e5
      obtain ⟨v3, ev3, a3, _, hb3, hs3, _, _⟩ := r3.at eo
      rw [canon_own eo, eb] at hb3
      cases hb3
      have : σ4[j]? = σ[j]? := by
        have h1 : (wipe σ4 vs)[j]? = σ4[j]? := wipe_out nj
        have h2 : (wipe (wipe σ vs) vs)[j]? = σ[j]? := by rw [wipe_out nj, wipe_out nj]
        rw [← h1, ws, h2]
      rw [ev5, ev3] at this
      subst hs5
      subst hs3
      cases this
      exact ⟨j, hb5⟩
    refine ht _ _ M' ρ4 σ4 H2 _ _ r4 q4 fun b ρ5 M5 B5 H5 r5 f5 m5 q5 => ?_
    cases b with
    | false =>
      obtain ⟨w5, p5⟩ := q5
      obtain ⟨r6, f6, f7⟩ := r3.keep r5 f5 m5 (owns r5 w5)
      have fin : ∃ M2 acc2 us2, ER K (A.add D (.lst us2)) (canon ρ1 B1) M2 ρ1 σ H5 ∧ Fr (Av A B1 M1) (Av (A.add D (.lst us2)) (canon ρ1 B1) M2) H1 H5 ∧ FrM M1 M2 H1 H5 ∧ HdL K (Av (A.add D (.lst us2)) (canon ρ1 B1) M2) H5 acc2 us2 ∧ Pv (i + 1) acc2 M2 :=
        ⟨M5, acc, us, r6, (f'.trans f3).trans f6, (m'.trans m3).trans m5, (ha.fr f3).fr f6, p5⟩
      exact fin
    | true =>
      refine he _ _ M5 ρ5 σ4 H5 _ _ r5 q5 fun y ρ6 M6 B6 v H6 r6 f6 m6 h6 q6 => ?_
      obtain ⟨w6, z6, p6⟩ := q6
      obtain ⟨r7, f7, f8⟩ := r3.keep r6 (f5.trans f6) (m5.trans m6) (owns r6 w6)
      have hl6 : H6 D = some (.lst us) := r7.sn D _ upd_same
      have ha6 := ((ha.fr f3).fr f7)
      obtain ⟨r8, f9⟩ := r7.grow (ws := us ++ [v]) aD (Gd.cl ((f'.trans f3).trans f7) r1.gd)
      refine ⟨us, hl6, by rw [← ha6.length]; exact z6, ?_⟩
      have m9 : FrM M1 M6 H1 (upd H6 D (.lst (us ++ [v]))) := fun b o n e => by
        obtain ⟨h1, h2⟩ := ((m'.trans m3).trans (m5.trans m6)) b o n e
        exact ⟨by rw [upd_ne (ne_of_none e hD)]; exact h1, h2⟩
      have fin : ∃ M2 acc2 us2, ER K (A.add D (.lst us2)) (canon ρ1 B1) M2 ρ1 σ (upd H6 D (.lst (us ++ [v]))) ∧ Fr (Av A B1 M1) (Av (A.add D (.lst us2)) (canon ρ1 B1) M2) H1 (upd H6 D (.lst (us ++ [v]))) ∧ FrM M1 M2 H1 (upd H6 D (.lst (us ++ [v]))) ∧
          HdL K (Av (A.add D (.lst us2)) (canon ρ1 B1) M2) (upd H6 D (.lst (us ++ [v]))) acc2 us2 ∧ Pv (i + 1) acc2 M2 :=
        ⟨M6, acc ++ [y], us ++ [v], r8, ((f'.trans f3).trans f7).trans f9, m9, (ha6.fr f9).app (.one ((h6.fr f8).fr f9)), p6⟩
      exact fin
  · have e : i = ds.length := by omega
    subst e
    have nB : canon ρ1 B1 σ.length = none := by
      unfold canon
      rw [List.getElem?_eq_none (by rw [r1.len]; exact Nat.le_refl _)]
    obtain ⟨r3, f3⟩ := r'.unhide aD nB (fun b o e => r'.sn b o (by
      show upd A.h D (.lst us) b = _
      rw [upd_ne fun z => by subst z; rw [aD] at e; cases e]
      exact e)) (Gd.cl f' r1.gd)
    exact .inl ⟨it.stop _ _ f', k acc ρ1 M' _ D us H' r3 (f1.trans (f'.trans f3)) (m1.trans m') put_same hl (ha.fr f3) (done acc M' pv)⟩
theorem dn_lc {elt tg iter : Expr} {ifs : List Expr} {scope : Scope} {own : List (Str × Nat)} {wi : TI} {wi' : TID} {g : TG} {g' : TGC} {tt : TT} {tt' : TTD} {te : TE} {te' : TED} (hN : X.N.Nodup) (hi : DI X K tg iter wi wi') (ok : BlkOk X.N X.env.scope scope own)
    (hg : ∀ (s : Shared) (H : Hp) (C : Addr) (cl : List (Str × Addr)) (fp : List Addr), DGc (X.blk s H scope (compEnvC scope cl C X.env) fp) K (own.map (·.2)) tg g g') (ht : ∀ (s : Shared) (H : Hp) (C : Addr) (cl : List (Str × Addr)) (fp : List Addr), DTs (X.blk s H scope (compEnvC scope cl C X.env) fp) K ifs tt tt')
    (he : ∀ (s : Shared) (H : Hp) (C : Addr) (cl : List (Str × Addr)) (fp : List Addr), DE (X.blk s H scope (compEnvC scope cl C X.env) fp) K elt te te') (hc : X.calm = true := by rfl) (hs : ∀ x, foldedSetIterable iter X.env x = pure x := by intro _; rfl) :
    DN X K (.ListComp elt [⟨tg, iter, ifs, 0⟩] scope pos) (tLc wi g tt te (own.map (·.2))) (dLc wi' g' tt' te' (own.map (·.2))) := by
  refine ⟨pe_lc hc hN hi.pi ok (fun s H C cl fp => (hg s H C cl fp).pg) (fun s H C cl fp => (ht s H C cl fp).pts) (fun s H C cl fp => (he s H C cl fp).pe) hs, ?_⟩
  exact sim_lc hi.sim (hg {} (fun _ => none) 0 [] []).sim (ht {} (fun _ => none) 0 [] []).sim (he {} (fun _ => none) 0 [] []).sim
end
end DM

namespace DM
open PySem PySem.Spec PyProof.Rows L2 TK
section
variable [Gd]
variable {X : Cx} {K : PySem.W.Frag}
/-- name = [..] on one line -/
theorem ds_ownLc (i : Nat) {y : Str} {py : Pos} {elt tg iter : Expr} {ifs : List Expr} {scope : Scope} {own : List (Str × Nat)} {pos spos : Pos} {wi : TI} {wi' : TID} {g : TG} {g' : TGC} {tt : TT} {tt' : TTD} {te : TE} {te' : TED} (hN : X.N.Nodup)
    (hsw : swapsWith (.ListComp elt [⟨tg, iter, ifs, 0⟩] scope pos) (some (.Name y py)) spos.line X.env = pure true) (hi : DI X K tg iter wi wi') (ok : BlkOk X.N X.env.scope scope own)
    (hg : ∀ (s : Shared) (H : Hp) (C : Addr) (cl : List (Str × Addr)) (fp : List Addr), DGc (X.blk s H scope (compEnvC scope cl C X.env) fp) K (own.map (·.2)) tg g g') (ht : ∀ (s : Shared) (H : Hp) (C : Addr) (cl : List (Str × Addr)) (fp : List Addr), DTs (X.blk s H scope (compEnvC scope cl C X.env) fp) K ifs tt tt')
    (he : ∀ (s : Shared) (H : Hp) (C : Addr) (cl : List (Str × Addr)) (fp : List Addr), DE (X.blk s H scope (compEnvC scope cl C X.env) fp) K elt te te') (hy : X.N[i]? = some y := by rfl) (hyl : X.env.scope.names.lookup y = some .local := by rfl) (hc : X.calm = true := by rfl) (hs : ∀ x, foldedSetIterable iter X.env x = pure x := by intro _; rfl) :
    DS X K (.Assign [.Name y py] (.ListComp elt [⟨tg, iter, ifs, 0⟩] scope pos) spos) (tAsg (tLc wi g tt te (own.map (·.2))) (gName i)) (dOwn (dLc wi' g' tt' te' (own.map (·.2))) i) := by
  refine ⟨ps_setLc hc hN hy hyl hsw hi.pi ok (fun s H C cl fp => (hg s H C cl fp).pg) (fun s H C cl fp => (ht s H C cl fp).pts) (fun s H C cl fp => (he s H C cl fp).pe) hs, ?_⟩
  exact sim_own i (sim_lc hi.sim (hg {} (fun _ => none) 0 [] []).sim (ht {} (fun _ => none) 0 [] []).sim (he {} (fun _ => none) 0 [] []).sim)
theorem ds_setLc (i : Nat) {y : Str} {py : Pos} {elt tg iter : Expr} {ifs : List Expr} {scope : Scope} {own : List (Str × Nat)} {pos spos : Pos} {wi : TI} {wi' : TID} {g : TG} {g' : TGC} {tt : TT} {tt' : TTD} {te : TE} {te' : TED} (hN : X.N.Nodup)
    (hsw : swapsWith (.ListComp elt [⟨tg, iter, ifs, 0⟩] scope pos) (some (.Name y py)) spos.line X.env = pure true) (hi : DI X K tg iter wi wi') (ok : BlkOk X.N X.env.scope scope own)
    (hg : ∀ (s : Shared) (H : Hp) (C : Addr) (cl : List (Str × Addr)) (fp : List Addr), DGc (X.blk s H scope (compEnvC scope cl C X.env) fp) K (own.map (·.2)) tg g g') (ht : ∀ (s : Shared) (H : Hp) (C : Addr) (cl : List (Str × Addr)) (fp : List Addr), DTs (X.blk s H scope (compEnvC scope cl C X.env) fp) K ifs tt tt')
    (he : ∀ (s : Shared) (H : Hp) (C : Addr) (cl : List (Str × Addr)) (fp : List Addr), DE (X.blk s H scope (compEnvC scope cl C X.env) fp) K elt te te') (hy : X.N[i]? = some y := by rfl) (hyl : X.env.scope.names.lookup y = some .local := by rfl) (hc : X.calm = true := by rfl) (hs : ∀ x, foldedSetIterable iter X.env x = pure x := by intro _; rfl) :
    DS X K (.Assign [.Name y py] (.ListComp elt [⟨tg, iter, ifs, 0⟩] scope pos) spos) (tAsg (tLc wi g tt te (own.map (·.2))) (gName i)) (dAsg (dN (dLc wi' g' tt' te' (own.map (·.2)))) (gdName i)) := by
  refine ⟨ps_setLc hc hN hy hyl hsw hi.pi ok (fun s H C cl fp => (hg s H C cl fp).pg) (fun s H C cl fp => (ht s H C cl fp).pts) (fun s H C cl fp => (he s H C cl fp).pe) hs, ?_⟩
  have h := sim_lc hi.sim (hg {} (fun _ => none) 0 [] []).sim (ht {} (fun _ => none) 0 [] []).sim (he {} (fun _ => none) 0 [] []).sim
  have h2 := simN_E h
  exact fun A B M ρ σ H E D r q k => h2 A B M ρ σ H _ _ r q fun d ρ' M' B' v H' r' f m hd q' => k.nx _ M' B' _ H' (r'.set hd) f q'
end
section
variable {P : Program} {w : World} {K : PySem.W.Frag} {mg : Str → Option Value} {base : Heap} {x : Str} {st : Stmt} {N ps : List Str} {k : Nat} {sp : SpD}
theorem EndsOk.imp [Gd] {K : PySem.W.Frag} {A : CA} {Av0 : Addr → Prop} {H0 : Hp} {D1 D2 : EndsD} {E : Ends} (e : EndsOk K A Av0 H0 D2 E) (h1 : ∀ ρ M, D1.nx ρ M → D2.nx ρ M) (h2 : ∀ ρ M, D1.rt ρ M → D2.rt ρ M) (h3 : ∀ ρ M, D1.rn ρ M → D2.rn ρ M) (h4 : ∀ ρ M, D1.bk ρ M → D2.bk ρ M) (h5 : ∀ ρ M, D1.ct ρ M → D2.ct ρ M) : EndsOk K A Av0 H0 D1 E :=
  ⟨fun ρ M B σ H r f q => e.nx ρ M B σ H r f (h1 _ _ q), fun d v ρ M B σ H r f h q => e.rt d v ρ M B σ H r f h (h2 _ _ q), fun ds a vs ρ M B σ H r f i l h q => e.rn ds a vs ρ M B σ H r f i l h (h3 _ _ q),
   fun ρ M B σ H r f q => e.bk ρ M B σ H r f (h4 _ _ q), fun ρ M B σ H r f q => e.ct ρ M B σ H r f (h5 _ _ q)⟩
theorem body_runG {g : Gd} {t : TS} {t' : TSD} {A : CA} {M : Mm} {H : Hp} {vs : List V} {ds : List DM.D} {Q : VK} (h : SimS K t t') (o : ROk K A M H) (hd : HdL K (Avc A M) H ds vs)
    (gd : g.F ⟨A.h, fun b => M b ≠ none⟩ (Avc A M) H) (q : t' ⟨(fun _ M' => ∀ v H', ROk K A M' H' → FrM M M' H H' → Hd K (Avc A M') H' .non v → Q v H'), (fun d M' => ∀ v H', ROk K A M' H' → FrM M M' H H' → Hd K (Avc A M') H' d v → Q v H'),
      (fun es M' => ∀ a us H', H a = none → ROk K (A.add a (.lst us)) M' H' → FrM M M' H H' → HdL K (Avc (A.add a (.lst us)) M') H' es us → Q (.ref a) H'), (fun _ _ => False), (fun _ _ => False)⟩ (startD N ds) M) : t { nx := fun _ H' => Q .non H', rt := Q } (L2.start N vs) H := by
  have o' : ROk K ⟨A.h, fun b => M b ≠ none⟩ M H := ⟨o.ob, o.tr, o.sep, o.sn, fun b h => h⟩
  have back : ∀ {M' H'}, ROk K ⟨A.h, fun b => M b ≠ none⟩ M' H' → ROk K A M' H' := fun h => ⟨h.ob, h.tr, h.sep, h.sn, fun b hb => h.md b (o.md b hb)⟩
  have backN : ∀ {M' H' a us}, ROk K ((⟨A.h, fun b => M b ≠ none⟩ : CA).add a (.lst us)) M' H' → ROk K (A.add a (.lst us)) M' H' := fun h => ⟨h.ob, h.tr, h.sep, h.sn, fun b hb => h.md b (o.md b hb)⟩
  have r0 : ER K ⟨A.h, fun b => M b ≠ none⟩ (fun _ => none) M (startD N ds) (L2.start N vs) H := start_er o' hd gd
  refine h ⟨A.h, fun b => M b ≠ none⟩ _ M (startD N ds) _ H _ _ r0 q ?_
  refine (ends_of (Q := Q) o' fun b h => h).imp (fun ρ M' q v H' r => q v H' (back r)) (fun ρ M' q v H' r => q v H' (back r)) (fun ρ M' q a us H' hn r => q a us H' hn (backN r)) (fun _ _ z => z) (fun _ _ z => z)
theorem body_run {t : TS} {t' : TSD} {A : CA} {M : Mm} {H : Hp} {vs : List V} {ds : List DM.D} {Q : VK} (h : SimS K t t') (o : ROk K A M H) (hd : HdL K (Avc A M) H ds vs)
    (q : t' ⟨(fun _ M' => ∀ v H', ROk K A M' H' → FrM M M' H H' → Hd K (Avc A M') H' .non v → Q v H'), (fun d M' => ∀ v H', ROk K A M' H' → FrM M M' H H' → Hd K (Avc A M') H' d v → Q v H'),
      (fun es M' => ∀ a us H', H a = none → ROk K (A.add a (.lst us)) M' H' → FrM M M' H H' → HdL K (Avc (A.add a (.lst us)) M') H' es us → Q (.ref a) H'), (fun _ _ => False), (fun _ _ => False)⟩ (startD N ds) M) : t { nx := fun _ H' => Q .non H', rt := Q } (L2.start N vs) H := body_runG h o hd trivial q
/-- a def that lets no error out, by its promise told by data -/
theorem defD (D : DefAt K mg x st ps) (S : FnScope N ps (defScope st)) (len : ∀ ds M Q N' E, sp ds M Q N' E → ds.length = ps.length)
    (hbody : ∀ (f : Addr) (cdv : Value) (Ar : Around) (outer : List PySem.Env) (s : Shared) (H : Hp) (E : XK) (ds : List DM.D) (M : Mm) (Q : DM.D → Mm → Prop) (N' : List DM.D → Mm → Prop) (E' : Addr → Mm → Prop), Room k (Ar.deeper (envOfC x (defScope st) s.heap.objs.size f cdv)) → sp ds M Q N' E' →
      ∃ t t', DSs (cxOf CX0 P w K mg base N x (defScope st) f cdv Ar outer s H E).nox K (defBody st) t t' ∧ t' ⟨(fun _ M' => Q .non M'), Q, N', (fun _ _ => False), (fun _ _ => False)⟩ (startD N ds) M) : Cal P w K mg base x ps (k + 1) (ofD K sp) :=
  D.cal S (fun vs H Q E ⟨A, M, ds, o, hd, q⟩ => by rw [← hd.length]; exact len _ _ _ _ _ q) fun f cdv Ar outer s H vs Q E hr ⟨A, M, ds, o, hd, q⟩ => by
    obtain ⟨t, t', h, q'⟩ := hbody f cdv Ar outer s H E ds M _ _ _ hr q
    exact ⟨t, h.ps, body_run h.sim o hd q'⟩
/-- a def's promise by values, told by data -/
theorem calD {sp' : Sp} (C : Cal P w K mg base x ps k sp') (h : ∀ vs H Q E, ofD K sp vs H Q E → sp' vs H Q E) : Cal P w K mg base x ps k (ofD K sp) := by
  obtain ⟨f, fd, F, b⟩ := C.ex
  exact ⟨f, fd, ⟨fun vs H Q E q => F.len vs H Q E (h vs H Q E q), fun A outer s H as us vs Q E hr e0 bb r q => F.run A outer s H as us vs Q E hr e0 bb r (h vs H Q E q)⟩, b⟩
end
/-! errors -/
section
variable {X : Cx} {K : PySem.W.Frag} {e : Expr} {es : List Expr} {ta : TA} {ta' : TAD} {x : Str} {ps : List Str} {sp : SpD} {p pos p2 pos2 : Pos} {k : Nat} {C : Addr} {m : Str}
end
end DM

namespace DM
open PySem PySem.Spec PyProof.Rows L2 TK
variable [Gd]
section
variable {X : Cx} {K : PySem.W.Frag} {A : CA} {B : Nat → Option Addr} {M : Mm} {H : Hp} {e a b : Expr} {te ta tb : TE} {te' ta' tb' : TED} {pos p p1 p2 p3 : Pos} {x : Str}
/-! truth -/
def D.tru : D → Option Bool
  | .non => some false
  | .bl b => some b
  | .int i => some (i != 0)
  | .lst ds => some (!ds.isEmpty)
  | .kl ds => some (!ds.isEmpty)
  | .tup ds => some (!ds.isEmpty)
  | .kt ds => some (!ds.isEmpty)
  | .dK ks _ => some (!ks.isEmpty)
  | _ => none
theorem HdL.empty {Av : Addr → Prop} {ds : List D} {vs : List V} (h : HdL K Av H ds vs) : ds.isEmpty = vs.isEmpty := by cases h <;> rfl
theorem HdB.tru {d : D} {v : V} {k : Bool} (h : HdB K A B M H d v) (e : d.tru = some k) : TruV K v H k := by
  cases d with
  | non => cases e; rw [h.non]; exact rfl
  | bl b => cases e; rw [h.bl]; exact rfl
  | int i => cases e; rw [h.int]; exact rfl
  | lst ds => cases e; obtain ⟨a, vs, rfl, s, l⟩ := h.lst; exact .inl ⟨vs, SqL.of s, by rw [l.empty]⟩
  | kl ds => cases e; obtain ⟨a, vs, rfl, s, l⟩ := h.list rfl; exact .inl ⟨vs, s, by rw [l.empty]⟩
  | tup ds => cases e; obtain ⟨a, vs, rfl, s, l⟩ := h.tup rfl; exact .inr (.inl ⟨vs, s, by rw [l.empty]⟩)
  | kt ds => cases e; obtain ⟨a, vs, rfl, s, l⟩ := h.tup rfl; exact .inr (.inl ⟨vs, s, by rw [l.empty]⟩)
  | dK ks ds =>
    cases e
    rcases h with h | ⟨_, _, _, e, _⟩
    · cases h with
      | @dK a _ vs _ n e hl l =>
        refine .inr (.inr ⟨ks.zip vs, e, ?_⟩)
        cases ks with
        | nil => rfl
        | cons k ks => cases vs with
          | nil => cases hl
          | cons v vs => rfl
    · cases e
  | _ => cases e
def dTru (t' : TED) : TTD := fun ρ M Q => t' ρ M fun d ρ1 M1 => ∃ k, d.tru = some k ∧ Q k ρ1 M1
theorem dt_truth (h : DB X K e te te') (he : ∀ whole, isTrue e X.env whole = (do let v ← whole; standAt e.pos; holding [v] (truthy v)) := by intro _; rfl) (hK : X.K = K := by rfl) : DT X K e (fun σ H Q => te σ H fun x H' => ∃ k, TruV K x H' k ∧ Q k H') (dTru te') := by
  subst hK
  refine ⟨pt_truth h.pe he, fun A B M ρ σ H Q Q' r q kk => h.sim A B M ρ σ H _ _ r q fun d ρ1 M1 B1 v H1 r1 f1 m1 h1 q1 => ?_⟩
  obtain ⟨k, e1, q1⟩ := q1
  exact ⟨k, h1.tru e1, kk k ρ1 M1 B1 H1 r1 f1 m1 q1⟩
/-! & -/
theorem o_and : OpR X (binaryOp .BitAnd) (rI0 fun i j => .int (Builtin.bitAnd i j)) ∧ SimR K (rI0 fun i j => .int (Builtin.bitAnd i j)) (dI0 fun i j => .int (Builtin.bitAnd i j)) := ⟨op_and, sim_rI0 fun _ _ _ _ => .int _⟩
/-! xs[::-1] -/
def dRev (te' : TED) : TEN := fun ρ M Q => te' ρ M fun d ρ1 M1 => ∃ ds, d.lq = some ds ∧ Q ds.reverse ρ1 M1
theorem dn_rev {k : Nat} (he : DB X K e te te') (hK : X.K = K := by rfl) : DN X K (.Subscript e (.Slice none none (some (.UnaryOp .USub (.Constant (.int 1) k p1) p2)) p3) pos) (tRevL K te) (dRev te') := by
  subst hK
  refine ⟨pe_revL he.pe, fun A B M ρ σ H Q Q' r q kk => he.sim A B M ρ σ H _ _ r q fun d ρ1 M1 B1 v H1 r1 f1 m1 h1 q1 => ?_⟩
  obtain ⟨ds, e1, q1⟩ := q1
  obtain ⟨a, vs, rfl, s, l⟩ := h1.list e1
  refine ⟨a, vs, rfl, s, fun p hp => ?_⟩
  obtain ⟨B2, R2, f2, m2, hb, h2⟩ := r1.newOwn hp l.rev
  exact kk _ ρ1 M1 B2 p _ _ R2 (f1.trans f2) (m1.trans m2) hb upd_same h2 q1
/-! tuple(xs) -/
def dTupOf (te' : TED) : TED := fun ρ M Q => te' ρ M fun d ρ1 M1 => ∃ ds, d.lq = some ds ∧ Q (.tup ds) ρ1 M1
theorem de_tupOf (hg : Gl X "tuple") (hm : X.mg "tuple" = none) (ha : DE X K a ta ta') (na : starEach [a] X.env = (false, eval a X.env) :: starEach [] X.env := by rfl) (hK : X.K = K := by rfl) : DE X K (.Call (.Name "tuple" p) [a] [] pos) (tThen ta (kTup K)) (dTupOf ta') := by
  subst hK
  refine ⟨pe_tupleOf hg hm ha.pe na, fun A B M ρ σ H Q Q' r q kk => ha.sim A B M ρ σ H _ _ r q fun d ρ1 M1 B1 v H1 r1 f1 m1 h1 q1 => ?_⟩
  obtain ⟨ds, e1, q1⟩ := q1
  obtain ⟨a, vs, rfl, s, l⟩ := h1.list e1
  refine .inl ⟨a, vs, rfl, s.sq, fun p hp => ?_⟩
  obtain ⟨R2, f2, m2, np, _⟩ := r1.new (o := .tup vs) hp
  exact kk (.tup ds) ρ1 M1 B1 _ _ R2 (f1.trans f2) (m1.trans m2) (.tup np upd_same (l.fr f2)) q1
/-! {} -/
theorem de_dict0 : DE X K (.Dict [] [] pos) tDNewK (dC (.dK [] [])) := ⟨pe_dnewK, fun A B M ρ σ H Q Q' r q kk => fun p hp => by
  obtain ⟨R2, f2, m2, np, _⟩ := r.new (o := .dK []) hp
  exact kk _ ρ M B _ _ R2 f2 m2 (.dK (vs := []) np upd_same rfl .nil) q⟩
/-! in -/
theorem u65 {k : Nat} {A : Around} (r : Room k A) : A.units + 65 < cLine := by have := r.un; omega
def dInD : R2D := fun d e Q => ∃ n es, n ≤ 60 ∧ okN n d ∧ e.lq = some es ∧ okL n es ∧ Q (.bl (es.any fun z => eqD z d))
def dNotInD : R2D := fun d e Q => ∃ n es, n ≤ 60 ∧ okN n d ∧ e.lq = some es ∧ okL n es ∧ Q (.bl (!es.any fun z => eqD z d))
theorem pdL_any {d : D} : ∀ es : List D, (D.pdL es).any (fun z => PyData.eqv z d.pd) = es.any fun z => eqD z d
  | [] => rfl
  | e :: es => by
    unfold D.pdL
    rw [List.any_cons, List.any_cons, pdL_any es]
    rfl
theorem HdB.dpl {n : Nat} {d : D} {es : List D} {v : V} (e : d.lq = some es) (o : okL n es) (h : HdB K A B M H d v) : Dp K H v (.list (D.pdL es)) := by
  obtain ⟨a, vs, rfl, s, l⟩ := h.list e
  exact .lst s (dpL_of n es o l)
theorem okl_shaped {n : Nat} {es : List D} (h : okL n es) (hn : n ≤ 60) : SeqAt.shaped (.list (D.pdL es)) = true := by
  have := ok_shaped (d := .lst es) (n := n + 1) (by unfold okN; exact h)
  obtain ⟨h1, h2⟩ := okL_lay n es h
  unfold SeqAt.shaped
  rw [PyData.canLay0, h1, PyData.depth, decide_eq_true (show PyData.depthAll (D.pdL es) + 1 ≤ 64 by omega)]
  rfl
theorem o_inD (hu : X.A.units + 65 < cLine) (hK : X.K = K := by rfl) : OpR X (compareOp .In) (rInD K) ∧ SimR K (rInD K) dInD := by
  subst hK
  refine ⟨op_inD hu, fun A B M H d e x y Q Q' hx hy q k => ?_⟩
  obtain ⟨n, es, hn, o1, e2, o2, q⟩ := q
  exact ⟨_, _, hx.dp o1, hy.dpl e2 o2, ok_shaped o1 hn, okl_shaped o2 hn, k _ _ (.bl _) (by rw [pdL_any]; exact q)⟩
theorem o_notInD (hu : X.A.units + 65 < cLine) (hK : X.K = K := by rfl) : OpR X (compareOp .NotIn) (rNotInD K) ∧ SimR K (rNotInD K) dNotInD := by
  subst hK
  refine ⟨op_notInD hu, fun A B M H d e x y Q Q' hx hy q k => ?_⟩
  obtain ⟨n, es, hn, o1, e2, o2, q⟩ := q
  exact ⟨_, _, hx.dp o1, hy.dpl e2 o2, ok_shaped o1 hn, okl_shaped o2 hn, k _ _ (.bl _) (by rw [pdL_any]; exact q)⟩
/-! sorted: pairs (in some order) -/
theorem HdL.perm {Av : Addr → Prop} {ys : List V} {xs : List V} (h : ys.Perm xs) : ∀ {ds : List D}, HdL K Av H ds xs → ∃ es, es.Perm ds ∧ HdL K Av H es ys := by
  induction h with
  | nil => intro ds l; exact ⟨ds, .refl _, l⟩
  | cons x _ ih =>
    intro ds l
    cases l with
    | cons a b =>
      obtain ⟨es, pe, le⟩ := ih b
      exact ⟨_, pe.cons _, .cons a le⟩
  | swap x y l =>
    intro ds l
    cases l with
    | cons a b =>
      cases b with
      | cons c d => exact ⟨_, .swap _ _ _, .cons c (.cons a d)⟩
  | trans _ _ ih1 ih2 =>
    intro ds l
    obtain ⟨es, pe, le⟩ := ih2 l
    obtain ⟨fs, pf, lf⟩ := ih1 le
    exact ⟨fs, pf.trans pe, lf⟩
def ipD (q : Int × Int) : D := .tup [.int q.1, .int q.2]
def dSortedP : R1N := fun d Q => ∃ ws : List (Int × Int), d.lq = some (ws.map ipD) ∧ ∀ us : List (Int × Int), us.Perm ws → Q (us.map ipD)
theorem o_sortedP (hK : X.K = K := by rfl) : CallR X (.builtin "sorted") (rSortedP K) ∧ SimUN K (rSortedP K) dSortedP := by
  subst hK
  refine ⟨cr_sortedP, fun A B M H d x Q Q' hx q k => ?_⟩
  obtain ⟨ws, e, q⟩ := q
  obtain ⟨a, vs, rfl, s, l⟩ := hx.list e
  refine ⟨a, vs, rfl, s, fun v hv => ?_, fun ys p hp hn => ?_⟩
  · obtain ⟨i, hi, rfl⟩ := List.getElem_of_mem hv
    obtain ⟨d, hd, hh⟩ := l.get' (List.getElem?_eq_getElem hi)
    obtain ⟨w, _, rfl⟩ := List.mem_map.mp (List.mem_of_getElem? hd)
    unfold ipD at hh
    generalize vs[i] = u at hh ⊢
    cases hh with
    | tup n s l => cases l with
      | cons a b => cases b with
        | cons c d => cases d; cases a; cases c; exact ⟨_, _, _, rfl, s⟩
  · obtain ⟨es, pe, le⟩ := HdL.perm hp l
    obtain ⟨us, rfl, pu⟩ : ∃ us : List (Int × Int), es = us.map ipD ∧ us.Perm ws := by
      have : ∀ (es ds : List D), es.Perm ds → ∀ ws : List (Int × Int), ds = ws.map ipD → ∃ us : List (Int × Int), es = us.map ipD ∧ us.Perm ws := by
        intro es ds h
        induction h with
        | nil => intro ws e; cases ws with | nil => exact ⟨[], rfl, .refl _⟩ | cons _ _ => cases e
        | cons x _ ih => intro ws e; cases ws with
          | nil => cases e
          | cons w ws => cases e; obtain ⟨us, rfl, pu⟩ := ih ws rfl; exact ⟨w :: us, rfl, pu.cons _⟩
        | swap x y l => intro ws e; cases ws with
          | nil => cases e
          | cons w ws => cases ws with
            | nil => cases e
            | cons u ws => cases e; exact ⟨u :: w :: ws, rfl, .swap _ _ _⟩
        | trans _ _ ih1 ih2 => intro ws e; obtain ⟨us, rfl, pu⟩ := ih2 ws e; obtain ⟨us2, rfl, pu2⟩ := ih1 us rfl; exact ⟨us2, rfl, pu2.trans pu⟩
      exact this es _ pe ws rfl
    exact k _ _ p le hn (q us pu)
/-! list(range(..)) -/
def dRg2 (ta' tb' : TED) : TEN := fun ρ M Q => ta' ρ M fun d ρ1 M1 => tb' ρ1 M1 fun e ρ2 M2 => ∃ i j, d = .int i ∧ e = .int j ∧ RgOk i j ∧ Q (rng i (j - i).toNat) ρ2 M2
theorem HdL.rng {Av : Addr → Prop} (i : Int) (n : Nat) : HdL K Av H (rng i n) ((List.range n).map fun (k : Nat) => V.int (i + (k : Int))) := by
  have h : ∀ l : List Nat, HdL K Av H (l.map fun (k : Nat) => D.int (i + (k : Int))) (l.map fun (k : Nat) => V.int (i + (k : Int))) := by
    intro l
    induction l with
    | nil => exact .nil
    | cons a l ih => exact .cons (.int _) ih
  exact h _
theorem dn_listR2 {p' pos' : Pos} (hg : Gl X "list") (hm : X.mg "list" = none) (hg2 : Gl X "range") (hm2 : X.mg "range" = none) (ha : DE X K a ta ta') (hb : DE X K b tb tb') (hc : X.calm = true := by rfl)
    (na : starEach [a, b] X.env = (false, eval a X.env) :: starEach [b] X.env := by rfl) (nb : starEach [b] X.env = (false, eval b X.env) :: starEach [] X.env := by rfl) (hp : (backTo pos' (starEach [b] X.env)).any (·.1) = false := by rfl)
    (nl : starEach [.Call (.Name "range" p') [a, b] [] pos'] X.env = (false, eval (.Call (.Name "range" p') [a, b] [] pos') X.env) :: starEach [] X.env := by rfl) :
    DN X K (.Call (.Name "list" p) [.Call (.Name "range" p') [a, b] [] pos'] [] pos) (tLstRg (tRg2 ta tb)) (dRg2 ta' tb') :=
  ⟨pe_listRg hc hg hm (prg_2 hg2 hm2 ha.pe hb.pe na nb hp) nl, fun A B M ρ σ H Q Q' r q kk => ha.sim A B M ρ σ H _ _ r q fun d ρ1 M1 B1 v H1 r1 f1 m1 hd q1 => hb.sim A B1 M1 ρ1 σ H1 _ _ r1 q1 fun e ρ2 M2 B2 w H2 r2 f2 m2 he q2 => by
    obtain ⟨i, j, rfl, rfl, ok, q2⟩ := q2
    cases hd
    cases he
    refine ⟨i, j, rfl, rfl, ok, fun p hp => ?_⟩
    obtain ⟨B3, R3, f3, m3, hb3, h3⟩ := r2.newOwn hp (HdL.rng i (j - i).toNat)
    exact kk _ ρ2 M2 B3 p _ _ R3 ((f1.trans f2).trans f3) ((m1.trans m2).trans m3) hb3 upd_same h3 q2⟩
def dRg1 (ta' : TED) : TEN := fun ρ M Q => ta' ρ M fun d ρ1 M1 => ∃ j, d = .int j ∧ RgOk 0 j ∧ Q (rng 0 j.toNat) ρ1 M1
theorem dn_listR1 {p' pos' : Pos} (hg : Gl X "list") (hm : X.mg "list" = none) (hg2 : Gl X "range") (hm2 : X.mg "range" = none) (ha : DE X K a ta ta') (hc : X.calm = true := by rfl)
    (na : starEach [a] X.env = (false, eval a X.env) :: starEach [] X.env := by rfl)
    (nl : starEach [.Call (.Name "range" p') [a] [] pos'] X.env = (false, eval (.Call (.Name "range" p') [a] [] pos') X.env) :: starEach [] X.env := by rfl) :
    DN X K (.Call (.Name "list" p) [.Call (.Name "range" p') [a] [] pos'] [] pos) (tLstRg (tRg1 ta)) (dRg1 ta') :=
  ⟨pe_listRg hc hg hm (prg_1 hg2 hm2 ha.pe na) nl, fun A B M ρ σ H Q Q' r q kk => ha.sim A B M ρ σ H _ _ r q fun d ρ1 M1 B1 v H1 r1 f1 m1 hd q1 => by
    obtain ⟨j, rfl, ok, q2⟩ := q1
    cases hd
    refine ⟨j, rfl, ok, fun p hp => ?_⟩
    have e0 : rgV 0 j = (List.range j.toNat).map fun (k : Nat) => V.int (0 + (k : Int)) := by unfold rgV; rw [Int.sub_zero]
    have l0 : HdL K (Av A B1 M1) H1 (rng 0 j.toNat) (rgV 0 j) := by rw [e0]; exact HdL.rng 0 j.toNat
    obtain ⟨B3, R3, f3, m3, hb3, h3⟩ := r1.newOwn hp l0
    exact kk _ ρ1 M1 B3 p _ _ R3 (f1.trans f3) (m1.trans m3) hb3 upd_same h3 q2⟩
/-! reversed(range(..)) -/
def diRev1 (ta' : TED) : TID := fun ρ M Q => ta' ρ M fun d ρ1 M1 => ∃ j, d = .int j ∧ 0 ≤ j ∧ j < 2 ^ 62 ∧ Q (rng 0 j.toNat).reverse ρ1 M1
/-! more -/
def dSortedI : R1N := fun d Q => ∃ ns : List Int, d.lq = some (ns.map .int) ∧ ∀ ms : List Int, ms.Perm ns → ms.Pairwise (· ≤ ·) → Q (ms.map .int)
theorem o_sortedI (hK : X.K = K := by rfl) : CallR X (.builtin "sorted") (rSortedI K) ∧ SimUN K (rSortedI K) dSortedI := by
  subst hK
  refine ⟨cr_sortedI, fun A B M H d x Q Q' hx q k => ?_⟩
  obtain ⟨ns, e, q⟩ := q
  obtain ⟨a, vs, rfl, s, l⟩ := hx.list e
  rw [l.ints] at s
  exact ⟨a, ns, rfl, s, fun ms p h1 h2 hp => k _ _ p .ofInts hp (q ms h1 h2)⟩
end
end DM

namespace DM
open PySem PySem.Spec PyProof.Rows L2 TK
variable [Gd]
/-- the law's script, told by data -/
theorem law_in {K : PySem.W.Frag} {H : Hp} {a : Addr} {ns : List Int} {sp : SpD} {E : XK} (hS : SqL K H a (ns.map V.int)) (h : ∀ Q N E', (∀ M', Q (.bl true) M') → sp [.kl (ns.map .int)] (fun _ => none) Q N E') : ofD K sp [.ref a] H (fun v _ => v = .bl true) E := by
  refine ⟨⟨fun _ => none, fun _ => False⟩, fun _ => none, [.kl (ns.map .int)], ⟨fun a mo e => (nomatch e), fun b hb => absurd rfl hb, fun b hb => absurd rfl hb, fun b o e => (nomatch e), fun b hb => hb.elim⟩, .cons (.kl ?_ .ofInts) .nil, h _ _ _ fun M' v H' _ _ hd => by cases hd; rfl⟩
  rcases hS with hS | hS
  · refine .inl ⟨?_, hS⟩
    rintro (h | ⟨i, h⟩ | h)
    · exact h rfl
    · cases h
    · exact h rfl
  · exact .inr hS
end DM

namespace DM
open PySem PySem.Spec PyProof.Rows L2 TK
variable [Gd]
section
variable {K : PySem.W.Frag} {A : CA} {B : Nat → Option Addr} {M : Mm} {ρ : Env} {σ : L2.St} {H : Hp}
/-- the new list behind the slots is put away -/
theorem ER.stash (r : ER K A B M ρ σ H) {a : Addr} {vs : List V} (hb : B σ.length = some a) (hl : H a = some (.lst vs)) : ER K (A.add a (.lst vs)) (put B σ.length none) M ρ σ H ∧ Fr (Av A B M) (Av (A.add a (.lst vs)) (put B σ.length none) M) H H := by
  have av : ∀ b, Av (A.add a (.lst vs)) (put B σ.length none) M b → Av A B M b := fun b h => by
    rcases h with h | ⟨i, h⟩ | h
    · by_cases e : b = a
      · subst e; exact .inr (.inl ⟨_, hb⟩)
      · refine .inl fun q => h ?_
        show upd _ _ _ b = none
        rw [upd_ne e]
        exact q
    · by_cases e : i = σ.length
      · subst e; rw [put_same] at h; cases h
      · rw [put_ne e] at h; exact .inr (.inl ⟨i, h⟩)
    · exact .inr (.inr h)
  have f := Fr.less (H := H) av
  have ne : ∀ {j c}, put B σ.length none j = some c → j ≠ σ.length ∧ B j = some c ∧ c ≠ a := fun {j c} e => by
    have h1 : j ≠ σ.length := fun z => by subst z; rw [put_same] at e; cases e
    rw [put_ne h1] at e
    exact ⟨h1, e, fun z => h1 (r.inj _ _ _ (z ▸ e) hb)⟩
  refine ⟨⟨r.len, fun j s v e1 e2 => ?_, fun i j c e1 e2 => r.inj i j c (ne e1).2.1 (ne e2).2.1, fun c mo e => (r.ob c mo e).fr f fun _ h => h, fun b h => r.tr b (av b h), fun j c e => r.sepM j c (ne e).2.1, fun c h => ?_, fun j c e => ?_, fun b o e => ?_, r.md, Gd.add (r.sepB _ _ hb) (Gd.cl f r.gd)⟩, f⟩
  · have h1 : j ≠ σ.length := by
      have := (List.getElem?_eq_some_iff.mp e1).1
      rw [r.len]
      omega
    exact (r.sl j s v e1 e2).fr f fun c e => ⟨by rw [put_ne h1]; exact e, fun _ h => h⟩
  · by_cases e : c = a
    · subst e; exact r.sepM _ _ hb
    · refine r.sepA c fun q => h ?_
      show upd _ _ _ c = none
      rw [upd_ne e]
      exact q
  · show upd _ _ _ c = none
    rw [upd_ne (ne e).2.2]
    exact r.sepB j c (ne e).2.1
  · have e : upd A.h a (.lst vs) b = some o := e
    by_cases e2 : b = a
    · subst e2; rw [upd_same] at e; cases e; exact hl
    · rw [upd_ne e2] at e; exact r.sn b o e
end
section
variable {X : Cx} {K : PySem.W.Frag} {x : Str}
/-- a, b = [..], e: the first one is our own -/
def dParO (i j : Nat) (tn' : TEN) (tb' : TED) : TSD := fun D ρ M => tn' ρ M fun ds ρ1 M1 => tb' ρ1 M1 fun e ρ2 M2 => D.nx ((ρ2.set i (.own ds)).set j (.val e)) M2
theorem ds_parO (i j : Nat) {y : Str} {a b : Expr} {tn tb : TE} {tn' : TEN} {tb' : TED} {px py pt : Pos} {kt k2 pt2} {pos : Pos} (hN : X.N.Nodup) (ha : DN X K a tn tn') (hb : DE X K b tb tb') (hc : X.calm = true := by rfl) (hi : X.N[i]? = some x := by rfl) (hj : X.N[j]? = some y := by rfl) (hij : i ≠ j := by decide)
    (hx : X.env.scope.names.lookup x = some .local := by rfl) (hy : X.env.scope.names.lookup y = some .local := by rfl)
    (hs1 : starEach [a, b] X.env = (false, eval a X.env) :: starEach [b] X.env := by rfl) (hs2 : starEach [b] X.env = (false, eval b X.env) :: starEach [] X.env := by rfl)
    (hw : swappedStores [.Tuple [.Name x px, .Name y py] kt pt] (.Tuple [a, b] k2 pt2) X.env = pure (some [x, y]) := by rfl)
    (hs : swapsWithSole [.Tuple [.Name x px, .Name y py] kt pt] (.Tuple [a, b] k2 pt2) pos.line X.env = pure false := by rfl) :
    DS X K (.Assign [.Tuple [.Name x px, .Name y py] kt pt] (.Tuple [a, b] k2 pt2) pos) (tPar i j (tCons tn (tCons tb tNil))) (dParO i j tn' tb') := by
  refine ⟨ps_par hc hN hi hj hij hx hy (pa_cons ha.pe (pa_cons hb.pe pa_nil hs2) hs1) hw hs, fun A B M ρ σ H E D r q k => ha.sim A B M ρ σ H _ _ r q fun ds ρ1 M1 B1 a1 vs H1 r1 f1 m1 hb1 hl hd q1 => ?_⟩
  obtain ⟨r2, f2⟩ := r1.stash hb1 hl
  refine hb.sim _ _ M1 ρ1 σ H1 _ _ r2 q1 fun e ρ2 M2 B2 w H2 r3 f3 m3 he q2 => ?_
  obtain ⟨r4, f4⟩ := r3.drop (i := σ.length) (by rw [r3.len]; exact Nat.le_refl _)
  have hl2 : H2 a1 = some (.lst vs) := r4.sn a1 _ upd_same
  have aD : A.h a1 = none := r1.sepB _ _ hb1
  obtain ⟨r5, f5⟩ := r4.unhide aD put_same (fun b o e => r4.sn b o (by
    show upd A.h a1 (.lst vs) b = _
    rw [upd_ne fun z => by subst z; rw [aD] at e; cases e]
    exact e)) (Gd.cl ((f2.trans f3).trans f4) r1.gd)
  have f25 := ((f2.trans f3).trans f4).trans f5
  obtain ⟨B6, r6, f6⟩ := r5.setOwn (i := i) put_same hl2 (hd.fr f25)
  have he6 := ((he.fr f4).fr f5).fr f6
  exact ⟨_, _, rfl, k.nx _ M2 B6 _ H2 (r6.set he6) ((f1.trans f25).trans f6) q2⟩
/-- the same where one of the names is a cell: a pair that is unpacked -/
theorem ds_parT (i j : Nat) {y : Str} {a b : Expr} {tn tb : TE} {tn' : TEN} {tb' : TED} {px py pt : Pos} {kt k2 pt2} {pos : Pos} (hN : X.N.Nodup) (ha : DN X K a tn tn') (hb : DE X K b tb tb') (hc : X.calm = true := by rfl) (hi : X.N[i]? = some x := by rfl) (hj : X.N[j]? = some y := by rfl)
    (hx : Loc X.env.scope x := by first | exact .inl rfl | exact .inr rfl) (hy : Loc X.env.scope y := by first | exact .inl rfl | exact .inr rfl)
    (fx : X.fn x = true ∨ X.env.scope.names.lookup x = some .local := by first | exact .inl rfl | exact .inr rfl | assumption) (fy : X.fn y = true ∨ X.env.scope.names.lookup y = some .local := by first | exact .inl rfl | exact .inr rfl | assumption)
    (hs1 : starEach [a, b] X.env = (false, eval a X.env) :: starEach [b] X.env := by rfl) (hs2 : starEach [b] X.env = (false, eval b X.env) :: starEach [] X.env := by rfl)
    (hsw : swapsWithSole [.Tuple [.Name x px, .Name y py] kt pt] (.Tuple [a, b] k2 pt2) pos.line X.env = pure false := by rfl) (hw : swappedStores [.Tuple [.Name x px, .Name y py] kt pt] (.Tuple [a, b] k2 pt2) X.env = pure none := by rfl)
    (h1 : (assignEach [.Tuple [.Name x px, .Name y py] kt pt] X.env).map (·.2) = [assign (.Tuple [.Name x px, .Name y py] kt pt) X.env] := by rfl)
    (ha1 : (assignEach [.Name x px, .Name y py] X.env).map (·.2) = assign (.Name x px) X.env :: (assignEach [.Name y py] X.env).map (·.2) := by rfl) (ha2 : (assignEach [.Name y py] X.env).map (·.2) = assign (.Name y py) X.env :: (assignEach [] X.env).map (·.2) := by rfl)
    (hn : (assignEach [.Name x px, .Name y py] X.env).length = 2 := by rfl) (hst : (assignEach [.Name x px, .Name y py] X.env).findIdx? (·.1) = none := by rfl) (hK : X.K = K := by rfl) :
    DS X K (.Assign [.Tuple [.Name x px, .Name y py] kt pt] (.Tuple [a, b] k2 pt2) pos) (tAsg (tTup (tCons tn (tCons tb tNil))) (gTup K 2 (gCons (gName i) (gCons (gName j) gNil)))) (dParO i j tn' tb') := by
  subst hK
  refine ⟨ps_asg (pe_tup (pa_cons ha.pe (pa_cons hb.pe pa_nil hs2) hs1)) (pg_tup hc (pgs_cons (pg_name hN hi hx fx) (pgs_cons (pg_name hN hj hy fy) pgs_nil ha2) ha1) hn hst) hsw hw h1, fun A B M ρ σ H E D r q k => ha.sim A B M ρ σ H _ _ r q fun ds ρ1 M1 B1 a1 vs H1 r1 f1 m1 hb1 hl hd q1 => ?_⟩
  obtain ⟨r2, f2⟩ := r1.stash hb1 hl
  refine hb.sim _ _ M1 ρ1 σ H1 _ _ r2 q1 fun e ρ2 M2 B2 w H2 r3 f3 m3 he q2 => ?_
  refine ⟨Nat.le_of_ble_eq_true rfl, fun p hp => ?_⟩
  obtain ⟨r4, f4⟩ := r3.drop (i := σ.length) (by rw [r3.len]; exact Nat.le_refl _)
  obtain ⟨r4', f4', _, _, _⟩ := r4.new (o := .tup [.ref a1, w]) hp
  have hl2 : upd H2 p (.tup [.ref a1, w]) a1 = some (.lst vs) := r4'.sn a1 _ upd_same
  have aD : A.h a1 = none := r1.sepB _ _ hb1
  obtain ⟨r5, f5⟩ := r4'.unhide aD put_same (fun b o e => r4'.sn b o (by
    show upd A.h a1 (.lst vs) b = _
    rw [upd_ne fun z => by subst z; rw [aD] at e; cases e]
    exact e)) (Gd.cl (((f2.trans f3).trans f4).trans f4') r1.gd)
  have f25 := (((f2.trans f3).trans f4).trans f4').trans f5
  obtain ⟨B6, r6, f6⟩ := r5.setOwn (i := i) put_same hl2 (hd.fr f25)
  have he6 := (((he.fr f4).fr f4').fr f5).fr f6
  exact ⟨p, _, rfl, SqT.of upd_same, rfl, _, _, rfl, _, _, rfl, rfl, k.nx _ M2 B6 _ _ (r6.set he6) ((f1.trans f25).trans f6) q2⟩
end
/-! a op1 b op2 c op3 d -/
section
variable {X : Cx} {K : PySem.W.Frag} {a b c d : Expr} {ta tb tc td : TE} {ta' tb' tc' td' : TED} {pos : Pos}
def tChain3 (r1 r2 r3 : R2) (ta tb tc td : TE) : TE := fun σ H Q => ta σ H fun x H1 => tb σ H1 fun y H2 => r1 x y H2 fun z H3 => ∃ k, z = .bl k ∧
  (if k = true then tc σ H3 fun w' H4 => r2 y w' H4 fun z2 H5 => ∃ k2, z2 = .bl k2 ∧ (if k2 = true then td σ H5 fun v' H6 => r3 w' v' H6 Q else Q (.bl false) H5) else Q (.bl false) H3)
theorem pe_chain3 {op op' op2 : CmpOp} {r1 r2 r3 : R2} (ho : OpR X (compareOp op) r1) (ho' : OpR X (compareOp op') r2) (ho2 : OpR X (compareOp op2) r3) (ha : PE X a ta) (hb : PE X b tb) (hc : PE X c tc) (hd : PE X d td)
    (hm : lastMarks [op, op', op2] [b, c, d] = false := by with_unfolding_all rfl) : PE X (.Compare a [op, op', op2] [b, c, d] pos) (tChain3 r1 r2 r3 ta tb tc td) := by
  refine ⟨fun pins s σ H Q I h => ?_⟩
  refine Compare_chain (thn (ha.run pins s σ H _ I h) fun v s1 ⟨x, H1, I1, r1, q1⟩ => chain_link (thn (hb.run pins s1 σ H1 _ I1 q1) fun u s2 ⟨y, H2, I2, r2, q2⟩ =>
    thn (ho pins s2 σ H2 x y v u _ I2 r1 r2 q2) fun d s3 ⟨z, H3, I3, r3, k, e, q3⟩ => ?_)) hm
  subst e
  cases r3
  refine wpAny_truthy_bool ?_
  cases k with
  | false => exact ite_ff ⟨.bl false, H3, I3, rfl, q3⟩
  | true =>
    refine ite_tt (chain_link (thn (hc.run pins s3 σ H3 _ I3 q3) fun w' s4 ⟨z', H4, I4, r4, q4⟩ => thn (ho' pins s4 σ H4 y z' u w' _ I4 r2 r4 q4) fun d2 s5 ⟨z2, H5, I5, r5, k2, e2, q5⟩ => ?_))
    subst e2
    cases r5
    refine wpAny_truthy_bool ?_
    cases k2 with
    | false => exact ite_ff ⟨.bl false, H5, I5, rfl, q5⟩
    | true => exact ite_tt (chain_last (thn (hd.run pins s5 σ H5 _ I5 q5) fun w2 s6 ⟨z3, H6, I6, r6, q6⟩ => ho2 pins s6 σ H6 z' z3 w' w2 Q I6 r4 r6 q6))
theorem pt_chain3 {op op' op2 : CmpOp} {r1 r2 r3 : R2} (ho : OpR X (compareOp op) r1) (ho' : OpR X (compareOp op') r2) (ho2 : OpR X (compareOp op2) r3) (ha : PE X a ta) (hb : PE X b tb) (hc : PE X c tc) (hd : PE X d td)
    (hm : lastMarks [op, op', op2] [b, c, d] = false := by with_unfolding_all rfl) : PT X (.Compare a [op, op', op2] [b, c, d] pos) (tTest (tChain3 r1 r2 r3 ta tb tc td)) := by
  refine ⟨fun pins s σ H Q I h => ?_⟩
  refine isTrue_chain (thn (ha.run pins s σ H _ I h) fun v s1 ⟨x, H1, I1, r1, q1⟩ => test_link (thn (hb.run pins s1 σ H1 _ I1 q1) fun u s2 ⟨y, H2, I2, r2, q2⟩ =>
    thn (ho pins s2 σ H2 x y v u _ I2 r1 r2 q2) fun d s3 ⟨z, H3, I3, r3, k, e, q3⟩ => ?_)) hm
  subst e
  cases r3
  refine wpAny_truthy_bool ?_
  cases k with
  | false =>
    obtain ⟨k', e', q'⟩ := q3
    cases e'
    exact ite_ff ⟨H3, I3, q'⟩
  | true =>
    refine ite_tt (test_link (thn (hc.run pins s3 σ H3 _ I3 q3) fun w' s4 ⟨z', H4, I4, r4, q4⟩ => thn (ho' pins s4 σ H4 y z' u w' _ I4 r2 r4 q4) fun d2 s5 ⟨z2, H5, I5, r5, k2, e2, q5⟩ => ?_))
    subst e2
    cases r5
    refine wpAny_truthy_bool ?_
    cases k2 with
    | false =>
      obtain ⟨k', e', q'⟩ := q5
      cases e'
      exact ite_ff ⟨H5, I5, q'⟩
    | true =>
      refine ite_tt (test_last (thn (hd.run pins s5 σ H5 _ I5 q5) fun w2 s6 ⟨z3, H6, I6, r6, q6⟩ => thn (ho2 pins s6 σ H6 z' z3 w' w2 _ I6 r4 r6 q6) fun d' s7 ⟨z4, H7, I7, r7, k4, e4, q7⟩ => ?_))
      subst e4
      cases r7
      exact wpAny_truthy_bool ⟨H7, I7, q7⟩
def dChain3 (r1 r2 r3 : R2D) (ta' tb' tc' td' : TED) : TED := fun ρ M Q => ta' ρ M fun d ρ1 M1 => tb' ρ1 M1 fun e ρ2 M2 => r1 d e fun z => ∃ k, z = .bl k ∧
  (if k = true then tc' ρ2 M2 fun f ρ3 M3 => r2 e f fun z2 => ∃ k2, z2 = .bl k2 ∧ (if k2 = true then td' ρ3 M3 fun g ρ4 M4 => r3 f g fun c => Q c ρ4 M4 else Q (.bl false) ρ3 M3) else Q (.bl false) ρ2 M2)
theorem sim_chain3 {r1 r2 r3 : R2} {r1' r2' r3' : R2D} (s : SimR K r1 r1') (s' : SimR K r2 r2') (s2 : SimR K r3 r3') (ha : SimB K ta ta') (hb : SimB K tb tb') (hc : SimB K tc tc') (hd : SimB K td td') : SimE K (tChain3 r1 r2 r3 ta tb tc td) (dChain3 r1' r2' r3' ta' tb' tc' td') := fun A B M ρ σ H Q Q' R q k =>
  ha A B M ρ σ H _ _ R q fun d ρ1 M1 B1 v H1 R1 f1 m1 h1 q1 => hb A B1 M1 ρ1 σ H1 _ _ R1 q1 fun e ρ2 M2 B2 u H2 R2 f2 m2 h2 q2 =>
    s A B2 M2 H2 d e v u _ _ (h1.fr f2 m2) h2 q2 fun z w hw q3 => by
      obtain ⟨kk, rfl, q3⟩ := q3
      cases hw
      refine ⟨kk, rfl, ?_⟩
      cases kk with
      | false => exact k (.bl false) ρ2 M2 B2 _ H2 R2 (f1.trans f2) (m1.trans m2) (.bl _) q3
      | true =>
        refine hc A B2 M2 ρ2 σ H2 _ _ R2 q3 fun f ρ3 M3 B3 w' H3 R3 f3 m3 h3 q4 => s' A B3 M3 H3 e f u w' _ _ (h2.fr f3 m3) h3 q4 fun z2 w2 hw2 q5 => ?_
        obtain ⟨k2, rfl, q5⟩ := q5
        cases hw2
        refine ⟨k2, rfl, ?_⟩
        cases k2 with
        | false => exact k (.bl false) ρ3 M3 B3 _ H3 R3 ((f1.trans f2).trans f3) ((m1.trans m2).trans m3) (.bl _) q5
        | true => exact hd A B3 M3 ρ3 σ H3 _ _ R3 q5 fun g ρ4 M4 B4 v4 H4 R4 f4 m4 h4 q6 => s2 A B4 M4 H4 f g w' v4 Q _ (h3.fr f4 m4) h4 q6 fun c w5 hw5 q7 => k c ρ4 M4 B4 w5 H4 R4 (((f1.trans f2).trans f3).trans f4) (((m1.trans m2).trans m3).trans m4) hw5 q7
theorem de_chain3 {op op' op2 : CmpOp} {r1 r2 r3 : R2} {r1' r2' r3' : R2D} (o : OpR X (compareOp op) r1 ∧ SimR K r1 r1') (o' : OpR X (compareOp op') r2 ∧ SimR K r2 r2') (o2 : OpR X (compareOp op2) r3 ∧ SimR K r3 r3') (ha : DB X K a ta ta') (hb : DB X K b tb tb') (hc : DB X K c tc tc') (hd : DB X K d td td')
    (hm : lastMarks [op, op', op2] [b, c, d] = false := by with_unfolding_all rfl) : DE X K (.Compare a [op, op', op2] [b, c, d] pos) (tChain3 r1 r2 r3 ta tb tc td) (dChain3 r1' r2' r3' ta' tb' tc' td') := ⟨pe_chain3 o.1 o'.1 o2.1 ha.pe hb.pe hc.pe hd.pe hm, sim_chain3 o.2 o'.2 o2.2 ha.sim hb.sim hc.sim hd.sim⟩
theorem dt_chain3 {op op' op2 : CmpOp} {r1 r2 r3 : R2} {r1' r2' r3' : R2D} (o : OpR X (compareOp op) r1 ∧ SimR K r1 r1') (o' : OpR X (compareOp op') r2 ∧ SimR K r2 r2') (o2 : OpR X (compareOp op2) r3 ∧ SimR K r3 r3') (ha : DB X K a ta ta') (hb : DB X K b tb tb') (hc : DB X K c tc tc') (hd : DB X K d td td')
    (hm : lastMarks [op, op', op2] [b, c, d] = false := by with_unfolding_all rfl) : DT X K (.Compare a [op, op', op2] [b, c, d] pos) (tTest (tChain3 r1 r2 r3 ta tb tc td)) (dTest (dChain3 r1' r2' r3' ta' tb' tc' td')) := ⟨pt_chain3 o.1 o'.1 o2.1 ha.pe hb.pe hc.pe hd.pe hm, sim_test (sim_chain3 o.2 o'.2 o2.2 ha.sim hb.sim hc.sim hd.sim)⟩
end
/-! short lists -/
theorem line {n : Nat} (h : n ≤ 16000000) : n ≤ sizeLine := Nat.le_trans h (Nat.le_of_ble_eq_true rfl)
theorem lineL {n : Nat} (h : n < 16000000) : n < sizeLine := Nat.lt_of_lt_of_le h (Nat.le_of_ble_eq_true rfl)
/-! slices, items of mapped lists -/
def cutL {α : Type} (xs : List α) (lo hi : Option Int) : List α := (xs.drop (HT.sIx xs.length 0 lo)).take (HT.sIx xs.length xs.length hi - HT.sIx xs.length 0 lo)
theorem cutD_map {α : Type} {f : α → D} (xs : List α) (lo hi : Option Int) : cutD (xs.map f) lo hi = (cutL xs lo hi).map f := by
  unfold cutD cutL
  rw [List.length_map, ← List.map_drop, ← List.map_take]
theorem cutL_sub {α : Type} {xs : List α} {lo hi : Option Int} {x : α} (h : x ∈ cutL xs lo hi) : x ∈ xs := List.mem_of_mem_drop (List.mem_of_mem_take h)
theorem cutL_len {α : Type} (xs : List α) (lo hi : Option Int) : (cutL xs lo hi).length ≤ xs.length := by
  unfold cutL
  rw [List.length_take, List.length_drop]
  omega
theorem at_map {α : Type} {f : α → D} {xs : List α} {r : Int} (h0 : 0 ≤ r) (h1 : r < xs.length) : ∃ x, x ∈ xs ∧ xs[r.toNat]? = some x ∧ atI (xs.map f) r = some (f x) := by
  have hk : r.toNat < xs.length := by omega
  refine ⟨xs[r.toNat], List.getElem_mem hk, List.getElem?_eq_getElem hk, ?_⟩
  have h : (xs.map f)[r.toNat]? = some (f xs[r.toNat]) := by
    rw [List.getElem?_map, List.getElem?_eq_getElem hk]
    rfl
  have := atI_nat h
  rwa [show ((r.toNat : Nat) : Int) = r by omega] at this
/-- an item of a written list, by a draw -/
theorem at_pick {ds : List D} {r : Int} (h0 : 0 ≤ r) (h1 : r < ds.length) : ∃ d, d ∈ ds ∧ atI ds r = some d := by
  have hk : r.toNat < ds.length := by omega
  have := atI_nat (List.getElem?_eq_getElem hk)
  rw [show ((r.toNat : Nat) : Int) = r by omega] at this
  exact ⟨_, List.getElem_mem hk, this⟩
end DM

namespace DM
open PySem PySem.Spec PyProof.Rows L2 TK
variable [Gd]
/-! == of the same data -/
mutual
theorem eqv_same : ∀ (d : PyData), d.canLay0 = true → PyData.eqv d d = true
  | .none, _ => by rw [PyData.eqv]
  | .bool b, _ => by rw [PyData.eqv]; exact beq_self_eq_true b
  | .int b, _ => by rw [PyData.eqv]; exact beq_self_eq_true b
  | .str b, _ => by rw [PyData.eqv]; exact beq_self_eq_true b
  | .list ds, h => by rw [PyData.eqv]; rw [PyData.canLay0] at h; exact eqvAll_same ds h
  | .tuple ds, h => by rw [PyData.eqv]; rw [PyData.canLay0] at h; exact eqvAll_same ds h
  | .dict _, h => by rw [PyData.canLay0] at h; cases h
theorem eqvAll_same : ∀ (ds : List PyData), PyData.canLayAll0 ds = true → PyData.eqvAll ds ds = true
  | [], _ => by rw [PyData.eqvAll]
  | d :: ds, h => by
    rw [PyData.canLayAll0, Bool.and_eq_true] at h
    rw [PyData.eqvAll, eqv_same d h.1, eqvAll_same ds h.2]
    rfl
end
theorem eqD_same {n : Nat} {d : D} (h : okN n d) : eqD d d = true := eqv_same _ (ok_lay n d h).1
theorem okN_ints {n : Nat} (ns : List Int) : okN (n + 1) (.lst (ns.map .int)) := by
  unfold okN
  refine okL_of fun d hd => ?_
  obtain ⟨i, _, rfl⟩ := List.mem_map.mp hd
  unfold okN
  trivial
theorem pdL_ints : ∀ ns : List Int, D.pdL (ns.map .int) = ns.map PyData.int
  | [] => rfl
  | n :: ns => by
    rw [List.map_cons, List.map_cons, D.pdL, pdL_ints ns]
    rfl
theorem eqD_ints (ns ms : List Int) : eqD (.lst (ns.map .int)) (.lst (ms.map .int)) = decide (ns = ms) := by
  unfold eqD
  rw [D.pd, D.pd, pdL_ints, pdL_ints, PyData.eqv]
  exact eqvAll_int ns ms
theorem eqD_nil (es : List D) : eqD (.lst es) (.lst []) = es.isEmpty := by
  cases es with
  | nil => simp [eqD, D.pd, D.pdL, PyData.eqv, PyData.eqvAll]
  | cons e es => simp [eqD, D.pd, D.pdL, PyData.eqv, PyData.eqvAll]
theorem okN_nil {n : Nat} : okN (n + 1) (.lst []) := by unfold okN okL; trivial
/-! < and > of lists of numbers -/
def lexL : List Int → List Int → Bool
  | [], [] => false
  | [], _ :: _ => true
  | _ :: _, [] => false
  | x :: xs, y :: ys => if x = y then lexL xs ys else decide (x < y)
theorem lexL_eq : ∀ xs ys : List Int, PySem.W.listLt xs ys = lexL xs ys
  | [], [] => rfl
  | [], _ :: _ => rfl
  | _ :: _, [] => rfl
  | x :: xs, y :: ys => by
    show (if x = y then PySem.W.listLt xs ys else _) = (if x = y then lexL xs ys else _)
    rw [lexL_eq xs ys]
    rfl
theorem dataLt_ints (xs ys : List Int) : PySem.W.dataLt (.list (xs.map PyData.int)) (.list (ys.map PyData.int)) = lexL xs ys := by
  rw [← lexL_eq]
  exact (PySem.W.dataLt_list _ _).trans (PySem.W.lexAll_map xs ys)
theorem alike_ints (xs ys : List Int) : PySem.W.alike (.list (xs.map PyData.int)) (.list (ys.map PyData.int)) = true := by
  simp only [PySem.W.alike]
  exact PySem.W.alikeAll_map xs ys
section
variable {X : Cx} {K : PySem.W.Frag}
def rLtIL (K : PySem.W.Frag) (f : List Int → List Int → Bool) : R2 := fun x y H Q => ∃ (a b : Addr) (ns ms : List Int), x = .ref a ∧ y = .ref b ∧ SqL K H a (ns.map V.int) ∧ SqL K H b (ms.map V.int) ∧ Q (.bl (f ns ms)) H
theorem op_ltIL (hu : X.A.units + 64 < cLine) : OpR X (compareOp .Lt) (rLtIL X.K fun ns ms => lexL ns ms) := by
  intro pins s σ H x y v u Q I rx ry h
  obtain ⟨a, b, ns, ms, rfl, rfl, h1, h2, q⟩ := h
  obtain ⟨as, r1⟩ := Dp.reads I (.list (ns.map PyData.int)) _ v (.lst h1 (dpAll_int ns)) rx
  obtain ⟨bs, r2⟩ := Dp.reads I (.list (ms.map PyData.int)) _ u (.lst h2 (dpAll_int ms)) ry
  refine PySem.W.lt_data r1 r2 (alike_ints ns ms) (fun e => nomatch e) ?_ ?_
  · rw [PyData.depth, PyData.depth, deep_int, deep_int]
    omega
  · rw [dataLt_ints]
    exact ⟨.bl _, H, I, rfl, q⟩
theorem op_gtIL (hu : X.A.units + 64 < cLine) : OpR X (compareOp .Gt) (rLtIL X.K fun ns ms => lexL ms ns) := by
  intro pins s σ H x y v u Q I rx ry h
  obtain ⟨a, b, ns, ms, rfl, rfl, h1, h2, q⟩ := h
  obtain ⟨as, r1⟩ := Dp.reads I (.list (ns.map PyData.int)) _ v (.lst h1 (dpAll_int ns)) rx
  obtain ⟨bs, r2⟩ := Dp.reads I (.list (ms.map PyData.int)) _ u (.lst h2 (dpAll_int ms)) ry
  refine PySem.W.gt_data r1 r2 (alike_ints ns ms) (fun e => nomatch e) ?_ ?_
  · rw [PyData.depth, PyData.depth, deep_int, deep_int]
    omega
  · rw [dataLt_ints]
    exact ⟨.bl _, H, I, rfl, q⟩
def dLtIL (f : List Int → List Int → Bool) : R2D := fun d e Q => ∃ ns ms : List Int, d.lq = some (ns.map .int) ∧ e.lq = some (ms.map .int) ∧ Q (.bl (f ns ms))
theorem sim_ltIL {f : List Int → List Int → Bool} : SimR K (rLtIL K f) (dLtIL f) := fun A B M H d e x y Q Q' hx hy q k => by
  obtain ⟨ns, ms, e1, e2, q⟩ := q
  obtain ⟨a, vs, rfl, s, l⟩ := hx.list e1
  obtain ⟨b, us, rfl, s2, l2⟩ := hy.list e2
  rw [l.ints] at s
  rw [l2.ints] at s2
  exact ⟨a, b, ns, ms, rfl, rfl, s, s2, k _ _ (.bl _) q⟩
theorem o_ltL (hu : X.A.units + 64 < cLine) (hK : X.K = K := by rfl) : OpR X (compareOp .Lt) (rLtIL K fun ns ms => lexL ns ms) ∧ SimR K (rLtIL K fun ns ms => lexL ns ms) (dLtIL fun ns ms => lexL ns ms) := by
  subst hK
  exact ⟨op_ltIL hu, sim_ltIL⟩
theorem o_gtL (hu : X.A.units + 64 < cLine) (hK : X.K = K := by rfl) : OpR X (compareOp .Gt) (rLtIL K fun ns ms => lexL ms ns) ∧ SimR K (rLtIL K fun ns ms => lexL ms ns) (dLtIL fun ns ms => lexL ms ns) := by
  subst hK
  exact ⟨op_gtIL hu, sim_ltIL⟩
end
end DM

namespace DM
open PySem PySem.Spec PyProof.Rows L2 TK
/-- the beginning is kept in mind -/
@[reducible] def GdAt (A0 : CA) (Av0 : Addr → Prop) (H0 : Hp) : Gd := ⟨fun A Av1 H => (∀ b o, A0.h b = some o → A.h b = some o) ∧ (∀ b, A0.d b → A.d b) ∧ Fr Av0 Av1 H0 H,
  fun f h => ⟨h.1, h.2.1, h.2.2.trans f⟩, fun {A Av1 H a o} n h => ⟨fun b u e => by
    have h1 := h.1 b u e
    show upd A.h a o b = some u
    rw [upd_ne (ne_of_none h1 n)]
    exact h1, h.2.1, h.2.2⟩⟩
section
variable {K : PySem.W.Frag} {A A' : CA} {B : Nat → Option Addr} {M : Mm} {ρ : Env} {σ : L2.St} {H : Hp}
/-- with less of the callers', and another thing in mind -/
theorem ER.sub {g g2 : Gd} (r : @ER g2 K A' B M ρ σ H) (h1 : ∀ b o, A.h b = some o → A'.h b = some o) (h2 : ∀ b, A.d b → A'.d b) (q : g.F A (Av A B M) H) : @ER g K A B M ρ σ H ∧ Fr (Av A' B M) (Av A B M) H H := by
  have up : ∀ b, A.h b ≠ none → A'.h b ≠ none := fun b h => by
    cases e : A.h b with
    | none => exact absurd e h
    | some o => rw [h1 b o e]; simp
  have less : ∀ b, Av A B M b → Av A' B M b := fun b h => h.elim (fun h => .inl (up b h)) .inr
  have f : Fr (Av A' B M) (Av A B M) H H := .less less
  refine ⟨@ER.mk g _ _ _ _ _ _ _ r.len (fun i s v e1 e2 => (r.sl i s v e1 e2).fr f fun a e => ⟨e, fun _ h => h⟩) r.inj (fun a mo e => (r.ob a mo e).fr f fun _ h => h) (fun b h => r.tr b (less b h)) r.sepM (fun a h => r.sepA a (up a h)) (fun i a e => ?_) (fun b o e => r.sn b o (h1 b o e)) (fun b h => r.md b (h2 b h)) q, f⟩
  have := r.sepB i a e
  cases e2 : A.h a with
  | none => rfl
  | some o => rw [h1 a o e2] at this; cases this
theorem EndsOk.chg {g2 g : Gd} {Av0 : Addr → Prop} {H0 : Hp} {D : EndsD} {E : Ends} (k : @EndsOk g K A Av0 H0 D E) (c : ∀ Av1 H1, Fr Av0 Av1 H0 H1 → g.F A Av1 H1) : @EndsOk g2 K A Av0 H0 D E :=
  @EndsOk.mk g2 _ _ _ _ _ _ (fun ρ M B σ H r f q => k.nx ρ M B σ H (ER.sub (g := g) r (fun _ _ h => h) (fun _ h => h) (c _ _ f)).1 f q) (fun d v ρ M B σ H r f h q => k.rt d v ρ M B σ H (ER.sub (g := g) r (fun _ _ h => h) (fun _ h => h) (c _ _ f)).1 f h q)
   (fun ds a vs ρ M B σ H r f i l h q => k.rn ds a vs ρ M B σ H (ER.sub (g := g) r (fun _ _ h => h) (fun _ h => h) (c _ _ f)).1 f i l h q)
   (fun ρ M B σ H r f q => k.bk ρ M B σ H (ER.sub (g := g) r (fun _ _ h => h) (fun _ h => h) (c _ _ f)).1 f q) (fun ρ M B σ H r f q => k.ct ρ M B σ H (ER.sub (g := g) r (fun _ _ h => h) (fun _ h => h) (c _ _ f)).1 f q)
end
abbrev WD := Addr → Env → Mm → Prop
/-- an error may be let out with what is wished of it -/
def Esc [Gd] (K : PySem.W.Frag) (W : WX) (W' : WD) : Prop := ∀ (A : CA) (B : Nat → Option Addr) (M : Mm) (ρ : Env) (σ : L2.St) (H : Hp) (C : Addr), ER K A B M ρ σ H → W' C ρ M → W (.ref C) none σ H
theorem Esc.no [Gd] {K : PySem.W.Frag} : Esc K (fun _ _ _ _ => False) (fun _ _ _ => False) := fun _ _ _ _ _ _ _ _ h => h
theorem takes_no {X : Cx} : Takes X (fun _ _ _ _ => False) := fun _ _ ⟨_, _, _, _, _, _, _, _, _, _, _, _, _, _, _, _, w⟩ => w.elim
section
variable [Gd] {X : Cx} {K : PySem.W.Frag} {e : Expr} {es : List Expr} {ta : TA} {ta' : TAD} {x : Str} {ps : List Str} {sp : SpD} {p pos p2 pos2 : Pos} {k : Nat} {C : Addr} {m : Str} {W : WX} {W' : WD}
/-- f(..) of a def that may let an error out: a value -/
def dCallX (W' : WD) (sp : SpD) (ta' : TAD) : TED := fun ρ M Q => ta' ρ M fun ds ρ1 M1 => sp ds M1 (fun d M2 => Q d ρ1 M2) (fun es M2 => Q (.lst es) ρ1 M2) (fun C M2 => W' C ρ1 M2)
def dCallNX (W' : WD) (sp : SpD) (ta' : TAD) : TEN := fun ρ M Q => ta' ρ M fun ds ρ1 M1 => sp ds M1 (fun _ _ => False) (fun es M2 => Q es ρ1 M2) (fun C M2 => W' C ρ1 M2)
theorem sim_callX (hx : Esc K W W') (hm : SpMono sp) (h : SimA K ta ta') : SimE K (tCallS (ofD K sp) (WE W) ta) (dCallX W' sp ta') := fun A B M ρ σ H Q Q' R q kk => h A B M ρ σ H _ _ R q fun ds ρ1 M1 B1 vs H1 R1 f1 m1 h1 q1 => by
  refine ⟨AB A B1 M1 H1, M1, ds, R1.rok, R1.args h1, hm.mono _ _ _ _ _ _ _ _ q1 (fun d M2 q2 => ?_) (fun es M2 q2 => ?_) (fun C M2 q2 => ?_)⟩
  · intro v H2 o m hd
    obtain ⟨R2, f2⟩ := R1.back o m
    rw [R1.av_ab] at hd
    exact kk d ρ1 M2 B1 v H2 R2 (f1.trans f2) (m1.trans m) hd q2
  · intro a us H2 hn o m hd
    obtain ⟨B2, R2, f2, hb, hl, h2⟩ := R1.backN hn o m hd
    obtain ⟨R3, f3⟩ := R2.drop (i := σ.length) (by rw [R2.len]; exact Nat.le_refl _)
    refine kk (.lst es) ρ1 M2 _ (.ref a) H2 R3 ((f1.trans f2).trans f3) (m1.trans m) (.lst ?_ hl (h2.fr f3)) q2
    rintro (h | ⟨j, h⟩ | h)
    · exact h (R2.sepB _ _ hb)
    · have hj : j ≠ σ.length := fun z => by subst z; rw [put_same] at h; cases h
      rw [put_ne hj] at h
      exact hj (R2.inj _ _ _ h hb)
    · exact h (R2.sepM _ _ hb)
  · intro H2 o m
    obtain ⟨R2, f2⟩ := R1.back o m
    exact hx _ _ _ _ _ _ _ R2 q2
theorem sim_callNX (hx : Esc K W W') (hm : SpMono sp) (h : SimA K ta ta') : SimN K (tCallS (ofD K sp) (WE W) ta) (dCallNX W' sp ta') := fun A B M ρ σ H Q Q' R q kk => h A B M ρ σ H _ _ R q fun ds ρ1 M1 B1 vs H1 R1 f1 m1 h1 q1 => by
  refine ⟨AB A B1 M1 H1, M1, ds, R1.rok, R1.args h1, hm.mono _ _ _ _ _ _ _ _ q1 (fun _ _ z => z.elim) (fun es M2 q2 => ?_) (fun C M2 q2 => ?_)⟩
  · intro a us H2 hn o m hd
    obtain ⟨B2, R2, f2, hb, hl, h2⟩ := R1.backN hn o m hd
    exact kk es ρ1 M2 B2 a us H2 R2 (f1.trans f2) (m1.trans m) hb hl h2 q2
  · intro H2 o m
    obtain ⟨R2, f2⟩ := R1.back o m
    exact hx _ _ _ _ _ _ _ R2 q2
theorem de_calX {j : Nat} (C : CalX X.prog X.w X.K X.mg X.base x ps j (ofD K sp)) (hm : SpMono sp) (hr : Room k X.A) (hg : Gl X x) (tk : Takes X W) (hx : Esc K W W') (ha : DA X K (e :: es) ta ta') (hj : j ≤ k := by decide) (hdb : (x == ("__debug__" : Str)) = false := by decide)
    (he : starEach (e :: es) X.env = (false, eval e X.env) :: starEach es X.env := by rfl) (hpl : (backTo pos (starEach es X.env)).any (·.1) = false := by rfl) : DE X K (.Call (.Name x p) (e :: es) [] pos) (tCallS (ofD K sp) (WE W) ta) (dCallX W' sp ta') :=
  ⟨pe_calT C hr hg tk ha.pa hj hdb he hpl, sim_callX hx hm ha.sim⟩
theorem dn_calX {j : Nat} (C : CalX X.prog X.w X.K X.mg X.base x ps j (ofD K sp)) (hm : SpMono sp) (hr : Room k X.A) (hg : Gl X x) (tk : Takes X W) (hx : Esc K W W') (ha : DA X K (e :: es) ta ta') (hj : j ≤ k := by decide) (hdb : (x == ("__debug__" : Str)) = false := by decide)
    (he : starEach (e :: es) X.env = (false, eval e X.env) :: starEach es X.env := by rfl) (hpl : (backTo pos (starEach es X.env)).any (·.1) = false := by rfl) : DN X K (.Call (.Name x p) (e :: es) [] pos) (tCallS (ofD K sp) (WE W) ta) (dCallNX W' sp ta') :=
  ⟨pe_calT C hr hg tk ha.pa hj hdb he hpl, sim_callNX hx hm ha.sim⟩
/-- raise x('..') -/
def dRaise (W' : WD) (C : Addr) : TSD := fun _ ρ M => W' C ρ M
theorem ds_raise (T : ErrAt X.K X.mg x C) (tk : Takes X W) (hx : Esc K W W') (hg : Gl X x) {j : Nat} (hc : X.calm = true := by rfl) (hdb : (x == ("__debug__" : Str)) = false := by decide) :
    DS X K (.Raise (some (.Call (.Name x p) [.Constant (.str m) j p2] [] pos)) none pos2) (fun _ σ H => W (.ref C) none σ H) (dRaise W' C) :=
  ⟨ps_raiseE T hc tk hg hdb, fun A B M ρ σ H E D r q _ => hx _ _ _ _ _ _ _ r q⟩
end
/-! try -/
inductive HSim [Gd] (K : PySem.W.Frag) : List (Value × (Addr → Value → Option Addr → TS)) → List (Value × TSD) → Prop
  | nil : HSim K [] []
  | cons {c : Value} {ts : Addr → Value → Option Addr → TS} {th' : TSD} {l : List (Value × (Addr → Value → Option Addr → TS))} {l' : List (Value × TSD)} (h : ∀ a cls d, SimS K (ts a cls d) th') (r : HSim K l l') : HSim K ((c, ts) :: l) ((c, th') :: l')
structure DHds [Gd] (X : Cx) (K : PySem.W.Frag) (hds : List ExceptHandler) (l : List (Value × (Addr → Value → Option Addr → TS))) (l' : List (Value × TSD)) : Prop where
  ok : HdsOk X hds l
  sim : HSim K l l'
def dHds (K : PySem.W.Frag) (W' : WD) (D : EndsD) : List (Value × TSD) → WD
  | [] => W'
  | (c, th') :: r => fun C ρ M => ∃ b, PySem.W.exmOne K (.ref C) c = some b ∧ if b = true then th' D ρ M else dHds K W' D r C ρ M
def dTry (K : PySem.W.Frag) (tb' : WD → TSD) (W' : WD) (l' : List (Value × TSD)) (u' : TSD) : TSD := fun D ρ M => tb' (dHds K W' D l') { D with nx := u' D } ρ M
section
variable [g : Gd] {X : Cx} {K : PySem.W.Frag} {W : WX} {W' : WD}
theorem dhds_nil : DHds X K [] [] [] := ⟨.nil, .nil⟩
theorem dhds_cons {x : Str} {c : Value} {th : TS} {th' : TSD} {b₀ : Stmt} {suite : List Stmt} {np pos' : Pos} {hds : List ExceptHandler} {l : List (Value × (Addr → Value → Option Addr → TS))} {l' : List (Value × TSD)} (hc : Names X x c)
    (hsu : ∀ (a : Addr) (pn : List (Addr × Obj)), DSs (X.suite a pn) K (b₀ :: suite) th th') (r : DHds X K hds l l') : DHds X K (.ExceptHandler (some (.Name x np)) none (b₀ :: suite) pos' :: hds) ((c, fun _ _ _ => th) :: l) ((c, th') :: l') :=
  ⟨.cons hc (fun a _ _ _ _ _ _ => (hsu a _).ps) r.ok, .cons (fun _ _ _ => (hsu 0 []).sim) r.sim⟩
theorem hds_run (hx : Esc K W W') {A : CA} {B M ρ σ H E D} {C : Addr} (r : ER K A B M ρ σ H) (k : EndsOk K A (Av A B M) H D E) : ∀ {l l'}, HSim K l l' → dHds K W' D l' C ρ M → wMany K W E l (.ref C) none σ H
  | _, _, .nil, q => hx _ _ _ _ _ _ _ r q
  | _, _, .cons h t, q => by
    obtain ⟨b, e, q⟩ := q
    refine ⟨b, e, fun hb a _ => ?_, fun hb => ?_⟩
    · rw [if_pos hb] at q
      exact h a _ _ A B M ρ σ H E D r q k
    · rw [if_neg (by rw [hb]; decide)] at q
      exact hds_run hx r k t q
theorem sim_try {tb : WX → TS} {tb' : WD → TSD} {l : List (Value × (Addr → Value → Option Addr → TS))} {l' : List (Value × TSD)} {u : TS} {u' : TSD} (hx : Esc K W W') (hb : ∀ (g2 : Gd) (W2 : WX) (W2' : WD), @Esc g2 K W2 W2' → @SimS g2 K (tb W2) (tb' W2')) (hh : HSim K l l') (hu : SimS K u u') :
    SimS K (fun D σ H => tb (wMany K W D l) { D with nx := u D } σ H) (dTry K tb' W' l' u') := fun A B M ρ σ H E D r q k => by
  have c : ∀ Av1 H1, Fr (Av A B M) Av1 H H1 → g.F A Av1 H1 := fun _ _ f => g.cl f r.gd
  obtain ⟨r2, _⟩ := ER.sub (g := GdAt A (Av A B M) H) r (fun _ _ h => h) (fun _ h => h) ⟨fun _ _ h => h, fun _ h => h, .refl⟩
  refine hb (GdAt A (Av A B M) H) (wMany K W E l) (dHds K W' D l') (fun A1 B1 M1 ρ1 σ1 H1 C r1 q1 => ?_) A B M ρ σ H _ _ r2 q ?_
  · obtain ⟨h1, h2, f⟩ := @ER.gd (GdAt A (Av A B M) H) _ _ _ _ _ _ _ r1
    have f2 : Fr (Av A B M) (Av A B1 M1) H H1 := f.trans (.less fun b h => h.elim (fun h => .inl (by
      cases e : A.h b with
      | none => exact absurd e h
      | some o => rw [h1 b o e]; simp)) .inr)
    obtain ⟨r3, _⟩ := ER.sub (g := g) r1 h1 h2 (c _ _ f2)
    exact hds_run hx r3 (k.from f2) hh q1
  · have k1 : EndsOk K A (Av A B M) H { D with nx := u' D } { E with nx := u E } :=
      ⟨fun ρ1 M1 B1 σ1 H1 r1 f q => hu A B1 M1 ρ1 σ1 H1 E D r1 q (k.from f), k.rt, k.rn, k.bk, k.ct⟩
    exact k1.chg c
theorem ds_try {body : List Stmt} {h₀ : ExceptHandler} {hds : List ExceptHandler} {orelse : List Stmt} {pos : Pos} {tb : WX → TS} {tb' : WD → TSD} {l : List (Value × (Addr → Value → Option Addr → TS))} {l' : List (Value × TSD)} {u : TS} {u' : TSD} (ho : DSs X K orelse u u')
    (tk : Takes X W) (hx : Esc K W W') (hb : ∀ (g2 : Gd) (W2 : WX) (W2' : WD) (pn : List (Addr × Obj)) (xe : Value → Shared → Prop), Takes (X.tr pn xe) W2 → @Esc g2 K W2 W2' → @DSs g2 (X.tr pn xe) K body (tb W2) (tb' W2'))
    (hh : DHds X K (h₀ :: hds) l l') (hs : X.stack = X.env :: X.outer := by rfl) (hf : X.env.frame = some X.env.locals := by rfl) (hK : X.K = K := by rfl) : DS X K (.Try body (h₀ :: hds) orelse [] pos) (fun D σ H => tb (wMany X.K W D l) { D with nx := u D } σ H) (dTry K tb' W' l' u') := by
  subst hK
  exact ⟨ps_try_manyE ho.ps hs hf tk (fun W2 pn xe t _ => @DSs.ps Gd.triv _ _ _ _ _ (hb Gd.triv W2 (fun _ _ _ => False) pn xe t (fun _ _ _ _ _ _ _ _ z => z.elim))) hh.ok, sim_try hx (fun g2 W2 W2' e => @DSs.sim g2 _ _ _ _ _ (hb g2 W2 W2' [] (fun _ _ => True) (fun _ _ _ => trivial) e)) hh.sim ho.sim⟩
end
/-! a def that may let errors out -/
section
variable {P : Program} {w : World} {K : PySem.W.Frag} {mg : Str → Option Value} {base : Heap} {x : Str} {st : Stmt} {N ps : List Str} {k : Nat} {sp : SpD}
theorem defDX (D : DefAt K mg x st ps) (S : FnScope N ps (defScope st)) (len : ∀ ds M Q N' E, sp ds M Q N' E → ds.length = ps.length)
    (hbody : ∀ (g : Gd) (f : Addr) (cdv : Value) (Ar : Around) (outer : List PySem.Env) (s : Shared) (H : Hp) (E : XK) (ds : List DM.D) (M : Mm) (Q : DM.D → Mm → Prop) (N' : List DM.D → Mm → Prop) (E' : Addr → Mm → Prop), Room k (Ar.deeper (envOfC x (defScope st) s.heap.objs.size f cdv)) → Esc K (fun cls d _ H => E cls d H) (fun C _ M => E' C M) → sp ds M Q N' E' →
      ∃ t t', DSs (cxOf (L2.CX P w) P w K mg base N x (defScope st) f cdv Ar outer s H E) K (defBody st) t t' ∧ t' ⟨(fun _ M' => Q .non M'), Q, N', (fun _ _ => False), (fun _ _ => False)⟩ (startD N ds) M) : CalX P w K mg base x ps (k + 1) (ofD K sp) :=
  D.calX S (fun vs H Q E ⟨A, M, ds, o, hd, q⟩ => by rw [← hd.length]; exact len _ _ _ _ _ q) fun f cdv Ar outer s H vs Q E hr ⟨A, M, ds, o, hd, q⟩ => by
    have o' : ROk K ⟨A.h, fun b => M b ≠ none⟩ M H := ⟨o.ob, o.tr, o.sep, o.sn, fun b h => h⟩
    obtain ⟨t, t', h, q'⟩ := hbody (GdAt ⟨A.h, fun b => M b ≠ none⟩ (Avc A M) H) f cdv Ar outer s H E ds M _ _ _ hr (fun A1 B1 M1 ρ1 σ1 H1 C r1 q1 => by
      obtain ⟨h1, h2, fr⟩ := @ER.gd (GdAt ⟨A.h, fun b => M b ≠ none⟩ (Avc A M) H) _ _ _ _ _ _ _ r1
      obtain ⟨r1, _⟩ := ER.sub (g := Gd.triv) r1 (fun _ _ h => h) (fun _ h => h) trivial
      have less : ∀ b, Avc A M1 b → Av A1 B1 M1 b := fun b h => by
        rcases h with h | ⟨i, h⟩ | h
        · refine .inl ?_
          cases e : A.h b with
          | none => exact absurd e h
          | some o => rw [h1 b o e]; simp
        · cases h
        · exact .inr (.inr h)
      refine q1 H1 ⟨fun a mo e => (r1.ob a mo e).fr (.less less) fun _ h => h, fun b h => r1.tr b (.inr (.inr h)), fun a h => r1.sepA a (by
          cases e : A.h a with
          | none => exact absurd e h
          | some o => rw [h1 a o e]; simp), fun b u e => r1.sn b u (h1 b u e), fun b h => r1.md b (h2 b (o.md b h))⟩ fun b u n e => ?_
      cases qq : A.h b with
      | some w =>
        have e1 := o.sn b w qq
        rw [e] at e1
        cases e1
        exact ⟨r1.sn b _ (h1 b _ qq), r1.sepA b (by rw [h1 b _ qq]; simp)⟩
      | none =>
        obtain ⟨e1, e2⟩ := fr b u (by rintro (h | ⟨i, h⟩ | h); exact h qq; cases h; exact h n) e
        exact ⟨e1, none_of_not_av e2⟩) q
    refine ⟨t, @DSs.ps (GdAt ⟨A.h, fun b => M b ≠ none⟩ (Avc A M) H) _ _ _ _ _ h, ?_⟩
    exact body_runG (@DSs.sim (GdAt ⟨A.h, fun b => M b ≠ none⟩ (Avc A M) H) _ _ _ _ _ h) o hd ⟨fun _ _ h => h, fun _ h => h, .refl⟩ q'
end
end DM

namespace DM
open PySem PySem.Spec PyProof.Rows L2 TK
theorem lexL_trans : ∀ (a b c : List Int), lexL a b = false → lexL b c = false → lexL a c = false
  | [], [], c, _, h => h
  | [], _ :: _, _, h, _ => by cases h
  | _ :: _, _, [], _, _ => rfl
  | _ :: _, [], _ :: _, _, h => by cases h
  | x :: xs, y :: ys, z :: zs, h, h2 => by
    have h : (if x = y then lexL xs ys else decide (x < y)) = false := h
    have h2 : (if y = z then lexL ys zs else decide (y < z)) = false := h2
    show (if x = z then lexL xs zs else decide (x < z)) = false
    by_cases e1 : x = y
    · rw [if_pos e1] at h
      by_cases e2 : y = z
      · rw [if_pos e2] at h2
        rw [if_pos (e1.trans e2)]
        exact lexL_trans xs ys zs h h2
      · rw [if_neg e2] at h2
        rw [if_neg (by omega), e1]
        exact h2
    · rw [if_neg e1] at h
      have h := of_decide_eq_false h
      by_cases e2 : y = z
      · rw [if_neg (by omega)]
        exact decide_eq_false (by omega)
      · rw [if_neg e2] at h2
        have h2 := of_decide_eq_false h2
        rw [if_neg (by omega)]
        exact decide_eq_false (by omega)
theorem lexL_asym : ∀ (a b : List Int), lexL a b = true → lexL b a = false
  | [], _ :: _, _ => rfl
  | [], [], h => by cases h
  | _ :: _, [], h => by cases h
  | x :: xs, y :: ys, h => by
    have h : (if x = y then lexL xs ys else decide (x < y)) = true := h
    show (if y = x then lexL ys xs else decide (y < x)) = false
    by_cases e1 : x = y
    · subst e1
      rw [if_pos rfl] at h ⊢
      exact lexL_asym xs ys h
    · rw [if_neg e1] at h
      rw [if_neg (fun z => e1 z.symm)]
      have h := of_decide_eq_true h
      exact decide_eq_false (by omega)
theorem lexL_irr (a : List Int) : lexL a a = false := by
  cases h : lexL a a with
  | false => rfl
  | true => rw [lexL_asym a a h] at h; cases h
/-! min of a list of pairs -/
abbrev prL (w : Int × Int) : List Int := [w.1, w.2]
def ppD (w : Int × Int) : PyData := .tuple ((prL w).map .int)
theorem dataLt_pair (a b : Int × Int) : PySem.W.dataLt (ppD a) (ppD b) = lexL (prL a) (prL b) := by
  rw [← lexL_eq]
  exact (PySem.W.dataLt_tuple _ _).trans (PySem.W.lexAll_map (prL a) (prL b))
theorem alike_pair (a b : Int × Int) : PySem.W.alike (ppD a) (ppD b) = true := by
  unfold ppD
  simp only [PySem.W.alike]
  exact PySem.W.alikeAll_map (prL a) (prL b)
def minP (w : Int × Int) (ws : List (Int × Int)) : Int × Int := ws.foldl (fun a y => if lexL (prL y) (prL a) then y else a) w
theorem minD_pairs : ∀ (ws : List (Int × Int)) (w : Int × Int), PySem.W.minD (ppD w) (ws.map ppD) = ppD (minP w ws)
  | [], _ => rfl
  | y :: ws, w => by
    show PySem.W.minD (if PySem.W.dataLt (ppD y) (ppD w) then ppD y else ppD w) (ws.map ppD) = ppD (minP (if lexL (prL y) (prL w) then y else w) ws)
    rw [dataLt_pair]
    cases lexL (prL y) (prL w) with
    | true => exact minD_pairs ws y
    | false => exact minD_pairs ws w
theorem minP_low : ∀ (ws : List (Int × Int)) (w : Int × Int), ∀ y ∈ w :: ws, lexL (prL y) (prL (minP w ws)) = false
  | [], w, y, hy => by
    rcases List.mem_singleton.mp hy with rfl
    exact lexL_irr _
  | z :: ws, w, y, hy => by
    show lexL (prL y) (prL (minP (if lexL (prL z) (prL w) then z else w) ws)) = false
    have ih := minP_low ws (if lexL (prL z) (prL w) then z else w)
    have h0 := ih _ List.mem_cons_self
    cases h : lexL (prL z) (prL w) with
    | true =>
      rw [h] at ih h0
      rcases List.mem_cons.mp hy with rfl | hy
      · exact lexL_trans _ _ _ (lexL_asym _ _ h) h0
      · rcases List.mem_cons.mp hy with rfl | hy
        · exact h0
        · exact ih _ (List.mem_cons_of_mem _ hy)
    | false =>
      rw [h] at ih h0
      rcases List.mem_cons.mp hy with rfl | hy
      · exact h0
      · rcases List.mem_cons.mp hy with rfl | hy
        · exact lexL_trans _ _ _ h h0
        · exact ih _ (List.mem_cons_of_mem _ hy)
theorem ppD_inj {a b : Int × Int} (h : ppD a = ppD b) : a = b := by
  unfold ppD prL at h
  injection h with h
  injection h with h1 h
  injection h with h2 _
  injection h1 with h1
  injection h2 with h2
  cases a
  cases b
  cases h1
  cases h2
  rfl
theorem deep_pairs (ws : List (Int × Int)) : PyData.depthAll (ws.map ppD) ≤ 5 := by
  induction ws with
  | nil => simp [PyData.depthAll]
  | cons w ws ih =>
    rw [List.map_cons, PyData.depthAll]
    unfold ppD prL
    simp only [List.map_cons, List.map_nil, PyData.depth, PyData.depthAll]
    unfold ppD prL at ih
    simp only [List.map_cons, List.map_nil] at ih
    omega
theorem lay_pairs (ws : List (Int × Int)) : PyData.canLayAll0 (ws.map ppD) = true := by
  induction ws with
  | nil => simp [PyData.canLayAll0]
  | cons w ws ih =>
    rw [List.map_cons, PyData.canLayAll0, ih]
    unfold ppD prL
    simp [PyData.canLay0, PyData.canLayAll0]
section
variable {X : Cx} {K : PySem.W.Frag}
def rMinP (K : PySem.W.Frag) : List V → Hp → VK → Prop := fun vs H Q => ∃ (a : Addr) (us : List V) (ws : List (Int × Int)), vs = [V.ref a] ∧ ws ≠ [] ∧ SqL K H a us ∧ DpAll K H us (ws.map ppD) ∧
  ∀ (i : Nat) (u : V) (w : Int × Int), us[i]? = some u → ws[i]? = some w → (∀ y ∈ ws, lexL (prL y) (prL w) = false) → Q u H
theorem cr_minP (hc : X.calm = true) (hu : X.A.units + 64 < cLine) : CallR X (.builtin "min") (rMinP X.K) := by
  intro pins s σ H vs us Q I r h
  obtain ⟨a, xs, ws, rfl, hne, hs, hd, q⟩ := h
  obtain rfl := Vals.ref1 r
  obtain ⟨its, rv, hl, _⟩ := I.list hs
  obtain ⟨as, ra⟩ := Dp.readsAll I (ws.map ppD) _ _ hd rv
  have hmap := SeqAt.readsAll_map (ws.map ppD) its as (lay_pairs ws) ra
  cases ws with
  | nil => exact absurd rfl hne
  | cons w ws =>
    refine PySem.W.min_list_data (x := ppD w) (xs := ws.map ppD) (as := as) (I.ok.hd hc) hl.isList (by first | exact ra | (rw [List.toList_toArray]; exact ra)) ⟨?_, ?_⟩ ?_ (fun i v h' tk bs hi rd hk => ?_)
    · intro x hx y hy
      obtain ⟨p, _, rfl⟩ := List.mem_map.mp (show x ∈ (w :: ws).map ppD from hx)
      obtain ⟨p2, _, rfl⟩ := List.mem_map.mp (show y ∈ (w :: ws).map ppD from hy)
      exact alike_pair _ _
    · intro x hx
      obtain ⟨p, _, rfl⟩ := List.mem_map.mp (show x ∈ (w :: ws).map ppD from hx)
      intro h
      cases h
    · have := deep_pairs (w :: ws)
      rw [List.map_cons] at this
      omega
    · rw [minD_pairs] at rd
      have hi : its[i]? = some v := by simpa using hi
      have hil := (List.getElem?_eq_some_iff.mp hi).1
      have e1 : ((w :: ws).map ppD)[i]? = some (SeqAt.readOf s.heap v) := by rw [← hmap, List.getElem?_map, hi]; rfl
      obtain ⟨p, hp, ep⟩ : ∃ p, (w :: ws)[i]? = some p ∧ ppD p = SeqAt.readOf s.heap v := by
        rw [List.getElem?_map] at e1
        cases e : (w :: ws)[i]? with
        | none => rw [e] at e1; cases e1
        | some p => rw [e] at e1; exact ⟨p, rfl, Option.some.inj e1⟩
      obtain ⟨x, hx⟩ : ∃ x, xs[i]? = some x := ⟨_, List.getElem?_eq_getElem (by rw [rv.length]; exact hil)⟩
      obtain ⟨v2, hv2, rx⟩ := rv.get hx
      rw [hi] at hv2
      cases hv2
      obtain ⟨cs, rp, _⟩ := PySem.W.readsAll_at ra i v hi
      have eg : ((w :: ws).map ppD).getD i .none = ppD p := by rw [List.getD_eq_getElem?_getD, List.getElem?_map, hp]; rfl
      rw [eg] at rp
      have lay : ∀ q : Int × Int, (ppD q).canLay0 = true := fun q => by
        have := lay_pairs [q]
        rw [List.map_cons, PyData.canLayAll0, Bool.and_eq_true] at this
        exact this.1
      have e2 := SeqAt.readOf_eq (lay _) rd
      rw [SeqAt.readOf_eq (lay _) (PySem.W.reads_keeps hk rp)] at e2
      have e3 := ppD_inj e2
      refine ⟨x, H, I.kept hk, rx, q i x p hx hp ?_⟩
      rw [e3]
      exact minP_low ws w
theorem HdL.pairs {A : CA} {B : Nat → Option Addr} {M : Mm} {H : Hp} : ∀ {ws : List (Int × Int)} {vs : List V}, HdL K (Av A B M) H (ws.map ipD) vs → DpAll K H vs (ws.map ppD)
  | [], _, .nil => .nil
  | w :: ws, _, .cons r t => .cons (dp_of 5 (ipD w) (by unfold ipD okN okL okN okL okN okL; exact ⟨trivial, trivial, trivial⟩) r) (HdL.pairs t)
def dMinP : R1D := fun d Q => ∃ ws : List (Int × Int), d.lq = some (ws.map ipD) ∧ ws ≠ [] ∧ ∀ m, m ∈ ws → (∀ y ∈ ws, lexL (prL y) (prL m) = false) → Q (ipD m)
theorem o_minP [Gd] (hc : X.calm = true) (hu : X.A.units + 64 < cLine) (hK : X.K = K := by rfl) : CallR X (.builtin "min") (rMinP K) ∧ SimC K (rMinP K) dMinP := by
  subst hK
  refine ⟨cr_minP hc hu, fun A B M H d x Q Q' hx q k => ?_⟩
  obtain ⟨ws, e, hne, q⟩ := q
  obtain ⟨a, vs, rfl, s, l⟩ := hx.list e
  refine ⟨a, vs, ws, rfl, hne, s, l.pairs, fun i u w hu hw hl => ?_⟩
  obtain ⟨v, hv, hd⟩ := l.get (show (ws.map ipD)[i]? = some (ipD w) by rw [List.getElem?_map, hw]; rfl)
  rw [hu] at hv
  cases hv
  exact k _ _ hd (q w (List.mem_of_getElem? hw) hl)
end
end DM

namespace DM
open PySem PySem.Spec PyProof.Rows L2 TK
variable [Gd]
section
variable {X : Cx} {K : PySem.W.Frag} {x : Str}
/-- a, b, c = e, [..], f: the middle one is our own -/
def dParM (i j l : Nat) (ta' : TED) (tn' : TEN) (tc' : TED) : TSD := fun D ρ M => ta' ρ M fun d ρ1 M1 => tn' ρ1 M1 fun ds ρ2 M2 => tc' ρ2 M2 fun e ρ3 M3 => D.nx (((ρ3.set i (.val d)).set j (.own ds)).set l (.val e)) M3
theorem ds_parM (i j l : Nat) {y z : Str} {a b c : Expr} {ta tn tc : TE} {ta' tc' : TED} {tn' : TEN} {px py pz pt : Pos} {kt k2 pt2} {pos : Pos} (hN : X.N.Nodup) (ha : DE X K a ta ta') (hb : DN X K b tn tn') (hd : DE X K c tc tc') (hc : X.calm = true := by rfl) (hi : X.N[i]? = some x := by rfl) (hj : X.N[j]? = some y := by rfl) (hl : X.N[l]? = some z := by rfl)
    (hx : Loc X.env.scope x := by first | exact .inl rfl | exact .inr rfl) (hy : Loc X.env.scope y := by first | exact .inl rfl | exact .inr rfl) (hz : Loc X.env.scope z := by first | exact .inl rfl | exact .inr rfl)
    (fx : X.fn x = true ∨ X.env.scope.names.lookup x = some .local := by first | exact .inl rfl | exact .inr rfl | assumption) (fy : X.fn y = true ∨ X.env.scope.names.lookup y = some .local := by first | exact .inl rfl | exact .inr rfl | assumption) (fz : X.fn z = true ∨ X.env.scope.names.lookup z = some .local := by first | exact .inl rfl | exact .inr rfl | assumption)
    (hs1 : starEach [a, b, c] X.env = (false, eval a X.env) :: starEach [b, c] X.env := by rfl) (hs2 : starEach [b, c] X.env = (false, eval b X.env) :: starEach [c] X.env := by rfl) (hs3 : starEach [c] X.env = (false, eval c X.env) :: starEach [] X.env := by rfl)
    (hsw : swapsWithSole [.Tuple [.Name x px, .Name y py, .Name z pz] kt pt] (.Tuple [a, b, c] k2 pt2) pos.line X.env = pure false := by rfl) (hw : swappedStores [.Tuple [.Name x px, .Name y py, .Name z pz] kt pt] (.Tuple [a, b, c] k2 pt2) X.env = pure none := by rfl)
    (h1 : (assignEach [.Tuple [.Name x px, .Name y py, .Name z pz] kt pt] X.env).map (·.2) = [assign (.Tuple [.Name x px, .Name y py, .Name z pz] kt pt) X.env] := by rfl)
    (ha1 : (assignEach [.Name x px, .Name y py, .Name z pz] X.env).map (·.2) = assign (.Name x px) X.env :: (assignEach [.Name y py, .Name z pz] X.env).map (·.2) := by rfl) (ha2 : (assignEach [.Name y py, .Name z pz] X.env).map (·.2) = assign (.Name y py) X.env :: (assignEach [.Name z pz] X.env).map (·.2) := by rfl) (ha3 : (assignEach [.Name z pz] X.env).map (·.2) = assign (.Name z pz) X.env :: (assignEach [] X.env).map (·.2) := by rfl)
    (hn : (assignEach [.Name x px, .Name y py, .Name z pz] X.env).length = 3 := by rfl) (hst : (assignEach [.Name x px, .Name y py, .Name z pz] X.env).findIdx? (·.1) = none := by rfl) (hK : X.K = K := by rfl) :
    DS X K (.Assign [.Tuple [.Name x px, .Name y py, .Name z pz] kt pt] (.Tuple [a, b, c] k2 pt2) pos) (tAsg (tTup (tCons ta (tCons tn (tCons tc tNil)))) (gTup K 3 (gCons (gName i) (gCons (gName j) (gCons (gName l) gNil))))) (dParM i j l ta' tn' tc') := by
  subst hK
  refine ⟨ps_asg (pe_tup (pa_cons ha.pe (pa_cons hb.pe (pa_cons hd.pe pa_nil hs3) hs2) hs1)) (pg_tup hc (pgs_cons (pg_name hN hi hx fx) (pgs_cons (pg_name hN hj hy fy) (pgs_cons (pg_name hN hl hz fz) pgs_nil ha3) ha2) ha1) hn hst) hsw hw h1, fun A B M ρ σ H E D r q k => ha.sim A B M ρ σ H _ _ r q fun d ρ1 M1 B1 v H1 r1 f1 m1 hd1 q1 => ?_⟩
  refine hb.sim A B1 M1 ρ1 σ H1 _ _ r1 q1 fun ds ρ2 M2 B2 a1 vs H2 r2 f2 m2 hb2 hl2 hds q2 => ?_
  obtain ⟨r3, f3⟩ := r2.stash hb2 hl2
  refine hd.sim _ _ M2 ρ2 σ H2 _ _ r3 q2 fun e ρ3 M3 B3 w H3 r4 f4 m4 he q3 => ?_
  refine ⟨Nat.le_of_ble_eq_true rfl, fun p hp => ?_⟩
  obtain ⟨r5, f5⟩ := r4.drop (i := σ.length) (by rw [r4.len]; exact Nat.le_refl _)
  obtain ⟨r6, f6, _, _, _⟩ := r5.new (o := .tup [v, .ref a1, w]) hp
  have hl3 : upd H3 p (.tup [v, .ref a1, w]) a1 = some (.lst vs) := r6.sn a1 _ upd_same
  have aD : A.h a1 = none := r2.sepB _ _ hb2
  have f36 := ((f3.trans f4).trans f5).trans f6
  obtain ⟨r7, f7⟩ := r6.unhide aD put_same (fun b o e => r6.sn b o (by
    show upd A.h a1 (.lst vs) b = _
    rw [upd_ne fun z => by subst z; rw [aD] at e; cases e]
    exact e)) (Gd.cl f36 r2.gd)
  have f27 := f36.trans f7
  have r8 := r7.set (i := i) ((hd1.fr f2).fr f27)
  obtain ⟨B9, r9, f9⟩ := r8.setOwn (i := j) (by rw [List.length_set]; exact put_same) hl3 (hds.fr f27)
  have he9 := (((he.fr f5).fr f6).fr f7).fr f9
  exact ⟨p, _, rfl, SqT.of upd_same, rfl, _, _, rfl, _, _, rfl, _, _, rfl, rfl, k.nx _ M3 B9 _ _ (r9.set he9) (((f1.trans f2).trans f27).trans f9) q3⟩
/-- a, b = e, [..]: the second one is our own -/
def dParS (i j : Nat) (ta' : TED) (tn' : TEN) : TSD := fun D ρ M => ta' ρ M fun d ρ1 M1 => tn' ρ1 M1 fun ds ρ2 M2 => D.nx ((ρ2.set i (.val d)).set j (.own ds)) M2
theorem ds_parS (i j : Nat) {y : Str} {a b : Expr} {ta tn : TE} {ta' : TED} {tn' : TEN} {px py pt : Pos} {kt k2 pt2} {pos : Pos} (hN : X.N.Nodup) (ha : DE X K a ta ta') (hb : DN X K b tn tn') (hc : X.calm = true := by rfl) (hi : X.N[i]? = some x := by rfl) (hj : X.N[j]? = some y := by rfl) (hij : i ≠ j := by decide)
    (hx : X.env.scope.names.lookup x = some .local := by rfl) (hy : X.env.scope.names.lookup y = some .local := by rfl)
    (hs1 : starEach [a, b] X.env = (false, eval a X.env) :: starEach [b] X.env := by rfl) (hs2 : starEach [b] X.env = (false, eval b X.env) :: starEach [] X.env := by rfl)
    (hw : swappedStores [.Tuple [.Name x px, .Name y py] kt pt] (.Tuple [a, b] k2 pt2) X.env = pure (some [x, y]) := by rfl)
    (hs : swapsWithSole [.Tuple [.Name x px, .Name y py] kt pt] (.Tuple [a, b] k2 pt2) pos.line X.env = pure false := by rfl) :
    DS X K (.Assign [.Tuple [.Name x px, .Name y py] kt pt] (.Tuple [a, b] k2 pt2) pos) (tPar i j (tCons ta (tCons tn tNil))) (dParS i j ta' tn') := by
  refine ⟨ps_par hc hN hi hj hij hx hy (pa_cons ha.pe (pa_cons hb.pe pa_nil hs2) hs1) hw hs, fun A B M ρ σ H E D r q k => ha.sim A B M ρ σ H _ _ r q fun d ρ1 M1 B1 v H1 r1 f1 m1 hd1 q1 => ?_⟩
  refine hb.sim A B1 M1 ρ1 σ H1 _ _ r1 q1 fun ds ρ2 M2 B2 a1 vs H2 r2 f2 m2 hb2 hl2 hds q2 => ?_
  have r8 := r2.set (i := i) (hd1.fr f2)
  obtain ⟨B9, r9, f9⟩ := r8.setOwn (i := j) (by rw [List.length_set]; exact hb2) hl2 hds
  exact ⟨_, _, rfl, k.nx _ M2 B9 _ _ r9 ((f1.trans f2).trans f9) q2⟩
theorem ds_parM3 (i j l : Nat) {y z : Str} {a b c : Expr} {ta tn tc : TE} {ta' tc' : TED} {tn' : TEN} {px py pz pt : Pos} {kt k2 pt2} {pos : Pos} (hN : X.N.Nodup) (ha : DE X K a ta ta') (hb : DN X K b tn tn') (hd : DE X K c tc tc') (hc : X.calm = true := by rfl) (hi : X.N[i]? = some x := by rfl) (hj : X.N[j]? = some y := by rfl) (hl : X.N[l]? = some z := by rfl) (hij : i ≠ j := by decide) (hil : i ≠ l := by decide) (hjl : j ≠ l := by decide)
    (hx : X.env.scope.names.lookup x = some .local := by rfl) (hy : X.env.scope.names.lookup y = some .local := by rfl) (hz : X.env.scope.names.lookup z = some .local := by rfl)
    (hs1 : starEach [a, b, c] X.env = (false, eval a X.env) :: starEach [b, c] X.env := by rfl) (hs2 : starEach [b, c] X.env = (false, eval b X.env) :: starEach [c] X.env := by rfl) (hs3 : starEach [c] X.env = (false, eval c X.env) :: starEach [] X.env := by rfl)
    (hw : swappedStores [.Tuple [.Name x px, .Name y py, .Name z pz] kt pt] (.Tuple [a, b, c] k2 pt2) X.env = pure (some [x, y, z]) := by rfl)
    (hs : swapsWithSole [.Tuple [.Name x px, .Name y py, .Name z pz] kt pt] (.Tuple [a, b, c] k2 pt2) pos.line X.env = pure false := by rfl) :
    DS X K (.Assign [.Tuple [.Name x px, .Name y py, .Name z pz] kt pt] (.Tuple [a, b, c] k2 pt2) pos) (tPar3 i j l (tCons ta (tCons tn (tCons tc tNil)))) (dParM i j l ta' tn' tc') := by
  refine ⟨ps_par3 hc hN hi hj hl hij hil hjl hx hy hz (pa_cons ha.pe (pa_cons hb.pe (pa_cons hd.pe pa_nil hs3) hs2) hs1) hw hs, fun A B M ρ σ H E D r q k => ha.sim A B M ρ σ H _ _ r q fun d ρ1 M1 B1 v H1 r1 f1 m1 hd1 q1 => ?_⟩
  refine hb.sim A B1 M1 ρ1 σ H1 _ _ r1 q1 fun ds ρ2 M2 B2 a1 vs H2 r2 f2 m2 hb2 hl2 hds q2 => ?_
  obtain ⟨r3, f3⟩ := r2.stash hb2 hl2
  refine hd.sim _ _ M2 ρ2 σ H2 _ _ r3 q2 fun e ρ3 M3 B3 w H3 r4 f4 m4 he q3 => ?_
  obtain ⟨r5, f5⟩ := r4.drop (i := σ.length) (by rw [r4.len]; exact Nat.le_refl _)
  have hl3 : H3 a1 = some (.lst vs) := r5.sn a1 _ upd_same
  have aD : A.h a1 = none := r2.sepB _ _ hb2
  have f36 := (f3.trans f4).trans f5
  obtain ⟨r7, f7⟩ := r5.unhide aD put_same (fun b o e => r5.sn b o (by
    show upd A.h a1 (.lst vs) b = _
    rw [upd_ne fun z => by subst z; rw [aD] at e; cases e]
    exact e)) (Gd.cl f36 r2.gd)
  have f27 := f36.trans f7
  have r8 := r7.set (i := i) ((hd1.fr f2).fr f27)
  obtain ⟨B9, r9, f9⟩ := r8.setOwn (i := j) (by rw [List.length_set]; exact put_same) hl3 (hds.fr f27)
  have he9 := ((he.fr f5).fr f7).fr f9
  exact ⟨_, _, _, rfl, k.nx _ M3 B9 _ _ (r9.set he9) (((f1.trans f2).trans f27).trans f9) q3⟩
/-- is, is not of bools -/
def dIsB : R2D := fun d e Q => ∃ a b : Bool, d = .bl a ∧ e = .bl b ∧ Q (.bl (decide (a = b)))
theorem o_isB : OpR X (compareOp .Is) rIsB ∧ SimR K rIsB dIsB := ⟨op_isBl, fun A B M H d e x y Q Q' hx hy q k => by
  obtain ⟨a, b, rfl, rfl, q⟩ := q
  exact ⟨a, b, hx.bl, hy.bl, k _ _ (.bl _) q⟩⟩
end
end DM
namespace TK
open PySem PySem.Spec PyProof.Rows L2
/-- an error of a class is caught, or not, by a clause -/
theorem exm_mk {K : PySem.W.Frag} {A B : Addr} {r : Bool} (b : PySem.W.subIn K (.ref B) (.type "BaseException") = some true) (t : PySem.W.typeIn K (.ref B) = some (.type "type")) (c : PySem.W.isClsIn K B = true) (s : PySem.W.subIn K (.ref A) (.ref B) = some r) : PySem.W.exmOne K (.ref A) (.ref B) = some r := by
  have c2 : (PySem.W.clsIn K B).isSome = true := by
    first
    | exact c
    | (unfold PySem.W.isClsIn at c; simp_all)
  unfold PySem.W.exmOne PySem.W.kitCls
  rw [b]
  simp only [beq_self_eq_true, if_true]
  rw [c2, t]
  simp only [beq_self_eq_true, Bool.and_self, if_true]
  exact s
end TK

namespace TK
open PySem PySem.Spec PyProof.Rows L2
section
variable {P : Program} {w : World} {A : Around} {E : Value → Shared → Prop} {s : Shared}
/-- a set as it is made, with nothing in it -/
abbrev es0 (w : World) : Obj := { cls := .type "set", dict := none, data := .set #[] 0 (.fresh 0 0 (!w.params.followText "set-order")) }
abbrev s0 (w : World) (s : Shared) : Heap := s.heap.push (es0 w)
set_option maxRecDepth 100000 in
set_option maxHeartbeats 3200000 in
/-- set(xs) of a list of whole numbers, with what is to be known of its order -/
theorem setL {l : Addr} {items : Array Value} (ns : List Int) {Q : Value → Shared → Prop} (hh : A.handled = none) (hl : s.heap.IsList l items) (hit : IntsAre items.toList ns) (hb : ns.length + 1 < scanBound)
    (q : ∀ (hp : Heap) (tk c : Nat), SetR w hp s.heap.objs.size (fun j => decide (j ∈ ns)) c → c ≤ ns.length → (∀ b o, s.heap.get? b = some o → hp.get? b = some o) → Q (.ref s.heap.objs.size) { s with heap := hp, toks := tk }) : wpAny (model P w) A (call (.type "set") [.ref l]) Q E s := by
  have hsz : items.size = ns.length := by have z := IntsAre.length hit; rw [Array.length_toList] at z; exact z
  obtain ⟨_, _, m1⟩ := F.called_set.mro; have m2 := F.called_set.made; have m3 := F.called_set.sub
  refine wpAny_call (codeAny_of_tree ?_); show wpAny _ _ (callAny (.type "set") _) _ _ _
  refine wpAny_pure ⟨Code.quiet_builtin _ (by decide +kernel), codeAny_builtin F.entry_type_call ?_⟩; rw [Around.under_plain (weight_type_call_type "set" [.ref l] []) rfl]
  have m4 := F.called_set.notType; have m5 := F.called_set.canCreate; have m6 := F.typeCall_set_1 (.ref l)
  repeat (any_goals (first | assumption | wp_step))
  refine codeAny_mono (code_set_led1 (.ref l) (E := E) (Q₁ := fun x s1 => x = .ref s.heap.objs.size ∧ s1 = { s with heap := s0 w s }) ⟨rfl, rfl⟩) fun r s1 hr => ?_
  cases r with
  | error e => exact hr
  | ok fl => cases fl with
    | ret x =>
      obtain ⟨rfl, rfl⟩ := hr
      have gS : (s0 w s).get? s.heap.objs.size = some (es0 w) := Heap.get?_push_size _ rfl
      have tS : Shared.TypeIs { s with heap := s0 w s } (.ref s.heap.objs.size) "set" := ⟨_, gS, rfl⟩
      have m7 := F.called_set.init.lookup; have m8 := F.called_set.init.bind (.ref s.heap.objs.size)
      repeat (any_goals (first | assumption | wp_step))
      refine codeAny_mono (codeAny_call_builtin (R := wants (fun r s2 => r = .none ∧ ∃ hp tk c, s2 = { s with heap := hp, toks := tk } ∧ SetR w hp s.heap.objs.size (fun j => decide (j ∈ ns)) c ∧ c ≤ ns.length ∧ (∀ b o, s.heap.get? b = some o → hp.get? b = some o)) E) F.called_set.init.plain F.entry_set_init (check_set_init_1 tS ?_)) fun r2 s2 hr2 => ?_
      · obtain ⟨⟨c1, c2, c3, c4⟩, ho, hcl, nl, hdl⟩ := hl
        simp only at hcl hdl; subst hcl; subst hdl
        have ho1 : (s0 w s).get? l = some { cls := .type "list", dict := c2, data := .seq items nl, slots := c4 } := Heap.get?_push_of_some _ ho
        have n1 := F.sub_list_set; have n2 := F.sub_list_frozenset
        have n3 : (Value.type "list" == Value.type "dict") = false := by decide
        have hl1 : (s0 w s).IsList l items := ⟨_, ho1, rfl, nl, rfl⟩
        unfold Builtin.«set.__init__» noKeywords Builtin.Frozenset.updateFrom
        generalize hPI : pyIter = PI; wp_walk; subst hPI
        refine wpAny_pyIter_list hl1 ?_; refine wpAny_bind (wpAny_runValue ?_)
        have lt : l < s.heap.objs.size := Heap.lt_size ho
        have sz : (s0 w s).objs.size = s.heap.objs.size + 1 := Heap.size_push ..
        have hhh : A.in1.in1.in1.handled = none := by simp [hh]
        have nI : l ≠ (s0 w s).objs.size := by rw [sz]; exact Nat.ne_of_lt (Nat.lt_succ_of_lt lt)
        have nS : s.heap.objs.size ∉ [(s0 w s).objs.size, l] := by
          rw [sz]; simp only [List.mem_cons, List.not_mem_nil, or_false, not_or]; exact ⟨Nat.ne_of_lt (Nat.lt_succ_self _), Nat.ne_of_gt lt⟩
        have hval : ∀ (i : Nat) (v : Value), items[i]? = some v → ∃ k t, ns[i]? = some k ∧ v = .int k t := fun i v hv => by
          have hi : i < ns.length := by rw [← hsz]; exact (Array.getElem?_eq_some_iff.mp hv).1
          obtain ⟨t, e⟩ := IntsAre.int_at hit i v (by rw [Array.getElem?_toList]; exact hv)
          exact ⟨ns[i], t, List.getElem?_eq_getElem hi, by rw [e, List.getD_eq_getElem?_getD, List.getElem?_eq_getElem hi]; rfl⟩
        refine set_update_ints ((Walks.list hhh _ l nI items).toS) s.heap.objs.size nS ns hsz hb hval (items.size - 0) 0 _ (by omega) (Nat.zero_le _) ⟨⟨_, Heap.get?_push_size _ rfl, rfl, rfl⟩, (hl1.push _)⟩ ⟨0, Nat.le_refl 0, setR_new_at (Heap.get?_push_of_some _ gS)⟩ ?fin
        intro s3 c3 hm hc hS
        obtain ⟨hp, g3, d3, tk, os3⟩ := s3
        obtain rfl : g3 = s.gens := hm.gens
        obtain rfl : d3 = s.drawn := hm.drawn
        obtain rfl : os3 = s.os := hm.os
        show wpAny _ _ _ _ _ _
        refine wpAny_pure ?_; show wpAny _ _ (ret Value.none) _ _ _; rw [hsz] at hc
        refine wpAny_pure ⟨rfl, hp, tk, c3, rfl, hS, hc, fun b o e => ?_⟩
        have lb := Heap.lt_size e
        exact hm.heap b o (by rw [sz]; simp only [List.mem_cons, List.not_mem_nil, or_false, not_or]; exact ⟨Nat.ne_of_lt lb, Nat.ne_of_lt (Nat.lt_succ_of_lt lb)⟩) (Heap.get?_push_of_some _ (Heap.get?_push_of_some _ e))
      · cases r2 with
        | error e => exact hr2
        | ok fl2 => cases fl2 with
          | ret r =>
            obtain ⟨rfl, hp, tk, c, rfl, hS, hc, hk⟩ := hr2
            repeat (any_goals (first | assumption | wp_step))
            exact q _ _ _ hS hc hk
          | _ => exact hr2.elim
    | _ => exact hr.elim
end
section
variable {X : Cx}
def rSetL (K : PySem.W.Frag) (w : World) : List V → Hp → VK → Prop := fun xs H Q => ∃ (l : Addr) (ns : List Int), xs = [V.ref l] ∧ SqL K H l (ns.map V.int) ∧ ns.length ≤ 1000 ∧ ∀ (p : Addr) (c : Nat), c ≤ ns.length → H p = none → Q (.ref p) (upd H p (SetO w p (fun j => decide (j ∈ ns)) c))
theorem cr_setL (hc : X.calm = true) : CallR X (.type "set") (rSetL X.K X.w) := by
  intro pins s σ H xs us Q I r h
  obtain ⟨l, ns, rfl, hs, hz, q⟩ := h
  obtain rfl := Vals.ref1 r
  obtain ⟨its, rv, hl, _⟩ := I.list hs
  refine setL (items := its.toArray) ns (I.ok.hd hc) hl.isList (ints_of_vals rv) (by unfold scanBound; omega) fun hp tk c R hcn k => ?_
  exact ⟨.ref _, _, I.laid (t' := tk) k (Nat.le_refl _) (setO_new R), rfl, q _ c hcn (I.hok.fresh (Nat.le_refl _))⟩
end
end TK
namespace DM
open PySem PySem.Spec PyProof.Rows L2 TK
variable [Gd]
section
variable {X : Cx} {K : PySem.W.Frag} {a : Expr} {ta : TE} {ta' : TED} {p p2 pos pos2 : Pos}
/-- sorted(set(xs)) of whole numbers -/
def dSoSet (ta' : TED) : TEN := fun ρ M Q => ta' ρ M fun d ρ1 M1 => ∃ ns : List Int, d.lq = some (ns.map .int) ∧ ns.length < 64 ∧ ∀ ms : List Int, ms.Pairwise (· < ·) → (∀ k, k ∈ ms ↔ k ∈ ns) → Q (ms.map .int) ρ1 M1
theorem dn_soSet (hg : Gl X "sorted") (hm : X.mg "sorted" = none) (hg2 : Gl X "set") (hm2 : X.mg "set" = none) (ha : DB X K a ta ta') (hc : X.calm = true := by rfl) (hK : X.K = K := by rfl)
    (hs : starEach [.Call (.Name "set" p2) [a] [] pos2] X.env = (false, eval (.Call (.Name "set" p2) [a] [] pos2) X.env) :: starEach [] X.env := by rfl) (hs2 : starEach [a] X.env = (false, eval a X.env) :: starEach [] X.env := by rfl) :
    DN X K (.Call (.Name "sorted" p) [.Call (.Name "set" p2) [a] [] pos2] [] pos) (tCB (rSortedSet X.w) (tCons (tCB (rSetL X.K X.w) (tCons ta tNil)) tNil)) (dSoSet ta') := by
  subst hK
  refine ⟨pe_callB (cr_sortedSet hc) hg hm (by rfl) (pa_cons (pe_callTy (cr_setL hc) hg2 hm2 (by rfl) (pa_cons ha.pe pa_nil hs2) (by decide) (by decide) hs2 rfl) pa_nil hs) (by decide) (by decide) hs rfl, fun A B M ρ σ H Q Q' r q kk => ha.sim A B M ρ σ H _ _ r q fun d ρ1 M1 B1 v H1 r1 f1 m1 h1 q1 => ?_⟩
  obtain ⟨ns, e, hl, q1⟩ := q1
  obtain ⟨l, vs, rfl, s, lv⟩ := h1.list e
  rw [lv.ints] at s
  refine ⟨l, ns, rfl, s, by omega, fun p c hcn hp => ?_⟩
  obtain ⟨r2, f2, m2, np, _⟩ := r1.new (o := SetO X.w p (fun j => decide (j ∈ ns)) c) hp
  refine ⟨p, _, c, rfl, upd_same, by omega, fun ms p2 hpw hmem _ hp2 => ?_⟩
  obtain ⟨B3, r3, f3, m3, hb3, h3⟩ := r2.newOwn hp2 (HdL.ofInts (ns := ms))
  exact kk _ ρ1 M1 B3 p2 _ _ r3 ((f1.trans f2).trans f3) ((m1.trans m2).trans m3) hb3 upd_same h3 (q1 ms hpw fun k => by rw [hmem k]; exact decide_eq_true_iff)
end
end DM
namespace DM
open PySem PySem.Spec PyProof.Rows L2 TK
variable [Gd]
section
variable {X : Cx} {K : PySem.W.Frag} {sp : SpD} {e : Expr} {es : List Expr} {ta : TA} {ta' : TAD} {x y : Str} {ps : List Str} {p pos : Pos} {k : Nat}
/-- name = f(..), where f gives a value, or a list that is our own from now on -/
def dSetM (sp : SpD) (ta' : TAD) (i : Nat) : TSD := fun D ρ M => ta' ρ M fun ds ρ1 M1 => sp ds M1 (fun d M2 => D.nx (ρ1.set i (.val d)) M2) (fun es M2 => D.nx (ρ1.set i (.own es)) M2) (fun _ _ => False)
theorem sim_setM (i : Nat) (hm : SpMono sp) (h : SimA K ta ta') : SimS K (tAsg (tCall (ofD K sp) [] E0 ta) (gName i)) (dSetM sp ta' i) := fun A B M ρ σ H E D R q kk => h A B M ρ σ H _ _ R q fun ds ρ1 M1 B1 vs H1 R1 f1 m1 h1 q1 => by
  refine ⟨AB A B1 M1 H1, M1, ds, R1.rok, ?_, hm.mono _ _ _ _ _ _ _ _ q1 (fun d M2 q2 => ?_) (fun es M2 q2 => ?_) (fun _ _ z => z.elim)⟩
  · rw [List.append_nil]
    exact R1.args h1
  · intro v H2 o m hd
    obtain ⟨R2, f2⟩ := R1.back o m
    rw [R1.av_ab] at hd
    exact kk.nx _ M2 B1 _ H2 (R2.set hd) (f1.trans f2) q2
  · intro a us H2 hn o m hd
    obtain ⟨B2, R2, f2, hb, hl, h2⟩ := R1.backN hn o m hd
    obtain ⟨B3, R3, f3⟩ := R2.setOwn (i := i) hb hl h2
    exact kk.nx _ M2 B3 _ H2 R3 ((f1.trans f2).trans f3) q2
theorem ds_setM (i : Nat) {pos' : Pos} {j : Nat} (hN : X.N.Nodup) (C : Cal X.prog X.w X.K X.mg X.base x ps j (ofD K sp)) (hm : SpMono sp) (hr : Room k X.A) (hg : Gl X x) (ha : DA X K (e :: es) ta ta') (hj : j ≤ k := by decide) (hdb : (x == ("__debug__" : Str)) = false := by decide)
    (he : starEach (e :: es) X.env = (false, eval e X.env) :: starEach es X.env := by rfl) (hpl : (backTo pos (starEach es X.env)).any (·.1) = false := by rfl) {spos : Pos} (hi : X.N[i]? = some y := by rfl) (hx : Loc X.env.scope y := by first | exact .inl rfl | exact .inr rfl) (hs : swapsWith (.Call (.Name x p) (e :: es) [] pos) (some (.Name y pos')) spos.line X.env = pure false := by rfl) (hf : X.fn y = true ∨ X.env.scope.names.lookup y = some .local := by first | exact .inl rfl | exact .inr rfl | assumption) :
    DS X K (.Assign [.Name y pos'] (.Call (.Name x p) (e :: es) [] pos) spos) (tAsg (tCall (ofD K sp) [] E0 ta) (gName i)) (dSetM sp ta' i) :=
  ⟨ps_set hN hi hx (pe_cal C hr hg ha.pa hj hdb he hpl) hs hf, sim_setM i hm ha.sim⟩
end
end DM
namespace DM
open PySem PySem.Spec PyProof.Rows L2 TK
variable [Gd]
section
variable {X : Cx} {K : PySem.W.Frag} {st : Stmt} {t : TS} {t' : TSD}
/-- what holds behind a statement, told once for all its ways -/
def dCut (t' : TSD) : TSD := fun D ρ M => ∀ G : Prop, (∀ P : Env → Mm → Prop, t' { D with nx := P } ρ M → (∀ ρ M, P ρ M → D.nx ρ M) → G) → G
theorem ds_cut (h : DS X K st t t') : DS X K st t (dCut t') := ⟨h.ps, fun A B M ρ σ H E D r q k => q _ fun P q hP => h.sim A B M ρ σ H E _ r q ⟨fun ρ M B σ H r f z => k.nx ρ M B σ H r f (hP _ _ z), k.rt, k.rn, k.bk, k.ct⟩⟩
theorem cutD_ {t' : TSD} {D : EndsD} {ρ : Env} {M : Mm} (P : Env → Mm → Prop) (h : t' { D with nx := P } ρ M) (h2 : ∀ ρ M, P ρ M → D.nx ρ M) : dCut t' D ρ M := fun _ k => k P h h2
end
end DM

/-! ### calls of defs by keywords, gcd -/
namespace TK
open PySem PySem.Spec PyProof.Rows L2
def pick {α : Type} (π : List Nat) (xs : List α) : List α := π.filterMap fun i => xs[i]?
/-- what stands under x takes n arguments by place and the rest by the names ks; π puts all of them in the parameters' order -/
structure KwAt (K : PySem.W.Frag) (mg : Str → Option Value) (x : Str) (ps : List Str) (n : Nat) (ks : List Str) (π : List Nat) : Prop where
  ex : ∃ (f : Addr) (fd : FuncData), (∃ (oc : Value) (od : Option Addr) (osl : Array (Option Value)), K.lookup f = some ⟨oc, od, .func fd, osl⟩) ∧ mg x = some (.ref f) ∧ ∀ us ws : List Value, us.length = n → ws.length = ks.length → bindArgs fd ⟨us, ks.zip ws⟩ = pure (ps.zip (pick π (us ++ ws)))
theorem kwAt_mk {K : PySem.W.Frag} {h : Heap} {mg : Str → Option Value} {x : Str} {st : Stmt} {ps : List Str} {n : Nat} {ks : List Str} {π : List Nat} {f : Addr} {oc : Value} {od an : Option Addr} {osl : Array (Option Value)} {kV doc pm cdv ct : Value} (X : K.In h) (G : h.Ns mainGlobals mg)
    (a : PySem.W.nsIn K mainGlobals x = some (some (.ref f)))
    (l : K.lookup f = some ⟨oc, od, .func (PySem.W.fnOf x x (defArgs st) (defBody st) (defScope st) .none kV doc pm an cdv ct), osl⟩)
    (b : ∀ (kV doc pm : Value) (an : Option Addr) (cdv ct : Value) (us ws : List Value), us.length = n → ws.length = ks.length → bindArgs (PySem.W.fnOf x x (defArgs st) (defBody st) (defScope st) .none kV doc pm an cdv ct) ⟨us, ks.zip ws⟩ = pure (ps.zip (pick π (us ++ ws)))) :
    KwAt K mg x ps n ks π := ⟨f, _, ⟨_, _, _, l⟩, PySem.W.mg_of X G a, b kV doc pm an cdv ct⟩
theorem pick_vals {π : List Nat} {vs : List V} {us : List Value} (r : Vals vs us) : Vals (pick π vs) (pick π us) := by
  have hl := r.length
  induction π with
  | nil => exact .nil
  | cons i π ih =>
    unfold pick at ih ⊢
    by_cases h : i < vs.length
    · obtain ⟨u, hu, ru⟩ := r.get (List.getElem?_eq_getElem h)
      rw [List.filterMap_cons, List.filterMap_cons, hu, List.getElem?_eq_getElem h]
      exact .cons ru ih
    · rw [List.filterMap_cons, List.filterMap_cons, List.getElem?_eq_none (by omega), List.getElem?_eq_none (by omega)]
      exact ih
section
variable {X : Cx} {x : Str} {ps ks : List Str} {k : Nat} {sp : Sp} {p pos : Pos} {kws : List Keyword} {t : TA} {π : List Nat}
def tPick (π : List Nat) (t : TA) : TA := fun σ H Q => t σ H fun zs H1 => zs.length = π.length ∧ Q (pick π zs) H1
theorem pe_calK0 {j : Nat} (C : Cal X.prog X.w X.K X.mg X.base x ps j sp) (W : KwAt X.K X.mg x ps 0 ks π) (hr : Room k X.A) (hg : Gl X x) (ha : PK X kws t) (hl : ks.length = π.length := by rfl) (hj : j ≤ k := by decide) (hdb : (x == ("__debug__" : Str)) = false := by decide)
    (hall : (backToKw pos (keywordEach kws X.env)).all (·.1.isSome) = true := by rfl) (hks : (backToKw pos (keywordEach kws X.env)).filterMap (·.1) = ks := by rfl)
    (hpl : ((backTo pos (starEach [] X.env)).any (·.1) || (backToKw pos (keywordEach kws X.env)).any (·.1.isNone)) = false := by rfl) : PE X (.Call (.Name x p) [] kws pos) (tCall sp [] E0 (tPick π t)) := by
  obtain ⟨f, fd, F, b⟩ := C.ex
  obtain ⟨f2, fd2, ⟨_, _, _, lk⟩, mg2, bd⟩ := W.ex
  have e : f2 = f := Value.ref.inj (Option.some.inj (mg2.symm.trans b.mg))
  subst e
  obtain ⟨_, _, _, lk2⟩ := b.lk
  rw [lk] at lk2
  cases lk2
  refine ⟨fun pins s σ H Q I h => wpAny_Call_Name_kw (ld_glob I hg b.mg ?_ hdb)⟩
  refine PySem.W.callWith_KW0 (h₀ := X.base) I.ok.mod.kin b.kp hall (thn (ha.run pos pins s σ H _ I h) fun ws s2 ⟨zs, H2, I2, rz, hz, q2⟩ => ⟨I2.kIn, ?_⟩) hpl
  rw [hks]
  have q2 : sp (pick π zs ++ []) H2 Q E0 := q2
  rw [List.append_nil] at q2
  have hwl : ws.length = ks.length := by rw [← rz.length, hz, hl]
  have rp := pick_vals (π := π) rz
  have b2 : BindsTo s2 fd ⟨[] ++ [], ks.zip ws⟩ (ps.zip (pick π ws)) := .of_eq (by
    have := bd [] ws rfl hwl
    rw [List.nil_append] at this
    exact this)
  refine wpAny_call (codeAny_mono (F.run X.A X.stack s2 H2 ⟨[] ++ [], ks.zip ws⟩ (pick π ws) (pick π zs) Q E0 (hr.mono hj) I2.env0 b2 rp q2) fun r s3 hq => ?_)
  cases r with
  | error er => exact pass0 pins σ H2 s2 er s3 I2 hq
  | ok fl => cases fl with
    | ret u => exact I2.after hq
    | _ => exact hq.elim
end
end TK
namespace DM
open PySem PySem.Spec PyProof.Rows L2 TK
variable [Gd]
section
variable {X : Cx} {K : PySem.W.Frag} {kws : List Keyword} {t : TA} {t' : TAD} {e : Expr} {te : TE} {te' : TED} {nm : Option Str} {kpos : Pos}
structure DK (X : Cx) (K : PySem.W.Frag) (kws : List Keyword) (t : TA) (t' : TAD) : Prop where
  pk : PK X kws t
  sim : SimA K t t'
theorem dk_nil : DK X K [] tNil dNil := ⟨pk_nil, fun A B M ρ σ H Q Q' R q k => k [] ρ M B [] H R .refl .refl .nil q⟩
theorem dk_cons (ha : DE X K e te te') (hr : DK X K kws t t') : DK X K (⟨nm, e, kpos⟩ :: kws) (tCons te t) (dCons te' t') :=
  ⟨pk_cons ha.pe hr.pk, fun A B M ρ σ H Q Q' R q k => ha.sim A B M ρ σ H _ _ R q fun d ρ1 M1 B1 v H1 R1 f1 m1 h1 q1 => hr.sim A B1 M1 ρ1 σ H1 _ _ R1 q1 fun ds ρ2 M2 B2 vs H2 R2 f2 m2 h2 q2 =>
    k (d :: ds) ρ2 M2 B2 (v :: vs) H2 R2 (f1.trans f2) (m1.trans m2) (.cons (h1.fr f2) h2) q2⟩
theorem pick_hdl {Av : Addr → Prop} {H : Hp} {π : List Nat} {ds : List D} {vs : List V} (h : HdL K Av H ds vs) : HdL K Av H (pick π ds) (pick π vs) := by
  have hl := h.length
  induction π with
  | nil => exact .nil
  | cons i π ih =>
    unfold pick at ih ⊢
    by_cases hi : i < ds.length
    · obtain ⟨v, hv, hd⟩ := h.get (List.getElem?_eq_getElem hi)
      rw [List.filterMap_cons, List.filterMap_cons, hv, List.getElem?_eq_getElem hi]
      exact .cons hd ih
    · rw [List.filterMap_cons, List.filterMap_cons, List.getElem?_eq_none (by omega), List.getElem?_eq_none (by omega)]
      exact ih
def dPick (π : List Nat) (t' : TAD) : TAD := fun ρ M Q => t' ρ M fun ds ρ1 M1 => ds.length = π.length ∧ Q (pick π ds) ρ1 M1
theorem sim_pick {π : List Nat} (h : SimA K t t') : SimA K (tPick π t) (dPick π t') := fun A B M ρ σ H Q Q' R q kk => h A B M ρ σ H _ _ R q fun ds ρ1 M1 B1 vs H1 R1 f1 m1 h1 q1 =>
  ⟨by rw [← h1.length]; exact q1.1, kk _ ρ1 M1 B1 _ H1 R1 f1 m1 (pick_hdl h1) q1.2⟩
variable {sp : SpD} {x : Str} {ps ks : List Str} {p pos : Pos} {k : Nat} {π : List Nat}
/-- f(k = e, ..): all by name -/
theorem de_calK0 {j : Nat} (C : Cal X.prog X.w X.K X.mg X.base x ps j (ofD K sp)) (hm : SpMono sp) (W : KwAt X.K X.mg x ps 0 ks π) (hr : Room k X.A) (hg : Gl X x) (ha : DK X K kws t t') (hl : ks.length = π.length := by rfl) (hj : j ≤ k := by decide) (hdb : (x == ("__debug__" : Str)) = false := by decide)
    (hall : (backToKw pos (keywordEach kws X.env)).all (·.1.isSome) = true := by rfl) (hks : (backToKw pos (keywordEach kws X.env)).filterMap (·.1) = ks := by rfl)
    (hpl : ((backTo pos (starEach [] X.env)).any (·.1) || (backToKw pos (keywordEach kws X.env)).any (·.1.isNone)) = false := by rfl) : DE X K (.Call (.Name x p) [] kws pos) (tCall (ofD K sp) [] E0 (tPick π t)) (dCall sp (dPick π t')) :=
  ⟨pe_calK0 C W hr hg ha.pk hl hj hdb hall hks hpl, sim_call hm (sim_pick ha.sim)⟩
theorem dn_calK0 {j : Nat} (C : Cal X.prog X.w X.K X.mg X.base x ps j (ofD K sp)) (hm : SpMono sp) (W : KwAt X.K X.mg x ps 0 ks π) (hr : Room k X.A) (hg : Gl X x) (ha : DK X K kws t t') (hl : ks.length = π.length := by rfl) (hj : j ≤ k := by decide) (hdb : (x == ("__debug__" : Str)) = false := by decide)
    (hall : (backToKw pos (keywordEach kws X.env)).all (·.1.isSome) = true := by rfl) (hks : (backToKw pos (keywordEach kws X.env)).filterMap (·.1) = ks := by rfl)
    (hpl : ((backTo pos (starEach [] X.env)).any (·.1) || (backToKw pos (keywordEach kws X.env)).any (·.1.isNone)) = false := by rfl) : DN X K (.Call (.Name x p) [] kws pos) (tCall (ofD K sp) [] E0 (tPick π t)) (dCallN sp (dPick π t')) :=
  ⟨pe_calK0 C W hr hg ha.pk hl hj hdb hall hks hpl, sim_callN hm (sim_pick ha.sim)⟩
/-! gcd -/
def dGcd : R2D := fun d e Q => ∃ a b : Int, d = .int a ∧ e = .int b ∧ Q (.int ((Nat.gcd a.natAbs b.natAbs : Nat) : Int))
theorem sim_gcd : SimC2 K rGcd dGcd := fun A B M H d e x y Q Q' hx hy q k => by
  obtain ⟨a, b, rfl, rfl, q⟩ := q
  exact ⟨a, b, by rw [hx.int, hy.int], k _ _ (.int _) q⟩
theorem de_gcd {y : Str} {a b : Expr} {ta tb : TE} {ta' tb' : TED} {p2 : Pos} (hg : Gl X y) (hm : X.mg y = some (.builtin "math.gcd")) (ha : DB X K a ta ta') (hb : DB X K b tb tb')
    (hs : starEach [a, b] X.env = (false, eval a X.env) :: starEach [b] X.env := by rfl) (hs2 : starEach [b] X.env = (false, eval b X.env) :: starEach [] X.env := by rfl) (hpl : (backTo pos (starEach [b] X.env)).any (·.1) = false := by rfl) (hdb : (y == ("__debug__" : Str)) = false := by decide) :
    DE X K (.Call (.Name y p2) [a, b] [] pos) (tCB rGcd (tCons ta (tCons tb tNil))) (dOp dGcd ta' tb') :=
  ⟨pe_callBfun cr_gcd hg hm (pa_cons ha.pe (pa_cons hb.pe pa_nil hs2) hs) hdb hs hpl, sim_call2 sim_gcd ha.sim hb.sim⟩
end
end DM

/-! ### list.count, list.index of data -/
namespace DM
open PySem PySem.Spec PyProof.Rows L2 TK
section
variable [Gd] {K : PySem.W.Frag} {X : Cx} {ta tb : TE} {ta' tb' : TED} {a b : Expr} {pos apos : Pos}
def dMt (r' : R2D) (ta' tb' : TED) : TED := fun ρ M Q => ta' ρ M fun d ρ1 M1 => ∃ ds, d.lq = some ds ∧ tb' ρ1 M1 fun e ρ2 M2 => r' d e fun c => Q c ρ2 M2
theorem sim_mt {r : V → List V → Hp → VK → Prop} {r' : R2D} (s : SimR K (fun x y H Q => r x [y] H Q) r') (ha : SimB K ta ta') (hb : SimB K tb tb') : SimE K (tBM K "list" r ta (tCons tb tNil)) (dMt r' ta' tb') := fun A B M ρ σ H Q Q' R q k =>
  ha A B M ρ σ H _ _ R q fun d ρ1 M1 B1 v H1 R1 f1 m1 h1 q1 => by
    obtain ⟨ds, e1, q1⟩ := q1
    obtain ⟨p, vs, rfl, sq, _⟩ := h1.list e1
    exact ⟨.inl ⟨rfl, vs, sq⟩, hb A B1 M1 ρ1 σ H1 _ _ R1 q1 fun e ρ2 M2 B2 u H2 R2 f2 m2 h2 q2 => s A B2 M2 H2 d e _ u Q _ (h1.fr f2 m2) h2 q2 fun c w hw q3 => k c ρ2 M2 B2 w H2 R2 (f1.trans f2) (m1.trans m2) hw q3⟩
theorem de_mt {id : String} {name : Str} {r : V → List V → Hp → VK → Prop} {r' : R2D} (slot : Slot "list" name id) (hty : typeOf (.builtin id) = pure (.type "method_descriptor")) (o : MtR X id r ∧ SimR K (fun x y H Q => r x [y] H Q) r') (ha : DB X K a ta ta') (hb : DB X K b tb tb')
    (h1 : attributeBase a name X.env (eval a X.env) = eval a X.env := by rfl)
    (h2 : ((backTo pos (starEach [b] X.env)).all (fun x => !x.1) && (backToKw pos (keywordEach [] X.env)).all (fun x => x.1.isSome) && decide ([b].length + ([] : List Keyword).length + (if ([] : List Keyword).isEmpty then 0 else 1) < 30)) = true := by rfl)
    (h3 : (apos.endLine == pos.line) = true := by rfl) (h4 : starEach [b] X.env = (false, eval b X.env) :: starEach [] X.env := by rfl) (h5 : (backTo pos (starEach [] X.env)).any (·.1) = false := by rfl) (hK : X.K = K := by rfl) :
    DE X K (.Call (.Attribute a name apos) [b] [] pos) (tBM K "list" r ta (tCons tb tNil)) (dMt r' ta' tb') := by
  subst hK
  exact ⟨pe_bm PySem.F.plainAttrs_list slot hty o.1 ha.pe (pa_cons hb.pe pa_nil h4) h1 h2 h3 h4 h5, sim_mt o.2 ha.sim hb.sim⟩
def rCntD (K : PySem.W.Frag) : V → List V → Hp → VK → Prop := fun x xs H Q => ∃ (p : Addr) (y : V) (d : PyData) (es : List PyData), x = V.ref p ∧ xs = [y] ∧ Dp K H (V.ref p) (.list es) ∧ Dp K H y d ∧ SeqAt.shaped (.list es) = true ∧ SeqAt.shaped d = true ∧ Q (.int (es.countP fun z => PyData.eqv z d : Nat)) H
theorem mt_cntD (hu : X.A.units + 65 < cLine) : MtR X "list.count" (rCntD X.K) := by
  intro pins s σ H x xs v us Q I rx0 rs0 h
  obtain ⟨p, y, d, es, rfl, rfl, hl, hy, sl, sd, q⟩ := h
  cases rx0
  obtain ⟨uy, rfl, ry⟩ := rs0.one
  obtain ⟨bs, hr1⟩ := Dp.reads I d y uy hy ry
  have hlay : PyData.canLayAll0 es = true := SeqAt.canLay_of_shaped sl
  have hrm : X.A.units + 1 + min (PyData.depthAll es) d.depth < cLine := room_in_shaped sd hu
  cases hl with
  | lst hs ha =>
    obtain ⟨ws, rw', ⟨⟨cc, d0, dt, sz⟩, n, ho, hc, hn0, hdt⟩, hlen⟩ := I.list hs
    simp only at hc hdt
    subst hc hdt
    obtain ⟨as, hr2⟩ := Dp.readsAll I es _ ws ha rw'
    have hm : ws.map (SeqAt.readOf s.heap) = es := SeqAt.readsAll_map es ws as hlay hr2
    refine call_meets PySem.F.slot_list_count ⟨_, ho, rfl⟩ PySem.F.entry_list_count (PySem.F.args_list_count_2 _ _) (SeqAt.list_countAt p ws.toArray n d0 sz uy (fun u => PyData.eqv (SeqAt.readOf s.heap u) d)) ⟨ho, SeqAt.items_eqAt (vs := ws.toArray) (show ReadsAll s.heap ws.toArray.toList es as from hr2) hr1 hlay (SeqAt.canLay_of_shaped sd) hrm, ?_⟩
    have ec : ws.countP (fun u => PyData.eqv (SeqAt.readOf s.heap u) d) = es.countP fun z => PyData.eqv z d := by rw [← hm, List.countP_map]; rfl
    refine ⟨.int (es.countP fun z => PyData.eqv z d : Nat), H, I.tok _, ⟨s.toks, ?_⟩, q⟩
    rw [← ec]
def dCnt : R2D := fun d e Q => ∃ n ds, n ≤ 60 ∧ d = .lst ds ∧ okN n d ∧ okN n e ∧ Q (.int (ds.countP fun z => eqD z e : Nat))
theorem countL (e : D) : ∀ ds : List D, (D.pdL ds).countP (fun z => PyData.eqv z e.pd) = ds.countP fun z => eqD z e
  | [] => by unfold D.pdL; rfl
  | d :: ds => by
    unfold D.pdL
    rw [List.countP_cons, List.countP_cons, countL e ds]
    rfl
theorem o_cnt (hu : X.A.units + 65 < cLine) (hK : X.K = K := by rfl) : MtR X "list.count" (rCntD K) ∧ SimR K (fun x y H Q => rCntD K x [y] H Q) dCnt := by
  subst hK
  refine ⟨mt_cntD hu, fun A B M H d e x y Q Q' hx hy q k => ?_⟩
  obtain ⟨n, ds, hn, rfl, o1, o2, q⟩ := q
  obtain ⟨p, vs, rfl, _, _⟩ := hx.list (ds := ds) rfl
  have h1 := hx.dp o1
  have h2 := ok_shaped o1 hn
  unfold D.pd at h1 h2
  exact ⟨p, y, e.pd, D.pdL ds, rfl, rfl, h1, hy.dp o2, h2, ok_shaped o2 hn, k _ _ (.int _) (by rw [countL]; exact q)⟩
def dIdx : R2D := fun d e Q => ∃ n ds j z, n ≤ 60 ∧ d = .lst ds ∧ okN n d ∧ okN n e ∧ ds[j]? = some z ∧ eqD z e = true ∧ (∀ (m : Nat) (y : D), m < j → ds[m]? = some y → eqD y e = false) ∧ Q (.int (j : Nat))
theorem pdL_get : ∀ (ds : List D) (j : Nat), (D.pdL ds)[j]? = ds[j]?.map D.pd
  | [], j => by unfold D.pdL; rfl
  | d :: ds, 0 => by unfold D.pdL; rfl
  | d :: ds, j + 1 => by
    unfold D.pdL
    exact pdL_get ds j
theorem o_idx (hu : X.A.units + 65 < cLine) (hK : X.K = K := by rfl) : MtR X "list.index" (rIndexD K) ∧ SimR K (fun x y H Q => rIndexD K x [y] H Q) dIdx := by
  subst hK
  refine ⟨mt_indexD hu, fun A B M H d e x y Q Q' hx hy q k => ?_⟩
  obtain ⟨n, ds, j, z, hn, rfl, o1, o2, hz, hzj, hno, q⟩ := q
  obtain ⟨p, vs, rfl, _, _⟩ := hx.list (ds := ds) rfl
  have h1 := hx.dp o1
  have h2 := ok_shaped o1 hn
  unfold D.pd at h1 h2
  refine ⟨p, y, e.pd, D.pdL ds, j, z.pd, rfl, rfl, h1, hy.dp o2, h2, ok_shaped o2 hn, by rw [pdL_get, hz]; rfl, hzj, fun m z' hm hz' => ?_, k _ _ (.int _) q⟩
  rw [pdL_get] at hz'
  cases hd : ds[m]? with
  | none => rw [hd] at hz'; cases hz'
  | some w => rw [hd] at hz'; cases hz'; exact hno m w hm hd
/-- {i: j} of two whole numbers -/
theorem de_dictI {i j : Int} {t u : Nat} {p1 p2 : Pos} : DE X K (.Dict [some (.Constant (.int i) t p1)] [.Constant (.int j) u p2] pos) (tDisp [(tC (.int i), tC (.int j))]) (dC (.dK [.inl i] [.int j])) :=
  ⟨pe_disp (pps_cons pe_int pe_int pps_nil) rfl rfl (by simp) (Nat.le_of_ble_eq_true rfl), fun A B M ρ σ H Q Q' r q kk => fun p hp => by
    refine ⟨upd_same, [(.inl i, .int j)], rfl, Nat.le_of_ble_eq_true rfl, ?_⟩
    rw [upd_upd]
    obtain ⟨R2, f2, m2, np, _⟩ := r.new (o := .dK (mergeK [] [(.inl i, .int j)])) hp
    exact kk _ ρ M B _ _ R2 f2 m2 (.dK (ks := [.inl i]) (vs := [.int j]) np upd_same rfl (.cons (.int j) .nil)) q⟩
end
end DM

/-! ### dicts of whole numbers that are written: shared things -/
namespace DM
open PySem PySem.Spec PyProof.Rows L2 TK
def getI (es : List (Int × Int)) (k : Int) : Option Int := (es.find? fun p => decide (p.1 = k)).map (·.2)
def putI (es : List (Int × Int)) (k v : Int) : List (Int × Int) := if (es.any fun p => decide (p.1 = k)) = true then es.map (fun p => if p.1 = k then (p.1, v) else p) else es ++ [(k, v)]
theorem dkI_cons (p : Int × Int) (es : List (Int × Int)) : dkI (p :: es) = (.inl p.1, .int p.2) :: dkI es := rfl
theorem dkI_val (k : Int) : ∀ es : List (Int × Int), valV (dkI es) (.inl k) = (getI es k).map V.int
  | [] => rfl
  | p :: es => by
    by_cases h : p.1 = k
    · rw [dkI_cons, valV_pos (by rw [h])]
      unfold getI
      rw [List.find?_cons_of_pos (by simp [h])]
      rfl
    · rw [dkI_cons, valV_neg (fun e => h (Sum.inl.inj e)), dkI_val k es]
      unfold getI
      rw [List.find?_cons_of_neg (by simp [h])]
theorem dkI_any (k : Int) : ∀ es : List (Int × Int), ((dkI es).any fun kv => decide (kv.1 = Sum.inl k)) = (es.any fun p => decide (p.1 = k))
  | [] => rfl
  | p :: es => by
    rw [dkI_cons, List.any_cons, List.any_cons, dkI_any k es]
    congr 1
    by_cases h : p.1 = k
    · rw [decide_eq_true h, decide_eq_true (by rw [h])]
    · rw [decide_eq_false h, decide_eq_false (fun e => h (Sum.inl.inj e))]
theorem dkI_map (k v : Int) : ∀ es : List (Int × Int), (dkI es).map (fun kv => if kv.1 = Sum.inl k then (kv.1, V.int v) else kv) = dkI (es.map fun p => if p.1 = k then (p.1, v) else p)
  | [] => rfl
  | p :: es => by
    rw [dkI_cons, List.map_cons, List.map_cons, dkI_cons, dkI_map k v es]
    congr 1
    by_cases h : p.1 = k
    · rw [if_pos h, if_pos (by rw [h])]
    · rw [if_neg h, if_neg (fun e => h (Sum.inl.inj e))]
theorem dkI_put (es : List (Int × Int)) (k v : Int) : putK (dkI es) (.inl k) (.int v) = dkI (putI es k v) := by
  unfold putK putI
  rw [dkI_any]
  by_cases h : (es.any fun p => decide (p.1 = k)) = true
  · rw [if_pos h, if_pos h, dkI_map]
  · rw [if_neg h, if_neg h]
    unfold dkI
    rw [List.map_append]
    rfl
theorem dkI_keys (es : List (Int × Int)) : (dkI es).map (·.1) = (es.map (·.1)).map Sum.inl := by
  unfold dkI
  rw [List.map_map, List.map_map]
  rfl
theorem dkI_vals (es : List (Int × Int)) : (dkI es).map (·.2) = (es.map (·.2)).map V.int := by
  unfold dkI
  rw [List.map_map, List.map_map]
  rfl
theorem dkI_length (es : List (Int × Int)) : (dkI es).length = es.length := by
  unfold dkI
  rw [List.length_map]
theorem u1 {k : Nat} {A : Around} (r : Room k A) : A.units + 1 < cLine := by have := r.un; omega
variable [Gd]
section
variable {K : PySem.W.Frag} {A : CA} {B : Nat → Option Addr} {M : Mm} {ρ : Env} {σ : L2.St} {H : Hp}
/-- a new thing that is shared -/
theorem ER.newM (r : ER K A B M ρ σ H) {p : Addr} {o : HO} {mo : MO} (hp : H p = none) (hm : MOk K (Av A B (addM M p mo)) (upd H p o) p mo) : ER K A B (addM M p mo) ρ σ (upd H p o) ∧ Fr (Av A B M) (Av A B (addM M p mo)) H (upd H p o) ∧ FrM M (addM M p mo) H (upd H p o) ∧ M p = none := by
  obtain ⟨r1, f1, m1, np, mp⟩ := r.new (o := o) hp
  have av : ∀ b, Av A B (addM M p mo) b → Av A B M b ∨ b = p := fun b h => by
    rcases h with h | h | h
    · exact .inl (.inl h)
    · exact .inl (.inr (.inl h))
    · by_cases e : b = p
      · exact .inr e
      · rw [addM_ne e] at h; exact .inl (.inr (.inr h))
  have k : ∀ b u, H b = some u → upd H p o b = some u := fun b u e => by rw [upd_ne (ne_of_none e hp)]; exact e
  have f : Fr (Av A B M) (Av A B (addM M p mo)) H (upd H p o) := fun b u n e => ⟨k b u e, fun h => by
    rcases av b h with h | h
    · exact n h
    · subst h; rw [hp] at e; cases e⟩
  refine ⟨⟨r.len, fun j s v e1 e2 => (r.sl j s v e1 e2).fr f fun a e => ⟨e, fun o h => k _ _ h⟩, r.inj, fun a mo' e => ?_, fun b h => ?_, fun j a e => ?_, fun a ha => ?_, r.sepB, r1.sn, fun b hb => ?_, Gd.cl f r.gd⟩, f, fun b u n e => ⟨k b u e, ?_⟩, mp⟩
  · by_cases h : a = p
    · subst h
      rw [addM_same] at e
      cases e
      exact hm
    · rw [addM_ne h] at e
      exact (r.ob a mo' e).fr f fun o h => k _ _ h
  · rcases av b h with h | h
    · exact r1.tr b h
    · subst h; rw [upd_same]; simp
  · rw [addM_ne (fun z => ?_)]
    · exact r.sepM j a e
    · subst z; exact np (.inr (.inl ⟨j, e⟩))
  · rw [addM_ne (fun z => ?_)]
    · exact r.sepA a ha
    · subst z; exact np (.inl ha)
  · by_cases h : b = p
    · subst h; rw [addM_same]; simp
    · rw [addM_ne h]; exact r.md b hb
  · rw [addM_ne (fun z => ?_)]
    · exact n
    · subst z; rw [hp] at e; cases e
/-- a shared thing is written -/
theorem ER.writeM (r : ER K A B M ρ σ H) {a : Addr} {o : HO} {mo mo' : MO} (ha : M a = some mo) (hm : MOk K (Av A B (addM M a mo')) (upd H a o) a mo') : ER K A B (addM M a mo') ρ σ (upd H a o) ∧ Fr (Av A B M) (Av A B (addM M a mo')) H (upd H a o) ∧ FrM M (addM M a mo') H (upd H a o) := by
  have ava : Av A B M a := .inr (.inr (by rw [ha]; simp))
  have av : ∀ b, Av A B (addM M a mo') b → Av A B M b := fun b h => by
    rcases h with h | h | h
    · exact .inl h
    · exact .inr (.inl h)
    · by_cases e : b = a
      · subst e; exact ava
      · rw [addM_ne e] at h; exact .inr (.inr h)
  have k : ∀ b u, b ≠ a → H b = some u → upd H a o b = some u := fun b u n e => by rw [upd_ne n]; exact e
  have f : Fr (Av A B M) (Av A B (addM M a mo')) H (upd H a o) := fun b u n e => ⟨k b u (fun z => n (z ▸ ava)) e, fun h => n (av b h)⟩
  have nb : ∀ j c, B j = some c → c ≠ a := fun j c e z => by subst z; rw [r.sepM _ _ e] at ha; cases ha
  have na : ∀ c, A.h c ≠ none → c ≠ a := fun c e z => by subst z; rw [r.sepA _ e] at ha; cases ha
  refine ⟨⟨r.len, fun j s v e1 e2 => (r.sl j s v e1 e2).fr f fun c e => ⟨e, fun o h => k _ _ (nb j c e) h⟩, r.inj, fun c mo2 e => ?_, fun b h => ?_, fun j c e => ?_, fun c hc => ?_, r.sepB, fun b u e => k b u (na b (by rw [e]; simp)) (r.sn b u e), fun b hb => ?_, Gd.cl f r.gd⟩, f, fun b u n e => ?_⟩
  · by_cases h : c = a
    · subst h
      rw [addM_same] at e
      cases e
      exact hm
    · rw [addM_ne h] at e
      exact (r.ob c mo2 e).fr f fun o h2 => k _ _ h h2
  · have := r.tr b (av b h)
    by_cases e : b = a
    · subst e; rw [upd_same]; simp
    · rw [upd_ne e]; exact this
  · rw [addM_ne (nb j c e)]; exact r.sepM j c e
  · rw [addM_ne (na c hc)]; exact r.sepA c hc
  · by_cases h : b = a
    · subst h; rw [addM_same]; simp
    · rw [addM_ne h]; exact r.md b hb
  · have : b ≠ a := fun z => by subst z; rw [n] at ha; cases ha
    exact ⟨k b u this e, by rw [addM_ne this]; exact n⟩
end
section
variable {K : PySem.W.Frag} {X : Cx} {ta tb tc : TE} {ta' tb' tc' : TED} {a b c : Expr} {pos apos : Pos}
theorem Hd.refM {Av : Addr → Prop} {H : Hp} {p : Addr} {v : V} (h : Hd K Av H (.ref p) v) : v = .ref p := by cases h; rfl
theorem HdB.refM {A : CA} {B : Nat → Option Addr} {M : Mm} {H : Hp} {p : Addr} {v : V} (h : HdB K A B M H (.ref p) v) : v = .ref p := by
  rcases h with h | ⟨_, _, _, e, _⟩
  · exact h.refM
  · cases e
/-- {}, {i: j} -/
def dMNew (es : List (Int × Int)) : TED := fun ρ M Q => ∀ p, M p = none → Q (.ref p) ρ (addM M p (.dk es))
theorem de_mdict0 : DE X K (.Dict [] [] pos) tDNewK (dMNew []) := ⟨pe_dnewK, fun A B M ρ σ H Q Q' r q kk p hp => by
  obtain ⟨R2, f2, m2, mp⟩ := r.newM (o := .dK []) (mo := .dk []) hp upd_same
  exact kk _ ρ _ B _ _ R2 f2 m2 (.ref p) (q p mp)⟩
theorem de_mdict1 {i j : Int} {t u : Nat} {p1 p2 : Pos} : DE X K (.Dict [some (.Constant (.int i) t p1)] [.Constant (.int j) u p2] pos) (tDisp [(tC (.int i), tC (.int j))]) (dMNew [(i, j)]) :=
  ⟨pe_disp (pps_cons pe_int pe_int pps_nil) rfl rfl (by simp) (Nat.le_of_ble_eq_true rfl), fun A B M ρ σ H Q Q' r q kk => fun p hp => by
    refine ⟨upd_same, [(.inl i, .int j)], rfl, Nat.le_of_ble_eq_true rfl, ?_⟩
    rw [upd_upd]
    obtain ⟨R2, f2, m2, mp⟩ := r.newM (o := .dK (mergeK [] [(.inl i, .int j)])) (mo := .dk [(i, j)]) hp upd_same
    exact kk _ ρ _ B _ _ R2 f2 m2 (.ref p) (q p mp)⟩
/-- d[k] -/
def dIxM (ta' tb' : TED) : TED := fun ρ M Q => ta' ρ M fun d ρ1 M1 => tb' ρ1 M1 fun e ρ2 M2 => ∃ p es k v, d = .ref p ∧ M2 p = some (.dk es) ∧ e = .int k ∧ getI es k = some v ∧ Q (.int v) ρ2 M2
theorem de_ixM (hu : X.A.units + 1 < cLine) (ha : DB X K a ta ta') (hb : DB X K b tb tb') (hs : NoSl b) : DE X K (.Subscript a b pos) (tDGet ta tb) (dIxM ta' tb') :=
  ⟨pe_dget hu ha.pe hb.pe hs, fun A B M ρ σ H Q Q' r q kk => ha.sim A B M ρ σ H _ _ r q fun d ρ1 M1 B1 v H1 R1 f1 m1 h1 q1 => hb.sim A B1 M1 ρ1 σ H1 _ _ R1 q1 fun e ρ2 M2 B2 u H2 R2 f2 m2 h2 q2 => by
    obtain ⟨p, es, k, w, rfl, hM, rfl, hg, q2⟩ := q2
    have hH : H2 p = some (.dK (dkI es)) := R2.ob p _ hM
    obtain rfl := h1.refM
    obtain rfl := h2.int
    exact ⟨p, .int w, rfl, .inl ⟨dkI es, .inl k, .inl hH, rfl, by rw [dkI_val, hg]; rfl⟩, kk _ ρ2 M2 B2 _ H2 R2 (f1.trans f2) (m1.trans m2) (.int w) q2⟩⟩
/-- d.get(k, x) -/
def dGetM (ta' tb' tc' : TED) : TED := fun ρ M Q => ta' ρ M fun d ρ1 M1 => ∃ p es0, d = .ref p ∧ M1 p = some (.dk es0) ∧ tb' ρ1 M1 fun e ρ2 M2 => tc' ρ2 M2 fun f ρ3 M3 => ∃ es k x, M3 p = some (.dk es) ∧ e = .int k ∧ f = .int x ∧ Q (.int ((getI es k).getD x)) ρ3 M3
theorem de_getM (hu : X.A.units + 1 < cLine) (ha : DB X K a ta ta') (hb : DB X K b tb tb') (hc : DB X K c tc tc')
    (h1 : attributeBase a "get" X.env (eval a X.env) = eval a X.env := by rfl)
    (h2 : ((backTo pos (starEach [b, c] X.env)).all (fun x => !x.1) && (backToKw pos (keywordEach [] X.env)).all (fun x => x.1.isSome)
    && decide (([b, c] : List Expr).length + ([] : List Keyword).length + (if ([] : List Keyword).isEmpty then 0 else 1) < 30)) = true := by rfl)
    (h3 : (apos.endLine == pos.line) = true := by rfl) (h4 : backTo pos (starEach [b, c] X.env) = [(false, eval b X.env), (false, eval c X.env)] := by rfl) :
    DE X K (.Call (.Attribute a "get" apos) [b, c] [] pos) (tDGet2 ta tb tc) (dGetM ta' tb' tc') :=
  ⟨pe_dget2 hu ha.pe hb.pe hc.pe ⟨h1, h2, h3, h4⟩, fun A B M ρ σ H Q Q' r q kk => ha.sim A B M ρ σ H _ _ r q fun d ρ1 M1 B1 v H1 R1 f1 m1 h1 q1 => by
    obtain ⟨p, es0, rfl, hM0, q1⟩ := q1
    obtain rfl := h1.refM
    refine ⟨p, rfl, .inl ⟨_, .inl (R1.ob p _ hM0)⟩, hb.sim A B1 M1 ρ1 σ H1 _ _ R1 q1 fun e ρ2 M2 B2 u H2 R2 f2 m2 h2 q2 => hc.sim A B2 M2 ρ2 σ H2 _ _ R2 q2 fun f ρ3 M3 B3 z H3 R3 f3 m3 h3 q3 => ?_⟩
    obtain ⟨es, k, x, hM, rfl, rfl, q3⟩ := q3
    obtain rfl := h2.int
    obtain rfl := h3.int
    refine ⟨_, .inl ⟨dkI es, .inl k, .inl (R3.ob p _ hM), rfl, rfl⟩, ?_⟩
    rw [dkI_val]
    have e : ((getI es k).map V.int).getD (.int x) = .int ((getI es k).getD x) := by cases getI es k <;> rfl
    rw [e]
    exact kk _ ρ3 M3 B3 _ H3 R3 ((f1.trans f2).trans f3) ((m1.trans m2).trans m3) (.int _) q3⟩
/-- d[k] = v -/
def dPutM (ta' tb' tc' : TED) : TSD := fun D ρ M => tc' ρ M fun f ρ1 M1 => ta' ρ1 M1 fun d ρ2 M2 => tb' ρ2 M2 fun e ρ3 M3 => ∃ p es k v, d = .ref p ∧ M3 p = some (.dk es) ∧ e = .int k ∧ f = .int v ∧ es.length < sizeLine ∧ D.nx ρ3 (addM M3 p (.dk (putI es k v)))
theorem ds_putM {pos' : Pos} (hu : X.A.units + 1 < cLine) (ha : DB X K a ta ta') (hb : DB X K b tb tb') (hc : DB X K c tc tc') (hs : swapsWith c (some (.Subscript a b pos')) pos.line X.env = pure false := by rfl) :
    DS X K (.Assign [.Subscript a b pos'] c pos) (sDPut ta tb tc) (dPutM ta' tb' tc') :=
  ⟨ps_dput hu ha.pe hb.pe hc.pe hs, fun A B M ρ σ H E D r q k => hc.sim A B M ρ σ H _ _ r q fun f ρ1 M1 B1 z H1 R1 f1 m1 h1 q1 => ha.sim A B1 M1 ρ1 σ H1 _ _ R1 q1 fun d ρ2 M2 B2 v H2 R2 f2 m2 h2 q2 => hb.sim A B2 M2 ρ2 σ H2 _ _ R2 q2 fun e ρ3 M3 B3 u H3 R3 f3 m3 h3 q3 => by
    obtain ⟨p, es, i, w, rfl, hM, rfl, rfl, hl, q3⟩ := q3
    obtain rfl := h2.refM
    obtain rfl := h3.int
    obtain rfl := h1.int
    have hH : H3 p = some (.dK (dkI es)) := R3.ob p _ hM
    obtain ⟨R4, f4, m4⟩ := R3.writeM (o := .dK (putK (dkI es) (.inl i) (.int w))) (mo' := .dk (putI es i w)) hM (by
      show upd H3 p _ p = _
      rw [upd_same, dkI_put])
    exact ⟨p, _, rfl, .inl ⟨dkI es, .inl i, hH, rfl, by rw [dkI_length]; exact hl, rfl⟩, k.nx ρ3 _ B3 σ _ R4 (((f1.trans f2).trans f3).trans f4) q3⟩⟩
/-- sorted(d) -/
def dSortM (ta' : TED) : TEN := fun ρ M Q => ta' ρ M fun d ρ1 M1 => ∃ p es, d = .ref p ∧ M1 p = some (.dk es) ∧ es.length < 64 ∧ ∀ ms : List Int, ms.Perm (es.map (·.1)) → ms.Pairwise (· ≤ ·) → Q (ms.map .int) ρ1 M1
abbrev rSortDI : List V → Hp → VK → Prop := fun xs H Q => ∃ (a : Addr) (kvs : List (Key × V)) (ks : List Int), xs = [.ref a] ∧ Rd H a (.dK kvs) ∧ kvs.map (·.1) = ks.map Sum.inl ∧ ks.length < 64 ∧
    ∀ (ys : List Int) (p : Addr), ys.Perm ks → ys.Pairwise (· ≤ ·) → H p = none → Q (.ref p) (upd H p (.lst (ys.map V.int)))
theorem dn_sortM {x : Str} {p : Pos} (hc : X.calm = true) (hg : Gl X x) (hm : X.mg x = none) (hv : bootBuiltins x = some (.builtin "sorted")) (ha : DB X K a ta ta')
    (hs : starEach [a] X.env = (false, eval a X.env) :: starEach [] X.env := by rfl) (hn : x ≠ "__name__" := by decide) (hdb : (x == ("__debug__" : Str)) = false := by decide) : DN X K (.Call (.Name x p) [a] [] pos) (tCB rSortDI (tCons ta tNil)) (dSortM ta') :=
  ⟨pe_callB (call_sortedDI hc) hg hm hv (pa_cons ha.pe pa_nil hs) hn hdb hs rfl, fun A B M ρ σ H Q Q' r q kk => ha.sim A B M ρ σ H _ _ r q fun d ρ1 M1 B1 v H1 R1 f1 m1 h1 q1 => by
    obtain ⟨p, es, rfl, hM, h64, q1⟩ := q1
    obtain rfl := h1.refM
    refine ⟨p, dkI es, es.map (·.1), rfl, .inl (R1.ob p _ hM), dkI_keys es, by rw [List.length_map]; exact h64, fun ys b h1 h2 hb => ?_⟩
    obtain ⟨B2, R2, f2, m2, hb2, h3⟩ := R1.newOwn (ds := ys.map .int) hb .ofInts
    exact kk _ ρ1 M1 B2 b _ _ R2 (f1.trans f2) (m1.trans m2) hb2 upd_same h3 (q1 ys h1 h2)⟩
/-- sum(d.values()) -/
def tSumVals (td : TE) : TE := fun σ H Q => td σ H fun x H1 => ∃ (p : Addr) (kvs : List (Key × V)) (is : List Int), x = V.ref p ∧ H1 p = some (.dK kvs) ∧ kvs.map (·.2) = is.map V.int ∧ Q (.int is.sum) H1
theorem pe_sumVals {p mpos : Pos} {o : Expr} {td : TE} (hc : X.calm = true) (hg : Gl X "sum") (hm : X.mg "sum" = none) (hd : PE X o td) (hbase : attributeBase o "values" X.env (eval o X.env) = eval o X.env := by rfl) (hline : (apos.endLine == mpos.line) = true := by rfl)
    (hse : starEach [Expr.Call (.Attribute o "values" apos) [] [] mpos] X.env = [(false, eval (Expr.Call (.Attribute o "values" apos) [] [] mpos) X.env)] := by rfl) :
    PE X (.Call (.Name "sum" p) [.Call (.Attribute o "values" apos) [] [] mpos] [] pos) (tSumVals td) := by
  refine ⟨fun pins s σ H Q I h => ?_⟩
  refine wpAny_Call_Name_kw (ld_blt I hg hm (u := .builtin "sum") (by first | rfl | decide +kernel) ?_ (by first | decide +kernel | decide) (by first | decide +kernel | decide))
  rw [hse]
  refine PySem.callWith_builtin1 (wpAny_Call_method0_late hbase hline (thn (hd.run pins s σ H _ I h) fun v s1 ⟨x, H1, I1, r1, a, kvs, is, ex, ha, hv, q⟩ => ?_))
  subst ex
  obtain rfl : v = Value.ref a := r1
  obtain ⟨_, hsys, vs, rel, dof⟩ := dk_of I1.hok ha
  obtain ⟨ep, dat⟩ := dof.dictAt
  have hdat := dat
  obtain ⟨ob, es, ho, ex, hdat, hko, hpr, hnd⟩ := hdat
  refine ⟨"dict", "dict.values", F.plainAttrs_dict, F.slot_dict_values, F.type_dict_values, ⟨ob, ho, ex.1⟩, fun b e => ?_, Calls.callWith_builtin rfl (PySem.evalArgs_none ?_)⟩
  · cases e
    exact ⟨ob, ho, ex.2.1⟩
  refine call_meetsIn F.slot_dict_values ⟨ob, ho, ex.1⟩ F.entry_dict_values (F.args_dict_values_1 _) (meets_dict_values (mixKind X.prog X.w) a hsys) ⟨⟨vs, dof⟩, ?_⟩
  have k1 : ∀ b u, s1.heap.get? b = some u → (s1.heap.push { cls := .type "dict_values", data := .fields #[.ref a] }).get? b = some u := fun b u e => Heap.get?_push_of_some _ e
  have dat1 : (s1.heap.push { cls := .type "dict_values", data := .fields #[.ref a] }).DictAt (mixKind X.prog X.w) a vs ep := dat.keep k1
  have hlv : vs.length = is.length := by
    have e1 := congrArg List.length hv
    rw [List.length_map, List.length_map] at e1
    rw [← e1]
    exact (KV.length rel).symm
  have hval : ∀ (i : Nat) (v : Value), (∃ k, vs[i]? = some (k, v)) → ∃ t, v = Value.int (is.getD i 0) t := fun i v ⟨k, hk⟩ => by
    obtain ⟨x, h1, h2⟩ := KV.at' rel hk
    have e1 : (kvs.map (·.2))[i]? = some x := by rw [List.getElem?_map, h1] <;> rfl
    rw [hv, List.getElem?_map] at e1
    obtain ⟨j, hj, e2⟩ := Option.map_eq_some_iff.mp e1
    subst e2
    obtain ⟨t, e3⟩ := h2
    refine ⟨t, ?_⟩
    rw [e3, List.getD_eq_getElem?_getD, hj] <;> rfl
  refine call_sum_walkG (wpAny_pyIter_values (v := s1.heap.objs.size) (d := a) ⟨_, Heap.get?_push_size _ rfl, rfl, rfl⟩ dat1 ?_)
  have hlt : a < s1.heap.objs.size := Heap.lt_size ho
  have hsz : (s1.heap.push { cls := .type "dict_values", data := .fields #[.ref a] }).objs.size = s1.heap.objs.size + 1 := Heap.size_push _ _
  refine ⟨_, _, _, _, _, _, _, rfl, Walks.dictValues (knd := mixKind X.prog X.w) (A := X.A.in1) (I.ok.hd hc) (s1.heap.push { cls := .type "dict_values", data := .fields #[.ref a] }).objs.size a (by rw [hsz]; exact Nat.ne_of_lt (Nat.lt_succ_of_lt hlt)) vs ep,
    ⟨⟨_, Heap.get?_push_size _ rfl, rfl, rfl⟩, dat1.keep fun b u e => Heap.get?_push_of_some _ e⟩, fun b hb => ?_, hval, fun h' tk t' hk => ?_⟩
  · show b < ((s1.heap.push _).push _).objs.size
    rw [Heap.size_push, Heap.size_push]
    rw [hsz] at hb
    rcases List.mem_cons.mp hb with e | hb
    · rw [e]
      exact Nat.lt_succ_self _
    · have e : b = a := List.mem_singleton.mp hb
      rw [e]
      exact Nat.lt_succ_of_lt (Nat.lt_succ_of_lt hlt)
  · refine ⟨.int _, H1, I1.kept (t' := tk) fun b u e => hk b u (fun hmem => ?_) (Heap.get?_push_of_some _ (k1 b u e)), ⟨t', rfl⟩, ?_⟩
    · have e1 : b = (s1.heap.push { cls := .type "dict_values", data := .fields #[.ref a] }).objs.size := List.mem_singleton.mp hmem
      have e2 := Heap.lt_size e
      rw [hsz] at e1
      rw [e1] at e2
      exact absurd e2 (Nat.not_lt.mpr (Nat.le_succ _))
    · rw [preSum_getD, hlv, List.take_length]
      exact q
def dSumM (ta' : TED) : TED := fun ρ M Q => ta' ρ M fun d ρ1 M1 => ∃ p es, d = .ref p ∧ M1 p = some (.dk es) ∧ Q (.int (es.map (·.2)).sum) ρ1 M1
theorem de_sumM {p mpos : Pos} (hc : X.calm = true) (hg : Gl X "sum") (hm : X.mg "sum" = none) (ha : DB X K a ta ta') (hbase : attributeBase a "values" X.env (eval a X.env) = eval a X.env := by rfl) (hline : (apos.endLine == mpos.line) = true := by rfl)
    (hse : starEach [Expr.Call (.Attribute a "values" apos) [] [] mpos] X.env = [(false, eval (Expr.Call (.Attribute a "values" apos) [] [] mpos) X.env)] := by rfl) :
    DE X K (.Call (.Name "sum" p) [.Call (.Attribute a "values" apos) [] [] mpos] [] pos) (tSumVals ta) (dSumM ta') :=
  ⟨pe_sumVals hc hg hm ha.pe hbase hline hse, fun A B M ρ σ H Q Q' r q kk => ha.sim A B M ρ σ H _ _ r q fun d ρ1 M1 B1 v H1 R1 f1 m1 h1 q1 => by
    obtain ⟨p, es, rfl, hM, q1⟩ := q1
    obtain rfl := h1.refM
    exact ⟨p, dkI es, es.map (·.2), rfl, R1.ob p _ hM, dkI_vals es, kk _ ρ1 M1 B1 _ H1 R1 f1 m1 (.int _) q1⟩⟩
end
end DM

/-! ### except x as n; isinstance of what was caught -/
namespace DM
open PySem PySem.Spec PyProof.Rows L2 TK
theorem u65m {k : Nat} {A : Around} {v : Option Value} (r : Room k A) : (A.mark v).units + 65 < cLine := by
  have := r.un
  rw [Around.mark_units]
  omega
theorem unitsm {k : Nat} {A : Around} {v : Option Value} (r : Room k A) : (A.mark v).units + 64 < cLine := by
  have := r.un
  show A.units + 64 < cLine
  omega
variable [g : Gd]
/-- what the clause 'except c as n' wishes of an error of the class at C: slot i is n's -/
def dAs (K : PySem.W.Frag) (W' : WD) (c : Value) (i : Nat) (th' : Addr → Value → Option Addr → TSD) (D : EndsD) : WD := fun C ρ M =>
  ∃ b, PySem.W.exmOne K (.ref C) c = some b ∧ if b = true then ∀ a : Addr, th' a (.ref C) none { nx := fun ρ' M' => D.nx (ρ'.set i .un) M', rt := D.rt, rn := D.rn, bk := fun ρ' M' => D.bk (ρ'.set i .un) M', ct := fun ρ' M' => D.ct (ρ'.set i .un) M' } (ρ.set i (.val (.ref a))) M else W' C ρ M
def dTryAs (K : PySem.W.Frag) (tb' : WD → TSD) (W' : WD) (c : Value) (i : Nat) (th' : Addr → Value → Option Addr → TSD) : TSD := fun D ρ M => tb' (dAs K W' c i th' D) D ρ M
section
variable {X : Cx} {K : PySem.W.Frag} {W : WX} {W' : WD} {c : Value} {i : Nat} {ts : Addr → Value → Option Addr → TS} {th' : Addr → Value → Option Addr → TSD}
theorem as_run (hx : Esc K W W') {A : CA} {B M ρ σ H E D} {C : Addr} (r : ER K A B M ρ σ H) (k : EndsOk K A (Av A B M) H D E) (h : ∀ a, SimS K (ts a (.ref C) none) (th' a (.ref C) none)) (q : dAs K W' c i th' D C ρ M) : wAs K c i ts W E (.ref C) none σ H := by
  obtain ⟨b, e, q⟩ := q
  refine ⟨b, e, fun hb a _ => ?_, fun hb => ?_⟩
  · rw [if_pos hb] at q
    exact h a A B M _ _ H _ _ (r.set (.ref a)) (q a) ⟨fun ρ' M' B' σ' H' r' f q' => k.nx _ _ _ _ _ r'.unset f q', k.rt, k.rn, fun ρ' M' B' σ' H' r' f q' => k.bk _ _ _ _ _ r'.unset f q', fun ρ' M' B' σ' H' r' f q' => k.ct _ _ _ _ _ r'.unset f q'⟩
  · rw [if_neg (by rw [hb]; decide)] at q
    exact hx _ _ _ _ _ _ _ r q
theorem sim_tryAs {tb : WX → TS} {tb' : WD → TSD} (hx : Esc K W W') (hb : ∀ (g2 : Gd) (W2 : WX) (W2' : WD), @Esc g2 K W2 W2' → @SimS g2 K (tb W2) (tb' W2')) (hh : ∀ (C a : Addr), SimS K (ts a (.ref C) none) (th' a (.ref C) none)) :
    SimS K (fun D σ H => tb (wAs K c i ts W D) D σ H) (dTryAs K tb' W' c i th') := fun A B M ρ σ H E D r q k => by
  have cc : ∀ Av1 H1, Fr (Av A B M) Av1 H H1 → g.F A Av1 H1 := fun _ _ f => g.cl f r.gd
  obtain ⟨r2, _⟩ := ER.sub (g := GdAt A (Av A B M) H) r (fun _ _ h => h) (fun _ h => h) ⟨fun _ _ h => h, fun _ h => h, .refl⟩
  refine hb (GdAt A (Av A B M) H) (wAs K c i ts W E) (dAs K W' c i th' D) (fun A1 B1 M1 ρ1 σ1 H1 C r1 q1 => ?_) A B M ρ σ H _ _ r2 q (k.chg cc)
  obtain ⟨h1, h2, f⟩ := @ER.gd (GdAt A (Av A B M) H) _ _ _ _ _ _ _ r1
  have f2 : Fr (Av A B M) (Av A B1 M1) H H1 := f.trans (.less fun b h => h.elim (fun h => .inl (by
    cases e : A.h b with
    | none => exact absurd e h
    | some o => rw [h1 b o e]; simp)) .inr)
  obtain ⟨r3, _⟩ := ER.sub (g := g) r1 h1 h2 (cc _ _ f2)
  exact as_run hx r3 (k.from f2) (hh C) q1
theorem ds_tryAs (i : Nat) {x n : Str} {body : List Stmt} {b₀ : Stmt} {suite : List Stmt} {np pos pos' : Pos} {tb : WX → TS} {tb' : WD → TSD} (hN : X.N.Nodup) (hc : Names X x c) (tk : Takes X W) (hx : Esc K W W')
    (hb : ∀ (g2 : Gd) (W2 : WX) (W2' : WD) (pn : List (Addr × Obj)) (xe : Value → Shared → Prop), Takes (X.tr pn xe) W2 → @Esc g2 K W2 W2' → @DSs g2 (X.tr pn xe) K body (tb W2) (tb' W2'))
    (hsu : ∀ (a : Addr) (oe : Obj) (cls : Value) (d : Option Addr) (pn : List (Addr × Obj)), Zc cls d oe → (∃ vs, oe.data = .fields vs) → DSs (X.suite a ((a, oe) :: pn)) K (b₀ :: suite) (ts a cls d) (th' a cls d))
    (hi : X.N[i]? = some n := by rfl) (hln : X.env.kindOf n = some .local := by rfl) (hs : X.stack = X.env :: X.outer := by rfl) (hf : X.env.frame = some X.env.locals := by rfl) (hK : X.K = K := by rfl) :
    DS X K (.Try body [.ExceptHandler (some (.Name x np)) (some n) (b₀ :: suite) pos'] [] [] pos) (fun D σ H => tb (wAs X.K c i ts W D) D σ H) (dTryAs K tb' W' c i th') := by
  subst hK
  refine ⟨ps_try_as hs hf hN hi hln hc tk (fun W2 pn xe t _ => @DSs.ps Gd.triv _ _ _ _ _ (hb Gd.triv W2 (fun _ _ _ => False) pn xe t (fun _ _ _ _ _ _ _ _ z => z.elim))) (fun a oe cls d pn hz hd => (hsu a oe cls d pn hz hd).ps), sim_tryAs hx (fun g2 W2 W2' e => @DSs.sim g2 _ _ _ _ _ (hb g2 W2 W2' [] (fun _ _ => True) (fun _ _ _ => trivial) e)) fun C a => ?_⟩
  exact (hsu a ⟨.ref C, none, .fields #[], #[]⟩ (.ref C) none [] ⟨rfl, rfl⟩ ⟨#[], rfl⟩).sim
/-- the name of an error's class -/
theorem de_gref {x : Str} {C : Addr} {pos : Pos} (hg : Gl X x) (hm : X.mg x = some (.ref C)) (hd : (x == ("__debug__" : Str)) = false := by decide) : DE X K (.Name x pos) (tC (.ref C)) (dC (.ref C)) :=
  ⟨pe_glob hg hm rfl hd, sim_c fun _ _ => .ref _⟩
def rIsX (K : PySem.W.Frag) (cls : Value) (d : Option Addr) (a : Addr) : List V → Hp → VK → Prop := fun xs H Q => ∃ D, cls = .ref D ∧ d = none ∧ ExcC K D ∧ rIsE K D a xs H Q
theorem call_isX {a : Addr} {oe : Obj} {cls : Value} {d : Option Addr} {pn : List (Addr × Obj)} (hz : Zc cls d oe) (hf : ∃ vs, oe.data = .fields vs) : CallR (X.suite a ((a, oe) :: pn)) (.builtin "isinstance") (rIsX X.K cls d a) := by
  intro pins s σ H xs us Q I r h
  obtain ⟨D, rfl, rfl, C, h⟩ := h
  exact call_isE C hz hf pins s σ H xs us Q I r h
def clsD : D → Option Value
  | .ref C => some (.ref C)
  | .ty n => some (.type n)
  | _ => none
/-- isinstance(e, c), e what was caught -/
def dIsE (K : PySem.W.Frag) (cls : Value) (a : Addr) (te' tc' : TED) : TED := fun ρ M Q => te' ρ M fun x ρ1 M1 => tc' ρ1 M1 fun y ρ2 M2 => ∃ D cv b, cls = .ref D ∧ x = .ref a ∧ clsD y = some cv ∧ ExcC K D ∧ PySem.W.kitOne K (.ref D) cv = some b ∧ Q (.bl b) ρ2 M2
theorem de_isE {a : Addr} {oe : Obj} {cls : Value} {d : Option Addr} {pn : List (Addr × Obj)} {x : Str} {p pos : Pos} {e c : Expr} {te tc : TE} {te' tc' : TED} (hz : Zc cls d oe) (hf : ∃ vs, oe.data = .fields vs)
    (hg : Gl (X.suite a ((a, oe) :: pn)) x) (hm : (X.suite a ((a, oe) :: pn)).mg x = none) (hv : bootBuiltins x = some (.builtin "isinstance")) (he : DE (X.suite a ((a, oe) :: pn)) K e te te') (hc : DE (X.suite a ((a, oe) :: pn)) K c tc tc')
    (hs : starEach [e, c] X.env = (false, eval e X.env) :: starEach [c] X.env := by rfl) (hs2 : starEach [c] X.env = (false, eval c X.env) :: starEach [] X.env := by rfl) (hpl : (backTo pos (starEach [c] X.env)).any (·.1) = false := by rfl)
    (hn : x ≠ "__name__" := by decide) (hdb : (x == ("__debug__" : Str)) = false := by decide) (hK : X.K = K := by rfl) :
    DE (X.suite a ((a, oe) :: pn)) K (.Call (.Name x p) [e, c] [] pos) (tCB (rIsX X.K cls d a) (tCons te (tCons tc tNil))) (fun ρ M Q => d = none ∧ dIsE K cls a te' tc' ρ M Q) := by
  subst hK
  refine ⟨pe_callB (call_isX hz hf) hg hm hv (pa_cons he.pe (pa_cons hc.pe pa_nil hs2) hs) hn hdb hs hpl, fun A B M ρ σ H Q Q' r q kk => ?_⟩
  obtain ⟨rfl, q⟩ := q
  refine he.sim A B M ρ σ H _ _ r q fun y ρ1 M1 B1 v H1 R1 f1 m1 h1 q1 => hc.sim A B1 M1 ρ1 σ H1 _ _ R1 q1 fun z ρ2 M2 B2 u H2 R2 f2 m2 h2 q2 => ?_
  obtain ⟨D, cv, b, rfl, rfl, ec, C, ek, q2⟩ := q2
  obtain rfl := h1.refM
  have hcv : ∀ w, RelV u w → w = cv := fun w rw => by
    cases z with
    | ref Z =>
      obtain rfl := h2.refM
      cases ec
      exact rw
    | ty n =>
      cases h2
      cases ec
      exact rw
    | _ => cases ec
  exact ⟨D, rfl, rfl, C, _, cv, b, rfl, hcv, ek, kk _ ρ2 M2 B2 _ H2 R2 (f1.trans f2) (m1.trans m2) (.bl b) q2⟩
end
end DM
namespace TK
open PySem PySem.Spec PyProof.Rows L2
theorem kit_self {K : PySem.W.Frag} {A : Addr} : PySem.W.kitOne K (.ref A) (.ref A) = some true := by
  unfold PySem.W.kitOne
  rw [if_pos (show (Value.ref A == Value.ref A) = true from by simp)]
theorem kit_mk {K : PySem.W.Frag} {A B : Addr} {r : Bool} (h : (Value.ref A == Value.ref B) = false) (t : PySem.W.typeIn K (.ref B) = some (.type "type")) (c : PySem.W.isClsIn K B = true) (s : PySem.W.subIn K (.ref A) (.ref B) = some r) : PySem.W.kitOne K (.ref A) (.ref B) = some r := by
  unfold PySem.W.kitOne PySem.W.kitCls
  rw [h]
  show (if ((PySem.W.clsIn K B).isSome && PySem.W.typeIn K (.ref B) == some (.type "type")) = true then PySem.W.subIn K (.ref A) (.ref B) else none) = some r
  rw [t]
  have hc : (PySem.W.clsIn K B).isSome = true := c
  rw [hc]
  exact s
theorem kit_mkT {K : PySem.W.Frag} {A : Addr} {T : String} {r : Bool} (h : PySem.W.kitMeta T = true) (s : PySem.W.subIn K (.ref A) (.type T) = some r) : PySem.W.kitOne K (.ref A) (.type T) = some r := by
  unfold PySem.W.kitOne PySem.W.kitCls
  show (if (Value.ref A == Value.type T) = true then some true else if PySem.W.kitMeta T = true then PySem.W.subIn K (.ref A) (.type T) else none) = some r
  rw [if_neg (by intro z; cases z), if_pos h]
  exact s
end TK

/-! ### objects: their attributes -/
namespace DM
open PySem PySem.Spec PyProof.Rows L2 TK
/-- attribute f is written -/
def putD (f : Str) (d : D) : List (Str × D) → List (Str × D)
  | [] => [(f, d)]
  | (g, x) :: r => if g = f then (g, d) :: r else (g, x) :: putD f d r
section
variable {K : PySem.W.Frag} {Av : Addr → Prop} {H : Hp}
theorem FsD.look {fs : List (Str × D)} {vs : List (Str × V)} (h : FsD K Av H fs vs) {f : Str} {d : D} (e : fs.lookup f = some d) : ∃ v, vs.lookup f = some v ∧ Hd K Av H d v := by
  induction h with
  | nil => cases e
  | @cons g d' v fs vs a _ ih =>
    rw [List.lookup_cons] at e ⊢
    cases hq : f == g with
    | true =>
      rw [hq] at e
      cases e
      exact ⟨v, rfl, a⟩
    | false =>
      rw [hq] at e
      exact ih e
theorem FsD.no {fs : List (Str × D)} {vs : List (Str × V)} (h : FsD K Av H fs vs) {f : Str} (e : fs.lookup f = none) : vs.lookup f = none := by
  induction h with
  | nil => rfl
  | @cons g d' v fs vs a _ ih =>
    rw [List.lookup_cons] at e ⊢
    cases hq : f == g with
    | true => rw [hq] at e; cases e
    | false =>
      rw [hq] at e
      exact ih e
theorem FsD.put {fs : List (Str × D)} {vs : List (Str × V)} (h : FsD K Av H fs vs) {f : Str} {d : D} {v : V} (hv : Hd K Av H d v) : FsD K Av H (putD f d fs) (putF f v vs) := by
  induction h with
  | nil => exact .cons hv .nil
  | @cons g d' v' fs vs a t ih =>
    unfold putD putF
    by_cases q : g = f
    · rw [if_pos q, if_pos q]; exact .cons hv t
    · rw [if_neg q, if_neg q]; exact .cons a ih
theorem FsD.len {fs : List (Str × D)} {vs : List (Str × V)} (h : FsD K Av H fs vs) : fs.length = vs.length := by
  induction h with
  | nil => rfl
  | cons _ _ ih => rw [List.length_cons, List.length_cons, ih]
end
variable [Gd]
section
variable {K : PySem.W.Frag} {X : Cx} {ta tb tv : TE} {ta' tb' tv' : TED} {o e value : Expr} {f : Str} {pos pos' tpos : Pos}
/-- an object's attribute is written -/
theorem ER.putM {A : CA} {B : Nat → Option Addr} {M : Mm} {ρ : Env} {σ : L2.St} {H : Hp} (r : ER K A B M ρ σ H) {a C dx : Addr} {fs : List (Str × D)} {vs : List (Str × V)} {d : D} {v : V} (ha : M a = some (.ins C dx fs)) (hH : H a = some (.ins C dx vs)) (hd : Hd K (Av A B M) H d v) :
    ER K A B (addM M a (.ins C dx (putD f d fs))) ρ σ (upd H a (.ins C dx (putF f v vs))) ∧ Fr (Av A B M) (Av A B (addM M a (.ins C dx (putD f d fs)))) H (upd H a (.ins C dx (putF f v vs))) ∧ FrM M (addM M a (.ins C dx (putD f d fs))) H (upd H a (.ins C dx (putF f v vs))) := by
  obtain ⟨ws, e1, q, n, ow⟩ := r.ob a _ ha
  rw [hH] at e1
  cases e1
  have ava : Av A B M a := .inr (.inr (by rw [ha]; simp))
  have av : ∀ b, Av A B (addM M a (.ins C dx (putD f d fs))) b → Av A B M b := fun b h => by
    rcases h with h | h | h
    · exact .inl h
    · exact .inr (.inl h)
    · by_cases e : b = a
      · subst e; exact ava
      · rw [addM_ne e] at h; exact .inr (.inr h)
  have fr : Fr (Av A B M) (Av A B (addM M a (.ins C dx (putD f d fs)))) H (upd H a (.ins C dx (putF f v vs))) := fun b u nb e => ⟨by rw [upd_ne (fun z => by subst z; exact nb ava)]; exact e, fun h => nb (av b h)⟩
  have ndx : dx ≠ a := fun z => n (z ▸ ava)
  exact r.writeM ha ⟨_, upd_same, (q.fr fr).put (hd.fr fr), (fr _ _ n ow).2, (fr _ _ n ow).1⟩
/-- o.f -/
def dFld (K : PySem.W.Frag) (ta' : TED) (f : Str) : TED := fun ρ M Q => ta' ρ M fun d ρ1 M1 => ∃ a C dx fs v, d = .ref a ∧ M1 a = some (.ins C dx fs) ∧ Cls K C ∧ NoAttr K C f ∧ fs.lookup f = some v ∧ Q v ρ1 M1
theorem de_fld (he : DB X K e ta ta') (hb : attributeBase e f X.env (eval e X.env) = eval e X.env := by rfl) (hK : X.K = K := by rfl) : DE X K (.Attribute e f pos) (tFld K ta f) (dFld K ta' f) := by
  subst hK
  refine ⟨pe_fld he.pe hb, fun A B M ρ σ H Q Q' r q kk => he.sim A B M ρ σ H _ _ r q fun d ρ1 M1 B1 v H1 R1 f1 m1 h1 q1 => ?_⟩
  obtain ⟨a, C, dx, fs, w, rfl, hM, c, n, l, q1⟩ := q1
  obtain rfl := h1.refM
  obtain ⟨vs, e1, hf, _, _⟩ := R1.ob a _ hM
  obtain ⟨u, hu, hd⟩ := hf.look l
  exact ⟨a, C, dx, vs, u, rfl, e1, c, n, hu, kk w ρ1 M1 B1 u H1 R1 f1 m1 hd q1⟩
/-- o.f = value -/
def dSetF (K : PySem.W.Frag) (ta' tv' : TED) (f : Str) : TSD := fun D ρ M => tv' ρ M fun y ρ1 M1 => ta' ρ1 M1 fun d ρ2 M2 => ∃ a C dx fs, d = .ref a ∧ M2 a = some (.ins C dx fs) ∧ Cls K C ∧ NoAttr K C f ∧ fs.length < 1000 ∧ D.nx ρ2 (addM M2 a (.ins C dx (putD f y fs)))
theorem ds_setF (ha : DB X K o ta ta') (hv : DE X K value tv tv') (hs : swapsWith value (some (.Attribute o f pos')) pos.line X.env = pure false := by rfl) (hK : X.K = K := by rfl) : DS X K (.Assign [.Attribute o f pos'] value pos) (sFld K ta tv f) (dSetF K ta' tv' f) := by
  subst hK
  refine ⟨ps_fld ha.pe hv.pe hs, fun A B M ρ σ H E D r q k => hv.sim A B M ρ σ H _ _ r q fun y ρ1 M1 B1 v H1 R1 f1 m1 h1 q1 => ha.sim A B1 M1 ρ1 σ H1 _ _ R1 q1 fun d ρ2 M2 B2 u H2 R2 f2 m2 h2 q2 => ?_⟩
  obtain ⟨a, C, dx, fs, rfl, hM, c, n, hl, q2⟩ := q2
  obtain rfl := h2.refM
  obtain ⟨vs, e1, hf, _, _⟩ := R2.ob a _ hM
  obtain ⟨R3, f3, m3⟩ := R2.putM (f := f) hM e1 (h1.fr f2)
  exact ⟨a, C, dx, vs, rfl, e1, c, n, by rw [← hf.len]; exact hl, k.nx ρ2 _ B2 σ _ R3 ((f1.trans f2).trans f3) q2⟩
/-- o.f += value, of numbers -/
def dAugF (K : PySem.W.Frag) (ta' tv' : TED) (g : Int → Int → Int) (f : Str) : TSD := fun D ρ M => ta' ρ M fun d ρ1 M1 => ∃ a C dx fs i, d = .ref a ∧ M1 a = some (.ins C dx fs) ∧ Cls K C ∧ NoAttr K C f ∧ fs.lookup f = some (.int i) ∧
  tv' ρ1 M1 fun y ρ2 M2 => ∃ j C2 dx2 fs2, y = .int j ∧ M2 a = some (.ins C2 dx2 fs2) ∧ C2 = C ∧ fs2.length < 1000 ∧ D.nx ρ2 (addM M2 a (.ins C2 dx2 (putD f (.int (g i j)) fs2)))
theorem ds_augF {op : Operator} {rd : V → V → Hp → VK → Prop} {g : Int → Int → Int} (ha : DB X K o ta ta') (hv : DB X K value tv tv') (hop : InOp X op rd) (hg : ∀ i j H (Q : VK), Q (.int (g i j)) H → rd (.int i) (.int j) H Q) (hK : X.K = K := by rfl) :
    DS X K (.AugAssign (.Attribute o f tpos) op value pos) (sFldAug K ta tv rd f) (dAugF K ta' tv' g f) := by
  subst hK
  refine ⟨ps_fldaug ha.pe hv.pe hop, fun A B M ρ σ H E D r q k => ha.sim A B M ρ σ H _ _ r q fun d ρ1 M1 B1 v H1 R1 f1 m1 h1 q1 => ?_⟩
  obtain ⟨a, C, dx, fs, i, rfl, hM, c, n, l, q1⟩ := q1
  obtain rfl := h1.refM
  obtain ⟨vs, e1, hf, _, _⟩ := R1.ob a _ hM
  obtain ⟨u, hu, hd⟩ := hf.look l
  cases hd
  refine ⟨a, C, dx, vs, _, rfl, e1, c, n, hu, hv.sim A B1 M1 ρ1 σ H1 _ _ R1 q1 fun y ρ2 M2 B2 u H2 R2 f2 m2 h2 q2 => ?_⟩
  obtain ⟨j, C2, dx2, fs2, rfl, hM2, rfl, hl, q2⟩ := q2
  obtain rfl := h2.int
  obtain ⟨vs2, e2, hf2, _, _⟩ := R2.ob a _ hM2
  obtain ⟨R3, f3, m3⟩ := R2.putM (f := f) (d := .int (g i j)) hM2 e2 (.int _)
  exact hg _ _ _ _ ⟨dx2, vs2, e2, by rw [← hf2.len]; exact hl, k.nx ρ2 _ B2 σ _ R3 ((f1.trans f2).trans f3) q2⟩
theorem ag_add : ∀ i j H (Q : VK), Q (.int (i + j)) H → rAdd (.int i) (.int j) H Q := fun i j _ _ q => ⟨i, j, rfl, rfl, q⟩
theorem ag_sub : ∀ i j H (Q : VK), Q (.int (i - j)) H → rSub (.int i) (.int j) H Q := fun i j _ _ q => ⟨i, j, rfl, rfl, q⟩
end
end DM

/-! ### objects: methods, making -/
namespace TK
open PySem PySem.Spec PyProof.Rows L2
/-- the method m of the class at C -/
structure MAt (K : PySem.W.Frag) (C : Addr) (m qual : Str) (st : Stmt) (ps : List Str) : Prop where
  ex : ∃ (f : Addr) (fd : FuncData), Fun K m qual st f fd ∧ Cls K C ∧ Meth K C m f ∧ ∀ us : List Value, us.length = ps.length → bindArgs fd ⟨us, []⟩ = pure (ps.zip us)
/-- .. keeps the promise sp -/
structure MCal (P : Program) (w : World) (K : PySem.W.Frag) (mg : Str → Option Value) (base : Heap) (C : Addr) (m : Str) (ps : List Str) (k : Nat) (sp : Sp) : Prop where
  ex : ∃ (f : Addr) (fd : FuncData), FnOk P w K mg base (L2.CX P w) k f fd ps sp ∧ Cls K C ∧ Meth K C m f ∧ ∀ us : List Value, us.length = ps.length → bindArgs fd ⟨us, []⟩ = pure (ps.zip us)
/-- the class under the module's name x, at C, and its __init__ -/
structure MakAt (K : PySem.W.Frag) (mg : Str → Option Value) (x : Str) (C : Addr) (qual : Str) (st : Stmt) (ps : List Str) : Prop where
  ex : ∃ (f : Addr) (fd : FuncData), Fun K "__init__" qual st f fd ∧ Mk K C f ∧ mg x = some (.ref C) ∧ ∀ us : List Value, us.length = ps.length → bindArgs fd ⟨us, []⟩ = pure (ps.zip us)
structure MakCal (P : Program) (w : World) (K : PySem.W.Frag) (mg : Str → Option Value) (base : Heap) (x : Str) (C : Addr) (ps : List Str) (k : Nat) (sp : Sp) : Prop where
  ex : ∃ (f : Addr) (fd : FuncData), FnOk P w K mg base (L2.CX P w) k f fd ps sp ∧ Mk K C f ∧ mg x = some (.ref C) ∧ ∀ us : List Value, us.length = ps.length → bindArgs fd ⟨us, []⟩ = pure (ps.zip us)
/-- o.m(..), and C(..), also in a try's body -/
def tMthS (C : Addr) (m : Str) (sp : Sp) (E : L2.St → XK) (ta : TE) (t : TA) : TE := fun σ H Q => ta σ H fun x H1 => ∃ a dx fs, x = .ref a ∧ H1 a = some (.ins C dx fs) ∧ fs.lookup m = none ∧ t σ H1 fun vs H2 => sp (x :: vs) H2 Q (E σ)
def tMakS (C : Addr) (sp : Sp) (E : L2.St → XK) (t : TA) : TE := fun σ H Q => t σ H fun vs H1 => ∀ x dx, H1 x = none → H1 dx = none → dx ≠ x → sp (.ref x :: vs) (upd (upd H1 dx (.own x)) x (.ins C dx [])) (fun v H2 => v = .non ∧ Q (.ref x) H2) (E σ)
section
variable {X : Cx} {CX : CXT} {k j : Nat} {f C : Addr} {fd : FuncData} {ps : List Str} {sp : Sp} {E : L2.St → XK} {x m : Str} {p pos apos : Pos} {e o : Expr} {es : List Expr} {ta : TE} {t : TA} {W : WX}
theorem pe_mthS {pl : Sem Bool} (he : PE X o ta) (M : MCal X.prog X.w X.K X.mg X.base C m ps j sp) (hr : Room k X.A) (tk : Takes X W) (ha : PA X (e :: es) t) (hj : j ≤ k := by decide)
    (hst : starEach (e :: es) X.env = (false, eval e X.env) :: starEach es X.env := by rfl) (hpl : (backTo pos (starEach es X.env)).any (·.1) = false := by rfl)
    (ht : eval (.Call (.Attribute o m apos) (e :: es) [] pos) X.env = (do
      let ov ← eval o X.env
      standAt apos.atName
      let (f, first) ← holding [ov] (getMethod ov m pl)
      callWith pos f first (backTo pos (starEach (e :: es) X.env)) (backToKw pos (keywordEach [] X.env))) := by rfl) :
    PE X (.Call (.Attribute o m apos) (e :: es) [] pos) (tMthS C m sp (WE W) ta t) := by
  obtain ⟨f, fd, F, c, hm, bd⟩ := M.ex
  refine ⟨fun pins s σ H Q I h => ?_⟩
  refine PySem.W.methodCall_KW (pl := pl) (thn (he.run pins s σ H _ I h) fun u s1 ⟨x, H1, I1, rx, a, dx, fs, ex, ea, l, q⟩ => ?_) ht
  subst ex
  obtain rfl : u = Value.ref a := rx
  refine getmeth_ok I1 ea c hm l ?_
  refine PySem.W.callWith_K (first := [.ref a]) (h₀ := X.base) I.ok.mod.kin hm.kp (thn (ha.run pos pins s1 σ H1 _ I1 q) fun us s2 ⟨vs, H2, I2, r, q2⟩ => ⟨I2.kIn, ?_⟩) hst hpl
  exact run_fnS (E := WE W) (us := .ref a :: us) (vs := .ref a :: vs) F (hr.mono hj) (.all bd) (passAt tk σ) I2 (.cons rfl r) q2
theorem pe_mthS0 {pl : Sem Bool} (he : PE X o ta) (M : MCal X.prog X.w X.K X.mg X.base C m ps j sp) (hr : Room k X.A) (tk : Takes X W) (hj : j ≤ k := by decide)
    (ht : eval (.Call (.Attribute o m apos) [] [] pos) X.env = (do
      let ov ← eval o X.env
      standAt apos.atName
      let (f, first) ← holding [ov] (getMethod ov m pl)
      callWith pos f first (backTo pos (starEach [] X.env)) (backToKw pos (keywordEach [] X.env))) := by rfl) :
    PE X (.Call (.Attribute o m apos) [] [] pos) (tMthS C m sp (WE W) ta tNil) := by
  obtain ⟨f, fd, F, c, hm, bd⟩ := M.ex
  refine ⟨fun pins s σ H Q I h => ?_⟩
  refine PySem.W.methodCall_KW (pl := pl) (thn (he.run pins s σ H _ I h) fun u s1 ⟨x, H1, I1, rx, a, dx, fs, ex, ea, l, q⟩ => ?_) ht
  subst ex
  obtain rfl : u = Value.ref a := rx
  refine getmeth_ok I1 ea c hm l ?_
  exact PySem.W.callWith_K0 (first := [.ref a]) I1.kIn hm.kp (run_fnS (E := WE W) (us := [.ref a]) (vs := [.ref a]) F (hr.mono hj) (.all bd) (passAt tk σ) I1 (.cons rfl .nil) q)
theorem run_makS {pins : List (Addr × Obj)} {σ : L2.St} {H : Hp} {s : Shared} {Q : VK} {us : List Value} {vs : List V} (M : Mk X.K C f) (F : FnOk X.prog X.w X.K X.mg X.base CX k f fd ps sp) (hr : Room (k + 1) X.A) (hb : Binds X.K fd ps []) (hx : PassesAt CX X σ (E σ)) (I : Inv X pins σ H s) (r : Vals vs us)
    (h : ∀ x dx, H x = none → H dx = none → dx ≠ x → sp (.ref x :: vs) (upd (upd H dx (.own x)) x (.ins C dx [])) (fun v H2 => v = .non ∧ Q (.ref x) H2) (E σ)) :
    wpAny (model X.prog X.w) X.A (call (.ref C) us) (EP X pins σ Q) X.xe s := by
  have hq := h (s.heap.objs.size + 1) s.heap.objs.size (I.hok.fresh (Nat.le_succ _)) (I.hok.fresh (Nat.le_refl _)) (Nat.ne_of_lt (Nat.lt_succ_self _))
  have I2 := Inv.made (C := C) I
  have r2 : Vals (V.ref (s.heap.objs.size + 1) :: vs) (Value.ref (s.heap.objs.size + 1) :: us) := .cons rfl r
  have hl : (Value.ref (s.heap.objs.size + 1) :: us).length = ps.length := by
    have e := r2.length
    rw [F.len _ _ _ _ hq] at e
    exact e.symm
  have b := hb _ (Value.ref (s.heap.objs.size + 1) :: us) I2.kIn (by rw [List.append_nil]; exact hl)
  rw [List.append_nil] at b
  refine wpAny_call (make_map (f := f) I.kIn M.makes M.init (beq_iff_eq.mp M.fn) (codeAny_mono (F.run _ X.stack _ _ ⟨Value.ref (s.heap.objs.size + 1) :: us, []⟩ (Value.ref (s.heap.objs.size + 1) :: us) _ _ (E σ) (hr.make C us [])
    (I2.env0.make C us []) b r2 hq) fun r s' hq' => ?_))
  cases r with
  | error e => exact hx pins _ _ e s' I2 hq'
  | ok fl =>
    cases fl with
    | ret u =>
      obtain ⟨v, H', I3, rv, ev, q3⟩ := I2.after hq'
      subst ev
      exact ⟨rv, ⟨V.ref (s.heap.objs.size + 1), H', I3, rfl, q3⟩⟩
    | next => exact False.elim hq'
    | brk => exact False.elim hq'
    | cont => exact False.elim hq'
theorem pe_makS (M : MakCal X.prog X.w X.K X.mg X.base x C ps j sp) (hr : Room k X.A) (hg : Gl X x) (tk : Takes X W) (ha : PA X (e :: es) t) (hj : j + 1 ≤ k := by decide) (hdb : (x == ("__debug__" : Str)) = false := by decide)
    (he : starEach (e :: es) X.env = (false, eval e X.env) :: starEach es X.env := by rfl) (hpl : (backTo pos (starEach es X.env)).any (·.1) = false := by rfl) :
    PE X (.Call (.Name x p) (e :: es) [] pos) (tMakS C sp (WE W) t) := by
  obtain ⟨f, fd, F, mk, hm, bd⟩ := M.ex
  refine ⟨fun pins s σ H Q I h => ?_⟩
  refine wpAny_Call_Name_kw (ld_glob I hg hm ?_ hdb)
  refine PySem.W.callWith_K (h₀ := X.base) I.ok.mod.kin mk.kp (thn (ha.run pos pins s σ H _ I h) fun us s1 ⟨vs, H1, I1, r, q⟩ => ⟨I1.kIn, ?_⟩) he hpl
  exact run_makS (E := WE W) mk F (hr.mono hj) (.all bd) (passAt tk σ) I1 r q
end
end TK
namespace DM
open PySem PySem.Spec PyProof.Rows L2 TK
section
variable {P : Program} {w : World} {K : PySem.W.Frag} {mg : Str → Option Value} {base : Heap} {x m : Str} {C : Addr} {st : Stmt} {N ps : List Str} {k : Nat} {sp : SpD}
theorem dx_body
    (hbody : ∀ (g : Gd) (f : Addr) (cdv : Value) (Ar : Around) (outer : List PySem.Env) (s : Shared) (H : Hp) (E : XK) (ds : List DM.D) (M : Mm) (Q : DM.D → Mm → Prop) (N' : List DM.D → Mm → Prop) (E' : Addr → Mm → Prop), Room k (Ar.deeper (envOfC x (defScope st) s.heap.objs.size f cdv)) → Esc K (fun cls d _ H => E cls d H) (fun C _ M => E' C M) → sp ds M Q N' E' →
      ∃ t t', DSs (cxOf (L2.CX P w) P w K mg base N x (defScope st) f cdv Ar outer s H E) K (defBody st) t t' ∧ t' ⟨(fun _ M' => Q .non M'), Q, N', (fun _ _ => False), (fun _ _ => False)⟩ (startD N ds) M) : ∀ (f : Addr) (cdv : Value) (Ar : Around) (outer : List PySem.Env) (s : Shared) (H : Hp) (vs : List V) (Q : VK) (E : XK), Room k (Ar.deeper (envOfC x (defScope st) s.heap.objs.size f cdv)) → ofD K sp vs H Q E →
      ∃ t, PSs (cxOf (L2.CX P w) P w K mg base N x (defScope st) f cdv Ar outer s H E) (defBody st) t ∧ t { nx := fun _ H' => Q .non H', rt := Q } (start N vs) H := fun f cdv Ar outer s H vs Q E hr ⟨A, M, ds, o, hd, q⟩ => by
    have o' : ROk K ⟨A.h, fun b => M b ≠ none⟩ M H := ⟨o.ob, o.tr, o.sep, o.sn, fun b h => h⟩
    obtain ⟨t, t', h, q'⟩ := hbody (GdAt ⟨A.h, fun b => M b ≠ none⟩ (Avc A M) H) f cdv Ar outer s H E ds M _ _ _ hr (fun A1 B1 M1 ρ1 σ1 H1 C r1 q1 => by
      obtain ⟨h1, h2, fr⟩ := @ER.gd (GdAt ⟨A.h, fun b => M b ≠ none⟩ (Avc A M) H) _ _ _ _ _ _ _ r1
      obtain ⟨r1, _⟩ := ER.sub (g := Gd.triv) r1 (fun _ _ h => h) (fun _ h => h) trivial
      have less : ∀ b, Avc A M1 b → Av A1 B1 M1 b := fun b h => by
        rcases h with h | ⟨i, h⟩ | h
        · refine .inl ?_
          cases e : A.h b with
          | none => exact absurd e h
          | some o => rw [h1 b o e]; simp
        · cases h
        · exact .inr (.inr h)
      refine q1 H1 ⟨fun a mo e => (r1.ob a mo e).fr (.less less) fun _ h => h, fun b h => r1.tr b (.inr (.inr h)), fun a h => r1.sepA a (by
          cases e : A.h a with
          | none => exact absurd e h
          | some o => rw [h1 a o e]; simp), fun b u e => r1.sn b u (h1 b u e), fun b h => r1.md b (h2 b (o.md b h))⟩ fun b u n e => ?_
      cases qq : A.h b with
      | some w =>
        have e1 := o.sn b w qq
        rw [e] at e1
        cases e1
        exact ⟨r1.sn b _ (h1 b _ qq), r1.sepA b (by rw [h1 b _ qq]; simp)⟩
      | none =>
        obtain ⟨e1, e2⟩ := fr b u (by rintro (h | ⟨i, h⟩ | h); exact h qq; cases h; exact h n) e
        exact ⟨e1, none_of_not_av e2⟩) q
    refine ⟨t, @DSs.ps (GdAt ⟨A.h, fun b => M b ≠ none⟩ (Avc A M) H) _ _ _ _ _ h, ?_⟩
    exact body_runG (@DSs.sim (GdAt ⟨A.h, fun b => M b ≠ none⟩ (Avc A M) H) _ _ _ _ _ h) o hd ⟨fun _ _ h => h, fun _ h => h, .refl⟩ q'
theorem defMX {qual : Str} (D : MAt K C m qual st ps) (S : FnScope N ps (defScope st)) (len : ∀ ds M Q N' E, sp ds M Q N' E → ds.length = ps.length)
    (hbody : ∀ (g : Gd) (f : Addr) (cdv : Value) (Ar : Around) (outer : List PySem.Env) (s : Shared) (H : Hp) (E : XK) (ds : List DM.D) (M : Mm) (Q : DM.D → Mm → Prop) (N' : List DM.D → Mm → Prop) (E' : Addr → Mm → Prop), Room k (Ar.deeper (envOfC qual (defScope st) s.heap.objs.size f cdv)) → Esc K (fun cls d _ H => E cls d H) (fun C _ M => E' C M) → sp ds M Q N' E' →
      ∃ t t', DSs (cxOf (L2.CX P w) P w K mg base N qual (defScope st) f cdv Ar outer s H E) K (defBody st) t t' ∧ t' ⟨(fun _ M' => Q .non M'), Q, N', (fun _ _ => False), (fun _ _ => False)⟩ (startD N ds) M) : MCal P w K mg base C m ps (k + 1) (ofD K sp) := by
  obtain ⟨f, fd, F, c, hm, bd⟩ := D.ex
  exact ⟨f, fd, F.okX S (fun vs H Q E ⟨A, M, ds, o, hd, q⟩ => by rw [← hd.length]; exact len _ _ _ _ _ q) (dx_body hbody f), c, hm, bd⟩
theorem defMak {qual : Str} (D : MakAt K mg m C qual st ps) (S : FnScope N ps (defScope st)) (len : ∀ ds M Q N' E, sp ds M Q N' E → ds.length = ps.length)
    (hbody : ∀ (g : Gd) (f : Addr) (cdv : Value) (Ar : Around) (outer : List PySem.Env) (s : Shared) (H : Hp) (E : XK) (ds : List DM.D) (M : Mm) (Q : DM.D → Mm → Prop) (N' : List DM.D → Mm → Prop) (E' : Addr → Mm → Prop), Room k (Ar.deeper (envOfC qual (defScope st) s.heap.objs.size f cdv)) → Esc K (fun cls d _ H => E cls d H) (fun C _ M => E' C M) → sp ds M Q N' E' →
      ∃ t t', DSs (cxOf (L2.CX P w) P w K mg base N qual (defScope st) f cdv Ar outer s H E) K (defBody st) t t' ∧ t' ⟨(fun _ M' => Q .non M'), Q, N', (fun _ _ => False), (fun _ _ => False)⟩ (startD N ds) M) : MakCal P w K mg base m C ps (k + 1) (ofD K sp) := by
  obtain ⟨f, fd, F, mk, hm, bd⟩ := D.ex
  exact ⟨f, fd, F.okX S (fun vs H Q E ⟨A, M, ds, o, hd, q⟩ => by rw [← hd.length]; exact len _ _ _ _ _ q) (dx_body hbody f), mk, hm, bd⟩
end
section
variable [Gd] {X : Cx} {K : PySem.W.Frag} {e o : Expr} {es : List Expr} {t : TA} {tr' : TAD} {ta : TE} {ta' : TED} {x m : Str} {ps : List Str} {sp : SpD} {p pos apos : Pos} {k : Nat} {C : Addr} {W : WX} {W' : WD}
/-- o.m(..) -/
def dMth (W' : WD) (C : Addr) (m : Str) (sp : SpD) (ta' : TED) (tr' : TAD) : TED := fun ρ M Q => ta' ρ M fun d ρ1 M1 => ∃ a dx fs, d = .ref a ∧ M1 a = some (.ins C dx fs) ∧ fs.lookup m = none ∧
  tr' ρ1 M1 fun ds ρ2 M2 => sp (.ref a :: ds) M2 (fun d M3 => Q d ρ2 M3) (fun es M3 => Q (.lst es) ρ2 M3) (fun C M3 => W' C ρ2 M3)
theorem sim_mth (hx : Esc K W W') (hm : SpMono sp) (ho : SimB K ta ta') (h : SimA K t tr') : SimE K (tMthS C m (ofD K sp) (WE W) ta t) (dMth W' C m sp ta' tr') := fun A B M ρ σ H Q Q' R q kk => ho A B M ρ σ H _ _ R q fun d ρ0 M0 B0 v H0 R0 f0 m0 h0 q0 => by
  obtain ⟨a, dx, fs, rfl, hM, hl, q0⟩ := q0
  obtain rfl := h0.refM
  obtain ⟨vs0, e0, hf0, _, _⟩ := R0.ob a _ hM
  refine ⟨a, dx, vs0, rfl, e0, hf0.no hl, h A B0 M0 ρ0 σ H0 _ _ R0 q0 fun ds ρ1 M1 B1 vs H1 R1 f1 m1 h1 q1 => ?_⟩
  refine ⟨AB A B1 M1 H1, M1, .ref a :: ds, R1.rok, R1.args (.cons (.ref a) h1), hm.mono _ _ _ _ _ _ _ _ q1 (fun d M2 q2 => ?_) (fun es M2 q2 => ?_) (fun C M2 q2 => ?_)⟩
  · intro v H2 o m hd
    obtain ⟨R2, f2⟩ := R1.back o m
    rw [R1.av_ab] at hd
    exact kk d ρ1 M2 B1 v H2 R2 ((f0.trans f1).trans f2) ((m0.trans m1).trans m) hd q2
  · intro a us H2 hn o m hd
    obtain ⟨B2, R2, f2, hb, hl, h2⟩ := R1.backN hn o m hd
    obtain ⟨R3, f3⟩ := R2.drop (i := σ.length) (by rw [R2.len]; exact Nat.le_refl _)
    refine kk (.lst es) ρ1 M2 _ (.ref a) H2 R3 (((f0.trans f1).trans f2).trans f3) ((m0.trans m1).trans m) (.lst ?_ hl (h2.fr f3)) q2
    rintro (h | ⟨j, h⟩ | h)
    · exact h (R2.sepB _ _ hb)
    · have hj : j ≠ σ.length := fun z => by subst z; rw [put_same] at h; cases h
      rw [put_ne hj] at h
      exact hj (R2.inj _ _ _ h hb)
    · exact h (R2.sepM _ _ hb)
  · intro H2 o m
    obtain ⟨R2, f2⟩ := R1.back o m
    exact hx _ _ _ _ _ _ _ R2 q2
theorem de_mth {pl : Sem Bool} {j : Nat} (ho : DB X K o ta ta') (M : MCal X.prog X.w X.K X.mg X.base C m ps j (ofD K sp)) (hm : SpMono sp) (hr : Room k X.A) (tk : Takes X W) (hx : Esc K W W') (ha : DA X K (e :: es) t tr') (hj : j ≤ k := by decide)
    (hst : starEach (e :: es) X.env = (false, eval e X.env) :: starEach es X.env := by rfl) (hpl : (backTo pos (starEach es X.env)).any (·.1) = false := by rfl)
    (ht : eval (.Call (.Attribute o m apos) (e :: es) [] pos) X.env = (do
      let ov ← eval o X.env
      standAt apos.atName
      let (f, first) ← holding [ov] (getMethod ov m pl)
      callWith pos f first (backTo pos (starEach (e :: es) X.env)) (backToKw pos (keywordEach [] X.env))) := by rfl) :
    DE X K (.Call (.Attribute o m apos) (e :: es) [] pos) (tMthS C m (ofD K sp) (WE W) ta t) (dMth W' C m sp ta' tr') := ⟨pe_mthS ho.pe M hr tk ha.pa hj hst hpl ht, sim_mth hx hm ho.sim ha.sim⟩
theorem de_mth0 {pl : Sem Bool} {j : Nat} (ho : DB X K o ta ta') (M : MCal X.prog X.w X.K X.mg X.base C m ps j (ofD K sp)) (hm : SpMono sp) (hr : Room k X.A) (tk : Takes X W) (hx : Esc K W W') (hj : j ≤ k := by decide)
    (ht : eval (.Call (.Attribute o m apos) [] [] pos) X.env = (do
      let ov ← eval o X.env
      standAt apos.atName
      let (f, first) ← holding [ov] (getMethod ov m pl)
      callWith pos f first (backTo pos (starEach [] X.env)) (backToKw pos (keywordEach [] X.env))) := by rfl) :
    DE X K (.Call (.Attribute o m apos) [] [] pos) (tMthS C m (ofD K sp) (WE W) ta tNil) (dMth W' C m sp ta' dNil) := ⟨pe_mthS0 ho.pe M hr tk hj ht, sim_mth hx hm ho.sim (da_nil (X := X)).sim⟩
/-- C(..): the new object is a shared thing -/
def dMak (W' : WD) (C : Addr) (sp : SpD) (tr' : TAD) : TED := fun ρ M Q => tr' ρ M fun ds ρ1 M1 => ∀ a dx, M1 a = none → M1 dx = none → sp (.ref a :: ds) (addM M1 a (.ins C dx [])) (fun d M2 => d = .non ∧ Q (.ref a) ρ1 M2) (fun _ _ => False) (fun C M2 => W' C ρ1 M2)
theorem sim_mak (hx : Esc K W W') (hm : SpMono sp) (h : SimA K t tr') : SimE K (tMakS C (ofD K sp) (WE W) t) (dMak W' C sp tr') := fun A B M ρ σ H Q Q' R q kk => h A B M ρ σ H _ _ R q fun ds ρ1 M1 B1 vs H1 R1 f1 m1 h1 q1 => by
  intro a dx ha hdx hne
  obtain ⟨R2, f2, m2, n2, mdx⟩ := R1.new (o := .own a) hdx
  have ha2 : upd H1 dx (.own a) a = none := by rw [upd_ne (Ne.symm hne)]; exact ha
  have no : M1 a = none := by
    cases e : M1 a with
    | none => rfl
    | some mo => exact absurd ha (R1.tr a (.inr (.inr (by rw [e]; simp))))
  have av : ∀ b, Av A B1 (addM M1 a (.ins C dx [])) b → Av A B1 M1 b ∨ b = a := fun b h => by
    rcases h with h | h | h
    · exact .inl (.inl h)
    · exact .inl (.inr (.inl h))
    · by_cases e : b = a
      · exact .inr e
      · rw [addM_ne e] at h; exact .inl (.inr (.inr h))
  obtain ⟨R3, f3, m3, _⟩ := R2.newM (o := .ins C dx []) (mo := .ins C dx []) ha2 ⟨[], upd_same, .nil, fun z => (av dx z).elim n2 hne, by rw [upd_ne hne, upd_same]⟩
  have hds := h1.fr (f2.trans f3)
  refine ⟨AB A B1 (addM M1 a (.ins C dx [])) _, addM M1 a (.ins C dx []), .ref a :: ds, R3.rok, R3.args (.cons (.ref a) hds), hm.mono _ _ _ _ _ _ _ _ (q1 a dx no mdx) (fun d M4 q2 => ?_) (fun es M4 q2 => q2.elim) (fun C M4 q2 => ?_)⟩
  · intro v H4 o m hd
    obtain ⟨R4, f4⟩ := R3.back o m
    obtain ⟨rfl, q2⟩ := q2
    cases hd
    exact ⟨rfl, kk (.ref a) ρ1 M4 B1 _ H4 R4 (((f1.trans f2).trans f3).trans f4) (((m1.trans m2).trans m3).trans m) (.ref a) q2⟩
  · intro H4 o m
    obtain ⟨R4, f4⟩ := R3.back o m
    exact hx _ _ _ _ _ _ _ R4 q2
theorem de_mak {j : Nat} (M : MakCal X.prog X.w X.K X.mg X.base x C ps j (ofD K sp)) (hm : SpMono sp) (hr : Room k X.A) (hg : Gl X x) (tk : Takes X W) (hx : Esc K W W') (ha : DA X K (e :: es) t tr') (hj : j + 1 ≤ k := by decide) (hdb : (x == ("__debug__" : Str)) = false := by decide)
    (he : starEach (e :: es) X.env = (false, eval e X.env) :: starEach es X.env := by rfl) (hpl : (backTo pos (starEach es X.env)).any (·.1) = false := by rfl) : DE X K (.Call (.Name x p) (e :: es) [] pos) (tMakS C (ofD K sp) (WE W) t) (dMak W' C sp tr') :=
  ⟨pe_makS M hr hg tk ha.pa hj hdb he hpl, sim_mak hx hm ha.sim⟩
end
end DM

/-! ### lists that are written: shared things -/
namespace DM
open PySem PySem.Spec PyProof.Rows L2 TK
variable [Gd]
section
variable {K : PySem.W.Frag} {X : Cx} {ta tb tv : TE} {ta' tb' tv' : TED} {tr : TA} {tr' : TAD} {o e value : Expr} {es : List Expr} {x : Str} {pos pos' tpos apos cpos p : Pos}
/-- a new list that is shared -/
theorem ER.newL {A : CA} {B : Nat → Option Addr} {M : Mm} {ρ : Env} {σ : L2.St} {H : Hp} (r : ER K A B M ρ σ H) {q : Addr} {vs : List V} {ds : List D} (hp : H q = none) (h : HdL K (Av A B M) H ds vs) :
    ER K A B (addM M q (.lst ds)) ρ σ (upd H q (.lst vs)) ∧ Fr (Av A B M) (Av A B (addM M q (.lst ds))) H (upd H q (.lst vs)) ∧ FrM M (addM M q (.lst ds)) H (upd H q (.lst vs)) ∧ M q = none := by
  have av : ∀ b, Av A B (addM M q (.lst ds)) b → Av A B M b ∨ b = q := fun b h => by
    rcases h with h | h | h
    · exact .inl (.inl h)
    · exact .inl (.inr (.inl h))
    · by_cases e : b = q
      · exact .inr e
      · rw [addM_ne e] at h; exact .inl (.inr (.inr h))
  refine r.newM hp ⟨vs, upd_same, h.fr fun b u nb e => ⟨by rw [upd_ne (ne_of_none e hp)]; exact e, fun h => ?_⟩⟩
  rcases av b h with h | h
  · exact nb h
  · subst h; rw [hp] at e; cases e
/-- a shared list is written -/
theorem ER.writeL {A : CA} {B : Nat → Option Addr} {M : Mm} {ρ : Env} {σ : L2.St} {H : Hp} (r : ER K A B M ρ σ H) {a : Addr} {vs : List V} {ds es : List D} (ha : M a = some (.lst es)) (h : HdL K (Av A B M) H ds vs) :
    ER K A B (addM M a (.lst ds)) ρ σ (upd H a (.lst vs)) ∧ Fr (Av A B M) (Av A B (addM M a (.lst ds))) H (upd H a (.lst vs)) ∧ FrM M (addM M a (.lst ds)) H (upd H a (.lst vs)) := by
  have ava : Av A B M a := .inr (.inr (by rw [ha]; simp))
  have av : ∀ b, Av A B (addM M a (.lst ds)) b → Av A B M b := fun b h => by
    rcases h with h | h | h
    · exact .inl h
    · exact .inr (.inl h)
    · by_cases e : b = a
      · subst e; exact ava
      · rw [addM_ne e] at h; exact .inr (.inr h)
  exact r.writeM ha ⟨vs, upd_same, h.fr fun b u nb e => ⟨by rw [upd_ne (fun z => by subst z; exact nb ava)]; exact e, fun h => nb (av b h)⟩⟩
/-- [..], to be shared -/
def dLstM (tr' : TAD) : TED := fun ρ M Q => tr' ρ M fun ds ρ1 M1 => ds.length ≤ sizeLine ∧ ∀ q, M1 q = none → Q (.ref q) ρ1 (addM M1 q (.lst ds))
theorem de_lstM (h : DA X K es tr tr') : DE X K (.List es pos) (tLst tr) (dLstM tr') := ⟨pe_lst h.pa, fun A B M ρ σ H Q Q' r q kk => h.sim A B M ρ σ H _ _ r q fun ds ρ1 M1 B1 vs H1 R1 f1 m1 h1 q1 => by
  refine ⟨by rw [← h1.length]; exact q1.1, fun q hq => ?_⟩
  obtain ⟨R2, f2, m2, mq⟩ := R1.newL hq h1
  exact kk (.ref q) ρ1 _ B1 _ _ R2 (f1.trans f2) (m1.trans m2) (.ref q) (q1.2 q mq)⟩
/-- what makes a new list of one value, to be shared: list(xs) -/
def dUnM (r' : R1N) (ta' : TED) : TED := fun ρ M Q => ta' ρ M fun d ρ1 M1 => r' d fun c => ∀ q, M1 q = none → Q (.ref q) ρ1 (addM M1 q (.lst c))
theorem sim_unM {r : List V → Hp → VK → Prop} {r' : R1N} (s : SimUN K r r') (ha : SimB K ta ta') : SimE K (tCB r (tCons ta tNil)) (dUnM r' ta') := fun A B M ρ σ H Q Q' R q kk =>
  ha A B M ρ σ H _ _ R q fun d ρ1 M1 B1 v H1 R1 f1 m1 h1 q1 => s A B1 M1 H1 d v Q _ h1 q1 fun ds vs p hl hp q3 => by
      obtain ⟨R2, f2, m2, mq⟩ := R1.newL hp hl
      exact kk (.ref p) ρ1 _ B1 _ _ R2 (f1.trans f2) (m1.trans m2) (.ref p) (q3 p mq)
theorem de_callT1M {T : String} {r : List V → Hp → VK → Prop} {r' : R1N} (c : CallR X (.type T) r ∧ SimUN K r r') (hg : Gl X x) (hm : X.mg x = none) (hv : bootBuiltins x = some (.type T)) (ha : DB X K e ta ta')
    (hs : starEach [e] X.env = (false, eval e X.env) :: starEach [] X.env := by rfl) (hn : x ≠ "__name__" := by decide) (hdb : (x == ("__debug__" : Str)) = false := by decide) : DE X K (.Call (.Name x p) [e] [] pos) (tCB r (tCons ta tNil)) (dUnM r' ta') :=
  ⟨pe_callTy c.1 hg hm hv (pa_cons ha.pe pa_nil hs) hn hdb hs rfl, sim_unM c.2 ha.sim⟩
/-- list(xs) of a shared list: shared too -/
def dCopyM (ta' : TED) : TED := fun ρ M Q => ta' ρ M fun d ρ1 M1 => ∃ a ds, d = .ref a ∧ M1 a = some (.lst ds) ∧ ∀ q, M1 q = none → Q (.ref q) ρ1 (addM M1 q (.lst ds))
theorem de_copyM (hg : Gl X x) (hm : X.mg x = none) (hv : bootBuiltins x = some (.type "list")) (ha : DB X K e ta ta')
    (hs : starEach [e] X.env = (false, eval e X.env) :: starEach [] X.env := by rfl) (hn : x ≠ "__name__" := by decide) (hdb : (x == ("__debug__" : Str)) = false := by decide) (hK : X.K = K := by rfl) : DE X K (.Call (.Name x p) [e] [] pos) (tCB (fun xs H Q => ∃ p ys, xs = [.ref p] ∧ (SqL K H p ys ∨ SqT K H p ys) ∧ ∀ l, H l = none → Q (.ref l) (upd H l (.lst ys))) (tCons ta tNil)) (dCopyM ta') := by
  subst hK
  refine ⟨pe_callTy call_list_of hg hm hv (pa_cons ha.pe pa_nil hs) hn hdb hs rfl, fun A B M ρ σ H Q Q' r q kk => ha.sim A B M ρ σ H _ _ r q fun d ρ1 M1 B1 v H1 R1 f1 m1 h1 q1 => ?_⟩
  obtain ⟨a, ds, rfl, hM, q1⟩ := q1
  obtain rfl := h1.refM
  obtain ⟨vs, e1, hd⟩ := R1.ob a _ hM
  refine ⟨a, vs, rfl, .inl (SqL.of e1), fun p hp => ?_⟩
  obtain ⟨R2, f2, m2, mq⟩ := R1.newL hp hd
  exact kk (.ref p) ρ1 _ B1 _ _ R2 (f1.trans f2) (m1.trans m2) (.ref p) (q1 p mq)
/-- xs[i] of a shared list -/
def dIxLM (ta' tb' : TED) : TED := fun ρ M Q => ta' ρ M fun d ρ1 M1 => tb' ρ1 M1 fun e ρ2 M2 => ∃ a ds i c, d = .ref a ∧ M2 a = some (.lst ds) ∧ e = .int i ∧ atI ds i = some c ∧ Q c ρ2 M2
theorem de_ixLM (ha : DB X K o ta ta') (hb : DB X K e tb tb') (hs : PlainIx e) (hK : X.K = K := by rfl) : DE X K (.Subscript o e pos) (tOp (rIxL K) ta tb) (dIxLM ta' tb') := by
  subst hK
  refine ⟨pe_ix ix_list ha.pe hb.pe hs, fun A B M ρ σ H Q Q' r q kk => ha.sim A B M ρ σ H _ _ r q fun d ρ1 M1 B1 v H1 R1 f1 m1 h1 q1 => hb.sim A B1 M1 ρ1 σ H1 _ _ R1 q1 fun y ρ2 M2 B2 u H2 R2 f2 m2 h2 q2 => ?_⟩
  obtain ⟨a, ds, i, c, rfl, hM, rfl, hc, q2⟩ := q2
  obtain rfl := h1.refM
  obtain ⟨vs, e1, hd⟩ := R2.ob a _ hM
  obtain ⟨w, ew, hw⟩ := hd.at hc
  exact ⟨a, vs, i, w, rfl, h2.int, SqL.of e1, ew, kk c ρ2 M2 B2 w H2 R2 (f1.trans f2) (m1.trans m2) hw q2⟩
/-- xs[i] = v of a shared list -/
def gdSetLM (ta' tb' : TED) : D → TSD := fun d D ρ M => ta' ρ M fun c ρ1 M1 => tb' ρ1 M1 fun y ρ2 M2 => ∃ a ds k j, c = .ref a ∧ M2 a = some (.lst ds) ∧ y = .int k ∧ ixN ds.length k = some j ∧ D.nx ρ2 (addM M2 a (.lst (ds.set j d)))
theorem dg_setLM (ho : DB X K o ta ta') (hi : DB X K e tb tb')
    (ha : ∀ v, assign (.Subscript o e pos) X.env v = (do
      let ov ← holding [v] (eval o X.env)
      let iv ← holding [v, ov] (eval e X.env)
      standAt pos
      holding [v, ov, iv] (setItem ov iv v)
      release [v, ov, iv] []) := by intro _; rfl) : DG X K (.Subscript o e pos) (gSub ta tb rSetL) (gdSetLM ta' tb') :=
  ⟨pg_sub ho.pe hi.pe set_list ha, fun A B M ρ σ H d v D Q r hd q k => ho.sim A B M ρ σ H _ _ r q fun c ρ1 M1 B1 w H1 R1 f1 m1 h1 q1 => hi.sim A B1 M1 ρ1 σ H1 _ _ R1 q1 fun y ρ2 M2 B2 u H2 R2 f2 m2 h2 q2 => by
    obtain ⟨a, ds, kk, j, rfl, hM, rfl, hj, q2⟩ := q2
    obtain rfl := h1.refM
    obtain rfl := h2.int
    obtain ⟨vs, e1, hds⟩ := R2.ob a _ hM
    obtain ⟨R3, f3, _⟩ := R2.writeL hM (hds.set j (hd.fr (f1.trans f2)))
    exact ⟨a, vs, kk, j, rfl, rfl, e1, by rw [← hds.length]; exact hj, k _ _ B2 σ _ R3 ((f1.trans f2).trans f3) q2⟩⟩
/-- xs.append(v) of a shared list -/
def dAppM (ta' tv' : TED) : TSD := fun D ρ M => ta' ρ M fun c ρ1 M1 => ∃ a ds0, c = .ref a ∧ M1 a = some (.lst ds0) ∧ tv' ρ1 M1 fun d ρ2 M2 => ∃ ds, M2 a = some (.lst ds) ∧ ds.length < sizeLine ∧ D.nx ρ2 (addM M2 a (.lst (ds ++ [d])))
theorem ds_appM (ho : DB X K o ta ta') (he : DE X K e tv tv') (hK : X.K = K := by rfl)
    (hbase : attributeBase o "append" X.env (eval o X.env) = eval o X.env := by rfl)
    (hfew : ((backTo cpos (starEach [e] X.env)).all (fun x => !x.1) && (backToKw cpos (keywordEach [] X.env)).all (fun x => x.1.isSome)
      && decide (([e] : List Expr).length + ([] : List Keyword).length + (if ([] : List Keyword).isEmpty then 0 else 1) < 30)) = true := by rfl)
    (hline : (apos.endLine == cpos.line) = true := by rfl) (hs : starEach [e] X.env = (false, eval e X.env) :: starEach [] X.env := by rfl) (hplain : (backTo cpos (starEach [] X.env)).any (·.1) = false := by rfl)
    (hsw : swapsWith (.Call (.Attribute o "append" apos) [e] [] cpos) none pos.line X.env = pure false := by rfl) :
    DS X K (.Expr (.Call (.Attribute o "append" apos) [e] [] cpos) pos) (tDrop (tBM K "list" rAppend ta (tCons tv tNil))) (dAppM ta' tv') := by
  subst hK
  refine ⟨ps_expr (pe_bm PySem.F.plainAttrs_list PySem.F.slot_list_append PySem.F.type_list_append mt_append ho.pe (pa_cons he.pe pa_nil hs) hbase hfew hline hs hplain) hsw, fun A B M ρ σ H E D r q k => ho.sim A B M ρ σ H _ _ r q fun c ρ1 M1 B1 v H1 R1 f1 m1 h1 q1 => ?_⟩
  obtain ⟨a, ds0, rfl, hM0, q1⟩ := q1
  obtain rfl := h1.refM
  obtain ⟨vs0, e0, _⟩ := R1.ob a _ hM0
  refine ⟨.inl ⟨rfl, _, SqL.of e0⟩, he.sim A B1 M1 ρ1 σ H1 _ _ R1 q1 fun d ρ2 M2 B2 y H2 R2 f2 m2 hd q2 => ?_⟩
  obtain ⟨ds, hM, hz, q2⟩ := q2
  obtain ⟨vs, e1, hds⟩ := R2.ob a _ hM
  refine ⟨a, vs, y, rfl, rfl, e1, by rw [← hds.length]; exact hz, ?_⟩
  obtain ⟨R3, f3, _⟩ := R2.writeL hM (hds.app (.one hd))
  exact k.nx ρ2 _ B2 σ _ R3 ((f1.trans f2).trans f3) q2
/-- len(xs) of a shared list -/
def dLenM (ta' : TED) : TED := fun ρ M Q => ta' ρ M fun d ρ1 M1 => ∃ a ds, d = .ref a ∧ M1 a = some (.lst ds) ∧ Q (.int (ds.length : Nat)) ρ1 M1
theorem de_lenM (hg : Gl X x) (hm : X.mg x = none) (hv : bootBuiltins x = some (.builtin "len")) (ha : DB X K e ta ta')
    (hs : starEach [e] X.env = (false, eval e X.env) :: starEach [] X.env := by rfl) (hn : x ≠ "__name__" := by decide) (hdb : (x == ("__debug__" : Str)) = false := by decide) (hK : X.K = K := by rfl) : DE X K (.Call (.Name x p) [e] [] pos) (tCB (fun xs H Q => ∃ p ys, xs = [.ref p] ∧ (SqL K H p ys ∨ SqT K H p ys) ∧ Q (.int ys.length) H) (tCons ta tNil)) (dLenM ta') := by
  subst hK
  refine ⟨pe_callB call_len_seq hg hm hv (pa_cons ha.pe pa_nil hs) hn hdb hs rfl, fun A B M ρ σ H Q Q' r q kk => ha.sim A B M ρ σ H _ _ r q fun d ρ1 M1 B1 v H1 R1 f1 m1 h1 q1 => ?_⟩
  obtain ⟨a, ds, rfl, hM, q1⟩ := q1
  obtain rfl := h1.refM
  obtain ⟨vs, e1, hd⟩ := R1.ob a _ hM
  refine ⟨a, vs, rfl, .inl (SqL.of e1), kk _ ρ1 M1 B1 _ H1 R1 f1 m1 (.int _) (by rw [← hd.length]; exact q1)⟩
end
end DM

/-! ### objects: what the heap says of a class and its methods -/
namespace TK
open PySem PySem.Spec PyProof.Rows L2
structure ClsAt (K : PySem.W.Frag) (mg : Str → Option Value) (x : Str) (C : Addr) : Prop where
  g : mg x = some (.ref C)
  c : Cls K C
theorem clsAt_mk {K : PySem.W.Frag} {h : Heap} {mg : Str → Option Value} {x : Str} {C : Addr} (X : K.In h) (G : h.Ns mainGlobals mg) (a : PySem.W.nsIn K mainGlobals x = some (some (.ref C)))
    (p : PySem.W.plainGet K C Str.empty = true) (d : PySem.W.hasDictIn K C = true) (o : PySem.W.plainOver K C = true) (s : PySem.W.findIn K (.ref C) "__setattr__" = some (some (.builtin "object.__setattr__"))) : ClsAt K mg x C := ⟨PySem.W.mg_of X G a, ⟨p, d, o, s⟩⟩
theorem mAt_mk {K : PySem.W.Frag} {m qual : Str} {st : Stmt} {ps : List Str} {f C : Addr} {oc : Value} {od an : Option Addr} {osl : Array (Option Value)} {kV doc pm cdv ct : Value} (c : Cls K C) (a : PySem.W.findIn K (.ref C) m = some (some (.ref f)))
    (l : K.lookup f = some ⟨oc, od, .func (PySem.W.fnOf m qual (defArgs st) (defBody st) (defScope st) .none kV doc pm an cdv ct), osl⟩)
    (cd : PySem.W.codeIn K cdv qual = true) (k : PySem.W.keepIn K (.ref f) = true) (fn : PySem.W.isFn K (.ref f) = true)
    (b : ∀ (kV doc pm : Value) (an : Option Addr) (cdv ct : Value) (us : List Value), us.length = ps.length → bindArgs (PySem.W.fnOf m qual (defArgs st) (defBody st) (defScope st) .none kV doc pm an cdv ct) ⟨us, []⟩ = pure (ps.zip us)) :
    MAt K C m qual st ps := ⟨f, _, fun_mk (st := st) l cd k, c, ⟨a, fn, k⟩, b kV doc pm an cdv ct⟩
theorem makAt_mk {K : PySem.W.Frag} {mg : Str → Option Value} {x qual : Str} {st : Stmt} {ps : List Str} {f C : Addr} {oc : Value} {od an : Option Addr} {osl : Array (Option Value)} {kV doc pm cdv ct : Value} (g : ClsAt K mg x C) (m : PySem.W.makesIn K C = true)
    (a : PySem.W.findIn K (.ref C) "__init__" = some (some (.ref f)))
    (l : K.lookup f = some ⟨oc, od, .func (PySem.W.fnOf "__init__" qual (defArgs st) (defBody st) (defScope st) .none kV doc pm an cdv ct), osl⟩)
    (cd : PySem.W.codeIn K cdv qual = true) (k : PySem.W.keepIn K (.ref C) = true) (kf : PySem.W.keepIn K (.ref f) = true) (fn : PySem.W.isFn K (.ref f) = true)
    (b : ∀ (kV doc pm : Value) (an : Option Addr) (cdv ct : Value) (us : List Value), us.length = ps.length → bindArgs (PySem.W.fnOf "__init__" qual (defArgs st) (defBody st) (defScope st) .none kV doc pm an cdv ct) ⟨us, []⟩ = pure (ps.zip us)) :
    MakAt K mg x C qual st ps := ⟨f, _, fun_mk (st := st) l cd kf, ⟨m, a, fn, k⟩, g.g, b kV doc pm an cdv ct⟩
end TK

/-! ### dicts that are written, of any data -/
namespace DM
open PySem PySem.Spec PyProof.Rows L2 TK
def getG (es : List (Key × D)) (k : Key) : Option D := (es.find? fun p => decide (p.1 = k)).map (·.2)
def putG (es : List (Key × D)) (k : Key) (d : D) : List (Key × D) := if (es.any fun p => decide (p.1 = k)) = true then es.map (fun p => if p.1 = k then (p.1, d) else p) else es ++ [(k, d)]
def keyD : D → Option Key
  | .int i => some (.inl i)
  | .str x => some (.inr x)
  | _ => none
theorem keyD_kV {K : PySem.W.Frag} {Av : Addr → Prop} {H : Hp} {d : D} {k : Key} {v : V} (e : keyD d = some k) (h : Hd K Av H d v) : v = kV k := by
  cases d with
  | int i => cases e; cases h; rfl
  | str x => cases e; cases h; rfl
  | _ => cases e
theorem keyD_kVB {K : PySem.W.Frag} {A : CA} {B : Nat → Option Addr} {M : Mm} {H : Hp} {d : D} {k : Key} {v : V} (e : keyD d = some k) (h : HdB K A B M H d v) : v = kV k := by
  rcases h with h | ⟨_, _, _, rfl, _⟩
  · exact keyD_kV e h
  · cases e
section
variable {K : PySem.W.Frag} {Av : Addr → Prop} {H : Hp}
theorem KvD.len {es : List (Key × D)} {kvs : List (Key × V)} (h : KvD K Av H es kvs) : es.length = kvs.length := by
  induction h with
  | nil => rfl
  | cons _ _ ih => rw [List.length_cons, List.length_cons, ih]
theorem getG_cons (p : Key × D) (es : List (Key × D)) (k : Key) : getG (p :: es) k = if p.1 = k then some p.2 else getG es k := by
  unfold getG
  by_cases e : p.1 = k
  · rw [List.find?_cons_of_pos (by simp [e]), if_pos e]; rfl
  · rw [List.find?_cons_of_neg (by simp [e]), if_neg e]
theorem KvD.get {es : List (Key × D)} {kvs : List (Key × V)} (h : KvD K Av H es kvs) {k : Key} {d : D} (e : getG es k = some d) : ∃ v, valV kvs k = some v ∧ Hd K Av H d v := by
  induction h with
  | nil => cases e
  | @cons k' d' v es kvs a t ih =>
    rw [getG_cons] at e
    by_cases q : k' = k
    · rw [if_pos q] at e
      cases e
      exact ⟨v, valV_pos q, a⟩
    · rw [if_neg q] at e
      rw [valV_neg q]
      exact ih e
theorem KvD.no {es : List (Key × D)} {kvs : List (Key × V)} (h : KvD K Av H es kvs) {k : Key} (e : getG es k = none) : valV kvs k = none := by
  induction h with
  | nil => rfl
  | @cons k' d' v es kvs a t ih =>
    rw [getG_cons] at e
    by_cases q : k' = k
    · rw [if_pos q] at e; cases e
    · rw [if_neg q] at e
      rw [valV_neg q]
      exact ih e
theorem KvD.any {es : List (Key × D)} {kvs : List (Key × V)} (h : KvD K Av H es kvs) (k : Key) : (kvs.any fun p => decide (p.1 = k)) = (es.any fun p => decide (p.1 = k)) := by
  induction h with
  | nil => rfl
  | cons _ _ ih => rw [List.any_cons, List.any_cons, ih]
theorem KvD.app {es es' : List (Key × D)} {kvs kvs' : List (Key × V)} (h : KvD K Av H es kvs) (h' : KvD K Av H es' kvs') : KvD K Av H (es ++ es') (kvs ++ kvs') := by
  induction h with
  | nil => exact h'
  | cons a _ ih => exact .cons a ih
theorem KvD.put {es : List (Key × D)} {kvs : List (Key × V)} (h : KvD K Av H es kvs) {k : Key} {d : D} {v : V} (hv : Hd K Av H d v) : KvD K Av H (putG es k d) (putK kvs k v) := by
  unfold putG putK
  rw [h.any k]
  by_cases q : (es.any fun p => decide (p.1 = k)) = true
  · rw [if_pos q, if_pos q]
    clear q
    induction h with
    | nil => exact .nil
    | @cons k' d' v' es kvs a t ih =>
      rw [List.map_cons, List.map_cons]
      by_cases q2 : k' = k
      · rw [if_pos q2, if_pos q2]; exact .cons hv ih
      · rw [if_neg q2, if_neg q2]; exact .cons a ih
  · rw [if_neg q, if_neg q]
    exact h.app (.cons hv .nil)
end
variable [Gd]
section
variable {K : PySem.W.Frag} {X : Cx} {ta tb tc : TE} {ta' tb' tc' : TED} {a b c : Expr} {pos apos : Pos}
theorem ER.writeG {A : CA} {B : Nat → Option Addr} {M : Mm} {ρ : Env} {σ : L2.St} {H : Hp} (r : ER K A B M ρ σ H) {q : Addr} {es fs : List (Key × D)} {kvs : List (Key × V)} (hq : M q = some (.dg es)) (h : KvD K (Av A B M) H fs kvs) :
    ER K A B (addM M q (.dg fs)) ρ σ (upd H q (.dK kvs)) ∧ Fr (Av A B M) (Av A B (addM M q (.dg fs))) H (upd H q (.dK kvs)) ∧ FrM M (addM M q (.dg fs)) H (upd H q (.dK kvs)) := by
  have ava : Av A B M q := .inr (.inr (by rw [hq]; simp))
  have av : ∀ b, Av A B (addM M q (.dg fs)) b → Av A B M b := fun b h => by
    rcases h with h | h | h
    · exact .inl h
    · exact .inr (.inl h)
    · by_cases e : b = q
      · subst e; exact ava
      · rw [addM_ne e] at h; exact .inr (.inr h)
  exact r.writeM hq ⟨kvs, upd_same, h.fr fun b u nb e => ⟨by rw [upd_ne (fun z => by subst z; exact nb ava)]; exact e, fun h => nb (av b h)⟩⟩
/-- {} -/
def dGNew : TED := fun ρ M Q => ∀ p, M p = none → Q (.ref p) ρ (addM M p (.dg []))
theorem de_gdict0 : DE X K (.Dict [] [] pos) tDNewK dGNew := ⟨pe_dnewK, fun A B M ρ σ H Q Q' r q kk p hp => by
  obtain ⟨R2, f2, m2, mp⟩ := r.newM (o := .dK []) (mo := .dg []) hp ⟨[], upd_same, .nil⟩
  exact kk _ ρ _ B _ _ R2 f2 m2 (.ref p) (q p mp)⟩
/-- d[k] -/
def dIxG (ta' tb' : TED) : TED := fun ρ M Q => ta' ρ M fun d ρ1 M1 => tb' ρ1 M1 fun e ρ2 M2 => ∃ p es k v, d = .ref p ∧ M2 p = some (.dg es) ∧ keyD e = some k ∧ getG es k = some v ∧ Q v ρ2 M2
theorem de_ixG (hu : X.A.units + 1 < cLine) (ha : DB X K a ta ta') (hb : DB X K b tb tb') (hs : NoSl b) : DE X K (.Subscript a b pos) (tDGet ta tb) (dIxG ta' tb') :=
  ⟨pe_dget hu ha.pe hb.pe hs, fun A B M ρ σ H Q Q' r q kk => ha.sim A B M ρ σ H _ _ r q fun d ρ1 M1 B1 v H1 R1 f1 m1 h1 q1 => hb.sim A B1 M1 ρ1 σ H1 _ _ R1 q1 fun e ρ2 M2 B2 u H2 R2 f2 m2 h2 q2 => by
    obtain ⟨p, es, k, w, rfl, hM, hk, hg, q2⟩ := q2
    obtain ⟨kvs, e1, hv⟩ := R2.ob p _ hM
    obtain ⟨x, ex, hx⟩ := hv.get hg
    obtain rfl := h1.refM
    obtain rfl := keyD_kVB hk h2
    exact ⟨p, x, rfl, .inl ⟨kvs, k, .inl e1, rfl, ex.symm⟩, kk _ ρ2 M2 B2 _ H2 R2 (f1.trans f2) (m1.trans m2) hx q2⟩⟩
/-- d.get(k, x) -/
def dGetG (ta' tb' tc' : TED) : TED := fun ρ M Q => ta' ρ M fun d ρ1 M1 => ∃ p es0, d = .ref p ∧ M1 p = some (.dg es0) ∧ tb' ρ1 M1 fun e ρ2 M2 => tc' ρ2 M2 fun f ρ3 M3 => ∃ es k, M3 p = some (.dg es) ∧ keyD e = some k ∧ Q ((getG es k).getD f) ρ3 M3
theorem de_getG (hu : X.A.units + 1 < cLine) (ha : DB X K a ta ta') (hb : DB X K b tb tb') (hc : DE X K c tc tc')
    (h1 : attributeBase a "get" X.env (eval a X.env) = eval a X.env := by rfl)
    (h2 : ((backTo pos (starEach [b, c] X.env)).all (fun x => !x.1) && (backToKw pos (keywordEach [] X.env)).all (fun x => x.1.isSome)
    && decide (([b, c] : List Expr).length + ([] : List Keyword).length + (if ([] : List Keyword).isEmpty then 0 else 1) < 30)) = true := by rfl)
    (h3 : (apos.endLine == pos.line) = true := by rfl) (h4 : backTo pos (starEach [b, c] X.env) = [(false, eval b X.env), (false, eval c X.env)] := by rfl) :
    DE X K (.Call (.Attribute a "get" apos) [b, c] [] pos) (tDGet2 ta tb tc) (dGetG ta' tb' tc') :=
  ⟨pe_dget2 hu ha.pe hb.pe hc.pe ⟨h1, h2, h3, h4⟩, fun A B M ρ σ H Q Q' r q kk => ha.sim A B M ρ σ H _ _ r q fun d ρ1 M1 B1 v H1 R1 f1 m1 h1 q1 => by
    obtain ⟨p, es0, rfl, hM0, q1⟩ := q1
    obtain rfl := h1.refM
    obtain ⟨kvs0, e0, _⟩ := R1.ob p _ hM0
    refine ⟨p, rfl, .inl ⟨kvs0, .inl e0⟩, hb.sim A B1 M1 ρ1 σ H1 _ _ R1 q1 fun e ρ2 M2 B2 u H2 R2 f2 m2 h2 q2 => hc.sim A B2 M2 ρ2 σ H2 _ _ R2 q2 fun f ρ3 M3 B3 z H3 R3 f3 m3 h3 q3 => ?_⟩
    obtain ⟨es, k, hM, hk, q3⟩ := q3
    obtain rfl := keyD_kVB hk h2
    obtain ⟨kvs, e1, hv⟩ := R3.ob p _ hM
    refine ⟨valV kvs k, .inl ⟨kvs, k, .inl e1, rfl, rfl⟩, ?_⟩
    cases hg : getG es k with
    | none =>
      rw [hv.no hg]
      rw [hg] at q3
      exact kk _ ρ3 M3 B3 _ H3 R3 ((f1.trans f2).trans f3) ((m1.trans m2).trans m3) h3 q3
    | some w =>
      obtain ⟨x, ex, hx⟩ := hv.get hg
      rw [ex]
      rw [hg] at q3
      exact kk _ ρ3 M3 B3 _ H3 R3 ((f1.trans f2).trans f3) ((m1.trans m2).trans m3) hx q3⟩
/-- d[k] = v -/
def dPutG (ta' tb' tc' : TED) : TSD := fun D ρ M => tc' ρ M fun f ρ1 M1 => ta' ρ1 M1 fun d ρ2 M2 => tb' ρ2 M2 fun e ρ3 M3 => ∃ p es k, d = .ref p ∧ M3 p = some (.dg es) ∧ keyD e = some k ∧ es.length < sizeLine ∧ D.nx ρ3 (addM M3 p (.dg (putG es k f)))
theorem ds_putG {pos' : Pos} (hu : X.A.units + 1 < cLine) (ha : DB X K a ta ta') (hb : DB X K b tb tb') (hc : DE X K c tc tc') (hs : swapsWith c (some (.Subscript a b pos')) pos.line X.env = pure false := by rfl) :
    DS X K (.Assign [.Subscript a b pos'] c pos) (sDPut ta tb tc) (dPutG ta' tb' tc') :=
  ⟨ps_dput hu ha.pe hb.pe hc.pe hs, fun A B M ρ σ H E D r q k => hc.sim A B M ρ σ H _ _ r q fun f ρ1 M1 B1 z H1 R1 f1 m1 h1 q1 => ha.sim A B1 M1 ρ1 σ H1 _ _ R1 q1 fun d ρ2 M2 B2 v H2 R2 f2 m2 h2 q2 => hb.sim A B2 M2 ρ2 σ H2 _ _ R2 q2 fun e ρ3 M3 B3 u H3 R3 f3 m3 h3 q3 => by
    obtain ⟨p, es, i, rfl, hM, hk, hl, q3⟩ := q3
    obtain rfl := h2.refM
    obtain rfl := keyD_kVB hk h3
    obtain ⟨kvs, e1, hv⟩ := R3.ob p _ hM
    obtain ⟨R4, f4, m4⟩ := R3.writeG hM (hv.put (k := i) ((h1.fr f2).fr f3))
    exact ⟨p, _, rfl, .inl ⟨kvs, i, e1, rfl, by rw [← hv.len]; exact hl, rfl⟩, k.nx ρ3 _ B3 σ _ R4 (((f1.trans f2).trans f3).trans f4) q3⟩⟩
/-- d[k] += v, of numbers -/
def dAugG (ta' tb' tc' : TED) (g : Int → Int → Int) : TSD := fun D ρ M => ta' ρ M fun d ρ1 M1 => tb' ρ1 M1 fun e ρ2 M2 => ∃ p es k i, d = .ref p ∧ M2 p = some (.dg es) ∧ keyD e = some k ∧ getG es k = some (.int i) ∧
  tc' ρ2 M2 fun f ρ3 M3 => ∃ j fs, f = .int j ∧ M3 p = some (.dg fs) ∧ fs.length < sizeLine ∧ D.nx ρ3 (addM M3 p (.dg (putG fs k (.int (g i j)))))
theorem ds_augG {tpos : Pos} {op : Operator} {rd : V → V → Hp → VK → Prop} {g : Int → Int → Int} (hu : X.A.units + 1 < cLine) (ha : DB X K a ta ta') (hb : DB X K b tb tb') (hc : DE X K c tc tc') (hop : InOp X op rd) (hg : ∀ i j H (Q : VK), Q (.int (g i j)) H → rd (.int i) (.int j) H Q)
    (hs : ∀ ov iv new, augStore b ov iv new = (do holding [new, ov, iv] (setItem ov iv new); release [new, ov, iv] []; pure .next)) : DS X K (.AugAssign (.Subscript a b tpos) op c pos) (sDAug ta tb tc rd) (dAugG ta' tb' tc' g) :=
  ⟨ps_daug hu ha.pe hb.pe hc.pe hop hs, fun A B M ρ σ H E D r q k => ha.sim A B M ρ σ H _ _ r q fun d ρ1 M1 B1 v H1 R1 f1 m1 h1 q1 => hb.sim A B1 M1 ρ1 σ H1 _ _ R1 q1 fun e ρ2 M2 B2 u H2 R2 f2 m2 h2 q2 => by
    obtain ⟨p, es, i, x, rfl, hM, hk, hgx, q2⟩ := q2
    obtain rfl := h1.refM
    obtain rfl := keyD_kVB hk h2
    obtain ⟨kvs, e1, hv⟩ := R2.ob p _ hM
    obtain ⟨w, ew, hw⟩ := hv.get hgx
    cases hw
    refine ⟨p, _, rfl, .inl ⟨kvs, i, .inl e1, rfl, ew.symm⟩, hc.sim A B2 M2 ρ2 σ H2 _ _ R2 q2 fun f ρ3 M3 B3 z H3 R3 f3 m3 h3 q3 => ?_⟩
    obtain ⟨j, fs, rfl, hM3, hl, q3⟩ := q3
    cases h3
    obtain ⟨kvs3, e3, hv3⟩ := R3.ob p _ hM3
    obtain ⟨R4, f4, m4⟩ := R3.writeG hM3 (hv3.put (k := i) (d := .int (g x j)) (.int _))
    exact hg _ _ _ _ ⟨_, .inl ⟨kvs3, i, e3, rfl, by rw [← hv3.len]; exact hl, rfl⟩, k.nx ρ3 _ B3 σ _ R4 (((f1.trans f2).trans f3).trans f4) q3⟩⟩
end
end DM

/-! ### dicts as data: copies, sorted; displays with texts as keys -/
namespace DM
open PySem PySem.Spec PyProof.Rows L2 TK
variable [Gd]
section
variable {K : PySem.W.Frag} {X : Cx} {ta : TE} {ta' : TED} {e : Expr} {x : Str} {p pos : Pos}
theorem HdB.dict {A : CA} {B : Nat → Option Addr} {M : Mm} {H : Hp} {ks : List Key} {ds : List D} {v : V} (h : HdB K A B M H (.dK ks ds) v) : ∃ a vs, v = .ref a ∧ H a = some (.dK (ks.zip vs)) ∧ ks.length = vs.length ∧ HdL K (Av A B M) H ds vs := by
  rcases h with h | ⟨_, _, _, e, _⟩
  · cases h with
    | dK n e hl l => exact ⟨_, _, rfl, e, hl, l⟩
  · cases e
/-- dict(d) -/
def dDictOf (ta' : TED) : TED := fun ρ M Q => ta' ρ M fun d ρ1 M1 => ∃ ks ds, d = .dK ks ds ∧ Q (.dK ks ds) ρ1 M1
theorem de_dictOf (hg : Gl X x) (hm : X.mg x = none) (hv : bootBuiltins x = some (.type "dict")) (ha : DB X K e ta ta')
    (hs : starEach [e] X.env = (false, eval e X.env) :: starEach [] X.env := by rfl) (hn : x ≠ "__name__" := by decide) (hdb : (x == ("__debug__" : Str)) = false := by decide) :
    DE X K (.Call (.Name x p) [e] [] pos) (tCB (fun xs H Q => ∃ (a : Addr) (kvs : List (Key × V)), xs = [.ref a] ∧ Rd H a (.dK kvs) ∧ ∀ p, H p = none → Q (.ref p) (upd H p (.dK kvs))) (tCons ta tNil)) (dDictOf ta') :=
  ⟨pe_callTy call_dictD hg hm hv (pa_cons ha.pe pa_nil hs) hn hdb hs rfl, fun A B M ρ σ H Q Q' r q kk => ha.sim A B M ρ σ H _ _ r q fun d ρ1 M1 B1 v H1 R1 f1 m1 h1 q1 => by
    obtain ⟨ks, ds, rfl, q1⟩ := q1
    obtain ⟨a, vs, rfl, e1, hl, l⟩ := h1.dict
    refine ⟨a, _, rfl, .inl e1, fun b hb => ?_⟩
    obtain ⟨R2, f2, m2, np, _⟩ := R1.new (o := .dK (ks.zip vs)) hb
    exact kk _ ρ1 M1 B1 _ _ R2 (f1.trans f2) (m1.trans m2) (.dK np upd_same hl (l.fr f2)) q1⟩
/-- sorted(d), d with whole numbers as keys -/
def dSortDK (ta' : TED) : TEN := fun ρ M Q => ta' ρ M fun d ρ1 M1 => ∃ (is : List Int) (ds : List D), d = .dK (is.map .inl) ds ∧ is.length < 64 ∧ ∀ ms : List Int, ms.Perm is → ms.Pairwise (· ≤ ·) → Q (ms.map .int) ρ1 M1
theorem dn_sortDK (hc : X.calm = true) (hg : Gl X x) (hm : X.mg x = none) (hv : bootBuiltins x = some (.builtin "sorted")) (ha : DB X K e ta ta')
    (hs : starEach [e] X.env = (false, eval e X.env) :: starEach [] X.env := by rfl) (hn : x ≠ "__name__" := by decide) (hdb : (x == ("__debug__" : Str)) = false := by decide) : DN X K (.Call (.Name x p) [e] [] pos) (tCB rSortDI (tCons ta tNil)) (dSortDK ta') :=
  ⟨pe_callB (call_sortedDI hc) hg hm hv (pa_cons ha.pe pa_nil hs) hn hdb hs rfl, fun A B M ρ σ H Q Q' r q kk => ha.sim A B M ρ σ H _ _ r q fun d ρ1 M1 B1 v H1 R1 f1 m1 h1 q1 => by
    obtain ⟨is, ds, rfl, h64, q1⟩ := q1
    obtain ⟨a, vs, rfl, e1, hl, l⟩ := h1.dict
    refine ⟨a, _, is, rfl, .inl e1, ?_, h64, fun ys b h1 h2 hb => ?_⟩
    · rw [List.map_fst_zip]
      rw [hl]
      exact Nat.le_refl _
    · obtain ⟨B2, R2, f2, m2, hb2, h3⟩ := R1.newOwn (ds := ys.map .int) hb .ofInts
      exact kk _ ρ1 M1 B2 b _ _ R2 (f1.trans f2) (m1.trans m2) hb2 upd_same h3 (q1 ys h1 h2)⟩
/-- {'..': i, ..}, to be written -/
def trsC (es : List (Str × Int)) : List (TE × TE) := es.map fun p => (tC (.str p.1), tC (.int p.2))
theorem pairs_c : ∀ (es : List (Str × Int)) (σ : L2.St) (H : Hp) (Q : List (V × V) → Hp → Prop), Q (es.map fun p => (.str p.1, .int p.2)) H → tPairs (trsC es) σ H Q
  | [], _, _, _, q => q
  | p :: es, σ, H, Q, q => pairs_c es σ H _ q
def mergeG (es more : List (Key × D)) : List (Key × D) := more.foldl (fun acc p => putG acc p.1 p.2) es
theorem KvD.merge {Av : Addr → Prop} {H : Hp} : ∀ (ms : List (Str × Int)) {es : List (Key × D)} {kvs : List (Key × V)}, KvD K Av H es kvs → KvD K Av H (mergeG es (ms.map fun p => (.inr p.1, .int p.2))) (mergeK kvs (ms.map fun p => (.inr p.1, .int p.2)))
  | [], _, _, h => h
  | m :: ms, _, _, h => KvD.merge ms (h.put (.int m.2))
def dDispG (es : List (Str × Int)) : TED := fun ρ M Q => ∀ p, M p = none → Q (.ref p) ρ (addM M p (.dg (mergeG [] (es.map fun p => (.inr p.1, .int p.2)))))
theorem de_dispG (es : List (Str × Int)) {keys : List (Option Expr)} {values : List Expr} (h : PPs X pos keys values (trsC es)) (hn : es.length ≤ 15 := by decide) (hall : keys.all (·.isSome) = true := by rfl) (hl : keys.length = values.length := by rfl) (h0 : keys ≠ [] := by simp) (h15 : keys.length ≤ 15 := by exact Nat.le_of_ble_eq_true rfl) :
    DE X K (.Dict keys values pos) (tDisp (trsC es)) (dDispG es) := ⟨pe_disp h hall hl h0 h15, fun A B M ρ σ H Q Q' r q kk => fun p hp => by
  refine pairs_c es _ _ _ ⟨upd_same, es.map fun p => (.inr p.1, .int p.2), ?_, by rw [List.length_map]; exact hn, ?_⟩
  · rw [List.map_map]; rfl
  · rw [upd_upd]
    obtain ⟨R2, f2, m2, mp⟩ := r.newM (o := .dK (mergeK [] (es.map fun p => (.inr p.1, .int p.2)))) (mo := .dg (mergeG [] (es.map fun p => (.inr p.1, .int p.2)))) hp ⟨_, upd_same, KvD.merge es .nil⟩
    exact kk _ ρ _ B _ _ R2 f2 m2 (.ref p) (q p mp)⟩
end
end DM
/-! {k: v, ..} of any values, to be written -/
namespace DM
open PySem PySem.Spec PyProof.Rows L2 TK
inductive PsD (K : PySem.W.Frag) (Av : Addr → Prop) (H : Hp) : List (D × D) → List (V × V) → Prop
  | nil : PsD K Av H [] []
  | cons {a b : D} {x y : V} {ps : List (D × D)} {vs : List (V × V)} : Hd K Av H a x → Hd K Av H b y → PsD K Av H ps vs → PsD K Av H ((a, b) :: ps) ((x, y) :: vs)
def keysD : List (D × D) → Option (List (Key × D))
  | [] => some []
  | p :: ps => match keyD p.1, keysD ps with
    | some k, some r => some ((k, p.2) :: r)
    | _, _ => none
theorem PsD.keys {K : PySem.W.Frag} {Av : Addr → Prop} {H : Hp} {ps : List (D × D)} {vs : List (V × V)} (h : PsD K Av H ps vs) : ∀ {es : List (Key × D)}, keysD ps = some es → ∃ kvs, vs = kvs.map (fun kv => (kV kv.1, kv.2)) ∧ kvs.length = ps.length ∧ KvD K Av H es kvs := by
  induction h with
  | nil => intro es e; cases e; exact ⟨[], rfl, rfl, .nil⟩
  | @cons a b x y ps vs ha hb t ih =>
    intro es e
    unfold keysD at e
    cases h1 : keyD a with
    | none => simp only [h1] at e; cases e
    | some k =>
      cases h2 : keysD ps with
      | none => simp only [h1, h2] at e; cases e
      | some r =>
        simp only [h1, h2] at e
        cases e
        obtain ⟨kvs, rfl, hl, hk⟩ := ih h2
        obtain rfl := keyD_kV h1 ha
        exact ⟨(k, y) :: kvs, rfl, by rw [List.length_cons, List.length_cons, hl], .cons hb hk⟩
theorem KvD.mergeA {K : PySem.W.Frag} {Av : Addr → Prop} {H : Hp} {ms : List (Key × D)} {ws : List (Key × V)} (g : KvD K Av H ms ws) : ∀ {es : List (Key × D)} {kvs : List (Key × V)}, KvD K Av H es kvs → KvD K Av H (mergeG es ms) (mergeK kvs ws) := by
  induction g with
  | nil => intro es kvs h; exact h
  | cons a _ ih => intro es kvs h; exact ih (h.put a)
variable [Gd]
abbrev TPD := Env → Mm → (List (D × D) → Env → Mm → Prop) → Prop
structure DPs (X : Cx) (K : PySem.W.Frag) (pos : Pos) (keys : List (Option Expr)) (values : List Expr) (trs : List (TE × TE)) (t' : TPD) : Prop where
  pps : PPs X pos keys values trs
  sim : ∀ (A : CA) B M ρ σ H Q Q', ER K A B M ρ σ H → t' ρ M Q' →
    (∀ ps ρ' M' B' vs H', ER K A B' M' ρ' σ H' → Fr (Av A B M) (Av A B' M') H H' → FrM M M' H H' → PsD K (Av A B' M') H' ps vs → Q' ps ρ' M' → Q vs H') → tPairs trs σ H Q
section
variable {X : Cx} {K : PySem.W.Frag} {pos : Pos} {keys : List (Option Expr)} {values : List Expr} {trs : List (TE × TE)} {t' : TPD} {k v : Expr} {tk tv : TE} {tk' tv' : TED}
theorem PsD.fr {Av Av' : Addr → Prop} {H H' : Hp} (f : Fr Av Av' H H') {ps : List (D × D)} {vs : List (V × V)} (h : PsD K Av H ps vs) : PsD K Av' H' ps vs := by
  induction h with
  | nil => exact .nil
  | cons a b _ ih => exact .cons (a.fr f) (b.fr f) ih
def dpNil : TPD := fun ρ M Q => Q [] ρ M
def dpCons (tk' tv' : TED) (t' : TPD) : TPD := fun ρ M Q => tk' ρ M fun a ρ1 M1 => tv' ρ1 M1 fun b ρ2 M2 => t' ρ2 M2 fun ps ρ3 M3 => Q ((a, b) :: ps) ρ3 M3
theorem dps_nil : DPs X K pos [] [] [] dpNil := ⟨pps_nil, fun A B M ρ σ H Q Q' r q kk => kk [] ρ M B [] H r .refl .refl .nil q⟩
theorem dps_cons (hk : DE X K k tk tk') (hv : DE X K v tv tv') (hr : DPs X K pos keys values trs t') : DPs X K pos (some k :: keys) (v :: values) ((tk, tv) :: trs) (dpCons tk' tv' t') :=
  ⟨pps_cons hk.pe hv.pe hr.pps, fun A B M ρ σ H Q Q' r q kk => hk.sim A B M ρ σ H _ _ r q fun a ρ1 M1 B1 x H1 R1 f1 m1 h1 q1 => hv.sim A B1 M1 ρ1 σ H1 _ _ R1 q1 fun b ρ2 M2 B2 y H2 R2 f2 m2 h2 q2 => hr.sim A B2 M2 ρ2 σ H2 _ _ R2 q2 fun ps ρ3 M3 B3 vs H3 R3 f3 m3 h3 q3 =>
    kk _ ρ3 M3 B3 _ H3 R3 ((f1.trans f2).trans f3) ((m1.trans m2).trans m3) (.cons (h1.fr (f2.trans f3)) (h2.fr f3) h3) q3⟩
def dDispA (t' : TPD) : TED := fun ρ M Q => ∀ p, M p = none → t' ρ (addM M p (.dg [])) fun ps ρ1 M1 => ∃ es, keysD ps = some es ∧ ps.length ≤ 15 ∧ M1 p = some (.dg []) ∧ Q (.ref p) ρ1 (addM M1 p (.dg (mergeG [] es)))
theorem de_dispA (h : DPs X K pos keys values trs t') (hall : keys.all (·.isSome) = true := by rfl) (hl : keys.length = values.length := by rfl) (h0 : keys ≠ [] := by simp) (h15 : keys.length ≤ 15 := by exact Nat.le_of_ble_eq_true rfl) :
    DE X K (.Dict keys values pos) (tDisp trs) (dDispA t') := ⟨pe_disp h.pps hall hl h0 h15, fun A B M ρ σ H Q Q' r q kk => fun p hp => by
  obtain ⟨R1, f1, m1, mp⟩ := r.newM (o := .dK []) (mo := .dg []) hp ⟨[], upd_same, .nil⟩
  refine h.sim A B _ ρ σ _ _ _ R1 (q p mp) fun ps ρ2 M2 B2 vs H2 R2 f2 m2 h2 q2 => ?_
  obtain ⟨es, ek, hn, hM, q2⟩ := q2
  obtain ⟨kvs0, e0, hv0⟩ := R2.ob p _ hM
  cases hv0
  obtain ⟨kvs, rfl, hkl, hk⟩ := h2.keys ek
  obtain ⟨R3, f3, m3⟩ := R2.writeG hM (KvD.mergeA hk .nil)
  exact ⟨e0, kvs, rfl, by omega, kk (.ref p) ρ2 _ B2 _ _ R3 ((f1.trans f2).trans f3) ((m1.trans m2).trans m3) (.ref p) q2⟩⟩
end
end DM

/-! ### dicts that stay as they are: {} , dict(d), read, gone through -/
namespace DM
open PySem PySem.Spec PyProof.Rows L2 TK
/-- a new dict, never to be written: its very object is known -/
def tNewF : TE := fun _ H Q => ∀ p od, H p = none → Q (.ref p) (upd H p (.frz od (.dK [])))
section
variable {X : Cx} {pos : Pos}
theorem pe_newF : PE X (.Dict [] [] pos) tNewF := ⟨fun pins s σ H Q I h => by
  have hn := I.hok.fresh (Nat.le_refl s.heap.objs.size)
  refine wpAny_Dict_empty ?_
  have I1 := I.laid (a := s.heap.objs.size) (o := .dK []) (h' := s.heap.push { cls := .type "dict", data := .dict #[] }) (t' := s.toks) (fun _ _ q => Heap.get?_push_of_some _ q) (Nat.le_refl _) (dk_empty s.heap I.big)
  obtain ⟨od, I2⟩ := I1.lock (d := s.heap.objs.size) (u := .dK []) upd_same True.intro
  rw [upd_upd] at I2
  exact ⟨.ref s.heap.objs.size, _, I2, rfl, h _ od hn⟩⟩
end
variable [Gd]
section
variable {K : PySem.W.Frag} {X : Cx} {ta : TE} {ta' : TED} {e : Expr} {x : Str} {p pos : Pos}
theorem de_newF : DE X K (.Dict [] [] pos) tNewF (dC (.fK [] [])) := ⟨pe_newF, fun A B M ρ σ H Q Q' r q kk => fun p od hp => by
  obtain ⟨R2, f2, m2, np, _⟩ := r.new (o := .frz od (.dK [])) hp
  exact kk _ ρ M B _ _ R2 f2 m2 (.fK (vs := []) np upd_same rfl .nil) q⟩
theorem HdB.fdict {A : CA} {B : Nat → Option Addr} {M : Mm} {H : Hp} {ks : List Key} {ds : List D} {v : V} (h : HdB K A B M H (.fK ks ds) v) : ∃ a od vs, v = .ref a ∧ H a = some (.frz od (.dK (ks.zip vs))) ∧ ks.length = vs.length ∧ HdL K (Av A B M) H ds vs := by
  rcases h with h | ⟨_, _, _, e, _⟩
  · cases h with
    | fK n e hl l => exact ⟨_, _, _, rfl, e, hl, l⟩
  · cases e
theorem Hd.fdict {Av : Addr → Prop} {H : Hp} {ks : List Key} {ds : List D} {v : V} (h : Hd K Av H (.fK ks ds) v) : ∃ a od vs, v = .ref a ∧ ¬ Av a ∧ H a = some (.frz od (.dK (ks.zip vs))) ∧ ks.length = vs.length ∧ HdL K Av H ds vs := by
  cases h with
  | fK n e hl l => exact ⟨_, _, _, rfl, n, e, hl, l⟩
/-- sorted(d), d with whole numbers as keys -/
def dSortFK (ta' : TED) : TEN := fun ρ M Q => ta' ρ M fun d ρ1 M1 => ∃ (is : List Int) (ds : List D), d = .fK (is.map .inl) ds ∧ is.length < 64 ∧ ∀ ms : List Int, ms.Perm is → ms.Pairwise (· ≤ ·) → Q (ms.map .int) ρ1 M1
theorem dn_sortFK (hc : X.calm = true) (hg : Gl X x) (hm : X.mg x = none) (hv : bootBuiltins x = some (.builtin "sorted")) (ha : DB X K e ta ta')
    (hs : starEach [e] X.env = (false, eval e X.env) :: starEach [] X.env := by rfl) (hn : x ≠ "__name__" := by decide) (hdb : (x == ("__debug__" : Str)) = false := by decide) : DN X K (.Call (.Name x p) [e] [] pos) (tCB rSortDI (tCons ta tNil)) (dSortFK ta') :=
  ⟨pe_callB (call_sortedDI hc) hg hm hv (pa_cons ha.pe pa_nil hs) hn hdb hs rfl, fun A B M ρ σ H Q Q' r q kk => ha.sim A B M ρ σ H _ _ r q fun d ρ1 M1 B1 v H1 R1 f1 m1 h1 q1 => by
    obtain ⟨is, ds, rfl, h64, q1⟩ := q1
    obtain ⟨a, od, vs, rfl, e1, hl, l⟩ := h1.fdict
    refine ⟨a, _, is, rfl, .inr ⟨od, e1⟩, ?_, h64, fun ys b h1 h2 hb => ?_⟩
    · rw [List.map_fst_zip]
      rw [hl]
      exact Nat.le_refl _
    · obtain ⟨B2, R2, f2, m2, hb2, h3⟩ := R1.newOwn (ds := ys.map .int) hb .ofInts
      exact kk _ ρ1 M1 B2 b _ _ R2 (f1.trans f2) (m1.trans m2) hb2 upd_same h3 (q1 ys h1 h2)⟩
/-- dict(d): once more one that stays -/
def rDictF : List V → Hp → VK → Prop := fun xs H Q => ∃ (a : Addr) (kvs : List (Key × V)), xs = [.ref a] ∧ Rd H a (.dK kvs) ∧ ∀ p od, H p = none → Q (.ref p) (upd H p (.frz od (.dK kvs)))
theorem call_dictF : CallR X (.type "dict") rDictF := by
  intro pins s σ H xs us Q I r h
  obtain ⟨a, kvs, rfl, hd, q⟩ := h
  refine wpAny_mono (call_dictD pins s σ H _ us (fun v H' => ∃ p, v = .ref p ∧ H p = none ∧ H' = upd H p (.dK kvs)) I r ⟨a, kvs, rfl, hd, fun p hp => ⟨p, rfl, hp, rfl⟩⟩) (fun u s1 ⟨v, H1, I1, rv, p, ev, hp, eH⟩ => ?_) (fun _ _ e => e)
  subst ev eH
  obtain ⟨od, I2⟩ := I1.lock (d := p) (u := .dK kvs) upd_same True.intro
  rw [upd_upd] at I2
  exact ⟨.ref p, _, I2, rv, q p od hp⟩
def dDictF (ta' : TED) : TED := fun ρ M Q => ta' ρ M fun d ρ1 M1 => ∃ ks ds, d = .fK ks ds ∧ Q (.fK ks ds) ρ1 M1
theorem de_dictF (hg : Gl X x) (hm : X.mg x = none) (hv : bootBuiltins x = some (.type "dict")) (ha : DB X K e ta ta')
    (hs : starEach [e] X.env = (false, eval e X.env) :: starEach [] X.env := by rfl) (hn : x ≠ "__name__" := by decide) (hdb : (x == ("__debug__" : Str)) = false := by decide) :
    DE X K (.Call (.Name x p) [e] [] pos) (tCB rDictF (tCons ta tNil)) (dDictF ta') :=
  ⟨pe_callTy call_dictF hg hm hv (pa_cons ha.pe pa_nil hs) hn hdb hs rfl, fun A B M ρ σ H Q Q' r q kk => ha.sim A B M ρ σ H _ _ r q fun d ρ1 M1 B1 v H1 R1 f1 m1 h1 q1 => by
    obtain ⟨ks, ds, rfl, q1⟩ := q1
    obtain ⟨a, od, vs, rfl, e1, hl, l⟩ := h1.fdict
    refine ⟨a, _, rfl, .inr ⟨od, e1⟩, fun b od2 hb => ?_⟩
    obtain ⟨R2, f2, m2, np, _⟩ := R1.new (o := .frz od2 (.dK (ks.zip vs))) hb
    exact kk _ ρ1 M1 B1 _ _ R2 (f1.trans f2) (m1.trans m2) (.fK np upd_same hl (l.fr f2)) q1⟩
/-- what is not reached -/
theorem pe_never {e : Expr} : PE X e (fun _ _ _ => False) := ⟨fun _ _ _ _ _ _ h => h.elim⟩
theorem de_never {e : Expr} : DE X K e (fun _ _ _ => False) (fun _ _ _ => False) := ⟨pe_never, fun _ _ _ _ _ _ _ _ _ q _ => q.elim⟩
end
end DM

/-! ### going through a dict that stays as it is -/
namespace DM
open PySem PySem.Spec PyProof.Rows L2 TK
variable [Gd]
def kD : Key → D
  | .inl i => .int i
  | .inr x => .str x
theorem hd_kD {K : PySem.W.Frag} {Av : Addr → Prop} {H : Hp} (k : Key) : Hd K Av H (kD k) (kV k) := by
  cases k with
  | inl i => exact .int i
  | inr x => exact .str x
section
variable {K : PySem.W.Frag} {X : Cx} {tg e : Expr} {te : TE} {te' : TED} {apos cpos : Pos}
theorem itIs_keys {Av : Addr → Prop} {H : Hp} {a : Addr} {od : Obj} {ks : List Key} {vs : List V} (n : ¬ Av a) (h : H a = some (.frz od (.dK (ks.zip vs)))) (hl : ks.length = vs.length) : ItIs K (Itk a od (ks.zip vs)) (ks.map kD) Av H := by
  have len : (ks.zip vs).length = ks.length := by rw [List.length_zip, hl, Nat.min_self]
  refine ⟨fun Av1 H1 f i hi => ⟨(f _ _ n h).1, by rw [len]; rw [List.length_map] at hi; exact hi⟩, fun Av1 H1 f => ⟨(f _ _ n h).1, by rw [len, List.length_map]; exact Nat.le_refl _⟩, fun Av1 H1 f i d x H' hi y => ?_⟩
  obtain ⟨rfl, k, v, hk, rfl⟩ := y
  have hk2 : ks[i]? = some k := by
    have := congrArg (Option.map Prod.fst) hk
    rw [← List.getElem?_map, List.map_fst_zip (by rw [hl]; exact Nat.le_refl _)] at this
    exact this
  rw [List.getElem?_map, hk2] at hi
  cases hi
  exact .inl ⟨rfl, hd_kD k⟩
def diKeys (te' : TED) : TID := fun ρ M Q => te' ρ M fun d ρ1 M1 => ∃ ks ds, d = .fK ks ds ∧ Q (ks.map kD) ρ1 M1
theorem di_keys (he : DE X K e te te') : DI X K tg e (iKeys te) (diKeys te') :=
  ⟨pi_keys he.pe, fun A B M ρ σ H R Q' r q k => he.sim A B M ρ σ H _ _ r q fun d ρ1 M1 B1 v H1 r1 f1 m1 hd q1 => by
    obtain ⟨ks, ds, rfl, q1⟩ := q1
    obtain ⟨a, od, vs, rfl, n, e1, hl, l⟩ := hd.fdict
    exact ⟨a, od, rfl, .inl ⟨_, e1, k _ ρ1 M1 B1 _ H1 r1 f1 m1 (itIs_keys n e1 hl) q1⟩⟩⟩
theorem itIs_vals {Av : Addr → Prop} {H : Hp} {a : Addr} {od : Obj} {ks : List Key} {vs : List V} {ds : List D} (n : ¬ Av a) (h : H a = some (.frz od (.dK (ks.zip vs)))) (hl : ks.length = vs.length) (l : HdL K Av H ds vs) : ItIs K (Itd a od (ks.zip vs)) ds Av H := by
  have len : (ks.zip vs).length = ds.length := by rw [List.length_zip, hl, Nat.min_self, l.length]
  refine ⟨fun Av1 H1 f i hi => ⟨(f _ _ n h).1, by rw [len]; exact hi⟩, fun Av1 H1 f => ⟨(f _ _ n h).1, by rw [len]; exact Nat.le_refl _⟩, fun Av1 H1 f i d x H' hi y => ?_⟩
  obtain ⟨rfl, k, hk⟩ := y
  have hk2 : vs[i]? = some x := by
    have := congrArg (Option.map Prod.snd) hk
    rw [← List.getElem?_map, List.map_snd_zip (by rw [hl]; exact Nat.le_refl _)] at this
    exact this
  obtain ⟨v, hv, hd⟩ := l.get hi
  rw [hk2] at hv
  cases hv
  exact .inl ⟨rfl, hd.fr f⟩
def diVals (te' : TED) : TID := fun ρ M Q => te' ρ M fun d ρ1 M1 => ∃ ks ds, d = .fK ks ds ∧ Q ds ρ1 M1
theorem di_vals (he : DE X K e te te') (hbase : attributeBase e "values" X.env (eval e X.env) = eval e X.env := by rfl) (hline : (apos.endLine == cpos.line) = true := by rfl) : DI X K tg (.Call (.Attribute e "values" apos) [] [] cpos) (iVals te) (diVals te') :=
  ⟨pi_values he.pe hbase hline, fun A B M ρ σ H R Q' r q k => he.sim A B M ρ σ H _ _ r q fun d ρ1 M1 B1 v H1 r1 f1 m1 hd q1 => by
    obtain ⟨ks, ds, rfl, q1⟩ := q1
    obtain ⟨a, od, vs, rfl, n, e1, hl, l⟩ := hd.fdict
    exact ⟨a, od, _, rfl, e1, k _ ρ1 M1 B1 _ H1 r1 f1 m1 (itIs_vals n e1 hl l) q1⟩⟩
/-- if d: a dict that stays -/
def dTruF (te' : TED) : TTD := fun ρ M Q => te' ρ M fun d ρ1 M1 => ∃ ks ds, d = .fK ks ds ∧ Q (!ks.isEmpty) ρ1 M1
theorem dt_truF (h : DB X K e te te') (he : ∀ whole, isTrue e X.env whole = (do let v ← whole; standAt e.pos; holding [v] (truthy v)) := by intro _; rfl) : DT X K e (fun σ H Q => te σ H fun x H' => ∃ a kvs, x = .ref a ∧ Rd H' a (.dK kvs) ∧ Q (!kvs.isEmpty) H') (dTruF te') := by
  refine ⟨⟨fun pins s σ H Q I hq => ?_⟩, fun A B M ρ σ H Q Q' r q kk => h.sim A B M ρ σ H _ _ r q fun d ρ1 M1 B1 v H1 r1 f1 m1 h1 q1 => ?_⟩
  · exact isTrue_plain (thn (h.pe.run pins s σ H _ I hq) fun v s1 ⟨x, H1, I1, r1, a, kvs, ex, rd, q1⟩ => by
      subst ex
      obtain rfl : v = Value.ref a := r1
      exact d_truth I1 rd fun s' I' => ⟨_, I', q1⟩) (he _)
  · obtain ⟨ks, ds, rfl, q1⟩ := q1
    obtain ⟨a, od, vs, rfl, e1, hl, l⟩ := h1.fdict
    refine ⟨a, _, rfl, .inr ⟨od, e1⟩, ?_⟩
    have : (ks.zip vs).isEmpty = ks.isEmpty := by
      cases ks with
      | nil => rfl
      | cons k ks => cases vs with
        | nil => cases hl
        | cons v vs => rfl
    rw [this]
    exact kk _ ρ1 M1 B1 H1 r1 f1 m1 q1
end
end DM

/-! ### a text in a tuple or list of texts; a tuple that is a constant of the module -/
namespace DM
open PySem PySem.Spec PyProof.Rows L2 TK
variable [Gd]
section
variable {K : PySem.W.Frag} {X : Cx} {x : Str} {pos : Pos}
theorem flat_strs (xs : List Str) : (xs.map V.str).all flatV = true := by
  rw [List.all_eq_true]
  intro v hv
  obtain ⟨s, _, rfl⟩ := List.mem_map.mp hv
  rfl
theorem in_strs (x : Str) (xs : List Str) : inV (.str x) (xs.map V.str) = decide (x ∈ xs) := by
  unfold inV
  rw [List.any_map]
  cases h : decide (x ∈ xs) with
  | true =>
    rw [List.any_eq_true]
    exact ⟨x, of_decide_eq_true h, by show (x == x) = true; simp⟩
  | false =>
    rw [List.any_eq_false]
    intro y hy e
    have e : (y == x) = true := e
    exact absurd (by rw [← beq_iff_eq.mp e]; exact hy) (of_decide_eq_false h)
def dInFS : R2D := fun d e Q => ∃ (x : Str) (xs : List Str), d = .str x ∧ e.itQ = some (xs.map .str) ∧ Q (.bl (decide (x ∈ xs)))
def dNotInFS : R2D := fun d e Q => ∃ (x : Str) (xs : List Str), d = .str x ∧ e.itQ = some (xs.map .str) ∧ Q (.bl (!decide (x ∈ xs)))
theorem o_inFS (hK : X.K = K := by rfl) : OpR X (compareOp .In) (rIn K false) ∧ SimR K (rIn K false) dInFS := by
  subst hK
  refine ⟨op_in_seq, fun A B M H d e x y Q Q' hx hy q k => ?_⟩
  obtain ⟨s, xs, rfl, e2, q⟩ := q
  obtain ⟨a, vs, rfl, hs, l⟩ := hy.its e2
  obtain rfl := l.strs
  refine ⟨a, _, rfl, hs, by rw [hx.str]; rfl, flat_strs xs, k _ _ (.bl _) ?_⟩
  rw [hx.str, in_strs]
  exact q
theorem o_notInFS (hK : X.K = K := by rfl) : OpR X (compareOp .NotIn) (rIn K true) ∧ SimR K (rIn K true) dNotInFS := by
  subst hK
  refine ⟨op_notIn_seq, fun A B M H d e x y Q Q' hx hy q k => ?_⟩
  obtain ⟨s, xs, rfl, e2, q⟩ := q
  obtain ⟨a, vs, rfl, hs, l⟩ := hy.its e2
  obtain rfl := l.strs
  refine ⟨a, _, rfl, hs, by rw [hx.str]; rfl, flat_strs xs, k _ _ (.bl _) ?_⟩
  rw [hx.str, in_strs]
  exact q
/-- the module's name x stands for a tuple of texts -/
structure TupAt (K : PySem.W.Frag) (mg : Str → Option Value) (x : Str) (a : Addr) (xs : List Str) : Prop where
  g : mg x = some (.ref a)
  t : ∃ (o : Obj) (its : Array Value) (n : Nat), K.lookup a = some o ∧ o.cls = .type "tuple" ∧ o.data = .seq its n ∧ its.size ≤ sizeLine ∧ Vals (xs.map V.str) its.toList
theorem ofStrs {Av : Addr → Prop} {H : Hp} : ∀ xs : List Str, HdL K Av H (xs.map D.str) (xs.map V.str)
  | [] => .nil
  | s :: xs => .cons (.str s) (ofStrs xs)
theorem de_gtup {a : Addr} {xs : List Str} (hg : Gl X x) (T : TupAt K X.mg x a xs) (hd : (x == ("__debug__" : Str)) = false := by decide) : DE X K (.Name x pos) (tC (.ref a)) (dC (.kt (xs.map .str))) :=
  ⟨pe_glob hg T.g rfl hd, sim_c fun _ _ => .kt (.inr T.t) (ofStrs xs)⟩
end
end DM
namespace DM
open PySem PySem.Spec PyProof.Rows L2 TK
theorem tupAt_mk {K : PySem.W.Frag} {h : Heap} {mg : Str → Option Value} {x : Str} {a : Addr} {xs : List Str} {od : Option Addr} {its : Array Value} {n : Nat} {sl : Array (Option Value)} (X : K.In h) (G : h.Ns mainGlobals mg) (e : PySem.W.nsIn K mainGlobals x = some (some (.ref a)))
    (l : K.lookup a = some ⟨.type "tuple", od, .seq its n, sl⟩) (v : Vals (xs.map V.str) its.toList) (hz : xs.length ≤ 1000 := by decide) : TupAt K mg x a xs :=
  ⟨PySem.W.mg_of X G e, _, its, n, l, rfl, rfl, by
    have := v.length
    rw [List.length_map] at this
    rw [← Array.length_toList, ← this]
    exact Nat.le_trans hz (Nat.le_of_ble_eq_true rfl), v⟩
end DM

/-! ### dict comprehensions; list(d); making with keywords -/
namespace DM
open PySem PySem.Spec PyProof.Rows L2 TK
variable [Gd]
section
variable {K : PySem.W.Frag} {A : CA} {B : Nat → Option Addr} {M : Mm} {ρ : Env} {σ : L2.St} {H : Hp} {vs : List Nat}
theorem wipe_twice (σ : L2.St) (vs : List Nat) : wipe (wipe σ vs) vs = wipe σ vs := by
  have hh : ∀ us : List Nat, (∀ v ∈ us, v ∈ vs) → wipe (wipe σ vs) us = wipe σ vs := by
    intro us
    induction us with
    | nil => intro _; rfl
    | cons u us ih =>
      intro h
      show (wipe (wipe σ vs) us).set u none = wipe σ vs
      rw [ih fun v hv => h v (List.mem_cons_of_mem _ hv)]
      have hu := h u List.mem_cons_self
      have : ∀ {ws : List Nat}, u ∈ ws → (wipe σ ws).set u none = wipe σ ws := by
        intro ws
        induction ws with
        | nil => intro h; cases h
        | cons w ws ih2 =>
          intro h
          unfold wipe
          by_cases e : u = w
          · subst e; rw [List.set_set]
          · rw [List.set_comm _ _ (Ne.symm e), ih2 ((List.mem_cons.mp h).resolve_left e)]
      exact this hu
  exact hh vs fun v hv => hv
/-- {k: v for .. in .. if ..}: a shared dict -/
def dDcG (wi' : TID) (g' : TGC) (tt' : TTD) (tk' tv' : TED) (vs : List Nat) : TED := fun ρ M Q => wi' ρ M fun ds ρ1 M1 => noOwn ρ1 vs = true ∧ ∀ p, M1 p = none → ∃ Pv : Nat → Mm → Prop, Pv 0 (addM M1 p (.dg [])) ∧
  (∀ i d M, ds[i]? = some d → Pv i M → g' d (wipeD ρ1 vs) fun ρ2 => tt' ρ2 M fun b ρ3 M3 => if b = true then tk' ρ3 M3 fun y ρ4 M4 => tv' ρ4 M4 fun z ρ5 M5 => wipeD ρ5 vs = wipeD ρ1 vs ∧ ∃ es k, keyD y = some k ∧ M5 p = some (.dg es) ∧ es.length < sizeLine ∧ Pv (i + 1) (addM M5 p (.dg (putG es k z))) else wipeD ρ3 vs = wipeD ρ1 vs ∧ Pv (i + 1) M3) ∧
  ∀ M, Pv ds.length M → Q (.ref p) ρ1 M
theorem sim_dcG {wi : TI} {wi' : TID} {g : TG} {g' : TGC} {tt : TT} {tt' : TTD} {tk tv : TE} {tk' tv' : TED} (hi : SimI K wi wi')
    (hg : ∀ (A : CA) (B : Nat → Option Addr) (M : Mm) (ρ : Env) (σ : L2.St) (H : Hp) (d : D) (v : V) (Q' : Env → Prop) (Q : L2.St → Hp → Prop), ER K A B M ρ σ H → Hd K (Av A B M) H d v → g' d ρ Q' →
      (∀ ρ' σ', ER K A B M ρ' σ' H → wipe σ' vs = wipe σ vs → wipeD ρ' vs = wipeD ρ vs → Q' ρ' → Q σ' H) → g v σ H Q)
    (ht : SimT K tt tt') (hk : SimE K tk tk') (he : SimE K tv tv') : SimE K (tDc wi g tt tk tv vs) (dDcG wi' g' tt' tk' tv' vs) := by
  intro A B M ρ σ H Q Q' r q kk
  refine hi A B M ρ σ H _ _ r q fun ds ρ1 M1 B1 J H1 r1 f1 m1 it q1 => ?_
  obtain ⟨w1, q1⟩ := q1
  obtain ⟨r1c, f1c⟩ := r1.can
  intro D hD
  obtain ⟨r2, f2, m2, mp⟩ := r1c.newM (o := .dK []) (mo := .dg []) hD ⟨[], upd_same, .nil⟩
  obtain ⟨Pv, p0, step, done⟩ := q1 D mp
  refine ⟨fun i m H' => m = ds.length - i ∧ i ≤ ds.length ∧ ∃ M', ER K A (canon ρ1 B1) M' ρ1 σ H' ∧ Fr (Av A B1 M1) (Av A (canon ρ1 B1) M') H1 H' ∧ FrM M1 M' H1 H' ∧ Pv i M', ⟨_, rfl, Nat.zero_le _, _, r2, f1c.trans f2, m2, p0⟩, ?_⟩
  rintro i m H' ⟨rfl, hi', M', r', f', m', pv⟩
  by_cases hlt : i < ds.length
  · refine .inr ⟨it.go _ _ f' i hlt, fun H2 => ∃ M2, ER K A (canon ρ1 B1) M2 ρ1 σ H2 ∧ Fr (Av A B1 M1) (Av A (canon ρ1 B1) M2) H1 H2 ∧ FrM M1 M2 H1 H2 ∧ Pv (i + 1) M2, fun H2 h2 => ⟨_, by omega, rfl, hlt, h2⟩, fun x H2 y => ?_⟩
    obtain ⟨r3, f3, m3, hd⟩ := r'.tup (it.yld _ _ f' i _ x H2 (List.getElem?_eq_getElem hlt) y)
    have r3w : ER K A (canon ρ1 B1) M' (wipeD ρ1 vs) (wipe σ vs) H2 := r3.wipe vs
    refine hg _ _ M' (wipeD ρ1 vs) (wipe σ vs) H2 _ x _ _ r3w hd (step i _ M' (List.getElem?_eq_getElem hlt) pv) fun ρ4 σ4 r4 ws wd q4 => ⟨ws.trans (wipe_twice σ vs), ?_⟩
    have owns : ∀ {ρ5 : Env} {B5 : Nat → Option Addr} {M5 : Mm} {H5 : Hp}, ER K A B5 M5 ρ5 σ4 H5 → wipeD ρ5 vs = wipeD ρ1 vs → ∀ j a, canon ρ1 B1 j = some a → ∃ j', B5 j' = some a := fun {ρ5 B5 M5 H5} r5 w5 j a e => by
      obtain ⟨eb, es, eo⟩ := canon_some e
      have nj := noOwn_out w1 eo
      have eo5 := eo
      rw [← wipeD_out nj, ← w5] at eo5
      obtain ⟨e5, _⟩ := wipeD_own eo5
      obtain ⟨v5, ev5, a5, _, hb5, hs5, _, _⟩ := r5.at e5
      obtain ⟨v3, ev3, a3, _, hb3, hs3, _, _⟩ := r3.at eo
      rw [canon_own eo, eb] at hb3
      cases hb3
      have : σ4[j]? = σ[j]? := by
        have h1 : (wipe σ4 vs)[j]? = σ4[j]? := wipe_out nj
        have h2 : (wipe (wipe σ vs) vs)[j]? = σ[j]? := by rw [wipe_out nj, wipe_out nj]
        rw [← h1, ws, h2]
      rw [ev5, ev3] at this
      subst hs5
      subst hs3
      cases this
      exact ⟨j, hb5⟩
    refine ht _ _ M' ρ4 σ4 H2 _ _ r4 q4 fun b ρ5 M5 B5 H5 r5 f5 m5 q5 => ?_
    cases b with
    | false =>
      obtain ⟨w5, p5⟩ := q5
      obtain ⟨r6, f6, f7⟩ := r3.keep r5 f5 m5 (owns r5 w5)
      have fin : ∃ M2, ER K A (canon ρ1 B1) M2 ρ1 σ H5 ∧ Fr (Av A B1 M1) (Av A (canon ρ1 B1) M2) H1 H5 ∧ FrM M1 M2 H1 H5 ∧ Pv (i + 1) M2 :=
        ⟨M5, r6, (f'.trans f3).trans f6, (m'.trans m3).trans m5, p5⟩
      exact fin
    | true =>
      refine hk _ _ M5 ρ5 σ4 H5 _ _ r5 q5 fun y ρ6 M6 B6 v H6 r6 f6 m6 h6 q6 => ?_
      refine he _ _ M6 ρ6 σ4 H6 _ _ r6 q6 fun z ρ7 M7 B7 u H7 r7 f7 m7 h7 q7 => ?_
      obtain ⟨w7, es, k, ek, hM, hl, p7⟩ := q7
      obtain rfl := keyD_kV ek h6
      obtain ⟨r8, f8, f9⟩ := r3.keep r7 ((f5.trans f6).trans f7) ((m5.trans m6).trans m7) (owns r7 w7)
      obtain ⟨kvs, e1, hv⟩ := r8.ob D _ hM
      obtain ⟨r10, f10, m10⟩ := r8.writeG hM (hv.put (k := k) (h7.fr f9))
      have fin : ∃ M2, ER K A (canon ρ1 B1) M2 ρ1 σ (upd H7 D (.dK (putK kvs k u))) ∧ Fr (Av A B1 M1) (Av A (canon ρ1 B1) M2) H1 (upd H7 D (.dK (putK kvs k u))) ∧ FrM M1 M2 H1 (upd H7 D (.dK (putK kvs k u))) ∧ Pv (i + 1) M2 :=
        ⟨_, r10, ((f'.trans f3).trans f8).trans f10, ((m'.trans m3).trans ((m5.trans m6).trans m7)).trans m10, p7⟩
      exact ⟨kvs, k, rfl, e1, by rw [← hv.len]; exact hl, fin⟩
  · have e : i = ds.length := by omega
    subst e
    exact .inl ⟨it.stop _ _ f', kk _ ρ1 M' _ _ H' r' (f1.trans f') (m1.trans m') (.ref D) (done M' pv)⟩
end
section
variable {X : Cx} {K : PySem.W.Frag} {e : Expr} {x : Str} {p pos : Pos}
theorem de_dcG {kx vx tg iter : Expr} {ifs : List Expr} {scope : Scope} {own : List (Str × Nat)} {wi : TI} {wi' : TID} {g : TG} {g' : TGC} {tt : TT} {tt' : TTD} {tk tv : TE} {tk' tv' : TED} (hN : X.N.Nodup) (hi : DI X K tg iter wi wi') (ok : BlkOk X.N X.env.scope scope own)
    (hg : ∀ (s : Shared) (H : Hp) (C : Addr) (cl : List (Str × Addr)) (fp : List Addr), DGc (X.blk s H scope (compEnvC scope cl C X.env) fp) K (own.map (·.2)) tg g g') (ht : ∀ (s : Shared) (H : Hp) (C : Addr) (cl : List (Str × Addr)) (fp : List Addr), DTs (X.blk s H scope (compEnvC scope cl C X.env) fp) K ifs tt tt')
    (hk : ∀ (s : Shared) (H : Hp) (C : Addr) (cl : List (Str × Addr)) (fp : List Addr), DE (X.blk s H scope (compEnvC scope cl C X.env) fp) K kx tk tk')
    (he : ∀ (s : Shared) (H : Hp) (C : Addr) (cl : List (Str × Addr)) (fp : List Addr), DE (X.blk s H scope (compEnvC scope cl C X.env) fp) K vx tv tv') (hc : X.calm = true := by rfl) (hs : ∀ x, foldedSetIterable iter X.env x = pure x := by intro _; rfl) :
    DE X K (.DictComp kx vx [⟨tg, iter, ifs, 0⟩] scope pos) (tDc wi g tt tk tv (own.map (·.2))) (dDcG wi' g' tt' tk' tv' (own.map (·.2))) := by
  refine ⟨pe_dc hc hN hi.pi ok (fun s H C cl fp => (hg s H C cl fp).pg) (fun s H C cl fp => (ht s H C cl fp).pts) (fun s H C cl fp => (hk s H C cl fp).pe) (fun s H C cl fp => (he s H C cl fp).pe) hs, ?_⟩
  exact sim_dcG hi.sim (hg {} (fun _ => none) 0 [] []).sim (ht {} (fun _ => none) 0 [] []).sim (hk {} (fun _ => none) 0 [] []).sim (he {} (fun _ => none) 0 [] []).sim
/-- a new dict, from now on only read -/
def tLock (t : TE) : TE := fun σ H Q => t σ H fun v H' => ∃ p kvs, v = .ref p ∧ H' p = some (.dK kvs) ∧ ∀ od, Q (.ref p) (upd H' p (.frz od (.dK kvs)))
omit [Gd] in theorem pe_lock {t : TE} (h : PE X e t) : PE X e (tLock t) := ⟨fun pins s σ H Q I hq => wpAny_mono (h.run pins s σ H _ I hq) (fun u s1 hx => by
  obtain ⟨v, H1, I1, rv, p, kvs, ev, hp, q⟩ := hx
  subst ev
  obtain ⟨od, I2⟩ := I1.lock (d := p) (u := .dK kvs) hp True.intro
  exact ⟨.ref p, _, I2, rv, q od⟩) (fun _ _ e => e)⟩
def dDcF0 (wi' : TID) : TED := fun ρ M Q => wi' ρ M fun ds ρ1 M1 => ds = [] ∧ Q (.fK [] []) ρ1 M1
theorem de_dcF0 {kx vx tg iter : Expr} {ifs : List Expr} {scope : Scope} {own : List (Str × Nat)} {wi : TI} {wi' : TID} {g : TG} {g' : TGC} {tt : TT} {tt' : TTD} {tk tv : TE} {tk' tv' : TED} (hN : X.N.Nodup) (hi : DI X K tg iter wi wi') (ok : BlkOk X.N X.env.scope scope own)
    (hg : ∀ (s : Shared) (H : Hp) (C : Addr) (cl : List (Str × Addr)) (fp : List Addr), DGc (X.blk s H scope (compEnvC scope cl C X.env) fp) K (own.map (·.2)) tg g g') (ht : ∀ (s : Shared) (H : Hp) (C : Addr) (cl : List (Str × Addr)) (fp : List Addr), DTs (X.blk s H scope (compEnvC scope cl C X.env) fp) K ifs tt tt')
    (hk : ∀ (s : Shared) (H : Hp) (C : Addr) (cl : List (Str × Addr)) (fp : List Addr), DE (X.blk s H scope (compEnvC scope cl C X.env) fp) K kx tk tk')
    (he : ∀ (s : Shared) (H : Hp) (C : Addr) (cl : List (Str × Addr)) (fp : List Addr), DE (X.blk s H scope (compEnvC scope cl C X.env) fp) K vx tv tv') (hc : X.calm = true := by rfl) (hs : ∀ x, foldedSetIterable iter X.env x = pure x := by intro _; rfl) :
    DE X K (.DictComp kx vx [⟨tg, iter, ifs, 0⟩] scope pos) (tLock (tDc wi g tt tk tv (own.map (·.2)))) (dDcF0 wi') := by
  refine ⟨pe_lock (pe_dc hc hN hi.pi ok (fun s H C cl fp => (hg s H C cl fp).pg) (fun s H C cl fp => (ht s H C cl fp).pts) (fun s H C cl fp => (hk s H C cl fp).pe) (fun s H C cl fp => (he s H C cl fp).pe) hs), ?_⟩
  intro A B M ρ σ H Q Q' r q k
  refine hi.sim A B M ρ σ H _ _ r q fun ds ρ1 M1 B1 J H1 r1 f1 m1 it q1 => ?_
  obtain ⟨rfl, q1⟩ := q1
  intro D hD
  refine ⟨fun i m H' => i = 0 ∧ H' = upd H1 D (.dK []), ⟨0, rfl, rfl⟩, ?_⟩
  rintro i m H' ⟨rfl, rfl⟩
  obtain ⟨r2, f2, m2, np, _⟩ := r1.new (o := .dK []) hD
  refine .inl ⟨it.stop _ _ f2, D, [], rfl, upd_same, fun od => ?_⟩
  rw [upd_upd]
  obtain ⟨r3, f3, m3, np3, _⟩ := r1.new (o := .frz od (.dK [])) hD
  exact k _ ρ1 M1 B1 _ _ r3 (f1.trans f3) (m1.trans m3) (.fK (vs := []) np3 upd_same rfl .nil) q1
/-- list(d) of a shared dict -/
def dListG (ta' : TED) : TEN := fun ρ M Q => ta' ρ M fun d ρ1 M1 => ∃ p es, d = .ref p ∧ M1 p = some (.dg es) ∧ Q (es.map fun e => kD e.1) ρ1 M1
omit [Gd] in theorem KvD.keyL {Av : Addr → Prop} {H : Hp} {es : List (Key × D)} {kvs : List (Key × V)} (h : KvD K Av H es kvs) : HdL K Av H (es.map fun e => kD e.1) (kvs.map fun kv => kV kv.1) := by
  induction h with
  | nil => exact .nil
  | cons a _ ih => exact .cons (hd_kD _) ih
theorem dn_listG {ta : TE} {ta' : TED} (hc : X.calm = true) (hg : Gl X x) (hm : X.mg x = none) (hv : bootBuiltins x = some (.type "list")) (ha : DB X K e ta ta')
    (hs : starEach [e] X.env = (false, eval e X.env) :: starEach [] X.env := by rfl) (hn : x ≠ "__name__" := by decide) (hdb : (x == ("__debug__" : Str)) = false := by decide) :
    DN X K (.Call (.Name x p) [e] [] pos) (tCB (fun xs H Q => ∃ (a : Addr) (kvs : List (Key × V)), xs = [.ref a] ∧ Rd H a (.dK kvs) ∧ ∀ p, H p = none → Q (.ref p) (upd H p (.lst (kvs.map fun kv => kV kv.1)))) (tCons ta tNil)) (dListG ta') :=
  ⟨pe_callTy (call_listD hc) hg hm hv (pa_cons ha.pe pa_nil hs) hn hdb hs rfl, fun A B M ρ σ H Q Q' r q kk => ha.sim A B M ρ σ H _ _ r q fun d ρ1 M1 B1 v H1 R1 f1 m1 h1 q1 => by
    obtain ⟨p, es, rfl, hM, q1⟩ := q1
    obtain rfl := h1.refM
    obtain ⟨kvs, e1, hv⟩ := R1.ob p _ hM
    refine ⟨p, kvs, rfl, .inl e1, fun b hb => ?_⟩
    obtain ⟨B2, R2, f2, m2, hb2, h3⟩ := R1.newOwn hb hv.keyL
    exact kk _ ρ1 M1 B2 b _ _ R2 (f1.trans f2) (m1.trans m2) hb2 upd_same h3 q1⟩
end
end DM
/-! making with keyword-only parameters -/
namespace TK
open PySem PySem.Spec PyProof.Rows L2
inductive KC where
  | num (n : Int)
  | none
def KC.v : KC → V
  | .num n => .int n
  | .none => .non
structure MakKAt (K : PySem.W.Frag) (mg : Str → Option Value) (x : Str) (C : Addr) (qual : Str) (st : Stmt) : Prop where
  ex : ∃ (f : Addr) (fd : FuncData), FunD K "__init__" qual (defArgs st) (defBody st) (defScope st) [] [] f fd ∧ Mk K C f ∧ mg x = some (.ref C) ∧ ∃ oc od osl, K.lookup f = some ⟨oc, od, .func fd, osl⟩
structure MakKCal (P : Program) (w : World) (K : PySem.W.Frag) (mg : Str → Option Value) (base : Heap) (x : Str) (C : Addr) (ps : List Str) (k : Nat) (sp : Sp) : Prop where
  ex : ∃ (f : Addr) (fd : FuncData), FnOk P w K mg base (L2.CX P w) k f fd ps sp ∧ Mk K C f ∧ mg x = some (.ref C) ∧ ∃ oc od osl, K.lookup f = some ⟨oc, od, .func fd, osl⟩
/-- C(e, .., k = v, ..): n places, the names ks, the defaults ms that lack; π puts places, defaults, named ones in the parameters' order -/
structure KSh (K : PySem.W.Frag) (C : Addr) (ps : List Str) (n : Nat) (ks : List Str) (π : List Nat) (ms : List KC) : Prop where
  ex : ∃ (f : Addr) (fd : FuncData) (mv : List Value), PySem.W.findIn K (.ref C) "__init__" = some (some (.ref f)) ∧ (∃ oc od osl, K.lookup f = some ⟨oc, od, .func fd, osl⟩) ∧ KBn K fd ps (n + 1) ks (fun us ws => pick π (us ++ (mv ++ ws))) (fun vs zs => pick π (vs ++ (ms.map KC.v ++ zs)))
inductive Kws (K : PySem.W.Frag) (D : Addr) : List (Str × KC) → Prop
  | nil : Kws K D []
  | num {x : Str} {n : Int} {t : Tok} {r : List (Str × KC)} : PySem.W.nsIn K D x = some (some (.int n t)) → Kws K D r → Kws K D ((x, .num n) :: r)
  | none {x : Str} {r : List (Str × KC)} : PySem.W.nsIn K D x = some (some .none) → Kws K D r → Kws K D ((x, .none) :: r)
theorem Kws.all {K : PySem.W.Frag} {D : Addr} {r : List (Str × KC)} (h : Kws K D r) : ∀ q ∈ r.map (fun p => (p.1, p.2.v)), ∃ u, PySem.W.nsIn K D q.1 = some (some u) ∧ RelV q.2 u := by
  induction h with
  | nil => intro q hq; cases hq
  | num a _ ih =>
    intro q hq
    rcases List.mem_cons.mp hq with rfl | hq
    · exact ⟨_, a, (⟨_, rfl⟩ : L2.RelV (V.int _) _)⟩
    · exact ih q hq
  | none a _ ih =>
    intro q hq
    rcases List.mem_cons.mp hq with rfl | hq
    · exact ⟨_, a, (rfl : L2.RelV V.non Value.none)⟩
    · exact ih q hq
theorem makKAt_mk {K : PySem.W.Frag} {mg : Str → Option Value} {x qual : Str} {st : Stmt} {f C : Addr} {oc : Value} {od an : Option Addr} {osl : Array (Option Value)} {kV doc pm cdv ct : Value} (g : ClsAt K mg x C) (m : PySem.W.makesIn K C = true)
    (a : PySem.W.findIn K (.ref C) "__init__" = some (some (.ref f)))
    (l : K.lookup f = some ⟨oc, od, .func (PySem.W.fnOf "__init__" qual (defArgs st) (defBody st) (defScope st) .none kV doc pm an cdv ct), osl⟩)
    (cd : PySem.W.codeIn K cdv qual = true) (k : PySem.W.keepIn K (.ref C) = true) (kf : PySem.W.keepIn K (.ref f) = true) (fn : PySem.W.isFn K (.ref f) = true) : MakKAt K mg x C qual st :=
  ⟨f, _, ⟨⟨_, _, _, _, _, _, _, _, _, _, rfl, l, cd, .inl ⟨rfl, rfl⟩, .inl rfl⟩, kf⟩, ⟨m, a, fn, k⟩, g.g, _, _, _, l⟩
theorem ksh_mk {K : PySem.W.Frag} {mg : Str → Option Value} {x qual : Str} {st : Stmt} {ps : List Str} {n : Nat} {ks : List Str} {π : List Nat} {ms : List (Str × KC)} {f C D : Addr} {oc : Value} {od an : Option Addr} {osl : Array (Option Value)} {doc pm cdv ct : Value} (g : ClsAt K mg x C)
    (a : PySem.W.findIn K (.ref C) "__init__" = some (some (.ref f)))
    (l : K.lookup f = some ⟨oc, od, .func (PySem.W.fnOf "__init__" qual (defArgs st) (defBody st) (defScope st) .none (.ref D) doc pm an cdv ct), osl⟩)
    (cd : PySem.W.codeIn K cdv qual = true) (kf : PySem.W.keepIn K (.ref f) = true) (kw : Kws K D ms)
    (b : ∀ (D : Addr) (doc pm : Value) (an : Option Addr) (cdv ct : Value) (us mv ws : List Value), us.length = n + 1 → mv.length = ms.length → ws.length = ks.length →
      KwChain D ((ms.map (·.1)).zip mv) (bindArgs (PySem.W.fnOf "__init__" qual (defArgs st) (defBody st) (defScope st) .none (.ref D) doc pm an cdv ct) ⟨us, ks.zip ws⟩) (ps.zip (pick π (us ++ (mv ++ ws)))))
    (hm : ms ≠ [] := by decide) : KSh K C ps n ks π (ms.map (·.2)) := by
  have F : FunD K "__init__" qual (defArgs st) (defBody st) (defScope st) [] (ms.map fun p => (p.1, p.2.v)) f (PySem.W.fnOf "__init__" qual (defArgs st) (defBody st) (defScope st) .none (.ref D) doc pm an cdv ct) :=
    ⟨⟨_, _, _, _, _, _, _, _, _, _, rfl, l, cd, .inl ⟨rfl, rfl⟩, .inr ⟨D, rfl, kw.all⟩⟩, kf⟩
  obtain ⟨mv, hb⟩ := F.kbinds0 (ps := ps) (n + 1) ks (ms.map fun p => (p.1, p.2.v)) (fun vs mz zs => pick π (vs ++ (mz ++ zs))) (fun z => hm (List.map_eq_nil_iff.mp z)) (fun q hq => hq) (fun a b c => pick_vals (a.append (b.append c)))
    (fun D doc pm an cdv ct us mv ws h1 h2 h3 => by
      have := b D doc pm an cdv ct us mv ws h1 (by rw [h2, List.length_map]) h3
      rw [List.map_map]
      exact this)
  refine ⟨f, _, mv, a, ⟨_, _, _, l⟩, ?_⟩
  have e : (ms.map (·.2)).map KC.v = (ms.map fun p => (p.1, p.2.v)).map (·.2) := by rw [List.map_map, List.map_map]; rfl
  rw [e]
  exact hb
def tMakKS (C : Addr) (n m : Nat) (sp : Sp) (π : List Nat) (ms : List KC) (E : L2.St → XK) (t tk : TA) : TE := fun σ H Q => t σ H fun vs H1 => tk σ H1 fun zs H2 => vs.length = n ∧ zs.length = m ∧ ∀ x dx, H2 x = none → H2 dx = none → dx ≠ x →
  sp (pick π (.ref x :: vs ++ (ms.map KC.v ++ zs))) (upd (upd H2 dx (.own x)) x (.ins C dx [])) (fun v H3 => v = .non ∧ Q (.ref x) H3) (E σ)
section
variable {X : Cx} {CX : CXT} {k j n : Nat} {f C : Addr} {fd : FuncData} {ps ks : List Str} {sp : Sp} {E : L2.St → XK} {x : Str} {p pos : Pos} {e : Expr} {es : List Expr} {kws : List Keyword} {t tk : TA} {W : WX} {π : List Nat} {ms : List KC}
theorem run_makKS {g : List Value → List Value → List Value} {gV : List V → List V → List V} {pins : List (Addr × Obj)} {σ : L2.St} {H : Hp} {s : Shared} {Q : VK} {us ws : List Value} {vs zs : List V} (M : Mk X.K C f) (F : FnOk X.prog X.w X.K X.mg X.base CX k f fd ps sp) (hr : Room (k + 1) X.A) (hb : KBn X.K fd ps (n + 1) ks g gV) (hx : PassesAt CX X σ (E σ))
    (I : Inv X pins σ H s) (r : Vals vs us) (rz : Vals zs ws) (l1 : vs.length = n) (l2 : zs.length = ks.length)
    (h : ∀ x dx, H x = none → H dx = none → dx ≠ x → sp (gV (.ref x :: vs) zs) (upd (upd H dx (.own x)) x (.ins C dx [])) (fun v H2 => v = .non ∧ Q (.ref x) H2) (E σ)) :
    wpAny (model X.prog X.w) X.A (call (.ref C) us (ks.zip ws)) (EP X pins σ Q) X.xe s := by
  have hq := h (s.heap.objs.size + 1) s.heap.objs.size (I.hok.fresh (Nat.le_succ _)) (I.hok.fresh (Nat.le_refl _)) (Nat.ne_of_lt (Nat.lt_succ_self _))
  have I2 := Inv.made (C := C) I
  have r1 : Vals (V.ref (s.heap.objs.size + 1) :: vs) (Value.ref (s.heap.objs.size + 1) :: us) := .cons rfl r
  have r2 := hb.rel r1 rz
  have n1 : (Value.ref (s.heap.objs.size + 1) :: us).length = n + 1 := by
    rw [List.length_cons, ← r.length, l1]
  refine wpAny_call (make_map (f := f) I.kIn M.makes M.init (beq_iff_eq.mp M.fn) (codeAny_mono (F.run _ X.stack _ _ ⟨Value.ref (s.heap.objs.size + 1) :: us, ks.zip ws⟩ (g (Value.ref (s.heap.objs.size + 1) :: us) ws) _ _ (E σ) (hr.make C us (ks.zip ws))
    (I2.env0.make C us (ks.zip ws)) (hb.to _ (Value.ref (s.heap.objs.size + 1) :: us) ws I2.kIn n1 (rz.length.symm.trans l2)) r2 hq) fun r s' hq' => ?_))
  cases r with
  | error e => exact hx pins _ _ e s' I2 hq'
  | ok fl =>
    cases fl with
    | ret u =>
      obtain ⟨v, H', I3, rv, ev, q3⟩ := I2.after hq'
      subst ev
      exact ⟨rv, ⟨V.ref (s.heap.objs.size + 1), H', I3, rfl, q3⟩⟩
    | next => exact False.elim hq'
    | brk => exact False.elim hq'
    | cont => exact False.elim hq'
theorem pe_makKS (M : MakKCal X.prog X.w X.K X.mg X.base x C ps j sp) (S : KSh X.K C ps n ks π ms) (hr : Room k X.A) (hg : Gl X x) (tkx : Takes X W) (ha : PA X (e :: es) t) (hkw : PK X kws tk) (hj : j + 1 ≤ k := by decide)
    (hall : (backToKw pos (keywordEach kws X.env)).all (·.1.isSome) = true := by rfl) (hks : (backToKw pos (keywordEach kws X.env)).filterMap (·.1) = ks := by rfl) (hdb : (x == ("__debug__" : Str)) = false := by decide)
    (he : starEach (e :: es) X.env = (false, eval e X.env) :: starEach es X.env := by rfl) (hpl : ((backTo pos (starEach (e :: es) X.env)).any (·.1) || (backToKw pos (keywordEach kws X.env)).any (·.1.isNone)) = false := by rfl) :
    PE X (.Call (.Name x p) (e :: es) kws pos) (tMakKS C n ks.length sp π ms (WE W) t tk) := by
  obtain ⟨f, fd, F, mk, hm, oc, od, osl, lk⟩ := M.ex
  obtain ⟨f2, fd2, mv, ha2, ⟨oc2, od2, osl2, lk2⟩, hb⟩ := S.ex
  have ef : f2 = f := by
    have h1 := mk.init
    rw [h1] at ha2
    cases ha2
    rfl
  subst ef
  rw [lk] at lk2
  cases lk2
  refine ⟨fun pins s σ H Q I h => ?_⟩
  refine wpAny_Call_Name_kw (ld_glob I hg hm ?_ hdb)
  refine PySem.W.callWith_KW (h₀ := X.base) I.ok.mod.kin mk.kp hall (thn (ha.run pos pins s σ H _ I h) fun us s1 ⟨vs, H1, I1, r, q⟩ => ?_) hpl he
  refine thn (hkw.run pos pins s1 σ H1 _ I1 q) fun ws s2 ⟨zs, H2, I2, rz, l1, l2, q2⟩ => ⟨I2.kIn, ?_⟩
  rw [hks]
  exact run_makKS (E := WE W) mk F (hr.mono hj) hb (passAt tkx σ) I2 r rz l1 l2 q2
end
end TK
namespace DM
open PySem PySem.Spec PyProof.Rows L2 TK
def KC_d : KC → D
  | .num n => .int n
  | .none => .non
theorem hd_KC {K : PySem.W.Frag} {Av : Addr → Prop} {H : Hp} : ∀ ms : List KC, HdL K Av H (ms.map KC_d) (ms.map KC.v)
  | [] => .nil
  | .num n :: ms => .cons (.int n) (hd_KC ms)
  | .none :: ms => .cons .non (hd_KC ms)
section
variable {P : Program} {w : World} {K : PySem.W.Frag} {mg : Str → Option Value} {base : Heap} {m qual : Str} {C : Addr} {st : Stmt} {N ps : List Str} {k : Nat} {sp : SpD}
theorem defMakK (D : MakKAt K mg m C qual st) (S : FnScope N ps (defScope st)) (len : ∀ ds M Q N' E, sp ds M Q N' E → ds.length = ps.length)
    (hbody : ∀ (g : Gd) (f : Addr) (cdv : Value) (Ar : Around) (outer : List PySem.Env) (s : Shared) (H : Hp) (E : XK) (ds : List DM.D) (M : Mm) (Q : DM.D → Mm → Prop) (N' : List DM.D → Mm → Prop) (E' : Addr → Mm → Prop), Room k (Ar.deeper (envOfC qual (defScope st) s.heap.objs.size f cdv)) → Esc K (fun cls d _ H => E cls d H) (fun C _ M => E' C M) → sp ds M Q N' E' →
      ∃ t t', DSs (cxOf (L2.CX P w) P w K mg base N qual (defScope st) f cdv Ar outer s H E) K (defBody st) t t' ∧ t' ⟨(fun _ M' => Q .non M'), Q, N', (fun _ _ => False), (fun _ _ => False)⟩ (startD N ds) M) : MakKCal P w K mg base m C ps (k + 1) (ofD K sp) := by
  obtain ⟨f, fd, F, mk, hm, l⟩ := D.ex
  exact ⟨f, fd, F.ok S (fun vs H Q E ⟨A, M, ds, o, hd, q⟩ => by rw [← hd.length]; exact len _ _ _ _ _ q) (dx_body hbody f), mk, hm, l⟩
end
section
variable [Gd] {X : Cx} {K : PySem.W.Frag} {e : Expr} {es : List Expr} {kws : List Keyword} {t tk : TA} {tr' tk' : TAD} {x : Str} {ps ks : List Str} {sp : SpD} {p pos : Pos} {k n : Nat} {C : Addr} {W : WX} {W' : WD} {π : List Nat} {ms : List KC}
def dMakK (W' : WD) (C : Addr) (n m : Nat) (sp : SpD) (π : List Nat) (ms : List KC) (tr' tk' : TAD) : TED := fun ρ M Q => tr' ρ M fun ds ρ1 M1 => tk' ρ1 M1 fun es ρ2 M2 => ds.length = n ∧ es.length = m ∧ ∀ a dx, M2 a = none → M2 dx = none →
  sp (pick π (.ref a :: ds ++ (ms.map KC_d ++ es))) (addM M2 a (.ins C dx [])) (fun d M3 => d = .non ∧ Q (.ref a) ρ2 M3) (fun _ _ => False) (fun C M3 => W' C ρ2 M3)
theorem sim_makK (hx : Esc K W W') (hm : SpMono sp) (h : SimA K t tr') (h' : SimA K tk tk') : SimE K (tMakKS C n ks.length (ofD K sp) π ms (WE W) t tk) (dMakK W' C n ks.length sp π ms tr' tk') := fun A B M ρ σ H Q Q' R q kk => h A B M ρ σ H _ _ R q fun ds ρ0 M0 B0 vs H0 R0 f0 m0 h0 q0 => h' A B0 M0 ρ0 σ H0 _ _ R0 q0 fun es ρ1 M1 B1 zs H1 R1 f1 m1 h1 q1 => by
  obtain ⟨l1, l2, q1⟩ := q1
  refine ⟨by rw [← h0.length]; exact l1, by rw [← h1.length]; exact l2, ?_⟩
  intro a dx ha hdx hne
  obtain ⟨R2, f2, m2, n2, mdx⟩ := R1.new (o := .own a) hdx
  have ha2 : upd H1 dx (.own a) a = none := by rw [upd_ne (Ne.symm hne)]; exact ha
  have no : M1 a = none := by
    cases e : M1 a with
    | none => rfl
    | some mo => exact absurd ha (R1.tr a (.inr (.inr (by rw [e]; simp))))
  have av : ∀ b, Av A B1 (addM M1 a (.ins C dx [])) b → Av A B1 M1 b ∨ b = a := fun b h => by
    rcases h with h | h | h
    · exact .inl (.inl h)
    · exact .inl (.inr (.inl h))
    · by_cases e : b = a
      · exact .inr e
      · rw [addM_ne e] at h; exact .inl (.inr (.inr h))
  obtain ⟨R3, f3, m3, _⟩ := R2.newM (o := .ins C dx []) (mo := .ins C dx []) ha2 ⟨[], upd_same, .nil, fun z => (av dx z).elim n2 hne, by rw [upd_ne hne, upd_same]⟩
  have hds := (h0.fr f1).fr (f2.trans f3)
  have hes := h1.fr (f2.trans f3)
  refine ⟨AB A B1 (addM M1 a (.ins C dx [])) _, addM M1 a (.ins C dx []), pick π (.ref a :: ds ++ (ms.map KC_d ++ es)), R3.rok, R3.args (pick_hdl (HdL.app (.cons (.ref a) hds) ((hd_KC ms).app hes))), hm.mono _ _ _ _ _ _ _ _ (q1 a dx no mdx) (fun d M4 q2 => ?_) (fun es M4 q2 => q2.elim) (fun C M4 q2 => ?_)⟩
  · intro v H4 o m hd
    obtain ⟨R4, f4⟩ := R3.back o m
    obtain ⟨rfl, q2⟩ := q2
    cases hd
    exact ⟨rfl, kk (.ref a) ρ1 M4 B1 _ H4 R4 ((((f0.trans f1).trans f2).trans f3).trans f4) ((((m0.trans m1).trans m2).trans m3).trans m) (.ref a) q2⟩
  · intro H4 o m
    obtain ⟨R4, f4⟩ := R3.back o m
    exact hx _ _ _ _ _ _ _ R4 q2
theorem de_makK {j : Nat} (M : MakKCal X.prog X.w X.K X.mg X.base x C ps j (ofD K sp)) (hm : SpMono sp) (S : KSh X.K C ps n ks π ms) (hr : Room k X.A) (hg : Gl X x) (tkx : Takes X W) (hx : Esc K W W') (ha : DA X K (e :: es) t tr') (hk : DK X K kws tk tk') (hj : j + 1 ≤ k := by decide)
    (hall : (backToKw pos (keywordEach kws X.env)).all (·.1.isSome) = true := by rfl) (hks : (backToKw pos (keywordEach kws X.env)).filterMap (·.1) = ks := by rfl) (hdb : (x == ("__debug__" : Str)) = false := by decide)
    (he : starEach (e :: es) X.env = (false, eval e X.env) :: starEach es X.env := by rfl) (hpl : ((backTo pos (starEach (e :: es) X.env)).any (·.1) || (backToKw pos (keywordEach kws X.env)).any (·.1.isNone)) = false := by rfl) : DE X K (.Call (.Name x p) (e :: es) kws pos) (tMakKS C n ks.length (ofD K sp) π ms (WE W) t tk) (dMakK W' C n ks.length sp π ms tr' tk') :=
  ⟨pe_makKS M S hr hg tkx ha.pa hk.pk hj hall hks hdb he hpl, sim_makK hx hm ha.sim hk.sim⟩
end
end DM

/-! ### t[a:b] of a tuple, also the whole -/
namespace HT
open PySem PySem.Spec PyProof.Rows L2
section
variable {prog : Program} {w : World} {A : Around} {s : Shared} {E : Value → Shared → Prop}
theorem getItem_tuple_whole {t sl : Addr} {items : Array Value} {vl vu : Value} {lo hi : Option Int} {Q : Value → Shared → Prop} (ht : IsTup s.heap t items) (hs : s.heap.IsSliceOf sl vl vu .none) (pl : IsPart vl lo) (pu : IsPart vu hi)
    (hw : sIx items.size 0 lo = 0 ∧ sIx items.size items.size hi = items.size) (h : Q (.ref t) s) : wpAny (model prog w) A (getItem (.ref t) (.ref sl)) Q E s := by
  obtain ⟨os, hos, hcs, hds⟩ := id hs
  have hTs : s.TypeIs (.ref sl) "slice" := ⟨os, hos, hcs⟩
  unfold getItem
  try with_reducible refine wpAny_holding ?_
  first | refine wpAny_bind (wpAny_pure ?_) | skip
  refine wpAny_bind (wpAny_sequenceKey ht.typeIs (by decide) ?_)
  refine wpAny_bind (wpAny_callSpecial?_slot (name := Str.ofString "__getitem__") ht.typeIs PyProof.Rows.slot_tuple_getitem
    (wpAny_call_entry PyProof.Rows.slot_tuple_getitem ht.typeIs entry_tuple_getitem ?_ (args_tuple_getitem _ _)))
  show wpAny _ _ (Builtin.Tuple.tupleItemsOf (.ref t) >>= _) _ _ s
  refine wpAny_bind (tupleItemsOf_ ht ?_)
  refine wpAny_bind (wpAny_typeOf hTs ?_)
  rw [if_pos (by decide)]
  refine wpAny_bind (sliceApplied_gen hs pl pu ?_)
  have hyes : (((sIx items.size 0 lo : Nat) : Int) == 0 && (1 : Int) == 1 && (sIx items.size items.size hi - sIx items.size 0 lo) == items.size) = true := by
    rw [hw.1, hw.2]
    simp
  show wpAny _ _ (if (((sIx items.size 0 lo : Nat) : Int) == 0 && (1 : Int) == 1 && (sIx items.size items.size hi - sIx items.size 0 lo) == items.size) = true then _ else _) _ _ s
  rw [if_pos hyes]
  refine wpAny_bind (m := Builtin.Tuple.tupleIsExact _) (wpAny_bind (wpAny_typeOf ht.typeIs (wpAny_pure ?_)))
  rw [if_pos (by decide)]
  refine wpAny_bind (wpAny_rule ?_)
  exact wpAny_pure ⟨_, rfl, wpAny_pure h⟩
end
end HT
namespace L2
open PySem PySem.Spec PyProof.Rows
section
variable {X : Cx}
/-- t[lo:hi]: the whole of it is t itself -/
def rSlW (K : PySem.W.Frag) : V → Option Int → Option Int → Hp → VK → Prop := fun x lo hi H Q => ∃ a xs, x = .ref a ∧ SqT K H a xs ∧ (HT.sIx xs.length 0 lo = 0 ∧ HT.sIx xs.length xs.length hi = xs.length) ∧ Q (.ref a) H
theorem sl_tupW : SlR X (rSlW X.K) := by
  intro pins s σ H x v vl vu lo hi sl Q I rx hs pl pu h
  obtain ⟨a, xs, rfl, hx, hw, q⟩ := h
  cases rx
  obtain ⟨its, r, ht, hz⟩ := I.tuple hx
  have hlen : its.toArray.size = xs.length := by rw [List.size_toArray]; exact r.length.symm
  refine ⟨"tuple", _, PyProof.Rows.slot_tuple_getitem.lookup, ht.typeIs, ?_⟩
  exact HT.getItem_tuple_whole ht hs pl pu (by rw [hlen]; exact hw) ⟨.ref a, H, I, rfl, q⟩
end
end L2
namespace DM
open PySem PySem.Spec PyProof.Rows L2 TK
variable [Gd]
section
variable {X : Cx} {K : PySem.W.Frag} {e : Expr} {te : TE} {te' : TED} {lo hi : Option Expr} {tl th : TO} {tl' th' : TOD} {pos p2 : Pos}
def dSlA (t : TED) (tl th : TOD) : TED := fun ρ M Q => t ρ M fun d ρ1 M1 => tl ρ1 M1 fun l ρ2 M2 => th ρ2 M2 fun u ρ3 M3 => ∃ ds, d.tq = some ds ∧ (if HT.sIx ds.length 0 l = 0 ∧ HT.sIx ds.length ds.length u = ds.length then Q d ρ3 M3 else Q (.tup (cutD ds l u)) ρ3 M3)
theorem de_slA (he : DB X K e te te') (hl : DO X K lo tl tl') (hu : DO X K hi th th') (hK : X.K = K := by rfl) : DE X K (.Subscript e (.Slice lo hi none p2) pos) (tSl (fun x lo hi H Q => rSlT K x lo hi H Q ∨ rSlW K x lo hi H Q) te tl th) (dSlA te' tl' th') := by
  subst hK
  refine ⟨pe_slice (sl_tup.or sl_tupW) he.pe hl.po hu.po, fun A B M ρ σ H Q Q' R q k => he.sim A B M ρ σ H _ _ R q fun d ρ1 M1 B1 v H1 R1 f1 m1 h1 q1 => hl.sim A B1 M1 ρ1 σ H1 _ _ R1 q1 fun l ρ2 M2 B2 H2 R2 f2 m2 q2 =>
    hu.sim A B2 M2 ρ2 σ H2 _ _ R2 q2 fun u ρ3 M3 B3 H3 R3 f3 m3 q3 => ?_⟩
  obtain ⟨ds, e1, q3⟩ := q3
  have hB := (h1.fr f2 m2).fr f3 m3
  obtain ⟨a, vs, rfl, s, hd⟩ := hB.tup e1
  split at q3
  · rename_i w
    refine .inr ⟨a, vs, rfl, s, by rw [← hd.length]; exact w, k d ρ3 M3 B3 _ _ R3 ((f1.trans f2).trans f3) ((m1.trans m2).trans m3) (hB.cases' fun es e => ?_) q3⟩
    subst e
    cases e1
  · rename_i nw
    refine .inl ⟨a, vs, rfl, s, by rw [← hd.length]; exact nw, fun p hp => ?_⟩
    obtain ⟨R4, f4, m4, np, _⟩ := R3.new (o := .tup (cutV vs l u)) hp
    exact k _ ρ3 M3 B3 _ _ R4 (((f1.trans f2).trans f3).trans f4) (((m1.trans m2).trans m3).trans m4) (.tup np upd_same ((hd.cut l u).fr f4)) q3
end
end DM

/-! ### enumerate(tuple) -/
namespace HT
open PySem PySem.Spec PyProof.Rows L2
open AutoSeq1 (wpAny_loadPart')
theorem enumT_new (l : Addr) (items : Array Value) : Meets (Builtin.«enumerate.__new__» ⟨[.type "enumerate", .ref l], []⟩) (fun _ R s => s.heap.IsTuple l items ∧
      R (.ok (.ret (.ref (s.heap.push { cls := .type "tuple_iterator", data := .fields #[.ref l, .int 0 0] }).objs.size)))
        { s with heap := (s.heap.push { cls := .type "tuple_iterator", data := .fields #[.ref l, .int 0 0] }).push { cls := .type "enumerate", data := .fields #[.none, .bool false, .ref s.heap.objs.size, rawInt 0, .none, .none] } }) :=
  .of_wp fun prog w A R s h => by
    obtain ⟨hp, g, d, tk, os⟩ := s; obtain ⟨hL, h⟩ := h
    have hs' := sub_enumerate
    replace hL : Heap.IsTuple (Shared.heap ⟨hp, g, d, tk, os⟩) l items := hL
    wp_walk
    refine wpAny_stack_any fun st => wpAny_pure ?_
    split
    · rename_i c _ _ _ _ _
      cases (c == Value.type "enumerate")
      · (wp_walk using wpAny_pyIter_tuple hL); exact ⟨_, rfl, h⟩
      · (wp_walk using wpAny_pyIter_tuple hL); exact ⟨_, rfl, h⟩
    · (wp_walk using wpAny_pyIter_tuple hL); exact ⟨_, rfl, h⟩
section
variable {prog : Program} {w : World} {A : Around} {E : Value → Shared → Prop} {s : Shared}
theorem call_enumT {l : Addr} {items : Array Value} {Q : Value → Shared → Prop} (hL : s.heap.IsTuple l items)
    (h : ∀ h', IsEnum h' (s.heap.objs.size + 1) s.heap.objs.size 0 .none → h'.IsTupleIter s.heap.objs.size l 0 → (∀ b o, s.heap.get? b = some o → h'.get? b = some o) → Q (.ref (s.heap.objs.size + 1)) { s with heap := h' }) :
    wpAny (model prog w) A (call (.type "enumerate") [.ref l]) Q E s := by
  refine callType_new F.called_enumerate (by decide) (F.typeCall_enumerate_1 _) (F.newCall_enumerate_1 _) (fun obj => F.args_object_init_2 obj _) F.entry_enumerate_new (enumT_new l items) ⟨hL, ?_⟩
  have hz : (s.heap.push { cls := .type "tuple_iterator", data := .fields #[.ref l, .int 0 0] }).objs.size = s.heap.objs.size + 1 := Heap.size_push ..
  show _ ∧ _
  rw [hz]
  have he : IsEnum ((s.heap.push { cls := .type "tuple_iterator", data := .fields #[.ref l, .int 0 0] }).push { cls := .type "enumerate", data := .fields #[.none, .bool false, .ref s.heap.objs.size, rawInt 0, .none, .none] }) (s.heap.objs.size + 1) s.heap.objs.size 0 .none := by
    have q := Heap.get?_push_size (s.heap.push { cls := .type "tuple_iterator", data := .fields #[.ref l, .int 0 0] }) (o := { cls := .type "enumerate", data := .fields #[.none, .bool false, .ref s.heap.objs.size, rawInt 0, .none, .none] }) rfl
    rw [hz] at q; exact q
  exact ⟨⟨_, he, rfl⟩, h _ he ⟨_, Heap.get?_push_of_some _ (Heap.get?_push_size _ rfl), rfl, rfl⟩ fun b o x => Heap.get?_push_of_some _ (Heap.get?_push_of_some _ x)⟩
theorem enumT_end {e it l : Addr} {items : Array Value} {i : Nat} {c : Int} {old : Value} {Q : Option Value → Shared → Prop} (hh : A.handled = none) (he : IsEnum s.heap e it c old) (hit : s.heap.IsTupleIter it l i) (ht : s.heap.IsTuple l items) (hx : items[i]? = none)
    (hQ : ∀ h', Heap.ExtBut it s.heap h' → Q none { s with heap := h' }) : wpAny (model prog w) A (pyNext (.ref e)) Q E s := by
  have hT : s.TypeIs (.ref e) "enumerate" := ⟨_, he, rfl⟩
  unfold pyNext
  refine wpAny_bind (wpAny_attempt (wpAny_callSpecial?_slot (name := Str.ofString "__next__") hT F.slot_enumerate_next (wpAny_call_entry F.slot_enumerate_next hT F.entry_enumerate_next ?_ (F.args_enumerate_next_1 _))))
  show wpAny _ _ (field (.ref e) 2 >>= _) _ _ _
  refine wpAny_bind (wpAny_field he rfl (x := .ref it) rfl ?_)
  refine wpAny_bind (wpAny_nextOf_tuple_end hh hit ht hx fun h' x he' hx' => ?_)
  obtain ⟨o, ho, hc⟩ := hx'
  exact wpAny_bind (wpAny_isInstance (T := "StopIteration") (b := true) ⟨o, ho, hc⟩ isSubtype_stop (wpAny_pure (hQ _ he')))
end
end HT
namespace L2
open PySem PySem.Spec PyProof.Rows
def IteT (K : PySem.W.Frag) (a : Addr) : It :=
  ⟨fun i H => ∃ (xs : List V) (x : V), SqT K H a xs ∧ xs[i]? = some x, fun i H v H' => ∃ T x, v = .ref T ∧ H T = none ∧ H' = upd H T (.tup [.int (i : Nat), x]) ∧ ∀ xs, SqT K H a xs → xs[i]? = some x, fun i H => ∃ xs : List V, SqT K H a xs ∧ xs.length ≤ i⟩
theorem turn_enumT {P : Program} {w : World} {K : PySem.W.Frag} {elts : List Expr} {kk : Nat} {tpos : Pos} (a e it : Addr) :
    Turn P w K (.Tuple elts kk tpos) (IteT K a) [e, it] e (fun i h => (∃ old, IsEnum h e it ((i : Nat) : Int) old) ∧ h.IsTupleIter it a i ∧ e ≠ it) where
  mem := by simp
  obj := fun i h st b hb => by
    obtain ⟨⟨old, he⟩, ⟨o, ho, hc, hd⟩, _⟩ := st
    rcases (by simpa using hb : b = e ∨ b = it) with z | z
    · rw [z]; exact ⟨_, he, fun v q => nomatch q⟩
    · rw [z]; exact ⟨o, ho, fun v q => by rw [hd] at q; cases q⟩
  keep := fun i h h' st k => let ⟨⟨old, he⟩, hi, hne⟩ := st; ⟨⟨old, k e (by simp) _ he⟩, hi.at fun o q => k it (by simp) o q, hne⟩
  item := by
    intro X hP hw hK hc i pins s σ H E I hf st hg
    subst hP hw hK
    obtain ⟨⟨old, he⟩, hit, hne⟩ := st
    obtain ⟨xs, x, hq, hx⟩ := hg
    obtain ⟨its, rv, p, hz⟩ := I.tuple hq
    obtain ⟨u, hu, ru⟩ := rv.get hx
    have hel : e < s.heap.objs.size := Heap.lt_size he
    have hil : it < s.heap.objs.size := (fun ⟨_, q, _⟩ => Heap.lt_size q) hit
    have hti : a ≠ it := fun z => by
      obtain ⟨o, q, c, _⟩ := hit
      obtain ⟨o2, q2, c2, _⟩ := p
      rw [z, q] at q2
      cases q2
      rw [c] at c2
      exact absurd c2 (by decide)
    have hae : e ∉ [it, a] := fun z => by
      rcases (by simpa using z : e = it ∨ e = a) with z | z
      · exact hne z
      · obtain ⟨o2, q2, c2, _⟩ := p
        rw [← z, he] at q2
        cases q2
        exact absurd (show Value.type "enumerate" = .type "tuple" from c2) (by decide)
    have hlt : i < its.toArray.size := by
      obtain ⟨hi, _⟩ := List.getElem?_eq_some_iff.mp hu
      simpa using hi
    have hti' : IsTup s.heap a its.toArray := p
    refine wpAny_pyNext_enum_itemD (Draws.tuple (A := X.A.in1) (I.ok.hd hc) it a hti its.toArray) he ⟨hit, p⟩ hlt hne hae fun y h' tk hy ho hst hT hsz hk => ?_
    obtain rfl : u = y := by
      have := hy
      simp only [List.getElem?_toArray, hu] at this
      cases this; rfl
    refine ⟨_, rfl, wpAny_letOwnedTupleGo_enum (s := { s with heap := h', toks := tk + 1 }) ho fun h'' he' sb => ?_⟩
    have hT2 : h''.get? s.heap.objs.size = some { cls := .type "tuple", data := .seq #[.int i tk, u] } := (sb.2 _ (Nat.ne_of_gt hel)).trans hT
    have new : ObjOk X.prog X.w (upd H s.heap.objs.size (.tup [.int (i : Nat), x])) h'' s.heap.objs.size (.tup [.int (i : Nat), x]) :=
      ⟨by show 2 ≤ sizeLine; decide, [.int i tk, u], .cons ⟨_, rfl⟩ (.cons ru .nil), ⟨_, hT2, rfl, _, rfl⟩⟩
    have I1 : Inv X pins σ (upd H s.heap.objs.size (.tup [.int (i : Nat), x])) { s with heap := h'', toks := tk + 1 } :=
      I.turnedNew (ch := [e, it]) (fun b ob hb q => (sb.2 b (fun z => hb (by simp [z]))).trans (hk b ob (fun z => hb (by simp [z])) (fun z => hb (by simp [z])) q)) hf (Nat.le_refl _) new
    refine ⟨.ref s.heap.objs.size, _, I1, rfl, ⟨_, x, rfl, I.hok.fresh (Nat.le_refl _), rfl, fun ys hy => by rw [I.tuple_inj hy hq]; exact hx⟩, ⟨⟨u, ?_⟩, hst.1.at fun o q => (sb.2 it (Ne.symm hne)).trans q, hne⟩, fun b hb => ?_⟩
    · have e1 : ((i + 1 : Nat) : Int) = (i : Int) + 1 := by omega
      rw [e1]; exact he'
    · have hb' : b < s.heap.objs.size := by
        rcases (by simpa using hb : b = e ∨ b = it) with z | z
        · rw [z]; exact hel
        · rw [z]; exact hil
      rw [upd_ne (Nat.ne_of_lt hb')]
      exact (hf b hb).1
  done := by
    intro X hP hw hK hc i pins s σ H E I hf st hg
    subst hP hw hK
    obtain ⟨⟨old, he⟩, hit, hne⟩ := st
    obtain ⟨xs, hq, hx⟩ := hg
    obtain ⟨its, rv, p, hz⟩ := I.tuple hq
    obtain ⟨f0, f1, f2, f3, f4, f5⟩ := hf it (by simp)
    have hl := rv.length
    exact HT.enumT_end (I.ok.hd hc) he hit p (by simp; omega) fun h' eb => ⟨rfl, I.turned (t' := s.toks) (fun b o hb q => eb b o hb q) f0 f1 f3 f4 f5⟩
  self := fun A i s Q E st h => let ⟨⟨_, he⟩, _⟩ := st; wpAny_pyIter_enum he h
def iEnumT (K : PySem.W.Frag) (ta : TA) : TI := fun σ H R => ta σ H fun vs H1 => ∃ a xs, vs = [.ref a] ∧ SqT K H1 a xs ∧ R (IteT K a) H1
theorem pi_enumT {X : Cx} {e : Expr} {ta : TA} {p pos tpos : Pos} {elts : List Expr} {kk : Nat} (hg : Gl X "enumerate") (hm : X.mg "enumerate" = none) (ha : PA X [e] ta) (hs : starEach [e] X.env = [(false, eval e X.env)] := by rfl) :
    PI X (.Tuple elts kk tpos) (.Call (.Name "enumerate" p) [e] [] pos) (iEnumT X.K ta) := by
  refine ⟨fun pins s σ H R I h => ?_⟩
  refine Call_ (ld_blt I hg hm boot_enumerate (PyProof.Rows.callWith_type1 (thn (ha.run pos pins s σ H _ I h) fun us s1 ⟨vs, H1, I1, r1, q1⟩ => ?_) hs rfl))
  obtain ⟨a, xs, ex, hq, q⟩ := q1
  subst ex
  cases r1 with
  | cons r rr =>
    cases rr
    cases r
    obtain ⟨its, rv, p', hz⟩ := I1.tuple hq
    refine HT.call_enumT p' fun h' he hit hk => wpAny_pyIter_enum he ?_
    have I2 : Inv X pins σ H1 { s1 with heap := h' } := I1.kept (t' := s1.toks) hk
    refine ⟨s1.heap.objs.size + 1, [s1.heap.objs.size + 1, s1.heap.objs.size], _, _, H1, rfl, I2, turn_enumT a (s1.heap.objs.size + 1) s1.heap.objs.size, ⟨⟨.none, he⟩, hit, Nat.succ_ne_self _⟩, fun b hb => ?_, q⟩
    have hle : s1.heap.objs.size ≤ b := by
      rcases (by simpa using hb : b = s1.heap.objs.size + 1 ∨ b = s1.heap.objs.size) with z | z
      · rw [z]; exact Nat.le_add_right _ _
      · rw [z]; exact Nat.le_refl _
    exact I1.fpOk hle (I1.hok.fresh hle)
end L2
namespace DM
open PySem PySem.Spec PyProof.Rows L2 TK
variable [Gd]
section
variable {X : Cx} {K : PySem.W.Frag} {te : TE} {te' : TED} {p pos tpos : Pos}
def diEnumT (ta' : TED) : TID := fun ρ M Q => ta' ρ M fun d ρ1 M1 => ∃ ds, d.tq = some ds ∧ Q (enumD ds) ρ1 M1
theorem di_enumT {a : Expr} {elts : List Expr} {kk : Nat} (hg : Gl X "enumerate") (hm : X.mg "enumerate" = none) (ha : DE X K a te te') (hs : starEach [a] X.env = [(false, eval a X.env)] := by rfl) (hK : X.K = K := by rfl) :
    DI X K (.Tuple elts kk tpos) (.Call (.Name "enumerate" p) [a] [] pos) (iEnumT K (tCons te tNil)) (diEnumT te') := by
  subst hK
  refine ⟨pi_enumT hg hm (pa_cons ha.pe pa_nil hs) hs, fun A B M ρ σ H R Q' r q k => ha.sim A B M ρ σ H _ _ r q fun d ρ1 M1 B1 v H1 r1 f1 m1 hd q1 => ?_⟩
  obtain ⟨ds, e1, q1⟩ := q1
  obtain ⟨a, vs, rfl, s, l⟩ := hd.tqa e1
  refine ⟨a, vs, rfl, s.sq, k _ ρ1 M1 B1 _ H1 r1 f1 m1 ⟨fun Av1 H1 f i hi => ?_, fun Av1 H1 f => ?_, fun Av1 H1 f i d x H' hi y => ?_⟩ q1⟩
  · obtain ⟨c, g1, _⟩ := enumD_get (List.getElem?_eq_getElem hi)
    obtain ⟨v, hv, _⟩ := l.get g1
    exact ⟨vs, v, (s.fr f).sq, hv⟩
  · exact ⟨vs, (s.fr f).sq, by rw [enumD_len, l.length]; exact Nat.le_refl _⟩
  · obtain ⟨p, v, rfl, hp, rfl, y1⟩ := y
    obtain ⟨c, g1, rfl⟩ := enumD_get hi
    obtain ⟨v', hv, hd1⟩ := l.get g1
    have := y1 vs (s.fr f).sq
    rw [hv] at this
    cases this
    exact .inr ⟨p, _, _, rfl, rfl, hp, rfl, .cons (.int _) (.cons (hd1.fr f) .nil)⟩
omit [Gd] in theorem pt_never {e : Expr} : PT X e (fun _ _ _ => False) := ⟨fun _ _ _ _ _ _ h => h.elim⟩
theorem dt_never {e : Expr} : DT X K e (fun _ _ _ => False) (fun _ _ _ => False) := ⟨pt_never, fun _ _ _ _ _ _ _ _ _ q _ => q.elim⟩
end
end DM

/-! ### dicts that are written: as targets among several, copies, sorted, del, in; three names at once -/
namespace DM
open PySem PySem.Spec PyProof.Rows L2 TK
variable [Gd]
section
variable {K : PySem.W.Frag} {X : Cx} {ta tb tv : TE} {ta' tb' tv' : TED} {o e a b : Expr} {x : Str} {p pos tpos : Pos}
/-- d[k] = v, one target of several -/
def gdPutG (ta' tb' : TED) : D → TSD := fun f D ρ M => ta' ρ M fun c ρ1 M1 => tb' ρ1 M1 fun y ρ2 M2 => ∃ p es k, c = .ref p ∧ M2 p = some (.dg es) ∧ keyD y = some k ∧ es.length < sizeLine ∧ D.nx ρ2 (addM M2 p (.dg (putG es k f)))
theorem dg_putG (hu : X.A.units + 1 < cLine) (ho : DB X K o ta ta') (hi : DB X K e tb tb')
    (hs : ∀ v, assign (.Subscript o e pos) X.env v = (do
      let ov ← holding [v] (eval o X.env)
      let iv ← holding [v, ov] (eval e X.env)
      standAt pos
      holding [v, ov, iv] (setItem ov iv v)
      release [v, ov, iv] []) := by intro _; rfl) : DG X K (.Subscript o e pos) (gSub ta tb rSetD) (gdPutG ta' tb') :=
  ⟨pg_sub ho.pe hi.pe (set_dict hu) hs, fun A B M ρ σ H d v D Q r hd q k => ho.sim A B M ρ σ H _ _ r q fun c ρ1 M1 B1 w H1 R1 f1 m1 h1 q1 => hi.sim A B1 M1 ρ1 σ H1 _ _ R1 q1 fun y ρ2 M2 B2 u H2 R2 f2 m2 h2 q2 => by
    obtain ⟨p, es, i, rfl, hM, hk, hl, q2⟩ := q2
    obtain rfl := h1.refM
    obtain rfl := keyD_kVB hk h2
    obtain ⟨kvs, e1, hv⟩ := R2.ob p _ hM
    obtain ⟨R3, f3, m3⟩ := R2.writeG hM (hv.put (k := i) (hd.fr (f1.trans f2)))
    exact ⟨p, _, rfl, .inl ⟨kvs, i, e1, rfl, by rw [← hv.len]; exact hl, rfl⟩, k _ _ B2 σ _ R3 ((f1.trans f2).trans f3) q2⟩⟩
/-- dict(d) of a shared dict: one more -/
def dDictG (ta' : TED) : TED := fun ρ M Q => ta' ρ M fun d ρ1 M1 => ∃ p es, d = .ref p ∧ M1 p = some (.dg es) ∧ ∀ q, M1 q = none → Q (.ref q) ρ1 (addM M1 q (.dg es))
theorem de_dictG (hg : Gl X x) (hm : X.mg x = none) (hv : bootBuiltins x = some (.type "dict")) (ha : DB X K e ta ta')
    (hs : starEach [e] X.env = (false, eval e X.env) :: starEach [] X.env := by rfl) (hn : x ≠ "__name__" := by decide) (hdb : (x == ("__debug__" : Str)) = false := by decide) :
    DE X K (.Call (.Name x p) [e] [] pos) (tCB (fun xs H Q => ∃ (a : Addr) (kvs : List (Key × V)), xs = [.ref a] ∧ Rd H a (.dK kvs) ∧ ∀ p, H p = none → Q (.ref p) (upd H p (.dK kvs))) (tCons ta tNil)) (dDictG ta') :=
  ⟨pe_callTy call_dictD hg hm hv (pa_cons ha.pe pa_nil hs) hn hdb hs rfl, fun A B M ρ σ H Q Q' r q kk => ha.sim A B M ρ σ H _ _ r q fun d ρ1 M1 B1 v H1 R1 f1 m1 h1 q1 => by
    obtain ⟨p, es, rfl, hM, q1⟩ := q1
    obtain rfl := h1.refM
    obtain ⟨kvs, e1, hv⟩ := R1.ob p _ hM
    refine ⟨p, kvs, rfl, .inl e1, fun b hb => ?_⟩
    have av : ∀ c, Av A B1 (addM M1 b (.dg es)) c → Av A B1 M1 c ∨ c = b := fun c h => by
      rcases h with h | h | h
      · exact .inl (.inl h)
      · exact .inl (.inr (.inl h))
      · by_cases z : c = b
        · exact .inr z
        · rw [addM_ne z] at h; exact .inl (.inr (.inr h))
    obtain ⟨R2, f2, m2, mb⟩ := R1.newM (o := .dK kvs) (mo := .dg es) hb ⟨kvs, upd_same, hv.fr fun c u nc ec => ⟨by rw [upd_ne (ne_of_none ec hb)]; exact ec, fun h => (av c h).elim nc fun z => by subst z; rw [hb] at ec; cases ec⟩⟩
    exact kk _ ρ1 _ B1 _ _ R2 (f1.trans f2) (m1.trans m2) (.ref b) (q1 b mb)⟩
/-- sorted(d) of a shared dict, whole numbers as keys -/
def dSortG (ta' : TED) : TEN := fun ρ M Q => ta' ρ M fun d ρ1 M1 => ∃ (p : Addr) (es : List (Key × D)) (is : List Int), d = .ref p ∧ M1 p = some (.dg es) ∧ es.map (·.1) = is.map .inl ∧ is.length < 64 ∧ ∀ ms : List Int, ms.Perm is → ms.Pairwise (· ≤ ·) → Q (ms.map .int) ρ1 M1
omit [Gd] in theorem KvD.keys {Av : Addr → Prop} {H : Hp} {es : List (Key × D)} {kvs : List (Key × V)} (h : KvD K Av H es kvs) : kvs.map (·.1) = es.map (·.1) := by
  induction h with
  | nil => rfl
  | cons _ _ ih => rw [List.map_cons, List.map_cons, ih]
theorem dn_sortG (hc : X.calm = true) (hg : Gl X x) (hm : X.mg x = none) (hv : bootBuiltins x = some (.builtin "sorted")) (ha : DB X K e ta ta')
    (hs : starEach [e] X.env = (false, eval e X.env) :: starEach [] X.env := by rfl) (hn : x ≠ "__name__" := by decide) (hdb : (x == ("__debug__" : Str)) = false := by decide) : DN X K (.Call (.Name x p) [e] [] pos) (tCB rSortDI (tCons ta tNil)) (dSortG ta') :=
  ⟨pe_callB (call_sortedDI hc) hg hm hv (pa_cons ha.pe pa_nil hs) hn hdb hs rfl, fun A B M ρ σ H Q Q' r q kk => ha.sim A B M ρ σ H _ _ r q fun d ρ1 M1 B1 v H1 R1 f1 m1 h1 q1 => by
    obtain ⟨p, es, is, rfl, hM, hk, h64, q1⟩ := q1
    obtain rfl := h1.refM
    obtain ⟨kvs, e1, hv⟩ := R1.ob p _ hM
    refine ⟨p, kvs, is, rfl, .inl e1, by rw [hv.keys]; exact hk, h64, fun ys b g1 g2 hb => ?_⟩
    obtain ⟨B2, R2, f2, m2, hb2, h3⟩ := R1.newOwn (ds := ys.map .int) hb .ofInts
    exact kk _ ρ1 M1 B2 b _ _ R2 (f1.trans f2) (m1.trans m2) hb2 upd_same h3 (q1 ys g1 g2)⟩
/-- del d[k] -/
def dropG (es : List (Key × D)) (k : Key) : List (Key × D) := es.filter fun p => decide (p.1 ≠ k)
omit [Gd] in theorem KvD.drop {Av : Addr → Prop} {H : Hp} {es : List (Key × D)} {kvs : List (Key × V)} (h : KvD K Av H es kvs) (k : Key) : KvD K Av H (dropG es k) (dropK kvs k) := by
  unfold dropG dropK
  induction h with
  | nil => exact .nil
  | @cons k' d' v' es kvs a t ih =>
    by_cases q : k' = k
    · rw [List.filter_cons_of_neg (by simp [q]), List.filter_cons_of_neg (by simp [q])]; exact ih
    · rw [List.filter_cons_of_pos (by simp [q]), List.filter_cons_of_pos (by simp [q])]; exact .cons a ih
def dDelG (ta' tb' : TED) : TSD := fun D ρ M => ta' ρ M fun d ρ1 M1 => tb' ρ1 M1 fun y ρ2 M2 => ∃ p es k, d = .ref p ∧ M2 p = some (.dg es) ∧ keyD y = some k ∧ (getG es k).isSome = true ∧ D.nx ρ2 (addM M2 p (.dg (dropG es k)))
theorem ds_delG (ha : DB X K a ta ta') (hb : DB X K b tb tb') : DS X K (.Delete [.Subscript a b tpos] pos) (sDDel ta tb) (dDelG ta' tb') :=
  ⟨ps_ddel ha.pe hb.pe, fun A B M ρ σ H E D r q k => ha.sim A B M ρ σ H _ _ r q fun d ρ1 M1 B1 v H1 R1 f1 m1 h1 q1 => hb.sim A B1 M1 ρ1 σ H1 _ _ R1 q1 fun y ρ2 M2 B2 u H2 R2 f2 m2 h2 q2 => by
    obtain ⟨p, es, i, rfl, hM, hk, hl, q2⟩ := q2
    obtain rfl := h1.refM
    obtain rfl := keyD_kVB hk h2
    obtain ⟨kvs, e1, hv⟩ := R2.ob p _ hM
    cases hg : getG es i with
    | none => rw [hg] at hl; cases hl
    | some w =>
      obtain ⟨z, ez, _⟩ := hv.get hg
      obtain ⟨R3, f3, m3⟩ := R2.writeG hM (hv.drop i)
      exact ⟨p, kvs, i, rfl, e1, rfl, by rw [ez]; rfl, k.nx _ _ B2 σ _ R3 ((f1.trans f2).trans f3) q2⟩⟩
/-- a, b, c = x, y, z -/
def dPar3 (i j l : Nat) (ta' : TAD) : TSD := fun D ρ M => ta' ρ M fun ds ρ1 M1 => ∃ d e f, ds = [d, e, f] ∧ D.nx (((ρ1.set i (.val d)).set j (.val e)).set l (.val f)) M1
theorem ds_par3 (i j l : Nat) {x y z : Str} {a b c : Expr} {ta : TA} {ta' : TAD} {px py pz pt pos : Pos} {kt k2 pt2} (hN : X.N.Nodup) (ha : DA X K [a, b, c] ta ta') (hc : X.calm = true := by rfl) (hi : X.N[i]? = some x := by rfl) (hj : X.N[j]? = some y := by rfl) (hl : X.N[l]? = some z := by rfl) (hij : i ≠ j := by decide) (hil : i ≠ l := by decide) (hjl : j ≠ l := by decide)
    (hx : X.env.scope.names.lookup x = some .local := by rfl) (hy : X.env.scope.names.lookup y = some .local := by rfl) (hz : X.env.scope.names.lookup z = some .local := by rfl)
    (hw : swappedStores [.Tuple [.Name x px, .Name y py, .Name z pz] kt pt] (.Tuple [a, b, c] k2 pt2) X.env = pure (some [x, y, z]) := by rfl)
    (hs : swapsWithSole [.Tuple [.Name x px, .Name y py, .Name z pz] kt pt] (.Tuple [a, b, c] k2 pt2) pos.line X.env = pure false := by rfl) :
    DS X K (.Assign [.Tuple [.Name x px, .Name y py, .Name z pz] kt pt] (.Tuple [a, b, c] k2 pt2) pos) (tPar3 i j l ta) (dPar3 i j l ta') :=
  ⟨ps_par3 hc hN hi hj hl hij hil hjl hx hy hz ha.pa hw hs, fun A B M ρ σ H E D r q k => ha.sim A B M ρ σ H _ _ r q fun ds ρ' M' B' vs H' r' f m hd q' => by
    obtain ⟨d, e, g, rfl, q'⟩ := q'
    cases hd with
    | cons h1 h2 =>
      cases h2 with
      | cons h3 h4 =>
        cases h4 with
        | cons h5 h6 =>
          cases h6
          exact ⟨_, _, _, rfl, k.nx _ M' B' _ H' (((r'.set h1).set h3).set h5) f q'⟩⟩
end
end DM

namespace My
open PySem PySem.Spec PyProof.Rows L2 TK DM
def topS (i : Nat) : Stmt := PySem.Challenge.pw_timekernel_k40_clocks_count_by_count.main.body.getD i (.Pass ⟨0, 0, 0, 0⟩)
/-- statement j of the class at i -/
def metS (i j : Nat) : Stmt := match topS i with
  | .ClassDef _ _ _ body _ _ _ _ _ _ _ => body.getD j (.Pass ⟨0, 0, 0, 0⟩)
  | _ => .Pass ⟨0, 0, 0, 0⟩

structure Txt (K : PySem.W.Frag) (mg : Str → Option Value) (cState cSegment cSettings cKernel aPLAIN_CLOCKS : Addr) : Prop where
  len : mg "len" = none
  int : mg "int" = none
  range : mg "range" = none
  isinstance : mg "isinstance" = none
  bool : mg "bool" = none
  tuple : mg "tuple" = none
  list : mg "list" = none
  dict : mg "dict" = none
  max : mg "max" = none
  min : mg "min" = none
  sum : mg "sum" = none
  zip : mg "zip" = none
  sorted : mg "sorted" = none
  str : mg "str" = none
  abs : mg "abs" = none
  enumerate : mg "enumerate" = none
  mgMOST_WIDTH : ∃ t, mg "MOST_WIDTH" = some (.int (64) t)
  mgMOST_SHIFT : ∃ t, mg "MOST_SHIFT" = some (.int (64) t)
  mgMOST_MULT : ∃ t, mg "MOST_MULT" = some (.int (18446744073709551615) t)
  mgMOST_PROCESSORS : ∃ t, mg "MOST_PROCESSORS" = some (.int (8) t)
  mgLEAST_BASE : ∃ t, mg "LEAST_BASE" = some (.int (2) t)
  mgMOST_BASE : ∃ t, mg "MOST_BASE" = some (.int (64) t)
  lState : ClsAt K mg "State" cState
  lSegment : ClsAt K mg "Segment" cSegment
  lSettings : ClsAt K mg "Settings" cSettings
  lKernel : ClsAt K mg "Kernel" cKernel
  nState_settings : NoAttr K cState "settings"
  nState_cycle : NoAttr K cState "cycle"
  nState_now : NoAttr K cState "now"
  nState_segments : NoAttr K cState "segments"
  nState_owners : NoAttr K cState "owners"
  nState_made : NoAttr K cState "made"
  nState_over : NoAttr K cState "over"
  nState_limits : NoAttr K cState "limits"
  nState_asleep : NoAttr K cState "asleep"
  nState_live : NoAttr K cState "live"
  nState_expired_times : NoAttr K cState "expired_times"
  nState_slot_of : NoAttr K cState "slot_of"
  nState_slots : NoAttr K cState "slots"
  nState_untaken : NoAttr K cState "untaken"
  nState_broken : NoAttr K cState "broken"
  nState_rung : NoAttr K cState "rung"
  nState_halted : NoAttr K cState "halted"
  nState_samples : NoAttr K cState "samples"
  nState_rows : NoAttr K cState "rows"
  nState_forecast : NoAttr K cState "forecast"
  nSegment_start : NoAttr K cSegment "start"
  nSegment_shift : NoAttr K cSegment "shift"
  nSegment_mult : NoAttr K cSegment "mult"
  nSegment_worth : NoAttr K cSegment "worth"
  nSegment_before : NoAttr K cSegment "before"
  nSegment_left : NoAttr K cSegment "left"
  nSegment_step : NoAttr K cSegment "step"
  nSegment_queues : NoAttr K cSegment "queues"
  nSegment_owners : NoAttr K cSegment "owners"
  nSegment_shares : NoAttr K cSegment "shares"
  nSettings_width : NoAttr K cSettings "width"
  nSettings_rate : NoAttr K cSettings "rate"
  nSettings_processors : NoAttr K cSettings "processors"
  nSettings_tick : NoAttr K cSettings "tick"
  nSettings_base : NoAttr K cSettings "base"
  nSettings_levels : NoAttr K cSettings "levels"
  nSettings_coarse : NoAttr K cSettings "coarse"
  nKernel_state : NoAttr K cKernel "state"
  tPLAIN_CLOCKS : TupAt K mg "PLAIN_CLOCKS" aPLAIN_CLOCKS ["steady", "real", "boot"]
local macro_rules | `(tactic| walk_at "cls") => `(tactic| first | exact (Txt.lState (by assumption)).c | exact (Txt.lSegment (by assumption)).c | exact (Txt.lSettings (by assumption)).c | exact (Txt.lKernel (by assumption)).c | exact Txt.nState_settings (by assumption) | exact Txt.nState_cycle (by assumption) | exact Txt.nState_now (by assumption) | exact Txt.nState_segments (by assumption) | exact Txt.nState_owners (by assumption) | exact Txt.nState_made (by assumption) | exact Txt.nState_over (by assumption) | exact Txt.nState_limits (by assumption) | exact Txt.nState_asleep (by assumption) | exact Txt.nState_live (by assumption) | exact Txt.nState_expired_times (by assumption) | exact Txt.nState_slot_of (by assumption) | exact Txt.nState_slots (by assumption) | exact Txt.nState_untaken (by assumption) | exact Txt.nState_broken (by assumption) | exact Txt.nState_rung (by assumption) | exact Txt.nState_halted (by assumption) | exact Txt.nState_samples (by assumption) | exact Txt.nState_rows (by assumption) | exact Txt.nState_forecast (by assumption) | exact Txt.nSegment_start (by assumption) | exact Txt.nSegment_shift (by assumption) | exact Txt.nSegment_mult (by assumption) | exact Txt.nSegment_worth (by assumption) | exact Txt.nSegment_before (by assumption) | exact Txt.nSegment_left (by assumption) | exact Txt.nSegment_step (by assumption) | exact Txt.nSegment_queues (by assumption) | exact Txt.nSegment_owners (by assumption) | exact Txt.nSegment_shares (by assumption) | exact Txt.nSettings_width (by assumption) | exact Txt.nSettings_rate (by assumption) | exact Txt.nSettings_processors (by assumption) | exact Txt.nSettings_tick (by assumption) | exact Txt.nSettings_base (by assumption) | exact Txt.nSettings_levels (by assumption) | exact Txt.nSettings_coarse (by assumption) | exact Txt.nKernel_state (by assumption))
local macro_rules | `(tactic| walk_at "side") => `(tactic| first
  | with_reducible assumption
  | omega
  | (simp only [List.length_map]; omega)
  | ((with_reducible refine posLen ?h); (case h => exact rfl))
  | ((with_reducible refine ltLen ?h); (case h => exact rfl))
  | (show (0 : Int) < _; omega)
  | (show (0 : Int) ≤ _; omega)
  | with_reducible exact Dr.src (by assumption)
  | ((with_reducible refine Src.new ?h1 ?h2); (case h2 => assumption); (case h1 => walk_at "side"))
  | ((with_reducible refine Src.set ?h1 ?h2); (case h2 => assumption); (case h1 => walk_at "side"))
  | exact w200 (by omega) (by omega)
  | exact shl400 (by omega) (by omega) (by omega)
  | exact mulE1 (by omega) (by omega)
  | exact mulE2 (by omega) (by omega)
  | exact mulE3 (by omega) (by omega)
  | exact Or.inr ⟨by omega, by omega⟩
  | exact Or.inl ⟨by omega, by omega⟩
  | exact Or.inr ⟨by decide, by decide⟩
  | exact Or.inl ⟨by decide, by decide⟩
  | exact rfl
  | exact ⟨by omega, by omega, by omega⟩
  | exact ⟨by decide, by decide, by decide⟩
  | exact Nat.le_of_ble_eq_true rfl)
local macro_rules | `(tactic| walk_at "has") => `(tactic| first
  | with_reducible assumption
  | with_reducible exact upd_same
  | ((with_reducible refine upd_at ?h1 ?h2); (case h2 => assumption); (case h1 => walk_at "has"))
  | (refine Dr.at (by assumption) ?h1 ?h2; (case h1 => assumption); (case h2 => walk_at "has")))
local macro_rules | `(tactic| walk_at "sql") => `(tactic| first | assumption | exact SqL.of (by walk_at "has"))
local macro_rules | `(tactic| walk_at "sqt") => `(tactic| first | assumption | exact SqT.of (by walk_at "has"))
local macro_rules | `(tactic| walk_at "ty") => `(tactic| first | exact .base (.int _) | exact .base .non | exact .base (.bl _) | exact .base (.str _) | exact .base (.tup (by walk_at "has")) | exact .base (.lst (by walk_at "has")) | exact .base (.dK (by walk_at "has")))
local macro_rules | `(tactic| walk_at "go1") => `(tactic| first
  | refine ⟨_, rfl, ?_⟩
  | refine ⟨_, _, rfl, rfl, ?_⟩
  | (refine And.intro ?side ?_; (case side => walk_at "side"))
  | (refine ⟨?rr, IsR.mk ?eq, ?_⟩; (case eq => first | (conv => lhs; simp only [Int.reduceToNat, Int.reducePow, Int.reduceMul, Int.one_mul]) | rfl))
  | (refine Or.inl ⟨_, rfl, ?_⟩)
  | refine iteT ?_
  | refine iteF ?_
  | refine ⟨_, _, rfl, ?_⟩
  | refine ⟨_, _, rfl, Or.inl (by walk_at "sql"), ?_⟩
  | refine ⟨_, _, rfl, Or.inr (by walk_at "sqt"), ?_⟩
  | refine ⟨_, _, _, rfl, ?_⟩
  | refine ⟨_, _, _, _, rfl, rfl, by walk_at "sql", rfl, ?_⟩
  | refine ⟨_, _, _, _, rfl, rfl, by walk_at "sqt", rfl, ?_⟩
  | refine ⟨_, _, _, _, rfl, rfl, by walk_at "has", rfl, ?_⟩
  | refine ⟨_, _, _, _, _, rfl, .ty _, by walk_at "ty", kit_ty (r := true) (by decide +kernel), ?_⟩
  | refine ⟨_, _, _, _, _, rfl, .ty _, by walk_at "ty", kit_ty (r := false) (by decide +kernel), ?_⟩
  | refine ⟨_, _, rfl, by walk_at "sqt", rfl, ?_⟩
  | refine And.intro (Or.inl ⟨rfl, _, by walk_at "sql"⟩) ?_
  | refine ⟨_, _, _, rfl, rfl, by walk_at "has", Nat.le_of_ble_eq_true rfl, ?_⟩
  | refine ⟨_, _, _, _, rfl, rfl, by walk_at "has", by walk_at "has", Nat.le_of_ble_eq_true rfl, ?_⟩
  | refine And.intro ⟨_, by walk_at "sql"⟩ ?_
  | refine ⟨_, _, _, _, rfl, rfl, by walk_at "sql", at_nth (by omega) (by omega), ?_⟩
  | refine ⟨_, _, rfl, by walk_at "sql", ?_⟩
  | refine ifD (by omega) ?_
  | refine ifN (by omega) ?_
  | refine ifDn (by omega) ?_
  | refine ifNn (by omega) ?_
  | refine ifE (by omega) ?_
  | refine ifEn (by omega) ?_)
local macro_rules | `(tactic| walk_at "go") => `(tactic| repeat walk_at "go1")

local macro_rules | `(tactic| walk_at "dside") => `(tactic| first
  | with_reducible assumption
  | omega
  | exact rfl
  | exact ⟨by omega, by omega⟩
  | exact w200 (by omega) (by omega)
  | exact shl400 (by omega) (by omega) (by omega)
  | exact mulE1 (by omega) (by omega)
  | exact mulE2 (by omega) (by omega)
  | exact mulE3 (by omega) (by omega)
  | exact ⟨by omega, by omega, by omega⟩
  | exact ⟨by omega, by omega, by omega, by omega⟩
  | exact ⟨by decide, by decide, by decide⟩
  | exact Nat.le_of_ble_eq_true rfl
  | exact line (by first | omega | (simp only [List.length_append, List.length_map, List.length_cons, List.length_nil, List.length_reverse, List.length_replicate, List.length_take, List.length_drop, List.length_range, rng_len] at *; omega))
  | exact lineL (by first | omega | (simp only [List.length_append, List.length_map, List.length_cons, List.length_nil, List.length_reverse, List.length_replicate, List.length_take, List.length_drop, List.length_range, rng_len] at *; omega)))
local macro_rules | `(tactic| walk_at "dgo1") => `(tactic| first
  | refine ⟨_, rfl, ?_⟩
  | refine ⟨_, _, rfl, rfl, ?_⟩
  | (refine And.intro ?side ?_; (case side => walk_at "dside"))
  | (refine ⟨?rr, IsR.mk ?eq, ?_⟩; (case eq => first | (conv => lhs; simp only [Int.reduceToNat, Int.reducePow, Int.reduceMul, Int.one_mul]) | rfl))
  | refine iteT ?_
  | refine iteF ?_
  | refine ⟨_, _, _, rfl, rfl, rfl, ?_⟩
  | refine ⟨_, _, rfl, ?_⟩
  | refine ⟨_, _, rfl, rfl, by decide +kernel, ?_⟩
  | refine ifD (by omega) ?_
  | refine ifN (by omega) ?_
  | refine ifDn (by omega) ?_
  | refine ifNn (by omega) ?_)
local macro_rules | `(tactic| walk_at "dgo") => `(tactic| repeat walk_at "dgo1")

/-! ### draws -/
def spCell (K : PySem.W.Frag) : Sp := fun vs H Q _ => ∃ (a : Addr) (ns : List Int) (k : Int), vs = [.ref a, .int k] ∧ SqL K H a (ns.map V.int) ∧ 0 ≤ k ∧ ∀ c : Int, Q (.int c) H
def spMixed : Sp := fun vs H Q _ => ∃ (c k : Int), vs = [.int c, .int k] ∧ ∀ r : Int, 0 ≤ r → r < 2147483563 → Q (.int r) H
def spSource (K : PySem.W.Frag) : Sp := fun vs H Q _ => ∃ (a : Addr) (ns : List Int) (k : Int), vs = [.ref a, .int k] ∧ SqL K H a (ns.map V.int) ∧ 0 ≤ k ∧ ∀ (p : Addr) (x y n : Int), H p = none → Q (.ref p) (upd H p (.lst [.int x, .int y, .int n]))
def spNext : Sp := fun vs H Q _ => ∃ (a : Addr) (m : Int), vs = [.ref a, .int m] ∧ Src H a ∧ 0 < m ∧ m  < 1606938044258990275541962092341162602522202993782792835301376 ∧ ∀ (r : Int) (H' : Hp), 0 ≤ r → r < m → Dr a H H' → Q (.int r) H'
section
variable {P : Program} {w : World} {K : PySem.W.Frag} {mg : Str → Option Value} {base : Heap}
abbrev sLCellAt : Stmt := topS 107
theorem scLCellAt : FnScope ["script", "k"] ["script", "k"] (defScope sLCellAt) := ⟨rfl, rfl, rfl, by decide +kernel, rfl, by decide +kernel, by decide +kernel⟩
set_option maxHeartbeats 2000000 in
theorem ok_LCellAt {cState cSegment cSettings cKernel aPLAIN_CLOCKS : Addr} (D : DefAt K mg "_law_cell_at" sLCellAt ["script", "k"])  (T : Txt K mg cState cSegment cSettings cKernel aPLAIN_CLOCKS) : Cal P w K mg base "_law_cell_at" ["script", "k"] 1 (spCell K) := by
  refine D.cal scLCellAt (fun vs H Q E h => (by (obtain ⟨_, _, _, rfl, _⟩ := h); rfl)) (fun f cdv A outer s H vs Q E hr h => ?_)
  obtain ⟨a, ns, k, rfl, hS, h0, q⟩ := h
  refine ⟨_, pss_cons (ps_if (pt_cmpR op_lt (pv 1) (pe_callB call_len_seq (by rfl) T.len PySem.boot_len (pa_cons (pv 0) pa_nil)) (nomark _))
        (pss_one (ps_ret (pe_ix ix_list (pv 0) (pv 1) (fun _ _ => rfl))))
        pss_nil)
      (pss_one (ps_ret pe_int)), ?_⟩
  refine ⟨_, rfl, .ref a, rfl, a, _, rfl, .inl hS, _, _, rfl, rfl, _, rfl, ite2 (fun e => ?_) (fun e => ?_)⟩
  · have e1 : k < ((ns.map V.int).length : Int) := of_decide_eq_true e
    rw [List.length_map] at e1
    have hk : k.toNat < ns.length := by omega
    refine ⟨.ref a, rfl, _, rfl, a, _, k, .int (ns[k.toNat]), rfl, rfl, hS, at_of (j := k.toNat) (by omega) ?_, ?_⟩
    · rw [List.getElem?_map, List.getElem?_eq_getElem hk]
      rfl
    · exact q _
  · exact q _
abbrev sLMixed : Stmt := topS 108
theorem scLMixed : FnScope ["cell", "k", "low"] ["cell", "k"] (defScope sLMixed) := ⟨rfl, rfl, rfl, by decide +kernel, rfl, by decide +kernel, by decide +kernel⟩
set_option maxHeartbeats 2000000 in
theorem ok_LMixed {cState cSegment cSettings cKernel aPLAIN_CLOCKS : Addr} (D : DefAt K mg "_law_mixed" sLMixed ["cell", "k"])  (T : Txt K mg cState cSegment cSettings cKernel aPLAIN_CLOCKS) : Cal P w K mg base "_law_mixed" ["cell", "k"] 1 (spMixed) := by
  refine D.cal scLMixed (fun vs H Q E h => (by (obtain ⟨_, _, rfl, _⟩ := h); rfl)) (fun f cdv A outer s H vs Q E hr h => ?_)
  obtain ⟨c, k, rfl, q⟩ := h
  refine ⟨_, pss_cons (ps_set (i := 2) scLMixed.nd rfl (Or.inl rfl) (pe_op op_add (pe_op op_mod (pe_callTy call_int1 (by rfl) T.int (by decide +kernel) (pa_cons (pv 0) pa_nil)) pe_int) (pe_op op_mulE (pe_op op_fdivW (pv 0) pe_int) pe_int)))
      (pss_cons (ps_set (i := 2) scLMixed.nd rfl (Or.inl rfl) (pe_op op_mod (pe_callTy call_int1 (by rfl) T.int (by decide +kernel) (pa_cons (pe_op op_mulE (pe_op op_add (pe_op op_add (pv 2) (pe_op op_mulE pe_int (pv 1))) pe_int) pe_int) pa_nil)) pe_int))
      (pss_cons (ps_set (i := 2) scLMixed.nd rfl (Or.inl rfl) (pe_op op_mod (pe_callTy call_int1 (by rfl) T.int (by decide +kernel) (pa_cons (pe_op op_mulE (pv 2) (pe_op op_add (pe_op op_add (pe_op op_fdivW (pv 2) pe_int) pe_int) (pv 1))) pa_nil)) pe_int))
      (pss_one (ps_ret (pe_op op_mod (pe_callTy call_int1 (by rfl) T.int (by decide +kernel) (pa_cons (pe_op op_mulE (pv 2) (pe_op op_add (pe_op op_fdivW (pv 2) pe_int) pe_int)) pa_nil)) pe_int))))), ?_⟩
  walk_at "go"
  exact q _ (Int.emod_nonneg _ (by decide)) (Int.emod_lt_of_pos _ (by decide))
abbrev sLSource : Stmt := topS 109
theorem scLSource : FnScope ["script", "k", "cell"] ["script", "k"] (defScope sLSource) := ⟨rfl, rfl, rfl, by decide +kernel, rfl, by decide +kernel, by decide +kernel⟩
set_option maxHeartbeats 2000000 in
theorem ok_LSource {cState cSegment cSettings cKernel aPLAIN_CLOCKS : Addr} (D : DefAt K mg "_law_source" sLSource ["script", "k"]) (CLMixed : Cal P w K mg base "_law_mixed" ["cell", "k"] 1 (spMixed)) (CLCellAt : Cal P w K mg base "_law_cell_at" ["script", "k"] 1 (spCell K)) (T : Txt K mg cState cSegment cSettings cKernel aPLAIN_CLOCKS) : Cal P w K mg base "_law_source" ["script", "k"] 2 (spSource K) := by
  refine D.cal scLSource (fun vs H Q E h => (by (obtain ⟨_, _, _, rfl, _⟩ := h); rfl)) (fun f cdv A outer s H vs Q E hr h => ?_)
  obtain ⟨a, ns, k, rfl, hS, h0, q⟩ := h
  refine ⟨_, pss_cons (ps_if (pt_cmpR op_lt (pv 1) (pe_callB call_len_seq (by rfl) T.len PySem.boot_len (pa_cons (pv 0) pa_nil)) (nomark _))
        (pss_one (ps_ret (pe_lst (pa_cons (pe_ix ix_list (pv 0) (pv 1) (fun _ _ => rfl)) (pa_cons (pe_ix ix_list (pv 0) (pv 1) (fun _ _ => rfl)) (pa_cons pe_int pa_nil))))))
        pss_nil)
      (pss_cons (ps_set (i := 2) scLSource.nd rfl (Or.inl rfl) (pe_cal CLMixed hr (by rfl) (pa_cons (pe_cal CLCellAt hr (by rfl) (pa_cons (pv 0) (pa_cons pe_int pa_nil))) (pa_cons (pe_op op_add pe_int (pv 1)) pa_nil))))
      (pss_one (ps_ret (pe_lst (pa_cons (pv 2) (pa_cons (pv 2) (pa_cons pe_int pa_nil))))))), ?_⟩
  walk_at "go"
  refine ite2 (fun e => ?_) (fun e => ?_)
  · have e1 : k < ((ns.map V.int).length : Int) := of_decide_eq_true e
    rw [List.length_map] at e1
    have hk : k.toNat < ns.length := by omega
    have hv : (ns.map V.int)[k.toNat]? = some (.int (ns[k.toNat])) := by
      rw [List.getElem?_map, List.getElem?_eq_getElem hk]
      rfl
    have ek : k = (k.toNat : Int) := by omega
    refine ⟨.ref a, rfl, _, rfl, a, _, k, .int (ns[k.toNat]), rfl, rfl, hS, at_of ek hv, ?_⟩
    refine ⟨.ref a, rfl, _, rfl, a, _, k, .int (ns[k.toNat]), rfl, rfl, hS, at_of ek hv, ?_⟩
    walk_at "go"
    intro p hp
    exact q p _ _ _ hp
  · refine ⟨_, rfl, a, ns, 0, rfl, hS, by omega, fun c => ?_⟩
    walk_at "go"
    intro r r0 r1
    walk_at "go"
    intro p hp
    exact q p _ _ _ hp
abbrev sLNext : Stmt := topS 110
theorem scLNext : FnScope ["source", "many", "found"] ["source", "many"] (defScope sLNext) := ⟨rfl, rfl, rfl, by decide +kernel, rfl, by decide +kernel, by decide +kernel⟩
set_option maxHeartbeats 2000000 in
theorem ok_LNext {cState cSegment cSettings cKernel aPLAIN_CLOCKS : Addr} (D : DefAt K mg "_law_next" sLNext ["source", "many"]) (CLMixed : Cal P w K mg base "_law_mixed" ["cell", "k"] 1 (spMixed)) (T : Txt K mg cState cSegment cSettings cKernel aPLAIN_CLOCKS) : Cal P w K mg base "_law_next" ["source", "many"] 2 (spNext) := by
  refine D.cal scLNext (fun vs H Q E h => (by (obtain ⟨_, _, rfl, _⟩ := h); rfl)) (fun f cdv A outer s H vs Q E hr h => ?_)
  obtain ⟨a, m, rfl, ⟨x, y, n, hS⟩, h0, h1, q⟩ := h
  refine ⟨_, pss_cons (ps_if (pt_cmpR op_ge (pe_ix ix_list (pv 0) pe_int (fun _ _ => rfl)) (pe_op op_powE pe_int pe_int) (nomark _))
        (pss_cons (ps_set (i := 2) scLNext.nd rfl (Or.inl rfl) (pe_op op_mod (pe_callTy call_int1 (by rfl) T.int (by decide +kernel) (pa_cons (pe_ix ix_list (pv 0) pe_int (fun _ _ => rfl)) pa_nil)) (pv 1)))
        (pss_cons (ps_asg (pe_op op_fdivW (pe_ix ix_list (pv 0) pe_int (fun _ _ => rfl)) (pv 1)) (pg_sub (pv 0) pe_int set_list))
        (pss_one (ps_ret (pv 2)))))
        pss_nil)
      (pss_cons (ps_asg (pe_op op_add (pe_ix ix_list (pv 0) pe_int (fun _ _ => rfl)) pe_int) (pg_sub (pv 0) pe_int set_list))
      (pss_one (ps_ret (pe_op op_mod (pe_callTy call_int1 (by rfl) T.int (by decide +kernel) (pa_cons (pe_cal CLMixed hr (by rfl) (pa_cons (pe_ix ix_list (pv 0) pe_int (fun _ _ => rfl)) (pa_cons (pe_ix ix_list (pv 0) pe_int (fun _ _ => rfl)) pa_nil))) pa_nil)) (pv 1))))), ?_⟩
  walk_at "go"
  refine ite2 (fun e => ?_) (fun e => ?_)
  · walk_at "go"
    refine q _ _ (Int.emod_nonneg _ (by omega)) (Int.emod_lt_of_pos _ h0) ⟨⟨_, _, _, upd_same⟩, sb_upd⟩
  · walk_at "go"
    intro r r0 r1
    walk_at "go"
    exact q _ _ (Int.emod_nonneg _ (by omega)) (Int.emod_lt_of_pos _ h0) ⟨⟨_, _, _, upd_same⟩, sb_upd⟩

/-! ### draws, told by data -/
theorem mok_src {K : PySem.W.Frag} {A : CA} {M : Mm} {H H' : Hp} {a : Addr} (o : ROk K A M H) (ma : M a = some .src) (d : Dr a H H') : ROk K A M H' ∧ FrM M M H H' := by
  have f : Fr (Avc A M) (Avc A M) H H' := fun b u n e => ⟨d.but b u (fun z => n (by subst z; exact .inr (.inr (by rw [ma]; simp)))) e, n⟩
  have ne : ∀ b u, A.h b = some u → b ≠ a := fun b u e z => by subst z; rw [o.sep b (by rw [e]; simp)] at ma; cases ma
  refine ⟨⟨fun b mo e => ?_, fun b hb => ?_, o.sep, fun b u e => d.but b u (ne b u e) (o.sn b u e), o.md⟩, fun b u n e => ⟨d.but b u (fun z => by subst z; rw [n] at ma; cases ma) e, n⟩⟩
  · by_cases h : b = a
    · subst h
      rw [ma] at e
      cases e
      exact d.src
    · exact (o.ob b mo e).fr f fun u hu => d.but b u h hu
  · by_cases h : b = a
    · subst h
      obtain ⟨x, y, n, e⟩ := d.src
      rw [e]
      simp
    · cases q : H b with
      | none => exact absurd q (o.tr b hb)
      | some u => rw [d.but b u h q]; simp
def sdNext : SpD := fun ds M Q _ _ => ∃ (a : Addr) (m : Int), ds = [.ref a, .int m] ∧ M a = some .src ∧ 0 < m ∧ m < 1606938044258990275541962092341162602522202993782792835301376 ∧ ∀ r : Int, 0 ≤ r → r < m → Q (.int r) M
theorem mo_LNext : SpMono (sdNext) := ⟨fun ds M Q N E Q' N' E' mh mh1 mh2 mh3 => by
  obtain ⟨a, m, rfl, ma, m0, m1, q⟩ := mh
  refine ⟨a, m, rfl, ma, m0, m1, ?_⟩
  first
  | exact mh1 _ _ q
  | exact mh2 _ _ q
  | exact fun a => mh1 _ _ (q a)
  | exact fun a b => mh1 _ _ (q a b)
  | exact fun a b c => mh1 _ _ (q a b c)
  | exact fun a b c d => mh1 _ _ (q a b c d)
  | exact fun a b c d e => mh1 _ _ (q a b c d e)
  | exact fun a b c d e f => mh1 _ _ (q a b c d e f)
  | exact fun a b c d e f g => mh1 _ _ (q a b c d e f g)
  | exact fun a b c d e f g h => mh1 _ _ (q a b c d e f g h)
  | exact fun a => mh2 _ _ (q a)
  | exact fun a b => mh2 _ _ (q a b)
  | exact fun a b c => mh2 _ _ (q a b c)
  | exact fun a b c d => mh2 _ _ (q a b c d)
  | exact fun a b c d e => mh2 _ _ (q a b c d e)
  | exact ⟨fun a => mh1 _ _ (q.1 a), fun a => mh3 _ _ (q.2 a)⟩
  | exact ⟨fun a => mh2 _ _ (q.1 a), fun a => mh3 _ _ (q.2 a)⟩⟩

theorem cv_LNext (C : Cal P w K mg base "_law_next" ["source", "many"] 2 (spNext)) : Cal P w K mg base "_law_next" ["source", "many"] 2 (ofD K (sdNext)) := by
  refine calD C (fun vs H Q E h => ?_)
  obtain ⟨A, M, ds, o, hd, a, m, rfl, ma, m0, m1, q⟩ := h
  cases hd with
  | cons h1 h2 => cases h2 with
    | cons h3 h4 =>
      cases h4
      cases h1
      cases h3
      refine ⟨a, m, rfl, o.ob a _ ma, m0, m1, fun r H' r0 r1 d => ?_⟩
      obtain ⟨o', f'⟩ := mok_src o ma d
      exact q r r0 r1 _ H' o' f' (.int _)
def sdSource : SpD := fun ds M Q _ _ => ∃ (ns : List Int) (k : Int), ds = [.kl (ns.map .int), .int k] ∧ 0 ≤ k ∧ ∀ p : Addr, Q (.ref p) (addM M p .src)
theorem mo_LSource : SpMono (sdSource) := ⟨fun ds M Q N E Q' N' E' mh mh1 mh2 mh3 => by
  obtain ⟨ns, k, rfl, k0, q⟩ := mh
  refine ⟨ns, k, rfl, k0, ?_⟩
  first
  | exact mh1 _ _ q
  | exact mh2 _ _ q
  | exact fun a => mh1 _ _ (q a)
  | exact fun a b => mh1 _ _ (q a b)
  | exact fun a b c => mh1 _ _ (q a b c)
  | exact fun a b c d => mh1 _ _ (q a b c d)
  | exact fun a b c d e => mh1 _ _ (q a b c d e)
  | exact fun a b c d e f => mh1 _ _ (q a b c d e f)
  | exact fun a b c d e f g => mh1 _ _ (q a b c d e f g)
  | exact fun a b c d e f g h => mh1 _ _ (q a b c d e f g h)
  | exact fun a => mh2 _ _ (q a)
  | exact fun a b => mh2 _ _ (q a b)
  | exact fun a b c => mh2 _ _ (q a b c)
  | exact fun a b c d => mh2 _ _ (q a b c d)
  | exact fun a b c d e => mh2 _ _ (q a b c d e)
  | exact ⟨fun a => mh1 _ _ (q.1 a), fun a => mh3 _ _ (q.2 a)⟩
  | exact ⟨fun a => mh2 _ _ (q.1 a), fun a => mh3 _ _ (q.2 a)⟩⟩

theorem cv_LSource (C : Cal P w K mg base "_law_source" ["script", "k"] 2 (spSource K)) : Cal P w K mg base "_law_source" ["script", "k"] 2 (ofD K (sdSource)) := by
  refine calD C (fun vs H Q E h => ?_)
  obtain ⟨A, M, ds, o, hd, ns, k, rfl, k0, q⟩ := h
  cases hd with
  | cons h1 h2 => cases h2 with
    | cons h3 h4 =>
      cases h4
      cases h3
      cases h1 with
      | kl s l =>
        rw [l.ints] at s
        refine ⟨_, ns, k, rfl, s.sq, k0, fun p x y n hp => ?_⟩
        have mp : M p = none := by
          cases e : M p with
          | none => rfl
          | some mo => exact absurd hp (o.tr p (by rw [e]; simp))
        have ap : A.h p = none := by
          cases e : A.h p with
          | none => rfl
          | some u => rw [o.sn p u e] at hp; cases hp
        have ne : ∀ b u, H b = some u → b ≠ p := fun b u e z => by subst z; rw [hp] at e; cases e
        have k1 : ∀ b u, H b = some u → upd H p (.lst [.int x, .int y, .int n]) b = some u := fun b u e => by rw [upd_ne (ne b u e)]; exact e
        have f : Fr (Avc A M) (Avc A (addM M p .src)) H (upd H p (.lst [.int x, .int y, .int n])) := fun b u nb e => ⟨k1 b u e, fun h => by
          rcases h with h | ⟨i, h⟩ | h
          · exact nb (.inl h)
          · cases h
          · refine nb (.inr (.inr ?_))
            unfold addM at h
            rw [if_neg (ne b u e)] at h
            exact h⟩
        refine q p _ _ ⟨fun b mo e => ?_, fun b hb => ?_, fun b hb => ?_, fun b u e => k1 b u (o.sn b u e), fun b hb => ?_⟩ (fun b u nb e => ⟨k1 b u e, ?_⟩) (.ref _)
        · by_cases h : b = p
          · subst h
            rw [addM_same] at e
            cases e
            exact ⟨x, y, n, upd_same⟩
          · unfold addM at e
            rw [if_neg h] at e
            exact (o.ob b mo e).fr f fun u hu => k1 b u hu
        · by_cases h : b = p
          · subst h; rw [upd_same]; simp
          · unfold addM at hb
            rw [if_neg h] at hb
            rw [upd_ne h]
            exact o.tr b hb
        · unfold addM
          rw [if_neg fun z => hb (by subst z; exact ap)]
          exact o.sep b hb
        · unfold addM
          split
          · simp
          · exact o.md b hb
        · unfold addM
          rw [if_neg (ne b u e)]
          exact nb

/-! ### what isinstance answers of the built-in kinds -/
theorem kb_ii : kitB "int" "int" = some true := by decide +kernel
theorem kb_ib : kitB "int" "bool" = some false := by decide +kernel
theorem kb_bi : kitB "bool" "int" = some true := by decide +kernel
theorem kb_bb : kitB "bool" "bool" = some true := by decide +kernel
theorem kb_ni : kitB "NoneType" "int" = some false := by decide +kernel
theorem kb_si : kitB "str" "int" = some false := by decide +kernel
theorem kb_ti : kitB "tuple" "int" = some false := by decide +kernel
theorem kb_li : kitB "list" "int" = some false := by decide +kernel
theorem kb_di : kitB "dict" "int" = some false := by decide +kernel
theorem kb_nl : kitB "NoneType" "list" = some false := by decide +kernel
theorem kb_bl : kitB "bool" "list" = some false := by decide +kernel
theorem kb_il : kitB "int" "list" = some false := by decide +kernel
theorem kb_sl : kitB "str" "list" = some false := by decide +kernel
theorem kb_tl : kitB "tuple" "list" = some false := by decide +kernel
theorem kb_ll : kitB "list" "list" = some true := by decide +kernel
theorem kb_dl : kitB "dict" "list" = some false := by decide +kernel
local macro_rules | `(tactic| walk_at "dgo1") => `(tactic| first
  | refine ⟨_, _, rfl, rfl, kb_ii, ?_⟩ | refine ⟨_, _, rfl, rfl, kb_ib, ?_⟩ | refine ⟨_, _, rfl, rfl, kb_bi, ?_⟩ | refine ⟨_, _, rfl, rfl, kb_bb, ?_⟩
  | refine ⟨_, _, rfl, rfl, kb_ni, ?_⟩ | refine ⟨_, _, rfl, rfl, kb_si, ?_⟩ | refine ⟨_, _, rfl, rfl, kb_ti, ?_⟩ | refine ⟨_, _, rfl, rfl, kb_li, ?_⟩ | refine ⟨_, _, rfl, rfl, kb_di, ?_⟩
  | refine ⟨_, _, rfl, rfl, kb_nl, ?_⟩ | refine ⟨_, _, rfl, rfl, kb_bl, ?_⟩ | refine ⟨_, _, rfl, rfl, kb_il, ?_⟩ | refine ⟨_, _, rfl, rfl, kb_sl, ?_⟩ | refine ⟨_, _, rfl, rfl, kb_tl, ?_⟩ | refine ⟨_, _, rfl, rfl, kb_ll, ?_⟩ | refine ⟨_, _, rfl, rfl, kb_dl, ?_⟩)
local macro_rules | `(tactic| walk_at "dgo1") => `(tactic| refine ⟨_, _, _, rfl, ?_⟩)

/-! ### walking over objects -/
theorem addM_addM {M : Mm} {a : Addr} {x y : MO} : addM (addM M a x) a y = addM M a y := by
  funext b
  unfold addM
  by_cases h : b = a
  · rw [if_pos h, if_pos h]
  · rw [if_neg h, if_neg h, if_neg h]
theorem addM_none {M : Mm} {a w : Addr} {o : MO} (h : addM M a o w = none) : w ≠ a ∧ M w = none := by
  unfold addM at h
  by_cases e : w = a
  · rw [if_pos e] at h; cases h
  · rw [if_neg e] at h; exact ⟨e, h⟩
theorem ne_some {M : Mm} {a b : Addr} {o : MO} (h : M a = some o) (n : M b = none) : b ≠ a := fun e => by subst e; rw [h] at n; cases n
theorem ne_some' {M : Mm} {a b : Addr} {o : MO} (h : M a = some o) (n : M b = none) : a ≠ b := fun e => by subst e; rw [h] at n; cases n
theorem line' {n : Nat} (h : n < 16000000) : n < sizeLine := lineL h
theorem putD_len {f : Str} {d : DM.D} : ∀ {fs : List (Str × DM.D)} {k : Nat}, fs.length < k → (putD f d fs).length < k + 1
  | [], k, h => by unfold putD; simpa using h
  | (g, x) :: r, 0, h => by simp at h
  | (g, x) :: r, k + 1, h => by
    unfold putD
    have h' : r.length < k := by simpa using h
    split
    · simp only [List.length_cons]; omega
    · have := putD_len (f := f) (d := d) h'
      simp only [List.length_cons]; omega
local macro_rules | `(tactic| walk_at "fld") => `(tactic| fail)
local macro_rules | `(tactic| walk_at "flen") => `(tactic| first | ((with_reducible refine putD_len ?hl); (case hl => walk_at "flen")) | exact Nat.le_of_ble_eq_true rfl | decide | assumption | omega)
local macro_rules | `(tactic| walk_at "mem") => `(tactic| first | with_reducible assumption | exact addM_same | ((with_reducible refine (addM_ne ?hne).trans ?hmm); (case hne => first | assumption | exact Ne.symm (by assumption)); (case hmm => walk_at "mem")))
local macro_rules | `(tactic| walk_at "dgo1") => `(tactic| (refine' ⟨_, rfl, ?hlen, ?hm, ?_⟩; (case hlen => decide); (case hm => walk_at "mem")))
local macro_rules | `(tactic| walk_at "dgo1") => `(tactic| (refine' ⟨_, _, _, _, _, rfl, ?hm, ?hc, ?hn, ?hl, ?_⟩; (case hm => walk_at "mem"); (case hc => walk_at "cls"); (case hn => walk_at "cls"); (case hl => first | with_reducible assumption | walk_at "fld" | rfl)))
local macro_rules | `(tactic| walk_at "dgo1") => `(tactic| (refine' ⟨_, _, _, _, rfl, ?hm, ?hc, ?hn, ?hs, ?_⟩; (case hm => walk_at "mem"); (case hc => walk_at "cls"); (case hn => walk_at "cls"); (case hs => walk_at "flen")))
local macro_rules | `(tactic| walk_at "dgo1") => `(tactic| (refine' ⟨_, _, _, _, rfl, ?hm, rfl, ?hx, ?_⟩; (case hm => walk_at "mem"); (case hx => first | with_reducible assumption | rfl)))

section
variable {M : Mm} {p a C : Addr} {es : List (Key × DM.D)} {ds : List DM.D} {e c v : DM.D} {k : Key} {i : Int} {j : Nat} {m : Str}
theorem m_get {P : Addr → List (Key × DM.D) → Prop} (h : M p = some (.dg es)) (q : P p es) : ∃ p' es', DM.D.ref p = .ref p' ∧ M p' = some (.dg es') ∧ P p' es' := ⟨_, _, rfl, h, q⟩
theorem m_get2 {P : List (Key × DM.D) → Key → Prop} (h : M p = some (.dg es)) (hk : keyD e = some k) (q : P es k) : ∃ es' k', M p = some (.dg es') ∧ keyD e = some k' ∧ P es' k' := ⟨_, _, h, hk, q⟩
theorem m_ix {P : DM.D → Prop} (h : M p = some (.dg es)) (hk : keyD e = some k) (hv : getG es k = some v) (q : P v) : ∃ p' es' k' v', DM.D.ref p = .ref p' ∧ M p' = some (.dg es') ∧ keyD e = some k' ∧ getG es' k' = some v' ∧ P v' := ⟨_, _, _, _, rfl, h, hk, hv, q⟩
theorem m_put {P : Addr → List (Key × DM.D) → Key → Prop} (h : M p = some (.dg es)) (hk : keyD e = some k) (hl : es.length < sizeLine) (q : P p es k) : ∃ p' es' k', DM.D.ref p = .ref p' ∧ M p' = some (.dg es') ∧ keyD e = some k' ∧ es'.length < sizeLine ∧ P p' es' k' := ⟨_, _, _, rfl, h, hk, hl, q⟩
theorem m_mth {P : Addr → Prop} {dx : Addr} {fs : List (Str × DM.D)} (h : M a = some (.ins C dx fs)) (hl : fs.lookup m = none) (q : P a) : ∃ a' dx' fs', DM.D.ref a = .ref a' ∧ M a' = some (.ins C dx' fs') ∧ fs'.lookup m = none ∧ P a' := ⟨_, _, _, rfl, h, hl, q⟩
theorem m_lst {P : Addr → List DM.D → Prop} (h : M a = some (.lst ds)) (q : P a ds) : ∃ a' ds', DM.D.ref a = .ref a' ∧ M a' = some (.lst ds') ∧ P a' ds' := ⟨_, _, rfl, h, q⟩
theorem m_app2 {P : List DM.D → Prop} (h : M a = some (.lst ds)) (hl : ds.length < sizeLine) (q : P ds) : ∃ ds', M a = some (.lst ds') ∧ ds'.length < sizeLine ∧ P ds' := ⟨_, h, hl, q⟩
theorem m_ixl {P : DM.D → Prop} (h : M a = some (.lst ds)) (hc : atI ds i = some c) (q : P c) : ∃ a' ds' i' c', DM.D.ref a = .ref a' ∧ M a' = some (.lst ds') ∧ DM.D.int i = .int i' ∧ atI ds' i' = some c' ∧ P c' := ⟨_, _, _, _, rfl, h, rfl, hc, q⟩
theorem m_setl {P : Addr → List DM.D → Nat → Prop} (h : M a = some (.lst ds)) (hj : ixN ds.length i = some j) (q : P a ds j) : ∃ a' ds' k' j', DM.D.ref a = .ref a' ∧ M a' = some (.lst ds') ∧ DM.D.int i = .int k' ∧ ixN ds'.length k' = some j' ∧ P a' ds' j' := ⟨_, _, _, _, rfl, h, rfl, hj, q⟩
end
local macro_rules | `(tactic| walk_at "dgo1") => `(tactic| (refine' m_get ?hm ?_; (case hm => walk_at "mem")))
local macro_rules | `(tactic| walk_at "dgo1") => `(tactic| (refine' m_get2 ?hm rfl ?_; (case hm => walk_at "mem")))
local macro_rules | `(tactic| walk_at "dgo1") => `(tactic| (refine' m_ix ?hm rfl ?hv ?_; (case hm => walk_at "mem"); (case hv => first | with_reducible assumption | rfl)))
local macro_rules | `(tactic| walk_at "dgo1") => `(tactic| (refine' m_put ?hm rfl ?hl ?_; (case hm => walk_at "mem"); (case hl => first | exact Nat.le_of_ble_eq_true rfl | walk_at "dside")))
local macro_rules | `(tactic| walk_at "dgo1") => `(tactic| (refine' m_mth ?hm ?hl ?_; (case hm => walk_at "mem"); (case hl => first | rfl | with_reducible assumption)))
local macro_rules | `(tactic| walk_at "dgo1") => `(tactic| (refine' m_lst ?hm ?_; (case hm => walk_at "mem")))
local macro_rules | `(tactic| walk_at "dgo1") => `(tactic| (refine' m_app2 ?hm ?hl ?_; (case hm => walk_at "mem"); (case hl => first | exact Nat.le_of_ble_eq_true rfl | walk_at "dside")))
local macro_rules | `(tactic| walk_at "dgo1") => `(tactic| (refine' m_ixl ?hm ?hc ?_; (case hm => walk_at "mem"); (case hc => first | with_reducible assumption | rfl)))
local macro_rules | `(tactic| walk_at "dgo1") => `(tactic| (refine' m_setl ?hm ?hj ?_; (case hm => walk_at "mem"); (case hj => first | with_reducible assumption | rfl)))
theorem for_nil {ρ1 : DM.Env} {M1 : Mm} {R : (Nat → DM.Env → Mm → Prop) → Nat → DM.D → DM.Env → Mm → Prop} {S : DM.Env → Mm → Prop} (h : S ρ1 M1) : ∃ Pv : Nat → DM.Env → Mm → Prop, Pv 0 ρ1 M1 ∧ (∀ i d ρ M, ([] : List DM.D)[i]? = some d → Pv i ρ M → R Pv i d ρ M) ∧ ∀ ρ M, Pv ([] : List DM.D).length ρ M → S ρ M :=
  ⟨fun _ ρ M => ρ = ρ1 ∧ M = M1, ⟨rfl, rfl⟩, fun _ _ _ _ h => (by simp at h), fun _ _ ⟨h1, h2⟩ => by subst h1 h2; exact h⟩
theorem lc_nil {M1 : Mm} {R : (Nat → List DM.D → Mm → Prop) → Nat → DM.D → List DM.D → Mm → Prop} {S : List DM.D → Mm → Prop} (h : S [] M1) : ∃ Pv : Nat → List DM.D → Mm → Prop, Pv 0 [] M1 ∧ (∀ i d acc M, ([] : List DM.D)[i]? = some d → Pv i acc M → R Pv i d acc M) ∧ ∀ acc M, Pv ([] : List DM.D).length acc M → S acc M :=
  ⟨fun _ a M => a = [] ∧ M = M1, ⟨rfl, rfl⟩, fun _ _ _ _ h => (by simp at h), fun _ _ ⟨h1, h2⟩ => by subst h1 h2; exact h⟩
section
variable {K : PySem.W.Frag} {M0 : Mm} {a C dx : Addr} {fs : List (Str × DM.D)} {f : Str} {y : DM.D}
theorem m_setS {Qn : Mm → Prop} (hc : Cls K C) (hn : NoAttr K C f) (hl : fs.length < 1000) (q : Qn (addM M0 a (.ins C dx (putD f y fs)))) : ∃ a' C' dx' fs', DM.D.ref a = .ref a' ∧ addM M0 a (.ins C dx fs) a' = some (.ins C' dx' fs') ∧ Cls K C' ∧ NoAttr K C' f ∧ fs'.length < 1000 ∧ Qn (addM (addM M0 a (.ins C dx fs)) a' (.ins C' dx' (putD f y fs'))) :=
  ⟨a, C, dx, fs, rfl, addM_same, hc, hn, hl, by rw [addM_addM]; exact q⟩
end
local macro_rules | `(tactic| walk_at "dgo1") => `(tactic| (refine' m_setS ?hc ?hn ?hl ?_; (case hc => walk_at "cls"); (case hn => walk_at "cls"); (case hl => walk_at "flen")))

theorem kb_st : kitB "str" "tuple" = some false := by decide +kernel
theorem kb_tt : kitB "tuple" "tuple" = some true := by decide +kernel
local macro_rules | `(tactic| walk_at "dgo1") => `(tactic| first | refine ⟨_, _, rfl, rfl, kb_st, ?_⟩ | refine ⟨_, _, rfl, rfl, kb_tt, ?_⟩)
/-! ### checks of good arguments -/
def sdInt : SpD := fun ds M Q _ _ => ∃ (i : Int), ds = [.int i] ∧ Q (.bl true) M
theorem mo_IsInteger : SpMono (sdInt) := ⟨fun ds M Q N E Q' N' E' mh mh1 mh2 mh3 => by
  obtain ⟨i, rfl, q⟩ := mh
  refine ⟨i, rfl, ?_⟩
  first
  | exact mh1 _ _ q
  | exact mh2 _ _ q
  | exact fun a => mh1 _ _ (q a)
  | exact fun a b => mh1 _ _ (q a b)
  | exact fun a b c => mh1 _ _ (q a b c)
  | exact fun a b c d => mh1 _ _ (q a b c d)
  | exact fun a b c d e => mh1 _ _ (q a b c d e)
  | exact fun a b c d e f => mh1 _ _ (q a b c d e f)
  | exact fun a b c d e f g => mh1 _ _ (q a b c d e f g)
  | exact fun a b c d e f g h => mh1 _ _ (q a b c d e f g h)
  | exact fun a => mh2 _ _ (q a)
  | exact fun a b => mh2 _ _ (q a b)
  | exact fun a b c => mh2 _ _ (q a b c)
  | exact fun a b c d => mh2 _ _ (q a b c d)
  | exact fun a b c d e => mh2 _ _ (q a b c d e)
  | exact ⟨fun a => mh1 _ _ (q.1 a), fun a => mh3 _ _ (q.2 a)⟩
  | exact ⟨fun a => mh2 _ _ (q.1 a), fun a => mh3 _ _ (q.2 a)⟩⟩

abbrev sIsInteger : Stmt := topS 22
theorem scIsInteger : FnScope ["thing"] ["thing"] (defScope sIsInteger) := ⟨rfl, rfl, rfl, by decide +kernel, rfl, by decide +kernel, by decide +kernel⟩
set_option maxHeartbeats 2000000 in
theorem ok_IsInteger {cState cSegment cSettings cKernel aPLAIN_CLOCKS : Addr} (D : DefAt K mg "is_integer" sIsInteger ["thing"])  (T : Txt K mg cState cSegment cSettings cKernel aPLAIN_CLOCKS) : Cal P w K mg base "is_integer" ["thing"] 1 (ofD K (sdInt)) := by
  refine defD D scIsInteger (fun ds M Q N E h => (by (obtain ⟨_, rfl, _⟩ := h); rfl)) (fun f cdv Ar outer s H E ds M Q N E2 hr h => ?_)
  obtain ⟨i, rfl, q⟩ := h
  refine ⟨_, _, dss_one (ds_ret (de_and (de_call2 o_isi (by rfl) T.isinstance (by decide +kernel) (db 0) (de_db (de_ty (n := "int") (by rfl) T.int (by decide +kernel)))) (de_one (de_not (de_call2 o_isi (by rfl) T.isinstance (by decide +kernel) (db 0) (de_db (de_ty (n := "bool") (by rfl) T.bool (by decide +kernel)))))))), ?_⟩
  walk_at "dgo"
  exact q
def sdWithin : SpD := fun ds M Q _ _ => ∃ (x l g : Int), ds = [.int x, .int l, .int g] ∧ Q (.bl (decide (l ≤ x ∧ x ≤ g))) M
theorem mo_IsWithin : SpMono (sdWithin) := ⟨fun ds M Q N E Q' N' E' mh mh1 mh2 mh3 => by
  obtain ⟨x, l, g, rfl, q⟩ := mh
  refine ⟨x, l, g, rfl, ?_⟩
  first
  | exact mh1 _ _ q
  | exact mh2 _ _ q
  | exact fun a => mh1 _ _ (q a)
  | exact fun a b => mh1 _ _ (q a b)
  | exact fun a b c => mh1 _ _ (q a b c)
  | exact fun a b c d => mh1 _ _ (q a b c d)
  | exact fun a b c d e => mh1 _ _ (q a b c d e)
  | exact fun a b c d e f => mh1 _ _ (q a b c d e f)
  | exact fun a b c d e f g => mh1 _ _ (q a b c d e f g)
  | exact fun a b c d e f g h => mh1 _ _ (q a b c d e f g h)
  | exact fun a => mh2 _ _ (q a)
  | exact fun a b => mh2 _ _ (q a b)
  | exact fun a b c => mh2 _ _ (q a b c)
  | exact fun a b c d => mh2 _ _ (q a b c d)
  | exact fun a b c d e => mh2 _ _ (q a b c d e)
  | exact ⟨fun a => mh1 _ _ (q.1 a), fun a => mh3 _ _ (q.2 a)⟩
  | exact ⟨fun a => mh2 _ _ (q.1 a), fun a => mh3 _ _ (q.2 a)⟩⟩

abbrev sIsWithin : Stmt := topS 23
theorem scIsWithin : FnScope ["thing", "least", "greatest"] ["thing", "least", "greatest"] (defScope sIsWithin) := ⟨rfl, rfl, rfl, by decide +kernel, rfl, by decide +kernel, by decide +kernel⟩
set_option maxHeartbeats 2000000 in
theorem ok_IsWithin {cState cSegment cSettings cKernel aPLAIN_CLOCKS : Addr} (D : DefAt K mg "is_within" sIsWithin ["thing", "least", "greatest"]) (CIsInteger : Cal P w K mg base "is_integer" ["thing"] 1 (ofD K (sdInt))) (T : Txt K mg cState cSegment cSettings cKernel aPLAIN_CLOCKS) : Cal P w K mg base "is_within" ["thing", "least", "greatest"] 2 (ofD K (sdWithin)) := by
  refine defD D scIsWithin (fun ds M Q N E h => (by (obtain ⟨_, _, _, rfl, _⟩ := h); rfl)) (fun f cdv Ar outer s H E ds M Q N E2 hr h => ?_)
  obtain ⟨x, l, g, rfl, q⟩ := h
  refine ⟨_, _, dss_one (ds_ret (de_and (de_cal CIsInteger mo_IsInteger hr (by rfl) (da_cons (dv 0) da_nil)) (de_one (de_chain o_le o_le (db 1) (db 0) (db 2))))), ?_⟩
  walk_at "dgo"
  refine ite2 (fun e => ?_) (fun e => ?_)
  · have e1 : l ≤ x := of_decide_eq_true e
    have e2 : decide (l ≤ x ∧ x ≤ g) = decide (x ≤ g) := by
      by_cases h : x ≤ g <;> simp [e1, h]
    rw [e2] at q
    walk_at "dgo"
    exact q
  · have e1 : ¬ l ≤ x := fun h => e (decide_eq_true h)
    rw [decide_eq_false (fun h => e1 h.1)] at q
    exact q
def sdAtLeast : SpD := fun ds M Q _ _ => ∃ (x l : Int), ds = [.int x, .int l] ∧ Q (.bl (decide (l ≤ x))) M
theorem mo_IsAtLeast : SpMono (sdAtLeast) := ⟨fun ds M Q N E Q' N' E' mh mh1 mh2 mh3 => by
  obtain ⟨x, l, rfl, q⟩ := mh
  refine ⟨x, l, rfl, ?_⟩
  first
  | exact mh1 _ _ q
  | exact mh2 _ _ q
  | exact fun a => mh1 _ _ (q a)
  | exact fun a b => mh1 _ _ (q a b)
  | exact fun a b c => mh1 _ _ (q a b c)
  | exact fun a b c d => mh1 _ _ (q a b c d)
  | exact fun a b c d e => mh1 _ _ (q a b c d e)
  | exact fun a b c d e f => mh1 _ _ (q a b c d e f)
  | exact fun a b c d e f g => mh1 _ _ (q a b c d e f g)
  | exact fun a b c d e f g h => mh1 _ _ (q a b c d e f g h)
  | exact fun a => mh2 _ _ (q a)
  | exact fun a b => mh2 _ _ (q a b)
  | exact fun a b c => mh2 _ _ (q a b c)
  | exact fun a b c d => mh2 _ _ (q a b c d)
  | exact fun a b c d e => mh2 _ _ (q a b c d e)
  | exact ⟨fun a => mh1 _ _ (q.1 a), fun a => mh3 _ _ (q.2 a)⟩
  | exact ⟨fun a => mh2 _ _ (q.1 a), fun a => mh3 _ _ (q.2 a)⟩⟩

abbrev sIsAtLeast : Stmt := topS 24
theorem scIsAtLeast : FnScope ["thing", "least"] ["thing", "least"] (defScope sIsAtLeast) := ⟨rfl, rfl, rfl, by decide +kernel, rfl, by decide +kernel, by decide +kernel⟩
set_option maxHeartbeats 2000000 in
theorem ok_IsAtLeast {cState cSegment cSettings cKernel aPLAIN_CLOCKS : Addr} (D : DefAt K mg "is_at_least" sIsAtLeast ["thing", "least"]) (CIsInteger : Cal P w K mg base "is_integer" ["thing"] 1 (ofD K (sdInt))) (T : Txt K mg cState cSegment cSettings cKernel aPLAIN_CLOCKS) : Cal P w K mg base "is_at_least" ["thing", "least"] 2 (ofD K (sdAtLeast)) := by
  refine defD D scIsAtLeast (fun ds M Q N E h => (by (obtain ⟨_, _, rfl, _⟩ := h); rfl)) (fun f cdv Ar outer s H E ds M Q N E2 hr h => ?_)
  obtain ⟨x, l, rfl, q⟩ := h
  refine ⟨_, _, dss_one (ds_ret (de_and (de_cal CIsInteger mo_IsInteger hr (by rfl) (da_cons (dv 0) da_nil)) (de_one (de_cmp o_ge (db 0) (db 1) (nomark _))))), ?_⟩
  walk_at "dgo"
  exact q
def sdNat : SpD := fun ds M Q _ _ => ∃ (x : Int), ds = [.int x] ∧ 0 ≤ x ∧ Q .non M
def sdWidth : SpD := fun ds M Q _ _ => ∃ (x : Int), ds = [.int x] ∧ 1 ≤ x ∧ x ≤ 64 ∧ Q .non M
theorem mo_CheckWidth : SpMono (sdWidth) := ⟨fun ds M Q N E Q' N' E' mh mh1 mh2 mh3 => by
  obtain ⟨x, rfl, h0, h1, q⟩ := mh
  refine ⟨x, rfl, h0, h1, ?_⟩
  first
  | exact mh1 _ _ q
  | exact mh2 _ _ q
  | exact fun a => mh1 _ _ (q a)
  | exact fun a b => mh1 _ _ (q a b)
  | exact fun a b c => mh1 _ _ (q a b c)
  | exact fun a b c d => mh1 _ _ (q a b c d)
  | exact fun a b c d e => mh1 _ _ (q a b c d e)
  | exact fun a b c d e f => mh1 _ _ (q a b c d e f)
  | exact fun a b c d e f g => mh1 _ _ (q a b c d e f g)
  | exact fun a b c d e f g h => mh1 _ _ (q a b c d e f g h)
  | exact fun a => mh2 _ _ (q a)
  | exact fun a b => mh2 _ _ (q a b)
  | exact fun a b c => mh2 _ _ (q a b c)
  | exact fun a b c d => mh2 _ _ (q a b c d)
  | exact fun a b c d e => mh2 _ _ (q a b c d e)
  | exact ⟨fun a => mh1 _ _ (q.1 a), fun a => mh3 _ _ (q.2 a)⟩
  | exact ⟨fun a => mh2 _ _ (q.1 a), fun a => mh3 _ _ (q.2 a)⟩⟩

abbrev sCheckWidth : Stmt := topS 25
theorem scCheckWidth : FnScope ["width"] ["width"] (defScope sCheckWidth) := ⟨rfl, rfl, rfl, by decide +kernel, rfl, by decide +kernel, by decide +kernel⟩
set_option maxHeartbeats 2000000 in
theorem ok_CheckWidth {cState cSegment cSettings cKernel aPLAIN_CLOCKS : Addr} (D : DefAt K mg "check_width" sCheckWidth ["width"]) (CIsWithin : Cal P w K mg base "is_within" ["thing", "least", "greatest"] 2 (ofD K (sdWithin))) (T : Txt K mg cState cSegment cSettings cKernel aPLAIN_CLOCKS) : Cal P w K mg base "check_width" ["width"] 3 (ofD K (sdWidth)) := by
  refine defD D scCheckWidth (fun ds M Q N E h => (by (obtain ⟨_, rfl, _⟩ := h); rfl)) (fun f cdv Ar outer s H E ds M Q N E2 hr h => ?_)
  obtain ⟨x, rfl, h0, h1, q⟩ := h
  refine ⟨_, _, dss_one (ds_if (dt_not (dt_val (de_cal CIsWithin mo_IsWithin hr (by rfl) (da_cons (dv 0) (da_cons de_int (da_cons (de_gint (by rfl) T.mgMOST_WIDTH) da_nil))))))
        (dss_one ds_never)
        dss_nil), ?_⟩
  walk_at "dgo"
  exact q
def sdShift : SpD := fun ds M Q _ _ => ∃ (x : Int), ds = [.int x] ∧ 0 ≤ x ∧ x ≤ 64 ∧ Q .non M
theorem mo_CheckShift : SpMono (sdShift) := ⟨fun ds M Q N E Q' N' E' mh mh1 mh2 mh3 => by
  obtain ⟨x, rfl, h0, h1, q⟩ := mh
  refine ⟨x, rfl, h0, h1, ?_⟩
  first
  | exact mh1 _ _ q
  | exact mh2 _ _ q
  | exact fun a => mh1 _ _ (q a)
  | exact fun a b => mh1 _ _ (q a b)
  | exact fun a b c => mh1 _ _ (q a b c)
  | exact fun a b c d => mh1 _ _ (q a b c d)
  | exact fun a b c d e => mh1 _ _ (q a b c d e)
  | exact fun a b c d e f => mh1 _ _ (q a b c d e f)
  | exact fun a b c d e f g => mh1 _ _ (q a b c d e f g)
  | exact fun a b c d e f g h => mh1 _ _ (q a b c d e f g h)
  | exact fun a => mh2 _ _ (q a)
  | exact fun a b => mh2 _ _ (q a b)
  | exact fun a b c => mh2 _ _ (q a b c)
  | exact fun a b c d => mh2 _ _ (q a b c d)
  | exact fun a b c d e => mh2 _ _ (q a b c d e)
  | exact ⟨fun a => mh1 _ _ (q.1 a), fun a => mh3 _ _ (q.2 a)⟩
  | exact ⟨fun a => mh2 _ _ (q.1 a), fun a => mh3 _ _ (q.2 a)⟩⟩

abbrev sCheckShift : Stmt := topS 26
theorem scCheckShift : FnScope ["shift"] ["shift"] (defScope sCheckShift) := ⟨rfl, rfl, rfl, by decide +kernel, rfl, by decide +kernel, by decide +kernel⟩
set_option maxHeartbeats 2000000 in
theorem ok_CheckShift {cState cSegment cSettings cKernel aPLAIN_CLOCKS : Addr} (D : DefAt K mg "check_shift" sCheckShift ["shift"]) (CIsWithin : Cal P w K mg base "is_within" ["thing", "least", "greatest"] 2 (ofD K (sdWithin))) (T : Txt K mg cState cSegment cSettings cKernel aPLAIN_CLOCKS) : Cal P w K mg base "check_shift" ["shift"] 3 (ofD K (sdShift)) := by
  refine defD D scCheckShift (fun ds M Q N E h => (by (obtain ⟨_, rfl, _⟩ := h); rfl)) (fun f cdv Ar outer s H E ds M Q N E2 hr h => ?_)
  obtain ⟨x, rfl, h0, h1, q⟩ := h
  refine ⟨_, _, dss_one (ds_if (dt_not (dt_val (de_cal CIsWithin mo_IsWithin hr (by rfl) (da_cons (dv 0) (da_cons de_int (da_cons (de_gint (by rfl) T.mgMOST_SHIFT) da_nil))))))
        (dss_one ds_never)
        dss_nil), ?_⟩
  walk_at "dgo"
  exact q
def pr2 (a b : Int) : DM.D := .tup [.int a, .int b]
def sdRate : SpD := fun ds M Q _ _ => ∃ (m s : Int), ds = [pr2 m s] ∧ 1 ≤ m ∧ m ≤ 18446744073709551615 ∧ 0 ≤ s ∧ s ≤ 64 ∧ Q .non M
theorem mo_CheckRate : SpMono (sdRate) := ⟨fun ds M Q N E Q' N' E' mh mh1 mh2 mh3 => by
  obtain ⟨m, s, rfl, m0, m1, s0, s1, q⟩ := mh
  refine ⟨m, s, rfl, m0, m1, s0, s1, ?_⟩
  first
  | exact mh1 _ _ q
  | exact mh2 _ _ q
  | exact fun a => mh1 _ _ (q a)
  | exact fun a b => mh1 _ _ (q a b)
  | exact fun a b c => mh1 _ _ (q a b c)
  | exact fun a b c d => mh1 _ _ (q a b c d)
  | exact fun a b c d e => mh1 _ _ (q a b c d e)
  | exact fun a b c d e f => mh1 _ _ (q a b c d e f)
  | exact fun a b c d e f g => mh1 _ _ (q a b c d e f g)
  | exact fun a b c d e f g h => mh1 _ _ (q a b c d e f g h)
  | exact fun a => mh2 _ _ (q a)
  | exact fun a b => mh2 _ _ (q a b)
  | exact fun a b c => mh2 _ _ (q a b c)
  | exact fun a b c d => mh2 _ _ (q a b c d)
  | exact fun a b c d e => mh2 _ _ (q a b c d e)
  | exact ⟨fun a => mh1 _ _ (q.1 a), fun a => mh3 _ _ (q.2 a)⟩
  | exact ⟨fun a => mh2 _ _ (q.1 a), fun a => mh3 _ _ (q.2 a)⟩⟩

abbrev sCheckRate : Stmt := topS 27
theorem scCheckRate : FnScope ["rate"] ["rate"] (defScope sCheckRate) := ⟨rfl, rfl, rfl, by decide +kernel, rfl, by decide +kernel, by decide +kernel⟩
set_option maxHeartbeats 2000000 in
theorem ok_CheckRate {cState cSegment cSettings cKernel aPLAIN_CLOCKS : Addr} (D : DefAt K mg "check_rate" sCheckRate ["rate"]) (CCheckShift : Cal P w K mg base "check_shift" ["shift"] 3 (ofD K (sdShift))) (CIsWithin : Cal P w K mg base "is_within" ["thing", "least", "greatest"] 2 (ofD K (sdWithin))) (T : Txt K mg cState cSegment cSettings cKernel aPLAIN_CLOCKS) : Cal P w K mg base "check_rate" ["rate"] 4 (ofD K (sdRate)) := by
  refine defD D scCheckRate (fun ds M Q N E h => (by (obtain ⟨_, _, rfl, _⟩ := h); rfl)) (fun f cdv Ar outer s H E ds M Q N E2 hr h => ?_)
  obtain ⟨m, s, rfl, m0, m1, s0, s1, q⟩ := h
  refine ⟨_, _, dss_cons (ds_if (dt_w (dw_or (dt_not (dt_val (de_call2 o_isi (by rfl) T.isinstance (by decide +kernel) (db 0) (de_db (de_ty (n := "tuple") (by rfl) T.tuple (by decide +kernel)))))) (dw_or1 (dt_cmp o_neI (de_db (de_call1 o_len (by rfl) T.len PySem.boot_len (db 0))) (de_db de_int) (nomark _)))))
        (dss_one ds_never)
        dss_nil)
      (dss_cons (ds_if (dt_not (dt_val (de_cal CIsWithin mo_IsWithin hr (by rfl) (da_cons (de_ix o_ixT (db 0) (de_db de_int) (fun _ _ => rfl)) (da_cons de_int (da_cons (de_gint (by rfl) T.mgMOST_MULT) da_nil))))))
        (dss_one ds_never)
        dss_nil)
      (dss_one (ds_expr (de_cal CCheckShift mo_CheckShift hr (by rfl) (da_cons (de_ix o_ixT (db 0) (de_db de_int) (fun _ _ => rfl)) da_nil))))), ?_⟩
  walk_at "dgo"
  exact q
def sdRdg : SpD := fun ds M Q _ _ => ∃ (x : Int), ds = [.int x] ∧ Q .non M
theorem mo_CheckReading : SpMono (sdRdg) := ⟨fun ds M Q N E Q' N' E' mh mh1 mh2 mh3 => by
  obtain ⟨x, rfl, q⟩ := mh
  refine ⟨x, rfl, ?_⟩
  first
  | exact mh1 _ _ q
  | exact mh2 _ _ q
  | exact fun a => mh1 _ _ (q a)
  | exact fun a b => mh1 _ _ (q a b)
  | exact fun a b c => mh1 _ _ (q a b c)
  | exact fun a b c d => mh1 _ _ (q a b c d)
  | exact fun a b c d e => mh1 _ _ (q a b c d e)
  | exact fun a b c d e f => mh1 _ _ (q a b c d e f)
  | exact fun a b c d e f g => mh1 _ _ (q a b c d e f g)
  | exact fun a b c d e f g h => mh1 _ _ (q a b c d e f g h)
  | exact fun a => mh2 _ _ (q a)
  | exact fun a b => mh2 _ _ (q a b)
  | exact fun a b c => mh2 _ _ (q a b c)
  | exact fun a b c d => mh2 _ _ (q a b c d)
  | exact fun a b c d e => mh2 _ _ (q a b c d e)
  | exact ⟨fun a => mh1 _ _ (q.1 a), fun a => mh3 _ _ (q.2 a)⟩
  | exact ⟨fun a => mh2 _ _ (q.1 a), fun a => mh3 _ _ (q.2 a)⟩⟩

abbrev sCheckReading : Stmt := topS 29
theorem scCheckReading : FnScope ["reading"] ["reading"] (defScope sCheckReading) := ⟨rfl, rfl, rfl, by decide +kernel, rfl, by decide +kernel, by decide +kernel⟩
set_option maxHeartbeats 2000000 in
theorem ok_CheckReading {cState cSegment cSettings cKernel aPLAIN_CLOCKS : Addr} (D : DefAt K mg "check_reading" sCheckReading ["reading"]) (CIsInteger : Cal P w K mg base "is_integer" ["thing"] 1 (ofD K (sdInt))) (T : Txt K mg cState cSegment cSettings cKernel aPLAIN_CLOCKS) : Cal P w K mg base "check_reading" ["reading"] 3 (ofD K (sdRdg)) := by
  refine defD D scCheckReading (fun ds M Q N E h => (by (obtain ⟨_, rfl, _⟩ := h); rfl)) (fun f cdv Ar outer s H E ds M Q N E2 hr h => ?_)
  obtain ⟨x, rfl, q⟩ := h
  refine ⟨_, _, dss_one (ds_if (dt_not (dt_val (de_cal CIsInteger mo_IsInteger hr (by rfl) (da_cons (dv 0) da_nil))))
        (dss_one ds_never)
        dss_nil), ?_⟩
  walk_at "dgo"
  exact q
def sdTick : SpD := fun ds M Q _ _ => ∃ (x : Int), ds = [.int x] ∧ 1 ≤ x ∧ Q .non M
theorem mo_CheckTick : SpMono (sdTick) := ⟨fun ds M Q N E Q' N' E' mh mh1 mh2 mh3 => by
  obtain ⟨x, rfl, h0, q⟩ := mh
  refine ⟨x, rfl, h0, ?_⟩
  first
  | exact mh1 _ _ q
  | exact mh2 _ _ q
  | exact fun a => mh1 _ _ (q a)
  | exact fun a b => mh1 _ _ (q a b)
  | exact fun a b c => mh1 _ _ (q a b c)
  | exact fun a b c d => mh1 _ _ (q a b c d)
  | exact fun a b c d e => mh1 _ _ (q a b c d e)
  | exact fun a b c d e f => mh1 _ _ (q a b c d e f)
  | exact fun a b c d e f g => mh1 _ _ (q a b c d e f g)
  | exact fun a b c d e f g h => mh1 _ _ (q a b c d e f g h)
  | exact fun a => mh2 _ _ (q a)
  | exact fun a b => mh2 _ _ (q a b)
  | exact fun a b c => mh2 _ _ (q a b c)
  | exact fun a b c d => mh2 _ _ (q a b c d)
  | exact fun a b c d e => mh2 _ _ (q a b c d e)
  | exact ⟨fun a => mh1 _ _ (q.1 a), fun a => mh3 _ _ (q.2 a)⟩
  | exact ⟨fun a => mh2 _ _ (q.1 a), fun a => mh3 _ _ (q.2 a)⟩⟩

abbrev sCheckTick : Stmt := topS 28
theorem scCheckTick : FnScope ["tick"] ["tick"] (defScope sCheckTick) := ⟨rfl, rfl, rfl, by decide +kernel, rfl, by decide +kernel, by decide +kernel⟩
set_option maxHeartbeats 2000000 in
theorem ok_CheckTick {cState cSegment cSettings cKernel aPLAIN_CLOCKS : Addr} (D : DefAt K mg "check_tick" sCheckTick ["tick"]) (CIsAtLeast : Cal P w K mg base "is_at_least" ["thing", "least"] 2 (ofD K (sdAtLeast))) (T : Txt K mg cState cSegment cSettings cKernel aPLAIN_CLOCKS) : Cal P w K mg base "check_tick" ["tick"] 3 (ofD K (sdTick)) := by
  refine defD D scCheckTick (fun ds M Q N E h => (by (obtain ⟨_, rfl, _⟩ := h); rfl)) (fun f cdv Ar outer s H E ds M Q N E2 hr h => ?_)
  obtain ⟨x, rfl, h0, q⟩ := h
  refine ⟨_, _, dss_one (ds_if (dt_not (dt_val (de_cal CIsAtLeast mo_IsAtLeast hr (by rfl) (da_cons (dv 0) (da_cons de_int da_nil)))))
        (dss_one ds_never)
        dss_nil), ?_⟩
  walk_at "dgo"
  exact q
theorem mo_CheckReadingFromZero : SpMono (sdNat) := ⟨fun ds M Q N E Q' N' E' mh mh1 mh2 mh3 => by
  obtain ⟨x, rfl, h0, q⟩ := mh
  refine ⟨x, rfl, h0, ?_⟩
  first
  | exact mh1 _ _ q
  | exact mh2 _ _ q
  | exact fun a => mh1 _ _ (q a)
  | exact fun a b => mh1 _ _ (q a b)
  | exact fun a b c => mh1 _ _ (q a b c)
  | exact fun a b c d => mh1 _ _ (q a b c d)
  | exact fun a b c d e => mh1 _ _ (q a b c d e)
  | exact fun a b c d e f => mh1 _ _ (q a b c d e f)
  | exact fun a b c d e f g => mh1 _ _ (q a b c d e f g)
  | exact fun a b c d e f g h => mh1 _ _ (q a b c d e f g h)
  | exact fun a => mh2 _ _ (q a)
  | exact fun a b => mh2 _ _ (q a b)
  | exact fun a b c => mh2 _ _ (q a b c)
  | exact fun a b c d => mh2 _ _ (q a b c d)
  | exact fun a b c d e => mh2 _ _ (q a b c d e)
  | exact ⟨fun a => mh1 _ _ (q.1 a), fun a => mh3 _ _ (q.2 a)⟩
  | exact ⟨fun a => mh2 _ _ (q.1 a), fun a => mh3 _ _ (q.2 a)⟩⟩

abbrev sCheckReadingFromZero : Stmt := topS 30
theorem scCheckReadingFromZero : FnScope ["reading"] ["reading"] (defScope sCheckReadingFromZero) := ⟨rfl, rfl, rfl, by decide +kernel, rfl, by decide +kernel, by decide +kernel⟩
set_option maxHeartbeats 2000000 in
theorem ok_CheckReadingFromZero {cState cSegment cSettings cKernel aPLAIN_CLOCKS : Addr} (D : DefAt K mg "check_reading_from_zero" sCheckReadingFromZero ["reading"]) (CIsAtLeast : Cal P w K mg base "is_at_least" ["thing", "least"] 2 (ofD K (sdAtLeast))) (T : Txt K mg cState cSegment cSettings cKernel aPLAIN_CLOCKS) : Cal P w K mg base "check_reading_from_zero" ["reading"] 3 (ofD K (sdNat)) := by
  refine defD D scCheckReadingFromZero (fun ds M Q N E h => (by (obtain ⟨_, rfl, _⟩ := h); rfl)) (fun f cdv Ar outer s H E ds M Q N E2 hr h => ?_)
  obtain ⟨x, rfl, h0, q⟩ := h
  refine ⟨_, _, dss_one (ds_if (dt_not (dt_val (de_cal CIsAtLeast mo_IsAtLeast hr (by rfl) (da_cons (dv 0) (da_cons de_int da_nil)))))
        (dss_one ds_never)
        dss_nil), ?_⟩
  walk_at "dgo"
  exact q
/-! ### settings -/
abbrev Fs := List (Str × DM.D)
abbrev atF (fs : Fs) (f : Str) : Option DM.D := fs.lookup f
def sdSettings (cSettings : Addr) : SpD := fun ds M Q _ _ => ∃ (a dx : Addr) (w r p t b l c : DM.D), ds = [.ref a, w, r, p, t, b, l, c] ∧ M a = some (.ins cSettings dx []) ∧ Q .non (addM M a (.ins cSettings dx [("width", w), ("rate", r), ("processors", p), ("tick", t), ("base", b), ("levels", l), ("coarse", c)]))
theorem mo_SettingsInit {cSettings : Addr} : SpMono (sdSettings cSettings) := ⟨fun ds M Q N E Q' N' E' mh mh1 mh2 mh3 => by
  obtain ⟨a, dx, w, r, p, t, b, l, c, rfl, ha, q⟩ := mh
  refine ⟨a, dx, w, r, p, t, b, l, c, rfl, ha, ?_⟩
  first
  | exact mh1 _ _ q
  | exact mh2 _ _ q
  | exact fun a => mh1 _ _ (q a)
  | exact fun a b => mh1 _ _ (q a b)
  | exact fun a b c => mh1 _ _ (q a b c)
  | exact fun a b c d => mh1 _ _ (q a b c d)
  | exact fun a b c d e => mh1 _ _ (q a b c d e)
  | exact fun a b c d e f => mh1 _ _ (q a b c d e f)
  | exact fun a b c d e f g => mh1 _ _ (q a b c d e f g)
  | exact fun a b c d e f g h => mh1 _ _ (q a b c d e f g h)
  | exact fun a => mh2 _ _ (q a)
  | exact fun a b => mh2 _ _ (q a b)
  | exact fun a b c => mh2 _ _ (q a b c)
  | exact fun a b c d => mh2 _ _ (q a b c d)
  | exact fun a b c d e => mh2 _ _ (q a b c d e)
  | exact ⟨fun a => mh1 _ _ (q.1 a), fun a => mh3 _ _ (q.2 a)⟩
  | exact ⟨fun a => mh2 _ _ (q.1 a), fun a => mh3 _ _ (q.2 a)⟩⟩

abbrev sSettingsInit : Stmt := metS 91 0
theorem scSettingsInit : FnScope ["self", "width", "rate", "processors", "tick", "base", "levels", "coarse"] ["self", "width", "rate", "processors", "tick", "base", "levels", "coarse"] (defScope sSettingsInit) := ⟨rfl, rfl, rfl, by decide +kernel, rfl, by decide +kernel, by decide +kernel⟩
set_option maxHeartbeats 2000000 in
theorem ok_SettingsInit {cState cSegment cSettings cKernel aPLAIN_CLOCKS : Addr} (D : MakAt K mg "Settings" cSettings "Settings.__init__" sSettingsInit ["self", "width", "rate", "processors", "tick", "base", "levels", "coarse"])  (T : Txt K mg cState cSegment cSettings cKernel aPLAIN_CLOCKS) : MakCal P w K mg base "Settings" cSettings ["self", "width", "rate", "processors", "tick", "base", "levels", "coarse"] 1 (ofD K (sdSettings cSettings)) := by
  refine defMak D scSettingsInit (fun ds M Q N E h => (by (obtain ⟨_, _, _, _, _, _, _, _, _, rfl, _⟩ := h); rfl)) (fun g f cdv Ar outer s H E ds M Q N E2 hr hx h => ?_)
  obtain ⟨a, dx, w, r, p, t, b, l, c, rfl, ha, q⟩ := h
  refine ⟨_, _, dss_cons (ds_setF (db 0) (dv 1))
      (dss_cons (ds_setF (db 0) (dv 2))
      (dss_cons (ds_setF (db 0) (dv 3))
      (dss_cons (ds_setF (db 0) (dv 4))
      (dss_cons (ds_setF (db 0) (dv 5))
      (dss_cons (ds_setF (db 0) (dv 6))
      (dss_one (ds_setF (db 0) (dv 7)))))))), ?_⟩
  walk_at "dgo"
  simp only [addM_addM]
  exact q
def sdLevels : SpD := fun ds M Q _ _ => ds = [.non] ∧ Q (.tup [.str "queue"]) M
theorem mo_CheckedLevels : SpMono (sdLevels) := ⟨fun ds M Q N E Q' N' E' mh mh1 mh2 mh3 => by
  obtain ⟨rfl, q⟩ := mh
  refine ⟨rfl, ?_⟩
  first
  | exact mh1 _ _ q
  | exact mh2 _ _ q
  | exact fun a => mh1 _ _ (q a)
  | exact fun a b => mh1 _ _ (q a b)
  | exact fun a b c => mh1 _ _ (q a b c)
  | exact fun a b c d => mh1 _ _ (q a b c d)
  | exact fun a b c d e => mh1 _ _ (q a b c d e)
  | exact fun a b c d e f => mh1 _ _ (q a b c d e f)
  | exact fun a b c d e f g => mh1 _ _ (q a b c d e f g)
  | exact fun a b c d e f g h => mh1 _ _ (q a b c d e f g h)
  | exact fun a => mh2 _ _ (q a)
  | exact fun a b => mh2 _ _ (q a b)
  | exact fun a b c => mh2 _ _ (q a b c)
  | exact fun a b c d => mh2 _ _ (q a b c d)
  | exact fun a b c d e => mh2 _ _ (q a b c d e)
  | exact ⟨fun a => mh1 _ _ (q.1 a), fun a => mh3 _ _ (q.2 a)⟩
  | exact ⟨fun a => mh2 _ _ (q.1 a), fun a => mh3 _ _ (q.2 a)⟩⟩

abbrev sCheckedLevels : Stmt := topS 93
theorem scCheckedLevels : FnScope ["levels", "word"] ["levels"] (defScope sCheckedLevels) := ⟨rfl, rfl, rfl, by decide +kernel, rfl, by decide +kernel, by decide +kernel⟩
set_option maxHeartbeats 2000000 in
theorem ok_CheckedLevels {cState cSegment cSettings cKernel aPLAIN_CLOCKS : Addr} (D : DefAt K mg "checked_levels" sCheckedLevels ["levels"])  (T : Txt K mg cState cSegment cSettings cKernel aPLAIN_CLOCKS) : Cal P w K mg base "checked_levels" ["levels"] 1 (ofD K (sdLevels)) := by
  refine defD D scCheckedLevels (fun ds M Q N E h => (by (obtain ⟨rfl, _⟩ := h); rfl)) (fun f cdv Ar outer s H E ds M Q N E2 hr h => ?_)
  obtain ⟨rfl, q⟩ := h
  refine ⟨_, _, dss_cons (ds_if (dt_cmp o_isN (db 0) (de_db de_non) (nomark _))
        (dss_one (ds_ret (de_tup (da_cons de_str da_nil))))
        dss_nil)
      (dss_cons ds_never
      (dss_cons ds_never
      (dss_one ds_never))), ?_⟩
  walk_at "dgo"
  exact q

/-! ### what stays as it is -/
structure Seg where
  start : Int
  shift : Int
  mult : Int
  steady : Int
  real : Int
  boot : Int
  before : Int
  left : Int
  step : Int
  n : Nat
def queD : DM.D := .tup [.tup [], .non, .int 0]
def segF (w : Addr) (g : Seg) (sh : DM.D) : Fs := [("start", .int g.start), ("shift", .int g.shift), ("mult", .int g.mult), ("worth", .ref w), ("before", .int g.before), ("left", .int g.left), ("step", .int g.step), ("queues", .lst (List.replicate g.n queD)), ("owners", .tup []), ("shares", sh)]
def worthG (g : Seg) : List (Key × DM.D) := [(.inr "steady", .int g.steady), (.inr "real", .int g.real), (.inr "boot", .int g.boot)]
/-- what a thing may become: a segment may note its shares -/
def Alt (cG : Addr) (o : MO) (x : Option MO) : Prop := x = some o ∨ ∃ dx w g, o = .ins cG dx (segF w g .non) ∧ x = some (.ins cG dx (segF w g (.fK [] [])))
/-- but for N all stays -/
structure Fram (cG : Addr) (N : Addr → Prop) (M M' : Mm) : Prop where
  to : ∀ a o, ¬ N a → M a = some o → Alt cG o (M' a)
  up : ∀ a, M a ≠ none → M' a ≠ none
abbrev none' : Addr → Prop := fun _ => False
abbrev newIn (M : Mm) : Addr → Prop := fun a => M a = none
section
variable {cG : Addr} {N N' : Addr → Prop} {M M1 M2 M3 : Mm}
theorem Fram.refl : Fram cG N M M := ⟨fun _ _ _ h => .inl h, fun _ h => h⟩
theorem Alt.some {o : MO} {x : Option MO} (h : Alt cG o x) : ∃ o', x = some o' := by
  rcases h with h | ⟨dx, w, g, _, h⟩
  · exact ⟨_, h⟩
  · exact ⟨_, h⟩
theorem Fram.trans (a : Fram cG N M M1) (b : Fram cG N M1 M2) : Fram cG N M M2 := ⟨fun x o n h => by
  rcases a.to x o n h with h1 | ⟨dx, w, g, rfl, h1⟩
  · exact b.to x o n h1
  · rcases b.to x _ n h1 with h2 | ⟨dx2, w2, g2, e, _⟩
    · exact .inr ⟨dx, w, g, rfl, h2⟩
    · exfalso
      have e := congrArg (fun o => match o with | MO.ins _ _ fs => fs.lookup ("shares" : Str) | _ => none) e
      exact absurd (show some (DM.D.fK [] []) = some DM.D.non from e) (by simp), fun x h => b.up x (a.up x h)⟩
theorem Fram.mono (a : Fram cG N M M1) (h : ∀ x, N x → N' x) : Fram cG N' M M1 := ⟨fun x o n e => a.to x o (fun z => n (h x z)) e, a.up⟩
theorem Fram.put {a : Addr} {o : MO} (h : N a) : Fram cG N M (addM M a o) := ⟨fun x u n e => .inl (by rw [addM_ne (fun z => n (by rw [z]; exact h))]; exact e), fun x e => by
  by_cases z : x = a
  · rw [z, addM_same]; exact fun z => nomatch z
  · rw [addM_ne z]; exact e⟩
theorem Fram.new {a : Addr} {o : MO} (h : M a = none) : Fram cG N M (addM M a o) := ⟨fun x u n e => .inl (by rw [addM_ne (fun z => by rw [z, h] at e; cases e)]; exact e), fun x e => by
  rw [addM_ne (fun z => by rw [z] at e; exact e h)]; exact e⟩
/-- seen from an earlier place: what is new there may change -/
theorem Fram.from (a : Fram cG none' M M1) (b : Fram cG (newIn M) M1 M2) : Fram cG none' M M2 := ⟨fun x o _ h => by
  have nn : ¬ newIn M x := fun z => by rw [show M x = none from z] at h; cases h
  exact ((a.mono (N' := newIn M) (fun _ z => z.elim)).trans b).to x o nn h, fun x h => b.up x (a.up x h)⟩
theorem Fram.gone (a : Fram cG N M M1) {x : Addr} (h : M1 x = none) : M x = none := by
  cases e : M x with
  | none => rfl
  | some o => exact absurd h (a.up x (by rw [e]; exact fun z => nomatch z))
theorem Fram.same (a : Fram cG N M M1) (h : ∀ x, M x ≠ none → M2 x = M1 x) : Fram cG N M M2 := ⟨fun x o n e => by rw [h x (by rw [e]; exact fun z => nomatch z)]; exact a.to x o n e, fun x e => by rw [h x e]; exact a.up x e⟩
theorem Fram.lst (a : Fram cG N M M1) {x : Addr} {ds : List DM.D} (n : ¬ N x) (h : M x = some (.lst ds)) : M1 x = some (.lst ds) := by
  rcases a.to x _ n h with h | ⟨_, _, _, e, _⟩
  · exact h
  · cases e
theorem Fram.dg (a : Fram cG N M M1) {x : Addr} {ds : List (Key × DM.D)} (n : ¬ N x) (h : M x = some (.dg ds)) : M1 x = some (.dg ds) := by
  rcases a.to x _ n h with h | ⟨_, _, _, e, _⟩
  · exact h
  · cases e
theorem Fram.src (a : Fram cG N M M1) {x : Addr} (n : ¬ N x) (h : M x = some .src) : M1 x = some .src := by
  rcases a.to x _ n h with h | ⟨_, _, _, e, _⟩
  · exact h
  · cases e
theorem Fram.ins (a : Fram cG N M M1) {x C dx : Addr} {fs : Fs} (n : ¬ N x) (h : M x = some (.ins C dx fs)) (l : fs.lookup ("shares" : Str) = none) : M1 x = some (.ins C dx fs) := by
  rcases a.to x _ n h with h | ⟨_, w, g, e, _⟩
  · exact h
  · injection e with _ _ e
    subst e
    exact absurd (show some DM.D.non = none from l) (by simp)
/-- a segment -/
def RepG (cG : Addr) (M : Mm) (a w : Addr) (g : Seg) : Prop := ∃ dx sh, M a = some (.ins cG dx (segF w g sh)) ∧ M w = some (.dg (worthG g)) ∧ (sh = .non ∨ sh = .fK [] [])
theorem RepG.fram {a w : Addr} {g : Seg} (r : RepG cG M a w g) (f : Fram cG N M M1) (na : ¬ N a) (nw : ¬ N w) : RepG cG M1 a w g := by
  obtain ⟨dx, sh, h1, h2, h3⟩ := r
  rcases f.to a _ na h1 with h | ⟨dx2, w2, g2, e, h⟩
  · exact ⟨dx, sh, h, f.dg nw h2, h3⟩
  · refine ⟨dx, .fK [] [], ?_, f.dg nw h2, .inr rfl⟩
    injection e with _ e1 e2
    subst e1
    have e3 : putD "shares" (.fK [] []) (segF w g sh) = putD "shares" (.fK [] []) (segF w2 g2 .non) := congrArg _ e2
    have l : segF w g (.fK [] []) = segF w2 g2 (.fK [] []) := e3
    rw [h, l]
theorem RepG.same {a w : Addr} {g : Seg} (r : RepG cG M a w g) (h : ∀ b, b = a ∨ b = w → M1 b = M b) : RepG cG M1 a w g := by
  obtain ⟨dx, sh, h1, h2, h3⟩ := r
  exact ⟨dx, sh, by rw [h a (.inl rfl)]; exact h1, by rw [h w (.inr rfl)]; exact h2, h3⟩
end

/-- the settings -/
structure Sett where
  w : Int
  m : Int
  s : Int
  n : Nat
  t : Int
  b : Int
  lv : List Str
  u : Int
def Sett.F (z : Sett) : Fs := [("width", .int z.w), ("rate", pr2 z.m z.s), ("processors", .int z.n), ("tick", .int z.t), ("base", .int z.b), ("levels", .tup (z.lv.map .str)), ("coarse", .int z.u)]
structure SettOk (z : Sett) : Prop where
  w0 : 1 ≤ z.w
  w1 : z.w ≤ 64
  m0 : 1 ≤ z.m
  m1 : z.m ≤ 18446744073709551615
  s0 : 0 ≤ z.s
  s1 : z.s ≤ 64
  n0 : 1 ≤ z.n
  n1 : z.n ≤ 8
  t0 : 1 ≤ z.t
  b0 : 2 ≤ z.b
  b1 : z.b ≤ 64
  u0 : 1 ≤ z.u
def sdChecked (cSettings : Addr) : SpD := fun ds M Q _ _ => ∃ (z : Sett), ds = [.int z.w, pr2 z.m z.s, .int z.n, .int z.t, .int z.b, .non, .int z.u] ∧ z.lv = [("queue" : Str)] ∧ SettOk z ∧ ∀ a dz : Addr, M a = none → Q (.ref a) (addM M a (.ins cSettings dz z.F))
theorem mo_CheckedSettings {cSettings : Addr} : SpMono (sdChecked cSettings) := ⟨fun ds M Q N E Q' N' E' mh mh1 mh2 mh3 => by
  obtain ⟨z, rfl, hl, ok, q⟩ := mh
  refine ⟨z, rfl, hl, ok, ?_⟩
  first
  | exact mh1 _ _ q
  | exact mh2 _ _ q
  | exact fun a => mh1 _ _ (q a)
  | exact fun a b => mh1 _ _ (q a b)
  | exact fun a b c => mh1 _ _ (q a b c)
  | exact fun a b c d => mh1 _ _ (q a b c d)
  | exact fun a b c d e => mh1 _ _ (q a b c d e)
  | exact fun a b c d e f => mh1 _ _ (q a b c d e f)
  | exact fun a b c d e f g => mh1 _ _ (q a b c d e f g)
  | exact fun a b c d e f g h => mh1 _ _ (q a b c d e f g h)
  | exact fun a => mh2 _ _ (q a)
  | exact fun a b => mh2 _ _ (q a b)
  | exact fun a b c => mh2 _ _ (q a b c)
  | exact fun a b c d => mh2 _ _ (q a b c d)
  | exact fun a b c d e => mh2 _ _ (q a b c d e)
  | exact ⟨fun a => mh1 _ _ (q.1 a), fun a => mh3 _ _ (q.2 a)⟩
  | exact ⟨fun a => mh2 _ _ (q.1 a), fun a => mh3 _ _ (q.2 a)⟩⟩

abbrev sCheckedSettings : Stmt := topS 92
theorem scCheckedSettings : FnScope ["width", "rate", "processors", "tick", "base", "levels", "coarse", "words"] ["width", "rate", "processors", "tick", "base", "levels", "coarse"] (defScope sCheckedSettings) := ⟨rfl, rfl, rfl, by decide +kernel, rfl, by decide +kernel, by decide +kernel⟩
set_option maxHeartbeats 2000000 in
theorem ok_CheckedSettings {cState cSegment cSettings cKernel aPLAIN_CLOCKS : Addr} (D : DefAt K mg "checked_settings" sCheckedSettings ["width", "rate", "processors", "tick", "base", "levels", "coarse"]) (CCheckWidth : Cal P w K mg base "check_width" ["width"] 3 (ofD K (sdWidth))) (CCheckRate : Cal P w K mg base "check_rate" ["rate"] 4 (ofD K (sdRate))) (CCheckTick : Cal P w K mg base "check_tick" ["tick"] 3 (ofD K (sdTick))) (CCheckedLevels : Cal P w K mg base "checked_levels" ["levels"] 1 (ofD K (sdLevels))) (CSettingsInit : MakCal P w K mg base "Settings" cSettings ["self", "width", "rate", "processors", "tick", "base", "levels", "coarse"] 1 (ofD K (sdSettings cSettings))) (CIsWithin : Cal P w K mg base "is_within" ["thing", "least", "greatest"] 2 (ofD K (sdWithin))) (CIsAtLeast : Cal P w K mg base "is_at_least" ["thing", "least"] 2 (ofD K (sdAtLeast))) (T : Txt K mg cState cSegment cSettings cKernel aPLAIN_CLOCKS) : Cal P w K mg base "checked_settings" ["width", "rate", "processors", "tick", "base", "levels", "coarse"] 5 (ofD K (sdChecked cSettings)) := by
  refine defD D scCheckedSettings (fun ds M Q N E h => (by (obtain ⟨_, rfl, _⟩ := h); rfl)) (fun f cdv Ar outer s H E ds M Q N E2 hr h => ?_)
  obtain ⟨z, rfl, hl, ok, q⟩ := h
  refine ⟨_, _, dss_cons (ds_expr (de_cal CCheckWidth mo_CheckWidth hr (by rfl) (da_cons (dv 0) da_nil)))
      (dss_cons (ds_expr (de_cal CCheckRate mo_CheckRate hr (by rfl) (da_cons (dv 1) da_nil)))
      (dss_cons (ds_if (dt_not (dt_val (de_cal CIsWithin mo_IsWithin hr (by rfl) (da_cons (dv 2) (da_cons de_int (da_cons (de_gint (by rfl) T.mgMOST_PROCESSORS) da_nil))))))
        (dss_one ds_never)
        dss_nil)
      (dss_cons (ds_expr (de_cal CCheckTick mo_CheckTick hr (by rfl) (da_cons (dv 3) da_nil)))
      (dss_cons (ds_if (dt_not (dt_val (de_cal CIsWithin mo_IsWithin hr (by rfl) (da_cons (dv 4) (da_cons (de_gint (by rfl) T.mgLEAST_BASE) (da_cons (de_gint (by rfl) T.mgMOST_BASE) da_nil))))))
        (dss_one ds_never)
        dss_nil)
      (dss_cons (ds_set 7 scCheckedSettings.nd (de_cal CCheckedLevels mo_CheckedLevels hr (by rfl) (da_cons (dv 5) da_nil)))
      (dss_cons (ds_if (dt_not (dt_val (de_cal CIsAtLeast mo_IsAtLeast hr (by rfl) (da_cons (dv 6) (da_cons de_int da_nil)))))
        (dss_one ds_never)
        dss_nil)
      (dss_one (ds_ret (de_mak CSettingsInit mo_SettingsInit hr (by rfl) takes_no Esc.no (da_cons (dv 0) (da_cons (dv 1) (da_cons (dv 2) (da_cons (dv 3) (da_cons (dv 4) (da_cons (dv 7) (da_cons (dv 6) da_nil)))))))))))))))), ?_⟩
  obtain ⟨w0, w1, m0, m1, s0, s1, n0, n1, t0, b0, b1, u0⟩ := ok
  walk_at "dgo"
  intro a dz hz _
  refine ⟨a, dz, _, _, _, _, _, _, _, rfl, addM_same, rfl, ?_⟩
  simp only [addM_addM]
  have := q a dz hz
  unfold Sett.F at this
  rw [hl] at this
  exact this

/-! ### segments -/
inductive Clk where
  | steady | real | boot
def Clk.str : Clk → Str
  | .steady => "steady"
  | .real => "real"
  | .boot => "boot"
def Seg.worth (g : Seg) : Clk → Int
  | .steady => g.steady
  | .real => g.real
  | .boot => g.boot
def Seg.slewed (g : Seg) (n : Int) : Int := if 0 < g.left then min (g.left.natAbs : Int) (g.step * n) else -min (g.left.natAbs : Int) (g.step * n)
def Seg.more (g : Seg) (c : Clk) (k : Int) : Int := match c with
  | .real => g.slewed k
  | _ => 0
def Seg.value (g : Seg) (c : Clk) (n : Int) : Int := g.worth c + g.more c (n - g.start) + g.mult * (n - g.start)
def Seg.reading (g : Seg) (c : Clk) (n : Int) : Int := g.value c n / 2 ^ g.shift.toNat
def Seg.opened (g : Seg) (n : Int) : Seg := ⟨n, g.shift, g.mult, g.value .steady n, g.value .real n, g.value .boot n, if n = g.start then g.before else g.value .steady (n - 1), g.left - g.slewed (n - g.start), g.step, g.n⟩
structure SegOk (g : Seg) : Prop where
  s0 : 0 ≤ g.shift
  s1 : g.shift ≤ 64
  m0 : 1 ≤ g.mult
  m1 : g.mult ≤ 18446744073709551615
  p0 : 0 ≤ g.step
  p1 : g.step ≤ 18446744073709551615
  n1 : g.n ≤ 8
def seg0 (start shift mult : Int) : Seg := ⟨start, shift, mult, 0, 0, 0, 0, 0, 0, 0⟩
def sdSegment (cSegment : Addr) : SpD := fun ds M Q _ _ => ∃ (a dx : Addr) (n s m : Int), ds = [.ref a, .int n, .int s, .int m] ∧ M a = some (.ins cSegment dx []) ∧ ∀ (w : Addr) (M' : Mm), (M w = none ∧ w ≠ a ∧ M' a = some (.ins cSegment dx (segF w (seg0 n s m) .non)) ∧ M' w = some (.dg (worthG (seg0 n s m))) ∧ ∀ b, b ≠ a → b ≠ w → M' b = M b) → Q .non M'
theorem mo_SegmentInit {cSegment : Addr} : SpMono (sdSegment cSegment) := ⟨fun ds M Q N E Q' N' E' mh mh1 mh2 mh3 => by
  obtain ⟨a, dx, n, s, m, rfl, ha, q⟩ := mh
  refine ⟨a, dx, n, s, m, rfl, ha, ?_⟩
  first
  | exact mh1 _ _ q
  | exact mh2 _ _ q
  | exact fun a => mh1 _ _ (q a)
  | exact fun a b => mh1 _ _ (q a b)
  | exact fun a b c => mh1 _ _ (q a b c)
  | exact fun a b c d => mh1 _ _ (q a b c d)
  | exact fun a b c d e => mh1 _ _ (q a b c d e)
  | exact fun a b c d e f => mh1 _ _ (q a b c d e f)
  | exact fun a b c d e f g => mh1 _ _ (q a b c d e f g)
  | exact fun a b c d e f g h => mh1 _ _ (q a b c d e f g h)
  | exact fun a => mh2 _ _ (q a)
  | exact fun a b => mh2 _ _ (q a b)
  | exact fun a b c => mh2 _ _ (q a b c)
  | exact fun a b c d => mh2 _ _ (q a b c d)
  | exact fun a b c d e => mh2 _ _ (q a b c d e)
  | exact ⟨fun a => mh1 _ _ (q.1 a), fun a => mh3 _ _ (q.2 a)⟩
  | exact ⟨fun a => mh2 _ _ (q.1 a), fun a => mh3 _ _ (q.2 a)⟩⟩

abbrev sSegmentInit : Stmt := metS 95 0
theorem scSegmentInit : FnScope ["self", "start", "shift", "mult"] ["self", "start", "shift", "mult"] (defScope sSegmentInit) := ⟨rfl, rfl, rfl, by decide +kernel, rfl, by decide +kernel, by decide +kernel⟩
set_option maxHeartbeats 2000000 in
theorem ok_SegmentInit {cState cSegment cSettings cKernel aPLAIN_CLOCKS : Addr} (D : MakAt K mg "Segment" cSegment "Segment.__init__" sSegmentInit ["self", "start", "shift", "mult"])  (T : Txt K mg cState cSegment cSettings cKernel aPLAIN_CLOCKS) : MakCal P w K mg base "Segment" cSegment ["self", "start", "shift", "mult"] 1 (ofD K (sdSegment cSegment)) := by
  refine defMak D scSegmentInit (fun ds M Q N E h => (by (obtain ⟨_, _, _, _, _, rfl, _⟩ := h); rfl)) (fun g f cdv Ar outer s H E ds M Q N E2 hr hx h => ?_)
  obtain ⟨a, dx, n, s, m, rfl, ha, q⟩ := h
  refine ⟨_, _, dss_cons (ds_setF (db 0) (dv 1))
      (dss_cons (ds_setF (db 0) (dv 2))
      (dss_cons (ds_setF (db 0) (dv 3))
      (dss_cons (ds_setF (db 0) (de_dispA (dps_cons de_str de_int (dps_cons de_str de_int (dps_cons de_str de_int dps_nil)))))
      (dss_cons (ds_setF (db 0) de_int)
      (dss_cons (ds_setF (db 0) de_int)
      (dss_cons (ds_setF (db 0) de_int)
      (dss_cons (ds_setF (db 0) (dn_de (dn_lst da_nil)))
      (dss_cons (ds_setF (db 0) (de_tup da_nil))
      (dss_one (ds_setF (db 0) de_non)))))))))), ?_⟩
  walk_at "dgo"
  intro w hw
  simp only [addM_addM] at hw ⊢
  obtain ⟨wa, hw⟩ := addM_none hw
  walk_at "dgo"
  refine q w _ ⟨hw, wa, addM_same, ?_, fun b h1 h2 => ?_⟩
  · walk_at "mem"
  · simp only [addM_ne h1, addM_ne h2]
def sdSlewed (cSegment : Addr) : SpD := fun ds M Q _ _ => ∃ (a w : Addr) (g : Seg) (n : Int), ds = [.ref a, .int n] ∧ RepG cSegment M a w g ∧ SegOk g ∧ Q (.int (g.slewed n)) M
theorem mo_SegmentSlewed {cSegment : Addr} : SpMono (sdSlewed cSegment) := ⟨fun ds M Q N E Q' N' E' mh mh1 mh2 mh3 => by
  obtain ⟨a, w, g, n, rfl, ⟨dx, sh, ha, hw, hs⟩, ok, q⟩ := mh
  refine ⟨a, w, g, n, rfl, ⟨dx, sh, ha, hw, hs⟩, ok, ?_⟩
  first
  | exact mh1 _ _ q
  | exact mh2 _ _ q
  | exact fun a => mh1 _ _ (q a)
  | exact fun a b => mh1 _ _ (q a b)
  | exact fun a b c => mh1 _ _ (q a b c)
  | exact fun a b c d => mh1 _ _ (q a b c d)
  | exact fun a b c d e => mh1 _ _ (q a b c d e)
  | exact fun a b c d e f => mh1 _ _ (q a b c d e f)
  | exact fun a b c d e f g => mh1 _ _ (q a b c d e f g)
  | exact fun a b c d e f g h => mh1 _ _ (q a b c d e f g h)
  | exact fun a => mh2 _ _ (q a)
  | exact fun a b => mh2 _ _ (q a b)
  | exact fun a b c => mh2 _ _ (q a b c)
  | exact fun a b c d => mh2 _ _ (q a b c d)
  | exact fun a b c d e => mh2 _ _ (q a b c d e)
  | exact ⟨fun a => mh1 _ _ (q.1 a), fun a => mh3 _ _ (q.2 a)⟩
  | exact ⟨fun a => mh2 _ _ (q.1 a), fun a => mh3 _ _ (q.2 a)⟩⟩

abbrev sSegmentSlewed : Stmt := metS 95 3
theorem scSegmentSlewed : FnScope ["self", "counts", "gained"] ["self", "counts"] (defScope sSegmentSlewed) := ⟨rfl, rfl, rfl, by decide +kernel, rfl, by decide +kernel, by decide +kernel⟩
set_option maxHeartbeats 2000000 in
theorem ok_SegmentSlewed {cState cSegment cSettings cKernel aPLAIN_CLOCKS : Addr} (D : MAt K cSegment "slewed" "Segment.slewed" sSegmentSlewed ["self", "counts"])  (T : Txt K mg cState cSegment cSettings cKernel aPLAIN_CLOCKS) : MCal P w K mg base cSegment "slewed" ["self", "counts"] 1 (ofD K (sdSlewed cSegment)) := by
  refine defMX D scSegmentSlewed (fun ds M Q N E h => (by (obtain ⟨_, _, _, _, rfl, _⟩ := h); rfl)) (fun g f cdv Ar outer s H E ds M Q N E2 hr hx h => ?_)
  obtain ⟨a, w, g, n, rfl, ⟨dx, sh, ha, hw, hs⟩, ok, q⟩ := h
  refine ⟨_, _, dss_cons (ds_set 2 scSegmentSlewed.nd (de_call2 (o_min2 rfl) (by rfl) T.min (by decide +kernel) (de_db (de_call1 o_abs (by rfl) T.abs (by decide +kernel) (de_db (de_fld (db 0))))) (de_db (de_op o_mul (de_db (de_fld (db 0))) (db 1)))))
      (dss_one (ds_ret (de_ifExp (dt_cmp o_gt (de_db (de_fld (db 0))) (de_db de_int) (nomark _)) (dv 2) (de_un o_neg (db 2))))), ?_⟩
  have p0 := ok.p0
  have p1 := ok.p1
  walk_at "dgo"
  have e1 : (if g.left < 0 then -g.left else g.left) = (g.left.natAbs : Int) := by split <;> omega
  have e2 : (if g.step * n < (g.left.natAbs : Int) then g.step * n else (g.left.natAbs : Int)) = min (g.left.natAbs : Int) (g.step * n) := by split <;> omega
  rw [e1]
  unfold Seg.slewed at q
  refine ite2 (fun e => ?_) (fun e => ?_)
  · have e : g.left > 0 := of_decide_eq_true e
    rw [if_pos e] at q
    walk_at "dgo"
    show Q (.int (if g.step * n < (g.left.natAbs : Int) then g.step * n else (g.left.natAbs : Int))) M
    rw [e2]
    exact q
  · have e : ¬ 0 < g.left := fun h => e (decide_eq_true h)
    rw [if_neg e] at q
    walk_at "dgo"
    show Q (.int (-(if g.step * n < (g.left.natAbs : Int) then g.step * n else (g.left.natAbs : Int)))) M
    rw [e2]
    exact q
theorem Seg.slewed0 (g : Seg) : g.slewed 0 = 0 := by
  unfold Seg.slewed
  rw [Int.mul_zero]
  split <;> omega
def sdValue (cSegment : Addr) : SpD := fun ds M Q _ _ => ∃ (a w : Addr) (g : Seg) (c : Clk) (n : Int), ds = [.ref a, .str c.str, .int n] ∧ RepG cSegment M a w g ∧ SegOk g ∧ Q (.int (g.value c n)) M
theorem mo_SegmentValue {cSegment : Addr} : SpMono (sdValue cSegment) := ⟨fun ds M Q N E Q' N' E' mh mh1 mh2 mh3 => by
  obtain ⟨a, w, g, c, n, rfl, R, ok, q⟩ := mh
  refine ⟨a, w, g, c, n, rfl, R, ok, ?_⟩
  first
  | exact mh1 _ _ q
  | exact mh2 _ _ q
  | exact fun a => mh1 _ _ (q a)
  | exact fun a b => mh1 _ _ (q a b)
  | exact fun a b c => mh1 _ _ (q a b c)
  | exact fun a b c d => mh1 _ _ (q a b c d)
  | exact fun a b c d e => mh1 _ _ (q a b c d e)
  | exact fun a b c d e f => mh1 _ _ (q a b c d e f)
  | exact fun a b c d e f g => mh1 _ _ (q a b c d e f g)
  | exact fun a b c d e f g h => mh1 _ _ (q a b c d e f g h)
  | exact fun a => mh2 _ _ (q a)
  | exact fun a b => mh2 _ _ (q a b)
  | exact fun a b c => mh2 _ _ (q a b c)
  | exact fun a b c d => mh2 _ _ (q a b c d)
  | exact fun a b c d e => mh2 _ _ (q a b c d e)
  | exact ⟨fun a => mh1 _ _ (q.1 a), fun a => mh3 _ _ (q.2 a)⟩
  | exact ⟨fun a => mh2 _ _ (q.1 a), fun a => mh3 _ _ (q.2 a)⟩⟩

abbrev sSegmentValue : Stmt := metS 95 4
theorem scSegmentValue : FnScope ["self", "clock", "count", "worth", "counts"] ["self", "clock", "count"] (defScope sSegmentValue) := ⟨rfl, rfl, rfl, by decide +kernel, rfl, by decide +kernel, by decide +kernel⟩
set_option maxHeartbeats 2000000 in
theorem ok_SegmentValue {cState cSegment cSettings cKernel aPLAIN_CLOCKS : Addr} (D : MAt K cSegment "value" "Segment.value" sSegmentValue ["self", "clock", "count"]) (CSegmentSlewed : MCal P w K mg base cSegment "slewed" ["self", "counts"] 1 (ofD K (sdSlewed cSegment))) (T : Txt K mg cState cSegment cSettings cKernel aPLAIN_CLOCKS) : MCal P w K mg base cSegment "value" ["self", "clock", "count"] 2 (ofD K (sdValue cSegment)) := by
  refine defMX D scSegmentValue (fun ds M Q N E h => (by (obtain ⟨_, _, _, _, _, rfl, _⟩ := h); rfl)) (fun g f cdv Ar outer s H E ds M Q N E2 hr hx h => ?_)
  obtain ⟨a, w, g, c, n, rfl, R, ok, q⟩ := h
  refine ⟨_, _, dss_cons (ds_set 3 scSegmentValue.nd (de_getG (u1 hr) (de_db (de_fld (db 0))) (db 1) de_int))
      (dss_cons (ds_set 4 scSegmentValue.nd (de_op o_sub (db 2) (de_db (de_fld (db 0)))))
      (dss_cons (ds_if (dt_cmp o_eqI (db 4) (de_db de_int) (nomark _))
        (dss_one (ds_ret (dv 3)))
        dss_nil)
      (dss_cons (ds_if (dt_val (de_call2 o_isi (by rfl) T.isinstance (by decide +kernel) (db 1) (de_db (de_ty (n := "tuple") (by rfl) T.tuple (by decide +kernel)))))
        (dss_one ds_never)
        dss_nil)
      (dss_cons (ds_if (dt_cmp o_eqS (db 1) (de_db de_str) (nomark _))
        (dss_one (ds_set 3 scSegmentValue.nd (de_op o_add (db 3) (de_db (de_mth (db 0) CSegmentSlewed mo_SegmentSlewed hr (takes_of rfl rfl rfl rfl) hx (da_cons (dv 4) da_nil))))))
        dss_nil)
      (dss_one (ds_ret (de_op o_add (db 3) (de_db (de_op o_mul (de_db (de_fld (db 0))) (db 4)))))))))), ?_⟩
  have R0 := R
  obtain ⟨dx, sh, ha, hw, hs⟩ := R
  have m0 := ok.m0
  have m1 := ok.m1
  have hg : getG (worthG g) (.inr c.str) = some (.int (g.worth c)) := by cases c <;> rfl
  walk_at "dgo"
  rw [hg]
  walk_at "dgo"
  unfold Seg.value at q
  refine ite2 (fun e => ?_) (fun e => ?_)
  · have e : n - g.start = 0 := of_decide_eq_true e
    have e2 : g.more c 0 = 0 := by cases c <;> first | rfl | exact g.slewed0
    rw [e, e2, Int.mul_zero, Int.add_zero, Int.add_zero] at q
    walk_at "dgo"
    exact q
  · walk_at "dgo"
    cases c with
    | real =>
      walk_at "dgo"
      refine ⟨a, w, g, _, rfl, R0, ok, ?_⟩
      walk_at "dgo"
      exact q
    | steady =>
      have e2 : g.more .steady (n - g.start) = 0 := rfl
      rw [e2, Int.add_zero] at q
      walk_at "dgo"
      exact q
    | boot =>
      have e2 : g.more .boot (n - g.start) = 0 := rfl
      rw [e2, Int.add_zero] at q
      walk_at "dgo"
      exact q
def sdReading (cSegment : Addr) : SpD := fun ds M Q _ _ => ∃ (a w : Addr) (g : Seg) (c : Clk) (n : Int), ds = [.ref a, .str c.str, .int n] ∧ RepG cSegment M a w g ∧ SegOk g ∧ Q (.int (g.reading c n)) M
theorem mo_SegmentReading {cSegment : Addr} : SpMono (sdReading cSegment) := ⟨fun ds M Q N E Q' N' E' mh mh1 mh2 mh3 => by
  obtain ⟨a, w, g, c, n, rfl, R, ok, q⟩ := mh
  refine ⟨a, w, g, c, n, rfl, R, ok, ?_⟩
  first
  | exact mh1 _ _ q
  | exact mh2 _ _ q
  | exact fun a => mh1 _ _ (q a)
  | exact fun a b => mh1 _ _ (q a b)
  | exact fun a b c => mh1 _ _ (q a b c)
  | exact fun a b c d => mh1 _ _ (q a b c d)
  | exact fun a b c d e => mh1 _ _ (q a b c d e)
  | exact fun a b c d e f => mh1 _ _ (q a b c d e f)
  | exact fun a b c d e f g => mh1 _ _ (q a b c d e f g)
  | exact fun a b c d e f g h => mh1 _ _ (q a b c d e f g h)
  | exact fun a => mh2 _ _ (q a)
  | exact fun a b => mh2 _ _ (q a b)
  | exact fun a b c => mh2 _ _ (q a b c)
  | exact fun a b c d => mh2 _ _ (q a b c d)
  | exact fun a b c d e => mh2 _ _ (q a b c d e)
  | exact ⟨fun a => mh1 _ _ (q.1 a), fun a => mh3 _ _ (q.2 a)⟩
  | exact ⟨fun a => mh2 _ _ (q.1 a), fun a => mh3 _ _ (q.2 a)⟩⟩

abbrev sSegmentReading : Stmt := metS 95 5
theorem scSegmentReading : FnScope ["self", "clock", "count"] ["self", "clock", "count"] (defScope sSegmentReading) := ⟨rfl, rfl, rfl, by decide +kernel, rfl, by decide +kernel, by decide +kernel⟩
set_option maxHeartbeats 2000000 in
theorem ok_SegmentReading {cState cSegment cSettings cKernel aPLAIN_CLOCKS : Addr} (D : MAt K cSegment "reading" "Segment.reading" sSegmentReading ["self", "clock", "count"]) (CSegmentValue : MCal P w K mg base cSegment "value" ["self", "clock", "count"] 2 (ofD K (sdValue cSegment))) (T : Txt K mg cState cSegment cSettings cKernel aPLAIN_CLOCKS) : MCal P w K mg base cSegment "reading" ["self", "clock", "count"] 3 (ofD K (sdReading cSegment)) := by
  refine defMX D scSegmentReading (fun ds M Q N E h => (by (obtain ⟨_, _, _, _, _, rfl, _⟩ := h); rfl)) (fun g f cdv Ar outer s H E ds M Q N E2 hr hx h => ?_)
  obtain ⟨a, w, g, c, n, rfl, R, ok, q⟩ := h
  refine ⟨_, _, dss_one (ds_ret (de_op o_shr (de_db (de_mth (db 0) CSegmentValue mo_SegmentValue hr (takes_of rfl rfl rfl rfl) hx (da_cons (dv 1) (da_cons (dv 2) da_nil)))) (de_db (de_fld (db 0))))), ?_⟩
  have R0 := R
  obtain ⟨dx, sh, ha, hw, hs⟩ := R
  have s0 := ok.s0
  walk_at "dgo"
  refine ⟨a, w, g, c, n, rfl, R0, ok, ?_⟩
  walk_at "dgo"
  exact q
/-- no thread: no shares -/
def sdNoShares : SpD := fun ds M Q N _ => ∃ (n : Int), ds = [queD, .int n, .tup []] ∧ N [] M
theorem mo_SharesOf : SpMono (sdNoShares) := ⟨fun ds M Q N E Q' N' E' mh mh1 mh2 mh3 => by
  obtain ⟨n, rfl, q⟩ := mh
  refine ⟨n, rfl, ?_⟩
  first
  | exact mh1 _ _ q
  | exact mh2 _ _ q
  | exact fun a => mh1 _ _ (q a)
  | exact fun a b => mh1 _ _ (q a b)
  | exact fun a b c => mh1 _ _ (q a b c)
  | exact fun a b c d => mh1 _ _ (q a b c d)
  | exact fun a b c d e => mh1 _ _ (q a b c d e)
  | exact fun a b c d e f => mh1 _ _ (q a b c d e f)
  | exact fun a b c d e f g => mh1 _ _ (q a b c d e f g)
  | exact fun a b c d e f g h => mh1 _ _ (q a b c d e f g h)
  | exact fun a => mh2 _ _ (q a)
  | exact fun a b => mh2 _ _ (q a b)
  | exact fun a b c => mh2 _ _ (q a b c)
  | exact fun a b c d => mh2 _ _ (q a b c d)
  | exact fun a b c d e => mh2 _ _ (q a b c d e)
  | exact ⟨fun a => mh1 _ _ (q.1 a), fun a => mh3 _ _ (q.2 a)⟩
  | exact ⟨fun a => mh2 _ _ (q.1 a), fun a => mh3 _ _ (q.2 a)⟩⟩

abbrev sSharesOf : Stmt := topS 50
theorem scSharesOf : FnScope ["queue", "start", "owners", "threads", "quantum", "since", "many", "elapsed", "places", "place", "thread", "clock"] ["queue", "start", "owners"] (defScope sSharesOf) := ⟨rfl, rfl, rfl, by decide +kernel, rfl, by decide +kernel, by decide +kernel⟩
set_option maxHeartbeats 2000000 in
theorem ok_SharesOf {cState cSegment cSettings cKernel aPLAIN_CLOCKS : Addr} (D : DefAt K mg "shares_of" sSharesOf ["queue", "start", "owners"])  (T : Txt K mg cState cSegment cSettings cKernel aPLAIN_CLOCKS) : Cal P w K mg base "shares_of" ["queue", "start", "owners"] 1 (ofD K (sdNoShares)) := by
  refine defD D scSharesOf (fun ds M Q N E h => (by (obtain ⟨_, rfl, _⟩ := h); rfl)) (fun f cdv Ar outer s H E ds M Q N E2 hr h => ?_)
  obtain ⟨n, rfl, q⟩ := h
  refine ⟨_, _, dss_cons (ds_asg (dv 0) (dg_tup (dgs_cons (dg_name 3 scSharesOf.nd) (dgs_cons (dg_name 4 scSharesOf.nd) (dgs_cons (dg_name 5 scSharesOf.nd) dgs_nil)))))
      (dss_cons (ds_if (dt_cmp o_isN (db 4) (de_db de_non) (nomark _))
        (dss_one (ds_asg (de_tup (da_cons (de_slA (db 3) do_none (do_some de_int)) (da_cons de_int (da_cons (dv 1) da_nil)))) (dg_tup (dgs_cons (dg_name 3 scSharesOf.nd) (dgs_cons (dg_name 4 scSharesOf.nd) (dgs_cons (dg_name 5 scSharesOf.nd) dgs_nil))))))
        dss_nil)
      (dss_cons (ds_set 6 scSharesOf.nd (de_call1 o_len (by rfl) T.len PySem.boot_len (db 3)))
      (dss_cons (ds_set 7 scSharesOf.nd (de_op o_sub (db 1) (db 5)))
      (dss_cons (ds_set 8 scSharesOf.nd de_newF)
      (dss_cons (ds_for PassesOwn.never (di_enumT (by rfl) T.enumerate (dv 3)) (dg_tup (dgs_cons (dg_name 9 scSharesOf.nd) (dgs_cons (dg_name 10 scSharesOf.nd) dgs_nil)))
        (dss_cons ds_never
        (dss_one ds_never)))
      (dss_one (ds_retNew (dn_lc (own := [("clock", 11)]) scSharesOf.nd (di_keys (dv 8)) (blkOk_by (own := [("clock", 11)]) (N := ["queue", "start", "owners", "threads", "quantum", "since", "many", "elapsed", "places", "place", "thread", "clock"]) (sc := defScope sSharesOf) (by decide +kernel)) (fun _ _ _ _ _ => (dgc_name 11 (by decide) scSharesOf.nd)) (fun _ _ _ _ _ => dts_nil) (fun _ _ _ _ _ => de_never))))))))), ?_⟩
  walk_at "dgo"
  refine for_nil ?_
  walk_at "dgo"
  refine lc_nil ?_
  exact q
def sdTurned : SpD := fun ds M Q _ _ => ∃ (n : Int), ds = [queD, .int n] ∧ Q queD M
theorem mo_Turned : SpMono (sdTurned) := ⟨fun ds M Q N E Q' N' E' mh mh1 mh2 mh3 => by
  obtain ⟨n, rfl, q⟩ := mh
  refine ⟨n, rfl, ?_⟩
  first
  | exact mh1 _ _ q
  | exact mh2 _ _ q
  | exact fun a => mh1 _ _ (q a)
  | exact fun a b => mh1 _ _ (q a b)
  | exact fun a b c => mh1 _ _ (q a b c)
  | exact fun a b c d => mh1 _ _ (q a b c d)
  | exact fun a b c d e => mh1 _ _ (q a b c d e)
  | exact fun a b c d e f => mh1 _ _ (q a b c d e f)
  | exact fun a b c d e f g => mh1 _ _ (q a b c d e f g)
  | exact fun a b c d e f g h => mh1 _ _ (q a b c d e f g h)
  | exact fun a => mh2 _ _ (q a)
  | exact fun a b => mh2 _ _ (q a b)
  | exact fun a b c => mh2 _ _ (q a b c)
  | exact fun a b c d => mh2 _ _ (q a b c d)
  | exact fun a b c d e => mh2 _ _ (q a b c d e)
  | exact ⟨fun a => mh1 _ _ (q.1 a), fun a => mh3 _ _ (q.2 a)⟩
  | exact ⟨fun a => mh2 _ _ (q.1 a), fun a => mh3 _ _ (q.2 a)⟩⟩

abbrev sTurned : Stmt := topS 46
theorem scTurned : FnScope ["queue", "count", "threads", "quantum", "since", "turns", "place"] ["queue", "count"] (defScope sTurned) := ⟨rfl, rfl, rfl, by decide +kernel, rfl, by decide +kernel, by decide +kernel⟩
set_option maxHeartbeats 2000000 in
theorem ok_Turned {cState cSegment cSettings cKernel aPLAIN_CLOCKS : Addr} (D : DefAt K mg "turned" sTurned ["queue", "count"])  (T : Txt K mg cState cSegment cSettings cKernel aPLAIN_CLOCKS) : Cal P w K mg base "turned" ["queue", "count"] 1 (ofD K (sdTurned)) := by
  refine defD D scTurned (fun ds M Q N E h => (by (obtain ⟨_, rfl, _⟩ := h); rfl)) (fun f cdv Ar outer s H E ds M Q N E2 hr h => ?_)
  obtain ⟨n, rfl, q⟩ := h
  refine ⟨_, _, dss_cons (ds_asg (dv 0) (dg_tup (dgs_cons (dg_name 2 scTurned.nd) (dgs_cons (dg_name 3 scTurned.nd) (dgs_cons (dg_name 4 scTurned.nd) dgs_nil)))))
      (dss_cons (ds_if (dt_w (dw_or (dt_not (dt_truth (db 2))) (dw_or1 (dt_cmp o_isN (db 3) (de_db de_non) (nomark _)))))
        (dss_one (ds_ret (dv 0)))
        dss_nil)
      (dss_cons ds_never
      (dss_cons ds_never
      (dss_one ds_never)))), ?_⟩
  walk_at "dgo"
  exact q
def sdDriven (cSegment : Addr) : SpD := fun ds M Q _ _ => ∃ (a w : Addr) (g : Seg), ds = [.ref a] ∧ RepG cSegment M a w g ∧ ∀ M', Fram cSegment none' M M' → (∀ b, b ≠ a → M' b = M b) → Q (.fK [] []) M'
theorem mo_SegmentDriven {cSegment : Addr} : SpMono (sdDriven cSegment) := ⟨fun ds M Q N E Q' N' E' mh mh1 mh2 mh3 => by
  obtain ⟨a, w, g, rfl, R, q⟩ := mh
  refine ⟨a, w, g, rfl, R, ?_⟩
  first
  | exact mh1 _ _ q
  | exact mh2 _ _ q
  | exact fun a => mh1 _ _ (q a)
  | exact fun a b => mh1 _ _ (q a b)
  | exact fun a b c => mh1 _ _ (q a b c)
  | exact fun a b c d => mh1 _ _ (q a b c d)
  | exact fun a b c d e => mh1 _ _ (q a b c d e)
  | exact fun a b c d e f => mh1 _ _ (q a b c d e f)
  | exact fun a b c d e f g => mh1 _ _ (q a b c d e f g)
  | exact fun a b c d e f g h => mh1 _ _ (q a b c d e f g h)
  | exact fun a => mh2 _ _ (q a)
  | exact fun a b => mh2 _ _ (q a b)
  | exact fun a b c => mh2 _ _ (q a b c)
  | exact fun a b c d => mh2 _ _ (q a b c d)
  | exact fun a b c d e => mh2 _ _ (q a b c d e)
  | exact ⟨fun a => mh1 _ _ (q.1 a), fun a => mh3 _ _ (q.2 a)⟩
  | exact ⟨fun a => mh2 _ _ (q.1 a), fun a => mh3 _ _ (q.2 a)⟩⟩

abbrev sSegmentDriven : Stmt := metS 95 2
theorem scSegmentDriven : FnScope ["self", "found", "queue", "clock", "share"] ["self"] (defScope sSegmentDriven) := ⟨rfl, rfl, rfl, by decide +kernel, rfl, by decide +kernel, by decide +kernel⟩
set_option maxHeartbeats 2000000 in
theorem ok_SegmentDriven {cState cSegment cSettings cKernel aPLAIN_CLOCKS : Addr} (D : MAt K cSegment "driven" "Segment.driven" sSegmentDriven ["self"]) (CSharesOf : Cal P w K mg base "shares_of" ["queue", "start", "owners"] 1 (ofD K (sdNoShares))) (T : Txt K mg cState cSegment cSettings cKernel aPLAIN_CLOCKS) : MCal P w K mg base cSegment "driven" ["self"] 2 (ofD K (sdDriven cSegment)) := by
  refine defMX D scSegmentDriven (fun ds M Q N E h => (by (obtain ⟨_, _, _, rfl, _⟩ := h); rfl)) (fun g f cdv Ar outer s H E ds M Q N E2 hr hx h => ?_)
  obtain ⟨a, w, g, rfl, R, q⟩ := h
  refine ⟨_, _, dss_cons (ds_if (dt_cmp o_isN (de_db (de_fld (db 0))) (de_db de_non) (nomark _))
        (dss_cons (ds_set 1 scSegmentDriven.nd de_newF)
        (dss_cons (ds_for (passes_of rfl) (di_list (de_fld (db 0))) (dg_name 2 scSegmentDriven.nd)
          (dss_one (ds_for (passes_of rfl) (di_list (dn_de (dn_cal CSharesOf mo_SharesOf hr (by rfl) (da_cons (dv 2) (da_cons (de_fld (db 0)) (da_cons (de_fld (db 0)) da_nil)))))) (dg_tup (dgs_cons (dg_name 3 scSegmentDriven.nd) (dgs_cons (dg_name 4 scSegmentDriven.nd) dgs_nil)))
            (dss_one ds_never))))
        (dss_one (ds_setF (db 0) (dv 1)))))
        dss_nil)
      (dss_one (ds_ret (de_fld (db 0)))), ?_⟩
  have R0 := R
  obtain ⟨dx, sh, ha, hw, hs⟩ := R
  rcases hs with rfl | rfl
  · walk_at "dgo"
    refine ⟨fun i ρ M' => M' = M ∧ ∃ x, ρ = [.val (.ref a), .val (.fK [] []), x, .un, .un], ⟨rfl, _, rfl⟩, fun i d ρ M' h h1 => ?_, ?_⟩
    · obtain ⟨rfl, x, rfl⟩ := h1
      obtain rfl : d = queD := (List.mem_replicate.mp (List.mem_of_getElem? h)).2
      walk_at "dgo"
      refine for_nil ?_
      exact ⟨rfl, _, rfl⟩
    · rintro ρ M' ⟨rfl, x, rfl⟩
      walk_at "dgo"
      refine q _ ⟨fun b o _ h => ?_, fun b h => ?_⟩ (fun b hb => addM_ne hb)
      · by_cases z : b = a
        · rw [z, ha] at h
          cases h
          exact .inr ⟨dx, w, g, rfl, by rw [z, addM_same]; rfl⟩
        · exact .inl (by rw [addM_ne z]; exact h)
      · by_cases z : b = a
        · rw [z, addM_same]; exact fun z => nomatch z
        · rw [addM_ne z]; exact h
  · walk_at "dgo"
    exact q M .refl (fun _ _ => rfl)
def sdOpened (cSegment : Addr) : SpD := fun ds M Q _ _ => ∃ (a w : Addr) (g : Seg) (n : Int), ds = [.ref a, .int n] ∧ RepG cSegment M a w g ∧ SegOk g ∧ ∀ b v M', Fram cSegment none' M M' → M b = none → M v = none → RepG cSegment M' b v (g.opened n) → Q (.ref b) M'
theorem mo_SegmentOpened {cSegment : Addr} : SpMono (sdOpened cSegment) := ⟨fun ds M Q N E Q' N' E' mh mh1 mh2 mh3 => by
  obtain ⟨a, w, g, n, rfl, R, ok, q⟩ := mh
  refine ⟨a, w, g, n, rfl, R, ok, ?_⟩
  first
  | exact mh1 _ _ q
  | exact mh2 _ _ q
  | exact fun a => mh1 _ _ (q a)
  | exact fun a b => mh1 _ _ (q a b)
  | exact fun a b c => mh1 _ _ (q a b c)
  | exact fun a b c d => mh1 _ _ (q a b c d)
  | exact fun a b c d e => mh1 _ _ (q a b c d e)
  | exact fun a b c d e f => mh1 _ _ (q a b c d e f)
  | exact fun a b c d e f g => mh1 _ _ (q a b c d e f g)
  | exact fun a b c d e f g h => mh1 _ _ (q a b c d e f g h)
  | exact fun a => mh2 _ _ (q a)
  | exact fun a b => mh2 _ _ (q a b)
  | exact fun a b c => mh2 _ _ (q a b c)
  | exact fun a b c d => mh2 _ _ (q a b c d)
  | exact fun a b c d e => mh2 _ _ (q a b c d e)
  | exact ⟨fun a => mh1 _ _ (q.1 a), fun a => mh3 _ _ (q.2 a)⟩
  | exact ⟨fun a => mh2 _ _ (q.1 a), fun a => mh3 _ _ (q.2 a)⟩⟩

abbrev sSegmentOpened : Stmt := metS 95 8
theorem scSegmentOpened : FnScope ["self", "count", "later", "clocks", "clock", "queue"] ["self", "count"] (defScope sSegmentOpened) := ⟨rfl, rfl, rfl, by decide +kernel, rfl, by decide +kernel, by decide +kernel⟩
set_option maxHeartbeats 2000000 in
theorem ok_SegmentOpened {cState cSegment cSettings cKernel aPLAIN_CLOCKS : Addr} (D : MAt K cSegment "opened" "Segment.opened" sSegmentOpened ["self", "count"]) (CSegmentInit : MakCal P w K mg base "Segment" cSegment ["self", "start", "shift", "mult"] 1 (ofD K (sdSegment cSegment))) (CSegmentValue : MCal P w K mg base cSegment "value" ["self", "clock", "count"] 2 (ofD K (sdValue cSegment))) (CSegmentSlewed : MCal P w K mg base cSegment "slewed" ["self", "counts"] 1 (ofD K (sdSlewed cSegment))) (CTurned : Cal P w K mg base "turned" ["queue", "count"] 1 (ofD K (sdTurned))) (CSegmentDriven : MCal P w K mg base cSegment "driven" ["self"] 2 (ofD K (sdDriven cSegment))) (T : Txt K mg cState cSegment cSettings cKernel aPLAIN_CLOCKS) : MCal P w K mg base cSegment "opened" ["self", "count"] 3 (ofD K (sdOpened cSegment)) := by
  refine defMX D scSegmentOpened (fun ds M Q N E h => (by (obtain ⟨_, _, _, _, rfl, _⟩ := h); rfl)) (fun g f cdv Ar outer s H E ds M Q N E2 hr hx h => ?_)
  obtain ⟨a, w, g, n, rfl, R, ok, q⟩ := h
  refine ⟨_, _, dss_cons (ds_set 2 scSegmentOpened.nd (de_mak CSegmentInit mo_SegmentInit hr (by rfl) (takes_of rfl rfl rfl rfl) hx (da_cons (dv 1) (da_cons (de_fld (db 0)) (da_cons (de_fld (db 0)) da_nil)))))
      (dss_cons (ds_set 3 scSegmentOpened.nd (dn_de (dn_op o_cat (de_db (dn_de (dn_listG (by rfl) (by rfl) T.list (by decide +kernel) (de_db (de_fld (db 0)))))) (de_db (dn_de (dn_lc (own := [("clock", 4)]) scSegmentOpened.nd (di_keys (de_mth0 (db 0) CSegmentDriven mo_SegmentDriven hr (takes_of rfl rfl rfl rfl) hx)) (blkOk_by (own := [("clock", 4)]) (N := ["self", "count", "later", "clocks", "clock", "queue"]) (sc := defScope sSegmentOpened) (by decide +kernel)) (fun _ _ _ _ _ => (dgc_name 4 (by decide) scSegmentOpened.nd)) (fun _ _ _ _ _ => (dts_one dt_never)) (fun _ _ _ _ _ => (dv 4))))))))
      (dss_cons (ds_setF (db 2) (de_dcG (own := [("clock", 4)]) scSegmentOpened.nd (di_list (dv 3)) (blkOk_by (own := [("clock", 4)]) (N := ["self", "count", "later", "clocks", "clock", "queue"]) (sc := defScope sSegmentOpened) (by decide +kernel)) (fun _ _ _ _ _ => (dgc_name 4 (by decide) scSegmentOpened.nd)) (fun _ _ _ _ _ => dts_nil) (fun _ _ _ _ _ => (dv 4)) (fun _ _ _ _ _ => (de_mth (db 0) CSegmentValue mo_SegmentValue hr takes_no Esc.no (da_cons (dv 4) (da_cons (dv 1) da_nil))))))
      (dss_cons (ds_cut (ds_setF (db 2) (de_ifExp (dt_cmp o_eqI (db 1) (de_db (de_fld (db 0))) (nomark _)) (de_fld (db 0)) (de_mth (db 0) CSegmentValue mo_SegmentValue hr (takes_of rfl rfl rfl rfl) hx (da_cons de_str (da_cons (de_op o_sub (db 1) (de_db de_int)) da_nil))))))
      (dss_cons (ds_setF (db 2) (de_op o_sub (de_db (de_fld (db 0))) (de_db (de_mth (db 0) CSegmentSlewed mo_SegmentSlewed hr (takes_of rfl rfl rfl rfl) hx (da_cons (de_op o_sub (db 1) (de_db (de_fld (db 0)))) da_nil)))))
      (dss_cons (ds_setF (db 2) (de_fld (db 0)))
      (dss_cons (ds_setF (db 2) (dn_de (dn_lc (own := [("queue", 5)]) scSegmentOpened.nd (di_list (de_fld (db 0))) (blkOk_by (own := [("queue", 5)]) (N := ["self", "count", "later", "clocks", "clock", "queue"]) (sc := defScope sSegmentOpened) (by decide +kernel)) (fun _ _ _ _ _ => (dgc_name 5 (by decide) scSegmentOpened.nd)) (fun _ _ _ _ _ => dts_nil) (fun _ _ _ _ _ => (de_cal CTurned mo_Turned hr (by rfl) (da_cons (dv 5) (da_cons (dv 1) da_nil)))))))
      (dss_one (ds_ret (dv 2))))))))), ?_⟩
  have R0 := R
  obtain ⟨dx, sh, ha, hw, hs⟩ := R
  walk_at "dgo"
  intro b db hb hdb
  refine ⟨b, db, n, g.shift, g.mult, rfl, addM_same, ?_⟩
  rintro v M1 ⟨hv, vb, h1, h2, hs1⟩
  refine ⟨rfl, ?_⟩
  rw [addM_ne vb] at hv
  have ab : a ≠ b := fun z => by rw [z, hb] at ha; cases ha
  have av : a ≠ v := fun z => by rw [z, hv] at ha; cases ha
  have wb : w ≠ b := fun z => by rw [z, hb] at hw; cases hw
  have wv : w ≠ v := fun z => by rw [z, hv] at hw; cases hw
  have e1 : ∀ x, x ≠ b → x ≠ v → M1 x = M x := fun x q1 q2 => by rw [hs1 x q1 q2, addM_ne q1]
  have ha1 := (e1 a ab av).trans ha
  have hw1 := (e1 w wb wv).trans hw
  have R1 : RepG cSegment M1 a w g := R0.same fun x hx => by rcases hx with rfl | rfl; exact e1 _ ab av; exact e1 _ wb wv
  walk_at "dgo"
  refine ⟨a, w, g, rfl, R1, fun M2 f2 hs2 => ?_⟩
  walk_at "dgo"
  refine lc_nil ?_
  have R2 : RepG cSegment M2 a w g := R1.fram f2 (fun z => z) (fun z => z)
  obtain ⟨dx2, sh2, ha2, hw2, hsh2⟩ := id R2
  have hb2 := (hs2 b (Ne.symm ab)).trans h1
  have hv2 := (hs2 v (Ne.symm av)).trans h2
  walk_at "dgo"
  intro p hp
  have ap : a ≠ p := ne_some' ha2 hp
  have wp : w ≠ p := ne_some' hw2 hp
  have bp : b ≠ p := ne_some' hb2 hp
  have vp : v ≠ p := ne_some' hv2 hp
  refine ⟨fun i Mx => Mx = addM M2 p (.dg ((worthG (g.opened n)).take i)), rfl, fun i d Mx hd hx => ?_, ?_⟩
  · subst hx
    have hd' : ∃ c : Clk, d = .str c.str ∧ i < 3 ∧ putG ((worthG (g.opened n)).take i) (.inr c.str) (.int (g.value c n)) = (worthG (g.opened n)).take (i + 1) := by
      match i, hd with
      | 0, hd => cases hd; exact ⟨.steady, rfl, by omega, rfl⟩
      | 1, hd => cases hd; exact ⟨.real, rfl, by omega, rfl⟩
      | 2, hd => cases hd; exact ⟨.boot, rfl, by omega, rfl⟩
    obtain ⟨c, rfl, hi, hc⟩ := hd'
    walk_at "dgo"
    refine ⟨a, w, g, c, n, rfl, R2.same fun x hx => addM_ne (by rcases hx with rfl | rfl; exact ap; exact wp), ok, ?_⟩
    refine ⟨rfl, _, _, rfl, addM_same, line' (by rw [List.length_take]; show min i 3 < 16000000; omega), ?_⟩
    show addM (addM M2 p _) p _ = addM M2 p _
    rw [addM_addM, hc]
  · rintro Mx rfl
    walk_at "dgo"
    have htk : List.take (List.map (fun (e : Key × DM.D) => kD e.fst) (worthG g) ++ []).length (worthG (g.opened n)) = worthG (g.opened n) := rfl
    rw [htk]
    refine cutD_ (fun ρ M' => ρ = [.val (.ref a), .val (.int n), .val (.ref b), .val (.lst [.str "steady", .str "real", .str "boot"]), .un, .un] ∧ M' = addM (addM M2 p (.dg (worthG (g.opened n)))) b (.ins cSegment db (putD "before" (.int (g.opened n).before) (putD "worth" (.ref p) (segF v (seg0 n g.shift g.mult) .non))))) ?_ ?_
    · walk_at "dgo"
      refine ite2 (fun e => ?_) (fun e => ?_)
      · have e2 : (g.opened n).before = g.before := if_pos (of_decide_eq_true e)
        walk_at "dgo"
        rw [e2]
      · have e2 : (g.opened n).before = g.value .steady (n - 1) := if_neg (fun h => e (decide_eq_true h))
        walk_at "dgo"
        refine ⟨a, w, g, .steady, n - 1, rfl, R2.same fun x hx => by rcases hx with rfl | rfl; (rw [addM_ne ab, addM_ne ap]); (rw [addM_ne wb, addM_ne wp]), ok, ?_⟩
        walk_at "dgo"
        rw [e2]
    · rintro ρ Mx ⟨rfl, rfl⟩
      walk_at "dgo"
      refine ⟨a, w, g, _, rfl, R2.same fun x hx => by rcases hx with rfl | rfl; (rw [addM_ne ab, addM_ne ap]); (rw [addM_ne wb, addM_ne wp]), ok, ?_⟩
      walk_at "dgo"
      refine ⟨fun i acc My => acc = List.replicate i queD ∧ My = addM (addM M2 p (.dg (worthG (g.opened n)))) b (.ins cSegment db (putD "step" (.int g.step) (putD "left" (.int (g.left - g.slewed (n - g.start))) (putD "before" (.int (g.opened n).before) (putD "worth" (.ref p) (segF v (seg0 n g.shift g.mult) .non)))))), ⟨rfl, rfl⟩, fun i d acc My hd hx => ?_, ?_⟩
      · obtain ⟨rfl, rfl⟩ := hx
        obtain rfl : d = queD := (List.mem_replicate.mp (List.mem_of_getElem? hd)).2
        walk_at "dgo"
        have hi : i < g.n := by
          have := (List.getElem?_eq_some_iff.mp hd).1
          rwa [List.length_replicate] at this
        have n8 := ok.n1
        refine ⟨line' (by rw [List.length_replicate]; omega), ?_, rfl⟩
        rw [List.replicate_succ']
      · rintro acc My ⟨rfl, rfl⟩
        rw [List.length_replicate]
        walk_at "dgo"
        have fM : Fram cSegment none' M M1 := Fram.refl.same fun x hx => e1 x (fun z => hx (by rw [z]; exact hb)) (fun z => hx (by rw [z]; exact hv))
        have mp : M p = none := (fM.trans f2).gone hp
        refine q b p _ ((fM.trans f2).same fun x hx => ?_) hb mp ⟨db, .non, ?_, ?_, .inl rfl⟩
        · rw [addM_ne (fun z => hx (by rw [z]; exact hb)), addM_ne (fun z => hx (by rw [z]; exact mp))]
        · rw [addM_same]; rfl
        · rw [addM_ne (Ne.symm bp), addM_same]

/-! ### states -/
structure KS where
  z : Sett
  cycle : Int
  now : Int
  old : List Seg
  cur : Seg
  hal : Option Int
  rows : List DM.D
def halD : Option Int → DM.D
  | none => .non
  | some i => .int i
def fE : DM.D := .fK [] []
def stF (z sl rl : Addr) (cy now : Int) (hal : Option Int) : Fs := [("settings", .ref z), ("cycle", .int cy), ("now", .int now), ("segments", .ref sl), ("owners", .tup []), ("made", .int 0), ("over", fE), ("limits", fE), ("asleep", fE), ("live", fE), ("expired_times", .lst []), ("slot_of", fE), ("slots", fE), ("untaken", fE), ("broken", .lst []), ("rung", .lst []), ("halted", halD hal), ("samples", fE), ("rows", .ref rl), ("forecast", .non)]
section
variable {z sl rl : Addr} {cy now : Int} {hal : Option Int}
theorem st_settings : (stF z sl rl cy now hal).lookup ("settings" : Str) = some (DM.D.ref z) := by kernel_rfl
theorem st_cycle : (stF z sl rl cy now hal).lookup ("cycle" : Str) = some (DM.D.int cy) := by kernel_rfl
theorem st_now : (stF z sl rl cy now hal).lookup ("now" : Str) = some (DM.D.int now) := by kernel_rfl
theorem st_segments : (stF z sl rl cy now hal).lookup ("segments" : Str) = some (DM.D.ref sl) := by kernel_rfl
theorem st_owners : (stF z sl rl cy now hal).lookup ("owners" : Str) = some (DM.D.tup []) := by kernel_rfl
theorem st_made : (stF z sl rl cy now hal).lookup ("made" : Str) = some (DM.D.int 0) := by kernel_rfl
theorem st_over : (stF z sl rl cy now hal).lookup ("over" : Str) = some (fE) := by kernel_rfl
theorem st_limits : (stF z sl rl cy now hal).lookup ("limits" : Str) = some (fE) := by kernel_rfl
theorem st_asleep : (stF z sl rl cy now hal).lookup ("asleep" : Str) = some (fE) := by kernel_rfl
theorem st_live : (stF z sl rl cy now hal).lookup ("live" : Str) = some (fE) := by kernel_rfl
theorem st_expired_times : (stF z sl rl cy now hal).lookup ("expired_times" : Str) = some (DM.D.lst []) := by kernel_rfl
theorem st_slot_of : (stF z sl rl cy now hal).lookup ("slot_of" : Str) = some (fE) := by kernel_rfl
theorem st_slots : (stF z sl rl cy now hal).lookup ("slots" : Str) = some (fE) := by kernel_rfl
theorem st_untaken : (stF z sl rl cy now hal).lookup ("untaken" : Str) = some (fE) := by kernel_rfl
theorem st_broken : (stF z sl rl cy now hal).lookup ("broken" : Str) = some (DM.D.lst []) := by kernel_rfl
theorem st_rung : (stF z sl rl cy now hal).lookup ("rung" : Str) = some (DM.D.lst []) := by kernel_rfl
theorem st_halted : (stF z sl rl cy now hal).lookup ("halted" : Str) = some ((halD hal)) := by kernel_rfl
theorem st_samples : (stF z sl rl cy now hal).lookup ("samples" : Str) = some (fE) := by kernel_rfl
theorem st_rows : (stF z sl rl cy now hal).lookup ("rows" : Str) = some (DM.D.ref rl) := by kernel_rfl
theorem st_forecast : (stF z sl rl cy now hal).lookup ("forecast" : Str) = some (DM.D.non) := by kernel_rfl
end
local macro_rules | `(tactic| walk_at "fld") => `(tactic| first | with_reducible exact st_settings | with_reducible exact st_cycle | with_reducible exact st_now | with_reducible exact st_segments | with_reducible exact st_owners | with_reducible exact st_made | with_reducible exact st_over | with_reducible exact st_limits | with_reducible exact st_asleep | with_reducible exact st_live | with_reducible exact st_expired_times | with_reducible exact st_slot_of | with_reducible exact st_slots | with_reducible exact st_untaken | with_reducible exact st_broken | with_reducible exact st_rung | with_reducible exact st_halted | with_reducible exact st_samples | with_reducible exact st_rows | with_reducible exact st_forecast)
structure KSOk (st : KS) : Prop where
  zo : SettOk st.z
  go : SegOk st.cur
  gn : st.cur.n = st.z.n
  gs : st.cur.shift = st.z.s
  oo : ∀ x ∈ st.old, SegOk x
  le : st.cur.start ≤ st.now
  n0 : 0 ≤ st.now
inductive RepGs (cG : Addr) (M : Mm) : List (Addr × Addr) → List Seg → Prop
  | nil : RepGs cG M [] []
  | cons {a w : Addr} {g : Seg} {ps : List (Addr × Addr)} {gs : List Seg} : RepG cG M a w g → RepGs cG M ps gs → RepGs cG M ((a, w) :: ps) (g :: gs)
structure RepA (cG cS cZ : Addr) (M : Mm) (s z sl rl : Addr) (gs : List (Addr × Addr)) (g w : Addr) (st : KS) : Prop where
  hs : ∃ dS, M s = some (.ins cS dS (stF z sl rl st.cycle st.now st.hal))
  hz : ∃ dz, M z = some (.ins cZ dz st.z.F)
  hsl : M sl = some (.lst ((gs.map fun p => DM.D.ref p.1) ++ [.ref g]))
  hold : RepGs cG M gs st.old
  hcur : RepG cG M g w st.cur
  hrl : M rl = some (.lst st.rows)
  hne : sl ≠ rl
  hok : KSOk st
/-- N: what is one's own -/
structure RepSt (cG cS cZ : Addr) (N : Addr → Prop) (M : Mm) (s : Addr) (st : KS) : Prop where
  ex : ∃ z sl rl gs g w, RepA cG cS cZ M s z sl rl gs g w st ∧ N s ∧ N sl ∧ N rl
  nw : ∀ a, M a = none → N a
section
variable {cG cS cZ : Addr} {N N' : Addr → Prop} {M M1 M2 : Mm}
theorem RepGs.fram {ps : List (Addr × Addr)} {gs : List Seg} (r : RepGs cG M ps gs) (f : Fram cG N M M1) (h : ∀ p ∈ ps, ¬ N p.1 ∧ ¬ N p.2) : RepGs cG M1 ps gs := by
  induction r with
  | nil => exact .nil
  | @cons a w g ps gs a1 _ ih => exact .cons (a1.fram f (h (a, w) List.mem_cons_self).1 (h (a, w) List.mem_cons_self).2) (ih fun p hp => h p (List.mem_cons_of_mem _ hp))
theorem RepGs.app {ps qs : List (Addr × Addr)} {gs hs : List Seg} (r : RepGs cG M ps gs) (s : RepGs cG M qs hs) : RepGs cG M (ps ++ qs) (gs ++ hs) := by
  induction r with
  | nil => exact s
  | cons a _ ih => exact .cons a ih
theorem RepG.some {a w : Addr} {g : Seg} (r : RepG cG M a w g) : M a ≠ none ∧ M w ≠ none := by
  obtain ⟨dx, sh, h1, h2, _⟩ := r
  exact ⟨by rw [h1]; simp, by rw [h2]; simp⟩
theorem RepGs.some {ps : List (Addr × Addr)} {gs : List Seg} (r : RepGs cG M ps gs) : ∀ p ∈ ps, M p.1 ≠ none ∧ M p.2 ≠ none := by
  induction r with
  | nil => intro p hp; cases hp
  | cons a _ ih =>
    intro p hp
    rcases List.mem_cons.mp hp with rfl | hp
    · exact a.some
    · exact ih p hp
theorem addM_non {M : Mm} {a w : Addr} {o : MO} : addM M a o w = none ↔ w ≠ a ∧ M w = none := ⟨addM_none, fun h => by rw [addM_ne h.1]; exact h.2⟩
theorem atI_last {xs : List DM.D} {x : DM.D} : atI (xs ++ [x]) (-1) = some x := by
  have h : ixN (xs ++ [x]).length (-1) = some xs.length := by
    unfold ixN
    simp only [List.length_append, List.length_cons, List.length_nil]
    rw [if_neg (by omega), if_pos (by omega)]
    congr 1
    omega
  unfold atI
  rw [h]
  simp
/-- all that a state stands on -/
theorem RepA.fram {s z sl rl g w : Addr} {gs : List (Addr × Addr)} {st : KS} (r : RepA cG cS cZ M s z sl rl gs g w st) (f : Fram cG none' M M1) : RepA cG cS cZ M1 s z sl rl gs g w st := by
  obtain ⟨⟨dS, h1⟩, ⟨dz, h2⟩, h3, h4, h5, h6, h7, h8⟩ := r
  exact ⟨⟨dS, f.ins (fun z => z) h1 rfl⟩, ⟨dz, f.ins (fun z => z) h2 rfl⟩, f.lst (fun z => z) h3, h4.fram f (fun _ _ => ⟨fun z => z, fun z => z⟩), h5.fram f (fun z => z) (fun z => z), f.lst (fun z => z) h6, h7, h8⟩
theorem RepSt.fram {s : Addr} {st : KS} (r : RepSt cG cS cZ N M s st) (f : Fram cG none' M M1) : RepSt cG cS cZ N M1 s st := by
  obtain ⟨⟨z, sl, rl, gs, g, w, h, n⟩, nw⟩ := r
  exact ⟨⟨z, sl, rl, gs, g, w, h.fram f, n⟩, fun a h => nw a (f.gone h)⟩
theorem RepSt.mono {s : Addr} {st : KS} (r : RepSt cG cS cZ N M s st) (h : ∀ a, N a → N' a) : RepSt cG cS cZ N' M s st := by
  obtain ⟨⟨z, sl, rl, gs, g, w, h1, n1, n2, n3⟩, nw⟩ := r
  exact ⟨⟨z, sl, rl, gs, g, w, h1, h _ n1, h _ n2, h _ n3⟩, fun a e => h a (nw a e)⟩
end
def sdState (cState : Addr) : SpD := fun ds M Q _ _ => ∃ (s z dx : Addr), ds = [.ref s, .ref z] ∧ M s = some (.ins cState dx []) ∧ ∀ (sl rl : Addr) (M' : Mm), (M sl = none ∧ M rl = none ∧ sl ≠ rl ∧ M' s = some (.ins cState dx (stF z sl rl 0 0 none)) ∧ M' sl = some (.lst []) ∧ M' rl = some (.lst []) ∧ ∀ b, b ≠ s → b ≠ sl → b ≠ rl → M' b = M b) → Q .non M'
theorem mo_StateInit {cState : Addr} : SpMono (sdState cState) := ⟨fun ds M Q N E Q' N' E' mh mh1 mh2 mh3 => by
  obtain ⟨s, z, dx, rfl, hs, q⟩ := mh
  refine ⟨s, z, dx, rfl, hs, ?_⟩
  first
  | exact mh1 _ _ q
  | exact mh2 _ _ q
  | exact fun a => mh1 _ _ (q a)
  | exact fun a b => mh1 _ _ (q a b)
  | exact fun a b c => mh1 _ _ (q a b c)
  | exact fun a b c d => mh1 _ _ (q a b c d)
  | exact fun a b c d e => mh1 _ _ (q a b c d e)
  | exact fun a b c d e f => mh1 _ _ (q a b c d e f)
  | exact fun a b c d e f g => mh1 _ _ (q a b c d e f g)
  | exact fun a b c d e f g h => mh1 _ _ (q a b c d e f g h)
  | exact fun a => mh2 _ _ (q a)
  | exact fun a b => mh2 _ _ (q a b)
  | exact fun a b c => mh2 _ _ (q a b c)
  | exact fun a b c d => mh2 _ _ (q a b c d)
  | exact fun a b c d e => mh2 _ _ (q a b c d e)
  | exact ⟨fun a => mh1 _ _ (q.1 a), fun a => mh3 _ _ (q.2 a)⟩
  | exact ⟨fun a => mh2 _ _ (q.1 a), fun a => mh3 _ _ (q.2 a)⟩⟩

abbrev sStateInit : Stmt := metS 97 0
theorem scStateInit : FnScope ["self", "settings"] ["self", "settings"] (defScope sStateInit) := ⟨rfl, rfl, rfl, by decide +kernel, rfl, by decide +kernel, by decide +kernel⟩
set_option maxHeartbeats 2000000 in
theorem ok_StateInit {cState cSegment cSettings cKernel aPLAIN_CLOCKS : Addr} (D : MakAt K mg "State" cState "State.__init__" sStateInit ["self", "settings"])  (T : Txt K mg cState cSegment cSettings cKernel aPLAIN_CLOCKS) : MakCal P w K mg base "State" cState ["self", "settings"] 1 (ofD K (sdState cState)) := by
  refine defMak D scStateInit (fun ds M Q N E h => (by (obtain ⟨_, _, _, rfl, _⟩ := h); rfl)) (fun g f cdv Ar outer s H E ds M Q N E2 hr hx h => ?_)
  obtain ⟨s, z, dx, rfl, hs, q⟩ := h
  refine ⟨_, _, dss_cons (ds_setF (db 0) (dv 1))
      (dss_cons (ds_setF (db 0) de_int)
      (dss_cons (ds_setF (db 0) de_int)
      (dss_cons (ds_setF (db 0) (de_lstM da_nil))
      (dss_cons (ds_setF (db 0) (de_tup da_nil))
      (dss_cons (ds_setF (db 0) de_int)
      (dss_cons (ds_setF (db 0) de_newF)
      (dss_cons (ds_setF (db 0) de_newF)
      (dss_cons (ds_setF (db 0) de_newF)
      (dss_cons (ds_setF (db 0) de_newF)
      (dss_cons (ds_setF (db 0) (dn_de (dn_lst da_nil)))
      (dss_cons (ds_setF (db 0) de_newF)
      (dss_cons (ds_setF (db 0) de_newF)
      (dss_cons (ds_setF (db 0) de_newF)
      (dss_cons (ds_setF (db 0) (dn_de (dn_lst da_nil)))
      (dss_cons (ds_setF (db 0) (dn_de (dn_lst da_nil)))
      (dss_cons (ds_setF (db 0) de_non)
      (dss_cons (ds_setF (db 0) de_newF)
      (dss_cons (ds_setF (db 0) (de_lstM da_nil))
      (dss_one (ds_setF (db 0) de_non)))))))))))))))))))), ?_⟩
  walk_at "dgo"
  intro sl hsl
  obtain ⟨sls, hsl⟩ := addM_none hsl
  walk_at "dgo"
  intro rl hrl
  obtain ⟨rls, hrl⟩ := addM_none hrl
  obtain ⟨rlsl, hrl⟩ := addM_none hrl
  obtain ⟨_, hrl⟩ := addM_none hrl
  walk_at "dgo"
  refine q sl rl _ ⟨hsl, hrl, Ne.symm rlsl, ?_, ?_, ?_, fun b h1 h2 h3 => ?_⟩
  · rw [addM_same]
    kernel_rfl
  · walk_at "mem"
  · walk_at "mem"
  · simp only [addM_ne h1, addM_ne h2, addM_ne h3]

theorem andF {A B : Prop} (a : A) (f : A → B) : A ∧ B := ⟨a, f a⟩
def sdCopied (cSegment cState cSettings : Addr) : SpD := fun ds M Q _ _ => ∃ (N : Addr → Prop) (s : Addr) (st : KS), ds = [.ref s] ∧ RepSt cSegment cState cSettings N M s st ∧ ∀ s' M', (Fram cSegment none' M M' ∧ M s' = none ∧ RepSt cSegment cState cSettings (newIn M) M' s' st) → Q (.ref s') M'
theorem mo_StateCopied {cState : Addr} {cSegment : Addr} {cSettings : Addr} : SpMono (sdCopied cSegment cState cSettings) := ⟨fun ds M Q N E Q' N' E' mh mh1 mh2 mh3 => by
  obtain ⟨N, s, st, rfl, R, q⟩ := mh
  refine ⟨N, s, st, rfl, R, ?_⟩
  first
  | exact mh1 _ _ q
  | exact mh2 _ _ q
  | exact fun a => mh1 _ _ (q a)
  | exact fun a b => mh1 _ _ (q a b)
  | exact fun a b c => mh1 _ _ (q a b c)
  | exact fun a b c d => mh1 _ _ (q a b c d)
  | exact fun a b c d e => mh1 _ _ (q a b c d e)
  | exact fun a b c d e f => mh1 _ _ (q a b c d e f)
  | exact fun a b c d e f g => mh1 _ _ (q a b c d e f g)
  | exact fun a b c d e f g h => mh1 _ _ (q a b c d e f g h)
  | exact fun a => mh2 _ _ (q a)
  | exact fun a b => mh2 _ _ (q a b)
  | exact fun a b c => mh2 _ _ (q a b c)
  | exact fun a b c d => mh2 _ _ (q a b c d)
  | exact fun a b c d e => mh2 _ _ (q a b c d e)
  | exact ⟨fun a => mh1 _ _ (q.1 a), fun a => mh3 _ _ (q.2 a)⟩
  | exact ⟨fun a => mh2 _ _ (q.1 a), fun a => mh3 _ _ (q.2 a)⟩⟩

abbrev sStateCopied : Stmt := metS 97 1
theorem scStateCopied : FnScope ["self", "other", "slot"] ["self"] (defScope sStateCopied) := ⟨rfl, rfl, rfl, by decide +kernel, rfl, by decide +kernel, by decide +kernel⟩
set_option maxHeartbeats 2000000 in
theorem ok_StateCopied {cState cSegment cSettings cKernel aPLAIN_CLOCKS : Addr} (D : MAt K cState "copied" "State.copied" sStateCopied ["self"]) (CStateInit : MakCal P w K mg base "State" cState ["self", "settings"] 1 (ofD K (sdState cState))) (T : Txt K mg cState cSegment cSettings cKernel aPLAIN_CLOCKS) : MCal P w K mg base cState "copied" ["self"] 3 (ofD K (sdCopied cSegment cState cSettings)) := by
  refine defMX D scStateCopied (fun ds M Q N E h => (by (obtain ⟨_, _, _, rfl, _⟩ := h); rfl)) (fun g f cdv Ar outer s H E ds M Q N E2 hr hx h => ?_)
  obtain ⟨N, s, st, rfl, R, q⟩ := h
  refine ⟨_, _, dss_cons (ds_set 1 scStateCopied.nd (de_mak CStateInit mo_StateInit hr (by rfl) (takes_of rfl rfl rfl rfl) hx (da_cons (de_fld (db 0)) da_nil)))
      (dss_cons (ds_setF (db 1) (de_fld (db 0)))
      (dss_cons (ds_setF (db 1) (de_fld (db 0)))
      (dss_cons (ds_setF (db 1) (de_copyM (by rfl) T.list (by decide +kernel) (de_db (de_fld (db 0)))))
      (dss_cons (ds_setF (db 1) (de_fld (db 0)))
      (dss_cons (ds_setF (db 1) (de_fld (db 0)))
      (dss_cons (ds_setF (db 1) (de_dictF (by rfl) T.dict (by decide +kernel) (de_db (de_fld (db 0)))))
      (dss_cons (ds_setF (db 1) (de_dictF (by rfl) T.dict (by decide +kernel) (de_db (de_fld (db 0)))))
      (dss_cons (ds_setF (db 1) (de_dictF (by rfl) T.dict (by decide +kernel) (de_db (de_fld (db 0)))))
      (dss_cons (ds_setF (db 1) (de_dictF (by rfl) T.dict (by decide +kernel) (de_db (de_fld (db 0)))))
      (dss_cons (ds_setF (db 1) (dn_de (dn_callT1 o_listOf (by rfl) T.list (by decide +kernel) (de_db (de_fld (db 0))))))
      (dss_cons (ds_setF (db 1) (de_dictF (by rfl) T.dict (by decide +kernel) (de_db (de_fld (db 0)))))
      (dss_cons (ds_setF (db 1) (de_dcF0 (own := [("slot", 2)]) scStateCopied.nd (di_keys (de_fld (db 0))) (blkOk_by (own := [("slot", 2)]) (N := ["self", "other", "slot"]) (sc := defScope sStateCopied) (by decide +kernel)) (fun _ _ _ _ _ => (dgc_name 2 (by decide) scStateCopied.nd)) (fun _ _ _ _ _ => dts_nil) (fun _ _ _ _ _ => (dv 2)) (fun _ _ _ _ _ => de_never)))
      (dss_cons (ds_setF (db 1) (de_dictF (by rfl) T.dict (by decide +kernel) (de_db (de_fld (db 0)))))
      (dss_cons (ds_setF (db 1) (dn_de (dn_callT1 o_listOf (by rfl) T.list (by decide +kernel) (de_db (de_fld (db 0))))))
      (dss_cons (ds_setF (db 1) (dn_de (dn_callT1 o_listOf (by rfl) T.list (by decide +kernel) (de_db (de_fld (db 0))))))
      (dss_cons (ds_setF (db 1) (de_fld (db 0)))
      (dss_cons (ds_setF (db 1) (de_dictF (by rfl) T.dict (by decide +kernel) (de_db (de_fld (db 0)))))
      (dss_cons (ds_setF (db 1) (de_copyM (by rfl) T.list (by decide +kernel) (de_db (de_fld (db 0)))))
      (dss_one (ds_ret (dv 1))))))))))))))))))))), ?_⟩
  obtain ⟨⟨z, sl, rl, gs, g, w, RA, n1, n2, n3⟩, nw⟩ := R
  obtain ⟨⟨dS, hs⟩, ⟨dz, hz⟩, hsl, hold, hcur, hrl, hne, ok⟩ := id RA
  walk_at "dgo"
  intro s' dS' h1 h2
  refine ⟨s', z, dS', rfl, addM_same, ?_⟩
  rintro l1 l2 M1 ⟨e1, e2, e3, e4, e5, e6, e7⟩
  refine ⟨rfl, ?_⟩
  obtain ⟨ls1, e1⟩ := addM_none e1
  obtain ⟨ls2, e2⟩ := addM_none e2
  have k1 : ∀ b, M b ≠ none → M1 b = M b := fun b hb => by
    have hb' : b ≠ s' := fun z => hb (by rw [z]; exact h1)
    rw [e7 b hb' (fun z => hb (by rw [z]; exact e1)) (fun z => hb (by rw [z]; exact e2)), addM_ne hb']
  have hs1 : M1 s = _ := (k1 s (by rw [hs]; simp)).trans hs
  have hsl1 : M1 sl = _ := (k1 sl (by rw [hsl]; simp)).trans hsl
  have hrl1 : M1 rl = _ := (k1 rl (by rw [hrl]; simp)).trans hrl
  have ss : s ≠ s' := ne_some' hs h1
  have sls : sl ≠ s' := ne_some' hsl h1
  have rls : rl ≠ s' := ne_some' hrl h1
  walk_at "dgo"
  intro sl' hsl'
  obtain ⟨ss1, hsl'⟩ := addM_none hsl'
  have ss2 : s ≠ sl' := ne_some' hs1 hsl'
  have sls2 : sl ≠ sl' := ne_some' hsl1 hsl'
  have rls2 : rl ≠ sl' := ne_some' hrl1 hsl'
  walk_at "dgo"
  intro rl' hrl'
  obtain ⟨ss3, hrl'⟩ := addM_none hrl'
  obtain ⟨slr, hrl'⟩ := addM_none hrl'
  obtain ⟨_, hrl'⟩ := addM_none hrl'
  walk_at "dgo"
  have nw1 : ∀ x, M1 x = none → M x = none := fun x hx => by
    cases e : M x with
    | none => rfl
    | some o =>
      have hne : M x ≠ none := by rw [e]; simp
      exact absurd ((k1 x hne).symm.trans hx) hne
  have msl := nw1 _ hsl'
  have mrl := nw1 _ hrl'
  refine q s' _ (andF ?_ fun F => ⟨h1, ?_⟩)
  rotate_left
  · have RA2 := RA.fram F
    refine ⟨⟨z, sl', rl', gs, g, w, ⟨⟨dS', ?_⟩, RA2.hz, ?_, RA2.hold, RA2.hcur, ?_, Ne.symm slr, ok⟩, h1, msl, mrl⟩, fun a ha => F.gone ha⟩
    · rw [addM_same]
      kernel_rfl
    · rw [addM_ne ss1, addM_ne (Ne.symm slr), addM_ne ss1, addM_same]
    · rw [addM_ne ss3, addM_same]
  · refine Fram.refl.same fun x hx => ?_
    have x1 : x ≠ s' := fun z => hx (by rw [z]; exact h1)
    have x2 : x ≠ sl' := fun z => hx (by rw [z]; exact msl)
    have x3 : x ≠ rl' := fun z => hx (by rw [z]; exact mrl)
    simp only [addM_ne x1, addM_ne x2, addM_ne x3]
    exact k1 x hx
def sdCourse (cSegment cState cSettings : Addr) : SpD := fun ds M Q _ _ => ∃ (s z sl rl : Addr) (gs : List (Addr × Addr)) (g w : Addr) (st : KS), ds = [.ref s] ∧ RepA cSegment cState cSettings M s z sl rl gs g w st ∧ Q (.ref g) M
theorem mo_StateCourse {cState : Addr} {cSegment : Addr} {cSettings : Addr} : SpMono (sdCourse cSegment cState cSettings) := ⟨fun ds M Q N E Q' N' E' mh mh1 mh2 mh3 => by
  obtain ⟨s, z, sl, rl, gs, g, w, st, rfl, R, q⟩ := mh
  refine ⟨s, z, sl, rl, gs, g, w, st, rfl, R, ?_⟩
  first
  | exact mh1 _ _ q
  | exact mh2 _ _ q
  | exact fun a => mh1 _ _ (q a)
  | exact fun a b => mh1 _ _ (q a b)
  | exact fun a b c => mh1 _ _ (q a b c)
  | exact fun a b c d => mh1 _ _ (q a b c d)
  | exact fun a b c d e => mh1 _ _ (q a b c d e)
  | exact fun a b c d e f => mh1 _ _ (q a b c d e f)
  | exact fun a b c d e f g => mh1 _ _ (q a b c d e f g)
  | exact fun a b c d e f g h => mh1 _ _ (q a b c d e f g h)
  | exact fun a => mh2 _ _ (q a)
  | exact fun a b => mh2 _ _ (q a b)
  | exact fun a b c => mh2 _ _ (q a b c)
  | exact fun a b c d => mh2 _ _ (q a b c d)
  | exact fun a b c d e => mh2 _ _ (q a b c d e)
  | exact ⟨fun a => mh1 _ _ (q.1 a), fun a => mh3 _ _ (q.2 a)⟩
  | exact ⟨fun a => mh2 _ _ (q.1 a), fun a => mh3 _ _ (q.2 a)⟩⟩

abbrev sStateCourse : Stmt := metS 97 2
theorem scStateCourse : FnScope ["self"] ["self"] (defScope sStateCourse) := ⟨rfl, rfl, rfl, by decide +kernel, rfl, by decide +kernel, by decide +kernel⟩
set_option maxHeartbeats 2000000 in
theorem ok_StateCourse {cState cSegment cSettings cKernel aPLAIN_CLOCKS : Addr} (D : MAt K cState "course" "State.course" sStateCourse ["self"])  (T : Txt K mg cState cSegment cSettings cKernel aPLAIN_CLOCKS) : MCal P w K mg base cState "course" ["self"] 1 (ofD K (sdCourse cSegment cState cSettings)) := by
  refine defMX D scStateCourse (fun ds M Q N E h => (by (obtain ⟨_, _, _, _, _, _, _, _, rfl, _⟩ := h); rfl)) (fun g f cdv Ar outer s H E ds M Q N E2 hr hx h => ?_)
  obtain ⟨s, z, sl, rl, gs, g, w, st, rfl, R, q⟩ := h
  refine ⟨_, _, dss_one (ds_ret (de_ixLM (de_db (de_fld (db 0))) (de_db (de_un o_neg (de_db de_int))) (fun _ _ => rfl))), ?_⟩
  obtain ⟨⟨dS, hs⟩, ⟨dz, hz⟩, hsl, hold, hcur, hrl, hne, ok⟩ := R
  walk_at "dgo"
  exact ⟨_, _, _, _, rfl, hsl, rfl, atI_last, q⟩

/-! ### drafts -/
def KS.draft (st : KS) : KS := { st with old := if st.cur.start = st.now then st.old else st.old ++ [st.cur], cur := st.cur.opened st.now }
theorem KSOk.draft {st : KS} (h : KSOk st) : KSOk st.draft := by
  obtain ⟨zo, ⟨s0, s1, m0, m1, p0, p1, n1⟩, gn, gs, oo, le, n0⟩ := h
  refine ⟨zo, ⟨s0, s1, m0, m1, p0, p1, n1⟩, gn, gs, fun x hx => ?_, Int.le_refl _, n0⟩
  unfold KS.draft at hx
  simp only at hx
  split at hx
  · exact oo x hx
  · rcases List.mem_append.mp hx with hx | hx
    · exact oo x hx
    · obtain rfl := List.mem_singleton.mp hx
      exact ⟨s0, s1, m0, m1, p0, p1, n1⟩
/-- a state whose last segment is one's own -/
structure RepD (cG cS cZ : Addr) (N : Addr → Prop) (M : Mm) (s b v : Addr) (st : KS) : Prop where
  seg : RepG cG M b v st.cur
  nb : N b
  nv : N v
  ok : KSOk st
  re : ∀ M' g, (∀ x, x ≠ b → x ≠ v → M' x = M x) → RepG cG M' b v g → KSOk { st with cur := g } → RepSt cG cS cZ N M' s { st with cur := g }
section
variable {cG cS cZ : Addr} {N : Addr → Prop} {M M1 M3 : Mm}
theorem RepGs.same {ps : List (Addr × Addr)} {gs : List Seg} (r : RepGs cG M ps gs) (h : ∀ p ∈ ps, M1 p.1 = M p.1 ∧ M1 p.2 = M p.2) : RepGs cG M1 ps gs := by
  induction r with
  | nil => exact .nil
  | @cons a w g ps gs a1 _ ih =>
    have h0 := h (a, w) List.mem_cons_self
    exact .cons (a1.same fun b hb => by rcases hb with rfl | rfl; exact h0.1; exact h0.2) (ih fun p hp => h p (List.mem_cons_of_mem _ hp))
theorem repD_mk {s z sl rl g w b v : Addr} {gs gs' : List (Addr × Addr)} {st st' : KS} (RA : RepA cG cS cZ M s z sl rl gs g w st) (F : Fram cG none' M M1) (hb : M b = none) (hv : M v = none) (ns : N s) (nsl : N sl) (nrl : N rl) (nw : ∀ a, M a = none → N a)
    (h3 : ∀ x, x ≠ b → x ≠ sl → M3 x = M1 x) (hsl : M3 sl = some (.lst ((gs'.map fun p => DM.D.ref p.1) ++ [.ref b]))) (sub : ∀ p ∈ gs', M p.1 ≠ none ∧ M p.2 ≠ none ∧ p.1 ≠ sl ∧ p.2 ≠ sl) (old : RepGs cG M1 gs' st'.old) (hR : RepG cG M3 b v st'.cur)
    (ok : KSOk st') (e1 : st'.z = st.z) (e2 : st'.cycle = st.cycle) (e3 : st'.now = st.now) (e4 : st'.hal = st.hal) (e5 : st'.rows = st.rows) (up : ∀ x, M1 x ≠ none → M3 x ≠ none) : RepD cG cS cZ N M3 s b v st' := by
  refine ⟨hR, nw b hb, nw v hv, ok, fun M' g' hM' hg ok' => ?_⟩
  have ne : ∀ x, M x ≠ none → x ≠ b ∧ x ≠ v := fun x hx => ⟨fun z => hx (by rw [z]; exact hb), fun z => hx (by rw [z]; exact hv)⟩
  have RA1 := RA.fram F
  obtain ⟨dS, hs⟩ := RA.hs
  obtain ⟨dz, hz⟩ := RA.hz
  obtain ⟨dS1, hs1⟩ := RA1.hs
  obtain ⟨dz1, hz1⟩ := RA1.hz
  have ssl : s ≠ sl := fun z => by rw [z, RA.hsl] at hs; cases hs
  have zsl : z ≠ sl := fun q => by rw [q, RA.hsl] at hz; cases hz
  have k : ∀ x, M x ≠ none → x ≠ sl → M' x = M1 x := fun x hx hn => by rw [hM' x (ne x hx).1 (ne x hx).2, h3 x (ne x hx).1 hn]
  have msl : M sl ≠ none := by rw [RA.hsl]; simp
  refine ⟨⟨z, sl, rl, gs', b, v, ⟨⟨dS1, ?_⟩, ⟨dz1, ?_⟩, ?_, ?_, hg, ?_, RA.hne, ok'⟩, ns, nsl, nrl⟩, fun a ha => nw a ?_⟩
  · rw [k s (by rw [hs]; simp) ssl, hs1, e2, e3, e4]
  · rw [k z (by rw [hz]; simp) zsl, hz1, e1]
  · rw [hM' sl (ne sl msl).1 (ne sl msl).2, hsl]
  · exact old.same fun p hp => by
      obtain ⟨m1, m2, n1, n2⟩ := sub p hp
      exact ⟨k p.1 m1 n1, k p.2 m2 n2⟩
  · rw [k rl (by rw [RA.hrl]; simp) (Ne.symm RA.hne), RA1.hrl, e5]
  · cases e : M a with
    | none => rfl
    | some o =>
      have m : M a ≠ none := by rw [e]; simp
      by_cases q : a = sl
      · rw [q, hM' sl (ne sl msl).1 (ne sl msl).2, hsl] at ha; cases ha
      · exact absurd ((k a m q).symm.trans ha) (F.up a m)
theorem RepGs.out {ps : List (Addr × Addr)} {gs : List Seg} (r : RepGs cG M ps gs) {sl : Addr} {ds : List DM.D} (h : M sl = Option.some (.lst ds)) : ∀ p ∈ ps, M p.1 ≠ none ∧ M p.2 ≠ none ∧ p.1 ≠ sl ∧ p.2 ≠ sl := by
  induction r with
  | nil => intro p hp; cases hp
  | cons a1 _ ih =>
    intro p hp
    rcases List.mem_cons.mp hp with rfl | hp
    · obtain ⟨dx, sh, h1, h2, _⟩ := a1
      exact ⟨by rw [h1]; simp, by rw [h2]; simp, (fun z => by dsimp only at z; rw [z, h] at h1; cases h1), (fun z => by dsimp only at z; rw [z, h] at h2; cases h2)⟩
    · exact ih p hp
theorem RepGs.len {ps : List (Addr × Addr)} {gs : List Seg} (r : RepGs cG M ps gs) : ps.length = gs.length := by
  induction r with
  | nil => rfl
  | cons _ _ ih => rw [List.length_cons, List.length_cons, ih]
theorem ixN_last (n : Nat) : ixN (n + 1) (-1) = some n := by
  unfold ixN
  rw [if_neg (by omega), if_pos (by omega)]
  congr 1
  omega
end
def sdDraft (cSegment cState cSettings : Addr) : SpD := fun ds M Q _ _ => ∃ (N : Addr → Prop) (s : Addr) (st : KS), ds = [.ref s] ∧ RepSt cSegment cState cSettings N M s st ∧ st.old.length < 1000000 ∧ ∀ b v M', (Fram cSegment N M M' ∧ RepD cSegment cState cSettings N M' s b v st.draft) → Q (.ref b) M'
theorem mo_StateDraft {cState : Addr} {cSegment : Addr} {cSettings : Addr} : SpMono (sdDraft cSegment cState cSettings) := ⟨fun ds M Q N E Q' N' E' mh mh1 mh2 mh3 => by
  obtain ⟨N, s, st, rfl, R, hl, q⟩ := mh
  refine ⟨N, s, st, rfl, R, hl, ?_⟩
  first
  | exact mh1 _ _ q
  | exact mh2 _ _ q
  | exact fun a => mh1 _ _ (q a)
  | exact fun a b => mh1 _ _ (q a b)
  | exact fun a b c => mh1 _ _ (q a b c)
  | exact fun a b c d => mh1 _ _ (q a b c d)
  | exact fun a b c d e => mh1 _ _ (q a b c d e)
  | exact fun a b c d e f => mh1 _ _ (q a b c d e f)
  | exact fun a b c d e f g => mh1 _ _ (q a b c d e f g)
  | exact fun a b c d e f g h => mh1 _ _ (q a b c d e f g h)
  | exact fun a => mh2 _ _ (q a)
  | exact fun a b => mh2 _ _ (q a b)
  | exact fun a b c => mh2 _ _ (q a b c)
  | exact fun a b c d => mh2 _ _ (q a b c d)
  | exact fun a b c d e => mh2 _ _ (q a b c d e)
  | exact ⟨fun a => mh1 _ _ (q.1 a), fun a => mh3 _ _ (q.2 a)⟩
  | exact ⟨fun a => mh2 _ _ (q.1 a), fun a => mh3 _ _ (q.2 a)⟩⟩

abbrev sStateDraft : Stmt := metS 97 3
theorem scStateDraft : FnScope ["self", "last", "drafted"] ["self"] (defScope sStateDraft) := ⟨rfl, rfl, rfl, by decide +kernel, rfl, by decide +kernel, by decide +kernel⟩
set_option maxHeartbeats 2000000 in
theorem ok_StateDraft {cState cSegment cSettings cKernel aPLAIN_CLOCKS : Addr} (D : MAt K cState "draft" "State.draft" sStateDraft ["self"]) (CStateCourse : MCal P w K mg base cState "course" ["self"] 1 (ofD K (sdCourse cSegment cState cSettings))) (CSegmentOpened : MCal P w K mg base cSegment "opened" ["self", "count"] 3 (ofD K (sdOpened cSegment))) (T : Txt K mg cState cSegment cSettings cKernel aPLAIN_CLOCKS) : MCal P w K mg base cState "draft" ["self"] 4 (ofD K (sdDraft cSegment cState cSettings)) := by
  refine defMX D scStateDraft (fun ds M Q N E h => (by (obtain ⟨_, _, _, rfl, _⟩ := h); rfl)) (fun g f cdv Ar outer s H E ds M Q N E2 hr hx h => ?_)
  obtain ⟨N, s, st, rfl, R, hl, q⟩ := h
  refine ⟨_, _, dss_cons (ds_set 1 scStateDraft.nd (de_mth0 (db 0) CStateCourse mo_StateCourse hr (takes_of rfl rfl rfl rfl) hx))
      (dss_cons (ds_set 2 scStateDraft.nd (de_mth (db 1) CSegmentOpened mo_SegmentOpened hr (takes_of rfl rfl rfl rfl) hx (da_cons (de_fld (db 0)) da_nil)))
      (dss_cons (ds_setF (db 2) (de_fld (db 0)))
      (dss_cons (ds_if (dt_cmp o_eqI (de_db (de_fld (db 1))) (de_db (de_fld (db 0))) (nomark _))
        (dss_one (ds_asg (dv 2) (dg_setLM (de_db (de_fld (db 0))) (de_db (de_un o_neg (de_db de_int))))))
        (dss_one (ds_appM (de_db (de_fld (db 0))) (dv 2))))
      (dss_one (ds_ret (dv 2)))))), ?_⟩
  obtain ⟨⟨z, sl, rl, gs, g, w, RA, n1, n2, n3⟩, nw⟩ := R
  obtain ⟨⟨dS, hs⟩, ⟨dz, hz⟩, hsl, hold, hcur, hrl, hne, ok⟩ := id RA
  walk_at "dgo"
  refine ⟨s, z, sl, rl, gs, g, w, st, rfl, RA, ?_⟩
  walk_at "dgo"
  obtain ⟨dg, shg, hg, hw, hshg⟩ := id hcur
  walk_at "dgo"
  refine ⟨g, w, st.cur, st.now, rfl, hcur, ok.go, fun b v M1 F1 hb hv RG => ?_⟩
  have RA1 := RA.fram F1
  have hcur1 := RA1.hcur
  obtain ⟨dg1, shg1, hg1, hw1, hshg1⟩ := hcur1
  obtain ⟨dS1, hs1⟩ := RA1.hs
  have hsl1 := RA1.hsl
  obtain ⟨db, shb, hb1, hv1, hshb⟩ := id RG
  have gb : g ≠ b := ne_some' hg hb
  have sb : s ≠ b := ne_some' hs hb
  have slb : sl ≠ b := ne_some' hsl hb
  have vb : v ≠ b := fun z => by rw [z, hb1] at hv1; cases hv1
  walk_at "dgo"
  refine ite2 (fun e => ?_) (fun e => ?_)
  · have e' : st.cur.start = st.now := of_decide_eq_true e
    walk_at "dgo"
    refine ⟨sl, _, -1, gs.length, rfl, (addM_ne slb).trans hsl1, rfl, by rw [List.length_append, List.length_map]; exact ixN_last _, ?_⟩
    walk_at "dgo"
    refine q b v _ ⟨?_, repD_mk (st' := st.draft) RA F1 hb hv n1 n2 n3 nw (fun x h1 h2 => by rw [addM_ne h2, addM_ne h1]) (gs' := gs) ?_ (hold.out hsl) ?_ ?_ ok.draft rfl rfl rfl rfl rfl ?_⟩
    · exact ((F1.mono (fun _ z => z.elim)).trans (.put (nw b hb))).trans (.put n2)
    · rw [addM_same]
      congr 2
      rw [List.set_append_right _ _ (by rw [List.length_map]; exact Nat.le_refl _), List.length_map, Nat.sub_self]
      rfl
    · have e2 : st.draft.old = st.old := if_pos e'
      rw [e2]
      exact RA1.hold
    · exact ⟨db, shb, by rw [addM_ne (Ne.symm slb), addM_same]; kernel_rfl, by rw [addM_ne (fun z => by rw [z, hsl1] at hv1; cases hv1), addM_ne vb]; exact hv1, hshb⟩
    · intro x hx
      by_cases q1 : x = sl
      · rw [q1, addM_same]; simp
      · rw [addM_ne q1]
        by_cases q2 : x = b
        · rw [q2, addM_same]; simp
        · rw [addM_ne q2]; exact hx
  · have e' : ¬ st.cur.start = st.now := fun h => e (decide_eq_true h)
    walk_at "dgo"
    have hlen : gs.length = st.old.length := hold.len
    refine ⟨_, (addM_ne slb).trans hsl1, line' (by rw [List.length_append, List.length_map]; simp only [List.length_cons, List.length_nil]; omega), ?_⟩
    walk_at "dgo"
    refine q b v _ ⟨?_, repD_mk (st' := st.draft) RA F1 hb hv n1 n2 n3 nw (fun x h1 h2 => by rw [addM_ne h2, addM_ne h1]) (gs' := gs ++ [(g, w)]) ?_ ((hold.app (.cons hcur .nil)).out hsl) ?_ ?_ ok.draft rfl rfl rfl rfl rfl ?_⟩
    · exact ((F1.mono (fun _ z => z.elim)).trans (.put (nw b hb))).trans (.put n2)
    · rw [addM_same, List.map_append]
      rfl
    · have e2 : st.draft.old = st.old ++ [st.cur] := if_neg e'
      rw [e2]
      exact RA1.hold.app (.cons RA1.hcur .nil)
    · exact ⟨db, shb, by rw [addM_ne (Ne.symm slb), addM_same]; kernel_rfl, by rw [addM_ne (fun z => by rw [z, hsl1] at hv1; cases hv1), addM_ne vb]; exact hv1, hshb⟩
    · intro x hx
      by_cases q1 : x = sl
      · rw [q1, addM_same]; simp
      · rw [addM_ne q1]
        by_cases q2 : x = b
        · rw [q2, addM_same]; simp
        · rw [addM_ne q2]; exact hx

/-- not too great to be multiplied -/
structure Sm (i : Int) : Prop where
  lt : i.natAbs < 2 ^ 400
/-! ### what the calls do -/
def KS.left (st : KS) : Int := st.cur.left - st.cur.slewed (st.now - st.cur.start)
def KS.setCur (st : KS) (g : Seg) : KS := { st with cur := g }
def KS.reading (st : KS) (c : Clk) : Int := st.cur.reading c st.now
def sdStReading (cSegment cState cSettings : Addr) : SpD := fun ds M Q _ _ => ∃ (N : Addr → Prop) (s : Addr) (st : KS) (c : Clk), ds = [.ref s, .str c.str] ∧ RepSt cSegment cState cSettings N M s st ∧ Q (.int (st.reading c)) M
theorem mo_StateReading {cState : Addr} {cSegment : Addr} {cSettings : Addr} : SpMono (sdStReading cSegment cState cSettings) := ⟨fun ds M Q N E Q' N' E' mh mh1 mh2 mh3 => by
  obtain ⟨N, s, st, c, rfl, R, q⟩ := mh
  refine ⟨N, s, st, c, rfl, R, ?_⟩
  first
  | exact mh1 _ _ q
  | exact mh2 _ _ q
  | exact fun a => mh1 _ _ (q a)
  | exact fun a b => mh1 _ _ (q a b)
  | exact fun a b c => mh1 _ _ (q a b c)
  | exact fun a b c d => mh1 _ _ (q a b c d)
  | exact fun a b c d e => mh1 _ _ (q a b c d e)
  | exact fun a b c d e f => mh1 _ _ (q a b c d e f)
  | exact fun a b c d e f g => mh1 _ _ (q a b c d e f g)
  | exact fun a b c d e f g h => mh1 _ _ (q a b c d e f g h)
  | exact fun a => mh2 _ _ (q a)
  | exact fun a b => mh2 _ _ (q a b)
  | exact fun a b c => mh2 _ _ (q a b c)
  | exact fun a b c d => mh2 _ _ (q a b c d)
  | exact fun a b c d e => mh2 _ _ (q a b c d e)
  | exact ⟨fun a => mh1 _ _ (q.1 a), fun a => mh3 _ _ (q.2 a)⟩
  | exact ⟨fun a => mh2 _ _ (q.1 a), fun a => mh3 _ _ (q.2 a)⟩⟩

abbrev sStateReading : Stmt := metS 97 4
theorem scStateReading : FnScope ["self", "clock"] ["self", "clock"] (defScope sStateReading) := ⟨rfl, rfl, rfl, by decide +kernel, rfl, by decide +kernel, by decide +kernel⟩
set_option maxHeartbeats 2000000 in
theorem ok_StateReading {cState cSegment cSettings cKernel aPLAIN_CLOCKS : Addr} (D : MAt K cState "reading" "State.reading" sStateReading ["self", "clock"]) (CSegmentReading : MCal P w K mg base cSegment "reading" ["self", "clock", "count"] 3 (ofD K (sdReading cSegment))) (CStateCourse : MCal P w K mg base cState "course" ["self"] 1 (ofD K (sdCourse cSegment cState cSettings))) (T : Txt K mg cState cSegment cSettings cKernel aPLAIN_CLOCKS) : MCal P w K mg base cState "reading" ["self", "clock"] 4 (ofD K (sdStReading cSegment cState cSettings)) := by
  refine defMX D scStateReading (fun ds M Q N E h => (by (obtain ⟨_, _, _, _, rfl, _⟩ := h); rfl)) (fun g f cdv Ar outer s H E ds M Q N E2 hr hx h => ?_)
  obtain ⟨N, s, st, c, rfl, R, q⟩ := h
  refine ⟨_, _, dss_one (ds_ret (de_mth (de_db (de_mth0 (db 0) CStateCourse mo_StateCourse hr (takes_of rfl rfl rfl rfl) hx)) CSegmentReading mo_SegmentReading hr (takes_of rfl rfl rfl rfl) hx (da_cons (dv 1) (da_cons (de_fld (db 0)) da_nil)))), ?_⟩
  obtain ⟨⟨z, sl, rl, gs, g, w, RA, n1, n2, n3⟩, nw⟩ := R
  obtain ⟨⟨dS, hs⟩, ⟨dz, hz⟩, hsl, hold, hcur, hrl, hne, ok⟩ := id RA
  walk_at "dgo"
  refine ⟨s, z, sl, rl, gs, g, w, st, rfl, RA, ?_⟩
  obtain ⟨dg, shg, hg, hw, hshg⟩ := id hcur
  walk_at "dgo"
  refine ⟨g, w, st.cur, c, st.now, rfl, hcur, ok.go, ?_⟩
  exact q
def sdLeft (cSegment cState cSettings : Addr) : SpD := fun ds M Q _ _ => ∃ (N : Addr → Prop) (s : Addr) (st : KS), ds = [.ref s] ∧ RepSt cSegment cState cSettings N M s st ∧ Q (.int st.left) M
theorem mo_PartsLeft {cState : Addr} {cSegment : Addr} {cSettings : Addr} : SpMono (sdLeft cSegment cState cSettings) := ⟨fun ds M Q N E Q' N' E' mh mh1 mh2 mh3 => by
  obtain ⟨N, s, st, rfl, R, q⟩ := mh
  refine ⟨N, s, st, rfl, R, ?_⟩
  first
  | exact mh1 _ _ q
  | exact mh2 _ _ q
  | exact fun a => mh1 _ _ (q a)
  | exact fun a b => mh1 _ _ (q a b)
  | exact fun a b c => mh1 _ _ (q a b c)
  | exact fun a b c d => mh1 _ _ (q a b c d)
  | exact fun a b c d e => mh1 _ _ (q a b c d e)
  | exact fun a b c d e f => mh1 _ _ (q a b c d e f)
  | exact fun a b c d e f g => mh1 _ _ (q a b c d e f g)
  | exact fun a b c d e f g h => mh1 _ _ (q a b c d e f g h)
  | exact fun a => mh2 _ _ (q a)
  | exact fun a b => mh2 _ _ (q a b)
  | exact fun a b c => mh2 _ _ (q a b c)
  | exact fun a b c d => mh2 _ _ (q a b c d)
  | exact fun a b c d e => mh2 _ _ (q a b c d e)
  | exact ⟨fun a => mh1 _ _ (q.1 a), fun a => mh3 _ _ (q.2 a)⟩
  | exact ⟨fun a => mh2 _ _ (q.1 a), fun a => mh3 _ _ (q.2 a)⟩⟩

abbrev sPartsLeft : Stmt := topS 38
theorem scPartsLeft : FnScope ["state", "course"] ["state"] (defScope sPartsLeft) := ⟨rfl, rfl, rfl, by decide +kernel, rfl, by decide +kernel, by decide +kernel⟩
set_option maxHeartbeats 2000000 in
theorem ok_PartsLeft {cState cSegment cSettings cKernel aPLAIN_CLOCKS : Addr} (D : DefAt K mg "parts_left" sPartsLeft ["state"]) (CStateCourse : MCal P w K mg base cState "course" ["self"] 1 (ofD K (sdCourse cSegment cState cSettings))) (CSegmentSlewed : MCal P w K mg base cSegment "slewed" ["self", "counts"] 1 (ofD K (sdSlewed cSegment))) (T : Txt K mg cState cSegment cSettings cKernel aPLAIN_CLOCKS) : Cal P w K mg base "parts_left" ["state"] 2 (ofD K (sdLeft cSegment cState cSettings)) := by
  refine defD D scPartsLeft (fun ds M Q N E h => (by (obtain ⟨_, _, _, rfl, _⟩ := h); rfl)) (fun f cdv Ar outer s H E ds M Q N E2 hr h => ?_)
  obtain ⟨N, s, st, rfl, R, q⟩ := h
  refine ⟨_, _, dss_cons (ds_set 1 scPartsLeft.nd (de_mth0 (db 0) CStateCourse mo_StateCourse hr takes_no Esc.no))
      (dss_one (ds_ret (de_op o_sub (de_db (de_fld (db 1))) (de_db (de_mth (db 1) CSegmentSlewed mo_SegmentSlewed hr takes_no Esc.no (da_cons (de_op o_sub (de_db (de_fld (db 0))) (de_db (de_fld (db 1)))) da_nil)))))), ?_⟩
  obtain ⟨⟨z, sl, rl, gs, g, w, RA, n1, n2, n3⟩, nw⟩ := R
  obtain ⟨⟨dS, hs⟩, ⟨dz, hz⟩, hsl, hold, hcur, hrl, hne, ok⟩ := id RA
  walk_at "dgo"
  refine ⟨s, z, sl, rl, gs, g, w, st, rfl, RA, ?_⟩
  obtain ⟨dg, shg, hg, hw, hshg⟩ := id hcur
  walk_at "dgo"
  refine ⟨g, w, st.cur, _, rfl, hcur, ok.go, ?_⟩
  walk_at "dgo"
  exact q
section
variable {cG cS cZ : Addr} {N : Addr → Prop} {M M1 : Mm}
/-- a state's own fields are written -/
theorem RepA.putS {s z sl rl g w dS : Addr} {gs : List (Addr × Addr)} {st st' : KS} {fs : Fs} (RA : RepA cG cS cZ M s z sl rl gs g w st) (n1 : N s) (n2 : N sl) (n3 : N rl) (nw : ∀ a, M a = none → N a) (hs : M s = some (.ins cS dS (stF z sl rl st.cycle st.now st.hal)))
    (hf : fs = stF z sl rl st'.cycle st'.now st'.hal) (e1 : st'.z = st.z) (e2 : st'.old = st.old) (e3 : st'.cur = st.cur) (e4 : st'.rows = st.rows) (ok : KSOk st') : Fram cG N M (addM M s (.ins cS dS fs)) ∧ RepSt cG cS cZ N (addM M s (.ins cS dS fs)) s st' := by
  subst hf
  obtain ⟨_, ⟨dz, hz⟩, hsl, hold, hcur, hrl, hne, _⟩ := RA
  have kz : z ≠ s := fun q => by
    rw [q, hs] at hz
    have h := congrArg (fun o => match o with | some (MO.ins _ _ fs) => (fs.lookup ("settings" : Str)).isSome | _ => false) hz
    exact absurd (show true = false from h) (by simp)
  have kl : sl ≠ s := fun q => by rw [q, hs] at hsl; cases hsl
  have kr : rl ≠ s := fun q => by rw [q, hs] at hrl; cases hrl
  have kg : ∀ {a w : Addr} {x : Seg}, RepG cG M a w x → a ≠ s ∧ w ≠ s := fun {a w x} h => by
    obtain ⟨dx, sh, h1, h2, _⟩ := h
    refine ⟨fun q => ?_, fun q => by rw [q, hs] at h2; cases h2⟩
    rw [q, hs] at h1
    have h := congrArg (fun o => match o with | some (MO.ins _ _ fs) => (fs.lookup ("settings" : Str)).isSome | _ => false) h1
    exact absurd (show true = false from h) (by simp)
  have kgs : ∀ {ps : List (Addr × Addr)} {xs : List Seg}, RepGs cG M ps xs → ∀ p ∈ ps, p.1 ≠ s ∧ p.2 ≠ s := fun {ps xs} h => by
    induction h with
    | nil => intro p hp; cases hp
    | cons a _ ih =>
      intro p hp
      rcases List.mem_cons.mp hp with rfl | hp
      · exact kg a
      · exact ih p hp
  refine ⟨.put n1, ⟨z, sl, rl, gs, g, w, ⟨⟨dS, addM_same⟩, ⟨dz, by rw [addM_ne kz, hz, e1]⟩, by rw [addM_ne kl]; exact hsl, ?_, ?_, by rw [addM_ne kr, hrl, e4], hne, ok⟩, n1, n2, n3⟩, fun a ha => nw a (addM_none ha).2⟩
  · rw [e2]
    exact hold.same fun p hp => ⟨addM_ne (kgs hold p hp).1, addM_ne (kgs hold p hp).2⟩
  · rw [e3]
    exact hcur.same fun b hb => by rcases hb with rfl | rfl; exact addM_ne (kg hcur).1; exact addM_ne (kg hcur).2
end
section
variable {cG cS cZ : Addr} {N : Addr → Prop} {M M1 : Mm}
theorem RepD.fin1 {s b v db : Addr} {st : KS} {g : Seg} {fs : Fs} {sh : DM.D} (RD : RepD cG cS cZ N M1 s b v st) (F : Fram cG N M M1) (hb : M1 b = some (.ins cG db (segF v st.cur sh))) (hv : M1 v = some (.dg (worthG st.cur))) (hs : sh = .non ∨ sh = .fK [] []) (hf : fs = segF v g sh) (hg : worthG st.cur = worthG g) (ok : KSOk (st.setCur g)) :
    Fram cG N M (addM M1 b (.ins cG db fs)) ∧ RepSt cG cS cZ N (addM M1 b (.ins cG db fs)) s (st.setCur g) := by
  subst hf
  have vb : v ≠ b := fun z => by rw [z, hb] at hv; cases hv
  exact ⟨F.trans (.put RD.nb), RD.re _ _ (fun x h1 _ => addM_ne h1) ⟨db, sh, addM_same, by rw [addM_ne vb, hv, hg], hs⟩ ok⟩
theorem RepD.fin2 {s b v db : Addr} {st : KS} {g : Seg} {fs : Fs} {sh : DM.D} {es : List (Key × DM.D)} (RD : RepD cG cS cZ N M1 s b v st) (F : Fram cG N M M1) (hb : M1 b = some (.ins cG db (segF v st.cur sh))) (hv : M1 v = some (.dg (worthG st.cur))) (hs : sh = .non ∨ sh = .fK [] []) (hf : fs = segF v g sh) (hg : es = worthG g) (ok : KSOk (st.setCur g)) :
    Fram cG N M (addM (addM M1 v (.dg es)) b (.ins cG db fs)) ∧ RepSt cG cS cZ N (addM (addM M1 v (.dg es)) b (.ins cG db fs)) s (st.setCur g) := by
  subst hf hg
  have vb : v ≠ b := fun z => by rw [z, hb] at hv; cases hv
  exact ⟨(F.trans (.put RD.nv)).trans (.put RD.nb), RD.re _ _ (fun x h1 h2 => by rw [addM_ne h1, addM_ne h2]) ⟨db, sh, addM_same, by rw [addM_ne vb, addM_same], hs⟩ ok⟩
end
def KS.changeRate (st : KS) (m : Int) : KS := st.draft.setCur { st.draft.cur with mult := m }
def sdChangeRate (cSegment cState cSettings : Addr) : SpD := fun ds M Q _ _ => ∃ (N : Addr → Prop) (s : Addr) (st : KS) (m : Int), ds = [.ref s, .int m] ∧ RepSt cSegment cState cSettings N M s st ∧ st.old.length < 1000000 ∧ 1 ≤ m ∧ m ≤ 18446744073709551615 ∧ (st.left = 0 ∨ st.cur.step < m) ∧
  ∀ M', (Fram cSegment N M M' ∧ RepSt cSegment cState cSettings N M' s (st.changeRate m)) → Q .non M'
theorem mo_ChangeRate {cState : Addr} {cSegment : Addr} {cSettings : Addr} : SpMono (sdChangeRate cSegment cState cSettings) := ⟨fun ds M Q N E Q' N' E' mh mh1 mh2 mh3 => by
  obtain ⟨N, s, st, m, rfl, R, hl, m0, m1, hm, q⟩ := mh
  refine ⟨N, s, st, m, rfl, R, hl, m0, m1, hm, ?_⟩
  first
  | exact mh1 _ _ q
  | exact mh2 _ _ q
  | exact fun a => mh1 _ _ (q a)
  | exact fun a b => mh1 _ _ (q a b)
  | exact fun a b c => mh1 _ _ (q a b c)
  | exact fun a b c d => mh1 _ _ (q a b c d)
  | exact fun a b c d e => mh1 _ _ (q a b c d e)
  | exact fun a b c d e f => mh1 _ _ (q a b c d e f)
  | exact fun a b c d e f g => mh1 _ _ (q a b c d e f g)
  | exact fun a b c d e f g h => mh1 _ _ (q a b c d e f g h)
  | exact fun a => mh2 _ _ (q a)
  | exact fun a b => mh2 _ _ (q a b)
  | exact fun a b c => mh2 _ _ (q a b c)
  | exact fun a b c d => mh2 _ _ (q a b c d)
  | exact fun a b c d e => mh2 _ _ (q a b c d e)
  | exact ⟨fun a => mh1 _ _ (q.1 a), fun a => mh3 _ _ (q.2 a)⟩
  | exact ⟨fun a => mh2 _ _ (q.1 a), fun a => mh3 _ _ (q.2 a)⟩⟩

abbrev sChangeRate : Stmt := topS 39
theorem scChangeRate : FnScope ["state", "mult", "draft"] ["state", "mult"] (defScope sChangeRate) := ⟨rfl, rfl, rfl, by decide +kernel, rfl, by decide +kernel, by decide +kernel⟩
set_option maxHeartbeats 2000000 in
theorem ok_ChangeRate {cState cSegment cSettings cKernel aPLAIN_CLOCKS : Addr} (D : DefAt K mg "change_rate" sChangeRate ["state", "mult"]) (CStateDraft : MCal P w K mg base cState "draft" ["self"] 4 (ofD K (sdDraft cSegment cState cSettings))) (CIsWithin : Cal P w K mg base "is_within" ["thing", "least", "greatest"] 2 (ofD K (sdWithin))) (CPartsLeft : Cal P w K mg base "parts_left" ["state"] 2 (ofD K (sdLeft cSegment cState cSettings))) (CStateCourse : MCal P w K mg base cState "course" ["self"] 1 (ofD K (sdCourse cSegment cState cSettings))) (T : Txt K mg cState cSegment cSettings cKernel aPLAIN_CLOCKS) : Cal P w K mg base "change_rate" ["state", "mult"] 5 (ofD K (sdChangeRate cSegment cState cSettings)) := by
  refine defD D scChangeRate (fun ds M Q N E h => (by (obtain ⟨_, _, _, _, rfl, _⟩ := h); rfl)) (fun f cdv Ar outer s H E ds M Q N E2 hr h => ?_)
  obtain ⟨N, s, st, m, rfl, R, hl, m0, m1, hm, q⟩ := h
  refine ⟨_, _, dss_cons (ds_if (dt_not (dt_val (de_cal CIsWithin mo_IsWithin hr (by rfl) (da_cons (dv 1) (da_cons de_int (da_cons (de_gint (by rfl) T.mgMOST_MULT) da_nil))))))
        (dss_one ds_never)
        dss_nil)
      (dss_cons (ds_cut (ds_if (dt_w (dw_and (dt_cmp o_neI (de_db (de_cal CPartsLeft mo_PartsLeft hr (by rfl) (da_cons (dv 0) da_nil))) (de_db de_int) (nomark _)) (dw_and1 (dt_cmp o_ge (de_db (de_fld (de_db (de_mth0 (db 0) CStateCourse mo_StateCourse hr takes_no Esc.no)))) (db 1) (nomark _)))))
        (dss_one ds_never)
        dss_nil))
      (dss_cons (ds_set 2 scChangeRate.nd (de_mth0 (db 0) CStateDraft mo_StateDraft hr takes_no Esc.no))
      (dss_one (ds_setF (db 2) (dv 1))))), ?_⟩
  have R0 := R
  obtain ⟨⟨z, sl, rl, gs, g, w, RA, n1, n2, n3⟩, nw⟩ := R
  obtain ⟨⟨dS, hs⟩, ⟨dz, hz⟩, hsl, hold, hcur, hrl, hne, ok⟩ := id RA
  obtain ⟨dg, shg, hg, hw, hshg⟩ := id hcur
  walk_at "dgo"
  refine cutD_ (fun ρ M' => ρ = [.val (.ref s), .val (.int m), .un] ∧ M' = M) ?_ ?_
  · walk_at "dgo"
    refine ⟨N, s, st, rfl, R0, ?_⟩
    walk_at "dgo"
    refine ite2 (fun e => ?_) (fun e => ?_)
    · have e' : ¬ st.left = 0 := fun h => by simp [h] at e
      have hm' : st.cur.step < m := hm.resolve_left e'
      walk_at "dgo"
      refine ⟨s, z, sl, rl, gs, g, w, st, rfl, RA, ?_⟩
      walk_at "dgo"
      rfl
    · walk_at "dgo"
      rfl
  · rintro ρ Mx ⟨rfl, rfl⟩
    walk_at "dgo"
    refine ⟨N, s, st, rfl, R0, hl, fun b v M1 ⟨F1, RD⟩ => ?_⟩
    obtain ⟨db, sh, hb, hv, hsh⟩ := id RD.seg
    walk_at "dgo"
    have od := ok.draft
    exact q _ (RD.fin1 F1 hb hv hsh (by kernel_rfl) rfl ⟨od.zo, ⟨od.go.s0, od.go.s1, m0, m1, od.go.p0, od.go.p1, od.go.n1⟩, od.gn, od.gs, od.oo, od.le, od.n0⟩)
def KS.changeReal (st : KS) (r : Int) : KS := st.draft.setCur { st.draft.cur with real := r * 2 ^ st.cur.shift.toNat, left := 0 }
def sdChangeReal (cSegment cState cSettings : Addr) : SpD := fun ds M Q _ _ => ∃ (N : Addr → Prop) (s : Addr) (st : KS) (r : Int), ds = [.ref s, .int r] ∧ RepSt cSegment cState cSettings N M s st ∧ st.old.length < 1000000 ∧ Sm r ∧
  ∀ M', (Fram cSegment N M M' ∧ RepSt cSegment cState cSettings N M' s (st.changeReal r)) → Q .non M'
theorem mo_ChangeReal {cState : Addr} {cSegment : Addr} {cSettings : Addr} : SpMono (sdChangeReal cSegment cState cSettings) := ⟨fun ds M Q N E Q' N' E' mh mh1 mh2 mh3 => by
  obtain ⟨N, s, st, r, rfl, R, hl, hr', q⟩ := mh
  refine ⟨N, s, st, r, rfl, R, hl, hr', ?_⟩
  first
  | exact mh1 _ _ q
  | exact mh2 _ _ q
  | exact fun a => mh1 _ _ (q a)
  | exact fun a b => mh1 _ _ (q a b)
  | exact fun a b c => mh1 _ _ (q a b c)
  | exact fun a b c d => mh1 _ _ (q a b c d)
  | exact fun a b c d e => mh1 _ _ (q a b c d e)
  | exact fun a b c d e f => mh1 _ _ (q a b c d e f)
  | exact fun a b c d e f g => mh1 _ _ (q a b c d e f g)
  | exact fun a b c d e f g h => mh1 _ _ (q a b c d e f g h)
  | exact fun a => mh2 _ _ (q a)
  | exact fun a b => mh2 _ _ (q a b)
  | exact fun a b c => mh2 _ _ (q a b c)
  | exact fun a b c d => mh2 _ _ (q a b c d)
  | exact fun a b c d e => mh2 _ _ (q a b c d e)
  | exact ⟨fun a => mh1 _ _ (q.1 a), fun a => mh3 _ _ (q.2 a)⟩
  | exact ⟨fun a => mh2 _ _ (q.1 a), fun a => mh3 _ _ (q.2 a)⟩⟩

abbrev sChangeReal : Stmt := topS 40
theorem scChangeReal : FnScope ["state", "reading", "draft"] ["state", "reading"] (defScope sChangeReal) := ⟨rfl, rfl, rfl, by decide +kernel, rfl, by decide +kernel, by decide +kernel⟩
set_option maxHeartbeats 2000000 in
theorem ok_ChangeReal {cState cSegment cSettings cKernel aPLAIN_CLOCKS : Addr} (D : DefAt K mg "change_real" sChangeReal ["state", "reading"]) (CStateDraft : MCal P w K mg base cState "draft" ["self"] 4 (ofD K (sdDraft cSegment cState cSettings))) (T : Txt K mg cState cSegment cSettings cKernel aPLAIN_CLOCKS) : Cal P w K mg base "change_real" ["state", "reading"] 5 (ofD K (sdChangeReal cSegment cState cSettings)) := by
  refine defD D scChangeReal (fun ds M Q N E h => (by (obtain ⟨_, _, _, _, rfl, _⟩ := h); rfl)) (fun f cdv Ar outer s H E ds M Q N E2 hr h => ?_)
  obtain ⟨N, s, st, r, rfl, R, hl, hr', q⟩ := h
  refine ⟨_, _, dss_cons (ds_set 2 scChangeReal.nd (de_mth0 (db 0) CStateDraft mo_StateDraft hr takes_no Esc.no))
      (dss_cons (ds_putG (u1 hr) (de_db (de_fld (db 2))) (de_db de_str) (de_op o_shl (db 1) (de_db (de_fld (db 2)))))
      (dss_one (ds_setF (db 2) de_int))), ?_⟩
  have R0 := R
  obtain ⟨⟨z, sl, rl, gs, g, w, RA, n1, n2, n3⟩, nw⟩ := R
  obtain ⟨⟨dS, hs⟩, ⟨dz, hz⟩, hsl, hold, hcur, hrl, hne, ok⟩ := id RA
  have s0 : 0 ≤ st.cur.shift := ok.go.s0
  have s1 : st.cur.shift ≤ 64 := ok.go.s1
  walk_at "dgo"
  refine ⟨N, s, st, rfl, R0, hl, fun b v M1 ⟨F1, RD⟩ => ?_⟩
  obtain ⟨db, sh, hb, hv, hsh⟩ := id RD.seg
  have vb : v ≠ b := fun z => by rw [z, hb] at hv; cases hv
  walk_at "dgo"
  refine ⟨shl400 hr'.lt s0 (Int.le_trans (show st.draft.cur.shift ≤ 64 from s1) (by decide)), _, IsR.mk rfl, ?_⟩
  walk_at "dgo"
  have od := ok.draft
  exact q _ (RD.fin2 F1 hb hv hsh (by kernel_rfl) (by kernel_rfl) ⟨od.zo, ⟨od.go.s0, od.go.s1, od.go.m0, od.go.m1, od.go.p0, od.go.p1, od.go.n1⟩, od.gn, od.gs, od.oo, od.le, od.n0⟩)
def KS.beginSlew (st : KS) (a p : Int) : KS := st.draft.setCur { st.draft.cur with left := a * 2 ^ st.cur.shift.toNat, step := p }
def sdBeginSlew (cSegment cState cSettings : Addr) : SpD := fun ds M Q _ _ => ∃ (N : Addr → Prop) (s : Addr) (st : KS) (a p : Int), ds = [.ref s, .int a, .int p] ∧ RepSt cSegment cState cSettings N M s st ∧ st.old.length < 1000000 ∧ Sm a ∧ a ≠ 0 ∧ 1 ≤ p ∧ p < st.cur.mult ∧
  ∀ M', (Fram cSegment N M M' ∧ RepSt cSegment cState cSettings N M' s (st.beginSlew a p)) → Q .non M'
theorem mo_BeginSlew {cState : Addr} {cSegment : Addr} {cSettings : Addr} : SpMono (sdBeginSlew cSegment cState cSettings) := ⟨fun ds M Q N E Q' N' E' mh mh1 mh2 mh3 => by
  obtain ⟨N, s, st, a, p, rfl, R, hl, ha, a0, p0, p1, q⟩ := mh
  refine ⟨N, s, st, a, p, rfl, R, hl, ha, a0, p0, p1, ?_⟩
  first
  | exact mh1 _ _ q
  | exact mh2 _ _ q
  | exact fun a => mh1 _ _ (q a)
  | exact fun a b => mh1 _ _ (q a b)
  | exact fun a b c => mh1 _ _ (q a b c)
  | exact fun a b c d => mh1 _ _ (q a b c d)
  | exact fun a b c d e => mh1 _ _ (q a b c d e)
  | exact fun a b c d e f => mh1 _ _ (q a b c d e f)
  | exact fun a b c d e f g => mh1 _ _ (q a b c d e f g)
  | exact fun a b c d e f g h => mh1 _ _ (q a b c d e f g h)
  | exact fun a => mh2 _ _ (q a)
  | exact fun a b => mh2 _ _ (q a b)
  | exact fun a b c => mh2 _ _ (q a b c)
  | exact fun a b c d => mh2 _ _ (q a b c d)
  | exact fun a b c d e => mh2 _ _ (q a b c d e)
  | exact ⟨fun a => mh1 _ _ (q.1 a), fun a => mh3 _ _ (q.2 a)⟩
  | exact ⟨fun a => mh2 _ _ (q.1 a), fun a => mh3 _ _ (q.2 a)⟩⟩

abbrev sBeginSlew : Stmt := topS 41
theorem scBeginSlew : FnScope ["state", "amount", "step", "draft"] ["state", "amount", "step"] (defScope sBeginSlew) := ⟨rfl, rfl, rfl, by decide +kernel, rfl, by decide +kernel, by decide +kernel⟩
set_option maxHeartbeats 2000000 in
theorem ok_BeginSlew {cState cSegment cSettings cKernel aPLAIN_CLOCKS : Addr} (D : DefAt K mg "begin_slew" sBeginSlew ["state", "amount", "step"]) (CStateDraft : MCal P w K mg base cState "draft" ["self"] 4 (ofD K (sdDraft cSegment cState cSettings))) (CIsWithin : Cal P w K mg base "is_within" ["thing", "least", "greatest"] 2 (ofD K (sdWithin))) (CIsInteger : Cal P w K mg base "is_integer" ["thing"] 1 (ofD K (sdInt))) (CStateCourse : MCal P w K mg base cState "course" ["self"] 1 (ofD K (sdCourse cSegment cState cSettings))) (T : Txt K mg cState cSegment cSettings cKernel aPLAIN_CLOCKS) : Cal P w K mg base "begin_slew" ["state", "amount", "step"] 5 (ofD K (sdBeginSlew cSegment cState cSettings)) := by
  refine defD D scBeginSlew (fun ds M Q N E h => (by (obtain ⟨_, _, _, _, _, rfl, _⟩ := h); rfl)) (fun f cdv Ar outer s H E ds M Q N E2 hr h => ?_)
  obtain ⟨N, s, st, a, p, rfl, R, hl, ha, a0, p0, p1, q⟩ := h
  refine ⟨_, _, dss_cons (ds_if (dt_w (dw_or (dt_not (dt_val (de_cal CIsInteger mo_IsInteger hr (by rfl) (da_cons (dv 1) da_nil)))) (dw_or1 (dt_cmp o_eqI (db 1) (de_db de_int) (nomark _)))))
        (dss_one ds_never)
        dss_nil)
      (dss_cons (ds_if (dt_not (dt_val (de_cal CIsWithin mo_IsWithin hr (by rfl) (da_cons (dv 2) (da_cons de_int (da_cons (de_op o_sub (de_db (de_fld (de_db (de_mth0 (db 0) CStateCourse mo_StateCourse hr takes_no Esc.no)))) (de_db de_int)) da_nil))))))
        (dss_one ds_never)
        dss_nil)
      (dss_cons (ds_set 3 scBeginSlew.nd (de_mth0 (db 0) CStateDraft mo_StateDraft hr takes_no Esc.no))
      (dss_cons (ds_setF (db 3) (de_op o_shl (db 1) (de_db (de_fld (db 3)))))
      (dss_one (ds_setF (db 3) (dv 2)))))), ?_⟩
  have R0 := R
  obtain ⟨⟨z, sl, rl, gs, g, w, RA, n1, n2, n3⟩, nw⟩ := R
  obtain ⟨⟨dS, hs⟩, ⟨dz, hz⟩, hsl, hold, hcur, hrl, hne, ok⟩ := id RA
  obtain ⟨dg, shg, hg, hw, hshg⟩ := id hcur
  have s0 : 0 ≤ st.cur.shift := ok.go.s0
  have s1 : st.cur.shift ≤ 64 := ok.go.s1
  have m1 := ok.go.m1
  walk_at "dgo"
  refine ⟨s, z, sl, rl, gs, g, w, st, rfl, RA, ?_⟩
  walk_at "dgo"
  refine ⟨N, s, st, rfl, R0, hl, fun b v M1 ⟨F1, RD⟩ => ?_⟩
  obtain ⟨db, sh, hb, hv, hsh⟩ := id RD.seg
  walk_at "dgo"
  refine ⟨shl400 ha.lt s0 (Int.le_trans (show st.draft.cur.shift ≤ 64 from s1) (by decide)), _, IsR.mk rfl, ?_⟩
  walk_at "dgo"
  have od := ok.draft
  exact q _ (RD.fin1 F1 hb hv hsh (by kernel_rfl) rfl ⟨od.zo, ⟨od.go.s0, od.go.s1, od.go.m0, od.go.m1, by show 0 ≤ p; omega, by show p ≤ _; omega, od.go.n1⟩, od.gn, od.gs, od.oo, od.le, od.n0⟩)
def KS.halt (st : KS) (r : Int) : KS := { st with hal := some r }
def sdHalt (cSegment cState cSettings : Addr) : SpD := fun ds M Q _ _ => ∃ (N : Addr → Prop) (s : Addr) (st : KS) (r : Int), ds = [.ref s, .int r] ∧ RepSt cSegment cState cSettings N M s st ∧ 0 ≤ r ∧
  ∀ M', (Fram cSegment N M M' ∧ RepSt cSegment cState cSettings N M' s (st.halt r)) → Q .non M'
theorem mo_Halt {cState : Addr} {cSegment : Addr} {cSettings : Addr} : SpMono (sdHalt cSegment cState cSettings) := ⟨fun ds M Q N E Q' N' E' mh mh1 mh2 mh3 => by
  obtain ⟨N, s, st, r, rfl, R, r0, q⟩ := mh
  refine ⟨N, s, st, r, rfl, R, r0, ?_⟩
  first
  | exact mh1 _ _ q
  | exact mh2 _ _ q
  | exact fun a => mh1 _ _ (q a)
  | exact fun a b => mh1 _ _ (q a b)
  | exact fun a b c => mh1 _ _ (q a b c)
  | exact fun a b c d => mh1 _ _ (q a b c d)
  | exact fun a b c d e => mh1 _ _ (q a b c d e)
  | exact fun a b c d e f => mh1 _ _ (q a b c d e f)
  | exact fun a b c d e f g => mh1 _ _ (q a b c d e f g)
  | exact fun a b c d e f g h => mh1 _ _ (q a b c d e f g h)
  | exact fun a => mh2 _ _ (q a)
  | exact fun a b => mh2 _ _ (q a b)
  | exact fun a b c => mh2 _ _ (q a b c)
  | exact fun a b c d => mh2 _ _ (q a b c d)
  | exact fun a b c d e => mh2 _ _ (q a b c d e)
  | exact ⟨fun a => mh1 _ _ (q.1 a), fun a => mh3 _ _ (q.2 a)⟩
  | exact ⟨fun a => mh2 _ _ (q.1 a), fun a => mh3 _ _ (q.2 a)⟩⟩

abbrev sHalt : Stmt := topS 42
theorem scHalt : FnScope ["state", "reading"] ["state", "reading"] (defScope sHalt) := ⟨rfl, rfl, rfl, by decide +kernel, rfl, by decide +kernel, by decide +kernel⟩
set_option maxHeartbeats 2000000 in
theorem ok_Halt {cState cSegment cSettings cKernel aPLAIN_CLOCKS : Addr} (D : DefAt K mg "halt" sHalt ["state", "reading"]) (CCheckReadingFromZero : Cal P w K mg base "check_reading_from_zero" ["reading"] 3 (ofD K (sdNat))) (T : Txt K mg cState cSegment cSettings cKernel aPLAIN_CLOCKS) : Cal P w K mg base "halt" ["state", "reading"] 4 (ofD K (sdHalt cSegment cState cSettings)) := by
  refine defD D scHalt (fun ds M Q N E h => (by (obtain ⟨_, _, _, _, rfl, _⟩ := h); rfl)) (fun f cdv Ar outer s H E ds M Q N E2 hr h => ?_)
  obtain ⟨N, s, st, r, rfl, R, r0, q⟩ := h
  refine ⟨_, _, dss_cons (ds_expr (de_cal CCheckReadingFromZero mo_CheckReadingFromZero hr (by rfl) (da_cons (dv 1) da_nil)))
      (dss_one (ds_setF (db 0) (dv 1))), ?_⟩
  have R0 := R
  obtain ⟨⟨z, sl, rl, gs, g, w, RA, n1, n2, n3⟩, nw⟩ := R
  obtain ⟨⟨dS, hs⟩, ⟨dz, hz⟩, hsl, hold, hcur, hrl, hne, ok⟩ := id RA
  walk_at "dgo"
  exact q _ (RA.putS (st' := st.halt r) n1 n2 n3 nw hs (by kernel_rfl) rfl rfl rfl rfl ⟨ok.zo, ok.go, ok.gn, ok.gs, ok.oo, ok.le, ok.n0⟩)

def plainC (d : DM.D) : Bool := match d with
  | .str x => decide (x ∈ ([("steady" : Str), "real", "boot"] : List Str))
  | _ => false
def sdPlain : SpD := fun ds M Q _ _ => ∃ (d : DM.D), ds = [d] ∧ d.tk = true ∧ Q (.bl (plainC d)) M
theorem mo_IsPlain : SpMono (sdPlain) := ⟨fun ds M Q N E Q' N' E' mh mh1 mh2 mh3 => by
  obtain ⟨d, rfl, hk, q⟩ := mh
  refine ⟨d, rfl, hk, ?_⟩
  first
  | exact mh1 _ _ q
  | exact mh2 _ _ q
  | exact fun a => mh1 _ _ (q a)
  | exact fun a b => mh1 _ _ (q a b)
  | exact fun a b c => mh1 _ _ (q a b c)
  | exact fun a b c d => mh1 _ _ (q a b c d)
  | exact fun a b c d e => mh1 _ _ (q a b c d e)
  | exact fun a b c d e f => mh1 _ _ (q a b c d e f)
  | exact fun a b c d e f g => mh1 _ _ (q a b c d e f g)
  | exact fun a b c d e f g h => mh1 _ _ (q a b c d e f g h)
  | exact fun a => mh2 _ _ (q a)
  | exact fun a b => mh2 _ _ (q a b)
  | exact fun a b c => mh2 _ _ (q a b c)
  | exact fun a b c d => mh2 _ _ (q a b c d)
  | exact fun a b c d e => mh2 _ _ (q a b c d e)
  | exact ⟨fun a => mh1 _ _ (q.1 a), fun a => mh3 _ _ (q.2 a)⟩
  | exact ⟨fun a => mh2 _ _ (q.1 a), fun a => mh3 _ _ (q.2 a)⟩⟩

abbrev sIsPlain : Stmt := topS 35
theorem scIsPlain : FnScope ["clock"] ["clock"] (defScope sIsPlain) := ⟨rfl, rfl, rfl, by decide +kernel, rfl, by decide +kernel, by decide +kernel⟩
set_option maxHeartbeats 2000000 in
theorem ok_IsPlain {cState cSegment cSettings cKernel aPLAIN_CLOCKS : Addr} (D : DefAt K mg "is_plain" sIsPlain ["clock"])  (T : Txt K mg cState cSegment cSettings cKernel aPLAIN_CLOCKS) : Cal P w K mg base "is_plain" ["clock"] 1 (ofD K (sdPlain)) := by
  refine defD D scIsPlain (fun ds M Q N E h => (by (obtain ⟨_, rfl, _⟩ := h); rfl)) (fun f cdv Ar outer s H E ds M Q N E2 hr h => ?_)
  obtain ⟨d, rfl, hk, q⟩ := h
  refine ⟨_, _, dss_one (ds_ret (de_and (de_call2 o_isi (by rfl) T.isinstance (by decide +kernel) (db 0) (de_db (de_ty (n := "str") (by rfl) T.str (by decide +kernel)))) (de_one (de_cmp o_inFS (db 0) (de_db (de_gtup (by rfl) T.tPLAIN_CLOCKS)) (by rfl))))), ?_⟩
  cases d with
  | str x =>
    walk_at "dgo"
    exact q
  | ty n => cases hk
  | ref a => cases hk
  | fK ks ds => cases hk
  | _ =>
    walk_at "dgo"
    exact q

def KS.resume (st : KS) (h r : Int) : KS :=
  { st.draft.setCur { st.draft.cur with boot := st.draft.cur.boot + (r - h) * st.z.u * 2 ^ st.cur.shift.toNat, real := st.draft.cur.real + (r - h) * st.z.u * 2 ^ st.cur.shift.toNat } with hal := none }
def sdResume (cSegment cState cSettings : Addr) : SpD := fun ds M Q _ _ => ∃ (N : Addr → Prop) (s : Addr) (st : KS) (h r : Int), ds = [.ref s, .int r] ∧ RepSt cSegment cState cSettings N M s st ∧ st.old.length < 1000000 ∧ st.hal = some h ∧ h ≤ r ∧ Sm (r - h) ∧ Sm st.z.u ∧ Sm ((r - h) * st.z.u) ∧
  ∀ M', (Fram cSegment N M M' ∧ RepSt cSegment cState cSettings N M' s (st.resume h r)) → Q .non M'
theorem mo_Resume {cState : Addr} {cSegment : Addr} {cSettings : Addr} : SpMono (sdResume cSegment cState cSettings) := ⟨fun ds M Q N E Q' N' E' mh mh1 mh2 mh3 => by
  obtain ⟨N, s, st, h, r, rfl, R, hl, hh, hr0, hr', hu', hm, q⟩ := mh
  refine ⟨N, s, st, h, r, rfl, R, hl, hh, hr0, hr', hu', hm, ?_⟩
  first
  | exact mh1 _ _ q
  | exact mh2 _ _ q
  | exact fun a => mh1 _ _ (q a)
  | exact fun a b => mh1 _ _ (q a b)
  | exact fun a b c => mh1 _ _ (q a b c)
  | exact fun a b c d => mh1 _ _ (q a b c d)
  | exact fun a b c d e => mh1 _ _ (q a b c d e)
  | exact fun a b c d e f => mh1 _ _ (q a b c d e f)
  | exact fun a b c d e f g => mh1 _ _ (q a b c d e f g)
  | exact fun a b c d e f g h => mh1 _ _ (q a b c d e f g h)
  | exact fun a => mh2 _ _ (q a)
  | exact fun a b => mh2 _ _ (q a b)
  | exact fun a b c => mh2 _ _ (q a b c)
  | exact fun a b c d => mh2 _ _ (q a b c d)
  | exact fun a b c d e => mh2 _ _ (q a b c d e)
  | exact ⟨fun a => mh1 _ _ (q.1 a), fun a => mh3 _ _ (q.2 a)⟩
  | exact ⟨fun a => mh2 _ _ (q.1 a), fun a => mh3 _ _ (q.2 a)⟩⟩

abbrev sResume : Stmt := topS 43
theorem scResume : FnScope ["state", "reading", "draft", "grown"] ["state", "reading"] (defScope sResume) := ⟨rfl, rfl, rfl, by decide +kernel, rfl, by decide +kernel, by decide +kernel⟩
set_option maxHeartbeats 2000000 in
theorem ok_Resume {cState cSegment cSettings cKernel aPLAIN_CLOCKS : Addr} (D : DefAt K mg "resume" sResume ["state", "reading"]) (CStateDraft : MCal P w K mg base cState "draft" ["self"] 4 (ofD K (sdDraft cSegment cState cSettings))) (CIsAtLeast : Cal P w K mg base "is_at_least" ["thing", "least"] 2 (ofD K (sdAtLeast))) (T : Txt K mg cState cSegment cSettings cKernel aPLAIN_CLOCKS) : Cal P w K mg base "resume" ["state", "reading"] 5 (ofD K (sdResume cSegment cState cSettings)) := by
  refine defD D scResume (fun ds M Q N E h => (by (obtain ⟨_, _, _, _, _, rfl, _⟩ := h); rfl)) (fun f cdv Ar outer s H E ds M Q N E2 hr h => ?_)
  obtain ⟨N, s, st, h, r, rfl, R, hl, hh, hr0, hr', hu', hm, q⟩ := h
  refine ⟨_, _, dss_cons (ds_if (dt_not (dt_val (de_cal CIsAtLeast mo_IsAtLeast hr (by rfl) (da_cons (dv 1) (da_cons (de_fld (db 0)) da_nil)))))
        (dss_one ds_never)
        dss_nil)
      (dss_cons (ds_set 2 scResume.nd (de_mth0 (db 0) CStateDraft mo_StateDraft hr takes_no Esc.no))
      (dss_cons (ds_set 3 scResume.nd (de_op o_shl (de_db (de_op o_mul (de_db (de_op o_sub (db 1) (de_db (de_fld (db 0))))) (de_db (de_fld (de_db (de_fld (db 0))))))) (de_db (de_fld (db 2)))))
      (dss_cons (ds_augG (u1 hr) (de_db (de_fld (db 2))) (de_db de_str) (dv 3) in_add ag_add (fun _ _ _ => rfl))
      (dss_cons (ds_augG (u1 hr) (de_db (de_fld (db 2))) (de_db de_str) (dv 3) in_add ag_add (fun _ _ _ => rfl))
      (dss_one (ds_setF (db 0) de_non)))))), ?_⟩
  have R0 := R
  obtain ⟨⟨z, sl, rl, gs, g, w, RA, n1, n2, n3⟩, nw⟩ := R
  obtain ⟨⟨dS, hs⟩, ⟨dz, hz⟩, hsl, hold, hcur, hrl, hne, ok⟩ := id RA
  have s0 : 0 ≤ st.cur.shift := ok.go.s0
  have s1 : st.cur.shift ≤ 64 := ok.go.s1
  have hhd : halD st.hal = .int h := by rw [hh]; rfl
  rw [hh] at hs
  walk_at "dgo"
  refine ⟨N, s, st, rfl, R0, hl, fun b v M1 ⟨F1, RD⟩ => ?_⟩
  have R1 : RepSt cSegment cState cSettings N M1 s st.draft := RD.re M1 st.draft.cur (fun _ _ _ => rfl) RD.seg RD.ok
  obtain ⟨⟨z1, sl1, rl1, gs1, g1, w1, RA1, _⟩, _⟩ := R1
  obtain ⟨⟨dS1, hs1⟩, ⟨dz1, hz1⟩, _⟩ := id RA1
  obtain ⟨db, sh, hb, hv, hsh⟩ := id RD.seg
  have vb : v ≠ b := fun z => by rw [z, hb] at hv; cases hv
  have hh1 : st.draft.hal = some h := hh
  rw [hh1] at hs1
  walk_at "dgo"
  refine ⟨mulE3 hr'.lt hu'.lt, ?_⟩
  walk_at "dgo"
  refine ⟨shl400 hm.lt s0 (Int.le_trans (show st.draft.cur.shift ≤ 64 from s1) (by decide)), _, IsR.mk rfl, ?_⟩
  walk_at "dgo"
  have sv : s ≠ v := fun z => by rw [z, hv] at hs1; cases hs1
  refine ⟨_, _, rfl, hv, line' (by show 3 < 16000000; decide), ?_⟩
  have bv : b ≠ v := Ne.symm vb
  walk_at "dgo"
  refine ⟨_, _, rfl, addM_same, line' (by show 3 < 16000000; decide), ?_⟩
  simp only [addM_addM]
  walk_at "dgo"
  have od := ok.draft
  let g' : Seg := { st.draft.cur with boot := st.draft.cur.boot + (r - h) * st.z.u * 2 ^ st.cur.shift.toNat, real := st.draft.cur.real + (r - h) * st.z.u * 2 ^ st.cur.shift.toNat }
  have ok2 : KSOk (st.draft.setCur g') := ⟨od.zo, ⟨od.go.s0, od.go.s1, od.go.m0, od.go.m1, od.go.p0, od.go.p1, od.go.n1⟩, od.gn, od.gs, od.oo, od.le, od.n0⟩
  have es : ∀ {M2 : Mm}, M2 = addM M1 v (.dg (worthG g')) → Fram cSegment N M M2 ∧ RepSt cSegment cState cSettings N M2 s (st.draft.setCur g') := fun {M2} e => by
    subst e
    exact ⟨F1.trans (.put RD.nv), RD.re _ g' (fun x h1 h2 => addM_ne h2) ⟨db, sh, by rw [addM_ne bv, hb]; rfl, addM_same, hsh⟩ ok2⟩
  generalize hM2 : addM M1 v _ = M2
  obtain ⟨F2, R2⟩ := es (hM2.symm.trans (by kernel_rfl))
  have hs2 : M2 s = some (.ins cState dS1 (stF z1 sl1 rl1 st.draft.cycle st.draft.now (some h))) := by rw [← hM2, addM_ne sv]; exact hs1
  obtain ⟨⟨z2, sl2, rl2, gs2, g2, w2, RA2, m1, m2, m3⟩, nw2⟩ := R2
  obtain ⟨dS2, hs3⟩ := RA2.hs
  have e := hs3.symm.trans hs2
  injection e with e
  injection e with _ e1 e2
  subst e1
  rw [← e2]
  obtain ⟨F3, R3⟩ := RA2.putS (st' := st.resume h r) m1 m2 m3 nw2 hs3 (fs := putD "halted" .non (stF z2 sl2 rl2 (st.draft.setCur g').cycle (st.draft.setCur g').now (st.draft.setCur g').hal)) (by kernel_rfl) rfl rfl rfl rfl ⟨ok2.zo, ok2.go, ok2.gn, ok2.gs, ok2.oo, ok2.le, ok2.n0⟩
  exact q _ ⟨F2.trans F3, R3⟩
def sdClock (cState : Addr) : SpD := fun ds M Q _ _ => ∃ (s : DM.D) (c : Clk), ds = [s, .str c.str] ∧ Q .non M
theorem mo_CheckClock {cState : Addr} : SpMono (sdClock cState) := ⟨fun ds M Q N E Q' N' E' mh mh1 mh2 mh3 => by
  obtain ⟨s, c, rfl, q⟩ := mh
  refine ⟨s, c, rfl, ?_⟩
  first
  | exact mh1 _ _ q
  | exact mh2 _ _ q
  | exact fun a => mh1 _ _ (q a)
  | exact fun a b => mh1 _ _ (q a b)
  | exact fun a b c => mh1 _ _ (q a b c)
  | exact fun a b c d => mh1 _ _ (q a b c d)
  | exact fun a b c d e => mh1 _ _ (q a b c d e)
  | exact fun a b c d e f => mh1 _ _ (q a b c d e f)
  | exact fun a b c d e f g => mh1 _ _ (q a b c d e f g)
  | exact fun a b c d e f g h => mh1 _ _ (q a b c d e f g h)
  | exact fun a => mh2 _ _ (q a)
  | exact fun a b => mh2 _ _ (q a b)
  | exact fun a b c => mh2 _ _ (q a b c)
  | exact fun a b c d => mh2 _ _ (q a b c d)
  | exact fun a b c d e => mh2 _ _ (q a b c d e)
  | exact ⟨fun a => mh1 _ _ (q.1 a), fun a => mh3 _ _ (q.2 a)⟩
  | exact ⟨fun a => mh2 _ _ (q.1 a), fun a => mh3 _ _ (q.2 a)⟩⟩

abbrev sCheckClock : Stmt := topS 36
theorem scCheckClock : FnScope ["state", "clock"] ["state", "clock"] (defScope sCheckClock) := ⟨rfl, rfl, rfl, by decide +kernel, rfl, by decide +kernel, by decide +kernel⟩
set_option maxHeartbeats 2000000 in
theorem ok_CheckClock {cState cSegment cSettings cKernel aPLAIN_CLOCKS : Addr} (D : DefAt K mg "check_clock" sCheckClock ["state", "clock"]) (CIsPlain : Cal P w K mg base "is_plain" ["clock"] 1 (ofD K (sdPlain))) (T : Txt K mg cState cSegment cSettings cKernel aPLAIN_CLOCKS) : Cal P w K mg base "check_clock" ["state", "clock"] 2 (ofD K (sdClock cState)) := by
  refine defD D scCheckClock (fun ds M Q N E h => (by (obtain ⟨_, _, rfl, _⟩ := h); rfl)) (fun f cdv Ar outer s H E ds M Q N E2 hr h => ?_)
  obtain ⟨s, c, rfl, q⟩ := h
  refine ⟨_, _, dss_one (ds_if (dt_w (dw_and (dt_not (dt_val (de_cal CIsPlain mo_IsPlain hr (by rfl) (da_cons (dv 1) da_nil)))) (dw_and1 (dt_not dt_never))))
        (dss_one ds_never)
        dss_nil), ?_⟩
  walk_at "dgo"
  have hp : plainC (.str c.str) = true := by cases c <;> decide
  rw [hp]
  walk_at "dgo"
  exact q

/-! ### nothing happens but that the count grows -/
def sdNone (cSegment cState cSettings : Addr) : SpD := fun ds M _ N' _ => ∃ (N : Addr → Prop) (s : Addr) (st : KS) (n : Int), ds = [.ref s, .int n] ∧ RepSt cSegment cState cSettings N M s st ∧ N' [] M
theorem mo_DueTimers {cState : Addr} {cSegment : Addr} {cSettings : Addr} : SpMono (sdNone cSegment cState cSettings) := ⟨fun ds M Q N E Q' N' E' mh mh1 mh2 mh3 => by
  obtain ⟨N, s, st, n, rfl, R, q⟩ := mh
  refine ⟨N, s, st, n, rfl, R, ?_⟩
  first
  | exact mh1 _ _ q
  | exact mh2 _ _ q
  | exact fun a => mh1 _ _ (q a)
  | exact fun a b => mh1 _ _ (q a b)
  | exact fun a b c => mh1 _ _ (q a b c)
  | exact fun a b c d => mh1 _ _ (q a b c d)
  | exact fun a b c d e => mh1 _ _ (q a b c d e)
  | exact fun a b c d e f => mh1 _ _ (q a b c d e f)
  | exact fun a b c d e f g => mh1 _ _ (q a b c d e f g)
  | exact fun a b c d e f g h => mh1 _ _ (q a b c d e f g h)
  | exact fun a => mh2 _ _ (q a)
  | exact fun a b => mh2 _ _ (q a b)
  | exact fun a b c => mh2 _ _ (q a b c)
  | exact fun a b c d => mh2 _ _ (q a b c d)
  | exact fun a b c d e => mh2 _ _ (q a b c d e)
  | exact ⟨fun a => mh1 _ _ (q.1 a), fun a => mh3 _ _ (q.2 a)⟩
  | exact ⟨fun a => mh2 _ _ (q.1 a), fun a => mh3 _ _ (q.2 a)⟩⟩

abbrev sDueTimers : Stmt := topS 84
theorem scDueTimers : FnScope ["state", "count", "course", "readings", "found", "timer", "row", "reading", "first"] ["state", "count"] (defScope sDueTimers) := ⟨rfl, rfl, rfl, by decide +kernel, rfl, by decide +kernel, by decide +kernel⟩
set_option maxHeartbeats 2000000 in
theorem ok_DueTimers {cState cSegment cSettings cKernel aPLAIN_CLOCKS : Addr} (D : DefAt K mg "due_timers" sDueTimers ["state", "count"]) (CStateCourse : MCal P w K mg base cState "course" ["self"] 1 (ofD K (sdCourse cSegment cState cSettings))) (T : Txt K mg cState cSegment cSettings cKernel aPLAIN_CLOCKS) : Cal P w K mg base "due_timers" ["state", "count"] 2 (ofD K (sdNone cSegment cState cSettings)) := by
  refine defD D scDueTimers (fun ds M Q N E h => (by (obtain ⟨_, _, _, _, rfl, _⟩ := h); rfl)) (fun f cdv Ar outer s H E ds M Q N E2 hr h => ?_)
  obtain ⟨N, s, st, n, rfl, R, q⟩ := h
  refine ⟨_, _, dss_cons (ds_set 2 scDueTimers.nd (de_mth0 (db 0) CStateCourse mo_StateCourse hr takes_no Esc.no))
      (dss_cons (ds_set 3 scDueTimers.nd de_newF)
      (dss_cons (ds_own 4 scDueTimers.nd (dn_lst da_nil))
      (dss_cons (ds_for PassesOwn.never (di_list (dn_de (dn_sortFK (by rfl) (by rfl) T.sorted (by decide +kernel) (de_db (de_fld (db 0)))))) (dg_name 5 scDueTimers.nd)
        (dss_cons ds_never
        (dss_cons ds_never
        (dss_cons ds_never
        (dss_one ds_never)))))
      (dss_one (ds_retOwn 4))))), ?_⟩
  obtain ⟨⟨z, sl, rl, gs, g, w, RA, n1, n2, n3⟩, nw⟩ := R
  obtain ⟨⟨dS, hs⟩, ⟨dz, hz⟩, hsl, hold, hcur, hrl, hne, ok⟩ := id RA
  walk_at "dgo"
  refine ⟨s, z, sl, rl, gs, g, w, st, rfl, RA, ?_⟩
  walk_at "dgo"
  refine ⟨[], [], rfl, by decide, fun ms hp _ => ?_⟩
  obtain rfl : ms = [] := List.Perm.eq_nil hp
  refine ⟨[], rfl, for_nil ?_⟩
  exact ⟨[], rfl, q⟩
theorem mo_SlotsBegun {cState : Addr} {cSegment : Addr} {cSettings : Addr} : SpMono (sdNone cSegment cState cSettings) := ⟨fun ds M Q N E Q' N' E' mh mh1 mh2 mh3 => by
  obtain ⟨N, s, st, n, rfl, R, q⟩ := mh
  refine ⟨N, s, st, n, rfl, R, ?_⟩
  first
  | exact mh1 _ _ q
  | exact mh2 _ _ q
  | exact fun a => mh1 _ _ (q a)
  | exact fun a b => mh1 _ _ (q a b)
  | exact fun a b c => mh1 _ _ (q a b c)
  | exact fun a b c d => mh1 _ _ (q a b c d)
  | exact fun a b c d e => mh1 _ _ (q a b c d e)
  | exact fun a b c d e f => mh1 _ _ (q a b c d e f)
  | exact fun a b c d e f g => mh1 _ _ (q a b c d e f g)
  | exact fun a b c d e f g h => mh1 _ _ (q a b c d e f g h)
  | exact fun a => mh2 _ _ (q a)
  | exact fun a b => mh2 _ _ (q a b)
  | exact fun a b c => mh2 _ _ (q a b c)
  | exact fun a b c d => mh2 _ _ (q a b c d)
  | exact fun a b c d e => mh2 _ _ (q a b c d e)
  | exact ⟨fun a => mh1 _ _ (q.1 a), fun a => mh3 _ _ (q.2 a)⟩
  | exact ⟨fun a => mh2 _ _ (q.1 a), fun a => mh3 _ _ (q.2 a)⟩⟩

abbrev sSlotsBegun : Stmt := topS 75
theorem scSlotsBegun : FnScope ["state", "count", "course", "tick", "present", "slot"] ["state", "count"] (defScope sSlotsBegun) := ⟨rfl, rfl, rfl, by decide +kernel, rfl, by decide +kernel, by decide +kernel⟩
set_option maxHeartbeats 2000000 in
theorem ok_SlotsBegun {cState cSegment cSettings cKernel aPLAIN_CLOCKS : Addr} (D : DefAt K mg "slots_begun" sSlotsBegun ["state", "count"])  (T : Txt K mg cState cSegment cSettings cKernel aPLAIN_CLOCKS) : Cal P w K mg base "slots_begun" ["state", "count"] 1 (ofD K (sdNone cSegment cState cSettings)) := by
  refine defD D scSlotsBegun (fun ds M Q N E h => (by (obtain ⟨_, _, _, _, rfl, _⟩ := h); rfl)) (fun f cdv Ar outer s H E ds M Q N E2 hr h => ?_)
  obtain ⟨N, s, st, n, rfl, R, q⟩ := h
  refine ⟨_, _, dss_cons (ds_if (dt_not (dt_truF (de_db (de_fld (db 0)))))
        (dss_one (ds_retNew (dn_lst da_nil)))
        dss_nil)
      (dss_cons ds_never
      (dss_cons ds_never
      (dss_cons ds_never
      (dss_one ds_never)))), ?_⟩
  obtain ⟨⟨z, sl, rl, gs, g, w, RA, n1, n2, n3⟩, nw⟩ := R
  obtain ⟨⟨dS, hs⟩, ⟨dz, hz⟩, hsl, hold, hcur, hrl, hne, ok⟩ := id RA
  walk_at "dgo"
  exact q
theorem mo_LimitsReached {cState : Addr} {cSegment : Addr} {cSettings : Addr} : SpMono (sdNone cSegment cState cSettings) := ⟨fun ds M Q N E Q' N' E' mh mh1 mh2 mh3 => by
  obtain ⟨N, s, st, n, rfl, R, q⟩ := mh
  refine ⟨N, s, st, n, rfl, R, ?_⟩
  first
  | exact mh1 _ _ q
  | exact mh2 _ _ q
  | exact fun a => mh1 _ _ (q a)
  | exact fun a b => mh1 _ _ (q a b)
  | exact fun a b c => mh1 _ _ (q a b c)
  | exact fun a b c d => mh1 _ _ (q a b c d)
  | exact fun a b c d e => mh1 _ _ (q a b c d e)
  | exact fun a b c d e f => mh1 _ _ (q a b c d e f)
  | exact fun a b c d e f g => mh1 _ _ (q a b c d e f g)
  | exact fun a b c d e f g h => mh1 _ _ (q a b c d e f g h)
  | exact fun a => mh2 _ _ (q a)
  | exact fun a b => mh2 _ _ (q a b)
  | exact fun a b c => mh2 _ _ (q a b c)
  | exact fun a b c d => mh2 _ _ (q a b c d)
  | exact fun a b c d e => mh2 _ _ (q a b c d e)
  | exact ⟨fun a => mh1 _ _ (q.1 a), fun a => mh3 _ _ (q.2 a)⟩
  | exact ⟨fun a => mh2 _ _ (q.1 a), fun a => mh3 _ _ (q.2 a)⟩⟩

abbrev sLimitsReached : Stmt := topS 83
theorem scLimitsReached : FnScope ["state", "count", "course", "process"] ["state", "count"] (defScope sLimitsReached) := ⟨rfl, rfl, rfl, by decide +kernel, rfl, by decide +kernel, by decide +kernel⟩
set_option maxHeartbeats 2000000 in
theorem ok_LimitsReached {cState cSegment cSettings cKernel aPLAIN_CLOCKS : Addr} (D : DefAt K mg "limits_reached" sLimitsReached ["state", "count"]) (CStateCourse : MCal P w K mg base cState "course" ["self"] 1 (ofD K (sdCourse cSegment cState cSettings))) (T : Txt K mg cState cSegment cSettings cKernel aPLAIN_CLOCKS) : Cal P w K mg base "limits_reached" ["state", "count"] 2 (ofD K (sdNone cSegment cState cSettings)) := by
  refine defD D scLimitsReached (fun ds M Q N E h => (by (obtain ⟨_, _, _, _, rfl, _⟩ := h); rfl)) (fun f cdv Ar outer s H E ds M Q N E2 hr h => ?_)
  obtain ⟨N, s, st, n, rfl, R, q⟩ := h
  refine ⟨_, _, dss_cons (ds_set 2 scLimitsReached.nd (de_mth0 (db 0) CStateCourse mo_StateCourse hr takes_no Esc.no))
      (dss_one (ds_retNew (dn_lc (own := [("process", 3)]) scLimitsReached.nd (di_list (dn_de (dn_sortFK (by rfl) (by rfl) T.sorted (by decide +kernel) (de_db (de_fld (db 0)))))) (blkOk_by (own := [("process", 3)]) (N := ["state", "count", "course", "process"]) (sc := defScope sLimitsReached) (by decide +kernel)) (fun _ _ _ _ _ => (dgc_name 3 (by decide) scLimitsReached.nd)) (fun _ _ _ _ _ => (dts_one dt_never)) (fun _ _ _ _ _ => (dv 3))))), ?_⟩
  obtain ⟨⟨z, sl, rl, gs, g, w, RA, n1, n2, n3⟩, nw⟩ := R
  obtain ⟨⟨dS, hs⟩, ⟨dz, hz⟩, hsl, hold, hcur, hrl, hne, ok⟩ := id RA
  walk_at "dgo"
  refine ⟨s, z, sl, rl, gs, g, w, st, rfl, RA, ?_⟩
  walk_at "dgo"
  refine ⟨[], [], rfl, by decide, fun ms hp _ => ?_⟩
  obtain rfl : ms = [] := List.Perm.eq_nil hp
  refine ⟨[], rfl, rfl, ?_⟩
  refine lc_nil ?_
  exact q
def sdNone1 (cSegment cState cSettings : Addr) : SpD := fun ds M _ N' _ => ∃ (N : Addr → Prop) (s : Addr) (st : KS), ds = [.ref s] ∧ RepSt cSegment cState cSettings N M s st ∧ N' [] M
theorem mo_Awaited {cState : Addr} {cSegment : Addr} {cSettings : Addr} : SpMono (sdNone1 cSegment cState cSettings) := ⟨fun ds M Q N E Q' N' E' mh mh1 mh2 mh3 => by
  obtain ⟨N, s, st, rfl, R, q⟩ := mh
  refine ⟨N, s, st, rfl, R, ?_⟩
  first
  | exact mh1 _ _ q
  | exact mh2 _ _ q
  | exact fun a => mh1 _ _ (q a)
  | exact fun a b => mh1 _ _ (q a b)
  | exact fun a b c => mh1 _ _ (q a b c)
  | exact fun a b c d => mh1 _ _ (q a b c d)
  | exact fun a b c d e => mh1 _ _ (q a b c d e)
  | exact fun a b c d e f => mh1 _ _ (q a b c d e f)
  | exact fun a b c d e f g => mh1 _ _ (q a b c d e f g)
  | exact fun a b c d e f g h => mh1 _ _ (q a b c d e f g h)
  | exact fun a => mh2 _ _ (q a)
  | exact fun a b => mh2 _ _ (q a b)
  | exact fun a b c => mh2 _ _ (q a b c)
  | exact fun a b c d => mh2 _ _ (q a b c d)
  | exact fun a b c d e => mh2 _ _ (q a b c d e)
  | exact ⟨fun a => mh1 _ _ (q.1 a), fun a => mh3 _ _ (q.2 a)⟩
  | exact ⟨fun a => mh2 _ _ (q.1 a), fun a => mh3 _ _ (q.2 a)⟩⟩

abbrev sAwaited : Stmt := topS 81
theorem scAwaited : FnScope ["state", "limits", "timers", "process", "timer", "_"] ["state"] (defScope sAwaited) := ⟨rfl, rfl, rfl, by decide +kernel, rfl, by decide +kernel, by decide +kernel⟩
set_option maxHeartbeats 2000000 in
theorem ok_Awaited {cState cSegment cSettings cKernel aPLAIN_CLOCKS : Addr} (D : DefAt K mg "awaited" sAwaited ["state"])  (T : Txt K mg cState cSegment cSettings cKernel aPLAIN_CLOCKS) : Cal P w K mg base "awaited" ["state"] 1 (ofD K (sdNone1 cSegment cState cSettings)) := by
  refine defD D scAwaited (fun ds M Q N E h => (by (obtain ⟨_, _, _, rfl, _⟩ := h); rfl)) (fun f cdv Ar outer s H E ds M Q N E2 hr h => ?_)
  obtain ⟨N, s, st, rfl, R, q⟩ := h
  refine ⟨_, _, dss_cons (ds_setLc 1 (own := [("process", 3)]) scAwaited.nd (sw_true rfl rfl rfl (by decide +kernel)) (di_keys (de_fld (db 0))) (blkOk_by (own := [("process", 3)]) (N := ["state", "limits", "timers", "process", "timer", "_"]) (sc := defScope sAwaited) (by decide +kernel)) (fun _ _ _ _ _ => (dgc_name 3 (by decide) scAwaited.nd)) (fun _ _ _ _ _ => dts_nil) (fun _ _ _ _ _ => de_never))
      (dss_cons (ds_setLc 2 (own := [("timer", 4), ("_", 5)]) scAwaited.nd (sw_true rfl rfl rfl (by decide +kernel)) (di_vals (de_fld (db 0))) (blkOk_by (own := [("timer", 4), ("_", 5)]) (N := ["state", "limits", "timers", "process", "timer", "_"]) (sc := defScope sAwaited) (by decide +kernel)) (fun _ _ _ _ _ => (dgc_tup 2 (dgcs_cons (dgc_name 4 (by decide) scAwaited.nd) (dgcs_cons (dgc_name 5 (by decide) scAwaited.nd) dgcs_nil)))) (fun _ _ _ _ _ => dts_nil) (fun _ _ _ _ _ => de_never))
      (dss_one (ds_retNew (dn_op o_cat (db 1) (de_db (dn_de (dn_lc (own := [("timer", 4)]) scAwaited.nd (di_list (dv 2)) (blkOk_by (own := [("timer", 4)]) (N := ["state", "limits", "timers", "process", "timer", "_"]) (sc := defScope sAwaited) (by decide +kernel)) (fun _ _ _ _ _ => (dgc_name 4 (by decide) scAwaited.nd)) (fun _ _ _ _ _ => dts_nil) (fun _ _ _ _ _ => de_never)))))))), ?_⟩
  obtain ⟨⟨z, sl, rl, gs, g, w, RA, n1, n2, n3⟩, nw⟩ := R
  obtain ⟨⟨dS, hs⟩, ⟨dz, hz⟩, hsl, hold, hcur, hrl, hne, ok⟩ := id RA
  walk_at "dgo"
  refine lc_nil ?_
  walk_at "dgo"
  refine lc_nil ?_
  walk_at "dgo"
  refine lc_nil ?_
  walk_at "dgo"
  exact q
/-- .. but that the count grows -/
def KS.to (st : KS) (n : Int) : KS := { st with now := n }
def sdHappen (cSegment cState cSettings : Addr) : SpD := fun ds M Q _ _ => ∃ (N : Addr → Prop) (s : Addr) (st : KS) (n : Int), ds = [.ref s, .int n] ∧ RepSt cSegment cState cSettings N M s st ∧ st.now ≤ n ∧
  ∀ M', (Fram cSegment N M M' ∧ RepSt cSegment cState cSettings N M' s (st.to n)) → Q .non M'
theorem mo_Happen {cState : Addr} {cSegment : Addr} {cSettings : Addr} : SpMono (sdHappen cSegment cState cSettings) := ⟨fun ds M Q N E Q' N' E' mh mh1 mh2 mh3 => by
  obtain ⟨N, s, st, n, rfl, R, hn, q⟩ := mh
  refine ⟨N, s, st, n, rfl, R, hn, ?_⟩
  first
  | exact mh1 _ _ q
  | exact mh2 _ _ q
  | exact fun a => mh1 _ _ (q a)
  | exact fun a b => mh1 _ _ (q a b)
  | exact fun a b c => mh1 _ _ (q a b c)
  | exact fun a b c d => mh1 _ _ (q a b c d)
  | exact fun a b c d e => mh1 _ _ (q a b c d e)
  | exact fun a b c d e f => mh1 _ _ (q a b c d e f)
  | exact fun a b c d e f g => mh1 _ _ (q a b c d e f g)
  | exact fun a b c d e f g h => mh1 _ _ (q a b c d e f g h)
  | exact fun a => mh2 _ _ (q a)
  | exact fun a b => mh2 _ _ (q a b)
  | exact fun a b c => mh2 _ _ (q a b c)
  | exact fun a b c d => mh2 _ _ (q a b c d)
  | exact fun a b c d e => mh2 _ _ (q a b c d e)
  | exact ⟨fun a => mh1 _ _ (q.1 a), fun a => mh3 _ _ (q.2 a)⟩
  | exact ⟨fun a => mh2 _ _ (q.1 a), fun a => mh3 _ _ (q.2 a)⟩⟩

abbrev sHappen : Stmt := topS 82
theorem scHappen : FnScope ["state", "count", "expirations", "slots", "ended", "process", "timer", "first", "times", "slot"] ["state", "count"] (defScope sHappen) := ⟨rfl, rfl, rfl, by decide +kernel, rfl, by decide +kernel, by decide +kernel⟩
set_option maxHeartbeats 2000000 in
theorem ok_Happen {cState cSegment cSettings cKernel aPLAIN_CLOCKS : Addr} (D : DefAt K mg "happen" sHappen ["state", "count"]) (CDueTimers : Cal P w K mg base "due_timers" ["state", "count"] 2 (ofD K (sdNone cSegment cState cSettings))) (CSlotsBegun : Cal P w K mg base "slots_begun" ["state", "count"] 1 (ofD K (sdNone cSegment cState cSettings))) (CLimitsReached : Cal P w K mg base "limits_reached" ["state", "count"] 2 (ofD K (sdNone cSegment cState cSettings))) (T : Txt K mg cState cSegment cSettings cKernel aPLAIN_CLOCKS) : Cal P w K mg base "happen" ["state", "count"] 3 (ofD K (sdHappen cSegment cState cSettings)) := by
  refine defD D scHappen (fun ds M Q N E h => (by (obtain ⟨_, _, _, _, rfl, _⟩ := h); rfl)) (fun f cdv Ar outer s H E ds M Q N E2 hr h => ?_)
  obtain ⟨N, s, st, n, rfl, R, hn, q⟩ := h
  refine ⟨_, _, dss_cons (ds_set 2 scHappen.nd (dn_de (dn_cal CDueTimers mo_DueTimers hr (by rfl) (da_cons (dv 0) (da_cons (dv 1) da_nil)))))
      (dss_cons (ds_set 3 scHappen.nd (dn_de (dn_cal CSlotsBegun mo_SlotsBegun hr (by rfl) (da_cons (dv 0) (da_cons (dv 1) da_nil)))))
      (dss_cons (ds_set 4 scHappen.nd (dn_de (dn_cal CLimitsReached mo_LimitsReached hr (by rfl) (da_cons (dv 0) (da_cons (dv 1) da_nil)))))
      (dss_cons (ds_setF (db 0) (dv 1))
      (dss_cons (ds_for PassesOwn.never (di_list (dv 4)) (dg_name 5 scHappen.nd)
        (dss_one ds_never))
      (dss_cons (ds_for PassesOwn.never (di_list (dv 2)) (dg_tup (dgs_cons (dg_name 6 scHappen.nd) (dgs_cons (dg_name 7 scHappen.nd) (dgs_cons (dg_name 8 scHappen.nd) dgs_nil))))
        (dss_one ds_never))
      (dss_one (ds_for PassesOwn.never (di_list (dv 3)) (dg_tup (dgs_cons (dg_name 7 scHappen.nd) (dgs_cons (dg_name 9 scHappen.nd) dgs_nil)))
        (dss_one ds_never)))))))), ?_⟩
  have R0 := R
  obtain ⟨⟨z, sl, rl, gs, g, w, RA, n1, n2, n3⟩, nw⟩ := R
  obtain ⟨⟨dS, hs⟩, ⟨dz, hz⟩, hsl, hold, hcur, hrl, hne, ok⟩ := id RA
  walk_at "dgo"
  refine ⟨N, s, st, n, rfl, R0, ?_⟩
  walk_at "dgo"
  refine ⟨N, s, st, n, rfl, R0, ?_⟩
  walk_at "dgo"
  refine ⟨N, s, st, n, rfl, R0, ?_⟩
  walk_at "dgo"
  refine for_nil ?_
  walk_at "dgo"
  refine for_nil ?_
  walk_at "dgo"
  refine for_nil ?_
  exact q _ (RA.putS (st' := st.to n) n1 n2 n3 nw hs (by kernel_rfl) rfl rfl rfl rfl ⟨ok.zo, ok.go, ok.gn, ok.gs, ok.oo, Int.le_trans ok.le hn, Int.le_trans ok.n0 hn⟩)
def sdSettle (cSegment cState cSettings : Addr) : SpD := fun ds M Q _ _ => ∃ (N : Addr → Prop) (s : Addr) (st : KS), ds = [.ref s] ∧ RepSt cSegment cState cSettings N M s st ∧
  ∀ M', (Fram cSegment N M M' ∧ RepSt cSegment cState cSettings N M' s st) → Q .non M'
theorem mo_Settle {cState : Addr} {cSegment : Addr} {cSettings : Addr} : SpMono (sdSettle cSegment cState cSettings) := ⟨fun ds M Q N E Q' N' E' mh mh1 mh2 mh3 => by
  obtain ⟨N, s, st, rfl, R, q⟩ := mh
  refine ⟨N, s, st, rfl, R, ?_⟩
  first
  | exact mh1 _ _ q
  | exact mh2 _ _ q
  | exact fun a => mh1 _ _ (q a)
  | exact fun a b => mh1 _ _ (q a b)
  | exact fun a b c => mh1 _ _ (q a b c)
  | exact fun a b c d => mh1 _ _ (q a b c d)
  | exact fun a b c d e => mh1 _ _ (q a b c d e)
  | exact fun a b c d e f => mh1 _ _ (q a b c d e f)
  | exact fun a b c d e f g => mh1 _ _ (q a b c d e f g)
  | exact fun a b c d e f g h => mh1 _ _ (q a b c d e f g h)
  | exact fun a => mh2 _ _ (q a)
  | exact fun a b => mh2 _ _ (q a b)
  | exact fun a b c => mh2 _ _ (q a b c)
  | exact fun a b c d => mh2 _ _ (q a b c d)
  | exact fun a b c d e => mh2 _ _ (q a b c d e)
  | exact ⟨fun a => mh1 _ _ (q.1 a), fun a => mh3 _ _ (q.2 a)⟩
  | exact ⟨fun a => mh2 _ _ (q.1 a), fun a => mh3 _ _ (q.2 a)⟩⟩

abbrev sSettle : Stmt := topS 79
theorem scSettle : FnScope ["state"] ["state"] (defScope sSettle) := ⟨rfl, rfl, rfl, by decide +kernel, rfl, by decide +kernel, by decide +kernel⟩
set_option maxHeartbeats 2000000 in
theorem ok_Settle {cState cSegment cSettings cKernel aPLAIN_CLOCKS : Addr} (D : DefAt K mg "settle" sSettle ["state"]) (CHappen : Cal P w K mg base "happen" ["state", "count"] 3 (ofD K (sdHappen cSegment cState cSettings))) (T : Txt K mg cState cSegment cSettings cKernel aPLAIN_CLOCKS) : Cal P w K mg base "settle" ["state"] 4 (ofD K (sdSettle cSegment cState cSettings)) := by
  refine defD D scSettle (fun ds M Q N E h => (by (obtain ⟨_, _, _, rfl, _⟩ := h); rfl)) (fun f cdv Ar outer s H E ds M Q N E2 hr h => ?_)
  obtain ⟨N, s, st, rfl, R, q⟩ := h
  refine ⟨_, _, dss_one (ds_expr (de_cal CHappen mo_Happen hr (by rfl) (da_cons (dv 0) (da_cons (de_fld (db 0)) da_nil)))), ?_⟩
  have R0 := R
  obtain ⟨⟨z, sl, rl, gs, g, w, RA, n1, n2, n3⟩, nw⟩ := R
  obtain ⟨⟨dS, hs⟩, ⟨dz, hz⟩, hsl, hold, hcur, hrl, hne, ok⟩ := id RA
  walk_at "dgo"
  refine ⟨N, s, st, st.now, rfl, R0, Int.le_refl _, ?_⟩
  exact q
def sdNextEvent (cSegment cState cSettings : Addr) : SpD := fun ds M Q _ _ => ∃ (N : Addr → Prop) (s : Addr) (st : KS) (n : Int), ds = [.ref s, .int n] ∧ RepSt cSegment cState cSettings N M s st ∧ Q .non M
theorem mo_NextEvent {cState : Addr} {cSegment : Addr} {cSettings : Addr} : SpMono (sdNextEvent cSegment cState cSettings) := ⟨fun ds M Q N E Q' N' E' mh mh1 mh2 mh3 => by
  obtain ⟨N, s, st, n, rfl, R, q⟩ := mh
  refine ⟨N, s, st, n, rfl, R, ?_⟩
  first
  | exact mh1 _ _ q
  | exact mh2 _ _ q
  | exact fun a => mh1 _ _ (q a)
  | exact fun a b => mh1 _ _ (q a b)
  | exact fun a b c => mh1 _ _ (q a b c)
  | exact fun a b c d => mh1 _ _ (q a b c d)
  | exact fun a b c d e => mh1 _ _ (q a b c d e)
  | exact fun a b c d e f => mh1 _ _ (q a b c d e f)
  | exact fun a b c d e f g => mh1 _ _ (q a b c d e f g)
  | exact fun a b c d e f g h => mh1 _ _ (q a b c d e f g h)
  | exact fun a => mh2 _ _ (q a)
  | exact fun a b => mh2 _ _ (q a b)
  | exact fun a b c => mh2 _ _ (q a b c)
  | exact fun a b c d => mh2 _ _ (q a b c d)
  | exact fun a b c d e => mh2 _ _ (q a b c d e)
  | exact ⟨fun a => mh1 _ _ (q.1 a), fun a => mh3 _ _ (q.2 a)⟩
  | exact ⟨fun a => mh2 _ _ (q.1 a), fun a => mh3 _ _ (q.2 a)⟩⟩

abbrev sNextEvent : Stmt := topS 80
theorem scNextEvent : FnScope ["state", "most", "course", "found", "clock", "reading", "bound", "count"] ["state", "most"] (defScope sNextEvent) := ⟨rfl, rfl, rfl, by decide +kernel, rfl, by decide +kernel, by decide +kernel⟩
set_option maxHeartbeats 2000000 in
theorem ok_NextEvent {cState cSegment cSettings cKernel aPLAIN_CLOCKS : Addr} (D : DefAt K mg "next_event" sNextEvent ["state", "most"]) (CStateCourse : MCal P w K mg base cState "course" ["self"] 1 (ofD K (sdCourse cSegment cState cSettings))) (CAwaited : Cal P w K mg base "awaited" ["state"] 1 (ofD K (sdNone1 cSegment cState cSettings))) (T : Txt K mg cState cSegment cSettings cKernel aPLAIN_CLOCKS) : Cal P w K mg base "next_event" ["state", "most"] 2 (ofD K (sdNextEvent cSegment cState cSettings)) := by
  refine defD D scNextEvent (fun ds M Q N E h => (by (obtain ⟨_, _, _, _, rfl, _⟩ := h); rfl)) (fun f cdv Ar outer s H E ds M Q N E2 hr h => ?_)
  obtain ⟨N, s, st, n, rfl, R, q⟩ := h
  refine ⟨_, _, dss_cons (ds_set 2 scNextEvent.nd (de_mth0 (db 0) CStateCourse mo_StateCourse hr takes_no Esc.no))
      (dss_cons (ds_set 3 scNextEvent.nd de_non)
      (dss_cons (ds_for PassesOwn.never (di_list (dn_de (dn_cal CAwaited mo_Awaited hr (by rfl) (da_cons (dv 0) da_nil)))) (dg_tup (dgs_cons (dg_name 4 scNextEvent.nd) (dgs_cons (dg_name 5 scNextEvent.nd) dgs_nil)))
        (dss_cons ds_never
        (dss_one ds_never)))
      (dss_one (ds_ret (dv 3))))), ?_⟩
  have R0 := R
  obtain ⟨⟨z, sl, rl, gs, g, w, RA, n1, n2, n3⟩, nw⟩ := R
  obtain ⟨⟨dS, hs⟩, ⟨dz, hz⟩, hsl, hold, hcur, hrl, hne, ok⟩ := id RA
  walk_at "dgo"
  refine ⟨s, z, sl, rl, gs, g, w, st, rfl, RA, ?_⟩
  walk_at "dgo"
  refine ⟨N, s, st, rfl, R0, ?_⟩
  walk_at "dgo"
  refine for_nil ?_
  walk_at "dgo"
  exact q
def KS.adv (st : KS) (at' : Int) : KS := { st with now := st.now + (at' - st.cycle) % 2 ^ st.z.w.toNat, cycle := at' }
def sdAdvance (cSegment cState cSettings : Addr) : SpD := fun ds M Q _ _ => ∃ (N : Addr → Prop) (s : Addr) (st : KS) (n : Int), ds = [.ref s, .int n] ∧ RepSt cSegment cState cSettings N M s st ∧
  ∀ M', (Fram cSegment N M M' ∧ RepSt cSegment cState cSettings N M' s (st.adv n)) → Q .non M'
theorem mo_Advance {cState : Addr} {cSegment : Addr} {cSettings : Addr} : SpMono (sdAdvance cSegment cState cSettings) := ⟨fun ds M Q N E Q' N' E' mh mh1 mh2 mh3 => by
  obtain ⟨N, s, st, n, rfl, R, q⟩ := mh
  refine ⟨N, s, st, n, rfl, R, ?_⟩
  first
  | exact mh1 _ _ q
  | exact mh2 _ _ q
  | exact fun a => mh1 _ _ (q a)
  | exact fun a b => mh1 _ _ (q a b)
  | exact fun a b c => mh1 _ _ (q a b c)
  | exact fun a b c d => mh1 _ _ (q a b c d)
  | exact fun a b c d e => mh1 _ _ (q a b c d e)
  | exact fun a b c d e f => mh1 _ _ (q a b c d e f)
  | exact fun a b c d e f g => mh1 _ _ (q a b c d e f g)
  | exact fun a b c d e f g h => mh1 _ _ (q a b c d e f g h)
  | exact fun a => mh2 _ _ (q a)
  | exact fun a b => mh2 _ _ (q a b)
  | exact fun a b c => mh2 _ _ (q a b c)
  | exact fun a b c d => mh2 _ _ (q a b c d)
  | exact fun a b c d e => mh2 _ _ (q a b c d e)
  | exact ⟨fun a => mh1 _ _ (q.1 a), fun a => mh3 _ _ (q.2 a)⟩
  | exact ⟨fun a => mh2 _ _ (q.1 a), fun a => mh3 _ _ (q.2 a)⟩⟩

abbrev sAdvance : Stmt := topS 78
theorem scAdvance : FnScope ["state", "at", "count", "event"] ["state", "at"] (defScope sAdvance) := ⟨rfl, rfl, rfl, by decide +kernel, rfl, by decide +kernel, by decide +kernel⟩
set_option maxHeartbeats 2000000 in
theorem ok_Advance {cState cSegment cSettings cKernel aPLAIN_CLOCKS : Addr} (D : DefAt K mg "advance" sAdvance ["state", "at"]) (CNextEvent : Cal P w K mg base "next_event" ["state", "most"] 2 (ofD K (sdNextEvent cSegment cState cSettings))) (CHappen : Cal P w K mg base "happen" ["state", "count"] 3 (ofD K (sdHappen cSegment cState cSettings))) (T : Txt K mg cState cSegment cSettings cKernel aPLAIN_CLOCKS) : Cal P w K mg base "advance" ["state", "at"] 4 (ofD K (sdAdvance cSegment cState cSettings)) := by
  refine defD D scAdvance (fun ds M Q N E h => (by (obtain ⟨_, _, _, _, rfl, _⟩ := h); rfl)) (fun f cdv Ar outer s H E ds M Q N E2 hr h => ?_)
  obtain ⟨N, s, st, n, rfl, R, q⟩ := h
  refine ⟨_, _, dss_cons (ds_set 2 scAdvance.nd (de_op o_add (de_db (de_fld (db 0))) (de_db (de_op o_mod (de_db (de_op o_sub (db 1) (de_db (de_fld (db 0))))) (de_db (de_op o_shl (de_db de_int) (de_db (de_fld (de_db (de_fld (db 0)))))))))))
      (dss_cons (ds_setF (db 0) (dv 1))
      (dss_cons (ds_set 3 scAdvance.nd (de_cal CNextEvent mo_NextEvent hr (by rfl) (da_cons (dv 0) (da_cons (dv 2) da_nil))))
      (dss_cons (ds_while PassesOwn.never (dt_cmp o_notN (db 3) (de_db de_non) (nomark _))
        (dss_cons ds_never
        (dss_one (ds_set 3 scAdvance.nd (de_cal CNextEvent mo_NextEvent hr (by rfl) (da_cons (dv 0) (da_cons (dv 2) da_nil)))))))
      (dss_one (ds_if (dt_cmp o_gt (db 2) (de_db (de_fld (db 0))) (nomark _))
        (dss_one (ds_expr (de_cal CHappen mo_Happen hr (by rfl) (da_cons (dv 0) (da_cons (dv 2) da_nil)))))
        dss_nil))))), ?_⟩
  have R0 := R
  obtain ⟨⟨z, sl, rl, gs, g, w, RA, n1, n2, n3⟩, nw⟩ := R
  obtain ⟨⟨dS, hs⟩, ⟨dz, hz⟩, hsl, hold, hcur, hrl, hne, ok⟩ := id RA
  have w0 := ok.zo.w0
  have w1 := ok.zo.w1
  walk_at "dgo"
  have hpos : (0 : Int) < 2 ^ st.z.w.toNat := Int.pow_pos (by decide)
  refine ⟨hpos, ?_⟩
  have hmod := Int.emod_nonneg (n - st.cycle) (Int.ne_of_gt hpos)
  walk_at "dgo"
  obtain ⟨F1, R1⟩ := RA.putS (st' := { st with cycle := n }) n1 n2 n3 nw hs (fs := putD "cycle" (.int n) (stF z sl rl st.cycle st.now st.hal)) (by kernel_rfl) rfl rfl rfl rfl ⟨ok.zo, ok.go, ok.gn, ok.gs, ok.oo, ok.le, ok.n0⟩
  generalize hM1 : addM M s (.ins cState dS (putD "cycle" (.int n) (stF z sl rl st.cycle st.now st.hal))) = M1 at F1 R1
  refine ⟨N, s, { st with cycle := n }, _, rfl, R1, ?_⟩
  walk_at "dgo"
  refine ⟨fun _ ρ M' => ρ = [.val (.ref s), .val (.int n), .val (.int (st.now + (n - st.cycle) % 2 ^ st.z.w.toNat)), .val .non] ∧ M' = M1, ⟨0, rfl, rfl⟩, ?_⟩
  have hs1 : M1 s = some (.ins cState dS (stF z sl rl n st.now st.hal)) := by rw [← hM1, addM_same]; kernel_rfl
  rintro _ ρ M' ⟨rfl, e⟩
  rw [e]
  walk_at "dgo"
  refine ite2 (fun e => ?_) (fun e => ?_)
  · walk_at "dgo"
    refine ⟨N, s, { st with cycle := n }, _, rfl, R1, by show st.now ≤ _; omega, fun M2 ⟨F2, R2⟩ => ?_⟩
    exact q M2 ⟨F1.trans F2, R2⟩
  · have e2 : ¬ st.now + (n - st.cycle) % 2 ^ st.z.w.toNat > st.now := fun h => e (decide_eq_true h)
    have e3 : (n - st.cycle) % 2 ^ st.z.w.toNat = 0 := by omega
    walk_at "dgo"
    have e4 : st.adv n = { st with cycle := n } := by unfold KS.adv; rw [e3, Int.add_zero]
    exact q M1 ⟨F1, by rw [e4]; exact R1⟩

/-! ### kernels -/
structure RepK (cK cG cS cZ : Addr) (M : Mm) (k : Addr) (st : KS) : Prop where
  ex : ∃ dk s, M k = some (.ins cK dk [("state", .ref s)]) ∧ RepSt cG cS cZ (fun _ => True) M s st
theorem k_state {s : Addr} : (([("state", DM.D.ref s)] : Fs)).lookup ("state" : Str) = some (.ref s) := by kernel_rfl
/-- of what kind a thing is -/
def kd : MO → Nat
  | .src => 0
  | .lst _ => 1
  | .dk _ => 2
  | .dg es => if es.map (·.1) = [.inr ("steady" : Str), .inr ("real" : Str), .inr ("boot" : Str)] then 3 else 8
  | .ins _ _ fs => if (fs.lookup ("start" : Str)).isSome then 4 else if (fs.lookup ("settings" : Str)).isSome then 5 else if (fs.lookup ("width" : Str)).isSome then 6 else 7
theorem kd_seg {C d w : Addr} {g : Seg} {sh : DM.D} : kd (.ins C d (segF w g sh)) = 4 := by kernel_rfl
theorem kd_st {C d z sl rl : Addr} {cy now : Int} {hal : Option Int} : kd (.ins C d (stF z sl rl cy now hal)) = 5 := by kernel_rfl
theorem kd_set {C d : Addr} {t : Sett} : kd (.ins C d t.F) = 6 := by kernel_rfl
theorem kd_ker {C d : Addr} {x : DM.D} : kd (.ins C d [("state", x)]) = 7 := by kernel_rfl
theorem kd_lst {ds : List DM.D} : kd (.lst ds) = 1 := rfl
theorem kd_worth {g : Seg} : kd (.dg (worthG g)) = 3 := by kernel_rfl
theorem ne_kd {M : Mm} {a b : Addr} {o1 o2 : MO} (h1 : M a = some o1) (h2 : M b = some o2) (h : kd o1 ≠ kd o2) : a ≠ b := fun e => by
  rw [e, h2] at h1
  cases h1
  exact h rfl
section
variable {cG cS cZ : Addr} {N : Addr → Prop} {M M1 : Mm}
theorem RepG.off {a w k : Addr} {g : Seg} {o o' : MO} (r : RepG cG M a w g) (hk : M k = Option.some o) (h3 : kd o ≠ 3) (h4 : kd o ≠ 4) : RepG cG (addM M k o') a w g := by
  obtain ⟨dx, sh, h1, h2, _⟩ := id r
  have n1 : a ≠ k := ne_kd h1 hk (by rw [kd_seg]; exact Ne.symm h4)
  have n2 : w ≠ k := ne_kd h2 hk (by rw [kd_worth]; exact Ne.symm h3)
  exact r.same fun b hb => by rcases hb with rfl | rfl; exact addM_ne n1; exact addM_ne n2
theorem RepGs.off {ps : List (Addr × Addr)} {gs : List Seg} {k : Addr} {o o' : MO} (r : RepGs cG M ps gs) (hk : M k = Option.some o) (h3 : kd o ≠ 3) (h4 : kd o ≠ 4) : RepGs cG (addM M k o') ps gs := by
  induction r with
  | nil => exact .nil
  | cons a _ ih => exact .cons (a.off hk h3 h4) ih
/-- what is no part of a state is written -/
theorem RepSt.off {s k : Addr} {st : KS} {o o' : MO} (r : RepSt cG cS cZ N M s st) (hk : M k = some o) (h1 : kd o ≠ 1) (h3 : kd o ≠ 3) (h4 : kd o ≠ 4) (h5 : kd o ≠ 5) (h6 : kd o ≠ 6) : RepSt cG cS cZ N (addM M k o') s st := by
  obtain ⟨⟨z, sl, rl, gs, g, w, ⟨⟨dS, hs⟩, ⟨dz, hz⟩, hsl, hold, hcur, hrl, hne, ok⟩, n1, n2, n3⟩, nw⟩ := r
  have e1 : s ≠ k := ne_kd hs hk (by rw [kd_st]; exact Ne.symm h5)
  have e2 : z ≠ k := ne_kd hz hk (by rw [kd_set]; exact Ne.symm h6)
  have e3 : sl ≠ k := ne_kd hsl hk (Ne.symm h1)
  have e4 : rl ≠ k := ne_kd hrl hk (Ne.symm h1)
  exact ⟨⟨z, sl, rl, gs, g, w, ⟨⟨dS, by rw [addM_ne e1]; exact hs⟩, ⟨dz, by rw [addM_ne e2]; exact hz⟩, by rw [addM_ne e3]; exact hsl, hold.off hk h3 h4, hcur.off hk h3 h4, by rw [addM_ne e4]; exact hrl, hne, ok⟩, n1, n2, n3⟩, fun a ha => nw a (addM_none ha).2⟩
/-- a row more -/
theorem RepA.putRl {s z sl rl g w : Addr} {gs : List (Addr × Addr)} {st : KS} {d : DM.D} (r : RepA cG cS cZ M s z sl rl gs g w st) (n1 : N s) (n2 : N sl) (n3 : N rl) (nw : ∀ a, M a = none → N a) : RepSt cG cS cZ N (addM M rl (.lst (st.rows ++ [d]))) s { st with rows := st.rows ++ [d] } := by
  obtain ⟨⟨dS, hs⟩, ⟨dz, hz⟩, hsl, hold, hcur, hrl, hne, ok⟩ := r
  have e1 : s ≠ rl := ne_kd hs hrl (by rw [kd_st, kd_lst]; decide)
  have e2 : z ≠ rl := ne_kd hz hrl (by rw [kd_set, kd_lst]; decide)
  exact ⟨⟨z, sl, rl, gs, g, w, ⟨⟨dS, by rw [addM_ne e1]; exact hs⟩, ⟨dz, by rw [addM_ne e2]; exact hz⟩, by rw [addM_ne hne]; exact hsl, hold.off hrl (by rw [kd_lst]; decide) (by rw [kd_lst]; decide), hcur.off hrl (by rw [kd_lst]; decide) (by rw [kd_lst]; decide), addM_same, hne, ⟨ok.zo, ok.go, ok.gn, ok.gs, ok.oo, ok.le, ok.n0⟩⟩, n1, n2, n3⟩, fun a ha => nw a (addM_none ha).2⟩
end
def sdFirst (cSegment cState cSettings : Addr) : SpD := fun ds M Q _ _ => ∃ (z dz : Addr) (t : Sett), ds = [.ref z] ∧ M z = some (.ins cSettings dz t.F) ∧ SettOk t ∧ ∀ s M', (Fram cSegment none' M M' ∧ RepSt cSegment cState cSettings (newIn M) M' s ⟨t, 0, 0, [], { seg0 0 t.s t.m with n := t.n }, none, []⟩) → Q (.ref s) M'
theorem mo_FirstState {cState : Addr} {cSegment : Addr} {cSettings : Addr} : SpMono (sdFirst cSegment cState cSettings) := ⟨fun ds M Q N E Q' N' E' mh mh1 mh2 mh3 => by
  obtain ⟨z, dz, t, rfl, hz, ok, q⟩ := mh
  refine ⟨z, dz, t, rfl, hz, ok, ?_⟩
  first
  | exact mh1 _ _ q
  | exact mh2 _ _ q
  | exact fun a => mh1 _ _ (q a)
  | exact fun a b => mh1 _ _ (q a b)
  | exact fun a b c => mh1 _ _ (q a b c)
  | exact fun a b c d => mh1 _ _ (q a b c d)
  | exact fun a b c d e => mh1 _ _ (q a b c d e)
  | exact fun a b c d e f => mh1 _ _ (q a b c d e f)
  | exact fun a b c d e f g => mh1 _ _ (q a b c d e f g)
  | exact fun a b c d e f g h => mh1 _ _ (q a b c d e f g h)
  | exact fun a => mh2 _ _ (q a)
  | exact fun a b => mh2 _ _ (q a b)
  | exact fun a b c => mh2 _ _ (q a b c)
  | exact fun a b c d => mh2 _ _ (q a b c d)
  | exact fun a b c d e => mh2 _ _ (q a b c d e)
  | exact ⟨fun a => mh1 _ _ (q.1 a), fun a => mh3 _ _ (q.2 a)⟩
  | exact ⟨fun a => mh2 _ _ (q.1 a), fun a => mh3 _ _ (q.2 a)⟩⟩

abbrev sFirstState : Stmt := topS 98
theorem scFirstState : FnScope ["settings", "state", "mult", "shift", "course", "_"] ["settings"] (defScope sFirstState) := ⟨rfl, rfl, rfl, by decide +kernel, rfl, by decide +kernel, by decide +kernel⟩
set_option maxHeartbeats 2000000 in
theorem ok_FirstState {cState cSegment cSettings cKernel aPLAIN_CLOCKS : Addr} (D : DefAt K mg "first_state" sFirstState ["settings"]) (CStateInit : MakCal P w K mg base "State" cState ["self", "settings"] 1 (ofD K (sdState cState))) (CSegmentInit : MakCal P w K mg base "Segment" cSegment ["self", "start", "shift", "mult"] 1 (ofD K (sdSegment cSegment))) (T : Txt K mg cState cSegment cSettings cKernel aPLAIN_CLOCKS) : Cal P w K mg base "first_state" ["settings"] 3 (ofD K (sdFirst cSegment cState cSettings)) := by
  refine defD D scFirstState (fun ds M Q N E h => (by (obtain ⟨_, _, _, rfl, _⟩ := h); rfl)) (fun f cdv Ar outer s H E ds M Q N E2 hr h => ?_)
  obtain ⟨z, dz, t, rfl, hz, ok, q⟩ := h
  refine ⟨_, _, dss_cons (ds_set 1 scFirstState.nd (de_mak CStateInit mo_StateInit hr (by rfl) takes_no Esc.no (da_cons (dv 0) da_nil)))
      (dss_cons (ds_asg (de_fld (db 0)) (dg_tup (dgs_cons (dg_name 2 scFirstState.nd) (dgs_cons (dg_name 3 scFirstState.nd) dgs_nil))))
      (dss_cons (ds_set 4 scFirstState.nd (de_mak CSegmentInit mo_SegmentInit hr (by rfl) takes_no Esc.no (da_cons de_int (da_cons (dv 3) (da_cons (dv 2) da_nil)))))
      (dss_cons (ds_setF (db 4) (dn_de (dn_lc (own := [("_", 5)]) scFirstState.nd (di_rng1 (by rfl) T.range (de_fld (db 0))) (blkOk_by (own := [("_", 5)]) (N := ["settings", "state", "mult", "shift", "course", "_"]) (sc := defScope sFirstState) (by decide +kernel)) (fun _ _ _ _ _ => (dgc_name 5 (by decide) scFirstState.nd)) (fun _ _ _ _ _ => dts_nil) (fun _ _ _ _ _ => (de_tup (da_cons (de_tup da_nil) (da_cons de_non (da_cons de_int da_nil))))))))
      (dss_cons (ds_setF (db 1) (de_lstM (da_cons (dv 4) da_nil)))
      (dss_one (ds_ret (dv 1))))))), ?_⟩
  walk_at "dgo"
  intro s dS hs hdS
  refine ⟨s, z, dS, rfl, addM_same, ?_⟩
  rintro sl0 rl M1 ⟨e1, e2, e3, e4, e5, e6, e7⟩
  refine ⟨rfl, ?_⟩
  obtain ⟨nsl0, e1⟩ := addM_none e1
  obtain ⟨nrl, e2⟩ := addM_none e2
  have k1 : ∀ b, M b ≠ none → M1 b = M b := fun b hb => by
    have hb' : b ≠ s := fun z => hb (by rw [z]; exact hs)
    rw [e7 b hb' (fun z => hb (by rw [z]; exact e1)) (fun z => hb (by rw [z]; exact e2)), addM_ne hb']
  have hz1 := (k1 z (by rw [hz]; simp)).trans hz
  have zs : z ≠ s := ne_some' hz hs
  walk_at "dgo"
  intro g dg hg hdg
  refine ⟨g, dg, 0, t.s, t.m, rfl, addM_same, ?_⟩
  rintro w M2 ⟨f1, f2, f3, f4, f5⟩
  refine ⟨rfl, ?_⟩
  rw [addM_ne f2] at f1
  have k2 : ∀ b, M1 b ≠ none → M2 b = M1 b := fun b hb => by
    have hb' : b ≠ g := fun z => hb (by rw [z]; exact hg)
    rw [f5 b hb' (fun z => hb (by rw [z]; exact f1)), addM_ne hb']
  have hz2 := (k2 z (by rw [hz1]; simp)).trans hz1
  have hs2 := (k2 s (by rw [e4]; simp)).trans e4
  have hrl2 := (k2 rl (by rw [e6]; simp)).trans e6
  have n8 := ok.n1
  walk_at "dgo"
  refine ⟨fun i acc M' => acc = List.replicate i queD ∧ M' = M2, ⟨rfl, rfl⟩, fun i d acc M' hd hx => ?_, ?_⟩
  · obtain ⟨rfl, rfl⟩ := hx
    have hi : i < 8 := by
      have := (List.getElem?_eq_some_iff.mp hd).1
      rw [rng_len] at this
      omega
    walk_at "dgo"
    exact ⟨(List.replicate_succ' (n := i) (a := queD)).symm, rfl⟩
  · rintro acc M3 ⟨rfl, e3'⟩
    rw [rng_len, e3']
    have gs : g ≠ s := fun z => by rw [z, e4] at hg; cases hg
    have gw : w ≠ g := f2
    walk_at "dgo"
    intro sl hsl
    obtain ⟨slg, hsl⟩ := addM_none hsl
    have ssl : s ≠ sl := ne_some' hs2 hsl
    have rsl : rl ≠ sl := ne_some' hrl2 hsl
    have gz : z ≠ g := fun q => by rw [← q, hz1] at hg; cases hg
    have grl : rl ≠ g := fun q => by rw [← q, e6] at hg; cases hg
    have hw2 : M2 w = some (.dg (worthG (seg0 0 t.s t.m))) := f4
    have wsl : w ≠ sl := ne_some' hw2 hsl
    have ws : w ≠ s := fun q => by rw [q, hs2] at hw2; cases hw2
    have zsl : z ≠ sl := ne_some' hz2 hsl
    have rs : rl ≠ s := fun q => by rw [q, hs2] at hrl2; cases hrl2
    walk_at "dgo"
    have up : ∀ x, M x ≠ none → x ≠ s ∧ x ≠ g ∧ x ≠ sl ∧ M2 x = M x := fun x hx => by
      have h1 := k1 x hx
      have h1' : M1 x ≠ none := by rw [h1]; exact hx
      have h2 := k2 x h1'
      exact ⟨fun z => hx (by rw [z]; exact hs), fun z => h1' (by rw [z]; exact hg), fun z => h1' (by rw [← h2, z]; exact hsl), h2.trans h1⟩
    refine q s _ (andF ?_ fun F => ⟨⟨z, sl, rl, [], g, w, ⟨⟨dS, ?_⟩, ⟨dz, ?_⟩, ?_, .nil, ⟨dg, .non, ?_, ?_, .inl rfl⟩, ?_, Ne.symm rsl, ⟨ok, ⟨ok.s0, ok.s1, ok.m0, ok.m1, by show (0 : Int) ≤ 0; decide, by show (0 : Int) ≤ 18446744073709551615; decide, ok.n1⟩, rfl, rfl, fun x hx => (by cases hx), Int.le_refl _, Int.le_refl _⟩⟩, hs, ?_, e2⟩, fun a ha => F.gone ha⟩)
    · refine Fram.refl.same fun x hx => ?_
      obtain ⟨u1, u2, u3, u4⟩ := up x hx
      rw [addM_ne u1, addM_ne u3, addM_ne u2]
      exact u4
    · rw [addM_same]
      kernel_rfl
    · rw [addM_ne zs, addM_ne zsl, addM_ne gz]
      exact hz2
    · rw [addM_ne (Ne.symm ssl), addM_same]
      rfl
    · rw [addM_ne gs, addM_ne (Ne.symm slg), addM_same]
      kernel_rfl
    · rw [addM_ne ws, addM_ne wsl, addM_ne gw]
      exact hw2
    · rw [addM_ne rs, addM_ne rsl, addM_ne grl]
      exact hrl2
    · cases e : M sl with
      | none => exact e
      | some o => exact absurd rfl (up sl (by rw [e]; simp)).2.2.1
def sdGoing (cKernel cState : Addr) : SpD := fun ds M Q _ _ => ∃ (k dk s dS : Addr) (fs : Fs), ds = [.ref k] ∧ M k = some (.ins cKernel dk [("state", .ref s)]) ∧ M s = some (.ins cState dS fs) ∧ fs.lookup ("halted" : Str) = some .non ∧ Q (.ref s) M
theorem mo_KernelGoing {cState : Addr} {cKernel : Addr} : SpMono (sdGoing cKernel cState) := ⟨fun ds M Q N E Q' N' E' mh mh1 mh2 mh3 => by
  obtain ⟨k, dk, s, dS, fs, rfl, hk, hs, hl, q⟩ := mh
  refine ⟨k, dk, s, dS, fs, rfl, hk, hs, hl, ?_⟩
  first
  | exact mh1 _ _ q
  | exact mh2 _ _ q
  | exact fun a => mh1 _ _ (q a)
  | exact fun a b => mh1 _ _ (q a b)
  | exact fun a b c => mh1 _ _ (q a b c)
  | exact fun a b c d => mh1 _ _ (q a b c d)
  | exact fun a b c d e => mh1 _ _ (q a b c d e)
  | exact fun a b c d e f => mh1 _ _ (q a b c d e f)
  | exact fun a b c d e f g => mh1 _ _ (q a b c d e f g)
  | exact fun a b c d e f g h => mh1 _ _ (q a b c d e f g h)
  | exact fun a => mh2 _ _ (q a)
  | exact fun a b => mh2 _ _ (q a b)
  | exact fun a b c => mh2 _ _ (q a b c)
  | exact fun a b c d => mh2 _ _ (q a b c d)
  | exact fun a b c d e => mh2 _ _ (q a b c d e)
  | exact ⟨fun a => mh1 _ _ (q.1 a), fun a => mh3 _ _ (q.2 a)⟩
  | exact ⟨fun a => mh2 _ _ (q.1 a), fun a => mh3 _ _ (q.2 a)⟩⟩

abbrev sKernelGoing : Stmt := metS 105 1
theorem scKernelGoing : FnScope ["self"] ["self"] (defScope sKernelGoing) := ⟨rfl, rfl, rfl, by decide +kernel, rfl, by decide +kernel, by decide +kernel⟩
set_option maxHeartbeats 2000000 in
theorem ok_KernelGoing {cState cSegment cSettings cKernel aPLAIN_CLOCKS : Addr} (D : MAt K cKernel "_going" "Kernel._going" sKernelGoing ["self"])  (T : Txt K mg cState cSegment cSettings cKernel aPLAIN_CLOCKS) : MCal P w K mg base cKernel "_going" ["self"] 1 (ofD K (sdGoing cKernel cState)) := by
  refine defMX D scKernelGoing (fun ds M Q N E h => (by (obtain ⟨_, _, _, _, _, rfl, _⟩ := h); rfl)) (fun g f cdv Ar outer s H E ds M Q N E2 hr hx h => ?_)
  obtain ⟨k, dk, s, dS, fs, rfl, hk, hs, hl, q⟩ := h
  refine ⟨_, _, dss_cons (ds_if (dt_cmp o_notN (de_db (de_fld (de_db (de_fld (db 0))))) (de_db de_non) (nomark _))
        (dss_one ds_never)
        dss_nil)
      (dss_one (ds_ret (de_fld (db 0)))), ?_⟩
  walk_at "dgo"
  exact q
def sdBegun (cKernel cSegment cState cSettings : Addr) : SpD := fun ds M Q _ _ => ∃ (k : Addr) (st : KS) (n : Int), ds = [.ref k, .int n] ∧ RepK cKernel cSegment cState cSettings M k st ∧ st.hal = none ∧ st.cycle ≤ n ∧
  ∀ s M', (Fram cSegment none' M M' ∧ M s = none ∧ RepSt cSegment cState cSettings (newIn M) M' s (st.adv n)) → Q (.ref s) M'
theorem mo_KernelBegun {cState : Addr} {cSegment : Addr} {cSettings : Addr} {cKernel : Addr} : SpMono (sdBegun cKernel cSegment cState cSettings) := ⟨fun ds M Q N E Q' N' E' mh mh1 mh2 mh3 => by
  obtain ⟨k, st, n, rfl, ⟨dk, s, hk, R⟩, hh, hn, q⟩ := mh
  refine ⟨k, st, n, rfl, ⟨dk, s, hk, R⟩, hh, hn, ?_⟩
  first
  | exact mh1 _ _ q
  | exact mh2 _ _ q
  | exact fun a => mh1 _ _ (q a)
  | exact fun a b => mh1 _ _ (q a b)
  | exact fun a b c => mh1 _ _ (q a b c)
  | exact fun a b c d => mh1 _ _ (q a b c d)
  | exact fun a b c d e => mh1 _ _ (q a b c d e)
  | exact fun a b c d e f => mh1 _ _ (q a b c d e f)
  | exact fun a b c d e f g => mh1 _ _ (q a b c d e f g)
  | exact fun a b c d e f g h => mh1 _ _ (q a b c d e f g h)
  | exact fun a => mh2 _ _ (q a)
  | exact fun a b => mh2 _ _ (q a b)
  | exact fun a b c => mh2 _ _ (q a b c)
  | exact fun a b c d => mh2 _ _ (q a b c d)
  | exact fun a b c d e => mh2 _ _ (q a b c d e)
  | exact ⟨fun a => mh1 _ _ (q.1 a), fun a => mh3 _ _ (q.2 a)⟩
  | exact ⟨fun a => mh2 _ _ (q.1 a), fun a => mh3 _ _ (q.2 a)⟩⟩

abbrev sKernelBegun : Stmt := metS 105 2
theorem scKernelBegun : FnScope ["self", "at", "state"] ["self", "at"] (defScope sKernelBegun) := ⟨rfl, rfl, rfl, by decide +kernel, rfl, by decide +kernel, by decide +kernel⟩
set_option maxHeartbeats 2000000 in
theorem ok_KernelBegun {cState cSegment cSettings cKernel aPLAIN_CLOCKS : Addr} (D : MAt K cKernel "_begun" "Kernel._begun" sKernelBegun ["self", "at"]) (CStateCopied : MCal P w K mg base cState "copied" ["self"] 3 (ofD K (sdCopied cSegment cState cSettings))) (CAdvance : Cal P w K mg base "advance" ["state", "at"] 4 (ofD K (sdAdvance cSegment cState cSettings))) (CIsAtLeast : Cal P w K mg base "is_at_least" ["thing", "least"] 2 (ofD K (sdAtLeast))) (CKernelGoing : MCal P w K mg base cKernel "_going" ["self"] 1 (ofD K (sdGoing cKernel cState))) (T : Txt K mg cState cSegment cSettings cKernel aPLAIN_CLOCKS) : MCal P w K mg base cKernel "_begun" ["self", "at"] 5 (ofD K (sdBegun cKernel cSegment cState cSettings)) := by
  refine defMX D scKernelBegun (fun ds M Q N E h => (by (obtain ⟨_, _, _, rfl, _⟩ := h); rfl)) (fun g f cdv Ar outer s H E ds M Q N E2 hr hx h => ?_)
  obtain ⟨k, st, n, rfl, ⟨dk, s, hk, R⟩, hh, hn, q⟩ := h
  refine ⟨_, _, dss_cons (ds_if (dt_not (dt_val (de_cal CIsAtLeast mo_IsAtLeast hr (by rfl) (da_cons (dv 1) (da_cons (de_fld (de_db (de_mth0 (db 0) CKernelGoing mo_KernelGoing hr (takes_of rfl rfl rfl rfl) hx))) da_nil)))))
        (dss_one ds_never)
        dss_nil)
      (dss_cons (ds_set 2 scKernelBegun.nd (de_mth0 (de_db (de_fld (db 0))) CStateCopied mo_StateCopied hr (takes_of rfl rfl rfl rfl) hx))
      (dss_cons (ds_expr (de_cal CAdvance mo_Advance hr (by rfl) (da_cons (dv 2) (da_cons (dv 1) da_nil))))
      (dss_one (ds_ret (dv 2))))), ?_⟩
  have R0 := R
  obtain ⟨⟨z, sl, rl, gs, g, w, RA, n1, n2, n3⟩, nw⟩ := R
  obtain ⟨⟨dS, hs⟩, ⟨dz, hz⟩, hsl, hold, hcur, hrl, hne, ok⟩ := id RA
  rw [hh] at hs
  walk_at "dgo"
  refine ⟨k, dk, s, dS, _, rfl, hk, hs, st_halted, ?_⟩
  walk_at "dgo"
  refine ⟨_, s, st, rfl, R0, fun s' M1 ⟨F1, m1, R1⟩ => ?_⟩
  walk_at "dgo"
  refine ⟨_, s', st, n, rfl, R1, fun M2 ⟨F2, R2⟩ => ?_⟩
  walk_at "dgo"
  exact q s' M2 ⟨F1.from F2, m1, R2⟩
def KS.row (st : KS) (d : DM.D) : KS := { st with rows := st.rows ++ [d] }
def sdDone (cKernel cSegment cState cSettings : Addr) : SpD := fun ds M Q _ _ => ∃ (N : Addr → Prop) (k dk s : Addr) (st : KS) (x row : DM.D), ds = [.ref k, .ref s, row] ∧ RepSt cSegment cState cSettings N M s st ∧ M k = some (.ins cKernel dk [("state", x)]) ∧ ¬ N k ∧ st.rows.length < 1000000 ∧
  ∀ M', (Fram cSegment (fun a => N a ∨ a = k) M M' ∧ M' k = some (.ins cKernel dk [("state", .ref s)]) ∧ RepSt cSegment cState cSettings N M' s (st.row row)) → Q .non M'
theorem mo_KernelDone {cState : Addr} {cSegment : Addr} {cSettings : Addr} {cKernel : Addr} : SpMono (sdDone cKernel cSegment cState cSettings) := ⟨fun ds M Q N E Q' N' E' mh mh1 mh2 mh3 => by
  obtain ⟨N, k, dk, s, st, x, row, rfl, R, hk, nk, hl, q⟩ := mh
  refine ⟨N, k, dk, s, st, x, row, rfl, R, hk, nk, hl, ?_⟩
  first
  | exact mh1 _ _ q
  | exact mh2 _ _ q
  | exact fun a => mh1 _ _ (q a)
  | exact fun a b => mh1 _ _ (q a b)
  | exact fun a b c => mh1 _ _ (q a b c)
  | exact fun a b c d => mh1 _ _ (q a b c d)
  | exact fun a b c d e => mh1 _ _ (q a b c d e)
  | exact fun a b c d e f => mh1 _ _ (q a b c d e f)
  | exact fun a b c d e f g => mh1 _ _ (q a b c d e f g)
  | exact fun a b c d e f g h => mh1 _ _ (q a b c d e f g h)
  | exact fun a => mh2 _ _ (q a)
  | exact fun a b => mh2 _ _ (q a b)
  | exact fun a b c => mh2 _ _ (q a b c)
  | exact fun a b c d => mh2 _ _ (q a b c d)
  | exact fun a b c d e => mh2 _ _ (q a b c d e)
  | exact ⟨fun a => mh1 _ _ (q.1 a), fun a => mh3 _ _ (q.2 a)⟩
  | exact ⟨fun a => mh2 _ _ (q.1 a), fun a => mh3 _ _ (q.2 a)⟩⟩

abbrev sKernelDone : Stmt := metS 105 3
theorem scKernelDone : FnScope ["self", "state", "row"] ["self", "state", "row"] (defScope sKernelDone) := ⟨rfl, rfl, rfl, by decide +kernel, rfl, by decide +kernel, by decide +kernel⟩
set_option maxHeartbeats 2000000 in
theorem ok_KernelDone {cState cSegment cSettings cKernel aPLAIN_CLOCKS : Addr} (D : MAt K cKernel "_done" "Kernel._done" sKernelDone ["self", "state", "row"]) (CSettle : Cal P w K mg base "settle" ["state"] 4 (ofD K (sdSettle cSegment cState cSettings))) (T : Txt K mg cState cSegment cSettings cKernel aPLAIN_CLOCKS) : MCal P w K mg base cKernel "_done" ["self", "state", "row"] 5 (ofD K (sdDone cKernel cSegment cState cSettings)) := by
  refine defMX D scKernelDone (fun ds M Q N E h => (by (obtain ⟨_, _, _, _, _, _, _, rfl, _⟩ := h); rfl)) (fun g f cdv Ar outer s H E ds M Q N E2 hr hx h => ?_)
  obtain ⟨N, k, dk, s, st, x, row, rfl, R, hk, nk, hl, q⟩ := h
  refine ⟨_, _, dss_cons (ds_expr (de_cal CSettle mo_Settle hr (by rfl) (da_cons (dv 1) da_nil)))
      (dss_cons (ds_appM (de_db (de_fld (db 1))) (dv 2))
      (dss_one (ds_setF (db 0) (dv 1)))), ?_⟩
  have R0 := R
  obtain ⟨⟨z, sl, rl, gs, g, w, RA, n1, n2, n3⟩, nw⟩ := R
  obtain ⟨⟨dS, hs⟩, ⟨dz, hz⟩, hsl, hold, hcur, hrl, hne, ok⟩ := id RA
  walk_at "dgo"
  refine ⟨N, s, st, rfl, R0, fun M1 ⟨F1, R1⟩ => ?_⟩
  obtain ⟨⟨z1, sl1, rl1, gs1, g1, w1, RA1, m1, m2, m3⟩, mw⟩ := R1
  obtain ⟨dS1, hs1⟩ := RA1.hs
  have hrl1 := RA1.hrl
  have hk1 := F1.ins nk hk rfl
  have kr : k ≠ rl1 := ne_kd hk1 hrl1 (by rw [kd_ker, kd_lst]; decide)
  walk_at "dgo"
  have R2 := RA1.putRl (d := row) m1 m2 m3 mw
  have hk2 : addM M1 rl1 (.lst (st.rows ++ [row])) k = _ := (addM_ne kr).trans hk1
  refine q _ ⟨((F1.mono fun _ h => .inl h).trans (.put (.inl m3))).trans (.put (.inr rfl)), ?_, R2.off hk2 (by rw [kd_ker]; decide) (by rw [kd_ker]; decide) (by rw [kd_ker]; decide) (by rw [kd_ker]; decide) (by rw [kd_ker]; decide)⟩
  rw [addM_same]
  kernel_rfl

section
variable {cK cG cS cZ : Addr} {N : Addr → Prop} {M M1 M2 : Mm}
theorem Fram.fromK {k : Addr} (a : Fram cG none' M M1) (b : Fram cG (fun x => newIn M x ∨ x = k) M1 M2) : Fram cG (fun x => x = k) M M2 := ⟨fun x o n h => by
  have nn : ¬ (newIn M x ∨ x = k) := fun z => by
    rcases z with z | z
    · rw [show M x = none from z] at h; cases h
    · exact n z
  exact ((a.mono (N' := fun x => newIn M x ∨ x = k) (fun _ z => z.elim)).trans b).to x o nn h, fun x h => b.up x (a.up x h)⟩
theorem RepSt.all {s : Addr} {st : KS} (r : RepSt cG cS cZ N M s st) : RepSt cG cS cZ (fun _ => True) M s st := r.mono fun _ _ => trivial
/-- what is no part of a kernel is written -/
theorem RepK.off {k p : Addr} {st : KS} {o o' : MO} (r : RepK cK cG cS cZ M k st) (hp : M p = some o) (h : kd o = 0 ∨ kd o = 8) : RepK cK cG cS cZ (addM M p o') k st := by
  obtain ⟨dk, s, hk, R⟩ := r
  have e : k ≠ p := ne_kd hk hp (by rw [kd_ker]; rcases h with h | h <;> rw [h] <;> decide)
  exact ⟨dk, s, by rw [addM_ne e]; exact hk, R.off hp (by rcases h with h | h <;> rw [h] <;> decide) (by rcases h with h | h <;> rw [h] <;> decide) (by rcases h with h | h <;> rw [h] <;> decide) (by rcases h with h | h <;> rw [h] <;> decide) (by rcases h with h | h <;> rw [h] <;> decide)⟩
theorem RepK.ok {k : Addr} {st : KS} (r : RepK cK cG cS cZ M k st) : KSOk st := by
  obtain ⟨dk, s, hk, ⟨⟨z, sl, rl, gs, g, w, h, _⟩, _⟩⟩ := r
  exact h.hok
theorem RepK.fram {k k2 : Addr} {st : KS} (r : RepK cK cG cS cZ M k st) (f : Fram cG (fun x => x = k2) M M1) (h : k ≠ k2) (hk2 : ∃ dk x, M k2 = some (.ins cK dk [("state", x)])) : RepK cK cG cS cZ M1 k st := by
  obtain ⟨dk, s, hk, ⟨⟨z, sl, rl, gs, g, w, ⟨⟨dS, hs⟩, ⟨dz, hz⟩, hsl, hold, hcur, hrl, hne, ok⟩, _⟩, _⟩⟩ := r
  obtain ⟨dk2, x, hk2⟩ := hk2
  have e1 : s ≠ k2 := ne_kd hs hk2 (by rw [kd_st, kd_ker]; decide)
  have e2 : z ≠ k2 := ne_kd hz hk2 (by rw [kd_set, kd_ker]; decide)
  have e3 : sl ≠ k2 := ne_kd hsl hk2 (by rw [kd_lst, kd_ker]; decide)
  have e4 : rl ≠ k2 := ne_kd hrl hk2 (by rw [kd_lst, kd_ker]; decide)
  have e5 : ∀ {a w : Addr} {g : Seg}, RepG cG M a w g → a ≠ k2 ∧ w ≠ k2 := fun {a w g} h => by
    obtain ⟨dx, sh, h1, h2, _⟩ := h
    exact ⟨ne_kd h1 hk2 (by rw [kd_seg, kd_ker]; decide), ne_kd h2 hk2 (by rw [kd_worth, kd_ker]; decide)⟩
  have e6 : ∀ {ps : List (Addr × Addr)} {xs : List Seg}, RepGs cG M ps xs → RepGs cG M1 ps xs := fun {ps xs} h => by
    induction h with
    | nil => exact .nil
    | cons a _ ih => exact .cons (a.fram f (e5 a).1 (e5 a).2) ih
  exact ⟨dk, s, f.ins h hk rfl, ⟨⟨z, sl, rl, gs, g, w, ⟨⟨dS, f.ins e1 hs rfl⟩, ⟨dz, f.ins e2 hz rfl⟩, f.lst e3 hsl, e6 hold, hcur.fram f (e5 hcur).1 (e5 hcur).2, f.lst e4 hrl, hne, ok⟩, trivial, trivial, trivial⟩, fun _ _ => trivial⟩⟩
end
def KS.new (t : Sett) : KS := ⟨t, 0, 0, [], { seg0 0 t.s t.m with n := t.n }, none, []⟩
def sdNew (cKernel cSegment cState cSettings : Addr) : SpD := fun ds M Q _ _ => ∃ (k dk : Addr) (t : Sett), ds = [.ref k, .int t.w, pr2 t.m t.s, .int t.n, .int t.t, .int t.b, .non, .int t.u] ∧ M k = some (.ins cKernel dk []) ∧ t.lv = [("queue" : Str)] ∧ SettOk t ∧
  ∀ M', (Fram cSegment (fun a => a = k) M M' ∧ RepK cKernel cSegment cState cSettings M' k (.new t)) → Q .non M'
theorem mo_KernelInit {cState : Addr} {cSegment : Addr} {cSettings : Addr} {cKernel : Addr} : SpMono (sdNew cKernel cSegment cState cSettings) := ⟨fun ds M Q N E Q' N' E' mh mh1 mh2 mh3 => by
  obtain ⟨k, dk, t, rfl, hk, hlv, ok, q⟩ := mh
  refine ⟨k, dk, t, rfl, hk, hlv, ok, ?_⟩
  first
  | exact mh1 _ _ q
  | exact mh2 _ _ q
  | exact fun a => mh1 _ _ (q a)
  | exact fun a b => mh1 _ _ (q a b)
  | exact fun a b c => mh1 _ _ (q a b c)
  | exact fun a b c d => mh1 _ _ (q a b c d)
  | exact fun a b c d e => mh1 _ _ (q a b c d e)
  | exact fun a b c d e f => mh1 _ _ (q a b c d e f)
  | exact fun a b c d e f g => mh1 _ _ (q a b c d e f g)
  | exact fun a b c d e f g h => mh1 _ _ (q a b c d e f g h)
  | exact fun a => mh2 _ _ (q a)
  | exact fun a b => mh2 _ _ (q a b)
  | exact fun a b c => mh2 _ _ (q a b c)
  | exact fun a b c d => mh2 _ _ (q a b c d)
  | exact fun a b c d e => mh2 _ _ (q a b c d e)
  | exact ⟨fun a => mh1 _ _ (q.1 a), fun a => mh3 _ _ (q.2 a)⟩
  | exact ⟨fun a => mh2 _ _ (q.1 a), fun a => mh3 _ _ (q.2 a)⟩⟩

abbrev sKernelInit : Stmt := metS 105 0
theorem scKernelInit : FnScope ["self", "width", "rate", "processors", "tick", "base", "levels", "coarse"] ["self", "width", "rate", "processors", "tick", "base", "levels", "coarse"] (defScope sKernelInit) := ⟨rfl, rfl, rfl, by decide +kernel, rfl, by decide +kernel, by decide +kernel⟩
set_option maxHeartbeats 2000000 in
theorem ok_KernelInit {cState cSegment cSettings cKernel aPLAIN_CLOCKS : Addr} (D : MakKAt K mg "Kernel" cKernel "Kernel.__init__" sKernelInit) (CFirstState : Cal P w K mg base "first_state" ["settings"] 3 (ofD K (sdFirst cSegment cState cSettings))) (CCheckedSettings : Cal P w K mg base "checked_settings" ["width", "rate", "processors", "tick", "base", "levels", "coarse"] 5 (ofD K (sdChecked cSettings))) (T : Txt K mg cState cSegment cSettings cKernel aPLAIN_CLOCKS) : MakKCal P w K mg base "Kernel" cKernel ["self", "width", "rate", "processors", "tick", "base", "levels", "coarse"] 6 (ofD K (sdNew cKernel cSegment cState cSettings)) := by
  refine defMakK D scKernelInit (fun ds M Q N E h => (by (obtain ⟨_, _, _, rfl, _⟩ := h); rfl)) (fun g f cdv Ar outer s H E ds M Q N E2 hr hx h => ?_)
  obtain ⟨k, dk, t, rfl, hk, hlv, ok, q⟩ := h
  refine ⟨_, _, dss_one (ds_setF (db 0) (de_cal CFirstState mo_FirstState hr (by rfl) (da_cons (de_cal CCheckedSettings mo_CheckedSettings hr (by rfl) (da_cons (dv 1) (da_cons (dv 2) (da_cons (dv 3) (da_cons (dv 4) (da_cons (dv 5) (da_cons (dv 6) (da_cons (dv 7) da_nil)))))))) da_nil))), ?_⟩
  walk_at "dgo"
  intro z dz hz
  have kz : k ≠ z := ne_some' hk hz
  walk_at "dgo"
  refine ⟨z, dz, t, rfl, addM_same, ok, fun s M2 ⟨F2, R2⟩ => ?_⟩
  have hk2 : M2 k = _ := F2.ins (fun z => z) ((addM_ne kz).trans hk) rfl
  have F1 : Fram cSegment none' M M2 := (Fram.new hz).trans F2
  walk_at "dgo"
  have kd0 : kd (.ins cKernel dk []) = 7 := by kernel_rfl
  exact q _ ⟨⟨fun x o n h => (F1.mono (N' := fun a => a = k) (fun _ z => z.elim)).trans (.put rfl) |>.to x o n h, fun x h => ((F1.mono (N' := fun a => a = k) (fun _ z => z.elim)).trans (.put rfl)).up x h⟩, ⟨dk, s, addM_same, (R2.all).off hk2 (by rw [kd0]; decide) (by rw [kd0]; decide) (by rw [kd0]; decide) (by rw [kd0]; decide) (by rw [kd0]; decide)⟩⟩
def KS.size (st : KS) : Nat := st.old.length + st.rows.length
def sdLook (cKernel cSegment cState cSettings : Addr) : SpD := fun ds M Q _ _ => ∃ (k : Addr) (st : KS) (n : Int), ds = [.ref k, .int n] ∧ RepK cKernel cSegment cState cSettings M k st ∧ st.hal = none ∧ st.cycle ≤ n ∧ st.size < 900000 ∧
  ∀ M', (Fram cSegment (fun a => a = k) M M' ∧ RepK cKernel cSegment cState cSettings M' k ((st.adv n).row (.tup [.str "look", .int n]))) → Q .non M'
theorem mo_KernelLook {cState : Addr} {cSegment : Addr} {cSettings : Addr} {cKernel : Addr} : SpMono (sdLook cKernel cSegment cState cSettings) := ⟨fun ds M Q N E Q' N' E' mh mh1 mh2 mh3 => by
  obtain ⟨k, st, n, rfl, RK, hh, hn, hl, q⟩ := mh
  refine ⟨k, st, n, rfl, RK, hh, hn, hl, ?_⟩
  first
  | exact mh1 _ _ q
  | exact mh2 _ _ q
  | exact fun a => mh1 _ _ (q a)
  | exact fun a b => mh1 _ _ (q a b)
  | exact fun a b c => mh1 _ _ (q a b c)
  | exact fun a b c d => mh1 _ _ (q a b c d)
  | exact fun a b c d e => mh1 _ _ (q a b c d e)
  | exact fun a b c d e f => mh1 _ _ (q a b c d e f)
  | exact fun a b c d e f g => mh1 _ _ (q a b c d e f g)
  | exact fun a b c d e f g h => mh1 _ _ (q a b c d e f g h)
  | exact fun a => mh2 _ _ (q a)
  | exact fun a b => mh2 _ _ (q a b)
  | exact fun a b c => mh2 _ _ (q a b c)
  | exact fun a b c d => mh2 _ _ (q a b c d)
  | exact fun a b c d e => mh2 _ _ (q a b c d e)
  | exact ⟨fun a => mh1 _ _ (q.1 a), fun a => mh3 _ _ (q.2 a)⟩
  | exact ⟨fun a => mh2 _ _ (q.1 a), fun a => mh3 _ _ (q.2 a)⟩⟩

abbrev sKernelLook : Stmt := metS 105 4
theorem scKernelLook : FnScope ["self", "at"] ["self", "at"] (defScope sKernelLook) := ⟨rfl, rfl, rfl, by decide +kernel, rfl, by decide +kernel, by decide +kernel⟩
set_option maxHeartbeats 2000000 in
theorem ok_KernelLook {cState cSegment cSettings cKernel aPLAIN_CLOCKS : Addr} (D : MAt K cKernel "look" "Kernel.look" sKernelLook ["self", "at"]) (CKernelDone : MCal P w K mg base cKernel "_done" ["self", "state", "row"] 5 (ofD K (sdDone cKernel cSegment cState cSettings))) (CKernelBegun : MCal P w K mg base cKernel "_begun" ["self", "at"] 5 (ofD K (sdBegun cKernel cSegment cState cSettings))) (T : Txt K mg cState cSegment cSettings cKernel aPLAIN_CLOCKS) : MCal P w K mg base cKernel "look" ["self", "at"] 6 (ofD K (sdLook cKernel cSegment cState cSettings)) := by
  refine defMX D scKernelLook (fun ds M Q N E h => (by (obtain ⟨_, _, _, rfl, _⟩ := h); rfl)) (fun g f cdv Ar outer s H E ds M Q N E2 hr hx h => ?_)
  obtain ⟨k, st, n, rfl, RK, hh, hn, hl, q⟩ := h
  refine ⟨_, _, dss_one (ds_expr (de_mth (db 0) CKernelDone mo_KernelDone hr (takes_of rfl rfl rfl rfl) hx (da_cons (de_mth (db 0) CKernelBegun mo_KernelBegun hr (takes_of rfl rfl rfl rfl) hx (da_cons (dv 1) da_nil)) (da_cons (de_tup (da_cons de_str (da_cons (dv 1) da_nil))) da_nil)))), ?_⟩
  have RK0 := RK
  obtain ⟨dk, s0, hk, R⟩ := RK
  walk_at "dgo"
  refine ⟨k, st, n, rfl, RK0, hh, hn, fun s M1 ⟨F1, m1, R1⟩ => ?_⟩
  have nk : ¬ newIn M k := fun z => by rw [show M k = none from z] at hk; cases hk
  have hk1 := F1.ins (fun z => z) hk rfl
  walk_at "dgo"
  refine ⟨newIn M, k, dk, s, _, _, _, rfl, R1, hk1, nk, (by show st.rows.length < _; unfold KS.size at hl; omega), fun M3 ⟨F3, hk3, R3⟩ => ?_⟩
  exact q M3 ⟨F1.fromK F3, ⟨dk, s, hk3, R3.all⟩⟩
def sdRead (cKernel cSegment cState cSettings : Addr) : SpD := fun ds M Q _ _ => ∃ (k : Addr) (st : KS) (n : Int) (c : Clk), ds = [.ref k, .int n, .str c.str] ∧ RepK cKernel cSegment cState cSettings M k st ∧ st.hal = none ∧ st.cycle ≤ n ∧ st.size < 900000 ∧
  ∀ M', (Fram cSegment (fun a => a = k) M M' ∧ RepK cKernel cSegment cState cSettings M' k ((st.adv n).row (.tup [.str "read", .int n, .str c.str]))) → Q (.int ((st.adv n).reading c)) M'
theorem mo_KernelRead {cState : Addr} {cSegment : Addr} {cSettings : Addr} {cKernel : Addr} : SpMono (sdRead cKernel cSegment cState cSettings) := ⟨fun ds M Q N E Q' N' E' mh mh1 mh2 mh3 => by
  obtain ⟨k, st, n, c, rfl, RK, hh, hn, hl, q⟩ := mh
  refine ⟨k, st, n, c, rfl, RK, hh, hn, hl, ?_⟩
  first
  | exact mh1 _ _ q
  | exact mh2 _ _ q
  | exact fun a => mh1 _ _ (q a)
  | exact fun a b => mh1 _ _ (q a b)
  | exact fun a b c => mh1 _ _ (q a b c)
  | exact fun a b c d => mh1 _ _ (q a b c d)
  | exact fun a b c d e => mh1 _ _ (q a b c d e)
  | exact fun a b c d e f => mh1 _ _ (q a b c d e f)
  | exact fun a b c d e f g => mh1 _ _ (q a b c d e f g)
  | exact fun a b c d e f g h => mh1 _ _ (q a b c d e f g h)
  | exact fun a => mh2 _ _ (q a)
  | exact fun a b => mh2 _ _ (q a b)
  | exact fun a b c => mh2 _ _ (q a b c)
  | exact fun a b c d => mh2 _ _ (q a b c d)
  | exact fun a b c d e => mh2 _ _ (q a b c d e)
  | exact ⟨fun a => mh1 _ _ (q.1 a), fun a => mh3 _ _ (q.2 a)⟩
  | exact ⟨fun a => mh2 _ _ (q.1 a), fun a => mh3 _ _ (q.2 a)⟩⟩

abbrev sKernelRead : Stmt := metS 105 8
theorem scKernelRead : FnScope ["self", "at", "clock", "state"] ["self", "at", "clock"] (defScope sKernelRead) := ⟨rfl, rfl, rfl, by decide +kernel, rfl, by decide +kernel, by decide +kernel⟩
set_option maxHeartbeats 2000000 in
theorem ok_KernelRead {cState cSegment cSettings cKernel aPLAIN_CLOCKS : Addr} (D : MAt K cKernel "read" "Kernel.read" sKernelRead ["self", "at", "clock"]) (CKernelBegun : MCal P w K mg base cKernel "_begun" ["self", "at"] 5 (ofD K (sdBegun cKernel cSegment cState cSettings))) (CCheckClock : Cal P w K mg base "check_clock" ["state", "clock"] 2 (ofD K (sdClock cState))) (CKernelDone : MCal P w K mg base cKernel "_done" ["self", "state", "row"] 5 (ofD K (sdDone cKernel cSegment cState cSettings))) (CStateReading : MCal P w K mg base cState "reading" ["self", "clock"] 4 (ofD K (sdStReading cSegment cState cSettings))) (T : Txt K mg cState cSegment cSettings cKernel aPLAIN_CLOCKS) : MCal P w K mg base cKernel "read" ["self", "at", "clock"] 6 (ofD K (sdRead cKernel cSegment cState cSettings)) := by
  refine defMX D scKernelRead (fun ds M Q N E h => (by (obtain ⟨_, _, _, _, rfl, _⟩ := h); rfl)) (fun g f cdv Ar outer s H E ds M Q N E2 hr hx h => ?_)
  obtain ⟨k, st, n, c, rfl, RK, hh, hn, hl, q⟩ := h
  refine ⟨_, _, dss_cons (ds_set 3 scKernelRead.nd (de_mth (db 0) CKernelBegun mo_KernelBegun hr (takes_of rfl rfl rfl rfl) hx (da_cons (dv 1) da_nil)))
      (dss_cons (ds_expr (de_cal CCheckClock mo_CheckClock hr (by rfl) (da_cons (dv 3) (da_cons (dv 2) da_nil))))
      (dss_cons (ds_expr (de_mth (db 0) CKernelDone mo_KernelDone hr (takes_of rfl rfl rfl rfl) hx (da_cons (dv 3) (da_cons (de_tup (da_cons de_str (da_cons (dv 1) (da_cons (dv 2) da_nil)))) da_nil))))
      (dss_one (ds_ret (de_mth (db 3) CStateReading mo_StateReading hr (takes_of rfl rfl rfl rfl) hx (da_cons (dv 2) da_nil)))))), ?_⟩
  have RK0 := RK
  obtain ⟨dk, s0, hk, R⟩ := RK
  walk_at "dgo"
  refine ⟨k, st, n, rfl, RK0, hh, hn, fun s M1 ⟨F1, m1, R1⟩ => ?_⟩
  have nk : ¬ newIn M k := fun z => by rw [show M k = none from z] at hk; cases hk
  have hk1 := F1.ins (fun z => z) hk rfl
  walk_at "dgo"
  refine ⟨newIn M, k, dk, s, _, _, _, rfl, R1, hk1, nk, (by show st.rows.length < _; unfold KS.size at hl; omega), fun M3 ⟨F3, hk3, R3⟩ => ?_⟩
  walk_at "dgo"
  obtain ⟨⟨z3, sl3, rl3, gs3, g3, w3, RA3, _⟩, _⟩ := id R3
  obtain ⟨dS3, hs3⟩ := RA3.hs
  walk_at "dgo"
  refine ⟨_, s, _, c, rfl, R3, ?_⟩
  exact q M3 ⟨F1.fromK F3, ⟨dk, s, hk3, R3.all⟩⟩
def sdCount (cKernel cSegment cState cSettings : Addr) (f : KS → Int) : SpD := fun ds M Q _ _ => ∃ (k : Addr) (st : KS), ds = [.ref k] ∧ RepK cKernel cSegment cState cSettings M k st ∧ Q (.int (f st)) M
theorem mo_KernelCount {cState : Addr} {cSegment : Addr} {cSettings : Addr} {cKernel : Addr} : SpMono (sdCount cKernel cSegment cState cSettings fun st => st.now) := ⟨fun ds M Q N E Q' N' E' mh mh1 mh2 mh3 => by
  obtain ⟨k, st, rfl, RK, q⟩ := mh
  refine ⟨k, st, rfl, RK, ?_⟩
  first
  | exact mh1 _ _ q
  | exact mh2 _ _ q
  | exact fun a => mh1 _ _ (q a)
  | exact fun a b => mh1 _ _ (q a b)
  | exact fun a b c => mh1 _ _ (q a b c)
  | exact fun a b c d => mh1 _ _ (q a b c d)
  | exact fun a b c d e => mh1 _ _ (q a b c d e)
  | exact fun a b c d e f => mh1 _ _ (q a b c d e f)
  | exact fun a b c d e f g => mh1 _ _ (q a b c d e f g)
  | exact fun a b c d e f g h => mh1 _ _ (q a b c d e f g h)
  | exact fun a => mh2 _ _ (q a)
  | exact fun a b => mh2 _ _ (q a b)
  | exact fun a b c => mh2 _ _ (q a b c)
  | exact fun a b c d => mh2 _ _ (q a b c d)
  | exact fun a b c d e => mh2 _ _ (q a b c d e)
  | exact ⟨fun a => mh1 _ _ (q.1 a), fun a => mh3 _ _ (q.2 a)⟩
  | exact ⟨fun a => mh2 _ _ (q.1 a), fun a => mh3 _ _ (q.2 a)⟩⟩

abbrev sKernelCount : Stmt := metS 105 5
theorem scKernelCount : FnScope ["self"] ["self"] (defScope sKernelCount) := ⟨rfl, rfl, rfl, by decide +kernel, rfl, by decide +kernel, by decide +kernel⟩
set_option maxHeartbeats 2000000 in
theorem ok_KernelCount {cState cSegment cSettings cKernel aPLAIN_CLOCKS : Addr} (D : MAt K cKernel "count" "Kernel.count" sKernelCount ["self"])  (T : Txt K mg cState cSegment cSettings cKernel aPLAIN_CLOCKS) : MCal P w K mg base cKernel "count" ["self"] 1 (ofD K (sdCount cKernel cSegment cState cSettings fun st => st.now)) := by
  refine defMX D scKernelCount (fun ds M Q N E h => (by (obtain ⟨_, _, rfl, _⟩ := h); rfl)) (fun g f cdv Ar outer s H E ds M Q N E2 hr hx h => ?_)
  obtain ⟨k, st, rfl, RK, q⟩ := h
  refine ⟨_, _, dss_one (ds_ret (de_fld (de_db (de_fld (db 0))))), ?_⟩
  obtain ⟨dk, s, hk, ⟨⟨z, sl, rl, gs, g, w, RA, _⟩, _⟩⟩ := RK
  obtain ⟨dS, hs⟩ := RA.hs
  walk_at "dgo"
  exact q
theorem mo_KernelMissed {cState : Addr} {cSegment : Addr} {cSettings : Addr} {cKernel : Addr} : SpMono (sdCount cKernel cSegment cState cSettings fun st => st.cycle - st.now) := ⟨fun ds M Q N E Q' N' E' mh mh1 mh2 mh3 => by
  obtain ⟨k, st, rfl, RK, q⟩ := mh
  refine ⟨k, st, rfl, RK, ?_⟩
  first
  | exact mh1 _ _ q
  | exact mh2 _ _ q
  | exact fun a => mh1 _ _ (q a)
  | exact fun a b => mh1 _ _ (q a b)
  | exact fun a b c => mh1 _ _ (q a b c)
  | exact fun a b c d => mh1 _ _ (q a b c d)
  | exact fun a b c d e => mh1 _ _ (q a b c d e)
  | exact fun a b c d e f => mh1 _ _ (q a b c d e f)
  | exact fun a b c d e f g => mh1 _ _ (q a b c d e f g)
  | exact fun a b c d e f g h => mh1 _ _ (q a b c d e f g h)
  | exact fun a => mh2 _ _ (q a)
  | exact fun a b => mh2 _ _ (q a b)
  | exact fun a b c => mh2 _ _ (q a b c)
  | exact fun a b c d => mh2 _ _ (q a b c d)
  | exact fun a b c d e => mh2 _ _ (q a b c d e)
  | exact ⟨fun a => mh1 _ _ (q.1 a), fun a => mh3 _ _ (q.2 a)⟩
  | exact ⟨fun a => mh2 _ _ (q.1 a), fun a => mh3 _ _ (q.2 a)⟩⟩

abbrev sKernelMissed : Stmt := metS 105 6
theorem scKernelMissed : FnScope ["self"] ["self"] (defScope sKernelMissed) := ⟨rfl, rfl, rfl, by decide +kernel, rfl, by decide +kernel, by decide +kernel⟩
set_option maxHeartbeats 2000000 in
theorem ok_KernelMissed {cState cSegment cSettings cKernel aPLAIN_CLOCKS : Addr} (D : MAt K cKernel "missed" "Kernel.missed" sKernelMissed ["self"])  (T : Txt K mg cState cSegment cSettings cKernel aPLAIN_CLOCKS) : MCal P w K mg base cKernel "missed" ["self"] 1 (ofD K (sdCount cKernel cSegment cState cSettings fun st => st.cycle - st.now)) := by
  refine defMX D scKernelMissed (fun ds M Q N E h => (by (obtain ⟨_, _, rfl, _⟩ := h); rfl)) (fun g f cdv Ar outer s H E ds M Q N E2 hr hx h => ?_)
  obtain ⟨k, st, rfl, RK, q⟩ := h
  refine ⟨_, _, dss_one (ds_ret (de_op o_sub (de_db (de_fld (de_db (de_fld (db 0))))) (de_db (de_fld (de_db (de_fld (db 0))))))), ?_⟩
  obtain ⟨dk, s, hk, ⟨⟨z, sl, rl, gs, g, w, RA, _⟩, _⟩⟩ := RK
  obtain ⟨dS, hs⟩ := RA.hs
  walk_at "dgo"
  exact q
theorem mo_KernelLast {cState : Addr} {cSegment : Addr} {cSettings : Addr} {cKernel : Addr} : SpMono (sdCount cKernel cSegment cState cSettings fun st => st.cycle) := ⟨fun ds M Q N E Q' N' E' mh mh1 mh2 mh3 => by
  obtain ⟨k, st, rfl, RK, q⟩ := mh
  refine ⟨k, st, rfl, RK, ?_⟩
  first
  | exact mh1 _ _ q
  | exact mh2 _ _ q
  | exact fun a => mh1 _ _ (q a)
  | exact fun a b => mh1 _ _ (q a b)
  | exact fun a b c => mh1 _ _ (q a b c)
  | exact fun a b c d => mh1 _ _ (q a b c d)
  | exact fun a b c d e => mh1 _ _ (q a b c d e)
  | exact fun a b c d e f => mh1 _ _ (q a b c d e f)
  | exact fun a b c d e f g => mh1 _ _ (q a b c d e f g)
  | exact fun a b c d e f g h => mh1 _ _ (q a b c d e f g h)
  | exact fun a => mh2 _ _ (q a)
  | exact fun a b => mh2 _ _ (q a b)
  | exact fun a b c => mh2 _ _ (q a b c)
  | exact fun a b c d => mh2 _ _ (q a b c d)
  | exact fun a b c d e => mh2 _ _ (q a b c d e)
  | exact ⟨fun a => mh1 _ _ (q.1 a), fun a => mh3 _ _ (q.2 a)⟩
  | exact ⟨fun a => mh2 _ _ (q.1 a), fun a => mh3 _ _ (q.2 a)⟩⟩

abbrev sKernelLast : Stmt := metS 105 7
theorem scKernelLast : FnScope ["self"] ["self"] (defScope sKernelLast) := ⟨rfl, rfl, rfl, by decide +kernel, rfl, by decide +kernel, by decide +kernel⟩
set_option maxHeartbeats 2000000 in
theorem ok_KernelLast {cState cSegment cSettings cKernel aPLAIN_CLOCKS : Addr} (D : MAt K cKernel "last" "Kernel.last" sKernelLast ["self"])  (T : Txt K mg cState cSegment cSettings cKernel aPLAIN_CLOCKS) : MCal P w K mg base cKernel "last" ["self"] 1 (ofD K (sdCount cKernel cSegment cState cSettings fun st => st.cycle)) := by
  refine defMX D scKernelLast (fun ds M Q N E h => (by (obtain ⟨_, _, rfl, _⟩ := h); rfl)) (fun g f cdv Ar outer s H E ds M Q N E2 hr hx h => ?_)
  obtain ⟨k, st, rfl, RK, q⟩ := h
  refine ⟨_, _, dss_one (ds_ret (de_fld (de_db (de_fld (db 0))))), ?_⟩
  obtain ⟨dk, s, hk, ⟨⟨z, sl, rl, gs, g, w, RA, _⟩, _⟩⟩ := RK
  obtain ⟨dS, hs⟩ := RA.hs
  walk_at "dgo"
  exact q
theorem mo_KernelSlewLeft {cState : Addr} {cSegment : Addr} {cSettings : Addr} {cKernel : Addr} : SpMono (sdCount cKernel cSegment cState cSettings KS.left) := ⟨fun ds M Q N E Q' N' E' mh mh1 mh2 mh3 => by
  obtain ⟨k, st, rfl, RK, q⟩ := mh
  refine ⟨k, st, rfl, RK, ?_⟩
  first
  | exact mh1 _ _ q
  | exact mh2 _ _ q
  | exact fun a => mh1 _ _ (q a)
  | exact fun a b => mh1 _ _ (q a b)
  | exact fun a b c => mh1 _ _ (q a b c)
  | exact fun a b c d => mh1 _ _ (q a b c d)
  | exact fun a b c d e => mh1 _ _ (q a b c d e)
  | exact fun a b c d e f => mh1 _ _ (q a b c d e f)
  | exact fun a b c d e f g => mh1 _ _ (q a b c d e f g)
  | exact fun a b c d e f g h => mh1 _ _ (q a b c d e f g h)
  | exact fun a => mh2 _ _ (q a)
  | exact fun a b => mh2 _ _ (q a b)
  | exact fun a b c => mh2 _ _ (q a b c)
  | exact fun a b c d => mh2 _ _ (q a b c d)
  | exact fun a b c d e => mh2 _ _ (q a b c d e)
  | exact ⟨fun a => mh1 _ _ (q.1 a), fun a => mh3 _ _ (q.2 a)⟩
  | exact ⟨fun a => mh2 _ _ (q.1 a), fun a => mh3 _ _ (q.2 a)⟩⟩

abbrev sKernelSlewLeft : Stmt := metS 105 12
theorem scKernelSlewLeft : FnScope ["self"] ["self"] (defScope sKernelSlewLeft) := ⟨rfl, rfl, rfl, by decide +kernel, rfl, by decide +kernel, by decide +kernel⟩
set_option maxHeartbeats 2000000 in
theorem ok_KernelSlewLeft {cState cSegment cSettings cKernel aPLAIN_CLOCKS : Addr} (D : MAt K cKernel "slew_left" "Kernel.slew_left" sKernelSlewLeft ["self"]) (CPartsLeft : Cal P w K mg base "parts_left" ["state"] 2 (ofD K (sdLeft cSegment cState cSettings))) (T : Txt K mg cState cSegment cSettings cKernel aPLAIN_CLOCKS) : MCal P w K mg base cKernel "slew_left" ["self"] 3 (ofD K (sdCount cKernel cSegment cState cSettings KS.left)) := by
  refine defMX D scKernelSlewLeft (fun ds M Q N E h => (by (obtain ⟨_, _, rfl, _⟩ := h); rfl)) (fun g f cdv Ar outer s H E ds M Q N E2 hr hx h => ?_)
  obtain ⟨k, st, rfl, RK, q⟩ := h
  refine ⟨_, _, dss_one (ds_ret (de_cal CPartsLeft mo_PartsLeft hr (by rfl) (da_cons (de_fld (db 0)) da_nil))), ?_⟩
  obtain ⟨dk, s, hk, R⟩ := RK
  walk_at "dgo"
  refine ⟨_, s, st, rfl, R, ?_⟩
  exact q

def sdBreak (cSegment cState cSettings : Addr) : SpD := fun ds M Q _ _ => ∃ (N : Addr → Prop) (s : Addr) (st : KS), ds = [.ref s] ∧ RepSt cSegment cState cSettings N M s st ∧ Q .non M
theorem mo_BreakTimers {cState : Addr} {cSegment : Addr} {cSettings : Addr} : SpMono (sdBreak cSegment cState cSettings) := ⟨fun ds M Q N E Q' N' E' mh mh1 mh2 mh3 => by
  obtain ⟨N, s, st, rfl, R, q⟩ := mh
  refine ⟨N, s, st, rfl, R, ?_⟩
  first
  | exact mh1 _ _ q
  | exact mh2 _ _ q
  | exact fun a => mh1 _ _ (q a)
  | exact fun a b => mh1 _ _ (q a b)
  | exact fun a b c => mh1 _ _ (q a b c)
  | exact fun a b c d => mh1 _ _ (q a b c d)
  | exact fun a b c d e => mh1 _ _ (q a b c d e)
  | exact fun a b c d e f => mh1 _ _ (q a b c d e f)
  | exact fun a b c d e f g => mh1 _ _ (q a b c d e f g)
  | exact fun a b c d e f g h => mh1 _ _ (q a b c d e f g h)
  | exact fun a => mh2 _ _ (q a)
  | exact fun a b => mh2 _ _ (q a b)
  | exact fun a b c => mh2 _ _ (q a b c)
  | exact fun a b c d => mh2 _ _ (q a b c d)
  | exact fun a b c d e => mh2 _ _ (q a b c d e)
  | exact ⟨fun a => mh1 _ _ (q.1 a), fun a => mh3 _ _ (q.2 a)⟩
  | exact ⟨fun a => mh2 _ _ (q.1 a), fun a => mh3 _ _ (q.2 a)⟩⟩

abbrev sBreakTimers : Stmt := topS 101
theorem scBreakTimers : FnScope ["state", "timer"] ["state"] (defScope sBreakTimers) := ⟨rfl, rfl, rfl, by decide +kernel, rfl, by decide +kernel, by decide +kernel⟩
set_option maxHeartbeats 2000000 in
theorem ok_BreakTimers {cState cSegment cSettings cKernel aPLAIN_CLOCKS : Addr} (D : DefAt K mg "break_timers" sBreakTimers ["state"])  (T : Txt K mg cState cSegment cSettings cKernel aPLAIN_CLOCKS) : Cal P w K mg base "break_timers" ["state"] 1 (ofD K (sdBreak cSegment cState cSettings)) := by
  refine defD D scBreakTimers (fun ds M Q N E h => (by (obtain ⟨_, _, _, rfl, _⟩ := h); rfl)) (fun f cdv Ar outer s H E ds M Q N E2 hr h => ?_)
  obtain ⟨N, s, st, rfl, R, q⟩ := h
  refine ⟨_, _, dss_one (ds_for PassesOwn.never (di_list (dn_de (dn_sortFK (by rfl) (by rfl) T.sorted (by decide +kernel) (de_db (de_fld (db 0)))))) (dg_name 1 scBreakTimers.nd)
        (dss_one ds_never)), ?_⟩
  obtain ⟨⟨z, sl, rl, gs, g, w, RA, n1, n2, n3⟩, nw⟩ := R
  obtain ⟨⟨dS, hs⟩, ⟨dz, hz⟩, hsl, hold, hcur, hrl, hne, ok⟩ := id RA
  walk_at "dgo"
  refine ⟨[], [], rfl, by decide, fun ms hp _ => ?_⟩
  obtain rfl : ms = [] := List.Perm.eq_nil hp
  refine ⟨[], rfl, ?_⟩
  refine for_nil ?_
  exact q
def sdSetRate (cKernel cSegment cState cSettings : Addr) : SpD := fun ds M Q _ _ => ∃ (k : Addr) (st : KS) (n m : Int), ds = [.ref k, .int n, .int m] ∧ RepK cKernel cSegment cState cSettings M k st ∧ st.hal = none ∧ st.cycle ≤ n ∧ st.size < 900000 ∧ 1 ≤ m ∧ m ≤ 18446744073709551615 ∧ ((st.adv n).left = 0 ∨ st.cur.step < m) ∧
  ∀ M', (Fram cSegment (fun a => a = k) M M' ∧ RepK cKernel cSegment cState cSettings M' k (((st.adv n).changeRate m).row (.tup [.str "set_rate", .int n, .int m]))) → Q .non M'
theorem mo_KernelSetRate {cState : Addr} {cSegment : Addr} {cSettings : Addr} {cKernel : Addr} : SpMono (sdSetRate cKernel cSegment cState cSettings) := ⟨fun ds M Q N E Q' N' E' mh mh1 mh2 mh3 => by
  obtain ⟨k, st, n, m, rfl, RK, hh, hn, hl, h0, h1, h2, q⟩ := mh
  refine ⟨k, st, n, m, rfl, RK, hh, hn, hl, h0, h1, h2, ?_⟩
  first
  | exact mh1 _ _ q
  | exact mh2 _ _ q
  | exact fun a => mh1 _ _ (q a)
  | exact fun a b => mh1 _ _ (q a b)
  | exact fun a b c => mh1 _ _ (q a b c)
  | exact fun a b c d => mh1 _ _ (q a b c d)
  | exact fun a b c d e => mh1 _ _ (q a b c d e)
  | exact fun a b c d e f => mh1 _ _ (q a b c d e f)
  | exact fun a b c d e f g => mh1 _ _ (q a b c d e f g)
  | exact fun a b c d e f g h => mh1 _ _ (q a b c d e f g h)
  | exact fun a => mh2 _ _ (q a)
  | exact fun a b => mh2 _ _ (q a b)
  | exact fun a b c => mh2 _ _ (q a b c)
  | exact fun a b c d => mh2 _ _ (q a b c d)
  | exact fun a b c d e => mh2 _ _ (q a b c d e)
  | exact ⟨fun a => mh1 _ _ (q.1 a), fun a => mh3 _ _ (q.2 a)⟩
  | exact ⟨fun a => mh2 _ _ (q.1 a), fun a => mh3 _ _ (q.2 a)⟩⟩

abbrev sKernelSetRate : Stmt := metS 105 9
theorem scKernelSetRate : FnScope ["self", "at", "mult", "state"] ["self", "at", "mult"] (defScope sKernelSetRate) := ⟨rfl, rfl, rfl, by decide +kernel, rfl, by decide +kernel, by decide +kernel⟩
set_option maxHeartbeats 2000000 in
theorem ok_KernelSetRate {cState cSegment cSettings cKernel aPLAIN_CLOCKS : Addr} (D : MAt K cKernel "set_rate" "Kernel.set_rate" sKernelSetRate ["self", "at", "mult"]) (CKernelBegun : MCal P w K mg base cKernel "_begun" ["self", "at"] 5 (ofD K (sdBegun cKernel cSegment cState cSettings))) (CChangeRate : Cal P w K mg base "change_rate" ["state", "mult"] 5 (ofD K (sdChangeRate cSegment cState cSettings))) (CKernelDone : MCal P w K mg base cKernel "_done" ["self", "state", "row"] 5 (ofD K (sdDone cKernel cSegment cState cSettings))) (T : Txt K mg cState cSegment cSettings cKernel aPLAIN_CLOCKS) : MCal P w K mg base cKernel "set_rate" ["self", "at", "mult"] 6 (ofD K (sdSetRate cKernel cSegment cState cSettings)) := by
  refine defMX D scKernelSetRate (fun ds M Q N E h => (by (obtain ⟨_, _, _, _, rfl, _⟩ := h); rfl)) (fun g f cdv Ar outer s H E ds M Q N E2 hr hx h => ?_)
  obtain ⟨k, st, n, m, rfl, RK, hh, hn, hl, h0, h1, h2, q⟩ := h
  refine ⟨_, _, dss_cons (ds_set 3 scKernelSetRate.nd (de_mth (db 0) CKernelBegun mo_KernelBegun hr (takes_of rfl rfl rfl rfl) hx (da_cons (dv 1) da_nil)))
      (dss_cons (ds_expr (de_cal CChangeRate mo_ChangeRate hr (by rfl) (da_cons (dv 3) (da_cons (dv 2) da_nil))))
      (dss_one (ds_expr (de_mth (db 0) CKernelDone mo_KernelDone hr (takes_of rfl rfl rfl rfl) hx (da_cons (dv 3) (da_cons (de_tup (da_cons de_str (da_cons (dv 1) (da_cons (dv 2) da_nil)))) da_nil)))))), ?_⟩
  have RK0 := RK
  obtain ⟨dk, s0, hk, R⟩ := RK
  walk_at "dgo"
  refine ⟨k, st, n, rfl, RK0, hh, hn, fun s M1 ⟨F1, m1, R1⟩ => ?_⟩
  have nk : ¬ newIn M k := fun z => by rw [show M k = none from z] at hk; cases hk
  have sz1 : (st.adv n).old.length < 1000000 := by show st.old.length < _; unfold KS.size at hl; omega
  have sz2 : st.rows.length < 1000000 := by unfold KS.size at hl; omega
  walk_at "dgo"
  refine ⟨_, s, _, m, rfl, R1, sz1, h0, h1, h2, fun M2 ⟨F2, R2⟩ => ?_⟩
  have hk2 := (F1.from F2).ins (fun z => z) hk rfl
  walk_at "dgo"
  refine ⟨newIn M, k, dk, s, _, _, _, rfl, R2, hk2, nk, sz2, fun M3 ⟨F3, hk3, R3⟩ => ?_⟩
  exact q M3 ⟨(F1.from F2).fromK F3, ⟨dk, s, hk3, R3.all⟩⟩
def sdSetReal (cKernel cSegment cState cSettings : Addr) : SpD := fun ds M Q _ _ => ∃ (k : Addr) (st : KS) (n r : Int), ds = [.ref k, .int n, .int r] ∧ RepK cKernel cSegment cState cSettings M k st ∧ st.hal = none ∧ st.cycle ≤ n ∧ st.size < 900000 ∧ Sm r ∧
  ∀ M', (Fram cSegment (fun a => a = k) M M' ∧ RepK cKernel cSegment cState cSettings M' k (((st.adv n).changeReal r).row (.tup [.str "set_real", .int n, .int r]))) → Q .non M'
theorem mo_KernelSetReal {cState : Addr} {cSegment : Addr} {cSettings : Addr} {cKernel : Addr} : SpMono (sdSetReal cKernel cSegment cState cSettings) := ⟨fun ds M Q N E Q' N' E' mh mh1 mh2 mh3 => by
  obtain ⟨k, st, n, r, rfl, RK, hh, hn, hl, h0, q⟩ := mh
  refine ⟨k, st, n, r, rfl, RK, hh, hn, hl, h0, ?_⟩
  first
  | exact mh1 _ _ q
  | exact mh2 _ _ q
  | exact fun a => mh1 _ _ (q a)
  | exact fun a b => mh1 _ _ (q a b)
  | exact fun a b c => mh1 _ _ (q a b c)
  | exact fun a b c d => mh1 _ _ (q a b c d)
  | exact fun a b c d e => mh1 _ _ (q a b c d e)
  | exact fun a b c d e f => mh1 _ _ (q a b c d e f)
  | exact fun a b c d e f g => mh1 _ _ (q a b c d e f g)
  | exact fun a b c d e f g h => mh1 _ _ (q a b c d e f g h)
  | exact fun a => mh2 _ _ (q a)
  | exact fun a b => mh2 _ _ (q a b)
  | exact fun a b c => mh2 _ _ (q a b c)
  | exact fun a b c d => mh2 _ _ (q a b c d)
  | exact fun a b c d e => mh2 _ _ (q a b c d e)
  | exact ⟨fun a => mh1 _ _ (q.1 a), fun a => mh3 _ _ (q.2 a)⟩
  | exact ⟨fun a => mh2 _ _ (q.1 a), fun a => mh3 _ _ (q.2 a)⟩⟩

abbrev sKernelSetReal : Stmt := metS 105 10
theorem scKernelSetReal : FnScope ["self", "at", "reading", "state"] ["self", "at", "reading"] (defScope sKernelSetReal) := ⟨rfl, rfl, rfl, by decide +kernel, rfl, by decide +kernel, by decide +kernel⟩
set_option maxHeartbeats 2000000 in
theorem ok_KernelSetReal {cState cSegment cSettings cKernel aPLAIN_CLOCKS : Addr} (D : MAt K cKernel "set_real" "Kernel.set_real" sKernelSetReal ["self", "at", "reading"]) (CKernelBegun : MCal P w K mg base cKernel "_begun" ["self", "at"] 5 (ofD K (sdBegun cKernel cSegment cState cSettings))) (CCheckReading : Cal P w K mg base "check_reading" ["reading"] 3 (ofD K (sdRdg))) (CBreakTimers : Cal P w K mg base "break_timers" ["state"] 1 (ofD K (sdBreak cSegment cState cSettings))) (CChangeReal : Cal P w K mg base "change_real" ["state", "reading"] 5 (ofD K (sdChangeReal cSegment cState cSettings))) (CKernelDone : MCal P w K mg base cKernel "_done" ["self", "state", "row"] 5 (ofD K (sdDone cKernel cSegment cState cSettings))) (T : Txt K mg cState cSegment cSettings cKernel aPLAIN_CLOCKS) : MCal P w K mg base cKernel "set_real" ["self", "at", "reading"] 6 (ofD K (sdSetReal cKernel cSegment cState cSettings)) := by
  refine defMX D scKernelSetReal (fun ds M Q N E h => (by (obtain ⟨_, _, _, _, rfl, _⟩ := h); rfl)) (fun g f cdv Ar outer s H E ds M Q N E2 hr hx h => ?_)
  obtain ⟨k, st, n, r, rfl, RK, hh, hn, hl, h0, q⟩ := h
  refine ⟨_, _, dss_cons (ds_set 3 scKernelSetReal.nd (de_mth (db 0) CKernelBegun mo_KernelBegun hr (takes_of rfl rfl rfl rfl) hx (da_cons (dv 1) da_nil)))
      (dss_cons (ds_expr (de_cal CCheckReading mo_CheckReading hr (by rfl) (da_cons (dv 2) da_nil)))
      (dss_cons (ds_expr (de_cal CBreakTimers mo_BreakTimers hr (by rfl) (da_cons (dv 3) da_nil)))
      (dss_cons (ds_expr (de_cal CChangeReal mo_ChangeReal hr (by rfl) (da_cons (dv 3) (da_cons (dv 2) da_nil))))
      (dss_one (ds_expr (de_mth (db 0) CKernelDone mo_KernelDone hr (takes_of rfl rfl rfl rfl) hx (da_cons (dv 3) (da_cons (de_tup (da_cons de_str (da_cons (dv 1) (da_cons (dv 2) da_nil)))) da_nil)))))))), ?_⟩
  have RK0 := RK
  obtain ⟨dk, s0, hk, R⟩ := RK
  walk_at "dgo"
  refine ⟨k, st, n, rfl, RK0, hh, hn, fun s M1 ⟨F1, m1, R1⟩ => ?_⟩
  have nk : ¬ newIn M k := fun z => by rw [show M k = none from z] at hk; cases hk
  have sz1 : (st.adv n).old.length < 1000000 := by show st.old.length < _; unfold KS.size at hl; omega
  have sz2 : st.rows.length < 1000000 := by unfold KS.size at hl; omega
  walk_at "dgo"
  refine ⟨_, s, _, rfl, R1, ?_⟩
  walk_at "dgo"
  refine ⟨_, s, _, r, rfl, R1, sz1, h0, fun M2 ⟨F2, R2⟩ => ?_⟩
  have hk2 := (F1.from F2).ins (fun z => z) hk rfl
  walk_at "dgo"
  refine ⟨newIn M, k, dk, s, _, _, _, rfl, R2, hk2, nk, sz2, fun M3 ⟨F3, hk3, R3⟩ => ?_⟩
  exact q M3 ⟨(F1.from F2).fromK F3, ⟨dk, s, hk3, R3.all⟩⟩
def sdSlew (cKernel cSegment cState cSettings : Addr) : SpD := fun ds M Q _ _ => ∃ (k : Addr) (st : KS) (n a p : Int), ds = [.ref k, .int n, .int a, .int p] ∧ RepK cKernel cSegment cState cSettings M k st ∧ st.hal = none ∧ st.cycle ≤ n ∧ st.size < 900000 ∧ Sm a ∧ a ≠ 0 ∧ 1 ≤ p ∧ p < st.cur.mult ∧
  ∀ M', (Fram cSegment (fun a => a = k) M M' ∧ RepK cKernel cSegment cState cSettings M' k (((st.adv n).beginSlew a p).row (.tup [.str "slew", .int n, .int a, .int p]))) → Q .non M'
theorem mo_KernelSlew {cState : Addr} {cSegment : Addr} {cSettings : Addr} {cKernel : Addr} : SpMono (sdSlew cKernel cSegment cState cSettings) := ⟨fun ds M Q N E Q' N' E' mh mh1 mh2 mh3 => by
  obtain ⟨k, st, n, a, p, rfl, RK, hh, hn, hl, h0, h1, h2, h3, q⟩ := mh
  refine ⟨k, st, n, a, p, rfl, RK, hh, hn, hl, h0, h1, h2, h3, ?_⟩
  first
  | exact mh1 _ _ q
  | exact mh2 _ _ q
  | exact fun a => mh1 _ _ (q a)
  | exact fun a b => mh1 _ _ (q a b)
  | exact fun a b c => mh1 _ _ (q a b c)
  | exact fun a b c d => mh1 _ _ (q a b c d)
  | exact fun a b c d e => mh1 _ _ (q a b c d e)
  | exact fun a b c d e f => mh1 _ _ (q a b c d e f)
  | exact fun a b c d e f g => mh1 _ _ (q a b c d e f g)
  | exact fun a b c d e f g h => mh1 _ _ (q a b c d e f g h)
  | exact fun a => mh2 _ _ (q a)
  | exact fun a b => mh2 _ _ (q a b)
  | exact fun a b c => mh2 _ _ (q a b c)
  | exact fun a b c d => mh2 _ _ (q a b c d)
  | exact fun a b c d e => mh2 _ _ (q a b c d e)
  | exact ⟨fun a => mh1 _ _ (q.1 a), fun a => mh3 _ _ (q.2 a)⟩
  | exact ⟨fun a => mh2 _ _ (q.1 a), fun a => mh3 _ _ (q.2 a)⟩⟩

abbrev sKernelSlew : Stmt := metS 105 11
theorem scKernelSlew : FnScope ["self", "at", "amount", "step", "state"] ["self", "at", "amount", "step"] (defScope sKernelSlew) := ⟨rfl, rfl, rfl, by decide +kernel, rfl, by decide +kernel, by decide +kernel⟩
set_option maxHeartbeats 2000000 in
theorem ok_KernelSlew {cState cSegment cSettings cKernel aPLAIN_CLOCKS : Addr} (D : MAt K cKernel "slew" "Kernel.slew" sKernelSlew ["self", "at", "amount", "step"]) (CKernelBegun : MCal P w K mg base cKernel "_begun" ["self", "at"] 5 (ofD K (sdBegun cKernel cSegment cState cSettings))) (CBeginSlew : Cal P w K mg base "begin_slew" ["state", "amount", "step"] 5 (ofD K (sdBeginSlew cSegment cState cSettings))) (CKernelDone : MCal P w K mg base cKernel "_done" ["self", "state", "row"] 5 (ofD K (sdDone cKernel cSegment cState cSettings))) (T : Txt K mg cState cSegment cSettings cKernel aPLAIN_CLOCKS) : MCal P w K mg base cKernel "slew" ["self", "at", "amount", "step"] 6 (ofD K (sdSlew cKernel cSegment cState cSettings)) := by
  refine defMX D scKernelSlew (fun ds M Q N E h => (by (obtain ⟨_, _, _, _, _, rfl, _⟩ := h); rfl)) (fun g f cdv Ar outer s H E ds M Q N E2 hr hx h => ?_)
  obtain ⟨k, st, n, a, p, rfl, RK, hh, hn, hl, h0, h1, h2, h3, q⟩ := h
  refine ⟨_, _, dss_cons (ds_set 4 scKernelSlew.nd (de_mth (db 0) CKernelBegun mo_KernelBegun hr (takes_of rfl rfl rfl rfl) hx (da_cons (dv 1) da_nil)))
      (dss_cons (ds_expr (de_cal CBeginSlew mo_BeginSlew hr (by rfl) (da_cons (dv 4) (da_cons (dv 2) (da_cons (dv 3) da_nil)))))
      (dss_one (ds_expr (de_mth (db 0) CKernelDone mo_KernelDone hr (takes_of rfl rfl rfl rfl) hx (da_cons (dv 4) (da_cons (de_tup (da_cons de_str (da_cons (dv 1) (da_cons (dv 2) (da_cons (dv 3) da_nil))))) da_nil)))))), ?_⟩
  have RK0 := RK
  obtain ⟨dk, s0, hk, R⟩ := RK
  walk_at "dgo"
  refine ⟨k, st, n, rfl, RK0, hh, hn, fun s M1 ⟨F1, m1, R1⟩ => ?_⟩
  have nk : ¬ newIn M k := fun z => by rw [show M k = none from z] at hk; cases hk
  have sz1 : (st.adv n).old.length < 1000000 := by show st.old.length < _; unfold KS.size at hl; omega
  have sz2 : st.rows.length < 1000000 := by unfold KS.size at hl; omega
  walk_at "dgo"
  refine ⟨_, s, _, a, p, rfl, R1, sz1, h0, h1, h2, h3, fun M2 ⟨F2, R2⟩ => ?_⟩
  have hk2 := (F1.from F2).ins (fun z => z) hk rfl
  walk_at "dgo"
  refine ⟨newIn M, k, dk, s, _, _, _, rfl, R2, hk2, nk, sz2, fun M3 ⟨F3, hk3, R3⟩ => ?_⟩
  exact q M3 ⟨(F1.from F2).fromK F3, ⟨dk, s, hk3, R3.all⟩⟩
def sdStop (cKernel cSegment cState cSettings : Addr) : SpD := fun ds M Q _ _ => ∃ (k : Addr) (st : KS) (n r : Int), ds = [.ref k, .int n, .int r] ∧ RepK cKernel cSegment cState cSettings M k st ∧ st.hal = none ∧ st.cycle ≤ n ∧ st.size < 900000 ∧ 0 ≤ r ∧
  ∀ M', (Fram cSegment (fun a => a = k) M M' ∧ RepK cKernel cSegment cState cSettings M' k (((st.adv n).halt r).row (.tup [.str "stop", .int n, .int r]))) → Q .non M'
theorem mo_KernelStop {cState : Addr} {cSegment : Addr} {cSettings : Addr} {cKernel : Addr} : SpMono (sdStop cKernel cSegment cState cSettings) := ⟨fun ds M Q N E Q' N' E' mh mh1 mh2 mh3 => by
  obtain ⟨k, st, n, r, rfl, RK, hh, hn, hl, h0, q⟩ := mh
  refine ⟨k, st, n, r, rfl, RK, hh, hn, hl, h0, ?_⟩
  first
  | exact mh1 _ _ q
  | exact mh2 _ _ q
  | exact fun a => mh1 _ _ (q a)
  | exact fun a b => mh1 _ _ (q a b)
  | exact fun a b c => mh1 _ _ (q a b c)
  | exact fun a b c d => mh1 _ _ (q a b c d)
  | exact fun a b c d e => mh1 _ _ (q a b c d e)
  | exact fun a b c d e f => mh1 _ _ (q a b c d e f)
  | exact fun a b c d e f g => mh1 _ _ (q a b c d e f g)
  | exact fun a b c d e f g h => mh1 _ _ (q a b c d e f g h)
  | exact fun a => mh2 _ _ (q a)
  | exact fun a b => mh2 _ _ (q a b)
  | exact fun a b c => mh2 _ _ (q a b c)
  | exact fun a b c d => mh2 _ _ (q a b c d)
  | exact fun a b c d e => mh2 _ _ (q a b c d e)
  | exact ⟨fun a => mh1 _ _ (q.1 a), fun a => mh3 _ _ (q.2 a)⟩
  | exact ⟨fun a => mh2 _ _ (q.1 a), fun a => mh3 _ _ (q.2 a)⟩⟩

abbrev sKernelStop : Stmt := metS 105 13
theorem scKernelStop : FnScope ["self", "at", "reading", "state"] ["self", "at", "reading"] (defScope sKernelStop) := ⟨rfl, rfl, rfl, by decide +kernel, rfl, by decide +kernel, by decide +kernel⟩
set_option maxHeartbeats 2000000 in
theorem ok_KernelStop {cState cSegment cSettings cKernel aPLAIN_CLOCKS : Addr} (D : MAt K cKernel "stop" "Kernel.stop" sKernelStop ["self", "at", "reading"]) (CKernelBegun : MCal P w K mg base cKernel "_begun" ["self", "at"] 5 (ofD K (sdBegun cKernel cSegment cState cSettings))) (CHalt : Cal P w K mg base "halt" ["state", "reading"] 4 (ofD K (sdHalt cSegment cState cSettings))) (CKernelDone : MCal P w K mg base cKernel "_done" ["self", "state", "row"] 5 (ofD K (sdDone cKernel cSegment cState cSettings))) (T : Txt K mg cState cSegment cSettings cKernel aPLAIN_CLOCKS) : MCal P w K mg base cKernel "stop" ["self", "at", "reading"] 6 (ofD K (sdStop cKernel cSegment cState cSettings)) := by
  refine defMX D scKernelStop (fun ds M Q N E h => (by (obtain ⟨_, _, _, _, rfl, _⟩ := h); rfl)) (fun g f cdv Ar outer s H E ds M Q N E2 hr hx h => ?_)
  obtain ⟨k, st, n, r, rfl, RK, hh, hn, hl, h0, q⟩ := h
  refine ⟨_, _, dss_cons (ds_set 3 scKernelStop.nd (de_mth (db 0) CKernelBegun mo_KernelBegun hr (takes_of rfl rfl rfl rfl) hx (da_cons (dv 1) da_nil)))
      (dss_cons (ds_expr (de_cal CHalt mo_Halt hr (by rfl) (da_cons (dv 3) (da_cons (dv 2) da_nil))))
      (dss_one (ds_expr (de_mth (db 0) CKernelDone mo_KernelDone hr (takes_of rfl rfl rfl rfl) hx (da_cons (dv 3) (da_cons (de_tup (da_cons de_str (da_cons (dv 1) (da_cons (dv 2) da_nil)))) da_nil)))))), ?_⟩
  have RK0 := RK
  obtain ⟨dk, s0, hk, R⟩ := RK
  walk_at "dgo"
  refine ⟨k, st, n, rfl, RK0, hh, hn, fun s M1 ⟨F1, m1, R1⟩ => ?_⟩
  have nk : ¬ newIn M k := fun z => by rw [show M k = none from z] at hk; cases hk
  have sz1 : (st.adv n).old.length < 1000000 := by show st.old.length < _; unfold KS.size at hl; omega
  have sz2 : st.rows.length < 1000000 := by unfold KS.size at hl; omega
  walk_at "dgo"
  refine ⟨_, s, _, r, rfl, R1, h0, fun M2 ⟨F2, R2⟩ => ?_⟩
  have hk2 := (F1.from F2).ins (fun z => z) hk rfl
  walk_at "dgo"
  refine ⟨newIn M, k, dk, s, _, _, _, rfl, R2, hk2, nk, sz2, fun M3 ⟨F3, hk3, R3⟩ => ?_⟩
  exact q M3 ⟨(F1.from F2).fromK F3, ⟨dk, s, hk3, R3.all⟩⟩
def sdGo (cKernel cSegment cState cSettings : Addr) : SpD := fun ds M Q _ _ => ∃ (k : Addr) (st : KS) (h r : Int), ds = [.ref k, .int r] ∧ RepK cKernel cSegment cState cSettings M k st ∧ st.hal = some h ∧ st.size < 900000 ∧ h ≤ r ∧ Sm (r - h) ∧ Sm st.z.u ∧ Sm ((r - h) * st.z.u) ∧
  ∀ M', (Fram cSegment (fun a => a = k) M M' ∧ RepK cKernel cSegment cState cSettings M' k ((st.resume h r).row (.tup [.str "go", .int r]))) → Q .non M'
theorem mo_KernelGo {cState : Addr} {cSegment : Addr} {cSettings : Addr} {cKernel : Addr} : SpMono (sdGo cKernel cSegment cState cSettings) := ⟨fun ds M Q N E Q' N' E' mh mh1 mh2 mh3 => by
  obtain ⟨k, st, h, r, rfl, RK, hh, hl, h0, h1, h2, h3, q⟩ := mh
  refine ⟨k, st, h, r, rfl, RK, hh, hl, h0, h1, h2, h3, ?_⟩
  first
  | exact mh1 _ _ q
  | exact mh2 _ _ q
  | exact fun a => mh1 _ _ (q a)
  | exact fun a b => mh1 _ _ (q a b)
  | exact fun a b c => mh1 _ _ (q a b c)
  | exact fun a b c d => mh1 _ _ (q a b c d)
  | exact fun a b c d e => mh1 _ _ (q a b c d e)
  | exact fun a b c d e f => mh1 _ _ (q a b c d e f)
  | exact fun a b c d e f g => mh1 _ _ (q a b c d e f g)
  | exact fun a b c d e f g h => mh1 _ _ (q a b c d e f g h)
  | exact fun a => mh2 _ _ (q a)
  | exact fun a b => mh2 _ _ (q a b)
  | exact fun a b c => mh2 _ _ (q a b c)
  | exact fun a b c d => mh2 _ _ (q a b c d)
  | exact fun a b c d e => mh2 _ _ (q a b c d e)
  | exact ⟨fun a => mh1 _ _ (q.1 a), fun a => mh3 _ _ (q.2 a)⟩
  | exact ⟨fun a => mh2 _ _ (q.1 a), fun a => mh3 _ _ (q.2 a)⟩⟩

abbrev sKernelGo : Stmt := metS 105 14
theorem scKernelGo : FnScope ["self", "reading", "state"] ["self", "reading"] (defScope sKernelGo) := ⟨rfl, rfl, rfl, by decide +kernel, rfl, by decide +kernel, by decide +kernel⟩
set_option maxHeartbeats 2000000 in
theorem ok_KernelGo {cState cSegment cSettings cKernel aPLAIN_CLOCKS : Addr} (D : MAt K cKernel "go" "Kernel.go" sKernelGo ["self", "reading"]) (CStateCopied : MCal P w K mg base cState "copied" ["self"] 3 (ofD K (sdCopied cSegment cState cSettings))) (CResume : Cal P w K mg base "resume" ["state", "reading"] 5 (ofD K (sdResume cSegment cState cSettings))) (CKernelDone : MCal P w K mg base cKernel "_done" ["self", "state", "row"] 5 (ofD K (sdDone cKernel cSegment cState cSettings))) (T : Txt K mg cState cSegment cSettings cKernel aPLAIN_CLOCKS) : MCal P w K mg base cKernel "go" ["self", "reading"] 6 (ofD K (sdGo cKernel cSegment cState cSettings)) := by
  refine defMX D scKernelGo (fun ds M Q N E h => (by (obtain ⟨_, _, _, _, rfl, _⟩ := h); rfl)) (fun g f cdv Ar outer s H E ds M Q N E2 hr hx h => ?_)
  obtain ⟨k, st, h, r, rfl, RK, hh, hl, h0, h1, h2, h3, q⟩ := h
  refine ⟨_, _, dss_cons (ds_if (dt_cmp o_isN (de_db (de_fld (de_db (de_fld (db 0))))) (de_db de_non) (nomark _))
        (dss_one ds_never)
        dss_nil)
      (dss_cons (ds_set 2 scKernelGo.nd (de_mth0 (de_db (de_fld (db 0))) CStateCopied mo_StateCopied hr (takes_of rfl rfl rfl rfl) hx))
      (dss_cons (ds_expr (de_cal CResume mo_Resume hr (by rfl) (da_cons (dv 2) (da_cons (dv 1) da_nil))))
      (dss_one (ds_expr (de_mth (db 0) CKernelDone mo_KernelDone hr (takes_of rfl rfl rfl rfl) hx (da_cons (dv 2) (da_cons (de_tup (da_cons de_str (da_cons (dv 1) da_nil))) da_nil))))))), ?_⟩
  have RK0 := RK
  obtain ⟨dk, s0, hk, R⟩ := RK
  have R' := R
  obtain ⟨⟨z, sl, rl, gs, g, w, RA, n1, n2, n3⟩, nw⟩ := R'
  obtain ⟨dS, hs⟩ := RA.hs
  rw [hh] at hs
  have nk : ¬ newIn M k := fun z => by rw [show M k = none from z] at hk; cases hk
  have sz1 : st.old.length < 1000000 := by unfold KS.size at hl; omega
  have sz2 : st.rows.length < 1000000 := by unfold KS.size at hl; omega
  walk_at "dgo"
  refine ⟨_, s0, st, rfl, R, fun s M1 ⟨F1, m1, R1⟩ => ?_⟩
  walk_at "dgo"
  refine ⟨_, s, _, h, r, rfl, R1, sz1, hh, h0, h1, h2, h3, fun M2 ⟨F2, R2⟩ => ?_⟩
  have hk2 := (F1.from F2).ins (fun z => z) hk rfl
  walk_at "dgo"
  refine ⟨newIn M, k, dk, s, _, _, _, rfl, R2, hk2, nk, sz2, fun M3 ⟨F3, hk3, R3⟩ => ?_⟩
  exact q M3 ⟨(F1.from F2).fromK F3, ⟨dk, s, hk3, R3.all⟩⟩

/-! ### the law's own clocks -/
structure LS where
  steady : Int
  real : Int
  boot : Int
  mult : Int
  sg : Int
  rest : Int
  gain : Int
  count : Int
  shift : Int
def slD (sg rest gain : Int) : DM.D := .tup [.int sg, .int rest, .int gain]
def lsG (l : LS) : List (Key × DM.D) := [(.inr "steady", .int l.steady), (.inr "real", .int l.real), (.inr "boot", .int l.boot), (.inr "mult", .int l.mult), (.inr "slide", slD l.sg l.rest l.gain), (.inr "count", .int l.count), (.inr "shift", .int l.shift)]
/-- n counts pass -/
def LS.pass (l : LS) (n : Int) : LS := { l with steady := l.steady + n * l.mult, boot := l.boot + n * l.mult, real := l.real + n * l.mult + l.sg * (l.rest - max 0 (l.rest - n * l.gain)), rest := max 0 (l.rest - n * l.gain) }
theorem LS.pass0 (l : LS) (h : 0 ≤ l.rest) : l.pass 0 = l := by
  unfold LS.pass
  have e : max 0 (l.rest - 0 * l.gain) = l.rest := by rw [Int.zero_mul, Int.sub_zero]; omega
  rw [e]
  simp
theorem rest_more {r n g : Int} (hn : 0 ≤ n) (hg : 0 ≤ g) : max 0 (max 0 (r - n * g) - g) = max 0 (r - (n + 1) * g) := by
  rw [Int.add_mul, Int.one_mul]
  omega
theorem min_rest (r g : Int) (hr : 0 ≤ r) (hg : 0 ≤ g) : min r g = r - max 0 (r - g) := by omega
theorem LS.pass_more (l : LS) (n : Int) (h0 : 0 ≤ l.rest) (hn : 0 ≤ n) (hg : 0 ≤ l.gain) :
    { l.pass n with steady := (l.pass n).steady + l.mult, boot := (l.pass n).boot + l.mult, real := (l.pass n).real + l.mult + l.sg * min (l.pass n).rest l.gain, rest := max 0 ((l.pass n).rest - l.gain) } = l.pass (n + 1) := by
  have e1 := rest_more (r := l.rest) hn hg
  have e2 := min_rest (max 0 (l.rest - n * l.gain)) l.gain (by omega) hg
  unfold LS.pass
  simp only [LS.mk.injEq, true_and, and_true]
  refine ⟨by rw [Int.add_mul, Int.one_mul, Int.add_assoc], ?_, by rw [Int.add_mul, Int.one_mul, Int.add_assoc], e1⟩
  have e3 : (n + 1) * l.mult = n * l.mult + l.mult := by rw [Int.add_mul, Int.one_mul]
  rw [e2, e1, Int.mul_sub, Int.mul_sub, Int.mul_sub, e3]
  omega
/-- what the law's clocks show of a kernel -/
structure Inv40 (l : LS) (st : KS) (c : Int) : Prop where
  now : st.now = l.count
  cyc : st.cycle = c
  hal : st.hal = none
  vs : st.cur.value .steady st.now = l.steady
  vr : st.cur.value .real st.now = l.real
  vb : st.cur.value .boot st.now = l.boot
  mu : st.cur.mult = l.mult
  sh : st.cur.shift = l.shift
  lf : st.left = l.sg * l.rest
  sg : l.sg = 1 ∨ l.sg = -1
  r0 : 0 ≤ l.rest
  stp : 0 < l.rest → st.cur.step = l.gain
  g1 : 1 ≤ l.gain
  m1 : 1 ≤ l.mult
  s0 : 0 ≤ l.shift
  s1 : l.shift ≤ 64
  le : st.cur.start ≤ st.now
theorem slewed_left (g : Seg) (c n sg rest : Int) (hc : 0 ≤ c) (hn : 0 ≤ n) (hp : 0 ≤ g.step) (e : g.left - g.slewed c = sg * rest) (hs : sg = 1 ∨ sg = -1) (hr : 0 ≤ rest) : g.left - g.slewed (c + n) = sg * max 0 (rest - n * g.step) := by
  have h1 : 0 ≤ g.step * c := Int.mul_nonneg hp hc
  have h2 : 0 ≤ g.step * n := Int.mul_nonneg hp hn
  have h3 : n * g.step = g.step * n := Int.mul_comm _ _
  unfold Seg.slewed at e ⊢
  rw [Int.mul_add, h3]
  rcases hs with rfl | rfl
  · rw [Int.one_mul] at e ⊢
    split at e <;> rename_i h
    · rw [if_pos h]; omega
    · rw [if_neg h]; omega
  · have e9 : ∀ x : Int, -1 * x = -x := fun x => by omega
    rw [e9] at e ⊢
    split at e <;> rename_i h
    · rw [if_pos h]; omega
    · rw [if_neg h]; omega
theorem slewed_less (g : Seg) (c n sg rest : Int) (hc : 0 ≤ c) (hn : 0 ≤ n) (hp : 0 ≤ g.step) (e : g.left - g.slewed c = sg * rest) (hs : sg = 1 ∨ sg = -1) (hr : 0 ≤ rest) : g.slewed (c + n) = g.slewed c + sg * (rest - max 0 (rest - n * g.step)) := by
  have h := slewed_left g c n sg rest hc hn hp e hs hr
  rw [Int.mul_sub]
  omega
/-- the gain does not matter when nothing is left -/
theorem rest_same {rest n a b : Int} (hr : 0 ≤ rest) (hn : 0 ≤ n) (ha : 0 ≤ a) (hb : 0 ≤ b) (h : 0 < rest → a = b) : max 0 (rest - n * a) = max 0 (rest - n * b) := by
  by_cases e : 0 < rest
  · rw [h e]
  · have e0 : rest = 0 := by omega
    have h1 := Int.mul_nonneg hn ha
    have h2 := Int.mul_nonneg hn hb
    subst e0
    omega
theorem Inv40.adv {l : LS} {st : KS} {c gap : Int} (h : Inv40 l st c) (ok : KSOk st) (hg : 0 ≤ gap) : Inv40 { l.pass (gap % 2 ^ st.z.w.toNat) with count := l.count + gap % 2 ^ st.z.w.toNat } (st.adv (c + gap)) (c + gap) := by
  have hpos : (0 : Int) < 2 ^ st.z.w.toNat := Int.pow_pos (by decide)
  have e0 : st.adv (c + gap) = { st with now := st.now + gap % 2 ^ st.z.w.toNat, cycle := c + gap } := by
    unfold KS.adv
    have e1 : c + gap - st.cycle = gap := by rw [h.cyc]; omega
    rw [e1]
  rw [e0]
  generalize hm : gap % 2 ^ st.z.w.toNat = m
  have m0 : 0 ≤ m := by rw [← hm]; exact Int.emod_nonneg _ (Int.ne_of_gt hpos)
  have hc : 0 ≤ st.now - st.cur.start := by have := h.le; omega
  have hlf : st.cur.left - st.cur.slewed (st.now - st.cur.start) = l.sg * l.rest := h.lf
  have g0 : 0 ≤ l.gain := by have := h.g1; omega
  have er := rest_same h.r0 m0 ok.go.p0 g0 h.stp
  have es : st.now + m - st.cur.start = st.now - st.cur.start + m := by omega
  have em : ∀ x : Int, st.cur.mult * (st.now + m - st.cur.start) = st.cur.mult * (st.now - st.cur.start) + m * l.mult := fun _ => by rw [es, Int.mul_add, h.mu, Int.mul_comm m]
  have hvs := h.vs
  have hvr := h.vr
  have hvb := h.vb
  unfold Seg.value Seg.more at hvs hvr hvb
  simp only at hvs hvr hvb
  refine ⟨by rw [← h.now], rfl, h.hal, ?_, ?_, ?_, h.mu, h.sh, ?_, h.sg, by show 0 ≤ max 0 _; omega, fun hp => ?_, h.g1, h.m1, h.s0, h.s1, ?_⟩
  · unfold Seg.value Seg.more
    simp only
    rw [em 0]
    show _ = l.steady + m * l.mult
    omega
  · unfold Seg.value Seg.more
    simp only
    rw [em 0, es, slewed_less st.cur _ m l.sg l.rest hc m0 ok.go.p0 hlf h.sg h.r0, er]
    show _ = l.real + m * l.mult + l.sg * (l.rest - max 0 (l.rest - m * l.gain))
    omega
  · unfold Seg.value Seg.more
    simp only
    rw [em 0]
    show _ = l.boot + m * l.mult
    omega
  · show st.cur.left - st.cur.slewed (st.now + m - st.cur.start) = l.sg * max 0 (l.rest - m * l.gain)
    rw [es, slewed_left st.cur _ m l.sg l.rest hc m0 ok.go.p0 hlf h.sg h.r0, er]
  · have hp : 0 < max 0 (l.rest - m * l.gain) := hp
    have h1 := Int.mul_nonneg m0 g0
    exact h.stp (by omega)
  · have := h.le
    show st.cur.start ≤ st.now + m
    omega
theorem adv_same {st : KS} {c : Int} (h : st.cycle = c) : st.adv c = st := by
  unfold KS.adv
  rw [h, Int.sub_self, Int.zero_emod, Int.add_zero, ← h]
theorem value_start (g : Seg) (k : Clk) : g.value k g.start = g.worth k := by
  unfold Seg.value Seg.more
  rw [Int.sub_self, Int.mul_zero, Int.add_zero]
  cases k with
  | real => simp only; rw [g.slewed0, Int.add_zero]
  | _ => simp only; rw [Int.add_zero]
theorem left_start (st : KS) (h : st.cur.start = st.now) : st.left = st.cur.left := by
  unfold KS.left
  rw [h, Int.sub_self, Seg.slewed0, Int.sub_zero]
theorem Inv40.row {l : LS} {st : KS} {c : Int} (h : Inv40 l st c) (d : DM.D) : Inv40 l (st.row d) c := ⟨h.now, h.cyc, h.hal, h.vs, h.vr, h.vb, h.mu, h.sh, h.lf, h.sg, h.r0, h.stp, h.g1, h.m1, h.s0, h.s1, h.le⟩
theorem Inv40.rate {l : LS} {st : KS} {c : Int} (h : Inv40 l st c) {m : Int} (m1 : 1 ≤ m) : Inv40 { l with mult := m } (st.changeRate m) c := by
  have hv : ∀ k, (st.changeRate m).cur.value k (st.changeRate m).now = st.cur.value k st.now := fun k => by
    refine (value_start (st.changeRate m).cur k).trans ?_
    cases k <;> rfl
  refine ⟨h.now, h.cyc, h.hal, (hv .steady).trans h.vs, (hv .real).trans h.vr, (hv .boot).trans h.vb, rfl, h.sh, ?_, h.sg, h.r0, h.stp, h.g1, m1, h.s0, h.s1, Int.le_refl _⟩
  rw [left_start _ rfl]
  exact h.lf
theorem Inv40.setReal {l : LS} {st : KS} {c : Int} (h : Inv40 l st c) {r : Int} : Inv40 { l with real := r * 2 ^ l.shift.toNat, sg := 1, rest := 0, gain := 1 } (st.changeReal r) c := by
  have hv : ∀ k, k ≠ .real → (st.changeReal r).cur.value k (st.changeReal r).now = st.cur.value k st.now := fun k hk => by
    refine (value_start (st.changeReal r).cur k).trans ?_
    cases k with
    | real => exact absurd rfl hk
    | _ => rfl
  refine ⟨h.now, h.cyc, h.hal, (hv .steady (fun z => nomatch z)).trans h.vs, ?_, (hv .boot (fun z => nomatch z)).trans h.vb, h.mu, h.sh, ?_, .inl rfl, Int.le_refl _, fun z => absurd z (by show ¬ (0 : Int) < 0; decide), by show (1 : Int) ≤ 1; decide, h.m1, h.s0, h.s1, Int.le_refl _⟩
  · refine (value_start (st.changeReal r).cur .real).trans ?_
    show r * 2 ^ st.cur.shift.toNat = r * 2 ^ l.shift.toNat
    rw [h.sh]
  · rw [left_start _ rfl]
    rfl
theorem Inv40.slew {l : LS} {st : KS} {c : Int} (h : Inv40 l st c) {a p : Int} (p1 : 1 ≤ p) {sg : Int} (hs : (0 < a ∧ sg = 1) ∨ (a < 0 ∧ sg = -1)) : Inv40 { l with sg := sg, rest := (a.natAbs : Int) * 2 ^ l.shift.toNat, gain := p } (st.beginSlew a p) c := by
  have hv : ∀ k, (st.beginSlew a p).cur.value k (st.beginSlew a p).now = st.cur.value k st.now := fun k => by
    refine (value_start (st.beginSlew a p).cur k).trans ?_
    cases k <;> rfl
  have hpos : (0 : Int) < 2 ^ l.shift.toNat := Int.pow_pos (by decide)
  refine ⟨h.now, h.cyc, h.hal, (hv .steady).trans h.vs, (hv .real).trans h.vr, (hv .boot).trans h.vb, h.mu, h.sh, ?_, ?_, Int.mul_nonneg (by omega) (Int.le_of_lt hpos), fun _ => rfl, p1, h.m1, h.s0, h.s1, Int.le_refl _⟩
  · rw [left_start _ rfl]
    show a * 2 ^ st.cur.shift.toNat = sg * ((a.natAbs : Int) * 2 ^ l.shift.toNat)
    rw [h.sh, ← Int.mul_assoc]
    congr 1
    rcases hs with ⟨h1, rfl⟩ | ⟨h1, rfl⟩ <;> omega
  · rcases hs with ⟨_, rfl⟩ | ⟨_, rfl⟩
    · exact .inl rfl
    · exact .inr rfl
theorem Inv40.stopped {l : LS} {st : KS} {c : Int} (h : Inv40 l st c) {a b : Int} {d : DM.D} {x : Int} (hx : x = (b - a) * st.z.u * 2 ^ l.shift.toNat) : Inv40 { l with real := l.real + x, boot := l.boot + x } (((st.halt a).row d).resume a b) c := by
  subst hx
  have hv := value_start (((st.halt a).row d).resume a b).cur
  refine ⟨h.now, h.cyc, rfl, (hv .steady).trans h.vs, (hv .real).trans ?_, (hv .boot).trans ?_, h.mu, h.sh, ?_, h.sg, h.r0, h.stp, h.g1, h.m1, h.s0, h.s1, Int.le_refl _⟩
  · show st.cur.value .real st.now + (b - a) * st.z.u * 2 ^ st.cur.shift.toNat = l.real + (b - a) * st.z.u * 2 ^ l.shift.toNat
    rw [h.vr, h.sh]
  · show st.cur.value .boot st.now + (b - a) * st.z.u * 2 ^ st.cur.shift.toNat = l.boot + (b - a) * st.z.u * 2 ^ l.shift.toNat
    rw [h.vb, h.sh]
  · rw [left_start _ rfl]
    exact h.lf
theorem Inv40.new {t : Sett} (ok : SettOk t) : Inv40 ⟨0, 0, 0, t.m, 1, 0, 1, 0, t.s⟩ (.new t) 0 := by
  have hv := value_start (KS.new t).cur
  refine ⟨rfl, rfl, rfl, hv .steady, hv .real, hv .boot, rfl, rfl, ?_, .inl rfl, Int.le_refl _, fun z => absurd z (by show ¬ (0 : Int) < 0; decide), by show (1 : Int) ≤ 1; decide, ok.m0, ok.s0, ok.s1, Int.le_refl _⟩
  rw [left_start _ rfl]
  rfl

def LS.bump (l : LS) (j : Nat) : LS := { l with steady := if 0 < j then l.steady + l.mult else l.steady, real := if 1 < j then l.real + l.mult else l.real, boot := if 2 < j then l.boot + l.mult else l.boot }
def sdLCounts : SpD := fun ds M Q _ _ => ∃ (p : Addr) (l : LS) (n : Int), ds = [.ref p, .int n] ∧ M p = some (.dg (lsG l)) ∧ 0 ≤ n ∧ n < 100000 ∧ 0 ≤ l.rest ∧ 0 ≤ l.gain ∧ (l.sg = 1 ∨ l.sg = -1) ∧ Q .non (addM M p (.dg (lsG { l.pass n with count := l.count + n })))
theorem mo_LCounts : SpMono (sdLCounts) := ⟨fun ds M Q N E Q' N' E' mh mh1 mh2 mh3 => by
  obtain ⟨p, l, n, rfl, hp, n0, n1, r0, g0, hs, q⟩ := mh
  refine ⟨p, l, n, rfl, hp, n0, n1, r0, g0, hs, ?_⟩
  first
  | exact mh1 _ _ q
  | exact mh2 _ _ q
  | exact fun a => mh1 _ _ (q a)
  | exact fun a b => mh1 _ _ (q a b)
  | exact fun a b c => mh1 _ _ (q a b c)
  | exact fun a b c d => mh1 _ _ (q a b c d)
  | exact fun a b c d e => mh1 _ _ (q a b c d e)
  | exact fun a b c d e f => mh1 _ _ (q a b c d e f)
  | exact fun a b c d e f g => mh1 _ _ (q a b c d e f g)
  | exact fun a b c d e f g h => mh1 _ _ (q a b c d e f g h)
  | exact fun a => mh2 _ _ (q a)
  | exact fun a b => mh2 _ _ (q a b)
  | exact fun a b c => mh2 _ _ (q a b c)
  | exact fun a b c d => mh2 _ _ (q a b c d)
  | exact fun a b c d e => mh2 _ _ (q a b c d e)
  | exact ⟨fun a => mh1 _ _ (q.1 a), fun a => mh3 _ _ (q.2 a)⟩
  | exact ⟨fun a => mh2 _ _ (q.1 a), fun a => mh3 _ _ (q.2 a)⟩⟩

abbrev sLCounts : Stmt := topS 111
theorem scLCounts : FnScope ["state", "many", "time", "name", "sign", "rest", "gain"] ["state", "many"] (defScope sLCounts) := ⟨rfl, rfl, rfl, by decide +kernel, rfl, by decide +kernel, by decide +kernel⟩
set_option maxHeartbeats 2000000 in
theorem ok_LCounts {cState cSegment cSettings cKernel aPLAIN_CLOCKS : Addr} (D : DefAt K mg "_law_counts" sLCounts ["state", "many"])  (T : Txt K mg cState cSegment cSettings cKernel aPLAIN_CLOCKS) : Cal P w K mg base "_law_counts" ["state", "many"] 1 (ofD K (sdLCounts)) := by
  refine defD D scLCounts (fun ds M Q N E h => (by (obtain ⟨_, _, _, rfl, _⟩ := h); rfl)) (fun f cdv Ar outer s H E ds M Q N E2 hr h => ?_)
  obtain ⟨p, l, n, rfl, hp, n0, n1, r0, g0, hs, q⟩ := h
  refine ⟨_, _, dss_cons (ds_for PassesOwn.never (di_rng1 (by rfl) T.range (dv 1)) (dg_name 2 scLCounts.nd)
        (dss_cons (ds_for PassesOwn.never (di_list (dn_de (dn_lst (da_cons de_str (da_cons de_str (da_cons de_str da_nil)))))) (dg_name 3 scLCounts.nd)
          (dss_one (ds_putG (u1 hr) (db 0) (db 3) (de_op o_add (de_db (de_ixG (u1 hr) (db 0) (db 3) (fun _ _ => rfl))) (de_db (de_ixG (u1 hr) (db 0) (de_db de_str) (fun _ _ => rfl)))))))
        (dss_cons (ds_asg (de_ixG (u1 hr) (db 0) (de_db de_str) (fun _ _ => rfl)) (dg_tup (dgs_cons (dg_name 4 scLCounts.nd) (dgs_cons (dg_name 5 scLCounts.nd) (dgs_cons (dg_name 6 scLCounts.nd) dgs_nil)))))
        (dss_cons (ds_putG (u1 hr) (db 0) (de_db de_str) (de_op o_add (de_db (de_ixG (u1 hr) (db 0) (de_db de_str) (fun _ _ => rfl))) (de_db (de_op o_mul (db 4) (de_db (de_call2 (o_min2 rfl) (by rfl) T.min (by decide +kernel) (db 5) (db 6)))))))
        (dss_one (ds_putG (u1 hr) (db 0) (de_db de_str) (de_tup (da_cons (dv 4) (da_cons (de_call2 (o_max2 rfl) (by rfl) T.max (by decide +kernel) (de_db de_int) (de_db (de_op o_sub (db 5) (db 6)))) (da_cons (dv 6) da_nil))))))))))
      (dss_one (ds_putG (u1 hr) (db 0) (de_db de_str) (de_op o_add (de_db (de_ixG (u1 hr) (db 0) (de_db de_str) (fun _ _ => rfl))) (db 1)))), ?_⟩
  have s0 : -18446744073709551616 < l.sg := by omega
  have s1 : l.sg < 18446744073709551616 := by omega
  walk_at "dgo"
  refine ⟨fun i ρ M' => (∃ a b c d e, ρ = [.val (.ref p), .val (.int n), a, b, c, d, e]) ∧ M' = addM M p (.dg (lsG (l.pass i))), ⟨⟨_, _, _, _, _, rfl⟩, ?_⟩, fun i d ρ M' hd hx => ?_, ?_⟩
  · funext b
    by_cases e : b = p
    · rw [e, addM_same, hp, show ((0 : Nat) : Int) = 0 from rfl, l.pass0 r0]
    · rw [addM_ne e]
  · obtain ⟨⟨x1, x2, x3, x4, x5, rfl⟩, rfl⟩ := hx
    walk_at "dgo"
    refine ⟨fun j ρ M' => (∃ a b c d e, ρ = [.val (.ref p), .val (.int n), a, b, c, d, e]) ∧ M' = addM M p (.dg (lsG ((l.pass i).bump j))), ⟨⟨_, _, _, _, _, rfl⟩, rfl⟩, fun j d ρ M' hd hx => ?_, ?_⟩
    · obtain ⟨⟨y1, y2, y3, y4, y5, rfl⟩, rfl⟩ := hx
      match j, hd with
      | 0, hd =>
        cases hd
        walk_at "dgo"
        exact ⟨⟨_, _, _, _, _, rfl⟩, by rw [addM_addM]; rfl⟩
      | 1, hd =>
        cases hd
        walk_at "dgo"
        exact ⟨⟨_, _, _, _, _, rfl⟩, by rw [addM_addM]; rfl⟩
      | 2, hd =>
        cases hd
        walk_at "dgo"
        exact ⟨⟨_, _, _, _, _, rfl⟩, by rw [addM_addM]; rfl⟩
    · rintro ρ M' ⟨⟨y1, y2, y3, y4, y5, rfl⟩, rfl⟩
      walk_at "dgo"
      refine ⟨mulE1 s0 s1, ?_⟩
      walk_at "dgo"
      refine ⟨⟨_, _, _, _, _, rfl⟩, ?_⟩
      have em : ∀ r g : Int, (if g < r then g else r) = min r g := fun r g => by split <;> omega
      have ex : ∀ x : Int, (if x > 0 then x else 0) = max 0 x := fun x => by split <;> omega
      have key := l.pass_more (i : Int) r0 (by omega) g0
      rw [← em, ← ex] at key
      rw [addM_addM, addM_addM]
      have ei : ((i + 1 : Nat) : Int) = (i : Int) + 1 := by omega
      rw [ei, ← key]
      rfl
  · rintro ρ M' ⟨⟨x1, x2, x3, x4, x5, rfl⟩, rfl⟩
    have e : ((n.toNat : Nat) : Int) = n := by omega
    have e' : (((n - 0).toNat : Nat) : Int) = n := by omega
    rw [rng_len]
    walk_at "dgo"
    rw [addM_addM]
    first | rw [e] | rw [e']
    exact q

theorem m_eqD {d e : DM.D} {Q : DM.D → Prop} (h1 : okN 5 d) (h2 : okN 5 e) (q : Q (.bl (eqD d e))) : dEqD d e Q := ⟨5, by decide, h1, h2, q⟩
theorem m_neD {d e : DM.D} {Q : DM.D → Prop} (h1 : okN 5 d) (h2 : okN 5 e) (q : Q (.bl (!eqD d e))) : dNeD d e Q := ⟨5, by decide, h1, h2, q⟩
theorem okN_lst {n : Nat} {ds : List DM.D} (h : okL n ds) : okN (n + 1) (.lst ds) := by unfold okN; exact h
theorem okN_tup {n : Nat} {ds : List DM.D} (h : okL n ds) : okN (n + 1) (.tup ds) := by unfold okN; exact h
theorem okN_int {n : Nat} {i : Int} : okN n (.int i) := by unfold okN; trivial
theorem okN_non {n : Nat} : okN n .non := by unfold okN; trivial
theorem okN_bl {n : Nat} {b : Bool} : okN n (.bl b) := by unfold okN; trivial
theorem okL_nil' {n : Nat} : okL n [] := by unfold okL; trivial
theorem okL_cons {n : Nat} {d : DM.D} {ds : List DM.D} (h : okN n d) (h2 : okL n ds) : okL n (d :: ds) := by unfold okL; exact ⟨h, h2⟩
local macro_rules | `(tactic| walk_at "okn") => `(tactic| first | assumption | exact okN_int | exact okN_non | exact okN_bl | exact okL_nil' | ((refine okN_lst ?h); (case h => walk_at "okn")) | ((refine okN_tup ?h); (case h => walk_at "okn")) | ((refine okL_cons ?h ?h2); (case h => walk_at "okn"); (case h2 => walk_at "okn")))
local macro_rules | `(tactic| walk_at "dgo1") => `(tactic| (refine' m_eqD ?h1 ?h2 ?_; (case h1 => walk_at "okn"); (case h2 => walk_at "okn")))
local macro_rules | `(tactic| walk_at "dgo1") => `(tactic| (refine' m_neD ?h1 ?h2 ?_; (case h1 => walk_at "okn"); (case h2 => walk_at "okn")))

structure Bd40 (l : LS) (B R : Int) : Prop where
  mb : l.mult ≤ B
  gb : l.gain ≤ B
  ra : -R ≤ l.real
  rb : l.real ≤ R
  rs : l.rest ≤ 320
  sh : l.shift ≤ 6
theorem pow6 {s : Int} (h0 : 0 ≤ s) (h1 : s ≤ 6) : (1 : Int) ≤ 2 ^ s.toNat ∧ (2 : Int) ^ s.toNat ≤ 64 := by
  have h : s = 0 ∨ s = 1 ∨ s = 2 ∨ s = 3 ∨ s = 4 ∨ s = 5 ∨ s = 6 := by omega
  rcases h with rfl | rfl | rfl | rfl | rfl | rfl | rfl <;> exact ⟨by decide, by decide⟩
theorem mul_bd {x q a : Int} (h0 : -a ≤ x) (h1 : x ≤ a) (a0 : 0 ≤ a) (q1 : 1 ≤ q) (q2 : q ≤ 64) : -(a * 64) ≤ x * q ∧ x * q ≤ a * 64 := by
  have e1 := Int.mul_le_mul_of_nonneg_right h1 (show 0 ≤ q by omega)
  have e2 := Int.mul_le_mul_of_nonneg_right h0 (show 0 ≤ q by omega)
  have e3 := Int.mul_le_mul_of_nonneg_left q2 a0
  rw [Int.neg_mul] at e2
  omega
theorem sm_of {i : Int} (h0 : -1000000000000 ≤ i) (h1 : i ≤ 1000000000000) : Sm i := ⟨Nat.lt_of_le_of_lt (show i.natAbs ≤ 1000000000000 by omega) (by decide)⟩
theorem KS.size_draft (st : KS) : st.draft.old.length ≤ st.old.length + 1 := by
  unfold KS.draft
  simp only
  split
  · omega
  · rw [List.length_append]; simp
theorem KS.size_row (st : KS) (d : DM.D) : (st.row d).size = st.size + 1 := by
  show st.old.length + (st.rows ++ [d]).length = st.old.length + st.rows.length + 1
  rw [List.length_append]; simp only [List.length_cons, List.length_nil]; omega
theorem KS.size_rate (st : KS) (m : Int) : (st.changeRate m).size ≤ st.size + 1 := by
  have := st.size_draft
  show st.draft.old.length + st.rows.length ≤ st.old.length + st.rows.length + 1
  omega
theorem KS.size_real (st : KS) (m : Int) : (st.changeReal m).size ≤ st.size + 1 := by
  have := st.size_draft
  show st.draft.old.length + st.rows.length ≤ st.old.length + st.rows.length + 1
  omega
theorem KS.size_slew (st : KS) (m n : Int) : (st.beginSlew m n).size ≤ st.size + 1 := by
  have := st.size_draft
  show st.draft.old.length + st.rows.length ≤ st.old.length + st.rows.length + 1
  omega
theorem KS.size_resume (st : KS) (m n : Int) : (st.resume m n).size ≤ st.size + 1 := by
  have := st.size_draft
  show st.draft.old.length + st.rows.length ≤ st.old.length + st.rows.length + 1
  omega
theorem ediv_bd {x q R : Int} (h0 : -R ≤ x) (h1 : x ≤ R) (hR : 0 ≤ R) (hq : 1 ≤ q) : -R ≤ x / q ∧ x / q ≤ R := by
  by_cases h : 0 ≤ x
  · have a := Int.ediv_nonneg h (show 0 ≤ q by omega)
    have b := Int.ediv_le_self q h
    omega
  · have a : x ≤ x / q := (Int.le_ediv_iff_mul_le (by omega)).mpr (by
      have h2 := Int.mul_le_mul_of_nonneg_left hq (show 0 ≤ -x by omega)
      rw [Int.neg_mul, Int.neg_mul] at h2
      omega)
    have b : x / q < 0 := Int.ediv_neg_of_neg_of_pos (by omega) (by omega)
    omega
theorem back_bd {x q t : Int} (hq : 1 ≤ q) (hq2 : q ≤ 64) (t0 : -100 ≤ t) (t1 : t ≤ 100) : x - 6500 ≤ (x / q + t) * q ∧ (x / q + t) * q ≤ x + 6500 := by
  have a := Int.ediv_mul_le x (show q ≠ 0 by omega)
  have b := Int.lt_ediv_add_one_mul_self x (show 0 < q by omega)
  have c := mul_bd (a := 100) t0 t1 (by omega) hq hq2
  rw [Int.add_mul] at b ⊢
  omega
def LS.up (l : LS) (x : Int) (j : Nat) : LS := { l with real := if 0 < j then l.real + x else l.real, boot := if 1 < j then l.boot + x else l.boot }
def sdLDeed (cKernel cSegment cState cSettings : Addr) : SpD := fun ds M Q _ _ => ∃ (src k p : Addr) (st : KS) (l : LS) (c u B R : Int), ds = [.ref src, .ref k, .ref p, .int c, .int u] ∧ M src = some .src ∧ RepK cKernel cSegment cState cSettings M k st ∧ M p = some (.dg (lsG l)) ∧ Inv40 l (st.adv c) c ∧
  st.cycle ≤ c ∧ st.size < 800000 ∧ st.z.u = u ∧ 1 ≤ u ∧ u ≤ 5 ∧ Bd40 l B R ∧ B ≤ 100000 ∧ R ≤ 1000000000 ∧ ∀ l' st' M', (Fram cSegment (fun a => a = k ∨ a = p) M M' ∧ RepK cKernel cSegment cState cSettings M' k st' ∧ M' p = some (.dg (lsG l')) ∧ Inv40 l' st' c ∧
    st'.z = st.z ∧ st'.size ≤ st.size + 4 ∧ Bd40 l' (B + 41) (R + 10000)) → Q (.bl true) M'
theorem mo_LDeed {cState : Addr} {cSegment : Addr} {cSettings : Addr} {cKernel : Addr} : SpMono (sdLDeed cKernel cSegment cState cSettings) := ⟨fun ds M Q N E Q' N' E' mh mh1 mh2 mh3 => by
  obtain ⟨src, k, p, st, l, c, u, B, R, rfl, hsrc, RK, hp, IV, hc, hl, hu, ua, ub, BD, hB, hR, q⟩ := mh
  refine ⟨src, k, p, st, l, c, u, B, R, rfl, hsrc, RK, hp, IV, hc, hl, hu, ua, ub, BD, hB, hR, ?_⟩
  first
  | exact mh1 _ _ q
  | exact mh2 _ _ q
  | exact fun a => mh1 _ _ (q a)
  | exact fun a b => mh1 _ _ (q a b)
  | exact fun a b c => mh1 _ _ (q a b c)
  | exact fun a b c d => mh1 _ _ (q a b c d)
  | exact fun a b c d e => mh1 _ _ (q a b c d e)
  | exact fun a b c d e f => mh1 _ _ (q a b c d e f)
  | exact fun a b c d e f g => mh1 _ _ (q a b c d e f g)
  | exact fun a b c d e f g h => mh1 _ _ (q a b c d e f g h)
  | exact fun a => mh2 _ _ (q a)
  | exact fun a b => mh2 _ _ (q a b)
  | exact fun a b c => mh2 _ _ (q a b c)
  | exact fun a b c d => mh2 _ _ (q a b c d)
  | exact fun a b c d e => mh2 _ _ (q a b c d e)
  | exact ⟨fun a => mh1 _ _ (q.1 a), fun a => mh3 _ _ (q.2 a)⟩
  | exact ⟨fun a => mh2 _ _ (q.1 a), fun a => mh3 _ _ (q.2 a)⟩⟩

abbrev sLDeed : Stmt := topS 112
theorem scLDeed : FnScope ["source", "kernel", "state", "cycle", "unit", "branch", "shift", "fast", "told", "gain", "amount", "early", "late", "name"] ["source", "kernel", "state", "cycle", "unit"] (defScope sLDeed) := ⟨rfl, rfl, rfl, by decide +kernel, rfl, by decide +kernel, by decide +kernel⟩
set_option maxHeartbeats 2000000 in
theorem ok_LDeed {cState cSegment cSettings cKernel aPLAIN_CLOCKS : Addr} (D : DefAt K mg "_law_deed" sLDeed ["source", "kernel", "state", "cycle", "unit"]) (CLNext : Cal P w K mg base "_law_next" ["source", "many"] 2 (ofD K (sdNext))) (CKernelLook : MCal P w K mg base cKernel "look" ["self", "at"] 6 (ofD K (sdLook cKernel cSegment cState cSettings))) (CKernelSetRate : MCal P w K mg base cKernel "set_rate" ["self", "at", "mult"] 6 (ofD K (sdSetRate cKernel cSegment cState cSettings))) (CKernelSetReal : MCal P w K mg base cKernel "set_real" ["self", "at", "reading"] 6 (ofD K (sdSetReal cKernel cSegment cState cSettings))) (CKernelSlew : MCal P w K mg base cKernel "slew" ["self", "at", "amount", "step"] 6 (ofD K (sdSlew cKernel cSegment cState cSettings))) (CKernelStop : MCal P w K mg base cKernel "stop" ["self", "at", "reading"] 6 (ofD K (sdStop cKernel cSegment cState cSettings))) (CKernelGo : MCal P w K mg base cKernel "go" ["self", "reading"] 6 (ofD K (sdGo cKernel cSegment cState cSettings))) (T : Txt K mg cState cSegment cSettings cKernel aPLAIN_CLOCKS) : Cal P w K mg base "_law_deed" ["source", "kernel", "state", "cycle", "unit"] 9 (ofD K (sdLDeed cKernel cSegment cState cSettings)) := by
  refine defD D scLDeed (fun ds M Q N E h => (by (obtain ⟨_, _, _, _, _, _, _, _, _, rfl, _⟩ := h); rfl)) (fun f cdv Ar outer s H E ds M Q N E2 hr h => ?_)
  obtain ⟨src, k, p, st, l, c, u, B, R, rfl, hsrc, RK, hp, IV, hc, hl, hu, ua, ub, BD, hB, hR, q⟩ := h
  refine ⟨_, _, dss_cons (ds_set 5 scLDeed.nd (de_cal CLNext mo_LNext hr (by rfl) (da_cons (dv 0) (da_cons de_int da_nil))))
      (dss_cons (ds_set 6 scLDeed.nd (de_ixG (u1 hr) (db 2) (de_db de_str) (fun _ _ => rfl)))
      (dss_cons (ds_if (dt_cmp o_eqI (db 5) (de_db de_int) (nomark _))
        (dss_cons (ds_set 7 scLDeed.nd (de_op o_add (de_db (de_op o_add (de_db de_int) (de_db (de_cal CLNext mo_LNext hr (by rfl) (da_cons (dv 0) (da_cons de_int da_nil)))))) (de_db (de_ix o_ixL (de_db (dn_de (dn_lst (da_cons de_int (da_cons (de_ix o_ixT (de_db (de_ixG (u1 hr) (db 2) (de_db de_str) (fun _ _ => rfl))) (de_db de_int) (fun _ _ => rfl)) da_nil))))) (de_db (de_callT1 o_int (by rfl) T.int (by decide +kernel) (de_db (de_cmp o_gt (de_db (de_ix o_ixT (de_db (de_ixG (u1 hr) (db 2) (de_db de_str) (fun _ _ => rfl))) (de_db de_int) (fun _ _ => rfl))) (de_db de_int) (nomark _))))) (fun _ _ => rfl)))))
        (dss_cons (ds_putG (u1 hr) (db 2) (de_db de_str) (dv 7))
        (dss_one (ds_ret (de_cmp o_isN (de_db (de_mth (db 1) CKernelSetRate mo_KernelSetRate hr takes_no Esc.no (da_cons (dv 3) (da_cons (dv 7) da_nil)))) (de_db de_non) (nomark _))))))
        dss_nil)
      (dss_cons (ds_if (dt_cmp o_eqI (db 5) (de_db de_int) (nomark _))
        (dss_cons (ds_set 8 scLDeed.nd (de_op o_sub (de_db (de_op o_add (de_db (de_op o_shr (de_db (de_ixG (u1 hr) (db 2) (de_db de_str) (fun _ _ => rfl))) (db 6))) (de_db (de_cal CLNext mo_LNext hr (by rfl) (da_cons (dv 0) (da_cons de_int da_nil)))))) (de_db de_int)))
        (dss_cons (ds_putG (u1 hr) (db 2) (de_db de_str) (de_op o_shl (db 8) (db 6)))
        (dss_cons (ds_putG (u1 hr) (db 2) (de_db de_str) (de_tup (da_cons de_int (da_cons de_int (da_cons de_int da_nil)))))
        (dss_one (ds_ret (de_cmp o_isN (de_db (de_mth (db 1) CKernelSetReal mo_KernelSetReal hr takes_no Esc.no (da_cons (dv 3) (da_cons (dv 8) da_nil)))) (de_db de_non) (nomark _)))))))
        dss_nil)
      (dss_cons (ds_cut (ds_if (dt_w (dw_and (dt_cmp o_lt (db 5) (de_db de_int) (nomark _)) (dw_and1 (dt_cmp o_gt (de_db (de_ixG (u1 hr) (db 2) (de_db de_str) (fun _ _ => rfl))) (de_db de_int) (nomark _)))))
        (dss_cons (ds_set 9 scLDeed.nd (de_op o_add (de_db de_int) (de_db (de_cal CLNext mo_LNext hr (by rfl) (da_cons (dv 0) (da_cons (de_op o_sub (de_db (de_ixG (u1 hr) (db 2) (de_db de_str) (fun _ _ => rfl))) (de_db de_int)) da_nil))))))
        (dss_cons (ds_set 10 scLDeed.nd (de_op o_mul (de_db (de_ix o_ixL (de_db (dn_de (dn_lst (da_cons (de_un o_neg (de_db de_int)) (da_cons de_int da_nil))))) (de_db (de_cal CLNext mo_LNext hr (by rfl) (da_cons (dv 0) (da_cons de_int da_nil)))) (fun _ _ => rfl))) (de_db (de_op o_add (de_db de_int) (de_db (de_cal CLNext mo_LNext hr (by rfl) (da_cons (dv 0) (da_cons de_int da_nil))))))))
        (dss_cons (ds_putG (u1 hr) (db 2) (de_db de_str) (de_tup (da_cons (de_ix o_ixL (de_db (dn_de (dn_lst (da_cons (de_un o_neg (de_db de_int)) (da_cons de_int da_nil))))) (de_db (de_callT1 o_int (by rfl) T.int (by decide +kernel) (de_db (de_cmp o_gt (db 10) (de_db de_int) (nomark _))))) (fun _ _ => rfl)) (da_cons (de_op o_shl (de_db (de_call1 o_abs (by rfl) T.abs (by decide +kernel) (db 10))) (db 6)) (da_cons (dv 9) da_nil)))))
        (dss_one (ds_ret (de_cmp o_isN (de_db (de_mth (db 1) CKernelSlew mo_KernelSlew hr takes_no Esc.no (da_cons (dv 3) (da_cons (dv 10) (da_cons (dv 9) da_nil))))) (de_db de_non) (nomark _)))))))
        dss_nil))
      (dss_cons (ds_if (dt_cmp o_eqI (db 5) (de_db de_int) (nomark _))
        (dss_cons (ds_set 11 scLDeed.nd (de_cal CLNext mo_LNext hr (by rfl) (da_cons (dv 0) (da_cons de_int da_nil))))
        (dss_cons (ds_set 12 scLDeed.nd (de_op o_add (db 11) (de_db (de_cal CLNext mo_LNext hr (by rfl) (da_cons (dv 0) (da_cons de_int da_nil))))))
        (dss_cons (ds_set 8 scLDeed.nd (dn_de (dn_lst (da_cons (de_mth (db 1) CKernelStop mo_KernelStop hr takes_no Esc.no (da_cons (dv 3) (da_cons (dv 11) da_nil))) (da_cons (de_mth (db 1) CKernelGo mo_KernelGo hr takes_no Esc.no (da_cons (dv 12) da_nil)) da_nil)))))
        (dss_cons (ds_for PassesOwn.never (di_list (dn_de (dn_lst (da_cons de_str (da_cons de_str da_nil))))) (dg_name 13 scLDeed.nd)
          (dss_one (ds_putG (u1 hr) (db 2) (db 13) (de_op o_add (de_db (de_ixG (u1 hr) (db 2) (db 13) (fun _ _ => rfl))) (de_db (de_op o_shl (de_db (de_op o_mul (de_db (de_op o_sub (db 12) (db 11))) (db 4))) (db 6)))))))
        (dss_one (ds_ret (de_cmp (o_eqD hr.units) (db 8) (de_db (dn_de (dn_lst (da_cons de_non (da_cons de_non da_nil))))) (nomark _))))))))
        dss_nil)
      (dss_one (ds_ret (de_cmp o_isN (de_db (de_mth (db 1) CKernelLook mo_KernelLook hr takes_no Esc.no (da_cons (dv 3) da_nil))) (de_db de_non) (nomark _))))))))), ?_⟩
  have hh : st.hal = none := IV.hal
  obtain ⟨dk, s, hk, RS⟩ := id RK
  have pk : p ≠ k := fun z => by rw [z, hk] at hp; cases hp
  have sk : src ≠ k := fun z => by rw [z, hk] at hsrc; cases hsrc
  have sp : src ≠ p := fun z => by rw [z, hp] at hsrc; cases hsrc
  have s0 := IV.s0
  have s6 := BD.sh
  obtain ⟨q1, q2⟩ := pow6 s0 s6
  walk_at "dgo"
  intro branch b0 b1
  walk_at "dgo"
  refine ite2 (fun e => ?_) (fun e => ?_)
  · walk_at "dgo"
    intro r r0 r1
    have hw : ∃ w, atI [DM.D.int 0, DM.D.int l.gain] (if decide (l.rest > 0) = true then 1 else 0) = some (.int w) ∧ (0 < l.rest → w = l.gain) ∧ (¬ 0 < l.rest → w = 0) := by
      by_cases h : l.rest > 0
      · rw [if_pos (decide_eq_true h)]; exact ⟨_, rfl, fun _ => rfl, fun z => absurd h z⟩
      · rw [if_neg (fun z => h (of_decide_eq_true z))]; exact ⟨_, rfl, fun z => absurd z h, fun _ => rfl⟩
    obtain ⟨w, hw, w1, w2⟩ := hw
    have g1 := IV.g1
    have w3 : 0 ≤ w ∧ w ≤ l.gain := by
      by_cases h : 0 < l.rest
      · rw [w1 h]; omega
      · rw [w2 h]; omega
    have gb := BD.gb
    walk_at "dgo"
    refine ⟨_, _, _, rfl, rfl, hw, ?_⟩
    walk_at "dgo"
    have hm : (st.adv c).left = 0 ∨ st.cur.step < 1 + r + w := by
      by_cases h : 0 < l.rest
      · have e2 := IV.stp h
        have e3 := w1 h
        have e2 : st.cur.step = l.gain := e2
        exact .inr (by omega)
      · have e2 := IV.r0
        have e3 : l.rest = 0 := by omega
        exact .inl (by rw [IV.lf, e3, Int.mul_zero])
    refine ⟨k, st, c, _, rfl, RK.off hp (.inr (by kernel_rfl)), hh, hc, by omega, by omega, by omega, hm, fun M' ⟨F, RK2⟩ => ?_⟩
    have iv2 := (IV.rate (m := 1 + r + w) (by omega)).row (.tup [.str "set_rate", .int c, .int (1 + r + w)])
    walk_at "dgo"
    refine q _ _ M' ⟨(Fram.put (.inr rfl)).trans (F.mono fun _ h => .inl h), RK2, F.dg pk addM_same, iv2, rfl, ?_, ⟨?_, ?_, ?_, ?_, BD.rs, BD.sh⟩⟩
    · have h1 := KS.size_rate (st.adv c) (1 + r + w)
      rw [KS.size_row]
      have h2 : (st.adv c).size = st.size := rfl
      omega
    · show 1 + r + w ≤ B + 41; omega
    · show l.gain ≤ B + 41; omega
    · have := BD.ra; show -(R + 10000) ≤ l.real; omega
    · have := BD.rb; show l.real ≤ R + 10000; omega
  walk_at "dgo"
  refine ite2 (fun e1 => ?_) (fun e1 => ?_)
  · have s64 : l.shift ≤ 64 := IV.s1
    have ra := BD.ra
    have rb := BD.rb
    obtain ⟨d0, d1⟩ := ediv_bd ra rb (by omega) q1
    walk_at "dgo"
    intro r r0 r1
    obtain ⟨t0, t1⟩ := back_bd (x := l.real) (t := r - 45) q1 q2 (by omega) (by omega)
    have sm : Sm (l.real / 2 ^ l.shift.toNat + r - 45) := sm_of (by omega) (by omega)
    walk_at "dgo"
    rw [addM_addM]
    refine ⟨k, st, c, _, rfl, RK.off hp (.inr (by kernel_rfl)), hh, hc, by omega, sm, fun M' ⟨F, RK2⟩ => ?_⟩
    walk_at "dgo"
    have iv2 := (IV.setReal (r := l.real / 2 ^ l.shift.toNat + r - 45)).row (.tup [.str "set_real", .int c, .int (l.real / 2 ^ l.shift.toNat + r - 45)])
    have eq : l.real / 2 ^ l.shift.toNat + (r - 45) = l.real / 2 ^ l.shift.toNat + r - 45 := by omega
    rw [eq] at t0 t1
    refine q _ _ M' ⟨(Fram.put (.inr rfl)).trans (F.mono fun _ h => .inl h), RK2, F.dg pk addM_same, iv2, rfl, ?_, ⟨?_, ?_, ?_, ?_, ?_, BD.sh⟩⟩
    · have h1 := KS.size_real (st.adv c) (l.real / 2 ^ l.shift.toNat + r - 45)
      rw [KS.size_row]
      have h2 : (st.adv c).size = st.size := rfl
      omega
    · have := BD.mb; show l.mult ≤ B + 41; omega
    · have := IV.m1; have := BD.mb; show 1 ≤ B + 41; omega
    · show -(R + 10000) ≤ (l.real / 2 ^ l.shift.toNat + r - 45) * 2 ^ l.shift.toNat; omega
    · show (l.real / 2 ^ l.shift.toNat + r - 45) * 2 ^ l.shift.toNat ≤ R + 10000; omega
    · show (0 : Int) ≤ 320; decide
  walk_at "dgo"
  refine cutD_ (fun ρ M' => ρ = [.val (.ref src), .val (.ref k), .val (.ref p), .val (.int c), .val (.int u), .val (.int branch), .val (.int l.shift), .un, .un, .un, .un, .un, .un, .un] ∧ M' = M) ?_ ?_
  · walk_at "dgo"
    refine ite2 (fun e2 => ?_) (fun e2 => ?_)
    · walk_at "dgo"
      refine ite2 (fun e3 => ?_) (fun e3 => ?_)
      · have e3 : l.mult > 1 := of_decide_eq_true e3
        have mb := BD.mb
        walk_at "dgo"
        intro g g0 g1
        walk_at "dgo"
        intro s s0 s1
        have hs : ∃ x, atI [DM.D.int (-1), DM.D.int 1] s = some (.int x) ∧ (x = 1 ∨ x = -1) := by
          have h : s = 0 ∨ s = 1 := by omega
          rcases h with rfl | rfl
          · exact ⟨_, rfl, .inr rfl⟩
          · exact ⟨_, rfl, .inl rfl⟩
        obtain ⟨x, hx, hx1⟩ := hs
        refine ⟨_, _, _, rfl, rfl, hx, ?_⟩
        walk_at "dgo"
        intro a a0 a1
        have x0 : -1 ≤ x := by omega
        have x1 : x ≤ 1 := by omega
        walk_at "dgo"
        have hx2 : atI [DM.D.int (-1), DM.D.int 1] (if decide (x * (1 + a) > 0) = true then 1 else 0) = some (.int x) := by
          rcases hx1 with rfl | rfl
          · rw [if_pos (decide_eq_true (by omega))]; rfl
          · rw [if_neg (fun z => absurd (of_decide_eq_true z) (by omega))]; rfl
        refine ⟨_, _, _, rfl, rfl, hx2, ?_⟩
        have hab : (if x * (1 + a) < 0 then -(x * (1 + a)) else x * (1 + a)) = ((x * (1 + a)).natAbs : Int) := by split <;> omega
        have hn : ((x * (1 + a)).natAbs : Int) = 1 + a := by rcases hx1 with rfl | rfl <;> omega
        have sm : Sm (x * (1 + a)) := sm_of (by rcases hx1 with rfl | rfl <;> omega) (by rcases hx1 with rfl | rfl <;> omega)
        have s64 : l.shift ≤ 1000 := Int.le_trans IV.s1 (by decide)
        walk_at "dgo"
        rw [hab, hn]
        refine ⟨k, st, c, _, _, rfl, RK.off hp (.inr (by kernel_rfl)), hh, hc, by omega, sm, ?_, by omega, ?_, fun M' ⟨F, RK2⟩ => ?_⟩
        · rcases hx1 with rfl | rfl <;> omega
        · have := IV.mu
          have e9 : st.cur.mult = l.mult := this
          omega
        walk_at "dgo"
        have iv2 := (IV.slew (a := x * (1 + a)) (p := 1 + g) (by omega) (sg := x) (by rcases hx1 with rfl | rfl; exact .inl ⟨by omega, rfl⟩; exact .inr ⟨by omega, rfl⟩)).row (.tup [.str "slew", .int c, .int (x * (1 + a)), .int (1 + g)])
        rw [hn] at iv2
        have hr := mul_bd (x := 1 + a) (a := 5) (by omega) (by omega) (by omega) q1 q2
        refine q _ _ M' ⟨(Fram.put (.inr rfl)).trans (F.mono fun _ h => .inl h), RK2, F.dg pk addM_same, iv2, rfl, ?_, ⟨?_, ?_, ?_, ?_, ?_, BD.sh⟩⟩
        · have h1 := KS.size_slew (st.adv c) (x * (1 + a)) (1 + g)
          rw [KS.size_row]
          have h2 : (st.adv c).size = st.size := rfl
          omega
        · show l.mult ≤ B + 41; omega
        · show 1 + g ≤ B + 41; omega
        · have := BD.ra; show -(R + 10000) ≤ l.real; omega
        · have := BD.rb; show l.real ≤ R + 10000; omega
        · show (1 + a) * 2 ^ l.shift.toNat ≤ 320; omega
      · walk_at "dgo"
        rfl
    · walk_at "dgo"
      rfl
  · rintro ρ M' ⟨rfl, rfl⟩
    walk_at "dgo"
    refine ite2 (fun e2 => ?_) (fun e2 => ?_)
    · walk_at "dgo"
      intro a a0 a1
      walk_at "dgo"
      intro b' b0' b1'
      walk_at "dgo"
      refine ⟨k, st, c, a, rfl, RK, hh, hc, by omega, a0, fun M1 ⟨F1, RK1⟩ => ?_⟩
      obtain ⟨dk1, s1, hk1, RS1⟩ := id RK1
      have hp1 := F1.dg pk hp
      have s64 : l.shift ≤ 1000 := Int.le_trans IV.s1 (by decide)
      have hbu : 0 ≤ b' * u ∧ b' * u ≤ 35 := by
        have h1 := Int.mul_nonneg b0' (show 0 ≤ u by omega)
        have h2 := Int.mul_le_mul (show b' ≤ 7 by omega) ub (by omega) (by decide)
        omega
      walk_at "dgo"
      refine ⟨k, _, a, a + b', rfl, RK1, rfl, ?_, by omega, sm_of (by omega) (by omega), ?_, ?_, fun M2 ⟨F2, RK2⟩ => ?_⟩
      · rw [KS.size_row]
        show st.size + 1 < 900000
        omega
      · show Sm st.z.u
        rw [hu]
        exact sm_of (by omega) (by omega)
      · show Sm ((a + b' - a) * st.z.u)
        rw [hu, show a + b' - a = b' by omega]
        exact sm_of (by omega) (by omega)
      have hp2 := F2.dg pk hp1
      have smx : Sm ((a + b' - a) * u) := by rw [show a + b' - a = b' by omega]; exact sm_of (by omega) (by omega)
      walk_at "dgo"
      refine ⟨fun j ρ M' => (∃ z, ρ = [.val (.ref src), .val (.ref k), .val (.ref p), .val (.int c), .val (.int u), .val (.int branch), .val (.int l.shift), .un, .val (.lst [.non, .non]), .un, .un, .val (.int a), .val (.int (a + b')), z]) ∧ M' = addM M2 p (.dg (lsG (l.up ((a + b' - a) * u * 2 ^ l.shift.toNat) j))), ⟨⟨_, rfl⟩, ?_⟩, fun j d ρ M' hd hx => ?_, ?_⟩
      · funext b
        by_cases e : b = p
        · rw [e, addM_same, hp2]; rfl
        · rw [addM_ne e]
      · obtain ⟨⟨z, rfl⟩, rfl⟩ := hx
        match j, hd with
        | 0, hd =>
          cases hd
          walk_at "dgo"
          refine ⟨shl400 smx.lt IV.s0 s64, _, IsR.mk rfl, ?_⟩
          walk_at "dgo"
          exact ⟨⟨_, rfl⟩, by rw [addM_addM]; rfl⟩
        | 1, hd =>
          cases hd
          walk_at "dgo"
          refine ⟨shl400 smx.lt IV.s0 s64, _, IsR.mk rfl, ?_⟩
          walk_at "dgo"
          exact ⟨⟨_, rfl⟩, by rw [addM_addM]; rfl⟩
      · rintro ρ M3 ⟨⟨z, rfl⟩, rfl⟩
        refine ⟨_, rfl, ?_⟩
        refine ⟨by decide, ?_⟩
        refine m_eqD (by walk_at "okn") (by walk_at "okn") ?_
        rw [eqD_same (n := 5) (by walk_at "okn")]
        have iv2 := ((IV.stopped (a := a) (b := a + b') (d := .tup [.str "stop", .int c, .int a]) (x := (a + b' - a) * u * 2 ^ l.shift.toNat) (by rw [← hu]; rfl))).row (.tup [.str "go", .int (a + b')])
        have hr := mul_bd (x := (a + b' - a) * u) (a := 35) (by rw [show a + b' - a = b' by omega]; omega) (by rw [show a + b' - a = b' by omega]; omega) (by omega) q1 q2
        refine q _ _ _ ⟨((F1.mono fun _ h => .inl h).trans (F2.mono fun _ h => .inl h)).trans (.put (.inr rfl)), RK2.off hp2 (.inr (by kernel_rfl)), addM_same, iv2, rfl, ?_, ⟨?_, ?_, ?_, ?_, BD.rs, BD.sh⟩⟩
        · have h1 := KS.size_resume (((st.adv c).halt a).row (.tup [.str "stop", .int c, .int a])) a (a + b')
          rw [KS.size_row]
          rw [KS.size_row] at h1
          have h2 : ((st.adv c).halt a).size = st.size := rfl
          omega
        · have := BD.mb; show l.mult ≤ B + 41; omega
        · have := BD.gb; show l.gain ≤ B + 41; omega
        · have := BD.ra; show -(R + 10000) ≤ l.real + (a + b' - a) * u * 2 ^ l.shift.toNat; omega
        · have := BD.rb; show l.real + (a + b' - a) * u * 2 ^ l.shift.toNat ≤ R + 10000; omega
    · walk_at "dgo"
      refine ⟨k, st, c, rfl, RK, hh, hc, by omega, fun M2 ⟨F, RK2⟩ => ?_⟩
      walk_at "dgo"
      refine q _ _ M2 ⟨F.mono fun _ h => .inl h, RK2, F.dg pk hp, IV.row _, rfl, ?_, ⟨?_, ?_, ?_, ?_, BD.rs, BD.sh⟩⟩
      · rw [KS.size_row]
        have h2 : (st.adv c).size = st.size := rfl
        omega
      · have := BD.mb; omega
      · have := BD.gb; omega
      · have := BD.ra; omega
      · have := BD.rb; omega

def LS.clk (l : LS) : Clk → Int
  | .steady => l.steady
  | .real => l.real
  | .boot => l.boot
theorem Inv40.same {l : LS} {st : KS} {c : Int} (h : Inv40 l st c) (d : DM.D) : Inv40 l ((st.adv c).row d) c := by
  rw [adv_same h.cyc]
  exact h.row d
def sdLStands (cKernel cSegment cState cSettings : Addr) : SpD := fun ds M Q _ _ => ∃ (k p : Addr) (st : KS) (l : LS) (c : Int), ds = [.ref k, .ref p, .int c] ∧ RepK cKernel cSegment cState cSettings M k st ∧ M p = some (.dg (lsG l)) ∧ Inv40 l st c ∧ st.size < 800000 ∧
  ∀ st' M', (Fram cSegment (fun a => a = k) M M' ∧ RepK cKernel cSegment cState cSettings M' k st' ∧ Inv40 l st' c ∧ st'.z = st.z ∧ st'.size ≤ st.size + 3) → Q (.bl true) M'
theorem mo_LStands {cState : Addr} {cSegment : Addr} {cSettings : Addr} {cKernel : Addr} : SpMono (sdLStands cKernel cSegment cState cSettings) := ⟨fun ds M Q N E Q' N' E' mh mh1 mh2 mh3 => by
  obtain ⟨k, p, st, l, c, rfl, RK, hp, IV, hl, q⟩ := mh
  refine ⟨k, p, st, l, c, rfl, RK, hp, IV, hl, ?_⟩
  first
  | exact mh1 _ _ q
  | exact mh2 _ _ q
  | exact fun a => mh1 _ _ (q a)
  | exact fun a b => mh1 _ _ (q a b)
  | exact fun a b c => mh1 _ _ (q a b c)
  | exact fun a b c d => mh1 _ _ (q a b c d)
  | exact fun a b c d e => mh1 _ _ (q a b c d e)
  | exact fun a b c d e f => mh1 _ _ (q a b c d e f)
  | exact fun a b c d e f g => mh1 _ _ (q a b c d e f g)
  | exact fun a b c d e f g h => mh1 _ _ (q a b c d e f g h)
  | exact fun a => mh2 _ _ (q a)
  | exact fun a b => mh2 _ _ (q a b)
  | exact fun a b c => mh2 _ _ (q a b c)
  | exact fun a b c d => mh2 _ _ (q a b c d)
  | exact fun a b c d e => mh2 _ _ (q a b c d e)
  | exact ⟨fun a => mh1 _ _ (q.1 a), fun a => mh3 _ _ (q.2 a)⟩
  | exact ⟨fun a => mh2 _ _ (q.1 a), fun a => mh3 _ _ (q.2 a)⟩⟩

abbrev sLStands : Stmt := topS 113
theorem scLStands : FnScope ["kernel", "state", "cycle", "name", "sign", "rest", "gain"] ["kernel", "state", "cycle"] (defScope sLStands) := ⟨rfl, rfl, rfl, by decide +kernel, rfl, by decide +kernel, by decide +kernel⟩
set_option maxHeartbeats 2000000 in
theorem ok_LStands {cState cSegment cSettings cKernel aPLAIN_CLOCKS : Addr} (D : DefAt K mg "_law_stands" sLStands ["kernel", "state", "cycle"]) (CKernelSlewLeft : MCal P w K mg base cKernel "slew_left" ["self"] 3 (ofD K (sdCount cKernel cSegment cState cSettings KS.left))) (CKernelRead : MCal P w K mg base cKernel "read" ["self", "at", "clock"] 6 (ofD K (sdRead cKernel cSegment cState cSettings))) (CKernelCount : MCal P w K mg base cKernel "count" ["self"] 1 (ofD K (sdCount cKernel cSegment cState cSettings fun st => st.now))) (CKernelMissed : MCal P w K mg base cKernel "missed" ["self"] 1 (ofD K (sdCount cKernel cSegment cState cSettings fun st => st.cycle - st.now))) (CKernelLast : MCal P w K mg base cKernel "last" ["self"] 1 (ofD K (sdCount cKernel cSegment cState cSettings fun st => st.cycle))) (T : Txt K mg cState cSegment cSettings cKernel aPLAIN_CLOCKS) : Cal P w K mg base "_law_stands" ["kernel", "state", "cycle"] 9 (ofD K (sdLStands cKernel cSegment cState cSettings)) := by
  refine defD D scLStands (fun ds M Q N E h => (by (obtain ⟨_, _, _, _, _, rfl, _⟩ := h); rfl)) (fun f cdv Ar outer s H E ds M Q N E2 hr h => ?_)
  obtain ⟨k, p, st, l, c, rfl, RK, hp, IV, hl, q⟩ := h
  refine ⟨_, _, dss_cons (ds_for PassesOwn.never (di_list (dn_de (dn_lst (da_cons de_str (da_cons de_str (da_cons de_str da_nil)))))) (dg_name 3 scLStands.nd)
        (dss_one (ds_if (dt_cmp o_neI (de_db (de_mth (db 0) CKernelRead mo_KernelRead hr takes_no Esc.no (da_cons (dv 2) (da_cons (dv 3) da_nil)))) (de_db (de_op o_shr (de_db (de_ixG (u1 hr) (db 1) (db 3) (fun _ _ => rfl))) (de_db (de_ixG (u1 hr) (db 1) (de_db de_str) (fun _ _ => rfl))))) (nomark _))
          (dss_one (ds_ret de_bl))
          dss_nil)))
      (dss_cons (ds_asg (de_ixG (u1 hr) (db 1) (de_db de_str) (fun _ _ => rfl)) (dg_tup (dgs_cons (dg_name 4 scLStands.nd) (dgs_cons (dg_name 5 scLStands.nd) (dgs_cons (dg_name 6 scLStands.nd) dgs_nil)))))
      (dss_cons (ds_if (dt_w (dw_or (dt_cmp o_neI (de_db (de_mth0 (db 0) CKernelCount mo_KernelCount hr takes_no Esc.no)) (de_db (de_ixG (u1 hr) (db 1) (de_db de_str) (fun _ _ => rfl))) (nomark _)) (dw_or (dt_cmp o_neI (de_db (de_mth0 (db 0) CKernelMissed mo_KernelMissed hr takes_no Esc.no)) (de_db (de_op o_sub (db 2) (de_db (de_ixG (u1 hr) (db 1) (de_db de_str) (fun _ _ => rfl))))) (nomark _)) (dw_or1 (dt_cmp o_neI (de_db (de_mth0 (db 0) CKernelLast mo_KernelLast hr takes_no Esc.no)) (db 2) (nomark _))))))
        (dss_one (ds_ret de_bl))
        dss_nil)
      (dss_one (ds_ret (de_cmp o_eqI (de_db (de_mth0 (db 0) CKernelSlewLeft mo_KernelSlewLeft hr takes_no Esc.no)) (de_db (de_op o_mul (db 4) (db 5))) (nomark _)))))), ?_⟩
  obtain ⟨dk, s, hk, RS⟩ := id RK
  have pk : p ≠ k := fun z => by rw [z, hk] at hp; cases hp
  have s0 := IV.s0
  walk_at "dgo"
  refine ⟨fun j ρ M' => ∃ x y z v st', ρ = [.val (.ref k), .val (.ref p), .val (.int c), x, y, z, v] ∧ Fram cSegment (fun a => a = k) M M' ∧ RepK cKernel cSegment cState cSettings M' k st' ∧ Inv40 l st' c ∧ st'.z = st.z ∧ st'.size ≤ st.size + j, ⟨_, _, _, _, st, rfl, .refl, RK, IV, rfl, Nat.le_refl _⟩, fun j d ρ M' hd hx => ?_, ?_⟩
  · obtain ⟨x, y, z, v, st', rfl, F1, RK1, IV1, ez, sz⟩ := hx
    obtain ⟨dk1, s1, hk1, RS1⟩ := id RK1
    have hp1 := F1.dg pk hp
    have hd' : ∃ cl : Clk, d = .str cl.str ∧ j < 3 ∧ getG (lsG l) (.inr cl.str) = some (.int (l.clk cl)) := by
      match j, hd with
      | 0, hd => cases hd; exact ⟨.steady, rfl, by omega, rfl⟩
      | 1, hd => cases hd; exact ⟨.real, rfl, by omega, rfl⟩
      | 2, hd => cases hd; exact ⟨.boot, rfl, by omega, rfl⟩
    obtain ⟨cl, rfl, hj, hg⟩ := hd'
    walk_at "dgo"
    refine ⟨k, st', c, cl, rfl, RK1, IV1.hal, by rw [IV1.cyc]; exact Int.le_refl _, by omega, fun M2 ⟨F2, RK2⟩ => ?_⟩
    have hp2 := F2.dg pk hp1
    walk_at "dgo"
    have hv : (st'.adv c).reading cl = l.clk cl / 2 ^ l.shift.toNat := by
      rw [adv_same IV1.cyc]
      unfold KS.reading Seg.reading
      rw [IV1.sh]
      cases cl
      · rw [IV1.vs]; rfl
      · rw [IV1.vr]; rfl
      · rw [IV1.vb]; rfl
    refine ite2 (fun e => ?_) (fun e => ?_)
    · exfalso
      rw [hv] at e
      simp at e
    · walk_at "dgo"
      refine ⟨_, _, _, _, _, rfl, F1.trans F2, RK2, IV1.same _, ez, ?_⟩
      have h2 : (st'.adv c).size = st'.size := rfl
      rw [KS.size_row]
      omega
  · rintro ρ M' ⟨x, y, z, v, st', rfl, F1, RK1, IV1, ez, sz⟩
    obtain ⟨dk1, s1, hk1, RS1⟩ := id RK1
    have hp1 := F1.dg pk hp
    walk_at "dgo"
    refine ⟨k, st', rfl, RK1, ?_⟩
    walk_at "dgo"
    refine ite2 (fun e => ?_) (fun e => ?_)
    · exfalso; simp [IV1.now] at e
    walk_at "dgo"
    refine ⟨k, st', rfl, RK1, ?_⟩
    walk_at "dgo"
    refine ite2 (fun e => ?_) (fun e => ?_)
    · exfalso; simp [IV1.now, IV1.cyc] at e
    walk_at "dgo"
    refine ⟨k, st', rfl, RK1, ?_⟩
    walk_at "dgo"
    refine ite2 (fun e => ?_) (fun e => ?_)
    · exfalso; simp [IV1.cyc] at e
    walk_at "dgo"
    refine ⟨k, st', rfl, RK1, ?_⟩
    have sg0 : -1 ≤ l.sg ∧ l.sg ≤ 1 := by have := IV1.sg; omega
    obtain ⟨sg0, sg1⟩ := sg0
    walk_at "dgo"
    have e4 : decide (st'.left = l.sg * l.rest) = true := decide_eq_true IV1.lf
    show Q (.bl (decide (st'.left = l.sg * l.rest))) M'
    rw [e4]
    exact q _ _ ⟨F1, RK1, IV1, ez, sz⟩

def spLaw : SpD := fun ds M Q _ _ => ∃ (ns : List Int), ds = [.kl (ns.map .int)] ∧ ns.length ≤ 63 ∧ ∀ M', Q (.bl true) M'
/-- a turn begins -/
structure Turn40 (cK cG cS cZ : Addr) (M : Mm) (src k p : Addr) (t : Sett) (c : Int) (i : Nat) : Prop where
  ex : ∃ st l, M src = some .src ∧ RepK cK cG cS cZ M k st ∧ M p = some (.dg (lsG l)) ∧ Inv40 l st c ∧ st.z = t ∧ st.size ≤ 10 * i ∧ Bd40 l (60 + 41 * i) (2000000 * i) ∧ SettOk t ∧ t.w ≤ 8 ∧ t.u ≤ 5 ∧ 0 ≤ c
theorem pow8 {s : Int} (h0 : 1 ≤ s) (h1 : s ≤ 8) : (1 : Int) ≤ 2 ^ s.toNat ∧ (2 : Int) ^ s.toNat ≤ 256 := by
  have h : s = 1 ∨ s = 2 ∨ s = 3 ∨ s = 4 ∨ s = 5 ∨ s = 6 ∨ s = 7 ∨ s = 8 := by omega
  rcases h with rfl | rfl | rfl | rfl | rfl | rfl | rfl | rfl <;> exact ⟨by decide, by decide⟩
theorem mo_Law : SpMono (spLaw) := ⟨fun ds M Q N E Q' N' E' mh mh1 mh2 mh3 => by
  obtain ⟨ns, rfl, hl, q⟩ := mh
  refine ⟨ns, rfl, hl, ?_⟩
  first
  | exact mh1 _ _ q
  | exact mh2 _ _ q
  | exact fun a => mh1 _ _ (q a)
  | exact fun a b => mh1 _ _ (q a b)
  | exact fun a b c => mh1 _ _ (q a b c)
  | exact fun a b c d => mh1 _ _ (q a b c d)
  | exact fun a b c d e => mh1 _ _ (q a b c d e)
  | exact fun a b c d e f => mh1 _ _ (q a b c d e f)
  | exact fun a b c d e f g => mh1 _ _ (q a b c d e f g)
  | exact fun a b c d e f g h => mh1 _ _ (q a b c d e f g h)
  | exact fun a => mh2 _ _ (q a)
  | exact fun a b => mh2 _ _ (q a b)
  | exact fun a b c => mh2 _ _ (q a b c)
  | exact fun a b c d => mh2 _ _ (q a b c d)
  | exact fun a b c d e => mh2 _ _ (q a b c d e)
  | exact ⟨fun a => mh1 _ _ (q.1 a), fun a => mh3 _ _ (q.2 a)⟩
  | exact ⟨fun a => mh2 _ _ (q.1 a), fun a => mh3 _ _ (q.2 a)⟩⟩

abbrev sLaw : Stmt := topS 114
theorem scLaw : FnScope ["script", "k", "source", "size", "shift", "unit", "fast", "kernel", "state", "cycle", "turn", "gap"] ["script"] (defScope sLaw) := ⟨rfl, rfl, rfl, by decide +kernel, rfl, by decide +kernel, by decide +kernel⟩
set_option maxHeartbeats 2000000 in
theorem ok_Law {cState cSegment cSettings cKernel aPLAIN_CLOCKS : Addr} (D : DefAt K mg "law" sLaw ["script"]) (CLSource : Cal P w K mg base "_law_source" ["script", "k"] 2 (ofD K (sdSource))) (CKernelInit : MakKCal P w K mg base "Kernel" cKernel ["self", "width", "rate", "processors", "tick", "base", "levels", "coarse"] 6 (ofD K (sdNew cKernel cSegment cState cSettings))) (CLNext : Cal P w K mg base "_law_next" ["source", "many"] 2 (ofD K (sdNext))) (CLCounts : Cal P w K mg base "_law_counts" ["state", "many"] 1 (ofD K (sdLCounts))) (CLDeed : Cal P w K mg base "_law_deed" ["source", "kernel", "state", "cycle", "unit"] 9 (ofD K (sdLDeed cKernel cSegment cState cSettings))) (CLStands : Cal P w K mg base "_law_stands" ["kernel", "state", "cycle"] 9 (ofD K (sdLStands cKernel cSegment cState cSettings))) (KSKernel_coarse : KSh K cKernel ["self", "width", "rate", "processors", "tick", "base", "levels", "coarse"] 2 ["coarse"] [0, 1, 2, 3, 4, 5, 6, 7] [.num 1, .num 1, .num 2, .none]) (T : Txt K mg cState cSegment cSettings cKernel aPLAIN_CLOCKS) : Cal P w K mg base "law" ["script"] 10 (ofD K (spLaw)) := by
  refine defD D scLaw (fun ds M Q N E h => (by (obtain ⟨_, rfl, _⟩ := h); rfl)) (fun f cdv Ar outer s H E ds M Q N E2 hr h => ?_)
  obtain ⟨ns, rfl, hl, q⟩ := h
  refine ⟨_, _, dss_cons (ds_for PassesOwn.never (di_rng1 (by rfl) T.range (de_call2 (o_max2 rfl) (by rfl) T.max (by decide +kernel) (de_db de_int) (de_db (de_call2 (o_min2 rfl) (by rfl) T.min (by decide +kernel) (de_db de_int) (de_db (de_call1 o_len (by rfl) T.len PySem.boot_len (db 0))))))) (dg_name 1 scLaw.nd)
        (dss_cons (ds_set 2 scLaw.nd (de_cal CLSource mo_LSource hr (by rfl) (da_cons (dv 0) (da_cons (dv 1) da_nil))))
        (dss_cons (ds_par3 3 4 5 scLaw.nd (da_cons (de_op o_add (de_db de_int) (de_db (de_cal CLNext mo_LNext hr (by rfl) (da_cons (dv 2) (da_cons de_int da_nil))))) (da_cons (de_cal CLNext mo_LNext hr (by rfl) (da_cons (dv 2) (da_cons de_int da_nil))) (da_cons (de_op o_add (de_db de_int) (de_db (de_cal CLNext mo_LNext hr (by rfl) (da_cons (dv 2) (da_cons de_int da_nil))))) da_nil))))
        (dss_cons (ds_set 6 scLaw.nd (de_op o_add (de_db de_int) (de_db (de_cal CLNext mo_LNext hr (by rfl) (da_cons (dv 2) (da_cons de_int da_nil))))))
        (dss_cons (ds_set 7 scLaw.nd (de_makK CKernelInit mo_KernelInit KSKernel_coarse hr (by rfl) takes_no Esc.no (da_cons (dv 3) (da_cons (de_tup (da_cons (dv 6) (da_cons (dv 4) da_nil))) da_nil)) (dk_cons (dv 5) dk_nil)))
        (dss_cons (ds_set 8 scLaw.nd (de_dispA (dps_cons de_str de_int (dps_cons de_str de_int (dps_cons de_str de_int (dps_cons de_str (dv 6) (dps_cons de_str (de_tup (da_cons de_int (da_cons de_int (da_cons de_int da_nil)))) (dps_cons de_str de_int (dps_cons de_str (dv 4) dps_nil)))))))))
        (dss_cons (ds_set 9 scLaw.nd de_int)
        (dss_one (ds_for PassesOwn.never (di_rng1 (by rfl) T.range (de_op o_add (de_db de_int) (de_db (de_cal CLNext mo_LNext hr (by rfl) (da_cons (dv 2) (da_cons de_int da_nil)))))) (dg_name 10 scLaw.nd)
          (dss_cons (ds_set 11 scLaw.nd (de_ix o_ixL (de_db (dn_de (dn_lst (da_cons de_int (da_cons de_int (da_cons (de_cal CLNext mo_LNext hr (by rfl) (da_cons (dv 2) (da_cons de_int da_nil))) (da_cons (de_cal CLNext mo_LNext hr (by rfl) (da_cons (dv 2) (da_cons (de_op o_shl (de_db de_int) (db 3)) da_nil))) da_nil))))))) (de_db (de_cal CLNext mo_LNext hr (by rfl) (da_cons (dv 2) (da_cons de_int da_nil)))) (fun _ _ => rfl)))
          (dss_cons (ds_set 9 scLaw.nd (de_op o_add (db 9) (db 11)))
          (dss_cons (ds_expr (de_cal CLCounts mo_LCounts hr (by rfl) (da_cons (dv 8) (da_cons (de_op o_mod (de_db (de_callT1 o_int (by rfl) T.int (by decide +kernel) (db 11))) (de_db (de_op o_shl (de_db de_int) (db 3)))) da_nil))))
          (dss_one (ds_if (dt_w (dw_or (dt_not (dt_val (de_cal CLDeed mo_LDeed hr (by rfl) (da_cons (dv 2) (da_cons (dv 7) (da_cons (dv 8) (da_cons (dv 9) (da_cons (dv 5) da_nil)))))))) (dw_or1 (dt_not (dt_val (de_cal CLStands mo_LStands hr (by rfl) (da_cons (dv 7) (da_cons (dv 8) (da_cons (dv 9) da_nil)))))))))
            (dss_one (ds_ret de_bl))
            dss_nil))))))))))))))
      (dss_one (ds_ret de_bl)), ?_⟩
  walk_at "dgo"
  refine ⟨fun i ρ M' => ∃ y1 y2 y3 y4 y5 y6 y7 y8 y9 y10 y11, ρ = [.val (.kl (ns.map .int)), y1, y2, y3, y4, y5, y6, y7, y8, y9, y10, y11], ⟨_, _, _, _, _, _, _, _, _, _, _, rfl⟩, ?_, ?_⟩
  · rintro i d ρ M' hd ⟨y1, y2, y3, y4, y5, y6, y7, y8, y9, y10, y11, rfl⟩
    obtain ⟨hi, rfl⟩ := rng_get hd
    obtain ⟨i0, hi0⟩ : ∃ i0, i0 = i := ⟨_, rfl⟩
    subst hi0
    walk_at "dgo"
    intro a
    generalize hM : addM M' a .src = M2
    have ma : M2 a = some .src := by rw [← hM]; exact addM_same
    walk_at "dgo"
    intro w w0 w1
    walk_at "dgo"
    intro s s0 s1
    walk_at "dgo"
    intro u u0 u1'
    walk_at "dgo"
    intro m m0 m1
    walk_at "dgo"
    intro k dk hk hdk
    have ak : a ≠ k := ne_some' ma hk
    have tok : SettOk ⟨2 + w, 1 + m, s, 1, 1, 2, [("queue" : Str)], 1 + u⟩ := ⟨by show 1 ≤ 2 + w; omega, by show 2 + w ≤ 64; omega, by show 1 ≤ 1 + m; omega, by show 1 + m ≤ _; omega, s0, by show s ≤ 64; omega, by show 1 ≤ 1; decide, by show 1 ≤ 8; decide, by show (1 : Int) ≤ 1; decide, by show (2 : Int) ≤ 2; decide, by show (2 : Int) ≤ 64; decide, by show 1 ≤ 1 + u; omega⟩
    refine ⟨k, dk, ⟨2 + w, 1 + m, s, 1, 1, 2, [("queue" : Str)], 1 + u⟩, rfl, addM_same, rfl, tok, fun M3 ⟨F3, RK⟩ => ?_⟩
    have ma3 := F3.src ak ((addM_ne ak).trans ma)
    refine ⟨rfl, ?_⟩
    obtain ⟨dk3, s3, hk3, RS3⟩ := id RK
    walk_at "dgo"
    intro p hp
    refine ⟨_, rfl, ?_⟩
    refine ⟨Nat.le_of_ble_eq_true rfl, ?_⟩
    refine ⟨_, rfl, ?_⟩
    refine ⟨_, rfl, by show 7 ≤ 15; decide, addM_same, ?_⟩
    rw [addM_addM]
    have ek : ∀ es, es = lsG ⟨0, 0, 0, 1 + m, 1, 0, 1, 0, s⟩ → Turn40 cKernel cSegment cState cSettings (addM M3 p (.dg es)) a k p ⟨2 + w, 1 + m, s, 1, 1, 2, [("queue" : Str)], 1 + u⟩ 0 0 := fun es e => by
      subst e
      have pa : a ≠ p := ne_some' ma3 hp
      have pk : k ≠ p := ne_some' hk3 hp
      have F : Fram cSegment none' M3 (addM M3 p (.dg (lsG ⟨0, 0, 0, 1 + m, 1, 0, 1, 0, s⟩))) := .new hp
      exact ⟨_, ⟨0, 0, 0, 1 + m, 1, 0, 1, 0, s⟩, (addM_ne pa).trans ma3, ⟨dk3, s3, F.ins (fun z => z) hk3 rfl, RS3.fram F⟩, addM_same, Inv40.new tok, rfl, Nat.le_refl _, ⟨by show 1 + m ≤ _; omega, by show (1 : Int) ≤ _; omega, by show -_ ≤ (0 : Int); omega, by show (0 : Int) ≤ _; omega, by show (0 : Int) ≤ 320; decide, by show s ≤ 6; omega⟩, tok, by show 2 + w ≤ 8; omega, by show 1 + u ≤ 5; omega, Int.le_refl _⟩
    generalize hM4 : addM M3 p _ = M4
    have ht : Turn40 cKernel cSegment cState cSettings M4 a k p ⟨2 + w, 1 + m, s, 1, 1, 2, [("queue" : Str)], 1 + u⟩ 0 0 := by
      rw [← hM4]
      exact ek _ (by kernel_rfl)
    have ma4 : M4 a = some .src := by
      obtain ⟨st, l, h, _⟩ := ht.ex
      exact h
    obtain ⟨q1, q2⟩ := pow8 (s := 2 + w) (by omega) (by omega)
    walk_at "dgo"
    intro n n0 n1
    walk_at "dgo"
    refine ⟨fun i ρ M' => ∃ c z1 z2, ρ = [.val (.kl (ns.map .int)), .val (.int (0 + ↑i0)), .val (.ref a), .val (.int (2 + w)), .val (.int s), .val (.int (1 + u)), .val (.int (1 + m)), .val (.ref k), .val (.ref p), .val (.int c), z1, z2] ∧ Turn40 cKernel cSegment cState cSettings M' a k p ⟨2 + w, 1 + m, s, 1, 1, 2, [("queue" : Str)], 1 + u⟩ c i, ⟨0, _, _, rfl, ht⟩, fun i d ρ M' hd hx => ?_, ?_⟩
    · obtain ⟨c, z1, z2, rfl, st, l, ms, RK1, mp, IV, ez, sz, BD, _, t8, t5, c0⟩ := hx
      obtain ⟨hi2, rfl⟩ := rng_get hd
      walk_at "dgo"
      intro r1 r10 r11
      walk_at "dgo"
      intro r2 r20 r21
      walk_at "dgo"
      intro x x0 x1
      have hg : ∃ gap, atI [DM.D.int 0, .int 1, .int r1, .int r2] x = some (.int gap) ∧ 0 ≤ gap := by
        have h : x = 0 ∨ x = 1 ∨ x = 2 ∨ x = 3 := by omega
        rcases h with rfl | rfl | rfl | rfl
        · exact ⟨_, rfl, by omega⟩
        · exact ⟨_, rfl, by omega⟩
        · exact ⟨_, rfl, by omega⟩
        · exact ⟨_, rfl, by omega⟩
      obtain ⟨gap, hga, g0⟩ := hg
      refine ⟨_, _, _, rfl, rfl, hga, ?_⟩
      have hw : st.z.w = 2 + w := by rw [ez]
      have hpos : (0 : Int) < 2 ^ (2 + w).toNat := by omega
      have hn0 := Int.emod_nonneg gap (Int.ne_of_gt hpos)
      have hn1 := Int.emod_lt_of_pos gap hpos
      have gg := IV.g1
      have hi30 : (i : Int) < 30 := by omega
      walk_at "dgo"
      have r0 := IV.r0
      have hsg := IV.sg
      refine ⟨p, l, _, rfl, mp, hn0, by omega, r0, by omega, hsg, ?_⟩
      have IV1 := IV.adv RK1.ok g0
      rw [hw] at IV1
      generalize hn : gap % 2 ^ (2 + w).toNat = n at *
      have rsb := BD.rs
      have mb := BD.mb
      have hnm : 0 ≤ n * l.mult ∧ n * l.mult ≤ 256 * 1290 := by
        have m1 := IV.m1
        exact ⟨Int.mul_nonneg hn0 (by omega), Int.mul_le_mul (by omega) (by omega) (by omega) (by decide)⟩
      have hng := Int.mul_nonneg hn0 (show 0 ≤ l.gain by omega)
      have BD1 : Bd40 { l.pass n with count := l.count + n } (60 + 41 * i) (2000000 * i + 400000) := by
        have ra := BD.ra
        have rb := BD.rb
        have hr : -320 ≤ l.sg * (l.rest - max 0 (l.rest - n * l.gain)) ∧ l.sg * (l.rest - max 0 (l.rest - n * l.gain)) ≤ 320 := by
          rcases hsg with h | h <;> rw [h] <;> omega
        refine ⟨mb, BD.gb, ?_, ?_, ?_, BD.sh⟩
        · show -(2000000 * (i : Int) + 400000) ≤ l.real + n * l.mult + l.sg * (l.rest - max 0 (l.rest - n * l.gain)); omega
        · show l.real + n * l.mult + l.sg * (l.rest - max 0 (l.rest - n * l.gain)) ≤ 2000000 * (i : Int) + 400000; omega
        · show max 0 (l.rest - n * l.gain) ≤ 320; omega
      walk_at "dgo"
      refine ⟨a, k, p, st, _, c + gap, 1 + u, _, _, rfl, ?_, RK1.off mp (.inr (by kernel_rfl)), addM_same, IV1, by rw [IV.cyc]; omega, by omega, by rw [ez], by omega, by omega, BD1, by omega, by omega, fun l' st' M5 ⟨F5, RK5, mp5, IV5, ez5, sz5, BD5⟩ => ?_⟩
      · have ap : a ≠ p := fun z => by rw [z, mp] at ms; cases ms
        exact (addM_ne ap).trans ms
      walk_at "dgo"
      refine ⟨k, p, st', l', c + gap, rfl, RK5, mp5, IV5, by omega, fun st6 M6 ⟨F6, RK6, IV6, ez6, sz6⟩ => ?_⟩
      walk_at "dgo"
      obtain ⟨dk5, s5, hk5, _⟩ := id RK5
      have pk : p ≠ k := fun z => by rw [z, hk5] at mp5; cases mp5
      have ap : a ≠ p := fun z => by rw [z, mp] at ms; cases ms
      have ma6 : M6 a = some .src := F6.src ak (F5.src (fun z => z.elim ak ap) ((addM_ne ap).trans ms))
      refine ⟨st6, l', ma6, RK6, F6.dg pk mp5, IV6, by rw [ez6, ez5, ez], by omega, ⟨?_, ?_, ?_, ?_, BD5.rs, BD5.sh⟩, tok, t8, t5, by omega⟩
      · have := BD5.mb; omega
      · have := BD5.gb; omega
      · have := BD5.ra; omega
      · have := BD5.rb; omega
    · rintro ρ M' ⟨c, z1, z2, rfl, _⟩
      exact ⟨_, _, _, _, _, _, _, _, _, _, _, rfl⟩
  · rintro ρ M' ⟨y1, y2, y3, y4, y5, y6, y7, y8, y9, y10, y11, rfl⟩
    walk_at "dgo"
    exact q _
theorem all {cState cSegment cSettings cKernel aPLAIN_CLOCKS : Addr} (DLCellAt : DefAt K mg "_law_cell_at" sLCellAt ["script", "k"]) (DLMixed : DefAt K mg "_law_mixed" sLMixed ["cell", "k"]) (DLSource : DefAt K mg "_law_source" sLSource ["script", "k"]) (DLNext : DefAt K mg "_law_next" sLNext ["source", "many"]) (DIsInteger : DefAt K mg "is_integer" sIsInteger ["thing"]) (DIsWithin : DefAt K mg "is_within" sIsWithin ["thing", "least", "greatest"]) (DIsAtLeast : DefAt K mg "is_at_least" sIsAtLeast ["thing", "least"]) (DCheckWidth : DefAt K mg "check_width" sCheckWidth ["width"]) (DCheckShift : DefAt K mg "check_shift" sCheckShift ["shift"]) (DCheckRate : DefAt K mg "check_rate" sCheckRate ["rate"]) (DCheckReading : DefAt K mg "check_reading" sCheckReading ["reading"]) (DCheckTick : DefAt K mg "check_tick" sCheckTick ["tick"]) (DCheckReadingFromZero : DefAt K mg "check_reading_from_zero" sCheckReadingFromZero ["reading"]) (DSettingsInit : MakAt K mg "Settings" cSettings "Settings.__init__" sSettingsInit ["self", "width", "rate", "processors", "tick", "base", "levels", "coarse"]) (DCheckedLevels : DefAt K mg "checked_levels" sCheckedLevels ["levels"]) (DCheckedSettings : DefAt K mg "checked_settings" sCheckedSettings ["width", "rate", "processors", "tick", "base", "levels", "coarse"]) (DSegmentInit : MakAt K mg "Segment" cSegment "Segment.__init__" sSegmentInit ["self", "start", "shift", "mult"]) (DSegmentSlewed : MAt K cSegment "slewed" "Segment.slewed" sSegmentSlewed ["self", "counts"]) (DSegmentValue : MAt K cSegment "value" "Segment.value" sSegmentValue ["self", "clock", "count"]) (DSegmentReading : MAt K cSegment "reading" "Segment.reading" sSegmentReading ["self", "clock", "count"]) (DSharesOf : DefAt K mg "shares_of" sSharesOf ["queue", "start", "owners"]) (DTurned : DefAt K mg "turned" sTurned ["queue", "count"]) (DSegmentDriven : MAt K cSegment "driven" "Segment.driven" sSegmentDriven ["self"]) (DSegmentOpened : MAt K cSegment "opened" "Segment.opened" sSegmentOpened ["self", "count"]) (DStateInit : MakAt K mg "State" cState "State.__init__" sStateInit ["self", "settings"]) (DStateCopied : MAt K cState "copied" "State.copied" sStateCopied ["self"]) (DStateCourse : MAt K cState "course" "State.course" sStateCourse ["self"]) (DStateDraft : MAt K cState "draft" "State.draft" sStateDraft ["self"]) (DStateReading : MAt K cState "reading" "State.reading" sStateReading ["self", "clock"]) (DPartsLeft : DefAt K mg "parts_left" sPartsLeft ["state"]) (DChangeRate : DefAt K mg "change_rate" sChangeRate ["state", "mult"]) (DChangeReal : DefAt K mg "change_real" sChangeReal ["state", "reading"]) (DBeginSlew : DefAt K mg "begin_slew" sBeginSlew ["state", "amount", "step"]) (DHalt : DefAt K mg "halt" sHalt ["state", "reading"]) (DIsPlain : DefAt K mg "is_plain" sIsPlain ["clock"]) (DResume : DefAt K mg "resume" sResume ["state", "reading"]) (DCheckClock : DefAt K mg "check_clock" sCheckClock ["state", "clock"]) (DDueTimers : DefAt K mg "due_timers" sDueTimers ["state", "count"]) (DSlotsBegun : DefAt K mg "slots_begun" sSlotsBegun ["state", "count"]) (DLimitsReached : DefAt K mg "limits_reached" sLimitsReached ["state", "count"]) (DAwaited : DefAt K mg "awaited" sAwaited ["state"]) (DHappen : DefAt K mg "happen" sHappen ["state", "count"]) (DSettle : DefAt K mg "settle" sSettle ["state"]) (DNextEvent : DefAt K mg "next_event" sNextEvent ["state", "most"]) (DAdvance : DefAt K mg "advance" sAdvance ["state", "at"]) (DFirstState : DefAt K mg "first_state" sFirstState ["settings"]) (DKernelGoing : MAt K cKernel "_going" "Kernel._going" sKernelGoing ["self"]) (DKernelBegun : MAt K cKernel "_begun" "Kernel._begun" sKernelBegun ["self", "at"]) (DKernelDone : MAt K cKernel "_done" "Kernel._done" sKernelDone ["self", "state", "row"]) (DKernelInit : MakKAt K mg "Kernel" cKernel "Kernel.__init__" sKernelInit) (DKernelLook : MAt K cKernel "look" "Kernel.look" sKernelLook ["self", "at"]) (DKernelRead : MAt K cKernel "read" "Kernel.read" sKernelRead ["self", "at", "clock"]) (DKernelCount : MAt K cKernel "count" "Kernel.count" sKernelCount ["self"]) (DKernelMissed : MAt K cKernel "missed" "Kernel.missed" sKernelMissed ["self"]) (DKernelLast : MAt K cKernel "last" "Kernel.last" sKernelLast ["self"]) (DKernelSlewLeft : MAt K cKernel "slew_left" "Kernel.slew_left" sKernelSlewLeft ["self"]) (DBreakTimers : DefAt K mg "break_timers" sBreakTimers ["state"]) (DKernelSetRate : MAt K cKernel "set_rate" "Kernel.set_rate" sKernelSetRate ["self", "at", "mult"]) (DKernelSetReal : MAt K cKernel "set_real" "Kernel.set_real" sKernelSetReal ["self", "at", "reading"]) (DKernelSlew : MAt K cKernel "slew" "Kernel.slew" sKernelSlew ["self", "at", "amount", "step"]) (DKernelStop : MAt K cKernel "stop" "Kernel.stop" sKernelStop ["self", "at", "reading"]) (DKernelGo : MAt K cKernel "go" "Kernel.go" sKernelGo ["self", "reading"]) (DLCounts : DefAt K mg "_law_counts" sLCounts ["state", "many"]) (DLDeed : DefAt K mg "_law_deed" sLDeed ["source", "kernel", "state", "cycle", "unit"]) (DLStands : DefAt K mg "_law_stands" sLStands ["kernel", "state", "cycle"]) (DLaw : DefAt K mg "law" sLaw ["script"]) (KSKernel_coarse : KSh K cKernel ["self", "width", "rate", "processors", "tick", "base", "levels", "coarse"] 2 ["coarse"] [0, 1, 2, 3, 4, 5, 6, 7] [.num 1, .num 1, .num 2, .none]) (T : Txt K mg cState cSegment cSettings cKernel aPLAIN_CLOCKS) : Cal P w K mg base "law" ["script"] 10 (ofD K (spLaw)) := by
  have CLCellAt : Cal P w K mg base "_law_cell_at" ["script", "k"] 1 (spCell K) := ok_LCellAt DLCellAt  T
  have CLMixed : Cal P w K mg base "_law_mixed" ["cell", "k"] 1 (spMixed) := ok_LMixed DLMixed  T
  have CLSource : Cal P w K mg base "_law_source" ["script", "k"] 2 (spSource K) := ok_LSource DLSource CLMixed CLCellAt T
  have CLNext : Cal P w K mg base "_law_next" ["source", "many"] 2 (spNext) := ok_LNext DLNext CLMixed T
  have CLNextD := cv_LNext CLNext
  have CLSourceD := cv_LSource CLSource
  have CIsInteger : Cal P w K mg base "is_integer" ["thing"] 1 (ofD K (sdInt)) := ok_IsInteger DIsInteger  T
  have CIsWithin : Cal P w K mg base "is_within" ["thing", "least", "greatest"] 2 (ofD K (sdWithin)) := ok_IsWithin DIsWithin CIsInteger T
  have CIsAtLeast : Cal P w K mg base "is_at_least" ["thing", "least"] 2 (ofD K (sdAtLeast)) := ok_IsAtLeast DIsAtLeast CIsInteger T
  have CCheckWidth : Cal P w K mg base "check_width" ["width"] 3 (ofD K (sdWidth)) := ok_CheckWidth DCheckWidth CIsWithin T
  have CCheckShift : Cal P w K mg base "check_shift" ["shift"] 3 (ofD K (sdShift)) := ok_CheckShift DCheckShift CIsWithin T
  have CCheckRate : Cal P w K mg base "check_rate" ["rate"] 4 (ofD K (sdRate)) := ok_CheckRate DCheckRate CCheckShift CIsWithin T
  have CCheckReading : Cal P w K mg base "check_reading" ["reading"] 3 (ofD K (sdRdg)) := ok_CheckReading DCheckReading CIsInteger T
  have CCheckTick : Cal P w K mg base "check_tick" ["tick"] 3 (ofD K (sdTick)) := ok_CheckTick DCheckTick CIsAtLeast T
  have CCheckReadingFromZero : Cal P w K mg base "check_reading_from_zero" ["reading"] 3 (ofD K (sdNat)) := ok_CheckReadingFromZero DCheckReadingFromZero CIsAtLeast T
  have CSettingsInit : MakCal P w K mg base "Settings" cSettings ["self", "width", "rate", "processors", "tick", "base", "levels", "coarse"] 1 (ofD K (sdSettings cSettings)) := ok_SettingsInit DSettingsInit  T
  have CCheckedLevels : Cal P w K mg base "checked_levels" ["levels"] 1 (ofD K (sdLevels)) := ok_CheckedLevels DCheckedLevels  T
  have CCheckedSettings : Cal P w K mg base "checked_settings" ["width", "rate", "processors", "tick", "base", "levels", "coarse"] 5 (ofD K (sdChecked cSettings)) := ok_CheckedSettings DCheckedSettings CCheckWidth CCheckRate CCheckTick CCheckedLevels CSettingsInit CIsWithin CIsAtLeast T
  have CSegmentInit : MakCal P w K mg base "Segment" cSegment ["self", "start", "shift", "mult"] 1 (ofD K (sdSegment cSegment)) := ok_SegmentInit DSegmentInit  T
  have CSegmentSlewed : MCal P w K mg base cSegment "slewed" ["self", "counts"] 1 (ofD K (sdSlewed cSegment)) := ok_SegmentSlewed DSegmentSlewed  T
  have CSegmentValue : MCal P w K mg base cSegment "value" ["self", "clock", "count"] 2 (ofD K (sdValue cSegment)) := ok_SegmentValue DSegmentValue CSegmentSlewed T
  have CSegmentReading : MCal P w K mg base cSegment "reading" ["self", "clock", "count"] 3 (ofD K (sdReading cSegment)) := ok_SegmentReading DSegmentReading CSegmentValue T
  have CSharesOf : Cal P w K mg base "shares_of" ["queue", "start", "owners"] 1 (ofD K (sdNoShares)) := ok_SharesOf DSharesOf  T
  have CTurned : Cal P w K mg base "turned" ["queue", "count"] 1 (ofD K (sdTurned)) := ok_Turned DTurned  T
  have CSegmentDriven : MCal P w K mg base cSegment "driven" ["self"] 2 (ofD K (sdDriven cSegment)) := ok_SegmentDriven DSegmentDriven CSharesOf T
  have CSegmentOpened : MCal P w K mg base cSegment "opened" ["self", "count"] 3 (ofD K (sdOpened cSegment)) := ok_SegmentOpened DSegmentOpened CSegmentInit CSegmentValue CSegmentSlewed CTurned CSegmentDriven T
  have CStateInit : MakCal P w K mg base "State" cState ["self", "settings"] 1 (ofD K (sdState cState)) := ok_StateInit DStateInit  T
  have CStateCopied : MCal P w K mg base cState "copied" ["self"] 3 (ofD K (sdCopied cSegment cState cSettings)) := ok_StateCopied DStateCopied CStateInit T
  have CStateCourse : MCal P w K mg base cState "course" ["self"] 1 (ofD K (sdCourse cSegment cState cSettings)) := ok_StateCourse DStateCourse  T
  have CStateDraft : MCal P w K mg base cState "draft" ["self"] 4 (ofD K (sdDraft cSegment cState cSettings)) := ok_StateDraft DStateDraft CStateCourse CSegmentOpened T
  have CStateReading : MCal P w K mg base cState "reading" ["self", "clock"] 4 (ofD K (sdStReading cSegment cState cSettings)) := ok_StateReading DStateReading CSegmentReading CStateCourse T
  have CPartsLeft : Cal P w K mg base "parts_left" ["state"] 2 (ofD K (sdLeft cSegment cState cSettings)) := ok_PartsLeft DPartsLeft CStateCourse CSegmentSlewed T
  have CChangeRate : Cal P w K mg base "change_rate" ["state", "mult"] 5 (ofD K (sdChangeRate cSegment cState cSettings)) := ok_ChangeRate DChangeRate CStateDraft CIsWithin CPartsLeft CStateCourse T
  have CChangeReal : Cal P w K mg base "change_real" ["state", "reading"] 5 (ofD K (sdChangeReal cSegment cState cSettings)) := ok_ChangeReal DChangeReal CStateDraft T
  have CBeginSlew : Cal P w K mg base "begin_slew" ["state", "amount", "step"] 5 (ofD K (sdBeginSlew cSegment cState cSettings)) := ok_BeginSlew DBeginSlew CStateDraft CIsWithin CIsInteger CStateCourse T
  have CHalt : Cal P w K mg base "halt" ["state", "reading"] 4 (ofD K (sdHalt cSegment cState cSettings)) := ok_Halt DHalt CCheckReadingFromZero T
  have CIsPlain : Cal P w K mg base "is_plain" ["clock"] 1 (ofD K (sdPlain)) := ok_IsPlain DIsPlain  T
  have CResume : Cal P w K mg base "resume" ["state", "reading"] 5 (ofD K (sdResume cSegment cState cSettings)) := ok_Resume DResume CStateDraft CIsAtLeast T
  have CCheckClock : Cal P w K mg base "check_clock" ["state", "clock"] 2 (ofD K (sdClock cState)) := ok_CheckClock DCheckClock CIsPlain T
  have CDueTimers : Cal P w K mg base "due_timers" ["state", "count"] 2 (ofD K (sdNone cSegment cState cSettings)) := ok_DueTimers DDueTimers CStateCourse T
  have CSlotsBegun : Cal P w K mg base "slots_begun" ["state", "count"] 1 (ofD K (sdNone cSegment cState cSettings)) := ok_SlotsBegun DSlotsBegun  T
  have CLimitsReached : Cal P w K mg base "limits_reached" ["state", "count"] 2 (ofD K (sdNone cSegment cState cSettings)) := ok_LimitsReached DLimitsReached CStateCourse T
  have CAwaited : Cal P w K mg base "awaited" ["state"] 1 (ofD K (sdNone1 cSegment cState cSettings)) := ok_Awaited DAwaited  T
  have CHappen : Cal P w K mg base "happen" ["state", "count"] 3 (ofD K (sdHappen cSegment cState cSettings)) := ok_Happen DHappen CDueTimers CSlotsBegun CLimitsReached T
  have CSettle : Cal P w K mg base "settle" ["state"] 4 (ofD K (sdSettle cSegment cState cSettings)) := ok_Settle DSettle CHappen T
  have CNextEvent : Cal P w K mg base "next_event" ["state", "most"] 2 (ofD K (sdNextEvent cSegment cState cSettings)) := ok_NextEvent DNextEvent CStateCourse CAwaited T
  have CAdvance : Cal P w K mg base "advance" ["state", "at"] 4 (ofD K (sdAdvance cSegment cState cSettings)) := ok_Advance DAdvance CNextEvent CHappen T
  have CFirstState : Cal P w K mg base "first_state" ["settings"] 3 (ofD K (sdFirst cSegment cState cSettings)) := ok_FirstState DFirstState CStateInit CSegmentInit T
  have CKernelGoing : MCal P w K mg base cKernel "_going" ["self"] 1 (ofD K (sdGoing cKernel cState)) := ok_KernelGoing DKernelGoing  T
  have CKernelBegun : MCal P w K mg base cKernel "_begun" ["self", "at"] 5 (ofD K (sdBegun cKernel cSegment cState cSettings)) := ok_KernelBegun DKernelBegun CStateCopied CAdvance CIsAtLeast CKernelGoing T
  have CKernelDone : MCal P w K mg base cKernel "_done" ["self", "state", "row"] 5 (ofD K (sdDone cKernel cSegment cState cSettings)) := ok_KernelDone DKernelDone CSettle T
  have CKernelInit : MakKCal P w K mg base "Kernel" cKernel ["self", "width", "rate", "processors", "tick", "base", "levels", "coarse"] 6 (ofD K (sdNew cKernel cSegment cState cSettings)) := ok_KernelInit DKernelInit CFirstState CCheckedSettings T
  have CKernelLook : MCal P w K mg base cKernel "look" ["self", "at"] 6 (ofD K (sdLook cKernel cSegment cState cSettings)) := ok_KernelLook DKernelLook CKernelDone CKernelBegun T
  have CKernelRead : MCal P w K mg base cKernel "read" ["self", "at", "clock"] 6 (ofD K (sdRead cKernel cSegment cState cSettings)) := ok_KernelRead DKernelRead CKernelBegun CCheckClock CKernelDone CStateReading T
  have CKernelCount : MCal P w K mg base cKernel "count" ["self"] 1 (ofD K (sdCount cKernel cSegment cState cSettings fun st => st.now)) := ok_KernelCount DKernelCount  T
  have CKernelMissed : MCal P w K mg base cKernel "missed" ["self"] 1 (ofD K (sdCount cKernel cSegment cState cSettings fun st => st.cycle - st.now)) := ok_KernelMissed DKernelMissed  T
  have CKernelLast : MCal P w K mg base cKernel "last" ["self"] 1 (ofD K (sdCount cKernel cSegment cState cSettings fun st => st.cycle)) := ok_KernelLast DKernelLast  T
  have CKernelSlewLeft : MCal P w K mg base cKernel "slew_left" ["self"] 3 (ofD K (sdCount cKernel cSegment cState cSettings KS.left)) := ok_KernelSlewLeft DKernelSlewLeft CPartsLeft T
  have CBreakTimers : Cal P w K mg base "break_timers" ["state"] 1 (ofD K (sdBreak cSegment cState cSettings)) := ok_BreakTimers DBreakTimers  T
  have CKernelSetRate : MCal P w K mg base cKernel "set_rate" ["self", "at", "mult"] 6 (ofD K (sdSetRate cKernel cSegment cState cSettings)) := ok_KernelSetRate DKernelSetRate CKernelBegun CChangeRate CKernelDone T
  have CKernelSetReal : MCal P w K mg base cKernel "set_real" ["self", "at", "reading"] 6 (ofD K (sdSetReal cKernel cSegment cState cSettings)) := ok_KernelSetReal DKernelSetReal CKernelBegun CCheckReading CBreakTimers CChangeReal CKernelDone T
  have CKernelSlew : MCal P w K mg base cKernel "slew" ["self", "at", "amount", "step"] 6 (ofD K (sdSlew cKernel cSegment cState cSettings)) := ok_KernelSlew DKernelSlew CKernelBegun CBeginSlew CKernelDone T
  have CKernelStop : MCal P w K mg base cKernel "stop" ["self", "at", "reading"] 6 (ofD K (sdStop cKernel cSegment cState cSettings)) := ok_KernelStop DKernelStop CKernelBegun CHalt CKernelDone T
  have CKernelGo : MCal P w K mg base cKernel "go" ["self", "reading"] 6 (ofD K (sdGo cKernel cSegment cState cSettings)) := ok_KernelGo DKernelGo CStateCopied CResume CKernelDone T
  have CLCounts : Cal P w K mg base "_law_counts" ["state", "many"] 1 (ofD K (sdLCounts)) := ok_LCounts DLCounts  T
  have CLDeed : Cal P w K mg base "_law_deed" ["source", "kernel", "state", "cycle", "unit"] 9 (ofD K (sdLDeed cKernel cSegment cState cSettings)) := ok_LDeed DLDeed CLNextD CKernelLook CKernelSetRate CKernelSetReal CKernelSlew CKernelStop CKernelGo T
  have CLStands : Cal P w K mg base "_law_stands" ["kernel", "state", "cycle"] 9 (ofD K (sdLStands cKernel cSegment cState cSettings)) := ok_LStands DLStands CKernelSlewLeft CKernelRead CKernelCount CKernelMissed CKernelLast T
  have CLaw : Cal P w K mg base "law" ["script"] 10 (ofD K (spLaw)) := ok_Law DLaw CLSourceD CKernelInit CLNextD CLCounts CLDeed CLStands KSKernel_coarse T
  exact CLaw

end
end My
open PySem PySem.W PyProof.Rows
set_option maxRecDepth 100000 in
set_option maxHeartbeats 0 in
theorem PySem.Challenge.cw_timekernel_k40_clocks_count_by_count_holds : PySem.Challenge.rw_timekernel_k40_clocks_count_by_count.Holds := by
  w_on; o_law; k_head; (case hw => w_witness2)
  k_fill
  refine L2.walk_of (l := PySem.Challenge.rw_timekernel_k40_clocks_count_by_count) (n := 63) (k := 10) (x := "script") (CX := fun _ => L2.CX0) (sp := fun w => DM.ofD _ My.spLaw) rfl (by decide) rfl ⟨rfl, by decide, by decide⟩ (fun w h Y => PySem.W.kIn_of Y) ?F (fun _ _ a ns hl _ hS => DM.law_in hS fun Q N E h => ⟨ns, rfl, hl, h⟩) (fun _ _ _ _ _ h => h)
  case F =>
    intro w mg fa h KX G hmg
    refine' TK.use (TK.clsAt_mk (mg := mg) (x := "State") KX G ?gState ?pState ?dState ?oState ?sState) ?wState
    (case gState => k_is); (case pState => k_is); (case dState => k_is); (case oState => k_is); (case sState => k_is)
    intro LState
    refine' TK.use (TK.clsAt_mk (mg := mg) (x := "Segment") KX G ?gSegment ?pSegment ?dSegment ?oSegment ?sSegment) ?wSegment
    (case gSegment => k_is); (case pSegment => k_is); (case dSegment => k_is); (case oSegment => k_is); (case sSegment => k_is)
    intro LSegment
    refine' TK.use (TK.clsAt_mk (mg := mg) (x := "Settings") KX G ?gSettings ?pSettings ?dSettings ?oSettings ?sSettings) ?wSettings
    (case gSettings => k_is); (case pSettings => k_is); (case dSettings => k_is); (case oSettings => k_is); (case sSettings => k_is)
    intro LSettings
    refine' TK.use (TK.clsAt_mk (mg := mg) (x := "Kernel") KX G ?gKernel ?pKernel ?dKernel ?oKernel ?sKernel) ?wKernel
    (case gKernel => k_is); (case pKernel => k_is); (case dKernel => k_is); (case oKernel => k_is); (case sKernel => k_is)
    intro LKernel
    refine' TK.use (DM.tupAt_mk (mg := mg) (x := "PLAIN_CLOCKS") (xs := ["steady", "real", "boot"]) KX G ?gPLAIN_CLOCKS ?lPLAIN_CLOCKS ?vPLAIN_CLOCKS) ?wPLAIN_CLOCKS
    (case gPLAIN_CLOCKS => k_is); (case lPLAIN_CLOCKS => k_is); (case vPLAIN_CLOCKS => exact (.cons ⟨_, rfl⟩ (.cons ⟨_, rfl⟩ (.cons ⟨_, rfl⟩ .nil))))
    intro UPLAIN_CLOCKS
    refine' TK.use (TK.defAt_mk (mg := mg) (x := "_law_cell_at") (st := My.sLCellAt) (ps := ["script", "k"]) KX G ?aLCellAt ?lLCellAt ?cLCellAt ?kLCellAt (fun _ _ _ _ _ _ us hl => match us, hl with | [_, _], _ => rfl)) ?rLCellAt
    (case aLCellAt => k_is); (case lLCellAt => k_is); (case cLCellAt => k_is); (case kLCellAt => k_is)
    intro DLCellAt
    refine' TK.use (TK.defAt_mk (mg := mg) (x := "_law_mixed") (st := My.sLMixed) (ps := ["cell", "k"]) KX G ?aLMixed ?lLMixed ?cLMixed ?kLMixed (fun _ _ _ _ _ _ us hl => match us, hl with | [_, _], _ => rfl)) ?rLMixed
    (case aLMixed => k_is); (case lLMixed => k_is); (case cLMixed => k_is); (case kLMixed => k_is)
    intro DLMixed
    refine' TK.use (TK.defAt_mk (mg := mg) (x := "_law_source") (st := My.sLSource) (ps := ["script", "k"]) KX G ?aLSource ?lLSource ?cLSource ?kLSource (fun _ _ _ _ _ _ us hl => match us, hl with | [_, _], _ => rfl)) ?rLSource
    (case aLSource => k_is); (case lLSource => k_is); (case cLSource => k_is); (case kLSource => k_is)
    intro DLSource
    refine' TK.use (TK.defAt_mk (mg := mg) (x := "_law_next") (st := My.sLNext) (ps := ["source", "many"]) KX G ?aLNext ?lLNext ?cLNext ?kLNext (fun _ _ _ _ _ _ us hl => match us, hl with | [_, _], _ => rfl)) ?rLNext
    (case aLNext => k_is); (case lLNext => k_is); (case cLNext => k_is); (case kLNext => k_is)
    intro DLNext
    refine' TK.use (TK.defAt_mk (mg := mg) (x := "is_integer") (st := My.sIsInteger) (ps := ["thing"]) KX G ?aIsInteger ?lIsInteger ?cIsInteger ?kIsInteger (fun _ _ _ _ _ _ us hl => match us, hl with | [_], _ => rfl)) ?rIsInteger
    (case aIsInteger => k_is); (case lIsInteger => k_is); (case cIsInteger => k_is); (case kIsInteger => k_is)
    intro DIsInteger
    refine' TK.use (TK.defAt_mk (mg := mg) (x := "is_within") (st := My.sIsWithin) (ps := ["thing", "least", "greatest"]) KX G ?aIsWithin ?lIsWithin ?cIsWithin ?kIsWithin (fun _ _ _ _ _ _ us hl => match us, hl with | [_, _, _], _ => rfl)) ?rIsWithin
    (case aIsWithin => k_is); (case lIsWithin => k_is); (case cIsWithin => k_is); (case kIsWithin => k_is)
    intro DIsWithin
    refine' TK.use (TK.defAt_mk (mg := mg) (x := "is_at_least") (st := My.sIsAtLeast) (ps := ["thing", "least"]) KX G ?aIsAtLeast ?lIsAtLeast ?cIsAtLeast ?kIsAtLeast (fun _ _ _ _ _ _ us hl => match us, hl with | [_, _], _ => rfl)) ?rIsAtLeast
    (case aIsAtLeast => k_is); (case lIsAtLeast => k_is); (case cIsAtLeast => k_is); (case kIsAtLeast => k_is)
    intro DIsAtLeast
    refine' TK.use (TK.defAt_mk (mg := mg) (x := "check_width") (st := My.sCheckWidth) (ps := ["width"]) KX G ?aCheckWidth ?lCheckWidth ?cCheckWidth ?kCheckWidth (fun _ _ _ _ _ _ us hl => match us, hl with | [_], _ => rfl)) ?rCheckWidth
    (case aCheckWidth => k_is); (case lCheckWidth => k_is); (case cCheckWidth => k_is); (case kCheckWidth => k_is)
    intro DCheckWidth
    refine' TK.use (TK.defAt_mk (mg := mg) (x := "check_shift") (st := My.sCheckShift) (ps := ["shift"]) KX G ?aCheckShift ?lCheckShift ?cCheckShift ?kCheckShift (fun _ _ _ _ _ _ us hl => match us, hl with | [_], _ => rfl)) ?rCheckShift
    (case aCheckShift => k_is); (case lCheckShift => k_is); (case cCheckShift => k_is); (case kCheckShift => k_is)
    intro DCheckShift
    refine' TK.use (TK.defAt_mk (mg := mg) (x := "check_rate") (st := My.sCheckRate) (ps := ["rate"]) KX G ?aCheckRate ?lCheckRate ?cCheckRate ?kCheckRate (fun _ _ _ _ _ _ us hl => match us, hl with | [_], _ => rfl)) ?rCheckRate
    (case aCheckRate => k_is); (case lCheckRate => k_is); (case cCheckRate => k_is); (case kCheckRate => k_is)
    intro DCheckRate
    refine' TK.use (TK.defAt_mk (mg := mg) (x := "check_reading") (st := My.sCheckReading) (ps := ["reading"]) KX G ?aCheckReading ?lCheckReading ?cCheckReading ?kCheckReading (fun _ _ _ _ _ _ us hl => match us, hl with | [_], _ => rfl)) ?rCheckReading
    (case aCheckReading => k_is); (case lCheckReading => k_is); (case cCheckReading => k_is); (case kCheckReading => k_is)
    intro DCheckReading
    refine' TK.use (TK.defAt_mk (mg := mg) (x := "check_tick") (st := My.sCheckTick) (ps := ["tick"]) KX G ?aCheckTick ?lCheckTick ?cCheckTick ?kCheckTick (fun _ _ _ _ _ _ us hl => match us, hl with | [_], _ => rfl)) ?rCheckTick
    (case aCheckTick => k_is); (case lCheckTick => k_is); (case cCheckTick => k_is); (case kCheckTick => k_is)
    intro DCheckTick
    refine' TK.use (TK.defAt_mk (mg := mg) (x := "check_reading_from_zero") (st := My.sCheckReadingFromZero) (ps := ["reading"]) KX G ?aCheckReadingFromZero ?lCheckReadingFromZero ?cCheckReadingFromZero ?kCheckReadingFromZero (fun _ _ _ _ _ _ us hl => match us, hl with | [_], _ => rfl)) ?rCheckReadingFromZero
    (case aCheckReadingFromZero => k_is); (case lCheckReadingFromZero => k_is); (case cCheckReadingFromZero => k_is); (case kCheckReadingFromZero => k_is)
    intro DCheckReadingFromZero
    refine' TK.use (TK.makAt_mk (mg := mg) (x := "Settings") (qual := "Settings.__init__") (st := My.sSettingsInit) (ps := ["self", "width", "rate", "processors", "tick", "base", "levels", "coarse"]) LSettings ?mSettingsInit ?aSettingsInit ?lSettingsInit ?cSettingsInit ?kSettingsInit ?jSettingsInit ?fSettingsInit (fun _ _ _ _ _ _ us hl => match us, hl with | [_, _, _, _, _, _, _, _], _ => rfl)) ?rSettingsInit
    (case mSettingsInit => k_is); (case aSettingsInit => k_is); (case lSettingsInit => k_is); (case cSettingsInit => k_is); (case kSettingsInit => k_is); (case jSettingsInit => k_is); (case fSettingsInit => k_is)
    intro DSettingsInit
    refine' TK.use (TK.defAt_mk (mg := mg) (x := "checked_levels") (st := My.sCheckedLevels) (ps := ["levels"]) KX G ?aCheckedLevels ?lCheckedLevels ?cCheckedLevels ?kCheckedLevels (fun _ _ _ _ _ _ us hl => match us, hl with | [_], _ => rfl)) ?rCheckedLevels
    (case aCheckedLevels => k_is); (case lCheckedLevels => k_is); (case cCheckedLevels => k_is); (case kCheckedLevels => k_is)
    intro DCheckedLevels
    refine' TK.use (TK.defAt_mk (mg := mg) (x := "checked_settings") (st := My.sCheckedSettings) (ps := ["width", "rate", "processors", "tick", "base", "levels", "coarse"]) KX G ?aCheckedSettings ?lCheckedSettings ?cCheckedSettings ?kCheckedSettings (fun _ _ _ _ _ _ us hl => match us, hl with | [_, _, _, _, _, _, _], _ => rfl)) ?rCheckedSettings
    (case aCheckedSettings => k_is); (case lCheckedSettings => k_is); (case cCheckedSettings => k_is); (case kCheckedSettings => k_is)
    intro DCheckedSettings
    refine' TK.use (TK.makAt_mk (mg := mg) (x := "Segment") (qual := "Segment.__init__") (st := My.sSegmentInit) (ps := ["self", "start", "shift", "mult"]) LSegment ?mSegmentInit ?aSegmentInit ?lSegmentInit ?cSegmentInit ?kSegmentInit ?jSegmentInit ?fSegmentInit (fun _ _ _ _ _ _ us hl => match us, hl with | [_, _, _, _], _ => rfl)) ?rSegmentInit
    (case mSegmentInit => k_is); (case aSegmentInit => k_is); (case lSegmentInit => k_is); (case cSegmentInit => k_is); (case kSegmentInit => k_is); (case jSegmentInit => k_is); (case fSegmentInit => k_is)
    intro DSegmentInit
    refine' TK.use (TK.mAt_mk (m := "slewed") (qual := "Segment.slewed") (st := My.sSegmentSlewed) (ps := ["self", "counts"]) LSegment.c ?aSegmentSlewed ?lSegmentSlewed ?cSegmentSlewed ?kSegmentSlewed ?fSegmentSlewed (fun _ _ _ _ _ _ us hl => match us, hl with | [_, _], _ => rfl)) ?rSegmentSlewed
    (case aSegmentSlewed => k_is); (case lSegmentSlewed => k_is); (case cSegmentSlewed => k_is); (case kSegmentSlewed => k_is); (case fSegmentSlewed => k_is)
    intro DSegmentSlewed
    refine' TK.use (TK.mAt_mk (m := "value") (qual := "Segment.value") (st := My.sSegmentValue) (ps := ["self", "clock", "count"]) LSegment.c ?aSegmentValue ?lSegmentValue ?cSegmentValue ?kSegmentValue ?fSegmentValue (fun _ _ _ _ _ _ us hl => match us, hl with | [_, _, _], _ => rfl)) ?rSegmentValue
    (case aSegmentValue => k_is); (case lSegmentValue => k_is); (case cSegmentValue => k_is); (case kSegmentValue => k_is); (case fSegmentValue => k_is)
    intro DSegmentValue
    refine' TK.use (TK.mAt_mk (m := "reading") (qual := "Segment.reading") (st := My.sSegmentReading) (ps := ["self", "clock", "count"]) LSegment.c ?aSegmentReading ?lSegmentReading ?cSegmentReading ?kSegmentReading ?fSegmentReading (fun _ _ _ _ _ _ us hl => match us, hl with | [_, _, _], _ => rfl)) ?rSegmentReading
    (case aSegmentReading => k_is); (case lSegmentReading => k_is); (case cSegmentReading => k_is); (case kSegmentReading => k_is); (case fSegmentReading => k_is)
    intro DSegmentReading
    refine' TK.use (TK.defAt_mk (mg := mg) (x := "shares_of") (st := My.sSharesOf) (ps := ["queue", "start", "owners"]) KX G ?aSharesOf ?lSharesOf ?cSharesOf ?kSharesOf (fun _ _ _ _ _ _ us hl => match us, hl with | [_, _, _], _ => rfl)) ?rSharesOf
    (case aSharesOf => k_is); (case lSharesOf => k_is); (case cSharesOf => k_is); (case kSharesOf => k_is)
    intro DSharesOf
    refine' TK.use (TK.defAt_mk (mg := mg) (x := "turned") (st := My.sTurned) (ps := ["queue", "count"]) KX G ?aTurned ?lTurned ?cTurned ?kTurned (fun _ _ _ _ _ _ us hl => match us, hl with | [_, _], _ => rfl)) ?rTurned
    (case aTurned => k_is); (case lTurned => k_is); (case cTurned => k_is); (case kTurned => k_is)
    intro DTurned
    refine' TK.use (TK.mAt_mk (m := "driven") (qual := "Segment.driven") (st := My.sSegmentDriven) (ps := ["self"]) LSegment.c ?aSegmentDriven ?lSegmentDriven ?cSegmentDriven ?kSegmentDriven ?fSegmentDriven (fun _ _ _ _ _ _ us hl => match us, hl with | [_], _ => rfl)) ?rSegmentDriven
    (case aSegmentDriven => k_is); (case lSegmentDriven => k_is); (case cSegmentDriven => k_is); (case kSegmentDriven => k_is); (case fSegmentDriven => k_is)
    intro DSegmentDriven
    refine' TK.use (TK.mAt_mk (m := "opened") (qual := "Segment.opened") (st := My.sSegmentOpened) (ps := ["self", "count"]) LSegment.c ?aSegmentOpened ?lSegmentOpened ?cSegmentOpened ?kSegmentOpened ?fSegmentOpened (fun _ _ _ _ _ _ us hl => match us, hl with | [_, _], _ => rfl)) ?rSegmentOpened
    (case aSegmentOpened => k_is); (case lSegmentOpened => k_is); (case cSegmentOpened => k_is); (case kSegmentOpened => k_is); (case fSegmentOpened => k_is)
    intro DSegmentOpened
    refine' TK.use (TK.makAt_mk (mg := mg) (x := "State") (qual := "State.__init__") (st := My.sStateInit) (ps := ["self", "settings"]) LState ?mStateInit ?aStateInit ?lStateInit ?cStateInit ?kStateInit ?jStateInit ?fStateInit (fun _ _ _ _ _ _ us hl => match us, hl with | [_, _], _ => rfl)) ?rStateInit
    (case mStateInit => k_is); (case aStateInit => k_is); (case lStateInit => k_is); (case cStateInit => k_is); (case kStateInit => k_is); (case jStateInit => k_is); (case fStateInit => k_is)
    intro DStateInit
    refine' TK.use (TK.mAt_mk (m := "copied") (qual := "State.copied") (st := My.sStateCopied) (ps := ["self"]) LState.c ?aStateCopied ?lStateCopied ?cStateCopied ?kStateCopied ?fStateCopied (fun _ _ _ _ _ _ us hl => match us, hl with | [_], _ => rfl)) ?rStateCopied
    (case aStateCopied => k_is); (case lStateCopied => k_is); (case cStateCopied => k_is); (case kStateCopied => k_is); (case fStateCopied => k_is)
    intro DStateCopied
    refine' TK.use (TK.mAt_mk (m := "course") (qual := "State.course") (st := My.sStateCourse) (ps := ["self"]) LState.c ?aStateCourse ?lStateCourse ?cStateCourse ?kStateCourse ?fStateCourse (fun _ _ _ _ _ _ us hl => match us, hl with | [_], _ => rfl)) ?rStateCourse
    (case aStateCourse => k_is); (case lStateCourse => k_is); (case cStateCourse => k_is); (case kStateCourse => k_is); (case fStateCourse => k_is)
    intro DStateCourse
    refine' TK.use (TK.mAt_mk (m := "draft") (qual := "State.draft") (st := My.sStateDraft) (ps := ["self"]) LState.c ?aStateDraft ?lStateDraft ?cStateDraft ?kStateDraft ?fStateDraft (fun _ _ _ _ _ _ us hl => match us, hl with | [_], _ => rfl)) ?rStateDraft
    (case aStateDraft => k_is); (case lStateDraft => k_is); (case cStateDraft => k_is); (case kStateDraft => k_is); (case fStateDraft => k_is)
    intro DStateDraft
    refine' TK.use (TK.mAt_mk (m := "reading") (qual := "State.reading") (st := My.sStateReading) (ps := ["self", "clock"]) LState.c ?aStateReading ?lStateReading ?cStateReading ?kStateReading ?fStateReading (fun _ _ _ _ _ _ us hl => match us, hl with | [_, _], _ => rfl)) ?rStateReading
    (case aStateReading => k_is); (case lStateReading => k_is); (case cStateReading => k_is); (case kStateReading => k_is); (case fStateReading => k_is)
    intro DStateReading
    refine' TK.use (TK.defAt_mk (mg := mg) (x := "parts_left") (st := My.sPartsLeft) (ps := ["state"]) KX G ?aPartsLeft ?lPartsLeft ?cPartsLeft ?kPartsLeft (fun _ _ _ _ _ _ us hl => match us, hl with | [_], _ => rfl)) ?rPartsLeft
    (case aPartsLeft => k_is); (case lPartsLeft => k_is); (case cPartsLeft => k_is); (case kPartsLeft => k_is)
    intro DPartsLeft
    refine' TK.use (TK.defAt_mk (mg := mg) (x := "change_rate") (st := My.sChangeRate) (ps := ["state", "mult"]) KX G ?aChangeRate ?lChangeRate ?cChangeRate ?kChangeRate (fun _ _ _ _ _ _ us hl => match us, hl with | [_, _], _ => rfl)) ?rChangeRate
    (case aChangeRate => k_is); (case lChangeRate => k_is); (case cChangeRate => k_is); (case kChangeRate => k_is)
    intro DChangeRate
    refine' TK.use (TK.defAt_mk (mg := mg) (x := "change_real") (st := My.sChangeReal) (ps := ["state", "reading"]) KX G ?aChangeReal ?lChangeReal ?cChangeReal ?kChangeReal (fun _ _ _ _ _ _ us hl => match us, hl with | [_, _], _ => rfl)) ?rChangeReal
    (case aChangeReal => k_is); (case lChangeReal => k_is); (case cChangeReal => k_is); (case kChangeReal => k_is)
    intro DChangeReal
    refine' TK.use (TK.defAt_mk (mg := mg) (x := "begin_slew") (st := My.sBeginSlew) (ps := ["state", "amount", "step"]) KX G ?aBeginSlew ?lBeginSlew ?cBeginSlew ?kBeginSlew (fun _ _ _ _ _ _ us hl => match us, hl with | [_, _, _], _ => rfl)) ?rBeginSlew
    (case aBeginSlew => k_is); (case lBeginSlew => k_is); (case cBeginSlew => k_is); (case kBeginSlew => k_is)
    intro DBeginSlew
    refine' TK.use (TK.defAt_mk (mg := mg) (x := "halt") (st := My.sHalt) (ps := ["state", "reading"]) KX G ?aHalt ?lHalt ?cHalt ?kHalt (fun _ _ _ _ _ _ us hl => match us, hl with | [_, _], _ => rfl)) ?rHalt
    (case aHalt => k_is); (case lHalt => k_is); (case cHalt => k_is); (case kHalt => k_is)
    intro DHalt
    refine' TK.use (TK.defAt_mk (mg := mg) (x := "is_plain") (st := My.sIsPlain) (ps := ["clock"]) KX G ?aIsPlain ?lIsPlain ?cIsPlain ?kIsPlain (fun _ _ _ _ _ _ us hl => match us, hl with | [_], _ => rfl)) ?rIsPlain
    (case aIsPlain => k_is); (case lIsPlain => k_is); (case cIsPlain => k_is); (case kIsPlain => k_is)
    intro DIsPlain
    refine' TK.use (TK.defAt_mk (mg := mg) (x := "resume") (st := My.sResume) (ps := ["state", "reading"]) KX G ?aResume ?lResume ?cResume ?kResume (fun _ _ _ _ _ _ us hl => match us, hl with | [_, _], _ => rfl)) ?rResume
    (case aResume => k_is); (case lResume => k_is); (case cResume => k_is); (case kResume => k_is)
    intro DResume
    refine' TK.use (TK.defAt_mk (mg := mg) (x := "check_clock") (st := My.sCheckClock) (ps := ["state", "clock"]) KX G ?aCheckClock ?lCheckClock ?cCheckClock ?kCheckClock (fun _ _ _ _ _ _ us hl => match us, hl with | [_, _], _ => rfl)) ?rCheckClock
    (case aCheckClock => k_is); (case lCheckClock => k_is); (case cCheckClock => k_is); (case kCheckClock => k_is)
    intro DCheckClock
    refine' TK.use (TK.defAt_mk (mg := mg) (x := "due_timers") (st := My.sDueTimers) (ps := ["state", "count"]) KX G ?aDueTimers ?lDueTimers ?cDueTimers ?kDueTimers (fun _ _ _ _ _ _ us hl => match us, hl with | [_, _], _ => rfl)) ?rDueTimers
    (case aDueTimers => k_is); (case lDueTimers => k_is); (case cDueTimers => k_is); (case kDueTimers => k_is)
    intro DDueTimers
    refine' TK.use (TK.defAt_mk (mg := mg) (x := "slots_begun") (st := My.sSlotsBegun) (ps := ["state", "count"]) KX G ?aSlotsBegun ?lSlotsBegun ?cSlotsBegun ?kSlotsBegun (fun _ _ _ _ _ _ us hl => match us, hl with | [_, _], _ => rfl)) ?rSlotsBegun
    (case aSlotsBegun => k_is); (case lSlotsBegun => k_is); (case cSlotsBegun => k_is); (case kSlotsBegun => k_is)
    intro DSlotsBegun
    refine' TK.use (TK.defAt_mk (mg := mg) (x := "limits_reached") (st := My.sLimitsReached) (ps := ["state", "count"]) KX G ?aLimitsReached ?lLimitsReached ?cLimitsReached ?kLimitsReached (fun _ _ _ _ _ _ us hl => match us, hl with | [_, _], _ => rfl)) ?rLimitsReached
    (case aLimitsReached => k_is); (case lLimitsReached => k_is); (case cLimitsReached => k_is); (case kLimitsReached => k_is)
    intro DLimitsReached
    refine' TK.use (TK.defAt_mk (mg := mg) (x := "awaited") (st := My.sAwaited) (ps := ["state"]) KX G ?aAwaited ?lAwaited ?cAwaited ?kAwaited (fun _ _ _ _ _ _ us hl => match us, hl with | [_], _ => rfl)) ?rAwaited
    (case aAwaited => k_is); (case lAwaited => k_is); (case cAwaited => k_is); (case kAwaited => k_is)
    intro DAwaited
    refine' TK.use (TK.defAt_mk (mg := mg) (x := "happen") (st := My.sHappen) (ps := ["state", "count"]) KX G ?aHappen ?lHappen ?cHappen ?kHappen (fun _ _ _ _ _ _ us hl => match us, hl with | [_, _], _ => rfl)) ?rHappen
    (case aHappen => k_is); (case lHappen => k_is); (case cHappen => k_is); (case kHappen => k_is)
    intro DHappen
    refine' TK.use (TK.defAt_mk (mg := mg) (x := "settle") (st := My.sSettle) (ps := ["state"]) KX G ?aSettle ?lSettle ?cSettle ?kSettle (fun _ _ _ _ _ _ us hl => match us, hl with | [_], _ => rfl)) ?rSettle
    (case aSettle => k_is); (case lSettle => k_is); (case cSettle => k_is); (case kSettle => k_is)
    intro DSettle
    refine' TK.use (TK.defAt_mk (mg := mg) (x := "next_event") (st := My.sNextEvent) (ps := ["state", "most"]) KX G ?aNextEvent ?lNextEvent ?cNextEvent ?kNextEvent (fun _ _ _ _ _ _ us hl => match us, hl with | [_, _], _ => rfl)) ?rNextEvent
    (case aNextEvent => k_is); (case lNextEvent => k_is); (case cNextEvent => k_is); (case kNextEvent => k_is)
    intro DNextEvent
    refine' TK.use (TK.defAt_mk (mg := mg) (x := "advance") (st := My.sAdvance) (ps := ["state", "at"]) KX G ?aAdvance ?lAdvance ?cAdvance ?kAdvance (fun _ _ _ _ _ _ us hl => match us, hl with | [_, _], _ => rfl)) ?rAdvance
    (case aAdvance => k_is); (case lAdvance => k_is); (case cAdvance => k_is); (case kAdvance => k_is)
    intro DAdvance
    refine' TK.use (TK.defAt_mk (mg := mg) (x := "first_state") (st := My.sFirstState) (ps := ["settings"]) KX G ?aFirstState ?lFirstState ?cFirstState ?kFirstState (fun _ _ _ _ _ _ us hl => match us, hl with | [_], _ => rfl)) ?rFirstState
    (case aFirstState => k_is); (case lFirstState => k_is); (case cFirstState => k_is); (case kFirstState => k_is)
    intro DFirstState
    refine' TK.use (TK.mAt_mk (m := "_going") (qual := "Kernel._going") (st := My.sKernelGoing) (ps := ["self"]) LKernel.c ?aKernelGoing ?lKernelGoing ?cKernelGoing ?kKernelGoing ?fKernelGoing (fun _ _ _ _ _ _ us hl => match us, hl with | [_], _ => rfl)) ?rKernelGoing
    (case aKernelGoing => k_is); (case lKernelGoing => k_is); (case cKernelGoing => k_is); (case kKernelGoing => k_is); (case fKernelGoing => k_is)
    intro DKernelGoing
    refine' TK.use (TK.mAt_mk (m := "_begun") (qual := "Kernel._begun") (st := My.sKernelBegun) (ps := ["self", "at"]) LKernel.c ?aKernelBegun ?lKernelBegun ?cKernelBegun ?kKernelBegun ?fKernelBegun (fun _ _ _ _ _ _ us hl => match us, hl with | [_, _], _ => rfl)) ?rKernelBegun
    (case aKernelBegun => k_is); (case lKernelBegun => k_is); (case cKernelBegun => k_is); (case kKernelBegun => k_is); (case fKernelBegun => k_is)
    intro DKernelBegun
    refine' TK.use (TK.mAt_mk (m := "_done") (qual := "Kernel._done") (st := My.sKernelDone) (ps := ["self", "state", "row"]) LKernel.c ?aKernelDone ?lKernelDone ?cKernelDone ?kKernelDone ?fKernelDone (fun _ _ _ _ _ _ us hl => match us, hl with | [_, _, _], _ => rfl)) ?rKernelDone
    (case aKernelDone => k_is); (case lKernelDone => k_is); (case cKernelDone => k_is); (case kKernelDone => k_is); (case fKernelDone => k_is)
    intro DKernelDone
    refine' TK.use (TK.makKAt_mk (mg := mg) (x := "Kernel") (qual := "Kernel.__init__") (st := My.sKernelInit) LKernel ?mKernelInit ?aKernelInit ?lKernelInit ?cKernelInit ?kKernelInit ?jKernelInit ?fKernelInit) ?rKernelInit
    (case mKernelInit => k_is); (case aKernelInit => k_is); (case lKernelInit => k_is); (case cKernelInit => k_is); (case kKernelInit => k_is); (case jKernelInit => k_is); (case fKernelInit => k_is)
    intro DKernelInit
    refine' TK.use (TK.mAt_mk (m := "look") (qual := "Kernel.look") (st := My.sKernelLook) (ps := ["self", "at"]) LKernel.c ?aKernelLook ?lKernelLook ?cKernelLook ?kKernelLook ?fKernelLook (fun _ _ _ _ _ _ us hl => match us, hl with | [_, _], _ => rfl)) ?rKernelLook
    (case aKernelLook => k_is); (case lKernelLook => k_is); (case cKernelLook => k_is); (case kKernelLook => k_is); (case fKernelLook => k_is)
    intro DKernelLook
    refine' TK.use (TK.mAt_mk (m := "read") (qual := "Kernel.read") (st := My.sKernelRead) (ps := ["self", "at", "clock"]) LKernel.c ?aKernelRead ?lKernelRead ?cKernelRead ?kKernelRead ?fKernelRead (fun _ _ _ _ _ _ us hl => match us, hl with | [_, _, _], _ => rfl)) ?rKernelRead
    (case aKernelRead => k_is); (case lKernelRead => k_is); (case cKernelRead => k_is); (case kKernelRead => k_is); (case fKernelRead => k_is)
    intro DKernelRead
    refine' TK.use (TK.mAt_mk (m := "count") (qual := "Kernel.count") (st := My.sKernelCount) (ps := ["self"]) LKernel.c ?aKernelCount ?lKernelCount ?cKernelCount ?kKernelCount ?fKernelCount (fun _ _ _ _ _ _ us hl => match us, hl with | [_], _ => rfl)) ?rKernelCount
    (case aKernelCount => k_is); (case lKernelCount => k_is); (case cKernelCount => k_is); (case kKernelCount => k_is); (case fKernelCount => k_is)
    intro DKernelCount
    refine' TK.use (TK.mAt_mk (m := "missed") (qual := "Kernel.missed") (st := My.sKernelMissed) (ps := ["self"]) LKernel.c ?aKernelMissed ?lKernelMissed ?cKernelMissed ?kKernelMissed ?fKernelMissed (fun _ _ _ _ _ _ us hl => match us, hl with | [_], _ => rfl)) ?rKernelMissed
    (case aKernelMissed => k_is); (case lKernelMissed => k_is); (case cKernelMissed => k_is); (case kKernelMissed => k_is); (case fKernelMissed => k_is)
    intro DKernelMissed
    refine' TK.use (TK.mAt_mk (m := "last") (qual := "Kernel.last") (st := My.sKernelLast) (ps := ["self"]) LKernel.c ?aKernelLast ?lKernelLast ?cKernelLast ?kKernelLast ?fKernelLast (fun _ _ _ _ _ _ us hl => match us, hl with | [_], _ => rfl)) ?rKernelLast
    (case aKernelLast => k_is); (case lKernelLast => k_is); (case cKernelLast => k_is); (case kKernelLast => k_is); (case fKernelLast => k_is)
    intro DKernelLast
    refine' TK.use (TK.mAt_mk (m := "slew_left") (qual := "Kernel.slew_left") (st := My.sKernelSlewLeft) (ps := ["self"]) LKernel.c ?aKernelSlewLeft ?lKernelSlewLeft ?cKernelSlewLeft ?kKernelSlewLeft ?fKernelSlewLeft (fun _ _ _ _ _ _ us hl => match us, hl with | [_], _ => rfl)) ?rKernelSlewLeft
    (case aKernelSlewLeft => k_is); (case lKernelSlewLeft => k_is); (case cKernelSlewLeft => k_is); (case kKernelSlewLeft => k_is); (case fKernelSlewLeft => k_is)
    intro DKernelSlewLeft
    refine' TK.use (TK.defAt_mk (mg := mg) (x := "break_timers") (st := My.sBreakTimers) (ps := ["state"]) KX G ?aBreakTimers ?lBreakTimers ?cBreakTimers ?kBreakTimers (fun _ _ _ _ _ _ us hl => match us, hl with | [_], _ => rfl)) ?rBreakTimers
    (case aBreakTimers => k_is); (case lBreakTimers => k_is); (case cBreakTimers => k_is); (case kBreakTimers => k_is)
    intro DBreakTimers
    refine' TK.use (TK.mAt_mk (m := "set_rate") (qual := "Kernel.set_rate") (st := My.sKernelSetRate) (ps := ["self", "at", "mult"]) LKernel.c ?aKernelSetRate ?lKernelSetRate ?cKernelSetRate ?kKernelSetRate ?fKernelSetRate (fun _ _ _ _ _ _ us hl => match us, hl with | [_, _, _], _ => rfl)) ?rKernelSetRate
    (case aKernelSetRate => k_is); (case lKernelSetRate => k_is); (case cKernelSetRate => k_is); (case kKernelSetRate => k_is); (case fKernelSetRate => k_is)
    intro DKernelSetRate
    refine' TK.use (TK.mAt_mk (m := "set_real") (qual := "Kernel.set_real") (st := My.sKernelSetReal) (ps := ["self", "at", "reading"]) LKernel.c ?aKernelSetReal ?lKernelSetReal ?cKernelSetReal ?kKernelSetReal ?fKernelSetReal (fun _ _ _ _ _ _ us hl => match us, hl with | [_, _, _], _ => rfl)) ?rKernelSetReal
    (case aKernelSetReal => k_is); (case lKernelSetReal => k_is); (case cKernelSetReal => k_is); (case kKernelSetReal => k_is); (case fKernelSetReal => k_is)
    intro DKernelSetReal
    refine' TK.use (TK.mAt_mk (m := "slew") (qual := "Kernel.slew") (st := My.sKernelSlew) (ps := ["self", "at", "amount", "step"]) LKernel.c ?aKernelSlew ?lKernelSlew ?cKernelSlew ?kKernelSlew ?fKernelSlew (fun _ _ _ _ _ _ us hl => match us, hl with | [_, _, _, _], _ => rfl)) ?rKernelSlew
    (case aKernelSlew => k_is); (case lKernelSlew => k_is); (case cKernelSlew => k_is); (case kKernelSlew => k_is); (case fKernelSlew => k_is)
    intro DKernelSlew
    refine' TK.use (TK.mAt_mk (m := "stop") (qual := "Kernel.stop") (st := My.sKernelStop) (ps := ["self", "at", "reading"]) LKernel.c ?aKernelStop ?lKernelStop ?cKernelStop ?kKernelStop ?fKernelStop (fun _ _ _ _ _ _ us hl => match us, hl with | [_, _, _], _ => rfl)) ?rKernelStop
    (case aKernelStop => k_is); (case lKernelStop => k_is); (case cKernelStop => k_is); (case kKernelStop => k_is); (case fKernelStop => k_is)
    intro DKernelStop
    refine' TK.use (TK.mAt_mk (m := "go") (qual := "Kernel.go") (st := My.sKernelGo) (ps := ["self", "reading"]) LKernel.c ?aKernelGo ?lKernelGo ?cKernelGo ?kKernelGo ?fKernelGo (fun _ _ _ _ _ _ us hl => match us, hl with | [_, _], _ => rfl)) ?rKernelGo
    (case aKernelGo => k_is); (case lKernelGo => k_is); (case cKernelGo => k_is); (case kKernelGo => k_is); (case fKernelGo => k_is)
    intro DKernelGo
    refine' TK.use (TK.defAt_mk (mg := mg) (x := "_law_counts") (st := My.sLCounts) (ps := ["state", "many"]) KX G ?aLCounts ?lLCounts ?cLCounts ?kLCounts (fun _ _ _ _ _ _ us hl => match us, hl with | [_, _], _ => rfl)) ?rLCounts
    (case aLCounts => k_is); (case lLCounts => k_is); (case cLCounts => k_is); (case kLCounts => k_is)
    intro DLCounts
    refine' TK.use (TK.defAt_mk (mg := mg) (x := "_law_deed") (st := My.sLDeed) (ps := ["source", "kernel", "state", "cycle", "unit"]) KX G ?aLDeed ?lLDeed ?cLDeed ?kLDeed (fun _ _ _ _ _ _ us hl => match us, hl with | [_, _, _, _, _], _ => rfl)) ?rLDeed
    (case aLDeed => k_is); (case lLDeed => k_is); (case cLDeed => k_is); (case kLDeed => k_is)
    intro DLDeed
    refine' TK.use (TK.defAt_mk (mg := mg) (x := "_law_stands") (st := My.sLStands) (ps := ["kernel", "state", "cycle"]) KX G ?aLStands ?lLStands ?cLStands ?kLStands (fun _ _ _ _ _ _ us hl => match us, hl with | [_, _, _], _ => rfl)) ?rLStands
    (case aLStands => k_is); (case lLStands => k_is); (case cLStands => k_is); (case kLStands => k_is)
    intro DLStands
    refine' TK.use (TK.defAt_mk (mg := mg) (x := "law") (st := My.sLaw) (ps := ["script"]) KX G ?aLaw ?lLaw ?cLaw ?kLaw (fun _ _ _ _ _ _ us hl => match us, hl with | [_], _ => rfl)) ?rLaw
    (case aLaw => k_is); (case lLaw => k_is); (case cLaw => k_is); (case kLaw => k_is)
    intro DLaw
    refine' TK.use (TK.ksh_mk (mg := mg) (x := "Kernel") (qual := "Kernel.__init__") (st := My.sKernelInit) (ps := ["self", "width", "rate", "processors", "tick", "base", "levels", "coarse"]) (n := 2) (ks := ["coarse"]) (π := [0, 1, 2, 3, 4, 5, 6, 7]) (ms := [("processors", .num 1), ("tick", .num 1), ("base", .num 2), ("levels", .none)]) LKernel ?aKSKernel_coarse ?lKSKernel_coarse ?cKSKernel_coarse ?jKSKernel_coarse ?wKSKernel_coarse (fun _ _ _ _ _ _ us mv ws h1 h2 h3 => match us, mv, ws, h1, h2, h3 with | [_, _, _], [_, _, _, _], [_], _, _, _ => ⟨_, _, _, _, _, _, rfl, rfl, ⟨_, _, _, _, _, _, rfl, rfl, ⟨_, _, _, _, _, _, rfl, rfl, ⟨_, _, _, _, _, _, rfl, rfl, rfl⟩⟩⟩⟩)) ?rKSKernel_coarse
    (case aKSKernel_coarse => k_is); (case lKSKernel_coarse => k_is); (case cKSKernel_coarse => k_is); (case jKSKernel_coarse => k_is); (case wKSKernel_coarse => (refine' (.num ?KSKernel_coarse_0 (.num ?KSKernel_coarse_1 (.num ?KSKernel_coarse_2 (.none ?KSKernel_coarse_3 .nil)))); (case KSKernel_coarse_0 => k_is); (case KSKernel_coarse_1 => k_is); (case KSKernel_coarse_2 => k_is); (case KSKernel_coarse_3 => k_is)))
    intro KSKernel_coarse
    refine' TK.use (My.Txt.mk (mg := mg) ?f0 ?f1 ?f2 ?f3 ?f4 ?f5 ?f6 ?f7 ?f8 ?f9 ?f10 ?f11 ?f12 ?f13 ?f14 ?f15 ?f16 ?f17 ?f18 ?f19 ?f20 ?f21 LState LSegment LSettings LKernel ?nState_settings ?nState_cycle ?nState_now ?nState_segments ?nState_owners ?nState_made ?nState_over ?nState_limits ?nState_asleep ?nState_live ?nState_expired_times ?nState_slot_of ?nState_slots ?nState_untaken ?nState_broken ?nState_rung ?nState_halted ?nState_samples ?nState_rows ?nState_forecast ?nSegment_start ?nSegment_shift ?nSegment_mult ?nSegment_worth ?nSegment_before ?nSegment_left ?nSegment_step ?nSegment_queues ?nSegment_owners ?nSegment_shares ?nSettings_width ?nSettings_rate ?nSettings_processors ?nSettings_tick ?nSettings_base ?nSettings_levels ?nSettings_coarse ?nKernel_state UPLAIN_CLOCKS) ?rT
    (case f0 => (refine' PySem.W.mg_none_of KX G ?z0; (case z0 => k_is)))
    (case f1 => (refine' PySem.W.mg_none_of KX G ?z1; (case z1 => k_is)))
    (case f2 => (refine' PySem.W.mg_none_of KX G ?z2; (case z2 => k_is)))
    (case f3 => (refine' PySem.W.mg_none_of KX G ?z3; (case z3 => k_is)))
    (case f4 => (refine' PySem.W.mg_none_of KX G ?z4; (case z4 => k_is)))
    (case f5 => (refine' PySem.W.mg_none_of KX G ?z5; (case z5 => k_is)))
    (case f6 => (refine' PySem.W.mg_none_of KX G ?z6; (case z6 => k_is)))
    (case f7 => (refine' PySem.W.mg_none_of KX G ?z7; (case z7 => k_is)))
    (case f8 => (refine' PySem.W.mg_none_of KX G ?z8; (case z8 => k_is)))
    (case f9 => (refine' PySem.W.mg_none_of KX G ?z9; (case z9 => k_is)))
    (case f10 => (refine' PySem.W.mg_none_of KX G ?z10; (case z10 => k_is)))
    (case f11 => (refine' PySem.W.mg_none_of KX G ?z11; (case z11 => k_is)))
    (case f12 => (refine' PySem.W.mg_none_of KX G ?z12; (case z12 => k_is)))
    (case f13 => (refine' PySem.W.mg_none_of KX G ?z13; (case z13 => k_is)))
    (case f14 => (refine' PySem.W.mg_none_of KX G ?z14; (case z14 => k_is)))
    (case f15 => (refine' PySem.W.mg_none_of KX G ?z15; (case z15 => k_is)))
    (case f16 => (refine' TK.gint_mk KX G ?z16; (case z16 => k_is)))
    (case f17 => (refine' TK.gint_mk KX G ?z17; (case z17 => k_is)))
    (case f18 => (refine' TK.gint_mk KX G ?z18; (case z18 => k_is)))
    (case f19 => (refine' TK.gint_mk KX G ?z19; (case z19 => k_is)))
    (case f20 => (refine' TK.gint_mk KX G ?z20; (case z20 => k_is)))
    (case f21 => (refine' TK.gint_mk KX G ?z21; (case z21 => k_is)))
    (case nState_settings => (unfold L2.NoAttr; k_is))
    (case nState_cycle => (unfold L2.NoAttr; k_is))
    (case nState_now => (unfold L2.NoAttr; k_is))
    (case nState_segments => (unfold L2.NoAttr; k_is))
    (case nState_owners => (unfold L2.NoAttr; k_is))
    (case nState_made => (unfold L2.NoAttr; k_is))
    (case nState_over => (unfold L2.NoAttr; k_is))
    (case nState_limits => (unfold L2.NoAttr; k_is))
    (case nState_asleep => (unfold L2.NoAttr; k_is))
    (case nState_live => (unfold L2.NoAttr; k_is))
    (case nState_expired_times => (unfold L2.NoAttr; k_is))
    (case nState_slot_of => (unfold L2.NoAttr; k_is))
    (case nState_slots => (unfold L2.NoAttr; k_is))
    (case nState_untaken => (unfold L2.NoAttr; k_is))
    (case nState_broken => (unfold L2.NoAttr; k_is))
    (case nState_rung => (unfold L2.NoAttr; k_is))
    (case nState_halted => (unfold L2.NoAttr; k_is))
    (case nState_samples => (unfold L2.NoAttr; k_is))
    (case nState_rows => (unfold L2.NoAttr; k_is))
    (case nState_forecast => (unfold L2.NoAttr; k_is))
    (case nSegment_start => (unfold L2.NoAttr; k_is))
    (case nSegment_shift => (unfold L2.NoAttr; k_is))
    (case nSegment_mult => (unfold L2.NoAttr; k_is))
    (case nSegment_worth => (unfold L2.NoAttr; k_is))
    (case nSegment_before => (unfold L2.NoAttr; k_is))
    (case nSegment_left => (unfold L2.NoAttr; k_is))
    (case nSegment_step => (unfold L2.NoAttr; k_is))
    (case nSegment_queues => (unfold L2.NoAttr; k_is))
    (case nSegment_owners => (unfold L2.NoAttr; k_is))
    (case nSegment_shares => (unfold L2.NoAttr; k_is))
    (case nSettings_width => (unfold L2.NoAttr; k_is))
    (case nSettings_rate => (unfold L2.NoAttr; k_is))
    (case nSettings_processors => (unfold L2.NoAttr; k_is))
    (case nSettings_tick => (unfold L2.NoAttr; k_is))
    (case nSettings_base => (unfold L2.NoAttr; k_is))
    (case nSettings_levels => (unfold L2.NoAttr; k_is))
    (case nSettings_coarse => (unfold L2.NoAttr; k_is))
    (case nKernel_state => (unfold L2.NoAttr; k_is))
    intro T
    exact TK.law_end DLaw hmg (fun base _ _ => My.all DLCellAt DLMixed DLSource DLNext DIsInteger DIsWithin DIsAtLeast DCheckWidth DCheckShift DCheckRate DCheckReading DCheckTick DCheckReadingFromZero DSettingsInit DCheckedLevels DCheckedSettings DSegmentInit DSegmentSlewed DSegmentValue DSegmentReading DSharesOf DTurned DSegmentDriven DSegmentOpened DStateInit DStateCopied DStateCourse DStateDraft DStateReading DPartsLeft DChangeRate DChangeReal DBeginSlew DHalt DIsPlain DResume DCheckClock DDueTimers DSlotsBegun DLimitsReached DAwaited DHappen DSettle DNextEvent DAdvance DFirstState DKernelGoing DKernelBegun DKernelDone DKernelInit DKernelLook DKernelRead DKernelCount DKernelMissed DKernelLast DKernelSlewLeft DBreakTimers DKernelSetRate DKernelSetReal DKernelSlew DKernelStop DKernelGo DLCounts DLDeed DLStands DLaw KSKernel_coarse T)
