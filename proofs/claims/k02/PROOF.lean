import PyProof.Rows.All
import Wide.All
import OpenK.AllK
import Wide.FinOn
import HandS.ForMost
import HandS.Wide
import HandS.IsInst
import HandS.RaiseMore
import HandS.Defaults
import HandS.EndBits
import HandS.ForExc
import HandS.ExcInit
import HandS.ExcField
import HandS.ClsMeth
import HandS.Property
import HandS.MakeKw
import HandS.SlotsOwn
import HandS.TryMany
import KE.SortData
import KE.DatumOrd
import KE.SortCalls
import HandS.DictComp
import HandS.Sort
import HandS.Conv
import HandS.MakeKwOnly
import HandS.Walk
import HandS.ExcOwn
import PySem.Challenge.RW_surehollows_k02_bounds_and_their_signs
set_option Elab.async false
set_option linter.all false
set_option maxRecDepth 100000
/-! Words that the proofs of these laws share: a callee with all that its call wants, a module's name, the drawn numbers. -/
namespace L9
open PySem PySem.Spec PyProof.Rows L2

/-- the module's name x holds v -/
def GlV (mg : Str → Option Value) (x : Str) (v : V) : Prop := ∃ u, mg x = some u ∧ RelV v u

/-- the def x, with all that a call of it wants -/
structure Cal (P : Program) (w : World) (K : PySem.W.Frag) (mg : Str → Option Value) (base : Heap) (x : Str) (k : Nat) (ps : List Str) (sp : Sp) : Prop where
  ex : ∃ (f : Addr) (fd : FuncData), FnOk P w K mg base CX0 k f fd ps sp ∧ mg x = some (.ref f) ∧ PySem.W.keepIn K (.ref f) = true ∧ Binds K fd ps []

section
variable {X : Cx}
theorem pe_cal {x : Str} {k : Nat} {ps : List Str} {sp : Sp} {p pos : Pos} {e : Expr} {es : List Expr} {t : TA} (C : Cal X.prog X.w X.K X.mg X.base x k ps sp) (hr : Room k X.A) (hg : Gl X x) (ha : PA X (e :: es) t)
    (hdb : (x == ("__debug__" : Str)) = false := by decide) (he : starEach (e :: es) X.env = (false, eval e X.env) :: starEach es X.env := by rfl) (hpl : (backTo pos (starEach es X.env)).any (·.1) = false := by rfl) :
    PE X (.Call (.Name x p) (e :: es) [] pos) (tCall sp [] E0 t) := by
  obtain ⟨f, fd, G, m, kp, b⟩ := C.ex
  exact pe_call G hr hg m kp b .nil pass0 ha hdb he hpl
theorem pe_gl {x : Str} {v : V} {pos : Pos} (h : GlV X.mg x v) (hg : Gl X x := by rfl) (hd : (x == ("__debug__" : Str)) = false := by decide) : PE X (.Name x pos) (tC v) := by
  obtain ⟨u, hm, r⟩ := h
  exact pe_glob hg hm r hd
theorem pe_ty {x : Str} {T : String} {pos : Pos} (hg : Gl X x) (hm : X.mg x = none) (hv : bootBuiltins x = some (.type T) := by decide +kernel) (hn : x ≠ "__name__" := by decide) (hd : (x == ("__debug__" : Str)) = false := by decide) : PE X (.Name x pos) (tC (.ty T)) :=
  pe_bltn hg hm hv rfl hn hd
/-- True, False as texts -/
def blT (b : Bool) : Str := if b then "True" else "False"
theorem blT_inj {a b : Bool} (h : blT a = blT b) : a = b := by
  cases a <;> cases b
  · rfl
  · exact absurd h (by decide +kernel)
  · exact absurd h (by decide +kernel)
  · rfl
theorem blT_dec (a b : Bool) : decide (V.str (blT a) = V.str (blT b)) = decide (a = b) := by
  by_cases h : a = b
  · subst h
    rw [decide_eq_true rfl, decide_eq_true rfl]
  · rw [decide_eq_false h, decide_eq_false]
    intro z
    exact h (blT_inj (V.str.inj z))
theorem call_repr_bl : CallR X (.builtin "repr") (fun xs H Q => ∃ b, xs = [.bl b] ∧ Q (.str (blT b)) H) := by
  intro pins s σ H xs us Q I r h
  obtain ⟨b, rfl, q⟩ := h
  obtain ⟨u, rfl, rb⟩ := vals1 r
  cases (show u = Value.bool b from rb)
  exact PySem.P.repr_of_bool ⟨.str _, H, I.tok _, ⟨_, rfl⟩, q⟩
/-- s * 2 of one sign -/
theorem op_mul_str2 : OpR X (binaryOp .Mult) (fun x y H Q => ∃ (z : Str) (n : Int), x = .str z ∧ y = .int n ∧ MulOk z n ∧ Q (.str (Txt.mul z n)) H) := by
  intro pins s σ H x y v u Q I rx ry h
  obtain ⟨z, n, rfl, rfl, hz, q⟩ := h
  obtain ⟨t, rfl⟩ := rx
  obtain ⟨t', rfl⟩ := ry
  exact SB.mul hz fun t' k => ⟨.str (Txt.mul z n), H, I.tok _, ⟨_, rfl⟩, q⟩
/-- the def x, called with n values by place and the keywords ks -/
structure CalK (P : Program) (w : World) (K : PySem.W.Frag) (mg : Str → Option Value) (base : Heap) (x : Str) (k : Nat) (ps : List Str) (n : Nat) (ks : List Str) (gV : List V → List V → List V) (sp : Sp) : Prop where
  ex : ∃ (f : Addr) (fd : FuncData) (g : List Value → List Value → List Value), FnOk P w K mg base CX0 k f fd ps sp ∧ mg x = some (.ref f) ∧ PySem.W.keepIn K (.ref f) = true ∧ KBn K fd ps n ks g gV
/-- f(k = v, ..): keywords alone -/
theorem pe_calK0 {x : Str} {k : Nat} {ps ks : List Str} {gV : List V → List V → List V} {sp : Sp} {p pos : Pos} {kws : List Keyword} {tk : TA} (C : CalK X.prog X.w X.K X.mg X.base x k ps 0 ks gV sp) (hr : Room k X.A) (hg : Gl X x) (hkw : PK X kws tk)
    (hall : (backToKw pos (keywordEach kws X.env)).all (·.1.isSome) = true := by rfl) (hks : (backToKw pos (keywordEach kws X.env)).filterMap (·.1) = ks := by rfl)
    (hdb : (x == ("__debug__" : Str)) = false := by decide) (hpl : ((backTo pos (starEach [] X.env)).any (·.1) || (backToKw pos (keywordEach kws X.env)).any (·.1.isNone)) = false := by rfl) :
    PE X (.Call (.Name x p) [] kws pos) (tCallN 0 ks.length sp gV E0 tNil tk) := by
  obtain ⟨f, fd, g, G, m, kp, b⟩ := C.ex
  refine ⟨fun pins s σ H Q I h => ?_⟩
  refine wpAny_Call_Name_kw (ld_glob I hg m ?_ hdb)
  refine PySem.W.callWith_KW0 (h₀ := X.base) I.ok.mod.kin kp hall (thn (hkw.run pos pins s σ H _ I h) fun ws s2 ⟨zs, H2, I2, rz, l1, l2, q2⟩ => ⟨I2.kIn, ?_⟩) hpl
  rw [hks]
  exact run_fnN (us := []) G hr b pass0 I2 .nil rz l1 l2 q2
theorem tyes {A B : Hp → Prop} {σ : L2.St} {H : Hp} (h : A H) : tYes σ H fun b H3 => if b = true then A H3 else B H3 := by
  unfold tYes
  show if true = true then A H else B H
  rw [if_pos rfl]
  exact h
/-- a comprehension over a text -/
theorem lc_str {x : Str} {g : TG} {tt : TT} {te : TE} {vs : List Nat} {σ : L2.St} {H1 : Hp} {D : Addr} {Qd : Hp → Prop} (Pv : Nat → Hp → Prop) (h0 : Pv 0 (upd H1 D (.lst [])))
    (hs : ∀ i c H, x.cps[i]? = some c → Pv i H → g (.str ⟨#[c]⟩) (wipe σ vs) H fun σ2 H2 => wipe σ2 vs = wipe σ vs ∧ tt σ2 H2 fun b H3 =>
      if b = true then te σ2 H3 fun y H4 => ∃ acc, H4 D = some (.lst acc) ∧ acc.length < sizeLine ∧ Pv (i + 1) (upd H4 D (.lst (acc ++ [y]))) else Pv (i + 1) H3) (hd : ∀ H, Pv x.cps.size H → Qd H) :
    ∃ W : Nat → Nat → Hp → Prop, (∃ m, W 0 m (upd H1 D (.lst []))) ∧ ∀ i m H, W i m H →
      ((Its x).stop i H ∧ Qd H) ∨ ((Its x).go i H ∧ ∃ Nx : Hp → Prop, (∀ H', Nx H' → ∃ m', m' < m ∧ W (i + 1) m' H') ∧ ∀ y H', (Its x).yld i H y H' → g y (wipe σ vs) H' fun σ2 H2 => wipe σ2 vs = wipe σ vs ∧ tt σ2 H2 fun b H3 =>
        if b = true then te σ2 H3 fun y H4 => ∃ acc, H4 D = some (.lst acc) ∧ acc.length < sizeLine ∧ Nx (upd H4 D (.lst (acc ++ [y]))) else Nx H3) := by
  refine ⟨fun i m H => m = x.cps.size - i ∧ i ≤ x.cps.size ∧ Pv i H, ⟨x.cps.size, by simp, Nat.zero_le _, h0⟩, ?_⟩
  rintro i m H ⟨rfl, hi, p⟩
  by_cases hlt : i < x.cps.size
  · refine .inr ⟨hlt, Pv (i + 1), fun H' p' => ⟨x.cps.size - (i + 1), by omega, rfl, hlt, p'⟩, fun y H' hy => ?_⟩
    obtain ⟨e, c, hc, ey⟩ := hy
    subst e ey
    exact hs i c _ hc p
  · have e : i = x.cps.size := by omega
    subst e
    exact .inl ⟨Nat.le_refl _, hd H p⟩
end
theorem hu64 {A : Around} {k : Nat} (hr : Room k A) : A.units + 64 < cLine := Nat.lt_of_le_of_lt (Nat.add_le_add_left (by omega) _) hr.units

/-! ### heaps -/
theorem same_upd {H : Hp} {p : Addr} {o : HO} (h : H p = none) : Same H (upd H p o) := fun b x e => by
  rw [upd_ne (ne_of_none e h)]
  exact e

/-! ### data -/
theorem canLay_strs : ∀ l : List Str, (∀ x ∈ l, PyData.strOk x = true) → PyData.canLayAll0 (l.map PyData.str) = true
  | [], _ => by simp [PyData.canLayAll0]
  | x :: l, h => by simp [PyData.canLayAll0, PyData.canLay0, canLay_strs l (fun y hy => h y (List.mem_cons_of_mem _ hy)), h x List.mem_cons_self]
theorem depth_strs : ∀ l : List Str, PyData.depthAll (l.map PyData.str) = 0
  | [] => by simp [PyData.depthAll]
  | x :: l => by simp [PyData.depthAll, PyData.depth, depth_strs l]
theorem shaped_strs (l : List Str) (h : ∀ x ∈ l, PyData.strOk x = true) : SeqAt.shaped (.list (l.map PyData.str)) = true := by
  unfold SeqAt.shaped
  simp [PyData.canLay0, canLay_strs l h, PyData.depth, depth_strs l]
theorem shaped_nil : SeqAt.shaped (.list []) = true := shaped_strs [] (fun _ h => nomatch h)
theorem strOk_one {z : Str} (hz : PyData.strOk z = true) {c : Nat} (hc : c ∈ z.cps.toList) : PyData.strOk ⟨#[c]⟩ = true := by
  unfold PyData.strOk at hz ⊢
  rw [Array.all_eq_true'] at hz
  have h1 := hz c (Array.mem_toList_iff.mp hc)
  simpa using h1
theorem dp_strs {K : PySem.W.Frag} {H : Hp} : ∀ l : List Str, DpAll K H (l.map V.str) (l.map PyData.str)
  | [] => .nil
  | x :: l => .cons (.str x) (dp_strs l)
theorem eqv_strs_nil : ∀ l : List Str, PyData.eqv (.list (l.map PyData.str)) (.list []) = l.isEmpty
  | [] => by simp [PyData.eqv, PyData.eqvAll]
  | x :: l => by simp [PyData.eqv, PyData.eqvAll]
/-! ### names -/
def inL (c : Nat) : Bool := decide (c ∈ ("abcdefghijklmnopqrstuvwxyz" : Str).cps.toList)
theorem filter_all : ∀ l : List Nat, ((l.filter fun c => !inL c).map fun c => (⟨#[c]⟩ : Str)).isEmpty = l.all inL
  | [] => rfl
  | c :: l => by
    rw [List.filter_cons, List.all_cons]
    cases h : inL c with
    | true =>
      rw [Bool.not_true, if_neg Bool.false_ne_true, Bool.true_and]
      exact filter_all l
    | false =>
      rw [Bool.not_false, if_pos rfl]
      rfl
def lets : Str := "abcdefghijklmnopqrstuvwxyz"
/-- whether all signs of a text are letters -/
def allLets (z : Str) : Bool := z.cps.toList.all fun c => decide (c ∈ lets.cps.toList)
def nameB (z : Str) : Bool := decide ((1 : Int) ≤ (z.length : Int)) && decide ((z.length : Int) ≤ 8) && allLets z
/-- a value of a kind that is known and no T -/
def Off (K : PySem.W.Frag) (H : Hp) (T : String) (v : V) : Prop := ∃ t : String, TyX K H v (.type t) ∧ kitB t T = some false
/-- the law's own look at a text -/
def spNamed : Sp := fun vs H Q _ => ∃ z : Str, vs = [.str z] ∧ z.length ≤ sizeLine ∧ PyData.strOk z = true ∧ ∀ H', Same H H' → Q (.bl (nameB z)) H'
def spIsName (K : PySem.W.Frag) : Sp := fun vs H Q _ => ∃ v : V, vs = [v] ∧ ((∃ z : Str, v = .str z ∧ z.length ≤ sizeLine ∧ ∀ H', Same H H' → Q (.bl (nameB z)) H') ∨ (Off K H "str" v ∧ Q (.bl false) H))
def MH : Int := 10 ^ 12
def heightB (i : Int) : Bool := decide (-MH ≤ i) && decide (i ≤ MH)
def spIsHeight (K : PySem.W.Frag) : Sp := fun vs H Q _ => ∃ v : V, vs = [v] ∧ ((∃ i : Int, v = .int i ∧ Q (.bl (heightB i)) H) ∨ ((∃ b, v = .bl b) ∧ Q (.bl false) H) ∨ (Off K H "int" v ∧ Q (.bl false) H))
/-! ### the drawn numbers -/
/-- a box whose numbers were drawn at most n times -/
def BoxV (n : Nat) (xs : List V) : Prop := ∃ x y z : Int, xs = [.int x, .int y, .int z] ∧ 0 ≤ x ∧ 0 ≤ y ∧ y < 2147483629 ∧ 0 ≤ z ∧ z ≤ n
def BoxAt (H : Hp) (b : Addr) (n : Nat) : Prop := ∃ xs, H b = some (.lst xs) ∧ BoxV n xs
theorem BoxV.mono {n m : Nat} {xs : List V} (h : BoxV n xs) (hnm : n ≤ m) : BoxV m xs := by
  obtain ⟨x, y, z, e, h1, h2, h3, h4, h5⟩ := h
  exact ⟨x, y, z, e, h1, h2, h3, h4, by omega⟩
def spTake : Sp := fun vs H Q _ => ∃ (b : Addr) (m : Int) (n : Nat), vs = [.ref b, .int m] ∧ BoxAt H b n ∧ 0 < m ∧ m ≤ 10 ^ 15 ∧ n ≤ 1000000 ∧
  ∀ (r : Int) (xs : List V), 0 ≤ r → r < m → BoxV (n + 1) xs → Q (.int r) (upd H b (.lst xs))
def spBox : Sp := fun vs H Q _ => ∃ c : Int, vs = [.int c] ∧ ∀ (p : Addr) (xs : List V), H p = none → BoxV 0 xs → Q (.ref p) (upd H p (.lst xs))
def spCellA (K : PySem.W.Frag) : Sp := fun vs H Q _ => ∃ (l : Addr) (ns : List Int) (j : Int), vs = [.ref l, .int j] ∧ SqL K H l (ns.map V.int) ∧ ns.length ≤ 63 ∧ 0 ≤ j ∧ j ≤ 1000 ∧ ∀ c : Int, Q (.int c) H
/-- a turn's heap: what stood at its start (H0) stands, and the box b, made behind it, was drawn from at most n times -/
structure Trn (H0 H : Hp) (b : Addr) (n : Nat) : Prop where
  same : Same H0 H
  free : H0 b = none
  box : BoxAt H b n
theorem Trn.take {H0 H : Hp} {b : Addr} {n : Nat} (t : Trn H0 H b n) {xs : List V} (h : BoxV (n + 1) xs) : Trn H0 (upd H b (.lst xs)) b (n + 1) :=
  ⟨fun c o e => by
    rw [upd_ne (ne_of_none e t.free)]
    exact t.same c o e, t.free, ⟨xs, upd_same, h⟩⟩
theorem Trn.go {H0 H H' : Hp} {b : Addr} {n : Nat} (t : Trn H0 H b n) (s : Same H H') : Trn H0 H' b n := by
  obtain ⟨xs, e, h⟩ := t.box
  exact ⟨t.same.trans s, t.free, ⟨xs, s _ _ e, h⟩⟩
theorem Trn.ne {H0 H : Hp} {b p : Addr} {n : Nat} (t : Trn H0 H b n) (np : H p = none) : p ≠ b := by
  intro e
  obtain ⟨xs, hb, _⟩ := t.box
  rw [e, hb] at np
  cases np
theorem Same.new {H H' : Hp} {p : Addr} {o : HO} (s : Same H H') (np : H' p = none) : Same H (upd H' p o) := s.trans (same_upd np)
theorem Same.at {H H' : Hp} {p : Addr} {o : HO} (s : Same H H') (np : H p = none) : Same H (upd H' p o) := fun b x e => by
  rw [upd_ne (ne_of_none e np)]
  exact s b x e
theorem Trn.at {H0 H : Hp} {b p : Addr} {n : Nat} {o : HO} (t : Trn H0 H b n) (np : H0 p = none) (hpb : p ≠ b) : Trn H0 (upd H p o) b n := by
  obtain ⟨xs, e, h⟩ := t.box
  exact ⟨Same.at t.same np, t.free, xs, (upd_ne hpb.symm).trans e, h⟩
theorem Trn.new {H0 H : Hp} {b p : Addr} {n : Nat} {o : HO} (t : Trn H0 H b n) (np : H p = none) : Trn H0 (upd H p o) b n := t.go (same_upd np)
/-- from H to H' at most the box b was changed, among what stood -/
structure Drw (H H' : Hp) (b : Addr) (n : Nat) : Prop where
  keep : ∀ q o, q ≠ b → H q = some o → H' q = some o
  box : BoxAt H' b n
theorem Trn.drw {H0 H H' : Hp} {b : Addr} {n m : Nat} (t : Trn H0 H b n) (d : Drw H H' b m) : Trn H0 H' b m :=
  ⟨fun q o e => d.keep q o (ne_of_none e t.free) (t.same q o e), t.free, d.box⟩
theorem Drw.take {H H' : Hp} {b : Addr} {n : Nat} {xs : List V} (d : Drw H H' b n) (h : BoxV (n + 1) xs) : Drw H (upd H' b (.lst xs)) b (n + 1) :=
  ⟨fun q o hq e => (upd_ne hq).trans (d.keep q o hq e), xs, upd_same, h⟩
theorem Drw.refl {H : Hp} {b : Addr} {n : Nat} (h : BoxAt H b n) : Drw H H b n := ⟨fun _ _ _ e => e, h⟩
theorem Drw.new {H H' : Hp} {b p : Addr} {n : Nat} {o : HO} (d : Drw H H' b n) (np : H' p = none) : Drw H (upd H' p o) b n := by
  obtain ⟨xs, e, h⟩ := d.box
  exact ⟨fun q u hq e2 => same_upd np _ _ (d.keep q u hq e2), xs, same_upd np _ _ e, h⟩
theorem Drw.go {H H' H2 : Hp} {b : Addr} {n : Nat} (d : Drw H H' b n) (s : Same H' H2) : Drw H H2 b n := by
  obtain ⟨xs, e, h⟩ := d.box
  exact ⟨fun q u hq e2 => s _ _ (d.keep q u hq e2), xs, s _ _ e, h⟩
theorem Drw.trans {H H' H2 : Hp} {b : Addr} {n m : Nat} (d : Drw H H' b n) (e : Drw H' H2 b m) : Drw H H2 b m := ⟨fun q u hq h => e.keep q u hq (d.keep q u hq h), e.box⟩
theorem Drw.ne {H H' : Hp} {b p : Addr} {n : Nat} (d : Drw H H' b n) (np : H' p = none) : p ≠ b := by
  intro e
  obtain ⟨xs, h, _⟩ := d.box
  rw [e, h] at np
  cases np
/-! ### words -/
theorem join_signs : ∀ cs : List Nat, Str.join (⟨#[]⟩ : Str) (cs.map fun c => (⟨#[c]⟩ : Str)) = ⟨cs.toArray⟩
  | [] => rfl
  | [c] => rfl
  | c :: d :: r => by
    have ih := join_signs (d :: r)
    show ((⟨#[c]⟩ : Str) ++ (⟨#[]⟩ : Str)) ++ Str.join (⟨#[]⟩ : Str) ((d :: r).map fun c => (⟨#[c]⟩ : Str)) = _
    rw [ih]
    show (⟨(#[c] ++ #[]) ++ (d :: r).toArray⟩ : Str) = ⟨(c :: d :: r).toArray⟩
    congr 1
    simp
theorem txt_join_signs (cs : List Nat) : Txt.join (⟨#[]⟩ : Str) (cs.map fun c => (⟨#[c]⟩ : Str)) = ⟨cs.toArray⟩ := by
  show Builtin.Str.glued _ _ = _
  rw [StrLaws.glued_eq_join]
  exact join_signs cs
theorem sum_signs : ∀ cs : List Nat, ((cs.map fun c => (⟨#[c]⟩ : Str)).map (·.length)).sum = cs.length
  | [] => rfl
  | c :: r => by
    rw [List.map_cons, List.map_cons, List.sum_cons, sum_signs r, List.length_cons]
    show 1 + r.length = r.length + 1
    omega
theorem ok_of_codes {z : Str} (h : ∀ c ∈ z.cps.toList, c < 1114112) : PyData.strOk z = true := by
  unfold PyData.strOk
  rw [Array.all_eq_true']
  intro c hc
  exact decide_eq_true (h c (Array.mem_toList_iff.mpr hc))
theorem codes_of_ok {z : Str} (h : PyData.strOk z = true) : ∀ c ∈ z.cps.toList, c < 1114112 := by
  intro c hc
  unfold PyData.strOk at h
  rw [Array.all_eq_true'] at h
  exact of_decide_eq_true (h c (Array.mem_toList_iff.mp hc))
theorem ok_app {a b : Str} (ha : PyData.strOk a = true) (hb : PyData.strOk b = true) : PyData.strOk (a ++ b) = true := by
  refine ok_of_codes fun c hc => ?_
  have e : (a ++ b).cps.toList = a.cps.toList ++ b.cps.toList := by
    show (a.cps ++ b.cps).toList = _
    rw [Array.toList_append]
  rw [e] at hc
  rcases List.mem_append.mp hc with h | h
  · exact codes_of_ok ha c h
  · exact codes_of_ok hb c h
theorem len_app (a b : Str) : (a ++ b).length = a.length + b.length := by
  show (a.cps ++ b.cps).size = _
  rw [Array.size_append]
  rfl
theorem ok_cut {z : Str} (h : PyData.strOk z = true) (lo hi : Option Int) : PyData.strOk (cutS z lo hi) = true := by
  refine ok_of_codes fun c hc => ?_
  unfold cutS at hc
  exact codes_of_ok h c (List.mem_of_mem_drop (List.mem_of_mem_take hc))
theorem len_cut (z : Str) (lo hi : Option Int) : (cutS z lo hi).length ≤ z.length := by
  unfold cutS
  show (List.toArray _).size ≤ z.cps.size
  rw [List.size_toArray, List.length_take, List.length_drop, Array.length_toList]
  omega
theorem mul_one_sign (c : Nat) : MulOk ⟨#[c]⟩ 2 ∧ Txt.mul ⟨#[c]⟩ 2 = ⟨#[c, c]⟩ := by
  refine ⟨⟨by decide, fun _ _ => ?_, fun _ _ => ?_⟩, ?_⟩
  · show ¬ ((1 : Int) > (2 ^ 63 - 1) / 2)
    decide
  · show Builtin.Str.tooLong (1 * 2) = false
    decide
  · unfold Txt.mul
    rw [if_neg (by decide), if_neg (by show ¬ (((2 : Int) == 1 || (1 : Nat) == 0) = true); decide)]
    rfl
theorem allLets_of {z : Str} (h : ∀ c ∈ z.cps.toList, c ∈ lets.cps.toList) : allLets z = true := by
  unfold allLets
  rw [List.all_eq_true]
  exact fun c hc => decide_eq_true (h c hc)
theorem lets_small : ∀ c ∈ lets.cps.toList, c < 1114112 := by decide +kernel
theorem lets_len : lets.cps.toList.length = 26 := by decide +kernel
theorem off_non {K : PySem.W.Frag} {H : Hp} {T : String} (h : kitB "NoneType" T = some false) : Off K H T .non := ⟨_, .base .non, h⟩
theorem off_bl {K : PySem.W.Frag} {H : Hp} {T : String} {b : Bool} (h : kitB "bool" T = some false) : Off K H T (.bl b) := ⟨_, .base (.bl b), h⟩
theorem off_int {K : PySem.W.Frag} {H : Hp} {T : String} {b : Int} (h : kitB "int" T = some false) : Off K H T (.int b) := ⟨_, .base (.int b), h⟩
theorem off_str {K : PySem.W.Frag} {H : Hp} {T : String} {b : Str} (h : kitB "str" T = some false) : Off K H T (.str b) := ⟨_, .base (.str b), h⟩
theorem off_lst {K : PySem.W.Frag} {H : Hp} {T : String} {p : Addr} {xs : List V} (e : H p = some (.lst xs)) (h : kitB "list" T = some false) : Off K H T (.ref p) := ⟨_, .base (.lst e), h⟩
theorem off_tup {K : PySem.W.Frag} {H : Hp} {T : String} {p : Addr} {xs : List V} (e : H p = some (.tup xs)) (h : kitB "tuple" T = some false) : Off K H T (.ref p) := ⟨_, .base (.tup e), h⟩
theorem off_dK {K : PySem.W.Frag} {H : Hp} {T : String} {p : Addr} {xs : List (Key × V)} (e : H p = some (.dK xs)) (h : kitB "dict" T = some false) : Off K H T (.ref p) := ⟨_, .base (.dK e), h⟩
theorem k_NoneType_str : kitB "NoneType" "str" = some false := by decide +kernel
theorem k_bool_str : kitB "bool" "str" = some false := by decide +kernel
theorem k_int_str : kitB "int" "str" = some false := by decide +kernel
theorem k_list_str : kitB "list" "str" = some false := by decide +kernel
theorem k_tuple_str : kitB "tuple" "str" = some false := by decide +kernel
theorem k_dict_str : kitB "dict" "str" = some false := by decide +kernel
theorem k_NoneType_int : kitB "NoneType" "int" = some false := by decide +kernel
theorem k_str_int : kitB "str" "int" = some false := by decide +kernel
theorem k_list_int : kitB "list" "int" = some false := by decide +kernel
theorem k_tuple_int : kitB "tuple" "int" = some false := by decide +kernel
theorem k_dict_int : kitB "dict" "int" = some false := by decide +kernel
/-- the built-ins that the drawn numbers and is_height want -/
structure Bt (mg : Str → Option Value) : Prop where
  m_len : mg "len" = none
  m_int : mg "int" = none
  m_max : mg "max" = none
structure Bh (mg : Str → Option Value) : Prop where
  m_int : mg "int" = none
  m_bool : mg "bool" = none
  m_isinstance : mg "isinstance" = none
  m_MOST_HEIGHT : GlV mg "MOST_HEIGHT" (.int MH)
theorem kit_bi : kitB "bool" "int" = some true := by decide +kernel
theorem kit_bb : kitB "bool" "bool" = some true := by decide +kernel
theorem kit_ii : kitB "int" "int" = some true := by decide +kernel
theorem kit_ib : kitB "int" "bool" = some false := by decide +kernel
theorem kit_ss : kitB "str" "str" = some true := by decide +kernel
/-- a value that is no int -/
def NoI (K : PySem.W.Frag) (H : Hp) (v : V) : Prop := (∃ b, v = .bl b) ∨ Off K H "int" v
/-- a value that is no height -/
def NoH (K : PySem.W.Frag) (H : Hp) (v : V) : Prop := (∃ i, v = .int i ∧ heightB i = false) ∨ NoI K H v
theorem TyX.mono {K : PySem.W.Frag} {H H' : Hp} {v : V} {t : Value} (s : Same H H') (h : TyX K H v t) : TyX K H' v t := by
  cases h with
  | base h =>
    refine .base ?_
    cases h with
    | non => exact .non
    | bl x => exact .bl x
    | int i => exact .int i
    | str x => exact .str x
    | flt x => exact .flt x
    | lst e => exact .lst (s _ _ e)
    | frz e => exact .frz (s _ _ e)
    | tup e => exact .tup (s _ _ e)
    | dK e => exact .dK (s _ _ e)
    | dT e => exact .dT (s _ _ e)
    | ins e cl ha hn ht hm => exact .ins (s _ _ e) cl ha hn ht hm
  | byt b => exact .byt b
  | set e => exact .set (s _ _ e)
  | kList e c => exact .kList e c
  | kTuple e c => exact .kTuple e c
  | kDict e c => exact .kDict e c
  | fTuple e => exact .fTuple (s _ _ e)
  | fDict e => exact .fDict (s _ _ e)
theorem Off.mono {K : PySem.W.Frag} {H H' : Hp} {T : String} {v : V} (s : Same H H') (h : Off K H T v) : Off K H' T v := by
  obtain ⟨t, h1, h2⟩ := h
  exact ⟨t, TyX.mono s h1, h2⟩
theorem NoI.mono {K : PySem.W.Frag} {H H' : Hp} {v : V} (s : Same H H') (h : NoI K H v) : NoI K H' v := h.imp id (Off.mono s)
theorem NoH.mono {K : PySem.W.Frag} {H H' : Hp} {v : V} (s : Same H H') (h : NoH K H v) : NoH K H' v := h.imp id (NoI.mono s)
/-- how is_height answers a value that is no height -/
theorem isH_no {K : PySem.W.Frag} {H : Hp} {v : V} {Q : VK} {E : XK} (h : NoH K H v) (q : Q (.bl false) H) : spIsHeight K ([v] ++ []) H Q E := by
  rcases h with ⟨i, rfl, hi⟩ | h | h
  · refine ⟨_, rfl, .inl ⟨i, rfl, ?_⟩⟩
    rw [hi]
    exact q
  · exact ⟨_, rfl, .inr (.inl ⟨h, q⟩)⟩
  · exact ⟨_, rfl, .inr (.inr ⟨h, q⟩)⟩
theorem isH_yes {K : PySem.W.Frag} {H : Hp} {i : Int} {Q : VK} {E : XK} (h : heightB i = true) (q : Q (.bl true) H) : spIsHeight K ([V.int i] ++ []) H Q E := by
  refine ⟨_, rfl, .inl ⟨i, rfl, ?_⟩⟩
  rw [h]
  exact q
end L9

/-! Own classes: what is called on a class, made in a try, compared, added by the class's own defs; except clauses with names. -/
namespace L9
open PySem PySem.Spec PyProof.Rows L2

section
variable {X : Cx} {CX : CXT} {k : Nat} {C f g p : Addr} {fd : FuncData} {ps : List Str} {sp : Sp} {x m : Str} {p1 p2 pos : Pos} {e o : Expr} {es : List Expr} {t : TA} {ta tb : TE}

/-- the wish of a call, by the caller's slots; a fixed one too -/
theorem passAt_of {E : XK} (h : Passes CX X E) : ∀ σ, PassesAt CX X σ E := fun σ pins H s e s' I c => h pins σ H s e s' I c
theorem pass0A {E : L2.St → XK} : ∀ σ, PassesAt CX0 X σ (E σ) := fun _ _ _ _ _ _ _ h => h.elim

/-- C0.__init__(e, ..), C0 an own class whose __init__ is the def at f -/
theorem pe_cinit {C0 : Addr} {mc : Value} {E : L2.St → XK} {pl : Sem Bool} (hg : Gl X x) (hm : X.mg x = some (.ref C0)) (r : ClX.CRead X.K C0 mc) (c : ClX.CVal X.K C0 mc m (.ref f) (.ref f)) (hk : PySem.W.keepIn X.K (.ref f) = true)
    (F : FnOk X.prog X.w X.K X.mg X.base CX k f fd ps sp) (hr : Room k X.A) (hb : Binds X.K fd ps []) (hx : ∀ σ, PassesAt CX X σ (E σ)) (ha : PA X (e :: es) t)
    (hst : starEach (e :: es) X.env = (false, eval e X.env) :: starEach es X.env := by rfl) (hpl : (backTo pos (starEach es X.env)).any (·.1) = false := by rfl) (hdb : (x == ("__debug__" : Str)) = false := by decide)
    (ht : eval (.Call (.Attribute (.Name x p1) m p2) (e :: es) [] pos) X.env = (do
      let ov ← eval (.Name x p1) X.env
      standAt p2.atName
      let (f, first) ← holding [ov] (getMethod ov m pl)
      callWith pos f first (backTo pos (starEach (e :: es) X.env)) (backToKw pos (keywordEach [] X.env))) := by rfl) :
    PE X (.Call (.Attribute (.Name x p1) m p2) (e :: es) [] pos) (tCallS sp E t) := by
  refine ⟨fun pins s σ H Q I h => ?_⟩
  refine PySem.W.methodCall_KW (pl := pl) (ld_glob I hg hm ?_ hdb) ht
  refine PySem.W.method_cls I.kIn r.ga (ClX.getcval_ok I r c fun s1 I1 => ?_)
  refine PySem.W.callWith_K (first := []) (h₀ := X.base) I.ok.mod.kin hk (thn (ha.run pos pins s1 σ H _ I1 h) fun us s2 ⟨vs, H2, I2, rv, q⟩ => ⟨I2.kIn, ?_⟩) hst hpl
  exact run_fnS F hr hb (hx σ) I2 rv q

/-- in an except suite -/
theorem pe_fldS {a : Addr} {l : List (Addr × Obj)} {e : Expr} {f : Str} {pos : Pos} {ta : TE} (he : PE (X.suite a l) e ta) (hb : attributeBase e f X.env (eval e X.env) = eval e X.env := by rfl) : PE (X.suite a l) (.Attribute e f pos) (tFld X.K ta f) := pe_fld he hb
theorem op_eqDS {a : Addr} {l : List (Addr × Obj)} (hu : X.A.units + 64 < cLine) : OpR (X.suite a l) (compareOp .Eq) (rEqD X.K) := op_eqD (X := X.suite a l) hu
/-! ### an instance made where what is raised is wished for by the slots -/
theorem run_makeS {E : L2.St → XK} {pins : List (Addr × Obj)} {σ : L2.St} {H : Hp} {s : Shared} {Q : VK} {us : List Value} {vs : List V} (M : Mk X.K C f) (F : FnOk X.prog X.w X.K X.mg X.base CX k f fd ps sp) (hr : Room (k + 1) X.A)
    (hb : Binds X.K fd ps []) (hx : PassesAt CX X σ (E σ) ∨ True) (hx2 : ∀ (H2 : Hp) (s2 : Shared) (e : Value) (s' : Shared), Inv X pins σ H2 s2 → CX X.stack H2 s2 (E σ) e s' → X.xe e s') (I : Inv X pins σ H s) (rv : Vals vs us)
    (h : ∀ y dy, H y = none → H dy = none → dy ≠ y → sp (.ref y :: vs) (upd (upd H dy (.own y)) y (.ins C dy [])) (fun v H2 => v = .non ∧ Q (.ref y) H2) (E σ)) :
    wpAny (model X.prog X.w) X.A (call (.ref C) us) (EP X pins σ Q) X.xe s := by
  have hq := h (s.heap.objs.size + 1) s.heap.objs.size (I.hok.fresh (Nat.le_succ _)) (I.hok.fresh (Nat.le_refl _)) (Nat.ne_of_lt (Nat.lt_succ_self _))
  have J := Inv.made (C := C) I
  have rr : Vals (V.ref (s.heap.objs.size + 1) :: vs) (Value.ref (s.heap.objs.size + 1) :: us) := .cons rfl rv
  have ln : (Value.ref (s.heap.objs.size + 1) :: us).length = ps.length := by
    have z := rr.length
    rw [F.len _ _ _ _ hq] at z
    exact z.symm
  have bb := hb _ (Value.ref (s.heap.objs.size + 1) :: us) J.kIn (by rw [List.append_nil]; exact ln)
  rw [List.append_nil] at bb
  refine wpAny_call (make_map (f := f) I.kIn M.makes M.init (beq_iff_eq.mp M.fn) (codeAny_mono (F.run _ X.stack _ _ ⟨Value.ref (s.heap.objs.size + 1) :: us, []⟩ _ _ _ (E σ) (hr.make C us [])
    (J.env0.make C us []) bb rr hq) fun a s' z => ?_))
  cases a with
  | error e => exact hx2 _ _ e s' J z
  | ok fl =>
    cases fl with
    | ret u =>
      obtain ⟨v, H', I3, r3, ev, q3⟩ := J.after z
      subst ev
      exact ⟨r3, ⟨V.ref (s.heap.objs.size + 1), H', I3, rfl, q3⟩⟩
    | next => exact z.elim
    | brk => exact z.elim
    | cont => exact z.elim
def tMakeS (C : Addr) (sp : Sp) (E : L2.St → XK) (t : TA) : TE := fun σ H Q => t σ H fun vs H1 => ∀ y dy, H1 y = none → H1 dy = none → dy ≠ y → sp (.ref y :: vs) (upd (upd H1 dy (.own y)) y (.ins C dy [])) (fun v H2 => v = .non ∧ Q (.ref y) H2) (E σ)
/-- C(e, ..) -/
theorem pe_makeS {E : L2.St → XK} (M : Mk X.K C f) (F : FnOk X.prog X.w X.K X.mg X.base CX k f fd ps sp) (hr : Room (k + 1) X.A) (hb : Binds X.K fd ps []) (hx : ∀ σ, PassesAt CX X σ (E σ)) (hg : Gl X x) (hm : X.mg x = some (.ref C))
    (ha : PA X (e :: es) t) (hdb : (x == ("__debug__" : Str)) = false := by decide) (hst : starEach (e :: es) X.env = (false, eval e X.env) :: starEach es X.env := by rfl) (hpl : (backTo pos (starEach es X.env)).any (·.1) = false := by rfl) :
    PE X (.Call (.Name x p1) (e :: es) [] pos) (tMakeS C sp E t) := by
  refine ⟨fun pins s σ H Q I h => ?_⟩
  refine wpAny_Call_Name_kw (ld_glob I hg hm ?_ hdb)
  refine PySem.W.callWith_K (h₀ := X.base) I.ok.mod.kin M.kp (thn (ha.run pos pins s σ H _ I h) fun us s1 ⟨vs, H1, I1, rv, q⟩ => ⟨I1.kIn, ?_⟩) hst hpl
  exact run_makeS M F hr hb (.inr trivial) (fun H2 s2 e s' J z => hx σ pins H2 s2 e s' J z) I1 rv q
/-- cls(e, ..), cls a slot that holds the class at C -/
def tMakeL (i : Nat) (C : Addr) (sp : Sp) (E : L2.St → XK) (t : TA) : TE := fun σ H Q => σ[i]? = some (some (.ref C)) ∧ tMakeS C sp E t σ H Q
theorem pe_makeL {E : L2.St → XK} {i : Nat} (M : Mk X.K C f) (F : FnOk X.prog X.w X.K X.mg X.base CX k f fd ps sp) (hr : Room (k + 1) X.A) (hb : Binds X.K fd ps []) (hx : ∀ σ, PassesAt CX X σ (E σ)) (hN : X.N[i]? = some x) (hv : Vis X.env.scope x)
    (ha : PA X (e :: es) t) (hdb : (x == ("__debug__" : Str)) = false := by decide) (hcd : (x == ("__classdict__" : Str)) = false := by decide) (hst : starEach (e :: es) X.env = (false, eval e X.env) :: starEach es X.env := by rfl)
    (hpl : (backTo pos (starEach es X.env)).any (·.1) = false := by rfl) : PE X (.Call (.Name x p1) (e :: es) [] pos) (tMakeL i C sp E t) := by
  refine ⟨fun pins s σ H Q I h => ?_⟩
  obtain ⟨hs, h⟩ := h
  refine wpAny_Call_Name_kw (thn ((pe_var (pos := p1) hN hv hdb hcd).run pins s σ H (fun v H1 => v = .ref C ∧ H1 = H) I ⟨.ref C, hs, rfl, rfl⟩) fun u s1 ⟨v, H1, I1, r1, z⟩ => ?_)
  obtain ⟨rfl, rfl⟩ := z
  cases r1
  refine PySem.W.callWith_K (h₀ := X.base) I.ok.mod.kin M.kp (thn (ha.run pos pins s1 σ _ _ I1 h) fun us s2 ⟨vs, H2, I2, rv, q⟩ => ⟨I2.kIn, ?_⟩) hst hpl
  exact run_makeS M F hr hb (.inr trivial) (fun H3 s3 e s' J z => hx σ pins H3 s3 e s' J z) I2 rv q

/-! ### class methods, their wish by the slots -/
theorem code_fnS {E : L2.St → XK} {pins : List (Addr × Obj)} {σ : L2.St} {H : Hp} {s : Shared} {Q : VK} {us : List Value} {kw : List (Str × Value)} {bs : List Value} {ws : List V} (F : FnOk X.prog X.w X.K X.mg X.base CX k g fd ps sp) (hr : Room k X.A)
    (bd : BindsTo s fd ⟨us, kw⟩ (ps.zip bs)) (hx : PassesAt CX X σ (E σ)) (I : Inv X pins σ H s) (rv : Vals ws bs) (h : sp ws H Q (E σ)) :
    codeAny (model X.prog X.w) X.A (.call (.ref g) ⟨us, kw⟩) (fun a s' => match a with | .ok (.ret v) => EP X pins σ Q v s' | .ok _ => False | .error e => X.xe e s') s := by
  refine codeAny_mono (F.run X.A X.stack s H ⟨us, kw⟩ bs ws Q (E σ) hr I.env0 bd rv h) fun a s' z => ?_
  cases a with
  | error e => exact hx pins H s e s' I z
  | ok fl =>
    cases fl with
    | ret u => exact I.after z
    | next => exact z.elim
    | brk => exact z.elim
    | cont => exact z.elim
/-- C.m(e, ..) -/
def tCm (C : Addr) (sp : Sp) (E : L2.St → XK) (ta : TE) (t : TA) : TE := fun σ H Q => ta σ H fun x H1 => x = .ref C ∧ t σ H1 fun vs H2 => sp (.ref C :: vs) H2 Q (E σ)
theorem pe_cmS {mc : Value} {E : L2.St → XK} {pl : Sem Bool} (he : PE X o ta) (r : ClX.CRead X.K C mc) (c : ClX.CMet X.K C mc m p g) (F : FnOk X.prog X.w X.K X.mg X.base CX k g fd ps sp) (hb : Binds X.K fd ps []) (hr : Room k X.A) (hx : ∀ σ, PassesAt CX X σ (E σ)) (ha : PA X (e :: es) t)
    (hst : starEach (e :: es) X.env = (false, eval e X.env) :: starEach es X.env := by rfl) (hpl : (backTo pos (starEach es X.env)).any (·.1) = false := by rfl)
    (ht : eval (.Call (.Attribute o m p2) (e :: es) [] pos) X.env = (do
      let ov ← eval o X.env
      standAt p2.atName
      let (f, first) ← holding [ov] (getMethod ov m pl)
      callWith pos f first (backTo pos (starEach (e :: es) X.env)) (backToKw pos (keywordEach [] X.env))) := by rfl) :
    PE X (.Call (.Attribute o m p2) (e :: es) [] pos) (tCm C sp E ta t) := by
  refine ⟨fun pins s σ H Q I h => ?_⟩
  refine PySem.W.methodCall_KW (pl := pl) (thn (he.run pins s σ H _ I h) fun u s1 ⟨x, H1, I1, rx, ex, q⟩ => ?_) ht
  subst ex
  obtain rfl : u = Value.ref C := rx
  refine ClX.getmethcm_ok I1 r c fun s2 I2 => ?_
  refine ClX.callwith_cm I2 (ClX.base_none I1 (Nat.le_refl _)) c.fi (thn (ha.run pos _ s2 σ H1 _ I2 q) fun us s3 ⟨vs, H2, I3, rv, q2⟩ => ⟨⟨ClX.pin_at I3, I3.kIn⟩, ?_⟩) hst hpl
  have rr : Vals (.ref C :: vs) (Value.ref C :: us) := .cons rfl rv
  have ln : (Value.ref C :: us).length = ps.length := by
    rw [← rr.length]
    exact F.len _ _ _ _ q2
  have bd := hb s3 (Value.ref C :: us) I3.kIn (by rw [List.append_nil]; exact ln)
  rw [List.append_nil] at bd
  have z := wpAny_call (PySem.W.method_call (pos := us) (kw := []) (ClX.pin_at I3) (code_fnS (X := X) (E := E) F hr bd (hx σ) I3 rr q2))
  exact thn z fun _ _ y => ClX.unpinE y
/-- C.m(k = v, ..) -/
def tCmK (n : Nat) (C : Addr) (sp : Sp) (gV : List V → List V → List V) (E : L2.St → XK) (ta : TE) (tk : TA) : TE := fun σ H Q => ta σ H fun x H1 => x = .ref C ∧ tk σ H1 fun zs H2 => zs.length = n ∧ sp (gV [.ref C] zs) H2 Q (E σ)
theorem pe_cmK0 {mc : Value} {E : L2.St → XK} {pl : Sem Bool} {kws : List Keyword} {tk : TA} {ks : List Str} {gg : List Value → List Value → List Value} {gV : List V → List V → List V} (he : PE X o ta) (r : ClX.CRead X.K C mc) (c : ClX.CMet X.K C mc m p g)
    (F : FnOk X.prog X.w X.K X.mg X.base CX k g fd ps sp) (hb : KBn X.K fd ps 1 ks gg gV) (hr : Room k X.A) (hx : ∀ σ, PassesAt CX X σ (E σ)) (hkw : PK X kws tk)
    (hall : (backToKw pos (keywordEach kws X.env)).all (·.1.isSome) = true := by rfl) (hks : (backToKw pos (keywordEach kws X.env)).filterMap (·.1) = ks := by rfl)
    (hpl : ((backTo pos (starEach [] X.env)).any (·.1) || (backToKw pos (keywordEach kws X.env)).any (·.1.isNone)) = false := by rfl)
    (ht : eval (.Call (.Attribute o m p2) [] kws pos) X.env = (do
      let ov ← eval o X.env
      standAt p2.atName
      let (f, first) ← holding [ov] (getMethod ov m pl)
      callWith pos f first (backTo pos (starEach [] X.env)) (backToKw pos (keywordEach kws X.env))) := by rfl) :
    PE X (.Call (.Attribute o m p2) [] kws pos) (tCmK ks.length C sp gV E ta tk) := by
  refine ⟨fun pins s σ H Q I h => ?_⟩
  refine PySem.W.methodCall_KW (pl := pl) (thn (he.run pins s σ H _ I h) fun u s1 ⟨x, H1, I1, rx, ex, q⟩ => ?_) ht
  subst ex
  obtain rfl : u = Value.ref C := rx
  refine ClX.getmethcm_ok I1 r c fun s2 I2 => ?_
  refine PySem.W.callWith_of (P := fun h => PySem.W.MethP X.K s1.heap.objs.size g (.ref C) h) hpl (PySem.W.keeps_M c.fi) (evalArgs_kw2_nil hall (thn (hkw.run pos _ s2 σ H1 _ I2 q) fun us s3 ⟨zs, H2, I3, rz, l1, q2⟩ => ⟨⟨ClX.pin_at I3, I3.kIn⟩, ?_⟩))
  rw [hks]
  have rr := hb.rel (vs := [.ref C]) (us := [Value.ref C]) (.cons rfl .nil) rz
  have bd := hb.to s3 [Value.ref C] us I3.kIn rfl (by rw [← l1]; exact rz.length.symm)
  have z := wpAny_call (PySem.W.method_call (pos := []) (kw := ks.zip us) (ClX.pin_at I3) (code_fnS (X := X) (E := E) F hr bd (hx σ) I3 rr q2))
  exact thn z fun _ _ y => ClX.unpinE y

/-! ### operators by the class's own defs -/
/-- x op y, both of the class at C -/
def rOwnB (C : Addr) (sp : Sp) (E : XK) : R2 := fun x y H Q => ∃ a dx fs b dy gs, x = .ref a ∧ y = .ref b ∧ H a = some (.ins C dx fs) ∧ H b = some (.ins C dy gs) ∧ sp [x, y] H Q E
theorem inst_at {pins : List (Addr × Obj)} {σ : L2.St} {H : Hp} {s : Shared} {a dx : Addr} {fs : List (Str × V)} (I : Inv X pins σ H s) (h : H a = some (.ins C dx fs)) : ∃ od, PySem.W.InstAt s.heap a (PySem.W.instObj C dx) C (some od) := by
  obtain ⟨mA, O, _⟩ := ins_get I.hok h
  obtain ⟨od, J, _⟩ := O.look
  exact ⟨od, J⟩
theorem op_ownB {op : Operator} {E : XK} (hc : PySem.W.selfFirst X.K C = true) (hs : PySem.W.findIn X.K (.ref C) (PySem.dunder op.info.2) = some (some (.ref f))) (hf : PySem.W.isFn X.K (.ref f) = true)
    (F : FnOk X.prog X.w X.K X.mg X.base CX k f fd ps sp) (hr : Room k X.A) (hb : Binds X.K fd ps []) (hx : Passes CX X E) : OpR X (binaryOp op) (rOwnB C sp E) := by
  intro pins s σ H x y v u Q I rx ry h
  obtain ⟨a, dx, fs, b, dy, gs, rfl, rfl, ha, hb2, q⟩ := h
  cases (show v = Value.ref a from rx)
  cases (show u = Value.ref b from ry)
  obtain ⟨od, J⟩ := inst_at I ha
  obtain ⟨od2, J2⟩ := inst_at I hb2
  obtain ⟨mm, hF⟩ := I.fr
  refine PySem.W.binop_K (op := op) hF I.ok.mod.kin J J2.type hc hs hf ?_
  refine wpAny_mono (run_fn (us := [.ref a, .ref b]) (vs := [.ref a, .ref b]) F hr hb .nil hx I (.cons rfl (.cons rfl .nil)) q) (fun w s' z => ?_) fun _ _ z => z
  obtain ⟨z', H', I', rz, qz⟩ := z
  exact SlX.cmpback rz ⟨z', H', I', rz, qz⟩
/-- .. where what is raised is wished for by the slots -/
def tOwnS (C : Addr) (sp : Sp) (E : L2.St → XK) (ta tb : TE) : TE := fun σ H Q => tOp (rOwnB C sp (E σ)) ta tb σ H Q
theorem pe_ownS {op : Operator} {E : L2.St → XK} {a b : Expr} (hc : PySem.W.selfFirst X.K C = true) (hs : PySem.W.findIn X.K (.ref C) (PySem.dunder op.info.2) = some (some (.ref f))) (hf : PySem.W.isFn X.K (.ref f) = true)
    (F : FnOk X.prog X.w X.K X.mg X.base CX k f fd ps sp) (hr : Room k X.A) (hb : Binds X.K fd ps []) (hx : ∀ σ, PassesAt CX X σ (E σ)) (ha : PE X a ta) (hb2 : PE X b tb) : PE X (.BinOp a op b pos) (tOwnS C sp E ta tb) := by
  refine ⟨fun pins s σ H Q I h => ?_⟩
  refine wpAny_BinOp (binT ha hb2 I h fun v u s2 x y H2 I2 rx ry q => ?_)
  obtain ⟨a', dx, fs, b', dy, gs, rfl, rfl, h1, h2, q⟩ := q
  cases (show v = Value.ref a' from rx)
  cases (show u = Value.ref b' from ry)
  obtain ⟨od, J⟩ := inst_at I2 h1
  obtain ⟨od2, J2⟩ := inst_at I2 h2
  obtain ⟨mm, hF⟩ := I2.fr
  refine PySem.W.binop_K (op := op) hF I2.ok.mod.kin J J2.type hc hs hf ?_
  refine wpAny_mono (run_fnS (us := [.ref a', .ref b']) (vs := [.ref a', .ref b']) F hr hb (hx σ) I2 (.cons rfl (.cons rfl .nil)) q) (fun w s' z => ?_) fun _ _ z => z
  obtain ⟨z', H', I', rz, qz⟩ := z
  exact SlX.cmpback rz ⟨z', H', I', rz, qz⟩
/-- -x -/
def rNegO (C : Addr) (sp : Sp) (E : XK) : V → Hp → VK → Prop := fun x H Q => ∃ a dx fs, x = .ref a ∧ H a = some (.ins C dx fs) ∧ sp [x] H Q E
theorem un_negO {E : XK} (hs : PySem.W.findIn X.K (.ref C) "__neg__" = some (some (.ref f))) (hf : PySem.W.isFn X.K (.ref f) = true) (F : FnOk X.prog X.w X.K X.mg X.base CX k f fd ps sp) (hr : Room k X.A) (hb : Binds X.K fd ps []) (hx : Passes CX X E) :
    UnR X (unaryOp .USub) (rNegO C sp E) := by
  intro pins s σ H x v Q I rx h
  obtain ⟨a, dx, fs, rfl, ha, q⟩ := h
  cases (show v = Value.ref a from rx)
  obtain ⟨od, J⟩ := inst_at I ha
  obtain ⟨mm, hF⟩ := I.fr
  exact PySem.W.ksp_neg hF I.ok.mod.kin J hs hf (run_fn (us := [.ref a]) (vs := [.ref a]) F hr hb .nil hx I (.cons rfl .nil) q)
/-- x == y, x of the class at C -/
def rEqO (K : PySem.W.Frag) (C : Addr) (sp : Sp) (E : XK) : R2 := fun x y H Q => ∃ a dx fs t, x = .ref a ∧ H a = some (.ins C dx fs) ∧ TyX K H y t ∧ PySem.W.notFirst K C t = true ∧ sp [x, y] H Q E
theorem op_eqO {E : XK} (hs : PySem.W.findIn X.K (.ref C) (cmpInfo .Eq).2.1 = some (some (.ref f))) (hf : PySem.W.isFn X.K (.ref f) = true) (F : FnOk X.prog X.w X.K X.mg X.base CX k f fd ps sp) (hr : Room k X.A) (hb : Binds X.K fd ps []) (hx : Passes CX X E) :
    OpR X (compareOp .Eq) (rEqO X.K C sp E) := by
  intro pins s σ H x y v u Q I rx ry h
  obtain ⟨a, dx, fs, t, rfl, ha, hy, hn, q⟩ := h
  cases (show v = Value.ref a from rx)
  obtain ⟨od, J⟩ := inst_at I ha
  obtain ⟨mm, hF⟩ := I.fr
  obtain ⟨Pk, kx, hP, _⟩ := kit_of I ry hy
  show wpAny _ _ (richCompare .Eq (.ref a) u) _ _ _
  refine PySem.W.cmp_K (op := .Eq) hr.units0 hF I.ok.mod.kin J (kx.ty _ _ I.kIn hP) hn hs hf ?_
  refine wpAny_mono (run_fn (us := [.ref a, u]) (vs := [.ref a, y]) F hr hb .nil hx I (.cons rfl (.cons ry .nil)) q) (fun w s' z => ?_) fun _ _ z => z
  obtain ⟨z', H', I', rz, qz⟩ := z
  exact SlX.cmpback rz ⟨z', H', I', rz, qz⟩
/-- y in x, x of the class at C, its def handing back a bool -/
def rInO (C : Addr) (sp : Sp) (E : XK) : R2 := fun y x H Q => ∃ a dx fs, x = .ref a ∧ H a = some (.ins C dx fs) ∧ sp [x, y] H (fun z H' => ∃ b, z = .bl b ∧ Q z H') E
theorem op_inO {E : XK} (hs : PySem.W.findIn X.K (.ref C) "__contains__" = some (some (.ref f))) (hf : PySem.W.isFn X.K (.ref f) = true) (F : FnOk X.prog X.w X.K X.mg X.base CX k f fd ps sp) (hr : Room k X.A) (hb : Binds X.K fd ps []) (hx : Passes CX X E) :
    OpR X (compareOp .In) (rInO C sp E) := by
  intro pins s σ H y x u v Q I ry rx h
  obtain ⟨a, dx, fs, rfl, ha, q⟩ := h
  cases (show v = Value.ref a from rx)
  obtain ⟨od, J⟩ := inst_at I ha
  obtain ⟨mm, hF⟩ := I.fr
  refine PySem.W.in_K hF I.ok.mod.kin J hs hf ?_
  refine wpAny_mono (run_fn (us := [.ref a, u]) (vs := [.ref a, y]) F hr hb .nil hx I (.cons rfl (.cons ry .nil)) q) (fun w s' z => ?_) fun _ _ z => z
  obtain ⟨z', H', I', rz, b, ez, qz⟩ := z
  subst ez
  cases (show w = Value.bool b from rz)
  exact wpAny_truthy_bool ⟨.bl b, H', I', rfl, qz⟩
end
/-! ### exceptions: the __init__ of the common class, of a class with one field, with two -/
section
variable {P : Program} {w : World} {K : PySem.W.Frag} {mg : Str → Option Value} {base : Heap}
def spSurvey (K : PySem.W.Frag) : Sp := fun vs H Q _ => ∃ (a C : Addr) (v : V), vs = [.ref a, v] ∧ OexC K C ∧ H a = some (exo a C none) ∧ Q .non H
def spErr1 (C : Addr) (f : Str) : Sp := fun vs H Q _ => ∃ (a : Addr) (v : V), vs = [.ref a, v] ∧ H a = some (exo a C none) ∧ ∀ dx, H dx = none → dx ≠ a → Q .non (upd (upd H dx (exd dx [(f, v)])) a (exo a C (some dx)))
def spErr2 (C : Addr) (f g : Str) : Sp := fun vs H Q _ => ∃ (a : Addr) (v u : V), vs = [.ref a, v, u] ∧ H a = some (exo a C none) ∧ ∀ dx H', H dx = none → dx ≠ a → (∀ b, b ≠ a → b ≠ dx → H' b = H b) → H' a = some (exo a C (some dx)) → H' dx = some (exd dx [(g, u), (f, v)]) → Q .non H'
/-- the heap behind a raise: the exception is gone, its dict stays -/
theorem same_gone {H H2 : Hp} {a d : Addr} {fs : List (Str × V)} (na : H a = none) (nd : H d = none) (k : ∀ b, b ≠ a → b ≠ d → H2 b = H b) : Same H (upd (del H2 a) d (.xd fs)) := fun b o e => by
  have h1 : b ≠ d := ne_of_none e nd
  have h2 : b ≠ a := ne_of_none e na
  rw [upd_ne h1, del_ne h2, k b h2 h1]
  exact e
theorem mk_err1 {C : Addr} {f : Str} {Q : XK} {v : V} {H1 : Hp} (h : ∀ (d : Addr) (H' : Hp), Same H1 H' → H1 d = none → H' d = some (.xd [(f, v)]) → Q (.ref C) (some d) H') :
    ([v] : List V).length ≤ 1000 ∧ ∀ a, H1 a = none → spErr1 C f (.ref a :: ([v] ++ [])) (upd H1 a (exo a C none)) (fun z H2 => z = .non ∧ ∃ (d : Addr) (fs : List (Str × V)), H2 a = some (exo a C (some d)) ∧ H2 d = some (exd d fs) ∧ H1 d = none ∧ Q (.ref C) (some d) (upd (del H2 a) d (.xd fs))) (fun _ _ _ => False) := by
  refine ⟨by show 1 ≤ 1000; decide, fun a na => ⟨a, v, rfl, upd_same, fun dx ndx ne => ⟨rfl, dx, [(f, v)], upd_same, ?_, ?_, ?_⟩⟩⟩
  · rw [upd_ne ne, upd_same]
  · rw [upd_ne ne] at ndx
    exact ndx
  · rw [upd_ne ne] at ndx
    refine h dx _ (same_gone na ndx fun b h1 h2 => ?_) ndx upd_same
    rw [upd_ne h1, upd_ne h2, upd_ne h1]
theorem mk_err2 {C : Addr} {f g : Str} {Q : XK} {v u : V} {H1 : Hp} (h : ∀ (d : Addr) (H' : Hp), Same H1 H' → H1 d = none → H' d = some (.xd [(g, u), (f, v)]) → Q (.ref C) (some d) H') :
    ([v, u] : List V).length ≤ 1000 ∧ ∀ a, H1 a = none → spErr2 C f g (.ref a :: ([v, u] ++ [])) (upd H1 a (exo a C none)) (fun z H2 => z = .non ∧ ∃ (d : Addr) (fs : List (Str × V)), H2 a = some (exo a C (some d)) ∧ H2 d = some (exd d fs) ∧ H1 d = none ∧ Q (.ref C) (some d) (upd (del H2 a) d (.xd fs))) (fun _ _ _ => False) := by
  refine ⟨by show 2 ≤ 1000; decide, fun a na => ⟨a, v, u, rfl, upd_same, fun dx H' ndx ne keep ea ed => ⟨rfl, dx, [(g, u), (f, v)], ea, ed, ?_, ?_⟩⟩⟩
  · rw [upd_ne ne] at ndx
    exact ndx
  · rw [upd_ne ne] at ndx
    refine h dx _ (same_gone na ndx fun b h1 h2 => ?_) ndx upd_same
    rw [keep b h1 h2, upd_ne h1]
end
end L9

/-! try .. except X as n: .. except Y as n: .. (several clauses, each with the name in the same slot) -/
namespace L9
open PySem PySem.Spec PyProof.Rows L2

/-- one clause: the class that it names, what its suite does -/
abbrev Clause := Value × (Addr → Value → Option Addr → TS)
/-- what lies behind a suite that had the exception in slot i: the slot is empty again -/
def gone (i : Nat) (D : Ends) : Ends := { nx := fun τ G => D.nx (τ.set i none) G, rt := D.rt, bk := fun τ G => D.bk (τ.set i none) G, ct := fun τ G => D.ct (τ.set i none) G }
/-- what the clauses wish of an exception of the body, one behind the other -/
def wAll (K : PySem.W.Frag) (i : Nat) (out : WX) (D : Ends) : List Clause → WX
  | [] => out
  | c :: r => fun cls d τ G => ∃ b, PySem.W.exmOne K cls c.1 = some b ∧ (b = true → ∀ a, G a = none → c.2 a cls d (gone i D) (τ.set i (some (.ref a))) G) ∧ (b = false → wAll K i out D r cls d τ G)
/-- the suites hold -/
inductive Clauses (X : Cx) (n : Str) : List ExceptHandler → List Clause → Prop
  | nil : Clauses X n [] []
  | cons {x : Str} {c : Value} {ts : Addr → Value → Option Addr → TS} {b0 : Stmt} {bs : List Stmt} {q1 q2 : Pos} {hs : List ExceptHandler} {l : List Clause} (hc : Names X x c)
      (hb : ∀ (a : Addr) (oe : Obj) (cls : Value) (d : Option Addr) (pn : List (Addr × Obj)), Zc cls d oe → (∃ vs, oe.data = .fields vs) → PSs (X.suite a ((a, oe) :: pn)) (b0 :: bs) (ts a cls d)) (r : Clauses X n hs l) :
      Clauses X n (.ExceptHandler (some (.Name x q1)) (some n) (b0 :: bs) q2 :: hs) ((c, ts) :: l)
section
variable {X : Cx} {n : Str} {i : Nat}
theorem ps_try_all {body : List Stmt} {h0 : ExceptHandler} {hs : List ExceptHandler} {l : List Clause} {pos : Pos} {tb : WX → TS} {out : WX} (st : X.stack = X.env :: X.outer) (fr : X.env.frame = some X.env.locals) (nd : X.N.Nodup) (hi : X.N[i]? = some n)
    (hn : X.env.kindOf n = some .local) (tk : Takes X out) (hb : ∀ (W : WX) (pn : List (Addr × Obj)) (xe : Value → Shared → Prop), Takes (X.tr pn xe) W → PassesOwn (model X.prog X.w) X.A X.env xe → PSs (X.tr pn xe) body (tb W)) (hh : Clauses X n (h0 :: hs) l) :
    PS X (.Try body (h0 :: hs) [] [] pos) (fun D σ H => tb (wAll X.K i out D l) D σ H) := by
  refine ⟨fun pins s σ H D I h => ?_⟩
  have ok := I.ok
  have frs' : X.A.frames = some (X.env :: X.outer) := by rw [ok.frames, st]
  refine wpAny_Try_except ?_
  refine wpAny_mono ((hb (wAll X.K i out D l) (X.pn ++ pins) _ (fun u s' air => ?_) PassesOwn.looking).run [] s σ H D (I.toTry _) h) (fun f s1 z => ?_) (fun _ _ z => z)
  · obtain ⟨a, B, sI, pins2, τ, G, cls, d, rfl, J0, nb, up, sky, na, os, ag, wish⟩ := air
    have J : Inv X pins τ G sI := J0.ofTry ok
    rw [st] at sky
    show wpAny (model X.prog X.w) X.A (noteFrame (.ref a) X.env) _ _ _
    refine Sky.land Zc.steady frs' fr sky fun hA flA upA => ?_
    have JA : Inv X pins τ G { s' with heap := hA } := J.landed nb flA.1 (up.trans upA) os ag
    obtain ⟨oA, vA, eA, zA, dA⟩ := flA.there
    have apart : a ∉ frs (X.env :: X.outer) := fun hm => by
      obtain ⟨_, o2, e2, nf⟩ := flA.2.2.1.mem hm
      rw [eA] at e2
      cases e2
      exact nf _ dA
    have aL : a ≠ X.env.locals := fun z => apart (List.mem_filterMap.mpr ⟨X.env, List.mem_cons_self, by rw [fr, z]⟩)
    have aF : a ∉ X.fs := fun hm => by
      obtain ⟨en, m1, m2⟩ := List.mem_filterMap.mp hm
      exact apart (List.mem_filterMap.mpr ⟨en, List.mem_cons_of_mem _ m1, m2⟩)
    have SA := JA.suite eA dA na aL aF
    have each : ∀ {ks : List ExceptHandler} {m : List Clause}, Clauses X n ks m → wAll X.K i out D m cls d τ G → wpAny (model X.prog X.w) X.A (handleBy (.ref a) X.env ks) (SP X pins D) X.xe { s' with heap := hA } := by
      intro ks m hk
      induction hk with
      | nil =>
        intro w
        refine wpAny_handleBy_nil ?_
        obtain ⟨_, _, _, oe, vs, T, oT, us, he, hz, hd, h1, hr⟩ := id flA
        unfold PySem.passOn
        refine wpAny_bind (wpAny_field he hd h1 ?_)
        rw [if_neg (by simp)]
        have fin : wpAny (model X.prog X.w) X.A (setFlight (.ref a) X.env.frame) (fun _ s4 => wpAny (model X.prog X.w) X.A (throw (.ref a) : Sem Flow) (SP X pins D) X.xe s4) X.xe { s' with heap := hA } := by
          rw [fr]
          refine HandSPX.setFlight_upZ flA fun hB hhB upB => wpAny_throw (tk _ _ ?_)
          refine ⟨a, B, sI, pins, τ, G, cls, d, rfl, J, nb, (up.trans upA).trans upB, ?_, na, os, ag, w⟩
          rw [st]
          exact .inr (.inr hhB)
        first
          | exact wpAny_bind (wpAny_pure (wpAny_bind fin))
          | exact wpAny_bind fin
      | @cons x c ts b0 bs q1 q2 ks2 m2 hc hbody r ih =>
        intro w
        obtain ⟨b, e1, yes, no⟩ := w
        refine wpAny_handleBy_cons (codeAny_handlers_test ?_) (by intro q; cases q)
        have tyA : PySem.W.Looks (model X.prog X.w) hA (typeOf (.ref a)) cls := fun A Q E s k q => wpAny_typeOf_ref (k _ _ eA) (by rw [zA.1]; exact q)
        have ans := PySem.W.exm_one (M := model X.prog X.w) (JA.kIn) tyA e1
        have named : ∀ {Q : Value → Shared → Prop} {E : Value → Shared → Prop}, Q c { s' with heap := hA } → wpAny (model X.prog X.w) (X.A.mark (some (.ref a))) (eval (.Name x q1) X.env) Q E { s' with heap := hA } := by
          intro Q E q
          obtain ⟨g1, g2, g3 | ⟨g3, g4, g5⟩⟩ := hc
          · exact ld_glob (X := X.suite a ((a, oA) :: (X.pn ++ pins))) SA g1 g3 q g2
          · exact ld_blt (X := X.suite a ((a, oA) :: (X.pn ++ pins))) SA g1 g3 g4 q g5 g2
        refine named (ans.here ?_)
        cases b with
        | false => exact ih (no rfl)
        | true =>
          refine codeAny_handlers_suite_as ?_
          refine HandSPX.lands_againZ flA fun hC flC upC => ?_
          have JC : Inv X pins τ G { s' with heap := hC } := J.landed nb flC.1 ((up.trans upA).trans upC) os ag
          obtain ⟨oC, vC, eC, zC, dC⟩ := flC.there
          have SC := JC.suite eC dC na aL aF
          refine store_ok (X := X.suite a ((a, oC) :: (X.pn ++ pins))) (v := .ref a) SC nd hi (.inl hn) rfl (fun sD SD => ?_) (.inr hn)
          refine wpAny_mono ((hbody a oC cls d (X.pn ++ pins) zC ⟨_, dC⟩).run [] sD _ G _ SD (yes rfl a na)) (fun f sE hE => ?_) (fun _ _ z => z.elim)
          have over : ∀ {τ6 : L2.St} {G6 : Hp} {Q : Shared → Prop}, Inv (X.suite a ((a, oC) :: (X.pn ++ pins))) [] τ6 G6 sE → (∀ sF, Inv X pins (τ6.set i none) G6 sF → Q sF) →
              wpAny (model X.prog X.w) X.A (do bindName X.env n .none; unbindBehindTheSuite X.env n q2) (fun _ sF => Q sF) X.xe sE := fun S6 hq => gone_ok (S6.unsuite ok) nd hi hn hq
          cases f with
          | next => obtain ⟨τ6, G6, S6, z6⟩ := hE; exact over S6 fun sF JF => ⟨_, _, JF, z6⟩
          | brk => obtain ⟨τ6, G6, S6, z6⟩ := hE; exact over S6 fun sF JF => ⟨_, _, JF, z6⟩
          | cont => obtain ⟨τ6, G6, S6, z6⟩ := hE; exact over S6 fun sF JF => ⟨_, _, JF, z6⟩
          | ret u => obtain ⟨v6, τ6, G6, S6, r6, z6⟩ := hE; exact over S6 fun sF JF => ⟨_, _, _, JF, r6, z6⟩
    exact each hh wish
  · cases f with
    | next => obtain ⟨τ, G, J, q⟩ := z; exact wpAny_execs_nil ⟨τ, G, J.ofTry ok, q⟩
    | brk => obtain ⟨τ, G, J, q⟩ := z; exact ⟨τ, G, J.ofTry ok, q⟩
    | cont => obtain ⟨τ, G, J, q⟩ := z; exact ⟨τ, G, J.ofTry ok, q⟩
    | ret u => obtain ⟨v, τ, G, J, r, q⟩ := z; exact ⟨v, τ, G, J.ofTry ok, r, q⟩
end
end L9

/-! Bounds: what holds of them, and the promises of their methods -/
namespace L9
open PySem PySem.Spec PyProof.Rows L2
/-- an own exception class x at C, its __init__ at f -/
structure ErrT (K : PySem.W.Frag) (mg : Str → Option Value) (x : Str) (C f : Addr) : Prop where
  g : mg x = some (.ref C)
  oe : OexC K C
  iC : PySem.W.findIn K (.ref C) "__init__" = some (some (.ref f))
  tI : PySem.W.typeIn K (.ref f) = some (.type "function")
  xf : XfC K C
/-- the common class at CS, its __init__ at fS -/
structure SurT (K : PySem.W.Frag) (mg : Str → Option Value) (CS fS : Addr) (mS : Value) : Prop where
  g : mg "SurveyError" = some (.ref CS)
  rd : ClX.CRead K CS mS
  vl : ClX.CVal K CS mS "__init__" (.ref fS) (.ref fS)
  kp : PySem.W.keepIn K (.ref fS) = true
  ve : mg "ValueError" = none
  vf : PySem.W.findCls K (.type "ValueError") (.type "type") "__init__" = some (.val (.builtin "ValueError.__init__"))
/-- the class Bounds at C, its __init__ at f -/
structure BndT (K : PySem.W.Frag) (mg : Str → Option Value) (C f : Addr) : Prop where
  g : mg "Bounds" = some (.ref C)
  cl : Cls K C
  mkk : Mk K C f
  nl : NoAttr K C "low"
  nh : NoAttr K C "high"
  ca : PySem.W.findIn K (.ref C) "__class__" = some (some (.builtin "object.__class__"))
  cn : PySem.W.specialIn K (.builtin "object.__class__") "__get__" = some (some (.builtin "getset_descriptor.__get__"))
  ct : PySem.W.takesIn K (.builtin "object.__class__") = some true
  cm : PySem.W.mroIn K C (.type "object") = some true
  sf : PySem.W.selfFirst K C = true
  kb : PySem.W.kitOne K (.ref C) (.ref C) = some true
def bf (l h : Int) : List (Str × V) := [(("low" : Str), .int l), (("high" : Str), .int h)]
theorem bf_low (l h : Int) : (bf l h).lookup ("low" : Str) = some (.int l) := rfl
theorem bf_high (l h : Int) : (bf l h).lookup ("high" : Str) = some (.int h) := by
  unfold bf
  rw [List.lookup_cons, show (("high" : Str) == ("low" : Str)) = false by decide +kernel]
  rfl
theorem bf_no {l h : Int} {m : Str} (h1 : (m == ("low" : Str)) = false) (h2 : (m == ("high" : Str)) = false) : (bf l h).lookup m = none := by
  unfold bf
  rw [List.lookup_cons, h1]
  show ([(("high" : Str), V.int h)]).lookup m = none
  rw [List.lookup_cons, h2]
  rfl
/-- Bounds from l to h at p -/
def BndAt (C : Addr) (H : Hp) (p : Addr) (l h : Int) : Prop := ∃ dx, H p = some (.ins C dx (bf l h))
theorem BndAt.mono {C : Addr} {H H' : Hp} {p : Addr} {l h : Int} (s : Same H H') (b : BndAt C H p l h) : BndAt C H' p l h := by
  obtain ⟨dx, e⟩ := b
  exact ⟨dx, s _ _ e⟩
theorem BndAt.ty {K : PySem.W.Frag} {mg : Str → Option Value} {C f : Addr} (B : BndT K mg C f) {H : Hp} {p : Addr} {l h : Int} (b : BndAt C H p l h) : TyX K H (.ref p) (.ref C) := by
  obtain ⟨dx, e⟩ := b
  exact .base (.ins e B.cl B.ca B.cn B.ct B.cm)
/-- what making Bounds of two values does: it raises the first error that is due, or ok -/
def MakesB (K : PySem.W.Frag) (CH CB : Addr) (v1 v2 : V) (H : Hp) (E : XK) (ok : Int → Int → Prop) : Prop :=
  (NoH K H v1 ∧ ∀ d H', Same H H' → H d = none → H' d = some (.xd [(("value" : Str), v1)]) → E (.ref CH) (some d) H') ∨
  (∃ l, v1 = .int l ∧ heightB l = true ∧ NoH K H v2 ∧ ∀ d H', Same H H' → H d = none → H' d = some (.xd [(("value" : Str), v2)]) → E (.ref CH) (some d) H') ∨
  (∃ l h, v1 = .int l ∧ v2 = .int h ∧ heightB l = true ∧ heightB h = true ∧ h < l ∧ ∀ d H', Same H H' → H d = none → H' d = some (.xd [(("high" : Str), .int h), (("low" : Str), .int l)]) → E (.ref CB) (some d) H') ∨
  (∃ l h, v1 = .int l ∧ v2 = .int h ∧ heightB l = true ∧ heightB h = true ∧ l ≤ h ∧ ok l h)
def spInit (K : PySem.W.Frag) (C CH CB : Addr) : Sp := fun vs H Q E => ∃ (p dx : Addr) (v1 v2 : V), vs = [.ref p, v1, v2] ∧ H p = some (.ins C dx []) ∧ MakesB K CH CB v1 v2 H E (fun l h => Q .non (upd H p (.ins C dx (bf l h))))
/-- new Bounds, at y -/
theorem makes_at {K : PySem.W.Frag} {C CH CB y dy : Addr} {v1 v2 : V} {H : Hp} {R : VK} {E : XK} (m : MakesB K CH CB v1 v2 H E (fun l h => ∀ H', Same H H' → BndAt C H' y l h → R .non H')) (ny : H y = none) (nd : H dy = none) (ne : dy ≠ y) :
    spInit K C CH CB (.ref y :: [v1, v2]) (upd (upd H dy (.own y)) y (.ins C dy [])) R E := by
  have s1 : Same H (upd H dy (.own y)) := same_upd nd
  have ny1 : (upd H dy (.own y)) y = none := (upd_ne ne.symm).trans ny
  have s2 : Same H (upd (upd H dy (.own y)) y (.ins C dy [])) := s1.trans (same_upd ny1)
  refine ⟨y, dy, v1, v2, rfl, upd_same, ?_⟩
  rcases m with ⟨h1, h2⟩ | ⟨l, rfl, hl, h1, h2⟩ | ⟨l, h, rfl, rfl, hl, hh, hlt, h2⟩ | ⟨l, h, rfl, rfl, hl, hh, hle, h2⟩
  · exact .inl ⟨h1.mono s2, fun d H' s nd' e => h2 d H' (s2.trans s) (s2.free nd') e⟩
  · exact .inr (.inl ⟨l, rfl, hl, h1.mono s2, fun d H' s nd' e => h2 d H' (s2.trans s) (s2.free nd') e⟩)
  · exact .inr (.inr (.inl ⟨l, h, rfl, rfl, hl, hh, hlt, fun d H' s nd' e => h2 d H' (s2.trans s) (s2.free nd') e⟩))
  · refine .inr (.inr (.inr ⟨l, h, rfl, rfl, hl, hh, hle, ?_⟩))
    show R V.non (upd (upd (upd H dy (HO.own y)) y (HO.ins C dy [])) y (HO.ins C dy (bf l h)))
    rw [upd_upd]
    exact h2 _ (s1.trans (same_upd ny1)) ⟨dy, upd_same⟩
/-- Bounds of two heights in order -/
theorem makes_ok {K : PySem.W.Frag} {CH CB : Addr} {l h : Int} {H : Hp} {E : XK} {ok : Int → Int → Prop} (hl : heightB l = true) (hh : heightB h = true) (hle : l ≤ h) (q : ok l h) : MakesB K CH CB (.int l) (.int h) H E ok :=
  .inr (.inr (.inr ⟨l, h, rfl, rfl, hl, hh, hle, q⟩))
def spExact (K : PySem.W.Frag) (C CH : Addr) : Sp := fun vs H Q E => ∃ v : V, vs = [.ref C, v] ∧ ((NoH K H v ∧ ∀ d H', Same H H' → H d = none → H' d = some (.xd [(("value" : Str), v)]) → E (.ref CH) (some d) H') ∨
  (∃ l, v = .int l ∧ heightB l = true ∧ ∀ y H', Same H H' → H y = none → BndAt C H' y l l → Q (.ref y) H'))
def spWidth (C : Addr) : Sp := fun vs H Q _ => ∃ (p : Addr) (l h : Int), vs = [.ref p] ∧ BndAt C H p l h ∧ Q (.int (h - l)) H
def spHolds (C : Addr) : Sp := fun vs H Q _ => ∃ (p q : Addr) (l h l2 h2 : Int), vs = [.ref p, .ref q] ∧ BndAt C H p l h ∧ BndAt C H q l2 h2 ∧ Q (.bl (decide (l ≤ l2) && decide (h2 ≤ h))) H
def spCont (K : PySem.W.Frag) (C : Addr) : Sp := fun vs H Q _ => ∃ (p : Addr) (v : V) (l h : Int), vs = [.ref p, v] ∧ BndAt C H p l h ∧ ((∃ i, v = .int i ∧ Q (.bl (heightB i && (decide (l ≤ i) && decide (i ≤ h)))) H) ∨ (NoI K H v ∧ Q (.bl false) H))
def spEq (K : PySem.W.Frag) (C : Addr) : Sp := fun vs H Q _ => ∃ (p : Addr) (v : V) (l h : Int), vs = [.ref p, v] ∧ BndAt C H p l h ∧
  ((∃ q l2 h2, v = .ref q ∧ BndAt C H q l2 h2 ∧ Q (.bl (decide (l = l2) && decide (h = h2))) H) ∨ (∃ t, TyX K H v t ∧ PySem.W.kitOne K t (.ref C) = some false ∧ Q (.bl false) H))
def spAnd (C CC : Addr) : Sp := fun vs H Q E => ∃ (p q : Addr) (l h l2 h2 : Int), vs = [.ref p, .ref q] ∧ BndAt C H p l h ∧ BndAt C H q l2 h2 ∧ heightB l = true ∧ heightB h = true ∧ heightB l2 = true ∧ heightB h2 = true ∧
  (min h h2 < max l l2 → ∀ d H', Same H H' → H d = none → H' d = some (.xd [(("other" : Str), .ref q), (("one" : Str), .ref p)]) → E (.ref CC) (some d) H') ∧
  (max l l2 ≤ min h h2 → ∀ y H', Same H H' → H y = none → BndAt C H' y (max l l2) (min h h2) → Q (.ref y) H')
def spNeg (C : Addr) : Sp := fun vs H Q _ => ∃ (p : Addr) (l h : Int), vs = [.ref p] ∧ BndAt C H p l h ∧ heightB l = true ∧ heightB h = true ∧ l ≤ h ∧ ∀ y H', Same H H' → H y = none → BndAt C H' y (-h) (-l) → Q (.ref y) H'
theorem height_neg {i : Int} (h : heightB i = true) : heightB (-i) = true := by
  unfold heightB at h ⊢
  obtain ⟨h1, h2⟩ := Bool.and_eq_true_iff.mp h
  have h3 := of_decide_eq_true h1
  have h4 := of_decide_eq_true h2
  exact Bool.and_eq_true_iff.mpr ⟨decide_eq_true (by omega), decide_eq_true (by omega)⟩
theorem maxI (i j : Int) : (if j > i then j else i) = max i j := by
  rw [Int.max_def]
  split <;> split <;> omega
theorem minI (i j : Int) : (if j < i then j else i) = min i j := by
  rw [Int.min_def]
  split <;> split <;> omega
theorem height_max {i j : Int} (h : heightB i = true) (h2 : heightB j = true) : heightB (max i j) = true := by
  rw [Int.max_def]
  split
  · exact h2
  · exact h
theorem height_min {i j : Int} (h : heightB i = true) (h2 : heightB j = true) : heightB (min i j) = true := by
  rw [Int.min_def]
  split
  · exact h
  · exact h2
end L9

/-! Values as data: what == says of two values that hold the same -/
namespace L9
open PySem PySem.Spec PyProof.Rows L2
mutual
theorem eqv_self : ∀ d : PyData, d.canLay0 = true → PyData.eqv d d = true
  | .none, _ => by simp [PyData.eqv]
  | .bool b, _ => by simp [PyData.eqv]
  | .int i, _ => by simp [PyData.eqv]
  | .str x, _ => by simp [PyData.eqv]
  | .list xs, h => by
    have h2 : PyData.canLayAll0 xs = true := by simpa [PyData.canLay0] using h
    simpa [PyData.eqv] using eqv_selfAll xs h2
  | .tuple xs, h => by
    have h2 : PyData.canLayAll0 xs = true := by simpa [PyData.canLay0] using h
    simpa [PyData.eqv] using eqv_selfAll xs h2
  | .dict _, h => nomatch h
theorem eqv_selfAll : ∀ xs : List PyData, PyData.canLayAll0 xs = true → PyData.eqvAll xs xs = true
  | [], _ => by simp [PyData.eqvAll]
  | x :: xs, h => by
    have h2 : x.canLay0 = true ∧ PyData.canLayAll0 xs = true := by simpa [PyData.canLayAll0] using h
    simp [PyData.eqvAll, eqv_self x h2.1, eqv_selfAll xs h2.2]
end
/-- v holds the data d, at most n deep -/
structure Dat (K : PySem.W.Frag) (H : Hp) (n : Nat) (v : V) (d : PyData) : Prop where
  dp : Dp K H v d
  lay : d.canLay0 = true
  dep : d.depth ≤ n
structure DatAll (K : PySem.W.Frag) (H : Hp) (n : Nat) (vs : List V) (ds : List PyData) : Prop where
  dp : DpAll K H vs ds
  lay : PyData.canLayAll0 ds = true
  dep : PyData.depthAll ds ≤ n
section
variable {K : PySem.W.Frag} {H H' : Hp} {n : Nat} {v : V} {d : PyData} {vs : List V} {ds : List PyData}
theorem Dat.shaped (h : Dat K H n v d) (hn : n ≤ 64) : SeqAt.shaped d = true := by
  unfold SeqAt.shaped
  rw [h.lay, Bool.true_and]
  exact decide_eq_true (Nat.le_trans h.dep hn)
theorem dat_non : Dat K H n .non .none := ⟨.non, rfl, by simp [PyData.depth]⟩
theorem dat_bl {b : Bool} : Dat K H n (.bl b) (.bool b) := ⟨.bl b, rfl, by simp [PyData.depth]⟩
theorem dat_int {i : Int} : Dat K H n (.int i) (.int i) := ⟨.int i, rfl, by simp [PyData.depth]⟩
theorem dat_str {x : Str} (h : PyData.strOk x = true) : Dat K H n (.str x) (.str x) := ⟨.str x, by simpa [PyData.canLay0] using h, by simp [PyData.depth]⟩
theorem datAll_nil : DatAll K H n [] [] := ⟨.nil, by simp [PyData.canLayAll0], by simp [PyData.depthAll]⟩
theorem datAll_cons (h : Dat K H n v d) (hs : DatAll K H n vs ds) : DatAll K H n (v :: vs) (d :: ds) :=
  ⟨.cons h.dp hs.dp, by simp [PyData.canLayAll0, h.lay, hs.lay], by simp only [PyData.depthAll]; exact Nat.max_le.mpr ⟨h.dep, hs.dep⟩⟩
theorem dat_lst {p : Addr} (h : SqL K H p vs) (hs : DatAll K H n vs ds) : Dat K H (n + 1) (.ref p) (.list ds) :=
  ⟨.lst h hs.dp, by simpa [PyData.canLay0] using hs.lay, by simp only [PyData.depth]; exact Nat.succ_le_succ hs.dep⟩
theorem dat_tup {p : Addr} (h : SqT K H p vs) (hs : DatAll K H n vs ds) : Dat K H (n + 1) (.ref p) (.tuple ds) :=
  ⟨.tup h hs.dp, by simpa [PyData.canLay0] using hs.lay, by simp only [PyData.depth]; exact Nat.succ_le_succ hs.dep⟩
theorem datAll_ints : ∀ l : List Int, DatAll K H n (l.map V.int) (l.map PyData.int)
  | [] => datAll_nil
  | i :: l => datAll_cons dat_int (datAll_ints l)
theorem Dat.mono {m : Nat} (h : Dat K H n v d) (hn : n ≤ m) : Dat K H m v d := ⟨h.dp, h.lay, Nat.le_trans h.dep hn⟩
/-- == of two values that hold the same -/
theorem eq_same {u : V} {Q : VK} (h : Dat K H n v d) (h2 : Dat K H n u d) (hn : n ≤ 64) (q : Q (.bl true) H) : rEqD K v u H Q := by
  refine ⟨d, d, h.dp, h2.dp, h.shaped hn, h.shaped hn, ?_⟩
  rw [eqv_self d h.lay]
  exact q
theorem ne_same {u : V} {Q : VK} (h : Dat K H n v d) (h2 : Dat K H n u d) (hn : n ≤ 64) (q : Q (.bl false) H) : rNeD K v u H Q := by
  refine ⟨d, d, h.dp, h2.dp, h.shaped hn, h.shaped hn, ?_⟩
  rw [eqv_self d h.lay]
  exact q
theorem seqT {p : Addr} {xs : List V} (e : H p = some (.tup xs)) : SqT K H p xs := SqT.of e
end
mutual
theorem Dp.same {K : PySem.W.Frag} {H H' : Hp} (s : Same H H') : ∀ (d : PyData) (v : V), Dp K H v d → Dp K H' v d
  | .none, _, h => by cases h; exact .non
  | .bool b, _, h => by cases h; exact .bl b
  | .int i, _, h => by cases h; exact .int i
  | .str x, _, h => by cases h; exact .str x
  | .list ds, _, h => by
    cases h with
    | lst hs ha => exact .lst (s.seq hs) (DpAll.same s ds _ ha)
  | .tuple ds, _, h => by
    cases h with
    | tup hs ha =>
      refine .tup ?_ (DpAll.same s ds _ ha)
      rcases hs with (hs | ⟨o, hs⟩) | hs
      · exact .inl (.inl (s _ _ hs))
      · exact .inl (.inr ⟨o, s _ _ hs⟩)
      · exact .inr hs
  | .dict _, _, h => by cases h
theorem DpAll.same {K : PySem.W.Frag} {H H' : Hp} (s : Same H H') : ∀ (ds : List PyData) (vs : List V), DpAll K H vs ds → DpAll K H' vs ds
  | [], _, h => by cases h; exact .nil
  | d :: ds, _, h => by
    cases h with
    | cons h1 h2 => exact .cons (Dp.same s d _ h1) (DpAll.same s ds _ h2)
end
theorem Dat.same {K : PySem.W.Frag} {H H' : Hp} {n : Nat} {v : V} {d : PyData} (h : Dat K H n v d) (s : Same H H') : Dat K H' n v d := ⟨Dp.same s d v h.dp, h.lay, h.dep⟩
/-- two new lists of the same ints -/
theorem ne_ints {K : PySem.W.Frag} {H : Hp} {p q : Addr} {Q : VK} (xs : List Int) (np : H p = none) (nq : (upd H p (.lst (xs.map V.int))) q = none) (h : ∀ H', Same H H' → Q (.bl false) H') :
    rNeD K (.ref p) (.ref q) (upd (upd H p (.lst (xs.map V.int))) q (.lst (xs.map V.int))) Q := by
  have s1 : Same H (upd H p (.lst (xs.map V.int))) := same_upd np
  have e1 : (upd H p (.lst (xs.map V.int))) p = some (.lst (xs.map V.int)) := upd_same
  exact ne_same (n := 1) (dat_lst (SqL.of (same_upd nq _ _ e1)) (datAll_ints xs)) (dat_lst (SqL.of upd_same) (datAll_ints xs)) (by decide) (h _ (s1.trans (same_upd nq)))
theorem eqv2 (a b c d : Int) : PyData.eqv (.tuple [.int a, .int b]) (.tuple [.int c, .int d]) = (decide (a = c) && decide (b = d)) := by
  simp only [PyData.eqv, PyData.eqvAll, Bool.and_true]
  rfl
/-- two new pairs of ints -/
theorem eq_pairs {K : PySem.W.Frag} {H : Hp} {p q : Addr} {Q : VK} (a b c d : Int) (np : H p = none) (nq : (upd H p (.tup [.int a, .int b])) q = none) (h : ∀ H', Same H H' → Q (.bl (decide (a = c) && decide (b = d))) H') :
    rEqD K (.ref p) (.ref q) (upd (upd H p (.tup [.int a, .int b])) q (.tup [.int c, .int d])) Q := by
  have s1 : Same H (upd H p (.tup [.int a, .int b])) := same_upd np
  have e1 : (upd H p (.tup [.int a, .int b])) p = some (.tup [.int a, .int b]) := upd_same
  have d1 : Dat K (upd (upd H p (.tup [.int a, .int b])) q (.tup [.int c, .int d])) 1 (.ref p) (.tuple [.int a, .int b]) := dat_tup (SqT.of (same_upd nq _ _ e1)) (datAll_ints [a, b])
  have d2 : Dat K (upd (upd H p (.tup [.int a, .int b])) q (.tup [.int c, .int d])) 1 (.ref q) (.tuple [.int c, .int d]) := dat_tup (SqT.of upd_same) (datAll_ints [c, d])
  refine ⟨_, _, d1.dp, d2.dp, d1.shaped (by decide), d2.shaped (by decide), ?_⟩
  rw [eqv2]
  exact h _ (s1.trans (same_upd nq))
/-- within bounds that are heights: a height -/
theorem within_height {a b m : Int} (ha : heightB a = true) (hb : heightB b = true) : (heightB m && (decide (a ≤ m) && decide (m ≤ b))) = (decide (a ≤ m) && decide (m ≤ b)) := by
  cases e1 : decide (a ≤ m) with
  | false => rw [Bool.false_and, Bool.and_false]
  | true =>
    cases e2 : decide (m ≤ b) with
    | false => rw [Bool.and_false, Bool.and_false]
    | true =>
      have h1 := of_decide_eq_true e1
      have h2 := of_decide_eq_true e2
      unfold heightB at ha hb ⊢
      obtain ⟨h3, _⟩ := Bool.and_eq_true_iff.mp ha
      obtain ⟨_, h4⟩ := Bool.and_eq_true_iff.mp hb
      have h5 := of_decide_eq_true h3
      have h6 := of_decide_eq_true h4
      rw [decide_eq_true (show -MH ≤ m by omega), decide_eq_true (show m ≤ MH by omega)]
      rfl
end L9

/-! own o[k]; d.update(e); typed data: sorted, min, ==, in -/
namespace L9
open PySem PySem.Spec PyProof.Rows L2

section
variable {X : Cx} {CX : CXT} {k : Nat} {C f : Addr} {fd : FuncData} {ps : List Str} {sp : Sp} {pos : Pos} {a b : Expr} {ta tb : TE}
theorem run_fn1 {E : XK} {pins : List (Addr × Obj)} {σ : L2.St} {H : Hp} {s : Shared} {Q : VK} {us : List Value} {vs : List V} (F : FnOk X.prog X.w X.K X.mg X.base CX k f fd ps sp) (hr : Room (k + 1) X.A) (hb : Binds X.K fd ps []) (hx : Passes CX X E)
    (I : Inv X pins σ H s) (r : Vals vs us) (h : sp vs H Q E) : wpAny (model X.prog X.w) X.A.in1 (call (.ref f) us) (EP X pins σ Q) X.xe s := by
  have r2 : Vals vs (us ++ []) := by rwa [List.append_nil]
  have hl : (us ++ []).length = ps.length := by rw [← r2.length]; exact F.len _ _ _ _ h
  refine wpAny_call (codeAny_mono (F.run X.A.in1 X.stack s H ⟨us, []⟩ (us ++ []) vs Q E hr.in1 I.env0.in1 (hb s us I.kIn hl) r2 h) fun r s' hq => ?_)
  cases r with
  | error e => exact hx pins σ H s e s' I hq
  | ok fl =>
    cases fl with
    | ret u => exact I.after hq
    | next => exact False.elim hq
    | brk => exact False.elim hq
    | cont => exact False.elim hq
/-- o[i] by the class's own __getitem__ -/
def tSubO (C : Addr) (sp : Sp) (E : XK) (ta tb : TE) : TE := fun σ H Q => ta σ H fun x H1 => tb σ H1 fun y H2 => ∃ a dx fs, x = .ref a ∧ H2 a = some (.ins C dx fs) ∧ sp [x, y] H2 Q E
theorem pe_subO {E : XK} (hs : PySem.W.findIn X.K (.ref C) "__getitem__" = some (some (.ref f))) (hf : PySem.W.fnIn X.K f = true) (hfn : PySem.W.isFn X.K (.ref f) = true) (F : FnOk X.prog X.w X.K X.mg X.base CX k f fd ps sp) (hr : Room (k + 1) X.A)
    (hb : Binds X.K fd ps []) (hx : Passes CX X E) (ha : PE X a ta) (hb2 : PE X b tb) (hsl : ∀ (x : Addr) (i : Value), subscripted b true (.ref x) i = runValue (.builtin "lifetime.subscript" ⟨[.ref x, i], []⟩)) : PE X (.Subscript a b pos) (tSubO C sp E ta tb) := by
  refine ⟨fun pins s σ H Q I h => ?_⟩
  refine Subscript_ (binT ha hb2 I h fun v u s2 x y H2 I2 rx ry q => ?_)
  obtain ⟨p, dx, fs, rfl, hp, q⟩ := q
  cases (show v = Value.ref p from rx)
  obtain ⟨od, J⟩ := inst_at I2 hp
  obtain ⟨mm, hF⟩ := I2.fr
  exact PySem.W.sub_K hF I2.ok.mod.kin J hs hf hfn (run_fn1 (us := [.ref p, u]) (vs := [.ref p, y]) F hr hb hx I2 (.cons rfl (.cons ry .nil)) q) (hsl p u)
end
/-- d.update(e) -/
def rDUpd : V → List V → Hp → VK → Prop := fun x vs H Q => ∃ (a b : Addr) (kvs more : List (L2.Key × V)), x = .ref a ∧ vs = [.ref b] ∧ a ≠ b ∧ H a = some (.dK kvs) ∧ H b = some (.dK more) ∧ kvs.length + more.length ≤ sizeLine ∧ Q .non (upd H a (.dK (mergeK kvs more)))
theorem mtd_update {X : Cx} : MtR X "dict.update" rDUpd := by
  intro pins s σ H x vs v us Q I rx rv h
  obtain ⟨a, b, kvs, more, rfl, rfl, hab, ea, eb, hz, q⟩ := h
  obtain rfl : v = Value.ref a := rx
  obtain ⟨u, rfl, ru⟩ := vals1 rv
  obtain rfl : u = Value.ref b := ru
  obtain ⟨z, hd, ws, rel, dd⟩ := dk_of I.hok ea
  obtain ⟨z2, hd2, ws2, rel2, dd2⟩ := dk_of I.hok eb
  refine call_meetsIn PySem.F.slot_dict_update dd.typeIs PySem.F.entry_dict_update (PySem.F.args_dict_update_2 _ _) (meets_dict_update (mixKind X.prog X.w) a b hab hd2) ⟨ws, ws2, dd, dd2, by rw [← rel.length, ← rel2.length]; exact hz, fun h' dd' _ hs => ?_⟩
  have he : ∃ q, h'.get? a = some q := let ⟨q, _, _, hq, _⟩ := dd'; ⟨q, hq⟩
  exact ⟨.non, _, d_write (t' := s.toks) I (by rw [ea]; exact True.intro) hs he (dk_new (Nat.le_trans (length_mergeK more kvs) hz) hd (KV.merge rel2 rel) dd'), rfl, q⟩

/-! ### typed data -/
mutual
theorem reads_inj {h : Heap} : ∀ (d : PyData) (v : Value) (d' : PyData) (as as' : List Addr), d.plain = true → Reads h v d as → Reads h v d' as' → d = d'
  | .none, v, d', as, as', _, r1, r2 => by cases r1; cases r2; rfl
  | .bool _, v, d', as, as', _, r1, r2 => by cases r1; cases r2; rfl
  | .int _, v, d', as, as', _, r1, r2 => by cases r1; cases r2; rfl
  | .str _, v, d', as, as', _, r1, r2 => by cases r1; cases r2; rfl
  | .list ds, v, d', as, as', hp, r1, r2 => by
    have hp2 : PyData.plainAll ds = true := by simpa [PyData.plain] using hp
    cases r1 with
    | list h1 h2 h3 h4 =>
      cases r2 with
      | list k1 k2 k3 k4 =>
        rw [h1] at k1
        cases k1
        rw [h3] at k3
        cases k3
        rw [reads_injAll ds _ _ _ _ hp2 h4 k4]
      | tuple k1 k2 k3 k4 =>
        rw [h1] at k1
        cases k1
        rw [h2] at k2
        exact absurd (Value.type.inj k2) (by decide)
      | dict k1 k2 k3 k4 =>
        rw [h1] at k1
        cases k1
        rw [h2] at k2
        exact absurd (Value.type.inj k2) (by decide)
  | .tuple ds, v, d', as, as', hp, r1, r2 => by
    have hp2 : PyData.plainAll ds = true := by simpa [PyData.plain] using hp
    cases r1 with
    | tuple h1 h2 h3 h4 =>
      cases r2 with
      | tuple k1 k2 k3 k4 =>
        rw [h1] at k1
        cases k1
        rw [h3] at k3
        cases k3
        rw [reads_injAll ds _ _ _ _ hp2 h4 k4]
      | list k1 k2 k3 k4 =>
        rw [h1] at k1
        cases k1
        rw [h2] at k2
        exact absurd (Value.type.inj k2) (by decide)
      | dict k1 k2 k3 k4 =>
        rw [h1] at k1
        cases k1
        rw [h2] at k2
        exact absurd (Value.type.inj k2) (by decide)
  | .dict _, v, d', as, as', hp, _, _ => absurd hp (by simp [PyData.plain])
theorem reads_injAll {h : Heap} : ∀ (ds : List PyData) (vs : List Value) (ds' : List PyData) (as as' : List Addr), PyData.plainAll ds = true → ReadsAll h vs ds as → ReadsAll h vs ds' as' → ds = ds'
  | [], vs, ds', as, as', _, r1, r2 => by cases r1; cases r2; rfl
  | d :: ds, vs, ds', as, as', hp, r1, r2 => by
    have hp2 : d.plain = true ∧ PyData.plainAll ds = true := by simpa [PyData.plainAll] using hp
    cases r1 with
    | cons h1 h2 =>
      cases r2 with
      | cons k1 k2 => rw [reads_inj d _ _ _ _ hp2.1 h1 k1, reads_injAll ds _ _ _ _ hp2.2 h2 k2]
end
theorem vals_at : ∀ {xs : List V} {us : List Value} {i : Nat} {u : Value}, Vals xs us → us[i]? = some u → ∃ x, xs[i]? = some x ∧ RelV x u
  | _, _, 0, u, .cons r _, e => by
    cases e
    exact ⟨_, rfl, r⟩
  | _, _, i + 1, u, .cons _ rs, e => vals_at (i := i) rs e
section
variable {K : PySem.W.Frag} {H : Hp} {α : Type} [DecidableEq α] [PySem.W.Datum α]
/-- v holds x -/
def Hd (K : PySem.W.Frag) (H : Hp) (v : V) (x : α) : Prop := Dp K H v (PySem.W.Datum.toD x)
/-- item by item -/
def HdAll (K : PySem.W.Frag) (H : Hp) : List V → List α → Prop
  | [], [] => True
  | v :: vs, x :: xs => Hd K H v x ∧ HdAll K H vs xs
  | _, _ => False
theorem HdAll.dp : ∀ {vs : List V} {xs : List α}, HdAll K H vs xs → DpAll K H vs (xs.map PySem.W.Datum.toD)
  | [], [], _ => .nil
  | _ :: _, _ :: _, h => .cons h.1 h.2.dp
  | [], _ :: _, h => h.elim
  | _ :: _, [], h => h.elim
theorem HdAll.length : ∀ {vs : List V} {xs : List α}, HdAll K H vs xs → vs.length = xs.length
  | [], [], _ => rfl
  | _ :: _, _ :: _, h => by rw [List.length_cons, List.length_cons, h.2.length]
  | [], _ :: _, h => h.elim
  | _ :: _, [], h => h.elim
theorem HdAll.mono {H' : Hp} (s : Same H H') : ∀ {vs : List V} {xs : List α}, HdAll K H vs xs → HdAll K H' vs xs
  | [], [], _ => trivial
  | _ :: _, _ :: _, h => ⟨Dp.same s _ _ h.1, h.2.mono s⟩
  | [], _ :: _, h => h.elim
  | _ :: _, [], h => h.elim
theorem HdAll.app : ∀ {vs us : List V} {xs ys : List α}, HdAll K H vs xs → HdAll K H us ys → HdAll K H (vs ++ us) (xs ++ ys)
  | [], _, [], _, _, h2 => h2
  | _ :: _, _, _ :: _, _, h, h2 => ⟨h.1, HdAll.app h.2 h2⟩
  | [], _, _ :: _, _, h, _ => h.elim
  | _ :: _, _, [], _, h, _ => h.elim
theorem HdAll.get : ∀ {vs : List V} {xs : List α} {i : Nat} {v : V}, HdAll K H vs xs → vs[i]? = some v → ∃ x, xs[i]? = some x ∧ Hd K H v x
  | _ :: _, x :: _, 0, v, h, e => by
    cases e
    exact ⟨x, rfl, h.1⟩
  | _ :: _, _ :: _, i + 1, v, h, e => HdAll.get (i := i) h.2 e
  | [], [], _, _, _, e => nomatch e
  | [], _ :: _, _, _, h, _ => h.elim
  | _ :: _, [], _, _, h, _ => h.elim
theorem hd_strs : ∀ l : List Str, HdAll K H (l.map V.str) l
  | [] => trivial
  | x :: l => ⟨.str x, hd_strs l⟩
theorem hd_ints : ∀ l : List Int, HdAll K H (l.map V.int) l
  | [] => trivial
  | x :: l => ⟨.int x, hd_ints l⟩
theorem hd_list {p : Addr} {vs : List V} {xs : List α} (h : SqL K H p vs) (hs : HdAll K H vs xs) : Hd K H (.ref p) xs := .lst h hs.dp
theorem hd_pair {β : Type} [DecidableEq β] [PySem.W.Datum β] {p : Addr} {v u : V} {x : α} {y : β} (h : SqT K H p [v, u]) (h1 : Hd K H v x) (h2 : Hd K H u y) : Hd K H (.ref p) (x, y) := .tup h (.cons h1 (.cons h2 .nil))
end
section
variable {X : Cx} {α : Type} [DecidableEq α]
/-- x == y of data of the one type -/
def rEqT (α : Type) [DecidableEq α] [PySem.W.Datum α] (K : PySem.W.Frag) : R2 := fun v u H Q => ∃ x y : α, Hd K H v x ∧ Hd K H u y ∧ Q (.bl (decide (x = y))) H
def rNeT (α : Type) [DecidableEq α] [PySem.W.Datum α] (K : PySem.W.Frag) : R2 := fun v u H Q => ∃ x y : α, Hd K H v x ∧ Hd K H u y ∧ Q (.bl (decide (x ≠ y))) H
theorem op_eqT [PySem.W.Datum α] (hu : X.A.units + PySem.W.Datum.depth α < cLine) : OpR X (compareOp .Eq) (rEqT α X.K) := by
  intro pins s σ H v u v' u' Q I rv ru h
  obtain ⟨x, y, h1, h2, q⟩ := h
  exact PySem.W.eq_datum (Dp.reads I _ _ _ h1 rv) (Dp.reads I _ _ _ h2 ru) hu ⟨.bl _, H, I, rfl, q⟩
theorem op_neT [PySem.W.Datum α] (hu : X.A.units + PySem.W.Datum.depth α < cLine) : OpR X (compareOp .NotEq) (rNeT α X.K) := by
  intro pins s σ H v u v' u' Q I rv ru h
  obtain ⟨x, y, h1, h2, q⟩ := h
  exact PySem.W.ne_datum (Dp.reads I _ _ _ h1 rv) (Dp.reads I _ _ _ h2 ru) hu ⟨.bl _, H, I, rfl, q⟩
/-- x in xs, a list of data of the one type -/
def rInT (α : Type) [DecidableEq α] [PySem.W.Datum α] (K : PySem.W.Frag) : R2 := fun v u H Q => ∃ (x : α) (xs : List α) (p : Addr) (vs : List V), u = .ref p ∧ SqL K H p vs ∧ HdAll K H vs xs ∧ Hd K H v x ∧ Q (.bl (decide (x ∈ xs))) H
def rNotInT (α : Type) [DecidableEq α] [PySem.W.Datum α] (K : PySem.W.Frag) : R2 := fun v u H Q => ∃ (x : α) (xs : List α) (p : Addr) (vs : List V), u = .ref p ∧ SqL K H p vs ∧ HdAll K H vs xs ∧ Hd K H v x ∧ Q (.bl (decide (x ∉ xs))) H
theorem op_inT [PySem.W.Datum α] (hu : X.A.units + 1 + PySem.W.Datum.depth α < cLine) : OpR X (compareOp .In) (rInT α X.K) := by
  intro pins s σ H v u v' u' Q I rv ru h
  obtain ⟨x, xs, p, vs, rfl, hl, ha, h1, q⟩ := h
  cases (show u' = Value.ref p from ru)
  obtain ⟨its, r, pl, hz⟩ := I.list hl
  obtain ⟨as, rd⟩ := Dp.readsAll I _ _ _ ha.dp r
  exact PySem.W.in_list_datum pl.isList ⟨as, by simpa using rd⟩ (Dp.reads I _ _ _ h1 rv) hu ⟨.bl _, H, I, rfl, q⟩
theorem op_notInT [PySem.W.Datum α] (hu : X.A.units + 1 + PySem.W.Datum.depth α < cLine) : OpR X (compareOp .NotIn) (rNotInT α X.K) := by
  intro pins s σ H v u v' u' Q I rv ru h
  obtain ⟨x, xs, p, vs, rfl, hl, ha, h1, q⟩ := h
  cases (show u' = Value.ref p from ru)
  obtain ⟨its, r, pl, hz⟩ := I.list hl
  obtain ⟨as, rd⟩ := Dp.readsAll I _ _ _ ha.dp r
  exact PySem.W.notIn_list_datum pl.isList ⟨as, by simpa using rd⟩ (Dp.reads I _ _ _ h1 rv) hu ⟨.bl _, H, I, rfl, q⟩
/-- min(xs): the item itself -/
def rMinT (α : Type) [DecidableEq α] [PySem.W.DatumOrd α] (K : PySem.W.Frag) : List V → Hp → VK → Prop := fun ws H Q => ∃ (p : Addr) (vs : List V) (x : α) (xs : List α), ws = [.ref p] ∧ SqL K H p vs ∧ HdAll K H vs (x :: xs) ∧ ∀ (i : Nat) v, vs[i]? = some v → Hd K H v (PySem.W.minOf x xs) → Q v H
theorem cr_minT [PySem.W.DatumOrd α] (hc : X.calm = true) (hu : X.A.units + 1 + PySem.W.Datum.depth α < cLine) : CallR X (.builtin "min") (rMinT α X.K) := by
  intro pins s σ H ws us Q I r h
  obtain ⟨p, vs, x, xs, rfl, hl, ha, q⟩ := h
  rw [Vals.ref1 r]
  obtain ⟨its, rv, pl, hz⟩ := I.list hl
  obtain ⟨as, rd⟩ := Dp.readsAll I _ _ _ ha.dp rv
  refine PySem.W.min_list_datum (I.ok.hd hc) pl.isList (x := x) (xs := xs) ⟨as, by simpa using rd⟩ hu fun i v h' tk hi hv hk => ?_
  have hi2 : its[i]? = some v := by simpa using hi
  obtain ⟨y, hy, ry⟩ := vals_at rv hi2
  obtain ⟨z, hz2, hzd⟩ := HdAll.get ha hy
  obtain ⟨as2, rd2⟩ := Dp.reads I _ _ _ hzd ry
  obtain ⟨as3, rd3⟩ := hv
  have e : PySem.W.Datum.toD z = PySem.W.Datum.toD (PySem.W.minOf x xs) := reads_inj _ _ _ _ _ (PySem.W.Datum.plain z) (PyProof.Rows.Reads.keeps hk rd2) rd3
  refine ⟨y, H, I.kept hk, ry, q i y hy ?_⟩
  unfold Hd
  rw [← e]
  exact hzd
/-- sorted(xs): the items by their order -/
def rSortT (α : Type) [DecidableEq α] [PySem.W.DatumOrd α] (K : PySem.W.Frag) : List V → Hp → VK → Prop := fun ws H Q => ∃ (p : Addr) (vs : List V) (xs : List α), ws = [.ref p] ∧ SqL K H p vs ∧ HdAll K H vs xs ∧ PySem.W.Sortable (xs.map PySem.W.Datum.toD) ∧
  ∀ (q : Addr) (us : List V), H q = none → HdAll K H us (xs.mergeSort (PySem.W.dataLe false PySem.W.Datum.toD)) → Q (.ref q) (upd H q (.lst us))
theorem each_out {R : Value → α → Prop} {S : V → Value → α → Prop} (h : ∀ u x, R u x → ∃ v, S v u x ∧ RelV v u) : ∀ {us : List Value} {xs : List α}, PySem.W.EachIs R us xs → ∃ vs : List V, Vals vs us ∧ vs.length = xs.length ∧ ∀ (i : Nat) (v : V) (u : Value) (x : α), vs[i]? = some v → us[i]? = some u → xs[i]? = some x → S v u x
  | _, _, .nil => ⟨[], .nil, rfl, fun i v u x e => nomatch e⟩
  | _, _, .cons r rs => by
    obtain ⟨v, s, rv⟩ := h _ _ r
    obtain ⟨vs, rr, hl, hs⟩ := each_out h rs
    refine ⟨v :: vs, .cons rv rr, by rw [List.length_cons, List.length_cons, hl], fun i w u x e1 e2 e3 => ?_⟩
    match i with
    | 0 =>
      cases e1
      cases e2
      cases e3
      exact s
    | i + 1 => exact hs i w u x e1 e2 e3
theorem hdAll_of {K : PySem.W.Frag} {H : Hp} [PySem.W.Datum α] : ∀ {vs : List V} {xs : List α}, vs.length = xs.length → (∀ (i : Nat) v x, vs[i]? = some v → xs[i]? = some x → Hd K H v x) → HdAll K H vs xs
  | [], [], _, _ => trivial
  | v :: vs, x :: xs, hl, h => ⟨h 0 v x rfl rfl, hdAll_of (by simpa using hl) fun i v x e1 e2 => h (i + 1) v x e1 e2⟩
  | [], _ :: _, hl, _ => by simp at hl
  | _ :: _, [], hl, _ => by simp at hl
theorem each_in {K : PySem.W.Frag} {H : Hp} [PySem.W.Datum α] {R : Value → α → Prop} (h : ∀ v u x, RelV v u → Hd K H v x → R u x) : ∀ {vs : List V} {us : List Value} {xs : List α}, Vals vs us → HdAll K H vs xs → PySem.W.EachIs R us xs
  | [], _, [], .nil, _ => .nil
  | _ :: _, _, _ :: _, .cons r rs, hd => .cons (h _ _ _ r hd.1) (each_in h rs hd.2)
  | [], _, _ :: _, _, hd => hd.elim
  | _ :: _, _, [], _, hd => hd.elim
theorem cr_sortT [PySem.W.DatumOrd α] (hu : X.A.units + 2 + PySem.W.Datum.depth α < cLine) : CallR X (.builtin "sorted") (rSortT α X.K) := by
  intro pins s σ H ws us Q I r h
  obtain ⟨p, vs, xs, rfl, hl, ha, hso, q⟩ := h
  rw [Vals.ref1 r]
  obtain ⟨its, rv, pl, hz⟩ := I.list hl
  have hlen : xs.length ≤ sizeLine := by
    rw [← ha.length]
    exact hz
  refine PySem.W.sorted_data (R := fun u x => ∃ v, RelV v u ∧ Hd X.K H v x) (enc := PySem.W.Datum.toD) pl.isList (each_in (fun v u x rr hd => ⟨v, rr, hd⟩) rv ha) (each_in (fun v u x rr hd => Dp.reads I _ _ _ hd rr) rv ha) (fun d hd d' hd' => by
    obtain ⟨a, _, rfl⟩ := List.mem_map.mp hd
    obtain ⟨b, _, rfl⟩ := List.mem_map.mp hd'
    exact PySem.W.DatumOrd.alike a b) hso hlen (fun b _ => Nat.lt_of_le_of_lt (Nat.add_le_add_left (PySem.W.Datum.depth_le b) _) hu) fun out ho he => ?_
  obtain ⟨ws, rw', hwl, hws⟩ := each_out (S := fun v _ x => Hd X.K H v x) (fun u x h => by
    obtain ⟨v, h1, h2⟩ := h
    exact ⟨v, h2, h1⟩) he
  have hd : HdAll X.K H ws (xs.mergeSort (PySem.W.dataLe false PySem.W.Datum.toD)) := hdAll_of hwl fun i v x e1 e2 => by
    obtain ⟨u, hu2, _⟩ := rw'.get e1
    exact hws i v u x e1 hu2 e2
  obtain ⟨ep, he'⟩ := PyProof.Rows.sortedAll_at s.heap its out.toArray
  have hln : ws.length ≤ sizeLine := by
    rw [hwl, List.length_mergeSort]
    exact hlen
  exact ⟨.ref _, upd H (s.heap.objs.size + 1) (.lst ws), I.laid (t' := s.toks) (fun _ _ => PyProof.Rows.sortedAll_old) (Nat.le_succ _) ⟨hln, out, ep, rw', he'⟩, rfl, q _ ws (I.hok.fresh (Nat.le_succ _)) hd⟩
end
end L9

/-! own classes by name: their methods, their making, their o[k] and k in o -/
namespace L9
open PySem PySem.Spec PyProof.Rows L2
theorem hu65 {A : Around} {k : Nat} (hr : Room k A) : A.units + 1 + 64 < cLine := by have := hr.un; omega
theorem mtr_popAt {X : Cx} : MtR X "list.pop" rPopAt := mt_popAt
theorem mtr_pop {X : Cx} : MtR X "list.pop" rPop := mt_pop
theorem mtr_append {X : Cx} : MtR X "list.append" rAppend := mt_append
/-! rules that name the written part, for the block of a comprehension -/
section
variable {X : Cx} {K' : PySem.W.Frag}
theorem ix_listK (h : X.K = K') : IxR X (rIxL K') := by subst h; exact ix_list
theorem ix_tupK (h : X.K = K') : IxR X (rIxT K') := by subst h; exact ix_tup
theorem call_len_seqK (h : X.K = K') : CallR X (.builtin "len") (fun xs H Q => ∃ p ys, xs = [.ref p] ∧ (SqL K' H p ys ∨ SqT K' H p ys) ∧ Q (.int ys.length) H) := by subst h; exact call_len_seq
theorem op_in_seqK (h : X.K = K') : OpR X (compareOp .In) (rIn K' false) := by subst h; exact op_in_seq
theorem op_notIn_seqK (h : X.K = K') : OpR X (compareOp .NotIn) (rIn K' true) := by subst h; exact op_notIn_seq
theorem cr_sortedSK (h : X.K = K') : CallR X (.builtin "sorted") (rSortedS K') := by subst h; exact cr_sortedS
theorem pe_bmK (h : X.K = K') {o e : Expr} {es : List Expr} {T name id : String} {r : V → List V → Hp → VK → Prop} {to : TE} {t : TA} {apos cpos : Pos} (pa : PlainAttrs T) (slot : Slot T name id) (hty : typeOf (.builtin id) = pure (.type "method_descriptor")) (hm : MtR X id r) (ho : PE X o to) (ha : PA X (e :: es) t)
    (hbase : attributeBase o name X.env (eval o X.env) = eval o X.env := by rfl)
    (hfew : ((backTo cpos (starEach (e :: es) X.env)).all (fun x => !x.1) && (backToKw cpos (keywordEach [] X.env)).all (fun x => x.1.isSome)
      && decide ((e :: es).length + ([] : List Keyword).length + (if ([] : List Keyword).isEmpty then 0 else 1) < 30)) = true := by rfl)
    (hline : (apos.endLine == cpos.line) = true := by rfl) (hs : starEach (e :: es) X.env = (false, eval e X.env) :: starEach es X.env := by rfl) (hplain : (backTo cpos (starEach es X.env)).any (·.1) = false := by rfl) :
    PE X (.Call (.Attribute o name apos) (e :: es) [] cpos) (tBM K' T r to t) := by subst h; exact pe_bm pa slot hty hm ho ha hbase hfew hline hs hplain
theorem pe_fldK (h : X.K = K') {e : Expr} {f : Str} {pos : Pos} {ta : TE} (he : PE X e ta) (hb : attributeBase e f X.env (eval e X.env) = eval e X.env) : PE X (.Attribute e f pos) (tFld K' ta f) := by subst h; exact pe_fld he hb
end
theorem huD {A : Around} {k d : Nat} (hr : Room k A) (h : d ≤ 64) : A.units + 1 + d < cLine := by have := hu65 hr; omega
theorem huF {A : Around} {k d : Nat} (hr : Room k A) (h : d ≤ 62) : A.units + 2 + d < cLine := by have := hu65 hr; omega
theorem huE {A : Around} {k d : Nat} (hr : Room k A) (h : d ≤ 64) : A.units + d < cLine := by have := hu65 hr; omega
/-- an own class x at C, whose instances have attributes of their own -/
structure ClsT (K : PySem.W.Frag) (mg : Str → Option Value) (x : Str) (C : Addr) : Prop where
  g : mg x = some (.ref C)
  cl : Cls K C
  ca : PySem.W.findIn K (.ref C) "__class__" = some (some (.builtin "object.__class__"))
  cn : PySem.W.specialIn K (.builtin "object.__class__") "__get__" = some (some (.builtin "getset_descriptor.__get__"))
  ct : PySem.W.takesIn K (.builtin "object.__class__") = some true
  cm : PySem.W.mroIn K C (.type "object") = some true
  kb : PySem.W.kitOne K (.ref C) (.ref C) = some true
theorem ClsT.ty {K : PySem.W.Frag} {mg : Str → Option Value} {x : Str} {C : Addr} (B : ClsT K mg x C) {H : Hp} {p dx : Addr} {fs : List (Str × V)} (e : H p = some (.ins C dx fs)) : TyX K H (.ref p) (.ref C) := .base (.ins e B.cl B.ca B.cn B.ct B.cm)
/-- the method m of the class at C, with all that a call of it wants -/
structure MCal (P : Program) (w : World) (K : PySem.W.Frag) (mg : Str → Option Value) (base : Heap) (C : Addr) (m : Str) (k : Nat) (ps : List Str) (sp : Sp) : Prop where
  ex : ∃ (f : Addr) (fd : FuncData), FnOk P w K mg base CX0 k f fd ps sp ∧ Meth K C m f ∧ Binds K fd ps []
/-- C(..), with all that it wants -/
structure ICal (P : Program) (w : World) (K : PySem.W.Frag) (mg : Str → Option Value) (base : Heap) (x : Str) (C : Addr) (k : Nat) (ps : List Str) (sp : Sp) : Prop where
  ex : ∃ (f : Addr) (fd : FuncData), FnOk P w K mg base CX0 k f fd ps sp ∧ Mk K C f ∧ Binds K fd ps [] ∧ mg x = some (.ref C)
/-- C(e, .., k = v, ..) -/
structure IKal (P : Program) (w : World) (K : PySem.W.Frag) (mg : Str → Option Value) (base : Heap) (x : Str) (C : Addr) (k : Nat) (ps : List Str) (n : Nat) (ks : List Str) (gV : List V → List V → List V) (sp : Sp) : Prop where
  ex : ∃ (f : Addr) (fd : FuncData) (g : List Value → List Value → List Value), FnOk P w K mg base CX0 k f fd ps sp ∧ Mk K C f ∧ KBn K fd ps (n + 1) ks g gV ∧ mg x = some (.ref C)
/-- the operator's def m (not called by its name) -/
structure OCal (P : Program) (w : World) (K : PySem.W.Frag) (mg : Str → Option Value) (base : Heap) (C : Addr) (m : Str) (k : Nat) (ps : List Str) (sp : Sp) : Prop where
  ex : ∃ (f : Addr) (fd : FuncData), FnOk P w K mg base CX0 k f fd ps sp ∧ PySem.W.findIn K (.ref C) m = some (some (.ref f)) ∧ PySem.W.isFn K (.ref f) = true ∧ PySem.W.fnIn K f = true ∧ Binds K fd ps []
section
variable {X : Cx} {C : Addr} {m x : Str} {k : Nat} {ps : List Str} {sp : Sp} {o e : Expr} {es : List Expr} {ta tb : TE} {t : TA} {pos apos p1 : Pos}
theorem MCal.pe {pl : Sem Bool} (M : MCal X.prog X.w X.K X.mg X.base C m k ps sp) (c : Cls X.K C) (hr : Room k X.A) (he : PE X o ta) (ha : PA X (e :: es) t)
    (hst : starEach (e :: es) X.env = (false, eval e X.env) :: starEach es X.env := by rfl) (hpl : (backTo pos (starEach es X.env)).any (·.1) = false := by rfl)
    (ht : eval (.Call (.Attribute o m apos) (e :: es) [] pos) X.env = (do
      let ov ← eval o X.env
      standAt apos.atName
      let (f, first) ← holding [ov] (getMethod ov m pl)
      callWith pos f first (backTo pos (starEach (e :: es) X.env)) (backToKw pos (keywordEach [] X.env))) := by rfl) :
    PE X (.Call (.Attribute o m apos) (e :: es) [] pos) (tMeth C m sp [] E0 ta t) := by
  obtain ⟨f, fd, G, hm, b⟩ := M.ex
  exact pe_meth he c hm G hr b .nil pass0 ha hst hpl ht
theorem MCal.pe0 {pl : Sem Bool} (M : MCal X.prog X.w X.K X.mg X.base C m k ps sp) (c : Cls X.K C) (hr : Room k X.A) (he : PE X o ta)
    (ht : eval (.Call (.Attribute o m apos) [] [] pos) X.env = (do
      let ov ← eval o X.env
      standAt apos.atName
      let (f, first) ← holding [ov] (getMethod ov m pl)
      callWith pos f first (backTo pos (starEach [] X.env)) (backToKw pos (keywordEach [] X.env))) := by rfl) :
    PE X (.Call (.Attribute o m apos) [] [] pos) (tMeth C m sp [] E0 ta tNil) := by
  obtain ⟨f, fd, G, hm, b⟩ := M.ex
  exact pe_meth0 he c hm G hr b .nil pass0 ht
theorem ICal.pe (M : ICal X.prog X.w X.K X.mg X.base x C k ps sp) (hr : Room (k + 1) X.A) (hg : Gl X x) (ha : PA X (e :: es) t) (hdb : (x == ("__debug__" : Str)) = false := by decide)
    (he : starEach (e :: es) X.env = (false, eval e X.env) :: starEach es X.env := by rfl) (hpl : (backTo pos (starEach es X.env)).any (·.1) = false := by rfl) :
    PE X (.Call (.Name x p1) (e :: es) [] pos) (tMake C sp [] E0 t) := by
  obtain ⟨f, fd, G, M, b, hm⟩ := M.ex
  exact pe_make M G hr hg hm b .nil pass0 ha hdb he hpl
theorem IKal.pk {n : Nat} {ks : List Str} {gV : List V → List V → List V} {kws : List Keyword} {tk : TA} (M : IKal X.prog X.w X.K X.mg X.base x C k ps n ks gV sp) (hr : Room (k + 1) X.A) (hg : Gl X x) (ha : PA X (e :: es) t) (hkw : PK X kws tk)
    (hall : (backToKw pos (keywordEach kws X.env)).all (·.1.isSome) = true := by rfl) (hks : (backToKw pos (keywordEach kws X.env)).filterMap (·.1) = ks := by rfl) (hdb : (x == ("__debug__" : Str)) = false := by decide)
    (he : starEach (e :: es) X.env = (false, eval e X.env) :: starEach es X.env := by rfl) (hpl : ((backTo pos (starEach (e :: es) X.env)).any (·.1) || (backToKw pos (keywordEach kws X.env)).any (·.1.isNone)) = false := by rfl) :
    PE X (.Call (.Name x p1) (e :: es) kws pos) (tMakeK C n ks.length sp gV E0 t tk) := by
  obtain ⟨f, fd, g, G, M, b, hm⟩ := M.ex
  exact pe_makeK M G hr hg hm b pass0 ha hkw hall hks hdb he hpl
theorem OCal.sub (M : OCal X.prog X.w X.K X.mg X.base C "__getitem__" k ps sp) (hr : Room (k + 1) X.A) (ha : PE X o ta) (hb2 : PE X e tb) (hsl : ∀ (x : Addr) (i : Value), subscripted e true (.ref x) i = runValue (.builtin "lifetime.subscript" ⟨[.ref x, i], []⟩)) :
    PE X (.Subscript o e pos) (tSubO C sp E0 ta tb) := by
  obtain ⟨f, fd, G, hs, hf, hf2, b⟩ := M.ex
  exact pe_subO hs hf2 hf G hr b pass0 ha hb2 hsl
theorem OCal.has (M : OCal X.prog X.w X.K X.mg X.base C "__contains__" k ps sp) (hr : Room k X.A) : OpR X (compareOp .In) (rInO C sp E0) := by
  obtain ⟨f, fd, G, hs, hf, hf2, b⟩ := M.ex
  exact op_inO (E := E0) hs hf G hr b pass0
/-- y not in x, x of the class at C -/
def rNotInO (C : Addr) (sp : Sp) (E : XK) : R2 := fun y x H Q => ∃ a dx fs, x = .ref a ∧ H a = some (.ins C dx fs) ∧ sp [x, y] H (fun z H' => ∃ b, z = .bl b ∧ Q (.bl (!b)) H') E
theorem OCal.hasnt (M : OCal X.prog X.w X.K X.mg X.base C "__contains__" k ps sp) (hr : Room k X.A) : OpR X (compareOp .NotIn) (rNotInO C sp E0) := by
  obtain ⟨f, fd, G, hs, hf, hf2, bb⟩ := M.ex
  intro pins s σ H y x u v Q I ry rx h
  obtain ⟨a, dx, fs, rfl, ha, q⟩ := h
  cases (show v = Value.ref a from rx)
  obtain ⟨od, J⟩ := inst_at I ha
  obtain ⟨mm, hF⟩ := I.fr
  refine PySem.W.notIn_K hF I.ok.mod.kin J hs hf ?_
  refine wpAny_mono (run_fn (us := [.ref a, u]) (vs := [.ref a, y]) G hr bb .nil pass0 I (.cons rfl (.cons ry .nil)) q) (fun w s' z => ?_) fun _ _ z => z
  obtain ⟨z', H', I', rz, b, ez, qz⟩ := z
  subst ez
  cases (show w = Value.bool b from rz)
  exact wpAny_truthy_bool ⟨.bl (!b), H', I', rfl, qz⟩
end
end L9

/-! unlike names, as lists of their signs' codes -/
namespace NL9
def Let (c : Nat) : Prop := 97 ≤ c ∧ c ≤ 122
/-- right names, none twice -/
structure Ok (L : List (List Nat)) : Prop where
  nd : L.Nodup
  nm : ∀ x ∈ L, 1 ≤ x.length ∧ x.length ≤ 8 ∧ ∀ c ∈ x, Let c
theorem Ok.take {L : List (List Nat)} (h : Ok L) (m : Nat) : Ok (L.take m) :=
  ⟨h.nd.sublist (List.take_sublist m L), fun x hx => h.nm x (List.mem_of_mem_take hx)⟩
theorem nodup_map {α β : Type} {f : α → β} (hf : ∀ a b, f a = f b → a = b) : ∀ {l : List α}, l.Nodup → (l.map f).Nodup
  | [], _ => List.nodup_nil
  | a :: l, h => by
    rw [List.nodup_cons] at h
    rw [List.map_cons, List.nodup_cons]
    refine ⟨fun hm => ?_, nodup_map hf h.2⟩
    obtain ⟨b, hb, e⟩ := List.mem_map.mp hm
    rw [hf _ _ e] at hb
    exact h.1 hb
theorem nodup_on {α β : Type} {f : α → β} : ∀ {l : List α}, (∀ a ∈ l, ∀ b ∈ l, f a = f b → a = b) → l.Nodup → (l.map f).Nodup
  | [], _, _ => List.nodup_nil
  | a :: l, hf, h => by
    rw [List.nodup_cons] at h
    rw [List.map_cons, List.nodup_cons]
    refine ⟨fun hm => ?_, nodup_on (fun a ha b hb => hf a (List.mem_cons_of_mem _ ha) b (List.mem_cons_of_mem _ hb)) h.2⟩
    obtain ⟨b, hb, e⟩ := List.mem_map.mp hm
    rw [hf _ (List.mem_cons_of_mem _ hb) _ List.mem_cons_self e] at hb
    exact h.1 hb
/-- the 26 signs from a first one on, by a step -/
def signs (f s : Nat) : List Nat := (List.range 26).map fun k => 97 + (f + s * k) % 26
theorem signs_all : ((List.range 26).all fun f => [1, 3, 5, 7, 9, 11, 15].all fun s => decide (signs f s).Nodup) = true := by decide +kernel
theorem signs_nd {f s : Nat} (hf : f < 26) (hs : s ∈ [1, 3, 5, 7, 9, 11, 15]) : (signs f s).Nodup := by
  have h := signs_all
  rw [List.all_eq_true] at h
  have h1 := h f (List.mem_range.mpr hf)
  rw [List.all_eq_true] at h1
  exact of_decide_eq_true (h1 s hs)
theorem signs_let (f s : Nat) : ∀ c ∈ signs f s, Let c := by
  intro c hc
  obtain ⟨k, _, rfl⟩ := List.mem_map.mp hc
  have := Nat.mod_lt (f + s * k) (show 0 < 26 by decide)
  exact ⟨by omega, by omega⟩
theorem signs_len (f s : Nat) : (signs f s).length = 26 := by
  unfold signs
  rw [List.length_map, List.length_range]
theorem signs_get {f s k : Nat} (hk : k < 26) : (signs f s)[k]? = some (97 + (f + s * k) % 26) := by
  unfold signs
  rw [List.getElem?_map, List.getElem?_range hk] <;> rfl
/-- the beginnings of a word -/
def heads (w : List Nat) : List (List Nat) := (List.range 8).map fun k => w.take (1 + k)
/-- .. and others -/
def way0 (w sg : List Nat) : List (List Nat) := heads w ++ (sg.map fun s => [122, s, 113]).filter fun x => decide (x ∉ heads w)
theorem way0_ok {w sg : List Nat} (hw : w.length = 8) (hl : ∀ c ∈ w, Let c) (hs : sg.Nodup) (hsl : ∀ c ∈ sg, Let c) : Ok (way0 w sg) := by
  have hh : ∀ x ∈ heads w, 1 ≤ x.length ∧ x.length ≤ 8 ∧ ∀ c ∈ x, Let c := by
    intro x hx
    obtain ⟨k, hk, rfl⟩ := List.mem_map.mp hx
    have hk := List.mem_range.mp hk
    rw [List.length_take]
    exact ⟨by omega, by omega, fun c hc => hl c (List.mem_of_mem_take hc)⟩
  have hn : (heads w).Nodup := by
    refine nodup_on (fun a ha b hb e => ?_) List.nodup_range
    have ha := List.mem_range.mp ha
    have hb := List.mem_range.mp hb
    have e := congrArg List.length e
    rw [List.length_take, List.length_take] at e
    omega
  have hr : ((sg.map fun s => [122, s, 113]).filter fun x => decide (x ∉ heads w)).Nodup := by
    refine List.Nodup.sublist List.filter_sublist (nodup_map (fun a b e => ?_) hs)
    simpa using e
  refine ⟨?_, fun x hx => ?_⟩
  · unfold way0
    rw [List.nodup_append]
    refine ⟨hn, hr, fun a ha b hb e => ?_⟩
    have h2 := of_decide_eq_true (List.mem_filter.mp hb).2
    rw [← e] at h2
    exact h2 ha
  · rcases List.mem_append.mp hx with h | h
    · exact hh x h
    · obtain ⟨s, hs', rfl⟩ := List.mem_map.mp (List.mem_filter.mp h).1
      refine ⟨by show 1 ≤ 3; decide, by show 3 ≤ 8; decide, fun c hc => ?_⟩
      simp only [List.mem_cons, List.not_mem_nil, or_false] at hc
      rcases hc with e | e | e
      · rw [e]; exact ⟨by decide, by decide⟩
      · rw [e]; exact hsl s hs'
      · rw [e]; exact ⟨by decide, by decide⟩
/-- the drawn sign at a place of a stem -/
def way2 (stem : List Nat) (at' : Nat) (sg : List Nat) : List (List Nat) := sg.map fun s => stem.take at' ++ [s] ++ stem.drop at'
theorem way2_ok {stem sg : List Nat} {at' : Nat} (hw : stem.length = 7) (hl : ∀ c ∈ stem, Let c) (hs : sg.Nodup) (hsl : ∀ c ∈ sg, Let c) : Ok (way2 stem at' sg) := by
  refine ⟨nodup_map (fun a b e => ?_) hs, fun x hx => ?_⟩
  · have e2 := List.append_cancel_right e
    have e3 := List.append_cancel_left e2
    simpa using e3
  · obtain ⟨s, hs', rfl⟩ := List.mem_map.mp hx
    rw [List.length_append, List.length_append, List.length_take, List.length_drop]
    refine ⟨by simp; omega, by simp; omega, fun c hc => ?_⟩
    rcases List.mem_append.mp hc with h | h
    · rcases List.mem_append.mp h with h | h
      · exact hl c (List.mem_of_mem_take h)
      · rw [List.mem_singleton.mp h]; exact hsl s hs'
    · exact hl c (List.mem_of_mem_drop h)
def way1 (sg : List Nat) : List (List Nat) := sg.map fun s => [s]
theorem way1_ok {sg : List Nat} (hs : sg.Nodup) (hsl : ∀ c ∈ sg, Let c) : Ok (way1 sg) := by
  refine ⟨nodup_map (fun a b e => by simpa using e) hs, fun x hx => ?_⟩
  obtain ⟨s, hs', rfl⟩ := List.mem_map.mp hx
  exact ⟨by show 1 ≤ 1; decide, by show 1 ≤ 8; decide, fun c hc => by rw [List.mem_singleton.mp hc]; exact hsl s hs'⟩
/-- each sign so often -/
def way3 (sg : List Nat) (at' m : Nat) : List (List Nat) := (List.range m).map fun k => List.replicate (1 + (k + at') % 8) (sg.getD k 97)
theorem way3_ok {sg : List Nat} {at' m : Nat} (hm : m ≤ sg.length) (hs : sg.Nodup) (hsl : ∀ c ∈ sg, Let c) : Ok (way3 sg at' m) := by
  refine ⟨nodup_on (fun a ha b hb e => ?_) List.nodup_range, fun x hx => ?_⟩
  · have ha := List.mem_range.mp ha
    have hb := List.mem_range.mp hb
    have e1 := congrArg (fun l => l.getD 0 0) e
    have e2 : sg.getD a 97 = sg.getD b 97 := by
      simpa [List.getD, Nat.add_comm 1, List.replicate_succ] using e1
    rw [List.getD_eq_getElem?_getD, List.getD_eq_getElem?_getD, List.getElem?_eq_getElem (by omega), List.getElem?_eq_getElem (by omega)] at e2
    exact (List.getElem_inj hs).mp e2
  · obtain ⟨k, hk, rfl⟩ := List.mem_map.mp hx
    have hk := List.mem_range.mp hk
    have h8 := Nat.mod_lt (k + at') (show 0 < 8 by decide)
    rw [List.length_replicate]
    refine ⟨by omega, by omega, fun c hc => ?_⟩
    rw [(List.mem_replicate.mp hc).2, List.getD_eq_getElem?_getD, List.getElem?_eq_getElem (by omega)]
    exact hsl _ (List.getElem_mem _)
/-- at least nine names by the first way -/
theorem way0_many {w sg : List Nat} (hs : sg.Nodup) (hl : sg.length = 26) : 9 ≤ (way0 w sg).length := by
  unfold way0
  rw [List.length_append]
  have h1 : (heads w).length = 8 := by unfold heads; rw [List.length_map, List.length_range]
  -- at most eight of the 26 others are beginnings
  have h2 : ((sg.map fun s => [122, s, 113]).filter fun x => decide (x ∉ heads w)).length + ((sg.map fun s => [122, s, 113]).filter fun x => !decide (x ∉ heads w)).length = 26 := by
    rw [← List.countP_eq_length_filter, ← List.countP_eq_length_filter]
    have h := List.length_eq_countP_add_countP (p := fun x => decide (x ∉ heads w)) (l := sg.map fun s => [122, s, 113])
    rw [List.length_map, hl] at h
    have e : (fun x => !decide (x ∉ heads w)) = fun x => decide ¬(decide (x ∉ heads w) = true) := by
      funext x
      simp
    rw [e]
    omega
  have h3 : ((sg.map fun s => [122, s, 113]).filter fun x => !decide (x ∉ heads w)).length ≤ (heads w).length := by
    refine List.Nodup.length_le_of_subset (List.Nodup.sublist List.filter_sublist (nodup_map (fun a b e => by simpa using e) hs)) fun x hx => ?_
    have h := (List.mem_filter.mp hx).2
    simpa using h
  omega
end NL9

/-! Parts of a set of places: reach, lists of parts, counting them -/
namespace M9
universe u v
section
variable {α : Type u} {β : Type v}
/-- a way from x to y within S, tie by tie -/
inductive Rch (adj : α → α → Prop) (S : α → Prop) (x : α) : α → Prop
  | refl : S x → Rch adj S x x
  | step {y z : α} : Rch adj S x y → adj y z → S z → Rch adj S x z
variable {adj : α → α → Prop} {S T : α → Prop} {x y z : α}
theorem Rch.head (h : Rch adj S x y) : S x := by
  induction h with
  | refl h => exact h
  | step _ _ _ ih => exact ih
theorem Rch.last (h : Rch adj S x y) : S y := by
  cases h with
  | refl h => exact h
  | step _ _ h => exact h
theorem Rch.trans (h : Rch adj S x y) (k : Rch adj S y z) : Rch adj S x z := by
  induction k with
  | refl _ => exact h
  | step _ a s ih => exact .step ih a s
theorem Rch.symm (sy : ∀ a b, adj a b → adj b a) (h : Rch adj S x y) : Rch adj S y x := by
  induction h with
  | refl h => exact .refl h
  | step k a s ih => exact Rch.trans (.step (.refl s) (sy _ _ a) k.last) ih
theorem Rch.mono (hs : ∀ a, S a → T a) (h : Rch adj S x y) : Rch adj T x y := by
  induction h with
  | refl h => exact .refl (hs _ h)
  | step _ a s ih => exact .step ih a (hs _ s)
/-- ways over another set of names -/
theorem Rch.map {adj2 : β → β → Prop} {T : β → Prop} (f : α → β) (hs : ∀ a, S a → T (f a)) (ha : ∀ a b, S a → S b → adj a b → adj2 (f a) (f b)) (h : Rch adj S x y) : Rch adj2 T (f x) (f y) := by
  induction h with
  | refl h => exact .refl (hs _ h)
  | step k a s ih => exact .step ih (ha _ _ k.last s a) (hs _ s)
/-- what is closed under ties within S, from x on, holds of all that is reached -/
theorem Rch.closed {F : α → Prop} (h0 : F x) (hc : ∀ a b, F a → adj a b → S b → F b) (h : Rch adj S x y) : F y := by
  induction h with
  | refl _ => exact h0
  | step _ a s ih => exact hc _ _ ih a s
/-- a list of some parts of S, none twice -/
structure Parts (adj : α → α → Prop) (S : α → Prop) (L : List (List α)) : Prop where
  part : ∀ l ∈ L, ∃ x, S x ∧ ∀ y, y ∈ l ↔ Rch adj S x y
  apart : L.Pairwise fun a b => ∀ y ∈ a, y ∉ b
theorem Parts.at {L : List (List α)} (sy : ∀ a b, adj a b → adj b a) (p : Parts adj S L) {l : List α} (hl : l ∈ L) (hx : x ∈ l) : S x ∧ ∀ y, y ∈ l ↔ Rch adj S x y := by
  obtain ⟨z, hz, h⟩ := p.part l hl
  have hzx := (h x).mp hx
  exact ⟨hzx.last, fun y => ⟨fun hy => (hzx.symm sy).trans ((h y).mp hy), fun hy => (h y).mpr (hzx.trans hy)⟩⟩
theorem Parts.filter {L : List (List α)} (p : Parts adj S L) (q : List α → Bool) : Parts adj S (L.filter q) :=
  ⟨fun l hl => p.part l (List.mem_filter.mp hl).1, p.apart.filter q⟩
theorem Parts.nil : Parts adj S [] := ⟨fun _ h => (nomatch h), .nil⟩
theorem Parts.snoc {L : List (List α)} {l : List α} (sy : ∀ a b, adj a b → adj b a) (p : Parts adj S L) (hl : ∃ x, S x ∧ ∀ y, y ∈ l ↔ Rch adj S x y) (hn : ∃ x ∈ l, ∀ a ∈ L, x ∉ a) : Parts adj S (L ++ [l]) := by
  refine ⟨fun m hm => ?_, ?_⟩
  · rcases List.mem_append.mp hm with h | h
    · exact p.part m h
    · rw [List.mem_singleton.mp h]
      exact hl
  · rw [List.pairwise_append]
    refine ⟨p.apart, List.pairwise_singleton _ _, fun a ha b hb y hy hy2 => ?_⟩
    rw [List.mem_singleton.mp hb] at hy2
    obtain ⟨x, hx, hxa⟩ := hn
    obtain ⟨z, hz, h⟩ := hl
    have h1 := (p.at sy ha hy).2
    have h2 : Rch adj S y x := (((h y).mp hy2).symm sy).trans ((h x).mp hx)
    exact hxa a ha ((h1 x).mpr h2)
/-- each of A has one of B of its own -/
theorem count_le {γ : Type u} {δ : Type v} {D : γ → γ → Prop} {R : γ → δ → Prop} (hR : ∀ a a' b, R a b → R a' b → D a a' → False) : ∀ (A : List γ) (B : List δ), A.Pairwise D → (∀ a ∈ A, ∃ b ∈ B, R a b) → A.length ≤ B.length
  | [], B, _, _ => Nat.zero_le _
  | a :: A, B, hA, h => by
    obtain ⟨b, hb, r⟩ := h a List.mem_cons_self
    obtain ⟨B1, B2, rfl⟩ := List.append_of_mem hb
    rw [List.pairwise_cons] at hA
    have ih := count_le hR A (B1 ++ B2) hA.2 fun a' ha' => by
      obtain ⟨b', hb', r'⟩ := h a' (List.mem_cons_of_mem _ ha')
      refine ⟨b', ?_, r'⟩
      rcases List.mem_append.mp hb' with h1 | h1
      · exact List.mem_append.mpr (.inl h1)
      · rcases List.mem_cons.mp h1 with h2 | h2
        · subst h2
          exact (hR a a' b' r r' (hA.1 a' ha')).elim
        · exact List.mem_append.mpr (.inr h2)
    rw [List.length_append] at ih
    rw [List.length_cons, List.length_append, List.length_cons]
    omega
theorem perm_eraseIdx {α : Type u} : ∀ {l : List α} {k : Nat} {y : α}, l[k]? = some y → (y :: l.eraseIdx k).Perm l
  | a :: l, 0, y, h => by
    cases h
    exact List.Perm.refl _
  | a :: l, k + 1, y, h => by
    rw [List.eraseIdx_cons_succ]
    exact (List.Perm.swap a y _).trans ((perm_eraseIdx (l := l) (k := k) h).cons a)
  | [], k, y, h => nomatch h
end
end M9

/-! texts of codes; webs and charts in the heap; the promises of the defs that these laws share -/
namespace L9
open PySem PySem.Spec PyProof.Rows L2
/-- a text of codes -/
def mkS (l : List Nat) : Str := ⟨l.toArray⟩
theorem mkS_inj {a b : List Nat} (h : mkS a = mkS b) : a = b := by
  have h1 := congrArg (fun z : Str => z.cps.toList) h
  simpa [mkS] using h1
theorem mkS_cps (l : List Nat) : (mkS l).cps.toList = l := by simp [mkS]
theorem mkS_len (l : List Nat) : (mkS l).length = l.length := by
  show l.toArray.size = _
  rw [List.size_toArray]
theorem mkS_app (a b : List Nat) : mkS a ++ mkS b = mkS (a ++ b) := by
  show (⟨a.toArray ++ b.toArray⟩ : Str) = ⟨(a ++ b).toArray⟩
  congr 1
  simp
theorem mkS_to (l : List Nat) (k : Nat) : cutS (mkS l) none (some (k : Int)) = mkS (l.take k) := by
  unfold cutS
  rw [HT.sIx_none, HT.sIx_nat, mkS_len, mkS_cps]
  show (⟨((l.drop 0).take (min k l.length - 0)).toArray⟩ : Str) = ⟨(l.take k).toArray⟩
  rw [List.drop_zero, Nat.sub_zero]
  congr 2
  by_cases h : k ≤ l.length
  · rw [Nat.min_eq_left h]
  · rw [Nat.min_eq_right (by omega), List.take_of_length_le (Nat.le_refl _), List.take_of_length_le (by omega)]
theorem mkS_from (l : List Nat) (k : Nat) : cutS (mkS l) (some (k : Int)) none = mkS (l.drop k) := by
  unfold cutS
  rw [HT.sIx_none, HT.sIx_nat, mkS_len, mkS_cps]
  show (⟨((l.drop (min k l.length)).take (l.length - min k l.length)).toArray⟩ : Str) = ⟨(l.drop k).toArray⟩
  congr 2
  by_cases h : k ≤ l.length
  · rw [Nat.min_eq_left h, List.take_of_length_le (by rw [List.length_drop]; exact Nat.le_refl _)]
  · rw [Nat.min_eq_right (by omega), List.drop_eq_nil_of_le (Nat.le_refl _), List.drop_eq_nil_of_le (by omega), List.take_nil]
theorem mkS_join (cs : List Nat) : Txt.join ("" : Str) ((cs.map fun c => mkS [c])) = mkS cs := txt_join_signs cs
theorem foldl_rep (c : Nat) : ∀ (n : Nat) (a : Array Nat), (List.replicate n (#[c] : Array Nat)).foldl (· ++ ·) a = a ++ (List.replicate n c).toArray
  | 0, a => by simp
  | n + 1, a => by
    rw [List.replicate_succ, List.foldl_cons, foldl_rep c n, List.replicate_succ]
    apply Array.ext'
    simp
theorem mkS_mul (c n : Nat) (h1 : 1 ≤ n) (h2 : n ≤ 1000) : MulOk (mkS [c]) (n : Int) ∧ Txt.mul (mkS [c]) (n : Int) = mkS (List.replicate n c) := by
  refine ⟨⟨?_, fun _ _ => ?_, fun _ _ => ?_⟩, ?_⟩
  · rw [decide_eq_false (by omega), decide_eq_false (by omega)]
    rfl
  · show ¬ ((1 : Int) > (2 ^ 63 - 1) / (n : Int))
    have : (1 : Int) ≤ (2 ^ 63 - 1) / (n : Int) := (Int.le_ediv_iff_mul_le (by omega)).mpr (by omega)
    omega
  · show Builtin.Str.tooLong (1 * (n : Int).toNat) = false
    rw [Int.toNat_natCast, Nat.one_mul]
    unfold Builtin.Str.tooLong
    simp
    have := sizeLine_eq
    omega
  · unfold Txt.mul
    rw [if_neg (by omega)]
    by_cases e : n = 1
    · subst e
      rw [if_pos (by rfl)]
      rfl
    · rw [if_neg (by
        have : (mkS [c]).length = 1 := rfl
        simp [this]
        omega)]
      show (⟨(List.replicate ((n : Int).toNat) (#[c] : Array Nat)).foldl (· ++ ·) #[]⟩ : Str) = _
      rw [foldl_rep, Int.toNat_natCast]
      simp [mkS]
theorem cutV_to (xs : List V) (k : Nat) : cutV xs none (some (k : Int)) = xs.take k := by
  unfold cutV
  rw [HT.sIx_none, HT.sIx_nat, Nat.sub_zero, List.drop_zero]
  by_cases h : k ≤ xs.length
  · rw [Nat.min_eq_left h]
  · rw [Nat.min_eq_right (by omega), List.take_of_length_le (Nat.le_refl _), List.take_of_length_le (by omega)]
theorem inV_strs (z : Str) : ∀ l : List Str, inV (.str z) (l.map V.str) = decide (z ∈ l)
  | [] => by simp [inV]
  | y :: l => by
    have ih := inV_strs z l
    unfold inV at ih ⊢
    rw [List.map_cons, List.any_cons, ih]
    by_cases e : y = z
    · subst e
      simp [eqV]
    · have e2 : ¬ z = y := fun h => e h.symm
      simp [eqV, e, e2]
theorem mkS_mem {x : List Nat} {L : List (List Nat)} : mkS x ∈ L.map mkS ↔ x ∈ L := by
  constructor
  · intro h
    obtain ⟨y, hy, e⟩ := List.mem_map.mp h
    rw [← mkS_inj e]
    exact hy
  · exact fun h => List.mem_map.mpr ⟨x, h, rfl⟩
theorem flat_strs : ∀ l : List Str, (l.map V.str).all flatV = true
  | [] => rfl
  | _ :: l => by rw [List.map_cons, List.all_cons, flat_strs l]; rfl
theorem flat_ints : ∀ l : List Int, (l.map V.int).all flatV = true
  | [] => rfl
  | _ :: l => by rw [List.map_cons, List.all_cons, flat_ints l]; rfl
theorem inV_ints (z : Int) : ∀ l : List Int, inV (.int z) (l.map V.int) = decide (z ∈ l)
  | [] => by simp [inV]
  | y :: l => by
    have ih := inV_ints z l
    unfold inV at ih ⊢
    rw [List.map_cons, List.any_cons, ih]
    by_cases e : y = z
    · subst e
      simp [eqV]
    · have e2 : ¬ z = y := fun h => e h.symm
      simp [eqV, e, e2]
theorem lets_iff (c : Nat) : c ∈ lets.cps.toList ↔ NL9.Let c := by
  have e : lets.cps.toList = [97, 98, 99, 100, 101, 102, 103, 104, 105, 106, 107, 108, 109, 110, 111, 112, 113, 114, 115, 116, 117, 118, 119, 120, 121, 122] := by decide +kernel
  rw [e]
  unfold NL9.Let
  simp only [List.mem_cons, List.not_mem_nil, or_false]
  omega
theorem lets_at {k : Nat} (h : k < 26) : lets.cps.toList[k]? = some (97 + k) := by
  have e : lets.cps.toList = (List.range 26).map fun k => 97 + k := by decide +kernel
  rw [e, List.getElem?_map, List.getElem?_range h] <;> rfl
/-- right names, none twice -/
structure Labs (l : List Str) : Prop where
  nd : l.Nodup
  nm : ∀ x ∈ l, nameB x = true ∧ x.length ≤ 8 ∧ PyData.strOk x = true
theorem nameB_mkS {l : List Nat} (h1 : 1 ≤ l.length) (h2 : l.length ≤ 8) (h3 : ∀ c ∈ l, NL9.Let c) : nameB (mkS l) = true := by
  unfold nameB
  rw [mkS_len, allLets_of (fun c hc => by rw [mkS_cps] at hc; exact (lets_iff c).mpr (h3 c hc)), decide_eq_true (by omega), decide_eq_true (by omega)]
  rfl
theorem labs_of {L : List (List Nat)} (h : NL9.Ok L) : Labs (L.map mkS) := by
  refine ⟨NL9.nodup_map (fun a b e => mkS_inj e) h.nd, fun x hx => ?_⟩
  obtain ⟨l, hl, rfl⟩ := List.mem_map.mp hx
  obtain ⟨h1, h2, h3⟩ := h.nm l hl
  refine ⟨nameB_mkS h1 h2 h3, by rw [mkS_len]; exact h2, ok_of_codes fun c hc => ?_⟩
  rw [mkS_cps] at hc
  have := h3 c hc
  unfold NL9.Let at this
  omega
/-! ### a web -/
structure Wb where
  lab : List Str
  lo : List Int
  hi : List Int
  prs : List (Int × Int)
  dr : List Int
structure Wb.Ok (W : Wb) (m : Nat) : Prop where
  len1 : 1 ≤ W.lab.length
  len : W.lab.length ≤ m
  labs : Labs W.lab
  llo : W.lo.length = W.lab.length
  lhi : W.hi.length = W.lab.length
  bnd : ∀ (i : Nat) (a b : Int), W.lo[i]? = some a → W.hi[i]? = some b → -MH ≤ a ∧ a ≤ b ∧ b ≤ MH
  prs : ∀ p ∈ W.prs, 0 ≤ p.1 ∧ p.1 < p.2 ∧ p.2 < (W.lab.length : Int)
  pnd : W.prs.Nodup
  pl : W.prs.length ≤ 20
  dr : ∀ d ∈ W.dr, 0 ≤ d ∧ d < (W.lab.length : Int)
  dnd : W.dr.Nodup
/-! ### the promises of the drawn things -/
def spLabels : Sp := fun vs H Q _ => ∃ (b : Addr) (m : Int) (n : Nat), vs = [.ref b, .int m] ∧ BoxAt H b n ∧ 1 ≤ m ∧ m ≤ 9 ∧ n ≤ 900000 ∧
  ∀ (p : Addr) (H' : Hp) (lab : List Str), Drw H H' b (n + 12) → H p = none → H' p = some (.lst (lab.map V.str)) → (lab.length : Int) = m → Labs lab → Q (.ref p) H'
def spEnds : Sp := fun vs H Q _ => ∃ (b : Addr) (s c : Int) (n : Nat), vs = [.ref b, .int s, .int c] ∧ BoxAt H b n ∧ 1 ≤ s ∧ s ≤ 10 ∧ 1 ≤ c ∧ c ≤ 250000000000 ∧ n ≤ 900000 ∧
  ∀ (p : Addr) (H' : Hp) (l h : Int), Drw H H' b (n + 4) → H p = none → H' p = some (.tup [.int l, .int h]) → -MH ≤ l → l ≤ h → h ≤ MH → Q (.ref p) H'
def spMixed (K : PySem.W.Frag) : Sp := fun vs H Q _ => ∃ (b a : Addr) (xs : List V) (n : Nat), vs = [.ref b, .ref a] ∧ BoxAt H b n ∧ SqL K H a xs ∧ xs.length ≤ 100 ∧ n ≤ 900000 ∧
  ∀ (p : Addr) (H' : Hp) (ys : List V), Drw H H' b (n + xs.length) → H p = none → H' p = some (.lst ys) → ys.Perm xs → Q (.ref p) H'
/-! ### a chart -/
structure Ch where
  names : List Str
  lo : Str → Int
  hi : Str → Int
  nbr : Str → List Str
  outs : List Str
structure Ch.Ok (c : Ch) : Prop where
  nd : c.names.Nodup
  len : c.names.length ≤ 60
  bnd : ∀ x ∈ c.names, -MH ≤ c.lo x ∧ c.lo x ≤ c.hi x ∧ c.hi x ≤ MH
  nin : ∀ x ∈ c.names, ∀ y ∈ c.nbr x, y ∈ c.names
  nnd : ∀ x ∈ c.names, (c.nbr x).Nodup
  sy : ∀ x ∈ c.names, ∀ y ∈ c.nbr x, x ∈ c.nbr y
  oin : ∀ x ∈ c.outs, x ∈ c.names
  ond : c.outs.Nodup
def chf (b t o : Addr) : List (Str × V) := [(("bounds_by_name" : Str), .ref b), (("tied_by_name" : Str), .ref t), (("outlet_names" : Str), .ref o)]
theorem chf_b (b t o : Addr) : (chf b t o).lookup ("bounds_by_name" : Str) = some (.ref b) := rfl
theorem chf_t (b t o : Addr) : (chf b t o).lookup ("tied_by_name" : Str) = some (.ref t) := by
  unfold chf
  rw [List.lookup_cons, show (("tied_by_name" : Str) == ("bounds_by_name" : Str)) = false by decide +kernel]
  rfl
theorem chf_o (b t o : Addr) : (chf b t o).lookup ("outlet_names" : Str) = some (.ref o) := by
  unfold chf
  rw [List.lookup_cons, show (("outlet_names" : Str) == ("bounds_by_name" : Str)) = false by decide +kernel]
  show List.lookup _ [(("tied_by_name" : Str), V.ref t), (("outlet_names" : Str), V.ref o)] = _
  rw [List.lookup_cons, show (("outlet_names" : Str) == ("tied_by_name" : Str)) = false by decide +kernel]
  rfl
theorem chf_no {b t o : Addr} {m : Str} (h1 : (m == ("bounds_by_name" : Str)) = false) (h2 : (m == ("tied_by_name" : Str)) = false) (h3 : (m == ("outlet_names" : Str)) = false) : (chf b t o).lookup m = none := by
  unfold chf
  rw [List.lookup_cons, h1]
  show List.lookup _ [(("tied_by_name" : Str), V.ref t), (("outlet_names" : Str), V.ref o)] = _
  rw [List.lookup_cons, h2]
  show List.lookup _ [(("outlet_names" : Str), V.ref o)] = _
  rw [List.lookup_cons, h3]
  rfl
/-- the dict of names -/
def byN (l : List Str) (a : Str → Addr) : List (L2.Key × V) := l.map fun x => ((Sum.inr x : L2.Key), V.ref (a x))
/-- the dict of bounds -/
def BdAt (CB : Addr) (H : Hp) (b : Addr) (l : List Str) (lo hi : Str → Int) : Prop := ∃ ba : Str → Addr, H b = some (.dK (byN l ba)) ∧ ∀ x ∈ l, BndAt CB H (ba x) (lo x) (hi x)
/-- the dict of ties -/
def TdAt (H : Hp) (t : Addr) (l : List Str) (nbr : Str → List Str) : Prop := ∃ ta : Str → Addr, H t = some (.dK (byN l ta)) ∧ ∀ x ∈ l, H (ta x) = some (.lst ((nbr x).map V.str))
def ChAt (C CB : Addr) (H : Hp) (p : Addr) (c : Ch) : Prop := ∃ dx b t o, H p = some (.ins C dx (chf b t o)) ∧ BdAt CB H b c.names c.lo c.hi ∧ TdAt H t c.names c.nbr ∧ H o = some (.lst (c.outs.map V.str))
theorem BdAt.mono {CB : Addr} {H H' : Hp} {b : Addr} {l : List Str} {lo hi : Str → Int} (s : Same H H') (h : BdAt CB H b l lo hi) : BdAt CB H' b l lo hi := by
  obtain ⟨ba, h1, h2⟩ := h
  exact ⟨ba, s _ _ h1, fun x hx => (h2 x hx).mono s⟩
theorem TdAt.mono {H H' : Hp} {t : Addr} {l : List Str} {nbr : Str → List Str} (s : Same H H') (h : TdAt H t l nbr) : TdAt H' t l nbr := by
  obtain ⟨ta, h1, h2⟩ := h
  exact ⟨ta, s _ _ h1, fun x hx => s _ _ (h2 x hx)⟩
theorem ChAt.mono {C CB : Addr} {H H' : Hp} {p : Addr} {c : Ch} (s : Same H H') (h : ChAt C CB H p c) : ChAt C CB H' p c := by
  obtain ⟨dx, b, t, o, h0, h1, h2, h3⟩ := h
  exact ⟨dx, b, t, o, s _ _ h0, h1.mono s, h2.mono s, s _ _ h3⟩
theorem valV_byN {a : Str → Addr} {x : Str} : ∀ {l : List Str}, x ∈ l → valV (byN l a) (Sum.inr x : L2.Key) = some (V.ref (a x))
  | y :: l, h => by
    unfold byN valV
    rw [List.map_cons, List.find?_cons]
    by_cases e : y = x
    · subst e
      rw [decide_eq_true rfl]
      rfl
    · rw [decide_eq_false (fun z => e (Sum.inr.inj z))]
      have hl : x ∈ l := by
        rcases List.mem_cons.mp h with h | h
        · exact absurd h.symm e
        · exact h
      exact valV_byN (l := l) hl
theorem valV_byN_no {a : Str → Addr} {x : Str} : ∀ {l : List Str}, x ∉ l → valV (byN l a) (Sum.inr x : L2.Key) = none
  | [], _ => rfl
  | y :: l, h => by
    rw [List.mem_cons, not_or] at h
    unfold byN valV
    rw [List.map_cons, List.find?_cons, decide_eq_false (fun z => h.1 (Sum.inr.inj z).symm)]
    exact valV_byN_no (l := l) h.2
/-- is x a key of the dict -/
theorem valV_is {a : Str → Addr} {x : Str} {l : List Str} : (valV (byN l a) (Sum.inr x : L2.Key)).isSome = decide (x ∈ l) := by
  by_cases h : x ∈ l
  · rw [valV_byN h, decide_eq_true h]
    rfl
  · rw [valV_byN_no h, decide_eq_false h]
    rfl
theorem putK_new {kvs : List (L2.Key × V)} {k : L2.Key} {v : V} (h : ∀ p ∈ kvs, p.1 ≠ k) : putK kvs k v = kvs ++ [(k, v)] := by
  unfold putK
  rw [if_neg]
  simp only [List.any_eq_true, not_exists, not_and]
  intro p hp e
  exact h p hp (of_decide_eq_true e)
end L9

/-! a wish, one step at a time -/
namespace L9
open PySem PySem.Spec PyProof.Rows L2
section
variable {σ : L2.St} {H : Hp} {Q : VK} {D : Ends} {ta tb tc : TE} {t : TA}
def isBl (x : V) (Q : Bool → Hp → Prop) (H : Hp) : Prop := ∃ c, x = .bl c ∧ Q c H
theorem w_isBl {c : Bool} {Q : Bool → Hp → Prop} (q : Q c H) : isBl (.bl c) Q H := ⟨c, rfl, q⟩
theorem w_var {i : Nat} {v : V} (h : σ[i]? = some (some v)) (q : Q v H) : tVar i σ H Q := ⟨v, h, q⟩
theorem w_c {v : V} (q : Q v H) : tC v σ H Q := q
theorem w_op {r : R2} (q : ta σ H fun x H1 => tb σ H1 fun y H2 => r x y H2 Q) : tOp r ta tb σ H Q := q
theorem w_un {r : V → Hp → VK → Prop} (q : ta σ H fun x H1 => r x H1 Q) : tUn r ta σ H Q := q
theorem w_rI0 {g : Int → Int → V} {i j : Int} (q : Q (g i j) H) : rI0 g (.int i) (.int j) H Q := ⟨i, j, rfl, rfl, q⟩
theorem w_rI {C : Int → Int → Prop} {g : Int → Int → V} {i j : Int} (c : C i j) (q : Q (g i j) H) : rI C g (.int i) (.int j) H Q := ⟨i, j, rfl, rfl, c, q⟩
theorem w_mulL {g : Int → Int → V} {i j : Int} (h1 : -(2 ^ 64) < i) (h2 : i < 2 ^ 64) (q : Q (g i j) H) : rI CMul g (.int i) (.int j) H Q := ⟨i, j, rfl, rfl, .inl ⟨h1, h2⟩, q⟩
theorem w_mulR {g : Int → Int → V} {i j : Int} (h1 : -(2 ^ 64) < j) (h2 : j < 2 ^ 64) (q : Q (g i j) H) : rI CMul g (.int i) (.int j) H Q := ⟨i, j, rfl, rfl, .inr ⟨h1, h2⟩, q⟩
theorem w_pow {g : Int → Int → V} {i j : Int} (h1 : 0 ≤ j) (h2 : j ≤ 1000000) (h3 : i.natAbs < 2 ^ 64) (q : Q (g i j) H) : rI CPow g (.int i) (.int j) H Q := ⟨i, j, rfl, rfl, ⟨h1, h2, h3⟩, q⟩
theorem w_mod {g : Int → Int → V} {i j : Int} (h : 0 < j) (q : Q (g i j) H) : rI (fun _ j => 0 < j) g (.int i) (.int j) H Q := ⟨i, j, rfl, rfl, h, q⟩
theorem w_div {g : Int → Int → V} {i j : Int} (h : 0 < j) (h2 : j.natAbs < 2 ^ 64) (q : Q (g i j) H) : rI CDivW g (.int i) (.int j) H Q := ⟨i, j, rfl, rfl, wide_div h h2 (by decide) (by decide), q⟩
theorem w_rU {g : Int → V} {i : Int} (q : Q (g i) H) : rU g (.int i) H Q := ⟨i, rfl, q⟩
theorem w_eq {x y : V} (h : scal x y = true) (q : Q (.bl (decide (x = y))) H) : rEq x y H Q := ⟨h, q⟩
theorem w_ne {x y : V} (h : scal x y = true) (q : Q (.bl (!decide (x = y))) H) : rNe x y H Q := ⟨h, q⟩
theorem w_B {Q : Bool → Hp → Prop} (q : ta σ H fun x H1 => isBl x Q H1) : tB ta σ H Q := q
theorem w_test {Q : Bool → Hp → Prop} (q : ta σ H fun x H1 => isBl x Q H1) : tTest ta σ H Q := q
theorem w_not {u : TT} {Q : Bool → Hp → Prop} (q : u σ H fun c H1 => Q (!c) H1) : tNot u σ H Q := q
theorem w_and {u v : TT} {Q : Bool → Hp → Prop} (q : u σ H fun c H1 => if c = true then v σ H1 Q else Q false H1) : tAnd u v σ H Q := q
theorem w_or {u v : TT} {Q : Bool → Hp → Prop} (q : u σ H fun c H1 => if c = true then Q true H1 else v σ H1 Q) : tOr u v σ H Q := q
theorem w_if {u : TT} (q : u σ H fun c H1 => if c = true then ta σ H1 Q else tb σ H1 Q) : tIf u ta tb σ H Q := q
theorem w_ifS {c : TT} {s u : TS} (q : c σ H fun b H1 => if b = true then s D σ H1 else u D σ H1) : tIfS c s u D σ H := q
theorem w_nil {Q : List V → Hp → Prop} (q : Q [] H) : tNil σ H Q := q
theorem w_cons {Q : List V → Hp → Prop} (q : ta σ H fun x H1 => t σ H1 fun xs H2 => Q (x :: xs) H2) : tCons ta t σ H Q := q
theorem w_CB {r : List V → Hp → VK → Prop} (q : t σ H fun vs H1 => r vs H1 Q) : tCB r t σ H Q := q
theorem w_call {sp : Sp} {dvs : List V} {E : XK} (q : t σ H fun vs H1 => sp (vs ++ dvs) H1 Q E) : tCall sp dvs E t σ H Q := q
theorem w_gName {i : Nat} {v : V} {Q : L2.St → Hp → Prop} (q : Q (σ.set i (some v)) H) : gName i v σ H Q := q
theorem w_gNil {Q : L2.St → Hp → Prop} (q : Q σ H) : gNil [] σ H Q := ⟨rfl, q⟩
theorem w_gCons {g : TG} {u : TGs} {v : V} {r : List V} {Q : L2.St → Hp → Prop} (q : g v σ H fun σ' H' => u r σ' H' Q) : gCons g u (v :: r) σ H Q := ⟨v, r, rfl, q⟩
theorem w_asg {g : TG} (q : ta σ H fun x H1 => g x σ H1 D.nx) : tAsg ta g D σ H := q
theorem w_seq {s u : TS} (q : s { D with nx := u D } σ H) : tSeq s u D σ H := q
theorem w_ret (q : ta σ H D.rt) : tRet ta D σ H := q
theorem w_retN (q : D.rt .non H) : tRetN D σ H := q
theorem w_next (q : D.nx σ H) : tNext D σ H := q
theorem w_drop (q : ta σ H fun _ H1 => D.nx σ H1) : tDrop ta D σ H := q
def isTwo (vs : List V) (Q : V → V → Prop) : Prop := ∃ v w, vs = [v, w] ∧ Q v w
theorem w_isTwo {v w : V} {Q : V → V → Prop} (q : Q v w) : isTwo [v, w] Q := ⟨v, w, rfl, q⟩
theorem w_par {i j : Nat} (q : t σ H fun vs H1 => isTwo vs fun v w => D.nx ((σ.set i (some v)).set j (some w)) H1) : tPar i j t D σ H := q
theorem w_tup (q : t σ H fun xs H1 => xs.length ≤ sizeLine ∧ ∀ p, H1 p = none → Q (.ref p) (upd H1 p (.tup xs))) : tTup t σ H Q := q
theorem w_lst (q : t σ H fun xs H1 => xs.length ≤ sizeLine ∧ ∀ p, H1 p = none → Q (.ref p) (upd H1 p (.lst xs))) : tLst t σ H Q := q
theorem w_andV (q : ta σ H fun x H1 => isBl x (fun c H1 => if c = true then tb σ H1 Q else Q (.bl false) H1) H1) : tAndV ta tb σ H Q := q
theorem w_orV (q : ta σ H fun x H1 => isBl x (fun c H1 => if c = true then Q (.bl true) H1 else tb σ H1 Q) H1) : tOrV ta tb σ H Q := q
theorem w_notV (q : ta σ H fun x H1 => isBl x (fun c H1 => Q (.bl (!c)) H1) H1) : tNotV ta σ H Q := q
def isIt (x : V) (Q : Option Int → Hp → Prop) (H : Hp) : Prop := ∃ i, x = .int i ∧ Q (some i) H
theorem w_isIt {i : Int} {Q : Option Int → Hp → Prop} (q : Q (some i) H) : isIt (.int i) Q H := ⟨i, rfl, q⟩
theorem w_part {Q : Option Int → Hp → Prop} (q : ta σ H fun x H1 => isIt x Q H1) : tPart ta σ H Q := q
theorem w_chain {r r' : R2} (q : ta σ H fun x H1 => tb σ H1 fun y H2 => r x y H2 fun z H3 => isBl z (fun k H4 => if k = true then tc σ H4 fun w H5 => r' y w H5 Q else Q (.bl false) H4) H3) : tChain r r' ta tb tc σ H Q := q
theorem w_chainT {r r' : R2} {Q : Bool → Hp → Prop} (q : tChain r r' ta tb tc σ H fun x H1 => isBl x Q H1) : tTest (tChain r r' ta tb tc) σ H Q := q
def isIntR (x : V) (Q : Int → Int → Hp → Prop) (H : Hp) : Prop := ∃ n, x = .int n ∧ Q 0 n H
theorem w_isIntR {n : Int} {Q : Int → Int → Hp → Prop} (q : Q 0 n H) : isIntR (.int n) Q H := ⟨n, rfl, q⟩
theorem w_rgOne {Q : Int → Int → Hp → Prop} (q : ta σ H fun x H1 => isIntR x Q H1) : tRg1 ta σ H Q := q
theorem w_listRg {te : L2.St → Hp → (Int → Int → Hp → Prop) → Prop} (q : te σ H fun a b H1 => RgOk a b ∧ ∀ q, H1 q = none → Q (.ref q) (upd H1 q (.lst (rgV a b)))) : tLstRg te σ H Q := q
theorem w_makeK {C : Addr} {n m : Nat} {sp : Sp} {gV : List V → List V → List V} {E : XK} {tk : TA} (q : t σ H fun vs H1 => tk σ H1 fun zs H2 => vs.length = n ∧ zs.length = m ∧ ∀ x dx, H2 x = none → H2 dx = none → dx ≠ x → sp (gV (.ref x :: vs) zs) (upd (upd H2 dx (.own x)) x (.ins C dx [])) (fun v H3 => v = .non ∧ Q (.ref x) H3) E) : tMakeK C n m sp gV E t tk σ H Q := q
theorem w_nopart {Q : Option Int → Hp → Prop} (q : Q none H) : tNoPart σ H Q := q
theorem w_sl {r : V → Option Int → Option Int → Hp → VK → Prop} {tl th : TO} (q : ta σ H fun x H1 => tl σ H1 fun l H2 => th σ H2 fun u H3 => r x l u H3 Q) : tSl r ta tl th σ H Q := q
theorem w_yes {Q : Bool → Hp → Prop} (q : Q true H) : tYes σ H Q := q
theorem w_bm {K : PySem.W.Frag} {T : String} {r : V → List V → Hp → VK → Prop} (q : ta σ H fun x H1 => tyV K T x H1 ∧ t σ H1 fun xs H2 => r x xs H2 Q) : tBM K T r ta t σ H Q := q
theorem w_bm0 {K : PySem.W.Frag} {T : String} {r : V → List V → Hp → VK → Prop} (q : ta σ H fun x H1 => tyV K T x H1 ∧ r x [] H1 Q) : tBM0 K T r ta σ H Q := q
theorem w_dput (q : tc σ H fun v H1 => ta σ H1 fun x H2 => tb σ H2 fun y H3 => ∃ a H4, x = .ref a ∧ DPut H3 a y v H4 ∧ D.nx σ H4) : sDPut ta tb tc D σ H := q
theorem w_dget (q : ta σ H fun x H1 => tb σ H1 fun y H2 => ∃ a v, x = .ref a ∧ DGet H2 a y (some v) ∧ Q v H2) : tDGet ta tb σ H Q := q
theorem w_din (q : tb σ H fun y H1 => ta σ H1 fun x H2 => ∃ a o, x = .ref a ∧ DGet H2 a y o ∧ Q (.bl o.isSome) H2) : tDIn tb ta σ H Q := q
theorem w_dnin (q : tb σ H fun y H1 => ta σ H1 fun x H2 => ∃ a o, x = .ref a ∧ DGet H2 a y o ∧ Q (.bl (!o.isSome)) H2) : tDNotIn tb ta σ H Q := q
theorem w_dnew (q : ∀ p, H p = none → Q (.ref p) (upd H p (.dK []))) : tDNewK σ H Q := q
theorem w_fld {K : PySem.W.Frag} {f : Str} (q : ta σ H fun x H1 => ∃ a C dx fs v, x = .ref a ∧ H1 a = some (.ins C dx fs) ∧ Cls K C ∧ NoAttr K C f ∧ fs.lookup f = some v ∧ Q v H1) : tFld K ta f σ H Q := q
theorem w_sfld {K : PySem.W.Frag} {f : Str} (q : tb σ H fun y H1 => ta σ H1 fun x H2 => ∃ a C dx fs, x = .ref a ∧ H2 a = some (.ins C dx fs) ∧ Cls K C ∧ NoAttr K C f ∧ fs.length < 1000 ∧ D.nx σ (upd H2 a (.ins C dx (putF f y fs)))) : sFld K ta tb f D σ H := q
theorem w_meth {C : Addr} {m : Str} {sp : Sp} {dvs : List V} {E : XK} (q : ta σ H fun x H1 => ∃ a dx fs, x = .ref a ∧ H1 a = some (.ins C dx fs) ∧ fs.lookup m = none ∧ t σ H1 fun vs H2 => sp (x :: (vs ++ dvs)) H2 Q E) : tMeth C m sp dvs E ta t σ H Q := q
theorem w_make {C : Addr} {sp : Sp} {dvs : List V} {E : XK} (q : t σ H fun vs H1 => ∀ x dx, H1 x = none → H1 dx = none → dx ≠ x → sp (.ref x :: (vs ++ dvs)) (upd (upd H1 dx (.own x)) x (.ins C dx [])) (fun v H2 => v = .non ∧ Q (.ref x) H2) E) : tMake C sp dvs E t σ H Q := q
theorem w_subO {C : Addr} {sp : Sp} {E : XK} (q : ta σ H fun x H1 => tb σ H1 fun y H2 => ∃ a dx fs, x = .ref a ∧ H2 a = some (.ins C dx fs) ∧ sp [x, y] H2 Q E) : tSubO C sp E ta tb σ H Q := q
def isRg (vs : List V) (R : It → Hp → Prop) (H : Hp) : Prop := ∃ j : Int, vs = [.int j] ∧ -(2 ^ 62) ≤ j ∧ j < 2 ^ 62 ∧ R (Itr 0 j.toNat) H
theorem w_isRg {R : It → Hp → Prop} {j : Int} (h1 : -(2 ^ 62) ≤ j) (h2 : j < 2 ^ 62) (q : R (Itr 0 j.toNat) H) : isRg [.int j] R H := ⟨j, rfl, h1, h2, q⟩
theorem w_rg1 {R : It → Hp → Prop} (q : t σ H fun vs H1 => isRg vs R H1) : iRng1 t σ H R := q
def isRg2 (vs : List V) (R : It → Hp → Prop) (H : Hp) : Prop := ∃ i j : Int, vs = [.int i, .int j] ∧ (-(2 ^ 62) ≤ i ∧ i < 2 ^ 62 ∧ -(2 ^ 62) ≤ j ∧ j < 2 ^ 62) ∧ R (Itr i (j - i).toNat) H
theorem w_isRg2 {R : It → Hp → Prop} {i j : Int} (h1 : -(2 ^ 62) ≤ i) (h2 : i < 2 ^ 62) (h3 : -(2 ^ 62) ≤ j) (h4 : j < 2 ^ 62) (q : R (Itr i (j - i).toNat) H) : isRg2 [.int i, .int j] R H := ⟨i, j, rfl, ⟨h1, h2, h3, h4⟩, q⟩
theorem w_rg2 {R : It → Hp → Prop} (q : t σ H fun vs H1 => isRg2 vs R H1) : iRng2 t σ H R := q
theorem w_list {K : PySem.W.Frag} {R : It → Hp → Prop} (q : ta σ H fun x H1 => ∃ a, x = .ref a ∧ (∃ xs, SqL K H1 a xs) ∧ R (Itl K a) H1) : iList K ta σ H R := q
def forG (J : It) (g : TG) (s : TS) (D : Ends) (σ : L2.St) (H : Hp) : Prop := tFor (fun _ _ R => R J H) g s D σ H
theorem w_for {wi : TI} {g : TG} {s : TS} (q : wi σ H fun J H1 => forG J g s D σ H1) : tFor wi g s D σ H := q
def lcG (J : It) (g : TG) (u : TT) (e : TE) (vs : List Nat) (σ : L2.St) (H : Hp) (Q : VK) : Prop := tLc (fun _ _ R => R J H) g u e vs σ H Q
theorem w_lc {wi : TI} {g : TG} {u : TT} {vs : List Nat} (q : wi σ H fun J H1 => lcG J g u ta vs σ H1 Q) : tLc wi g u ta vs σ H Q := q
def dcG (J : It) (g : TG) (u : TT) (k e : TE) (vs : List Nat) (σ : L2.St) (H : Hp) (Q : VK) : Prop := tDc (fun _ _ R => R J H) g u k e vs σ H Q
theorem w_dc {wi : TI} {g : TG} {u : TT} {vs : List Nat} (q : wi σ H fun J H1 => dcG J g u ta tb vs σ H1 Q) : tDc wi g u ta tb vs σ H Q := q
end
/-- what stood stands, but at b -/
def But (b : Addr) (H H' : Hp) : Prop := ∀ p o, p ≠ b → H p = some o → H' p = some o
theorem But.trans {b : Addr} {H H' H2 : Hp} (h : But b H H') (k : But b H' H2) : But b H H2 := fun p o hp e => k p o hp (h p o hp e)
theorem But.of {b : Addr} {H H' : Hp} (s : Same H H') : But b H H' := fun p o _ e => s p o e
theorem Drw.but {H H' : Hp} {b : Addr} {n : Nat} (d : Drw H H' b n) : But b H H' := d.keep
theorem Drw.le {H H' : Hp} {b : Addr} {n m : Nat} (d : Drw H H' b n) (h : n ≤ m) : Drw H H' b m := ⟨d.keep, by
  obtain ⟨xs, e, x⟩ := d.box
  exact ⟨xs, e, x.mono h⟩⟩
section
variable {H0 H : Hp} {b : Addr} {n : Nat} {Q : VK} {E : XK} {K : PySem.W.Frag}
theorem go_take {m : Int} (d : Drw H0 H b n) (h1 : 0 < m) (h2 : m ≤ 10 ^ 15) (h3 : n ≤ 1000000) (q : ∀ (r : Int) (H' : Hp), 0 ≤ r → r < m → Drw H0 H' b (n + 1) → But b H H' → Q (.int r) H') : spTake ([V.ref b, V.int m] ++ []) H Q E :=
  ⟨b, m, n, rfl, d.box, h1, h2, h3, fun r xs l u h => q r _ l u (d.take h) fun p o hp e => (upd_ne hp).trans e⟩
theorem go_lst {xs : List V} (d : Drw H0 H b n) (hz : xs.length ≤ sizeLine) (q : ∀ (p : Addr) (H' : Hp), p ≠ b → H p = none → H' p = some (.lst xs) → Same H H' → Drw H0 H' b n → Q (.ref p) H') : xs.length ≤ sizeLine ∧ ∀ p, H p = none → Q (.ref p) (upd H p (.lst xs)) :=
  ⟨hz, fun p np => q p _ (d.ne np) np upd_same (same_upd np) (d.new np)⟩
theorem go_tup {xs : List V} (d : Drw H0 H b n) (hz : xs.length ≤ sizeLine) (q : ∀ (p : Addr) (H' : Hp), p ≠ b → H p = none → H' p = some (.tup xs) → Same H H' → Drw H0 H' b n → Q (.ref p) H') : xs.length ≤ sizeLine ∧ ∀ p, H p = none → Q (.ref p) (upd H p (.tup xs)) :=
  ⟨hz, fun p np => q p _ (d.ne np) np upd_same (same_upd np) (d.new np)⟩
theorem Drw.gen {H' : Hp} {p : Addr} {o : HO} (d : Drw H0 H b n) (np : H p = none) (e : upd H p o = H') : p ≠ b ∧ H' p = some o ∧ Same H H' ∧ Drw H0 H' b n := by
  subst e
  exact ⟨d.ne np, upd_same, same_upd np, d.new np⟩
theorem Drw.at {p : Addr} {o : HO} (d : Drw H0 H b n) (hp : p ≠ b) (np : H0 p = none) : Drw H0 (upd H p o) b n := by
  obtain ⟨xs, e, x⟩ := d.box
  exact ⟨fun q u hq e2 => (upd_ne (ne_of_none e2 np)).trans (d.keep q u hq e2), xs, (upd_ne hp.symm).trans e, x⟩
theorem Drw.free {p : Addr} (d : Drw H0 H b n) (hp : p ≠ b) (np : H p = none) : H0 p = none := by
  cases hx : H0 p with
  | none => rfl
  | some o =>
    rw [d.keep p o hp hx] at np
    cases np
theorem go_new {o : Addr → HO} (d : Drw H0 H b n) (q : ∀ (p : Addr) (H' : Hp), p ≠ b → H p = none → H' p = some (o p) → Same H H' → Drw H0 H' b n → Q (.ref p) H') : ∀ p, H p = none → Q (.ref p) (upd H p (o p)) :=
  fun p np => q p _ (d.ne np) np upd_same (same_upd np) (d.new np)
theorem go_ixL {p : Addr} {xs : List V} {i : Int} {j : Nat} {v : V} (h : SqL K H p xs) (hi : i = (j : Int)) (hv : xs[j]? = some v) (q : Q v H) : rIxL K (.ref p) (.int i) H Q := by
  subst hi
  exact ⟨p, xs, _, v, rfl, rfl, h, atI_nat hv, q⟩
theorem go_ixT {p : Addr} {xs : List V} {i : Int} {j : Nat} {v : V} (h : SqT K H p xs) (hi : i = (j : Int)) (hv : xs[j]? = some v) (q : Q v H) : rIxT K (.ref p) (.int i) H Q := by
  subst hi
  exact ⟨p, xs, _, v, rfl, rfl, h, atI_nat hv, q⟩
theorem go_ixS {z : Str} {i : Int} {j c : Nat} (hz : z.length ≤ sizeLine) (hi : i = (j : Int)) (hc : z.cps.toList[j]? = some c) (q : Q (.str (mkS [c])) H) : rIxS (.str z) (.int i) H Q := by
  subst hi
  exact ⟨z, _, c, rfl, rfl, hz, atI_nat hc, q⟩
end
/-- tuples of two ints, item by item -/
def TupAll (H : Hp) : List V → List (Int × Int) → Prop
  | [], [] => True
  | v :: vs, x :: xs => (∃ p, v = .ref p ∧ H p = some (.tup [.int x.1, .int x.2])) ∧ TupAll H vs xs
  | _, _ => False
theorem TupAll.keep {H H' : Hp} (k : ∀ p xs, H p = some (.tup xs) → H' p = some (.tup xs)) : ∀ {vs : List V} {xs : List (Int × Int)}, TupAll H vs xs → TupAll H' vs xs
  | [], [], _ => trivial
  | _ :: _, _ :: _, ⟨⟨p, e, h⟩, t⟩ => ⟨⟨p, e, k _ _ h⟩, t.keep k⟩
  | [], _ :: _, h => h.elim
  | _ :: _, [], h => h.elim
theorem TupAll.app {H : Hp} {v : V} {x : Int × Int} (h : ∃ p, v = .ref p ∧ H p = some (.tup [.int x.1, .int x.2])) : ∀ {vs : List V} {xs : List (Int × Int)}, TupAll H vs xs → TupAll H (vs ++ [v]) (xs ++ [x])
  | [], [], _ => ⟨h, trivial⟩
  | _ :: _, _ :: _, ⟨h0, t⟩ => ⟨h0, TupAll.app h t⟩
  | [], _ :: _, h => h.elim
  | _ :: _, [], h => h.elim
theorem TupAll.length {H : Hp} : ∀ {vs : List V} {xs : List (Int × Int)}, TupAll H vs xs → vs.length = xs.length
  | [], [], _ => rfl
  | _ :: _, _ :: _, ⟨_, t⟩ => by rw [List.length_cons, List.length_cons, t.length]
  | [], _ :: _, h => h.elim
  | _ :: _, [], h => h.elim
theorem TupAll.hd {K : PySem.W.Frag} {H : Hp} : ∀ {vs : List V} {xs : List (Int × Int)}, TupAll H vs xs → HdAll K H vs xs
  | [], [], _ => trivial
  | _ :: _, (a, b) :: _, ⟨⟨p, e, h⟩, t⟩ => by
    subst e
    exact ⟨hd_pair (SqT.of h) (.int a) (.int b), t.hd⟩
  | [], _ :: _, h => h.elim
  | _ :: _, [], h => h.elim
theorem TupAll.get {H : Hp} : ∀ {vs : List V} {xs : List (Int × Int)} {i : Nat} {v : V}, TupAll H vs xs → vs[i]? = some v → ∃ x p, xs[i]? = some x ∧ v = .ref p ∧ H p = some (.tup [.int x.1, .int x.2])
  | _ :: _, x :: _, 0, v, ⟨⟨p, e, h⟩, _⟩, ev => by
    cases ev
    exact ⟨x, p, rfl, e, h⟩
  | _ :: _, _ :: _, i + 1, v, ⟨_, t⟩, ev => TupAll.get (i := i) t ev
  | [], [], _, _, _, e => nomatch e
  | [], _ :: _, _, _, h, _ => h.elim
  | _ :: _, [], _, _, h, _ => h.elim
theorem TupAll.perm {H : Hp} {us vs : List V} (p : us.Perm vs) : ∀ {xs : List (Int × Int)}, TupAll H vs xs → ∃ ys : List (Int × Int), ys.Perm xs ∧ TupAll H us ys := by
  induction p with
  | nil => exact fun {xs} h => ⟨xs, .refl _, h⟩
  | cons a _ ih =>
    intro xs h
    cases xs with
    | nil => exact h.elim
    | cons x xs =>
      obtain ⟨ys, h1, h2⟩ := ih h.2
      exact ⟨x :: ys, h1.cons x, h.1, h2⟩
  | swap a b l =>
    intro xs h
    cases xs with
    | nil => exact h.elim
    | cons x xs =>
      cases xs with
      | nil => exact h.2.elim
      | cons y xs => exact ⟨y :: x :: xs, List.Perm.swap x y xs, h.2.1, h.1, h.2.2⟩
  | trans _ _ ih1 ih2 =>
    intro xs h
    obtain ⟨ys, h1, h2⟩ := ih2 h
    obtain ⟨zs, h3, h4⟩ := ih1 h2
    exact ⟨zs, h3.trans h1, h4⟩
theorem perm_map {α β : Type} {f : α → β} {us vs : List β} (p : us.Perm vs) : ∀ {xs : List α}, vs = xs.map f → ∃ ys : List α, ys.Perm xs ∧ us = ys.map f := by
  induction p with
  | nil =>
    intro xs h
    cases xs with
    | nil => exact ⟨[], .refl _, rfl⟩
    | cons _ _ => cases h
  | cons a _ ih =>
    intro xs h
    cases xs with
    | nil => cases h
    | cons x xs =>
      rw [List.map_cons] at h
      injection h with h1 h2
      obtain ⟨ys, h3, h4⟩ := ih h2
      exact ⟨x :: ys, h3.cons x, by rw [List.map_cons, h1, h4]⟩
  | swap a b l =>
    intro xs h
    cases xs with
    | nil => cases h
    | cons x xs =>
      cases xs with
      | nil => cases h
      | cons y xs =>
        rw [List.map_cons, List.map_cons] at h
        injection h with h1 h2
        injection h2 with h2 h3
        exact ⟨y :: x :: xs, List.Perm.swap x y xs, by rw [List.map_cons, List.map_cons, h1, h2, h3]⟩
  | trans _ _ ih1 ih2 =>
    intro xs h
    obtain ⟨ys, h1, h2⟩ := ih2 h
    obtain ⟨zs, h3, h4⟩ := ih1 h2
    exact ⟨zs, h3.trans h1, h4⟩
theorem TupAll.drw {H H' : Hp} {b : Addr} {n m : Nat} (d : Drw H H' b n) (hb : BoxAt H b m) {vs : List V} {xs : List (Int × Int)} (t : TupAll H vs xs) : TupAll H' vs xs := by
  obtain ⟨ys, eb, _⟩ := hb
  refine t.keep fun p zs e => d.keep p _ (fun z => ?_) e
  rw [z, eb] at e
  cases e
theorem TupAll.upd {H : Hp} {D : Addr} {ys : List V} {o : HO} (eD : H D = some (.lst ys)) {vs : List V} {xs : List (Int × Int)} (t : TupAll H vs xs) : TupAll (L2.upd H D o) vs xs := by
  refine t.keep fun p zs e => ?_
  by_cases z : p = D
  · rw [z, eD] at e
    cases e
  · exact (upd_ne z).trans e
theorem TupAll.same {H H' : Hp} (s : Same H H') {vs : List V} {xs : List (Int × Int)} (t : TupAll H vs xs) : TupAll H' vs xs := t.keep fun p zs e => s _ _ e
/-- a dict's comprehension over a list that stays -/
theorem dc_list {K : PySem.W.Frag} {a : Addr} {xs : List V} {g : TG} {tt : TT} {tk tv : TE} {vs : List Nat} {σ : L2.St} {H1 : Hp} {D : Addr} {Qd : Hp → Prop} (Pv : Nat → Hp → Prop) (h0 : Pv 0 (upd H1 D (.dK []))) (hl : ∀ i H, i ≤ xs.length → Pv i H → SqL K H a xs)
    (hs : ∀ i x H, xs[i]? = some x → Pv i H → g x (wipe σ vs) H fun σ2 H2 => wipe σ2 vs = wipe σ vs ∧ tt σ2 H2 fun b H3 =>
      if b = true then tk σ2 H3 fun y H4 => tv σ2 H4 fun z H5 => ∃ kvs k, y = kV k ∧ H5 D = some (.dK kvs) ∧ kvs.length < sizeLine ∧ Pv (i + 1) (upd H5 D (.dK (putK kvs k z))) else Pv (i + 1) H3) (hd : ∀ H, Pv xs.length H → Qd H) :
    ∃ W : Nat → Nat → Hp → Prop, (∃ m, W 0 m (upd H1 D (.dK []))) ∧ ∀ i m H, W i m H →
      ((Itl K a).stop i H ∧ Qd H) ∨ ((Itl K a).go i H ∧ ∃ Nx : Hp → Prop, (∀ H', Nx H' → ∃ m', m' < m ∧ W (i + 1) m' H') ∧ ∀ x H', (Itl K a).yld i H x H' → g x (wipe σ vs) H' fun σ2 H2 => wipe σ2 vs = wipe σ vs ∧ tt σ2 H2 fun b H3 =>
        if b = true then tk σ2 H3 fun y H4 => tv σ2 H4 fun z H5 => ∃ kvs k, y = kV k ∧ H5 D = some (.dK kvs) ∧ kvs.length < sizeLine ∧ Nx (upd H5 D (.dK (putK kvs k z))) else Nx H3) := by
  refine ⟨fun i m H => m = xs.length - i ∧ i ≤ xs.length ∧ Pv i H, ⟨xs.length, by simp, Nat.zero_le _, h0⟩, ?_⟩
  rintro i m H ⟨rfl, hi, p⟩
  have q := hl i H hi p
  by_cases hlt : i < xs.length
  · refine .inr ⟨⟨xs, xs[i], q, by simp [hlt]⟩, Pv (i + 1), fun H' p' => ⟨xs.length - (i + 1), by omega, rfl, hlt, p'⟩, fun x H' y => ?_⟩
    obtain ⟨e, y⟩ := y
    subst e
    exact hs i x _ (y xs q) p
  · have e : i = xs.length := by omega
    subst e
    exact .inl ⟨⟨xs, q, Nat.le_refl _⟩, hd H p⟩
/-- lists of two texts, item by item -/
def LstAll (H : Hp) : List V → List (Str × Str) → Prop
  | [], [] => True
  | v :: vs, x :: xs => (∃ p, v = .ref p ∧ H p = some (.lst [.str x.1, .str x.2])) ∧ LstAll H vs xs
  | _, _ => False
theorem LstAll.same {H H' : Hp} (k : Same H H') : ∀ {vs : List V} {xs : List (Str × Str)}, LstAll H vs xs → LstAll H' vs xs
  | [], [], _ => trivial
  | _ :: _, _ :: _, ⟨⟨p, e, h⟩, t⟩ => ⟨⟨p, e, k _ _ h⟩, t.same k⟩
  | [], _ :: _, h => h.elim
  | _ :: _, [], h => h.elim
theorem LstAll.keep {H H' : Hp} (k : ∀ p xs, H p = some (.lst xs) → H' p = some (.lst xs)) : ∀ {vs : List V} {xs : List (Str × Str)}, LstAll H vs xs → LstAll H' vs xs
  | [], [], _ => trivial
  | _ :: _, _ :: _, ⟨⟨p, e, h⟩, t⟩ => ⟨⟨p, e, k _ _ h⟩, t.keep k⟩
  | [], _ :: _, h => h.elim
  | _ :: _, [], h => h.elim
theorem LstAll.length {H : Hp} : ∀ {vs : List V} {xs : List (Str × Str)}, LstAll H vs xs → vs.length = xs.length
  | [], [], _ => rfl
  | _ :: _, _ :: _, ⟨_, t⟩ => by rw [List.length_cons, List.length_cons, t.length]
  | [], _ :: _, h => h.elim
  | _ :: _, [], h => h.elim
theorem LstAll.get {H : Hp} : ∀ {vs : List V} {xs : List (Str × Str)} {i : Nat} {v : V}, LstAll H vs xs → vs[i]? = some v → ∃ x p, xs[i]? = some x ∧ v = .ref p ∧ H p = some (.lst [.str x.1, .str x.2])
  | _ :: _, x :: _, 0, v, ⟨⟨p, e, h⟩, _⟩, ev => by
    cases ev
    exact ⟨x, p, rfl, e, h⟩
  | _ :: _, _ :: _, i + 1, v, ⟨_, t⟩, ev => LstAll.get (i := i) t ev
  | [], [], _, _, _, e => nomatch e
  | [], _ :: _, _, _, h, _ => h.elim
  | _ :: _, [], _, _, h, _ => h.elim
theorem LstAll.app {H : Hp} {v : V} {x : Str × Str} (h : ∃ p, v = .ref p ∧ H p = some (.lst [.str x.1, .str x.2])) : ∀ {vs : List V} {xs : List (Str × Str)}, LstAll H vs xs → LstAll H (vs ++ [v]) (xs ++ [x])
  | [], [], _ => ⟨h, trivial⟩
  | _ :: _, _ :: _, ⟨h0, t⟩ => ⟨h0, LstAll.app h t⟩
  | [], _ :: _, h => h.elim
  | _ :: _, [], h => h.elim
theorem byN_snoc {l : List Str} {a : Str → Addr} {x : Str} {p : Addr} (h : x ∉ l) : byN (l ++ [x]) (fun y => if y = x then p else a y) = byN l a ++ [((Sum.inr x : L2.Key), V.ref p)] := by
  unfold byN
  rw [List.map_append]
  congr 1
  · refine List.map_congr_left fun y hy => ?_
    have hne : ¬ y = x := fun e => h (by rw [← e]; exact hy)
    show ((Sum.inr y : L2.Key), V.ref (if y = x then p else a y)) = _
    rw [if_neg hne]
  · rw [List.map_singleton]
    show [((Sum.inr x : L2.Key), V.ref (if x = x then p else a x))] = _
    rw [if_pos rfl]
theorem putK_byN {l : List Str} {a : Str → Addr} {x : Str} {p : Addr} (h : x ∉ l) : putK (byN l a) (Sum.inr x : L2.Key) (V.ref p) = byN (l ++ [x]) (fun y => if y = x then p else a y) := by
  rw [byN_snoc h]
  refine putK_new fun q hq e => ?_
  obtain ⟨y, hy, rfl⟩ := List.mem_map.mp hq
  exact h (by rw [← Sum.inr.inj e]; exact hy)
theorem byN_len (l : List Str) (a : Str → Addr) : (byN l a).length = l.length := List.length_map _
theorem kit_lt {K : PySem.W.Frag} : PySem.W.kitAny K (.type "list") [.type "list", .type "tuple"] = some true := kitAny_cons (b := true) (kit_ty (by decide +kernel)) (fun e => nomatch e) (fun _ => rfl)
theorem ite_nt {A B : Prop} (h : B) : if (!true) = true then A else B := h
theorem ite_nf {A B : Prop} (h : A) : if (!false) = true then A else B := h
theorem Drw.cat {H H' H2 : Hp} {b : Addr} {n m : Nat} (d : Drw H H' b n) (e : Drw H' H2 b m) : Drw H H2 b m := d.trans e
end L9

namespace K02n
open PySem PySem.Spec PyProof.Rows L2 L9
def topS (i : Nat) : Stmt := PySem.Challenge.pw_surehollows_k02_bounds_and_their_signs.main.body.getD i (.Pass ⟨0, 0, 0, 0⟩)
section
variable {P : Program} {w : World} {K : PySem.W.Frag} {mg : Str → Option Value} {base : Heap}
abbrev s__law_take : Stmt := topS 15
abbrev N__law_take : List Str := ["_law_box_here", "_law_many", "_law_digit", "_law_one", "_law_two"]
theorem sc__law_take : FnScope N__law_take ["_law_box_here", "_law_many"] (defScope s__law_take) := ⟨rfl, rfl, rfl, by decide +kernel, rfl, by decide +kernel, by decide +kernel⟩
theorem ok_take {f : Addr} {fd : FuncData} (F : Fun K "_law_take" "_law_take" s__law_take f fd) (T : Bt mg) : FnOk P w K mg base CX0 1 f fd ["_law_box_here", "_law_many"] spTake := by
  refine F.ok sc__law_take (fun vs H Q E h => ?_) (fun cdv A outer s H vs Q E hr h => ?_)
  · obtain ⟨b, m, n, rfl, _⟩ := h
    rfl
  · obtain ⟨b, m, n, rfl, ⟨xs, hb, x, y, z, rfl, hx, hy, hy2, hz, hz2⟩, hm, hm2, hn, q⟩ := h
    refine ⟨_, (pss_cons (ps_if (pt_cmpR op_gt (pe_ix ix_list (pv 0) pe_int (fun _ _ => rfl)) pe_int (nomark _)) (pss_cons (ps_set (i := 2) sc__law_take.nd rfl (.inl rfl) (pe_op op_mod (pe_callTy call_int1 (by rfl) T.m_int (by decide +kernel) (pa_cons (pe_ix ix_list (pv 0) pe_int (fun _ _ => rfl)) pa_nil)) (pv 1)))
    (pss_cons (ps_asg (pe_op op_fdivW (pe_ix ix_list (pv 0) pe_int (fun _ _ => rfl)) (pv 1)) (pg_sub (pv 0) pe_int set_list))
    (pss_one (ps_ret (pv 2))))) pss_nil)
    (pss_cons (ps_asg (pe_op op_add (pe_ix ix_list (pv 0) pe_int (fun _ _ => rfl)) pe_int) (pg_sub (pv 0) pe_int set_list))
    (pss_cons (ps_set (i := 3) sc__law_take.nd rfl (.inl rfl) (pe_op op_mod (pe_op op_pow (pe_callTy call_int1 (by rfl) T.m_int (by decide +kernel) (pa_cons (pe_op op_add (pe_op op_add (pe_ix ix_list (pv 0) pe_int (fun _ _ => rfl)) (pe_op op_mul pe_int (pe_ix ix_list (pv 0) pe_int (fun _ _ => rfl)))) pe_int) pa_nil)) pe_int) pe_int))
    (pss_cons (ps_set (i := 4) sc__law_take.nd rfl (.inl rfl) (pe_op op_mod (pe_op op_pow (pe_callTy call_int1 (by rfl) T.m_int (by decide +kernel) (pa_cons (pe_op op_add (pe_op op_add (pe_op op_fdivW (pv 3) pe_int) (pe_op op_mul (pe_op op_mul pe_int (pe_ix ix_list (pv 0) pe_int (fun _ _ => rfl))) (pe_ix ix_list (pv 0) pe_int (fun _ _ => rfl)))) pe_int) pa_nil)) pe_int) pe_int))
    (pss_one (ps_ret (pe_op op_mod (pe_callTy call_int1 (by rfl) T.m_int (by decide +kernel) (pa_cons (pe_op op_add (pe_op op_fdivW (pv 3) pe_int) (pe_op op_mul pe_int (pe_op op_fdivW (pv 4) pe_int))) pa_nil)) (pv 1)))))))), ?_⟩
    -- box[0] > 0
    refine ⟨.ref b, rfl, b, _, 0, .int x, rfl, rfl, SqL.of hb, rfl, x, 0, rfl, rfl, _, rfl, ite2 (fun e => ?_) (fun e => ?_)⟩
    · have hx0 : 0 < x := of_decide_eq_true e
      refine ⟨.ref b, rfl, b, _, 0, .int x, rfl, rfl, SqL.of hb, rfl, .inl ⟨x, rfl, .int m, rfl, x, m, rfl, rfl, hm, ?_⟩⟩
      refine ⟨.ref b, rfl, b, _, 0, .int x, rfl, rfl, SqL.of hb, rfl, .int m, rfl, x, m, rfl, rfl, wide_div (b := 60) hm (by omega) (by decide) (by decide), .ref b, rfl, b, _, 0, 0, rfl, rfl, hb, rfl, ?_⟩
      refine ⟨.int (x % m), rfl, q _ _ (Int.emod_nonneg _ (by omega)) (Int.emod_lt_of_pos _ hm) ⟨x / m, y, z, rfl, Int.ediv_nonneg hx (by omega), hy, hy2, hz, by omega⟩⟩
    · -- the counter
      refine ⟨.ref b, rfl, b, _, 2, .int z, rfl, rfl, SqL.of hb, rfl, z, 1, rfl, rfl, .ref b, rfl, b, _, 2, 2, rfl, rfl, hb, rfl, ?_⟩
      have hb2 : (upd H b (.lst [V.int x, V.int y, V.int (z + 1)])) b = some (.lst [V.int x, V.int y, V.int (z + 1)]) := upd_same
      have hB1 : y + 15485863 * (z + 1) + 83 < 2 ^ 63 := by omega
      have hone : 0 ≤ (y + 15485863 * (z + 1) + 83) ^ 5 % 2147483647 ∧ (y + 15485863 * (z + 1) + 83) ^ 5 % 2147483647 < 2147483647 := ⟨Int.emod_nonneg _ (by decide), Int.emod_lt_of_pos _ (by decide)⟩
      refine ⟨.ref b, rfl, b, _, 1, .int y, rfl, rfl, SqL.of hb2, rfl, .ref b, rfl, b, _, 2, .int (z + 1), rfl, rfl, SqL.of hb2, rfl, 15485863, z + 1, rfl, rfl, .inl ⟨by decide, by decide⟩, y, _, rfl, rfl, _, 83, rfl, rfl, .inl ⟨_, rfl, _, 5, rfl, rfl, ⟨by decide, by decide, by omega⟩, _, 2147483647, rfl, rfl, by show (0 : Int) < 2147483647; decide, ?_⟩⟩
      show gName 3 (V.int ((y + 15485863 * (z + 1) + 83) ^ (Int.toNat 5) % 2147483647)) _ _ _
      obtain ⟨one, hoe⟩ : ∃ one : Int, one = (y + 15485863 * (z + 1) + 83) ^ (Int.toNat 5) % 2147483647 := ⟨_, rfl⟩
      have h1 : 0 ≤ one ∧ one < 2147483647 := by
        rw [hoe]
        exact hone
      rw [← hoe]
      have hsq : 96581 * (z + 1) * (z + 1) ≤ 96581 * 1000001 * 1000001 := by
        refine Int.le_trans (Int.mul_le_mul_of_nonneg_left (show z + 1 ≤ 1000001 by omega) (by omega)) ?_
        exact Int.mul_le_mul_of_nonneg_right (by omega) (by decide)
      have hsq0 : 0 ≤ 96581 * (z + 1) * (z + 1) := Int.mul_nonneg (by omega) (by omega)
      obtain ⟨sq, hsqe⟩ : ∃ sq : Int, sq = 96581 * (z + 1) * (z + 1) := ⟨_, rfl⟩
      rw [← hsqe] at hsq hsq0
      refine ⟨.int one, rfl, one, 8, rfl, rfl, wide_div (b := 60) (by decide) (by decide) (by decide) (by decide), .ref b, rfl, b, _, 2, .int (z + 1), rfl, rfl, SqL.of hb2, rfl, 96581, z + 1, rfl, rfl, .inl ⟨by decide, by decide⟩, .ref b, rfl, b, _, 2, .int (z + 1), rfl, rfl, SqL.of hb2, rfl, _, z + 1, rfl, rfl, .inl ⟨by omega, by omega⟩, _, _, rfl, rfl, ?_⟩
      show ∃ i j, V.int (one / 8 + 96581 * (z + 1) * (z + 1)) = V.int i ∧ _
      rw [← hsqe]
      refine ⟨_, 3, rfl, rfl, .inl ⟨_, rfl, _, 3, rfl, rfl, ⟨by decide, by decide, by omega⟩, _, 2147483629, rfl, rfl, by show (0 : Int) < 2147483629; decide, ?_⟩⟩
      show gName 4 (V.int ((one / 8 + sq + 3) ^ (Int.toNat 3) % 2147483629)) _ _ _
      obtain ⟨two, htwo⟩ : ∃ two : Int, two = (one / 8 + sq + 3) ^ (Int.toNat 3) % 2147483629 := ⟨_, rfl⟩
      have h2 : 0 ≤ two ∧ two < 2147483629 := by
        rw [htwo]
        exact ⟨Int.emod_nonneg _ (by decide), Int.emod_lt_of_pos _ (by decide)⟩
      rw [← htwo]
      refine ⟨.int one, rfl, one, 4, rfl, rfl, wide_div (b := 60) (by decide) (by decide) (by decide) (by decide), .int two, rfl, two, 4, rfl, rfl, wide_div (b := 60) (by decide) (by decide) (by decide) (by decide), 536870909, _, rfl, rfl, .inl ⟨by decide, by decide⟩, _, _, rfl, rfl, .inl ⟨_, rfl, .int m, rfl, _, m, rfl, rfl, hm, ?_⟩⟩
      exact q _ _ (Int.emod_nonneg _ (by omega)) (Int.emod_lt_of_pos _ hm) ⟨x, y, z + 1, rfl, hx, hy, hy2, by omega, by omega⟩

abbrev s__law_cell : Stmt := topS 13
abbrev N__law_cell : List Str := ["_law_script", "_law_k"]
theorem sc__law_cell : FnScope N__law_cell ["_law_script", "_law_k"] (defScope s__law_cell) := ⟨rfl, rfl, rfl, by decide +kernel, rfl, by decide +kernel, by decide +kernel⟩
theorem ok_cell {f : Addr} {fd : FuncData} (F : Fun K "_law_cell" "_law_cell" s__law_cell f fd) (T : Bt mg) : FnOk P w K mg base CX0 1 f fd ["_law_script", "_law_k"] (spCellA K) := by
  refine F.ok sc__law_cell (fun vs H Q E h => ?_) (fun cdv A outer s H vs Q E hr h => ?_)
  · obtain ⟨l, ns, j, rfl, _⟩ := h
    rfl
  · obtain ⟨l, ns, j, rfl, hl, hn, hj0, hj, q⟩ := h
    obtain ⟨j, rfl⟩ := Int.eq_ofNat_of_zero_le hj0
    refine ⟨_, (pss_one (ps_ret (pe_ifExp (pt_cmpR op_lt (pv 1) (pe_callB call_len_seq (by rfl) T.m_len (by decide +kernel) (pa_cons (pv 0) pa_nil)) (nomark _)) (pe_ix ix_list (pv 0) (pv 1) (fun _ _ => rfl)) (pe_op op_add (pe_op op_mul pe_int (pv 1)) pe_int)))), ?_⟩
    refine ⟨_, rfl, .ref l, rfl, l, _, rfl, .inl hl, _, _, rfl, rfl, _, rfl, ite2 (fun e => ?_) (fun e => ?_)⟩
    · have e1 : (j : Int) < ((ns.map V.int).length : Int) := of_decide_eq_true e
      rw [List.length_map] at e1
      have hj2 : j < ns.length := by omega
      exact ⟨.ref l, rfl, _, rfl, l, _, (j : Nat), .int ns[j], rfl, rfl, hl, atI_nat (by rw [List.getElem?_map, List.getElem?_eq_getElem hj2] <;> rfl), q _⟩
    · exact ⟨_, rfl, 48271, (j : Nat), rfl, rfl, .inl ⟨by decide, by decide⟩, _, 83, rfl, rfl, q _⟩

abbrev s__law_box : Stmt := topS 14
abbrev N__law_box : List Str := ["_law_cell_here"]
theorem sc__law_box : FnScope N__law_box ["_law_cell_here"] (defScope s__law_box) := ⟨rfl, rfl, rfl, by decide +kernel, rfl, by decide +kernel, by decide +kernel⟩
theorem ok_box {f : Addr} {fd : FuncData} (F : Fun K "_law_box" "_law_box" s__law_box f fd) (T : Bt mg) : FnOk P w K mg base CX0 1 f fd ["_law_cell_here"] spBox := by
  refine F.ok sc__law_box (fun vs H Q E h => ?_) (fun cdv A outer s H vs Q E hr h => ?_)
  · obtain ⟨c, rfl, _⟩ := h
    rfl
  · obtain ⟨c, rfl, q⟩ := h
    refine ⟨_, (pss_one (ps_ret (pe_lst (pa_cons (pe_callB (call_max2 rfl) (by rfl) T.m_max (by decide +kernel) (pa_cons pe_int (pa_cons (pe_op op_sub (pv 0) (pe_op op_pow pe_int pe_int)) pa_nil))) (pa_cons (pe_op op_mod (pe_callTy call_int1 (by rfl) T.m_int (by decide +kernel) (pa_cons (pv 0) pa_nil)) pe_int) (pa_cons pe_int pa_nil)))))), ?_⟩
    refine ⟨.int c, rfl, 10, 18, rfl, rfl, ⟨by decide, by decide, by decide⟩, c, _, rfl, rfl, 0, _, rfl, .int c, rfl, .inl ⟨c, rfl, c, 2147483629, rfl, rfl, by show (0 : Int) < 2147483629; decide, by show 3 ≤ sizeLine; decide, fun p np => ?_⟩⟩
    refine q p _ np ⟨_, _, _, rfl, ?_, Int.emod_nonneg _ (by decide), Int.emod_lt_of_pos _ (by decide), Int.le_refl _, by decide⟩
    split <;> omega


local macro_rules | `(tactic| array_get_dec) => `(tactic| first
  | with_reducible refine w_var rfl ?_
  | with_reducible refine w_c ?_
  | with_reducible refine w_op ?_
  | with_reducible refine w_cons ?_
  | with_reducible refine w_nil ?_
  | with_reducible refine w_CB ?_
  | with_reducible refine w_call ?_
  | with_reducible refine w_rI0 ?_
  | with_reducible refine w_rU ?_
  | with_reducible refine w_mulL (by omega) (by omega) ?_
  | with_reducible refine w_mulR (by omega) (by omega) ?_
  | with_reducible refine w_pow (by omega) (by omega) (by omega) ?_
  | with_reducible refine w_mod (by omega) ?_
  | with_reducible refine w_div (by omega) (by omega) ?_
  | with_reducible refine w_seq ?_
  | with_reducible refine w_asg ?_
  | with_reducible refine w_gName ?_
  | with_reducible refine w_gCons ?_
  | with_reducible refine w_gNil ?_
  | with_reducible refine w_ret ?_
  | with_reducible refine w_retN ?_
  | with_reducible refine w_next ?_
  | with_reducible refine w_drop ?_
  | with_reducible refine w_par ?_
  | with_reducible refine w_isTwo ?_
  | with_reducible refine w_par3 ?_
  | with_reducible refine w_isThree ?_
  | with_reducible refine w_ifS ?_
  | with_reducible refine w_if ?_
  | with_reducible refine w_test ?_
  | with_reducible refine w_B ?_
  | with_reducible refine w_isBl ?_
  | with_reducible refine w_eq rfl ?_
  | with_reducible refine w_ne rfl ?_
  | with_reducible refine w_not ?_
  | with_reducible refine w_and ?_
  | with_reducible refine w_or ?_
  | with_reducible refine w_andV ?_
  | with_reducible refine w_orV ?_
  | with_reducible refine w_notV ?_
  | with_reducible refine w_un ?_
  | with_reducible refine w_tup ?_
  | with_reducible refine w_lst ?_
  | with_reducible refine w_part ?_
  | with_reducible refine w_nopart ?_
  | with_reducible refine w_isIt ?_
  | with_reducible refine w_sl ?_
  | with_reducible refine w_yes ?_
  | with_reducible refine w_bm ?_
  | with_reducible refine w_bm0 ?_
  | with_reducible refine w_dput ?_
  | with_reducible refine w_ddel ?_
  | with_reducible refine w_ckw ?_
  | with_reducible refine w_callO ?_
  | with_reducible refine w_callOK ?_
  | with_reducible refine w_dget ?_
  | with_reducible refine w_din ?_
  | with_reducible refine w_dnin ?_
  | with_reducible refine w_dnew ?_
  | with_reducible refine w_fld ?_
  | with_reducible refine w_sfld ?_
  | with_reducible refine w_meth ?_
  | with_reducible refine w_make ?_
  | with_reducible refine w_subO ?_
  | with_reducible refine w_rg1 ?_
  | with_reducible refine w_isRg (by omega) (by omega) ?_
  | with_reducible refine w_rg2 ?_
  | with_reducible refine w_isRg2 (by omega) (by omega) (by omega) (by omega) ?_
  | with_reducible refine w_list ?_
  | with_reducible refine w_for ?_
  | with_reducible refine w_listRg ?_
  | with_reducible refine w_rgOne ?_
  | with_reducible refine w_isIntR ?_
  | with_reducible refine w_makeK ?_
  | with_reducible refine w_lc ?_
  | with_reducible refine w_dc ?_
  | with_reducible refine w_chain ?_
  | with_reducible refine iteT ?_
  | with_reducible refine iteF ?_
  | with_reducible refine ite_nt ?_
  | with_reducible refine ite_nf ?_)
def spWholeG (K : PySem.W.Frag) : Sp := fun vs H Q _ => ∃ v : V, vs = [v] ∧ ((∃ i : Int, v = .int i ∧ Q (.bl true) H) ∨ ((∃ b, v = .bl b) ∧ Q (.bl false) H) ∨ (Off K H "int" v ∧ Q (.bl false) H))
abbrev s_is_whole : Stmt := topS 8
theorem sc_is_whole : FnScope ["value"] ["value"] (defScope s_is_whole) := ⟨rfl, rfl, rfl, by decide +kernel, rfl, by decide +kernel, by decide +kernel⟩
theorem ok_is_whole {f : Addr} {fd : FuncData} (F : Fun K "is_whole" "is_whole" s_is_whole f fd) (T : Bh mg) : FnOk P w K mg base CX0 1 f fd ["value"] (spWholeG K) := by
  refine F.ok sc_is_whole (fun vs H Q E h => ?_) (fun cdv A outer s H vs Q E hr h => ?_)
  · obtain ⟨v, rfl, _⟩ := h
    rfl
  · obtain ⟨v, rfl, h⟩ := h
    refine ⟨_, (pss_one (ps_ret (pe_and (pe_callB call_isi (by rfl) T.m_isinstance (by decide +kernel) (pa_cons (pv 0) (pa_cons (pe_ty (T := "int") (by rfl) T.m_int) pa_nil))) (pe_one (pe_not (pe_callB call_isi (by rfl) T.m_isinstance (by decide +kernel) (pa_cons (pv 0) (pa_cons (pe_ty (T := "bool") (by rfl) T.m_bool) pa_nil)))))))), ?_⟩
    repeat array_get_dec
    rcases h with ⟨i, rfl, q⟩ | ⟨⟨b, rfl⟩, q⟩ | ⟨⟨t, ht, hk⟩, q⟩
    · refine ⟨_, _, _, _, true, rfl, .ty "int", .base (.int i), kit_ty kit_ii, ?_⟩
      repeat array_get_dec
      refine ⟨_, _, _, _, false, rfl, .ty "bool", .base (.int i), kit_ty kit_ib, ?_⟩
      repeat array_get_dec
      exact q
    · refine ⟨_, _, _, _, true, rfl, .ty "int", .base (.bl b), kit_ty kit_bi, ?_⟩
      repeat array_get_dec
      refine ⟨_, _, _, _, true, rfl, .ty "bool", .base (.bl b), kit_ty kit_bb, ?_⟩
      repeat array_get_dec
      exact q
    · refine ⟨_, _, _, _, false, rfl, .ty "int", ht, kit_ty hk, ?_⟩
      repeat array_get_dec
      exact q
abbrev s_is_height : Stmt := topS 9
theorem sc_is_height : FnScope ["value"] ["value"] (defScope s_is_height) := ⟨rfl, rfl, rfl, by decide +kernel, rfl, by decide +kernel, by decide +kernel⟩
theorem ok_is_height {f : Addr} {fd : FuncData} (F : Fun K "is_height" "is_height" s_is_height f fd) (T : Bh mg) (C_is_whole : Cal P w K mg base "is_whole" 1 ["value"] (spWholeG K)) : FnOk P w K mg base CX0 2 f fd ["value"] (spIsHeight K) := by
  refine F.ok sc_is_height (fun vs H Q E h => ?_) (fun cdv A outer s H vs Q E hr h => ?_)
  · obtain ⟨v, rfl, _⟩ := h
    rfl
  · obtain ⟨v, rfl, h⟩ := h
    refine ⟨_, (pss_one (ps_ret (pe_and (pe_cal C_is_whole (hr.mono (by decide)) (by rfl) (pa_cons (pv 0) pa_nil)) (pe_one (pe_chain op_le op_le (pe_un un_neg (pe_gl T.m_MOST_HEIGHT)) (pv 0) (pe_gl T.m_MOST_HEIGHT)))))), ?_⟩
    repeat array_get_dec
    rcases h with ⟨i, rfl, q⟩ | ⟨⟨b, rfl⟩, q⟩ | ⟨ho, q⟩
    · refine ⟨_, rfl, .inl ⟨i, rfl, ?_⟩⟩
      repeat array_get_dec
      unfold heightB at q
      by_cases e : decide (-MH ≤ i) = true
      · rw [e]
        rw [e, Bool.true_and] at q
        repeat array_get_dec
        exact q
      · rw [Bool.eq_false_iff.mpr e]
        rw [Bool.eq_false_iff.mpr e, Bool.false_and] at q
        repeat array_get_dec
        exact q
    · refine ⟨_, rfl, .inr (.inl ⟨⟨b, rfl⟩, ?_⟩)⟩
      repeat array_get_dec
      exact q
    · refine ⟨_, rfl, .inr (.inr ⟨ho, ?_⟩)⟩
      repeat array_get_dec
      exact q
end
end K02n

namespace K02n
open PySem PySem.Spec PyProof.Rows L2 L9
section
variable {P : Program} {w : World} {K : PySem.W.Frag} {mg : Str → Option Value} {base : Heap}
abbrev s_SurveyError___init__ : Stmt := inClass (topS 2) 0
theorem sc_SurveyError___init__ : FnScope ["self", "message"] ["self", "message"] (defScope s_SurveyError___init__) := ⟨rfl, rfl, rfl, by decide +kernel, rfl, by decide +kernel, by decide +kernel⟩
theorem ok_survey {f CS fS : Addr} {mS : Value} {fd : FuncData} (F : Fun K "__init__" "SurveyError.__init__" s_SurveyError___init__ f fd) (S : SurT K mg CS fS mS) : FnOk P w K mg base CX0 1 f fd ["self", "message"] (spSurvey K) := by
  refine F.ok sc_SurveyError___init__ (fun vs H Q E h => ?_) (fun cdv A outer s H vs Q E hr h => ?_)
  · obtain ⟨a, C, v, rfl, _⟩ := h
    rfl
  · obtain ⟨a, C, v, rfl, hC, ha, q⟩ := h
    refine ⟨_, pss_one (ps_expr (pe_veinit (by rfl) S.ve S.vf (pa_cons (pv 0) (pa_cons (pv 1) pa_nil)))), ?_⟩
    exact ⟨.ref a, rfl, v, rfl, a, C, [v], rfl, by show 1 ≤ 1000; decide, hC, ha, q⟩
abbrev s_InvalidHeight___init__ : Stmt := inClass (topS 3) 0
theorem sc_InvalidHeight___init__ : FnScope ["self", "value"] ["self", "value"] (defScope s_InvalidHeight___init__) := ⟨rfl, rfl, rfl, by decide +kernel, rfl, by decide +kernel, by decide +kernel⟩
theorem ok_InvalidHeight {f CS fS C : Addr} {mS : Value} {fd fdS : FuncData} (F : Fun K "__init__" "InvalidHeight.__init__" s_InvalidHeight___init__ f fd) (S : SurT K mg CS fS mS) (hC : OexC K C) (no : PySem.W.findIn K (.ref C) "value" = some none)
    (GS : FnOk P w K mg base CX0 1 fS fdS ["self", "message"] (spSurvey K)) (bS : Binds K fdS ["self", "message"] []) : FnOk P w K mg base CX0 2 f fd ["self", "value"] (spErr1 C "value") := by
  refine F.ok sc_InvalidHeight___init__ (fun vs H Q E h => ?_) (fun cdv A outer s H vs Q E hr h => ?_)
  · obtain ⟨a, v, rfl, _⟩ := h
    rfl
  · obtain ⟨a, v, rfl, ha, q⟩ := h
    refine ⟨_, pss_cons (ps_expr (pe_cinit (E := fun _ => E0) (by rfl) S.g S.rd S.vl S.kp GS hr bS pass0A (pa_cons (pv 0) (pa_cons pe_str pa_nil)))) (pss_one (ps_ost (pv 0) (pv 1))), ?_⟩
    exact ⟨.ref a, rfl, a, C, _, rfl, hC, ha, v, rfl, .ref a, rfl, a, C, rfl, hC, no, .inl ⟨ha, q⟩⟩
abbrev s_InvalidBounds___init__ : Stmt := inClass (topS 4) 0
theorem sc_InvalidBounds___init__ : FnScope ["self", "low", "high"] ["self", "low", "high"] (defScope s_InvalidBounds___init__) := ⟨rfl, rfl, rfl, by decide +kernel, rfl, by decide +kernel, by decide +kernel⟩
theorem ok_InvalidBounds {f CS fS C : Addr} {mS : Value} {fd fdS : FuncData} (F : Fun K "__init__" "InvalidBounds.__init__" s_InvalidBounds___init__ f fd) (S : SurT K mg CS fS mS) (hC : OexC K C) (no : PySem.W.findIn K (.ref C) "low" = some none) (no2 : PySem.W.findIn K (.ref C) "high" = some none)
    (GS : FnOk P w K mg base CX0 1 fS fdS ["self", "message"] (spSurvey K)) (bS : Binds K fdS ["self", "message"] []) : FnOk P w K mg base CX0 2 f fd ["self", "low", "high"] (spErr2 C "low" "high") := by
  refine F.ok sc_InvalidBounds___init__ (fun vs H Q E h => ?_) (fun cdv A outer s H vs Q E hr h => ?_)
  · obtain ⟨a, v, u, rfl, _⟩ := h
    rfl
  · obtain ⟨a, v, u, rfl, ha, q⟩ := h
    refine ⟨_, pss_cons (ps_expr (pe_cinit (E := fun _ => E0) (by rfl) S.g S.rd S.vl S.kp GS hr bS pass0A (pa_cons (pv 0) (pa_cons pe_str pa_nil)))) (pss_cons (ps_ost (pv 0) (pv 1)) (pss_one (ps_ost (pv 0) (pv 2)))), ?_⟩
    refine ⟨.ref a, rfl, a, C, _, rfl, hC, ha, v, rfl, .ref a, rfl, a, C, rfl, hC, no, .inl ⟨ha, fun dx ndx ne => ?_⟩⟩
    refine ⟨u, rfl, .ref a, rfl, a, C, rfl, hC, no2, .inr ⟨dx, [(("low" : Str), v)], upd_same, (upd_ne ne).trans upd_same, by show 1 ≤ 900; decide, ?_⟩⟩
    refine q dx _ ndx ne (fun b h1 h2 => ?_) ?_ upd_same
    · rw [upd_ne h2, upd_ne h1, upd_ne h2]
    · rw [upd_ne ne.symm, upd_same]
abbrev s_Contradiction___init__ : Stmt := inClass (topS 5) 0
theorem sc_Contradiction___init__ : FnScope ["self", "one", "other"] ["self", "one", "other"] (defScope s_Contradiction___init__) := ⟨rfl, rfl, rfl, by decide +kernel, rfl, by decide +kernel, by decide +kernel⟩
theorem ok_Contradiction {f CS fS C : Addr} {mS : Value} {fd fdS : FuncData} (F : Fun K "__init__" "Contradiction.__init__" s_Contradiction___init__ f fd) (S : SurT K mg CS fS mS) (hC : OexC K C) (no : PySem.W.findIn K (.ref C) "one" = some none) (no2 : PySem.W.findIn K (.ref C) "other" = some none)
    (GS : FnOk P w K mg base CX0 1 fS fdS ["self", "message"] (spSurvey K)) (bS : Binds K fdS ["self", "message"] []) : FnOk P w K mg base CX0 2 f fd ["self", "one", "other"] (spErr2 C "one" "other") := by
  refine F.ok sc_Contradiction___init__ (fun vs H Q E h => ?_) (fun cdv A outer s H vs Q E hr h => ?_)
  · obtain ⟨a, v, u, rfl, _⟩ := h
    rfl
  · obtain ⟨a, v, u, rfl, ha, q⟩ := h
    refine ⟨_, pss_cons (ps_expr (pe_cinit (E := fun _ => E0) (by rfl) S.g S.rd S.vl S.kp GS hr bS pass0A (pa_cons (pv 0) (pa_cons pe_str pa_nil)))) (pss_cons (ps_ost (pv 0) (pv 1)) (pss_one (ps_ost (pv 0) (pv 2)))), ?_⟩
    refine ⟨.ref a, rfl, a, C, _, rfl, hC, ha, v, rfl, .ref a, rfl, a, C, rfl, hC, no, .inl ⟨ha, fun dx ndx ne => ?_⟩⟩
    refine ⟨u, rfl, .ref a, rfl, a, C, rfl, hC, no2, .inr ⟨dx, [(("one" : Str), v)], upd_same, (upd_ne ne).trans upd_same, by show 1 ≤ 900; decide, ?_⟩⟩
    refine q dx _ ndx ne (fun b h1 h2 => ?_) ?_ upd_same
    · rw [upd_ne h2, upd_ne h1, upd_ne h2]
    · rw [upd_ne ne.symm, upd_same]
/-! ### Bounds -/
def spCheckHX (K : PySem.W.Frag) (CH : Addr) : Sp := fun vs H Q E => ∃ v : V, vs = [v] ∧ ((NoH K H v ∧ ∀ d H', Same H H' → H d = none → H' d = some (.xd [(("value" : Str), v)]) → E (.ref CH) (some d) H') ∨ (∃ i, v = .int i ∧ heightB i = true ∧ Q .non H))
abbrev s_check_height : Stmt := topS 10
theorem sc_check_height : FnScope ["value"] ["value"] (defScope s_check_height) := ⟨rfl, rfl, rfl, by decide +kernel, rfl, by decide +kernel, by decide +kernel⟩
theorem ok_check_height {f CH fH : Addr} {fd fdH : FuncData} (F : Fun K "check_height" "check_height" s_check_height f fd) (C_is_height : Cal P w K mg base "is_height" 2 ["value"] (spIsHeight K))
    (EH : ErrT K mg "InvalidHeight" CH fH) (GH : FnOk P w K mg base CX0 2 fH fdH ["self", "value"] (spErr1 CH "value")) (bH : Binds K fdH ["self", "value"] []) : FnOk P w K mg base (L2.CX P w) 4 f fd ["value"] (spCheckHX K CH) := by
  refine F.okX sc_check_height (fun vs H Q E h => ?_) (fun cdv A outer s H vs Q E hr h => ?_)
  · obtain ⟨v, rfl, _⟩ := h
    rfl
  · obtain ⟨v, rfl, h⟩ := h
    refine ⟨_, (pss_one (ps_if (pt_not (pt_val (pe_cal C_is_height (hr.mono (by decide)) (by rfl) (pa_cons (pv 0) pa_nil)))) (pss_one (ps_raise rfl (takes_of rfl rfl rfl rfl) (pmk_oex EH.oe EH.iC EH.tI GH hr bH .nil pass0 (by rfl) EH.g (pa_cons (pv 0) pa_nil)))) pss_nil)), ?_⟩
    rcases h with ⟨h1, h2⟩ | ⟨i, rfl, hi, q⟩
    · refine ⟨v, rfl, ?_⟩
      try unfold tNil
      dsimp only
      refine isH_no h1 ⟨_, rfl, iteT ?_⟩
      exact ⟨v, rfl, mk_err1 h2⟩
    · refine ⟨_, rfl, ?_⟩
      try unfold tNil
      dsimp only
      exact isH_yes hi ⟨_, rfl, iteF q⟩
abbrev s_Bounds___init__ : Stmt := inClass (topS 11) 0
theorem sc_Bounds___init__ : FnScope ["self", "low", "high"] ["self", "low", "high"] (defScope s_Bounds___init__) := ⟨rfl, rfl, rfl, by decide +kernel, rfl, by decide +kernel, by decide +kernel⟩
theorem ok_init {f C fI CH CB fB fc : Addr} {fd fdB fdc : FuncData} (F : Fun K "__init__" "Bounds.__init__" s_Bounds___init__ f fd) (B : BndT K mg C fI) (GC : FnOk P w K mg base (L2.CX P w) 4 fc fdc ["value"] (spCheckHX K CH)) (mc : mg "check_height" = some (.ref fc)) (kc : PySem.W.keepIn K (.ref fc) = true) (bc : Binds K fdc ["value"] [])
    (EB : ErrT K mg "InvalidBounds" CB fB) (GB : FnOk P w K mg base CX0 2 fB fdB ["self", "low", "high"] (spErr2 CB "low" "high")) (bB : Binds K fdB ["self", "low", "high"] []) : FnOk P w K mg base (L2.CX P w) 5 f fd ["self", "low", "high"] (spInit K C CH CB) := by
  refine F.okX sc_Bounds___init__ (fun vs H Q E h => ?_) (fun cdv A outer s H vs Q E hr h => ?_)
  · obtain ⟨p, dx, v1, v2, rfl, _⟩ := h
    rfl
  · obtain ⟨p, dx, v1, v2, rfl, hp, h⟩ := h
    refine ⟨_, (pss_cons (ps_expr (pe_callS (E := fun _ => E) GC hr (by rfl) mc kc bc (fun σ => passAt (W := fun c d _ G => E c d G) (takes_of rfl rfl rfl rfl) σ) (pa_cons (pv 1) pa_nil)))
    (pss_cons (ps_expr (pe_callS (E := fun _ => E) GC hr (by rfl) mc kc bc (fun σ => passAt (W := fun c d _ G => E c d G) (takes_of rfl rfl rfl rfl) σ) (pa_cons (pv 2) pa_nil)))
    (pss_cons (ps_if (pt_cmpR op_gt (pv 1) (pv 2) (nomark _)) (pss_one (ps_raise rfl (takes_of rfl rfl rfl rfl) (pmk_oex EB.oe EB.iC EB.tI GB (hr.mono (by decide)) bB .nil pass0 (by rfl) EB.g (pa_cons (pv 1) (pa_cons (pv 2) pa_nil))))) pss_nil)
    (pss_cons (ps_fld (pv 0) (pv 1) rfl)
    (pss_one (ps_fld (pv 0) (pv 2) rfl)))))), ?_⟩
    rcases h with ⟨h1, h2⟩ | ⟨l, rfl, hl, h1, h2⟩ | ⟨l, h, rfl, rfl, hl, hh, hlt, h2⟩ | ⟨l, h, rfl, rfl, hl, hh, hle, h2⟩
    · refine ⟨v1, rfl, ?_⟩
      try unfold tNil
      dsimp only
      exact ⟨v1, rfl, .inl ⟨h1, h2⟩⟩
    · refine ⟨_, rfl, ?_⟩
      try unfold tNil
      dsimp only
      refine ⟨_, rfl, .inr ⟨l, rfl, hl, ?_⟩⟩
      refine ⟨v2, rfl, ?_⟩
      try unfold tNil
      dsimp only
      exact ⟨v2, rfl, .inl ⟨h1, h2⟩⟩
    · refine ⟨_, rfl, ?_⟩
      try unfold tNil
      dsimp only
      refine ⟨_, rfl, .inr ⟨l, rfl, hl, ?_⟩⟩
      refine ⟨_, rfl, ?_⟩
      try unfold tNil
      dsimp only
      refine ⟨_, rfl, .inr ⟨h, rfl, hh, ?_⟩⟩
      refine ⟨_, rfl, _, rfl, _, _, rfl, rfl, _, rfl, ite2 (fun e => ?_) (fun e => absurd (decide_eq_true hlt) e)⟩
      exact ⟨_, rfl, _, rfl, mk_err2 h2⟩
    · refine ⟨_, rfl, ?_⟩
      try unfold tNil
      dsimp only
      refine ⟨_, rfl, .inr ⟨l, rfl, hl, ?_⟩⟩
      refine ⟨_, rfl, ?_⟩
      try unfold tNil
      dsimp only
      refine ⟨_, rfl, .inr ⟨h, rfl, hh, ?_⟩⟩
      refine ⟨_, rfl, _, rfl, _, _, rfl, rfl, _, rfl, ite2 (fun e => absurd (of_decide_eq_true e) (by omega)) (fun e => ?_)⟩
      refine ⟨_, rfl, _, rfl, p, C, dx, [], rfl, hp, B.cl, B.nl, by show 0 < 1000; decide, ?_⟩
      refine ⟨_, rfl, _, rfl, p, C, dx, _, rfl, upd_same, B.cl, B.nh, by show 1 < 1000; decide, ?_⟩
      rw [upd_upd]
      exact h2
end
end K02n

namespace K02n
open PySem PySem.Spec PyProof.Rows L2 L9
section
variable {P : Program} {w : World} {K : PySem.W.Frag} {mg : Str → Option Value} {base : Heap}
abbrev s_Bounds_exact : Stmt := inClass (topS 11) 1
theorem sc_Bounds_exact : FnScope ["cls", "height"] ["cls", "height"] (defScope s_Bounds_exact) := ⟨rfl, rfl, rfl, by decide +kernel, rfl, by decide +kernel, by decide +kernel⟩
theorem ok_exact {f C fI CH CB : Addr} {fd fdI : FuncData} (F : Fun K "exact" "Bounds.exact" s_Bounds_exact f fd) (B : BndT K mg C fI) (GI : FnOk P w K mg base (L2.CX P w) 5 fI fdI ["self", "low", "high"] (spInit K C CH CB)) (bI : Binds K fdI ["self", "low", "high"] []) :
    FnOk P w K mg base (L2.CX P w) 7 f fd ["cls", "height"] (spExact K C CH) := by
  refine F.okX sc_Bounds_exact (fun vs H Q E h => ?_) (fun cdv A outer s H vs Q E hr h => ?_)
  · obtain ⟨v, rfl, _⟩ := h
    rfl
  · obtain ⟨v, rfl, h⟩ := h
    refine ⟨_, pss_one (ps_ret (pe_makeL (i := 0) (E := fun _ => E) B.mkk GI hr bI (fun σ => passAt (W := fun c d _ G => E c d G) (takes_of rfl rfl rfl rfl) σ) rfl (Or.inl rfl) (pa_cons (pv 1) (pa_cons (pv 1) pa_nil)))), ?_⟩
    refine ⟨rfl, v, rfl, v, rfl, fun y dy ny nd ne => makes_at ?_ ny nd ne⟩
    rcases h with ⟨h1, h2⟩ | ⟨l, rfl, hl, h2⟩
    · exact .inl ⟨h1, h2⟩
    · exact makes_ok hl hl (Int.le_refl _) fun H' s b => ⟨rfl, h2 y H' s ny b⟩
abbrev s_Bounds_width : Stmt := inClass (topS 11) 3
theorem sc_Bounds_width : FnScope ["self"] ["self"] (defScope s_Bounds_width) := ⟨rfl, rfl, rfl, by decide +kernel, rfl, by decide +kernel, by decide +kernel⟩
theorem ok_width {f C fI : Addr} {fd : FuncData} (F : Fun K "width" "Bounds.width" s_Bounds_width f fd) (B : BndT K mg C fI) : FnOk P w K mg base CX0 1 f fd ["self"] (spWidth C) := by
  refine F.ok sc_Bounds_width (fun vs H Q E h => ?_) (fun cdv A outer s H vs Q E hr h => ?_)
  · obtain ⟨p, l, h, rfl, _⟩ := h
    rfl
  · obtain ⟨p, l, h, rfl, ⟨dx, hp⟩, q⟩ := h
    refine ⟨_, (pss_one (ps_ret (pe_op op_sub (pe_fld (pv 0) rfl) (pe_fld (pv 0) rfl)))), ?_⟩
    exact ⟨.ref p, rfl, p, C, dx, _, _, rfl, hp, B.cl, B.nh, bf_high l h, .ref p, rfl, p, C, dx, _, _, rfl, hp, B.cl, B.nl, bf_low l h, _, _, rfl, rfl, q⟩
abbrev s_Bounds_holds : Stmt := inClass (topS 11) 4
theorem sc_Bounds_holds : FnScope ["self", "other"] ["self", "other"] (defScope s_Bounds_holds) := ⟨rfl, rfl, rfl, by decide +kernel, rfl, by decide +kernel, by decide +kernel⟩
theorem ok_holds {f C fI : Addr} {fd : FuncData} (F : Fun K "holds" "Bounds.holds" s_Bounds_holds f fd) (B : BndT K mg C fI) : FnOk P w K mg base CX0 1 f fd ["self", "other"] (spHolds C) := by
  refine F.ok sc_Bounds_holds (fun vs H Q E h => ?_) (fun cdv A outer s H vs Q E hr h => ?_)
  · obtain ⟨p, q, l, h, l2, h2, rfl, _⟩ := h
    rfl
  · obtain ⟨p, q', l, h, l2, h2, rfl, ⟨dx, hp⟩, ⟨dy, hq⟩, q⟩ := h
    refine ⟨_, (pss_one (ps_ret (pe_and (pe_cmpR op_le (pe_fld (pv 0) rfl) (pe_fld (pv 1) rfl) (nomark _)) (pe_one (pe_cmpR op_le (pe_fld (pv 1) rfl) (pe_fld (pv 0) rfl) (nomark _)))))), ?_⟩
    refine ⟨.ref p, rfl, p, C, dx, _, _, rfl, hp, B.cl, B.nl, bf_low l h, .ref q', rfl, q', C, dy, _, _, rfl, hq, B.cl, B.nl, bf_low l2 h2, _, _, rfl, rfl, _, rfl, ite2 (fun e => ?_) (fun e => ?_)⟩
    · rw [e, Bool.true_and] at q
      exact ⟨.ref q', rfl, q', C, dy, _, _, rfl, hq, B.cl, B.nh, bf_high l2 h2, .ref p, rfl, p, C, dx, _, _, rfl, hp, B.cl, B.nh, bf_high l h, _, _, rfl, rfl, q⟩
    · rw [Bool.eq_false_iff.mpr e, Bool.false_and] at q
      exact q
abbrev s_Bounds___contains__ : Stmt := inClass (topS 11) 5
theorem sc_Bounds___contains__ : FnScope ["self", "value"] ["self", "value"] (defScope s_Bounds___contains__) := ⟨rfl, rfl, rfl, by decide +kernel, rfl, by decide +kernel, by decide +kernel⟩
theorem ok_contains {f C fI : Addr} {fd : FuncData} (F : Fun K "__contains__" "Bounds.__contains__" s_Bounds___contains__ f fd) (B : BndT K mg C fI) (C_is_height : Cal P w K mg base "is_height" 2 ["value"] (spIsHeight K)) :
    FnOk P w K mg base CX0 3 f fd ["self", "value"] (spCont K C) := by
  refine F.ok sc_Bounds___contains__ (fun vs H Q E h => ?_) (fun cdv A outer s H vs Q E hr h => ?_)
  · obtain ⟨p, v, l, h, rfl, _⟩ := h
    rfl
  · obtain ⟨p, v, l, h, rfl, ⟨dx, hp⟩, q⟩ := h
    refine ⟨_, (pss_one (ps_ret (pe_and (pe_cal C_is_height (hr.mono (by decide)) (by rfl) (pa_cons (pv 1) pa_nil)) (pe_one (pe_chain op_le op_le (pe_fld (pv 0) rfl) (pv 1) (pe_fld (pv 0) rfl)))))), ?_⟩
    refine ⟨v, rfl, ?_⟩
    try unfold tNil
    dsimp only
    rcases q with ⟨i, rfl, q⟩ | ⟨hv, q⟩
    · refine ⟨_, rfl, .inl ⟨i, rfl, _, rfl, ite2 (fun e => ?_) (fun e => ?_)⟩⟩
      · rw [e, Bool.true_and] at q
        refine ⟨.ref p, rfl, p, C, dx, _, _, rfl, hp, B.cl, B.nl, bf_low l h, _, rfl, _, _, rfl, rfl, _, rfl, ite2 (fun e2 => ?_) (fun e2 => ?_)⟩
        · rw [e2, Bool.true_and] at q
          exact ⟨.ref p, rfl, p, C, dx, _, _, rfl, hp, B.cl, B.nh, bf_high l h, _, _, rfl, rfl, q⟩
        · rw [Bool.eq_false_iff.mpr e2, Bool.false_and] at q
          exact q
      · rw [Bool.eq_false_iff.mpr e, Bool.false_and] at q
        exact q
    · exact isH_no (.inr hv) ⟨_, rfl, iteF q⟩
abbrev s_Bounds___eq__ : Stmt := inClass (topS 11) 6
theorem sc_Bounds___eq__ : FnScope ["self", "other"] ["self", "other"] (defScope s_Bounds___eq__) := ⟨rfl, rfl, rfl, by decide +kernel, rfl, by decide +kernel, by decide +kernel⟩
theorem ok_eq {f C fI : Addr} {fd : FuncData} (F : Fun K "__eq__" "Bounds.__eq__" s_Bounds___eq__ f fd) (B : BndT K mg C fI) (m_isinstance : mg "isinstance" = none) : FnOk P w K mg base CX0 1 f fd ["self", "other"] (spEq K C) := by
  refine F.ok sc_Bounds___eq__ (fun vs H Q E h => ?_) (fun cdv A outer s H vs Q E hr h => ?_)
  · obtain ⟨p, v, l, h, rfl, _⟩ := h
    rfl
  · obtain ⟨p, v, l, h, rfl, ⟨dx, hp⟩, q⟩ := h
    have gB : GlV mg "Bounds" (.ref C) := ⟨_, B.g, rfl⟩
    refine ⟨_, (pss_one (ps_ret (pe_and (pe_callB call_isi (by rfl) m_isinstance (by decide +kernel) (pa_cons (pv 1) (pa_cons (pe_gl gB) pa_nil))) (pe_and (pe_cmpR op_eq (pe_fld (pv 0) rfl) (pe_fld (pv 1) rfl) (nomark _)) (pe_one (pe_cmpR op_eq (pe_fld (pv 0) rfl) (pe_fld (pv 1) rfl) (nomark _))))))), ?_⟩
    rcases q with ⟨q', l2, h2, rfl, ⟨dy, hq⟩, q⟩ | ⟨t, ht, hk, q⟩
    · refine ⟨_, rfl, _, .ref C, _, _, true, rfl, .own C, BndAt.ty B ⟨dy, hq⟩, B.kb, true, rfl, iteT ?_⟩
      refine ⟨.ref p, rfl, p, C, dx, _, _, rfl, hp, B.cl, B.nl, bf_low l h, .ref q', rfl, q', C, dy, _, _, rfl, hq, B.cl, B.nl, bf_low l2 h2, rfl, _, rfl, ite2 (fun e => ?_) (fun e => ?_)⟩
      · have e1 : l = l2 := V.int.inj (of_decide_eq_true e)
        rw [decide_eq_true e1, Bool.true_and] at q
        refine ⟨.ref p, rfl, p, C, dx, _, _, rfl, hp, B.cl, B.nh, bf_high l h, .ref q', rfl, q', C, dy, _, _, rfl, hq, B.cl, B.nh, bf_high l2 h2, rfl, ?_⟩
        rw [dec_int]
        exact q
      · have e1 : ¬ l = l2 := fun z => e (decide_eq_true (by rw [z]))
        rw [decide_eq_false e1, Bool.false_and] at q
        exact q
    · exact ⟨v, rfl, _, .ref C, _, _, false, rfl, .own C, ht, hk, false, rfl, iteF q⟩
abbrev s_Bounds___and__ : Stmt := inClass (topS 11) 7
theorem sc_Bounds___and__ : FnScope ["self", "other", "low", "high"] ["self", "other"] (defScope s_Bounds___and__) := ⟨rfl, rfl, rfl, by decide +kernel, rfl, by decide +kernel, by decide +kernel⟩
theorem ok_and {f C fI CH CB CC fC : Addr} {fd fdI fdC : FuncData} (F : Fun K "__and__" "Bounds.__and__" s_Bounds___and__ f fd) (B : BndT K mg C fI) (GI : FnOk P w K mg base (L2.CX P w) 5 fI fdI ["self", "low", "high"] (spInit K C CH CB)) (bI : Binds K fdI ["self", "low", "high"] [])
    (EC : ErrT K mg "Contradiction" CC fC) (GC : FnOk P w K mg base CX0 2 fC fdC ["self", "one", "other"] (spErr2 CC "one" "other")) (bC : Binds K fdC ["self", "one", "other"] []) (m_max : mg "max" = none) (m_min : mg "min" = none) :
    FnOk P w K mg base (L2.CX P w) 7 f fd ["self", "other"] (spAnd C CC) := by
  refine F.okX sc_Bounds___and__ (fun vs H Q E h => ?_) (fun cdv A outer s H vs Q E hr h => ?_)
  · obtain ⟨p, q, l, h, l2, h2, rfl, _⟩ := h
    rfl
  · obtain ⟨p, q', l, h, l2, h2, rfl, ⟨dx, hp⟩, ⟨dy, hq⟩, b1, b2, b3, b4, qr, q⟩ := h
    refine ⟨_, (pss_cons (ps_set (i := 2) sc_Bounds___and__.nd rfl (.inl rfl) (pe_callB (call_max2 rfl) (by rfl) m_max (by decide +kernel) (pa_cons (pe_fld (pv 0) rfl) (pa_cons (pe_fld (pv 1) rfl) pa_nil))))
    (pss_cons (ps_set (i := 3) sc_Bounds___and__.nd rfl (.inl rfl) (pe_callB (call_min2 rfl) (by rfl) m_min (by decide +kernel) (pa_cons (pe_fld (pv 0) rfl) (pa_cons (pe_fld (pv 1) rfl) pa_nil))))
    (pss_cons (ps_if (pt_cmpR op_gt (pv 2) (pv 3) (nomark _)) (pss_one (ps_raise rfl (takes_of rfl rfl rfl rfl) (pmk_oex EC.oe EC.iC EC.tI GC (hr.mono (by decide)) bC .nil pass0 (by rfl) EC.g (pa_cons (pv 0) (pa_cons (pv 1) pa_nil))))) pss_nil)
    (pss_one (ps_ret (pe_makeS (E := fun _ => E) B.mkk GI hr bI (fun σ => passAt (W := fun c d _ G => E c d G) (takes_of rfl rfl rfl rfl) σ) (by rfl) B.g (pa_cons (pv 2) (pa_cons (pv 3) pa_nil)))))))), ?_⟩
    refine ⟨.ref p, rfl, p, C, dx, _, _, rfl, hp, B.cl, B.nl, bf_low l h, .ref q', rfl, q', C, dy, _, _, rfl, hq, B.cl, B.nl, bf_low l2 h2, _, _, rfl, ?_⟩
    rw [maxI]
    refine ⟨.ref p, rfl, p, C, dx, _, _, rfl, hp, B.cl, B.nh, bf_high l h, .ref q', rfl, q', C, dy, _, _, rfl, hq, B.cl, B.nh, bf_high l2 h2, _, _, rfl, ?_⟩
    rw [minI]
    refine ⟨_, rfl, _, rfl, _, _, rfl, rfl, _, rfl, ite2 (fun e => ?_) (fun e => ?_)⟩
    · exact ⟨_, rfl, _, rfl, mk_err2 (qr (of_decide_eq_true e))⟩
    · have e1 : max l l2 ≤ min h h2 := Int.not_lt.mp (fun z => e (decide_eq_true z))
      exact ⟨_, rfl, _, rfl, fun y dy ny nd ne => makes_at (makes_ok (height_max b1 b3) (height_min b2 b4) e1 fun H' s b => ⟨rfl, q e1 y H' s ny b⟩) ny nd ne⟩
abbrev s_Bounds___neg__ : Stmt := inClass (topS 11) 8
theorem sc_Bounds___neg__ : FnScope ["self"] ["self"] (defScope s_Bounds___neg__) := ⟨rfl, rfl, rfl, by decide +kernel, rfl, by decide +kernel, by decide +kernel⟩
theorem ok_neg {f C fI CH CB : Addr} {fd fdI : FuncData} (F : Fun K "__neg__" "Bounds.__neg__" s_Bounds___neg__ f fd) (B : BndT K mg C fI) (GI : FnOk P w K mg base (L2.CX P w) 5 fI fdI ["self", "low", "high"] (spInit K C CH CB)) (bI : Binds K fdI ["self", "low", "high"] []) :
    FnOk P w K mg base CX0 7 f fd ["self"] (spNeg C) := by
  refine F.ok sc_Bounds___neg__ (fun vs H Q E h => ?_) (fun cdv A outer s H vs Q E hr h => ?_)
  · obtain ⟨p, l, h, rfl, _⟩ := h
    rfl
  · obtain ⟨p, l, h, rfl, ⟨dx, hp⟩, b1, b2, hle, q⟩ := h
    refine ⟨_, (pss_one (ps_ret (pe_makeS (E := fun _ => E0) B.mkk GI hr bI (passAt_of passL) (by rfl) B.g (pa_cons (pe_un un_neg (pe_fld (pv 0) rfl)) (pa_cons (pe_un un_neg (pe_fld (pv 0) rfl)) pa_nil))))), ?_⟩
    exact ⟨.ref p, rfl, p, C, dx, _, _, rfl, hp, B.cl, B.nh, bf_high l h, _, rfl, .ref p, rfl, p, C, dx, _, _, rfl, hp, B.cl, B.nl, bf_low l h, _, rfl, fun y dy ny nd ne => makes_at (makes_ok (height_neg b2) (height_neg b1) (by omega) fun H' s b => ⟨rfl, q y H' s ny b⟩) ny nd ne⟩
end
end K02n

namespace K02n
open PySem PySem.Spec PyProof.Rows L2 L9
section
variable {P : Program} {w : World} {K : PySem.W.Frag} {mg : Str → Option Value} {base : Heap}
abbrev s__law_drawn : Stmt := topS 16
theorem sc__law_drawn : FnScope ["_law_box_here", "_law_scale"] ["_law_box_here"] (defScope s__law_drawn) := ⟨rfl, rfl, rfl, by decide +kernel, rfl, by decide +kernel, by decide +kernel⟩
def spDrawn : Sp := fun vs H Q _ => ∃ (b : Addr) (n : Nat), vs = [.ref b] ∧ BoxAt H b n ∧ n ≤ 999000 ∧ ∀ r H', heightB r = true → Drw H H' b (n + 2) → Q (.int r) H'
theorem scale_ok {i : Nat} {v : Int} (h : ([1, 1, 10 ^ (Int.toNat 11)] : List Int)[i]? = some v) : 1 ≤ v ∧ v ≤ 100000000000 := by
  have hm := List.mem_of_getElem? h
  simp only [List.mem_cons, List.not_mem_nil, or_false] at hm
  rcases hm with e | e | e
  · rw [e]; decide
  · rw [e]; decide
  · rw [e]; decide
theorem height_of {i : Int} (h1 : -1000000000000 ≤ i) (h2 : i ≤ 1000000000000) : heightB i = true :=
  Bool.and_eq_true_iff.mpr ⟨decide_eq_true (show -MH ≤ i from h1), decide_eq_true (show i ≤ MH from h2)⟩
theorem of_height {i : Int} (h : heightB i = true) : -1000000000000 ≤ i ∧ i ≤ 1000000000000 := by
  obtain ⟨h1, h2⟩ := Bool.and_eq_true_iff.mp h
  exact ⟨of_decide_eq_true h1, of_decide_eq_true h2⟩
theorem ok_drawn {f : Addr} {fd : FuncData} (F : Fun K "_law_drawn" "_law_drawn" s__law_drawn f fd) (C__law_take : Cal P w K mg base "_law_take" 1 ["_law_box_here", "_law_many"] spTake) : FnOk P w K mg base CX0 2 f fd ["_law_box_here"] spDrawn := by
  refine F.ok sc__law_drawn (fun vs H Q E h => ?_) (fun cdv A outer s H vs Q E hr h => ?_)
  · obtain ⟨b, n, rfl, _⟩ := h
    rfl
  · obtain ⟨b, n, rfl, hb, hn, q⟩ := h
    refine ⟨_, (pss_cons (ps_set (i := 1) sc__law_drawn.nd rfl (.inl rfl) (pe_ix ix_list (pe_lst (pa_cons pe_int (pa_cons pe_int (pa_cons (pe_op op_pow pe_int pe_int) pa_nil)))) (pe_cal C__law_take (hr.mono (by decide)) (by rfl) (pa_cons (pv 0) (pa_cons pe_int pa_nil))) (fun _ _ => rfl)))
    (pss_one (ps_ret (pe_op op_mul (pe_op op_sub (pe_cal C__law_take (hr.mono (by decide)) (by rfl) (pa_cons (pv 0) (pa_cons pe_int pa_nil))) pe_int) (pv 1))))), ?_⟩
    refine ⟨10, 11, rfl, rfl, ⟨by decide, by decide, by decide⟩, by show 3 ≤ sizeLine; decide, fun p np => ?_⟩
    have d0 : Drw H (upd H p (.lst (([1, 1, 10 ^ (Int.toNat 11)] : List Int).map V.int))) b n := (Drw.refl hb).new np
    have e0 : (upd H p (.lst (([1, 1, 10 ^ (Int.toNat 11)] : List Int).map V.int))) p = some (.lst (([1, 1, 10 ^ (Int.toNat 11)] : List Int).map V.int)) := upd_same
    have hpb : p ≠ b := (Drw.refl hb).ne np
    refine ⟨.ref b, rfl, b, 3, n, rfl, d0.box, by decide, by decide, by omega, fun r1 x1 l1 u1 h1 => ?_⟩
    have d1 := d0.take h1
    have e1 := (upd_ne (o := .lst x1) hpb).trans e0
    obtain ⟨ix, rfl⟩ := Int.eq_ofNat_of_zero_le l1
    have hix : ix < ([1, 1, 10 ^ (Int.toNat 11)] : List Int).length := by
      show ix < 3
      omega
    obtain ⟨sc, hsc⟩ : ∃ sc, ([1, 1, 10 ^ (Int.toNat 11)] : List Int)[ix]? = some sc := ⟨_, List.getElem?_eq_getElem hix⟩
    refine ⟨p, _, _, .int sc, rfl, rfl, SqL.of e1, atI_nat (by rw [List.getElem?_map, hsc] <;> rfl), ?_⟩
    refine ⟨.ref b, rfl, b, 21, n + 1, rfl, d1.box, by decide, by decide, by omega, fun r2 x2 l2 u2 h2 => ?_⟩
    have d2 := d1.take h2
    have hs := scale_ok hsc
    refine ⟨r2, 10, rfl, rfl, .int sc, rfl, _, sc, rfl, rfl, .inl ⟨by omega, by omega⟩, q _ _ (height_of ?_ ?_) d2⟩
    · have z : (r2 - 10) * sc ≥ (-10) * sc := Int.mul_le_mul_of_nonneg_right (by omega) (by omega)
      have z2 : (-10) * sc ≥ (-10) * 100000000000 := by omega
      show -1000000000000 ≤ (r2 - 10) * sc
      omega
    · have z : (r2 - 10) * sc ≤ 10 * sc := Int.mul_le_mul_of_nonneg_right (by omega) (by omega)
      show (r2 - 10) * sc ≤ 1000000000000
      omega
/-! ### what is refused, what is common -/
structure Exm (K : PySem.W.Frag) (CH CB CC : Addr) : Prop where
  hh : PySem.W.exmOne K (.ref CH) (.ref CH) = some true
  bh : PySem.W.exmOne K (.ref CB) (.ref CH) = some false
  bb : PySem.W.exmOne K (.ref CB) (.ref CB) = some true
  cc : PySem.W.exmOne K (.ref CC) (.ref CC) = some true
  nH : PySem.W.findIn K (.ref CH) "value" = some none
  nL : PySem.W.findIn K (.ref CB) "low" = some none
  nU : PySem.W.findIn K (.ref CB) "high" = some none
  nO : PySem.W.findIn K (.ref CC) "one" = some none
  nT : PySem.W.findIn K (.ref CC) "other" = some none
abbrev s__law_refused : Stmt := topS 17
theorem sc__law_refused : FnScope ["_law_least", "_law_most", "e"] ["_law_least", "_law_most"] (defScope s__law_refused) := ⟨rfl, rfl, rfl, by decide +kernel, rfl, by decide +kernel, by decide +kernel⟩
def spRefused (K : PySem.W.Frag) : Sp := fun vs H Q _ => ∃ v1 v2 : V, vs = [v1, v2] ∧
  ((NoH K H v1 ∧ ∀ t H', Same H H' → H' t = some (.tup [.str "height", v1]) → Q (.ref t) H') ∨
  (∃ l, v1 = .int l ∧ heightB l = true ∧ NoH K H v2 ∧ ∀ t H', Same H H' → H' t = some (.tup [.str "height", v2]) → Q (.ref t) H') ∨
  (∃ l h, v1 = .int l ∧ v2 = .int h ∧ heightB l = true ∧ heightB h = true ∧ h < l ∧ ∀ t H', Same H H' → H' t = some (.tup [.str "bounds", .int l, .int h]) → Q (.ref t) H') ∨
  (∃ l h, v1 = .int l ∧ v2 = .int h ∧ heightB l = true ∧ heightB h = true ∧ l ≤ h ∧ ∀ H', Same H H' → Q (.str "taken") H'))
theorem ok_refused {f C fI CH fH CB fB CC : Addr} {fd fdI : FuncData} (F : Fun K "_law_refused" "_law_refused" s__law_refused f fd) (B : BndT K mg C fI) (GI : FnOk P w K mg base (L2.CX P w) 5 fI fdI ["self", "low", "high"] (spInit K C CH CB)) (bI : Binds K fdI ["self", "low", "high"] [])
    (EH : ErrT K mg "InvalidHeight" CH fH) (EB : ErrT K mg "InvalidBounds" CB fB) (X : Exm K CH CB CC) : FnOk P w K mg base CX0 7 f fd ["_law_least", "_law_most"] (spRefused K) := by
  refine F.ok sc__law_refused (fun vs H Q E h => ?_) (fun cdv A outer s H vs Q E hr h => ?_)
  · obtain ⟨v1, v2, rfl, _⟩ := h
    rfl
  · obtain ⟨v1, v2, rfl, h⟩ := h
    refine ⟨_, (pss_cons (ps_try_all (i := 2) (n := "e") (out := fun _ _ _ _ => False) rfl rfl sc__law_refused.nd rfl rfl takes0
      (fun W pn xe tk _ => pss_one (ps_expr (pe_makeS (E := WE W) B.mkk GI hr bI (fun σ => passAt tk σ) (by rfl) B.g (pa_cons (pv 0) (pa_cons (pv 1) pa_nil)))))
      (.cons ⟨by rfl, by decide, .inl EH.g⟩ (fun a oe cls d pn hz hf => pss_one (ps_ret (pe_tup (pa_cons pe_str (pa_cons (pe_xf EH.xf X.nH hz hf (pv 2)) pa_nil)))))
      (.cons ⟨by rfl, by decide, .inl EB.g⟩ (fun a oe cls d pn hz hf => pss_one (ps_ret (pe_tup (pa_cons pe_str (pa_cons (pe_xf EB.xf X.nL hz hf (pv 2)) (pa_cons (pe_xf EB.xf X.nU hz hf (pv 2)) pa_nil)))))) .nil)))
      (pss_one (ps_ret pe_str))), ?_⟩
    refine ⟨v1, rfl, v2, rfl, fun y dy ny nd ne => makes_at ?_ ny nd ne⟩
    rcases h with ⟨h1, h2⟩ | ⟨l, rfl, hl, h1, h2⟩ | ⟨l, h, rfl, rfl, hl, hh, hlt, h2⟩ | ⟨l, h, rfl, rfl, hl, hh, hle, h2⟩
    · refine .inl ⟨h1, fun d H' s nd' e => ⟨true, X.hh, fun _ a0 na0 => ?_, fun q => Bool.noConfusion q⟩⟩
      refine ⟨_, rfl, rfl, rfl, d, _, v1, rfl, e, rfl, by show 2 ≤ sizeLine; decide, fun t nt => h2 t _ (Same.new s nt) upd_same⟩
    · refine .inr (.inl ⟨l, rfl, hl, h1, fun d H' s nd' e => ⟨true, X.hh, fun _ a0 na0 => ?_, fun q => Bool.noConfusion q⟩⟩)
      refine ⟨_, rfl, rfl, rfl, d, _, v2, rfl, e, rfl, by show 2 ≤ sizeLine; decide, fun t nt => h2 t _ (Same.new s nt) upd_same⟩
    · refine .inr (.inr (.inl ⟨l, h, rfl, rfl, hl, hh, hlt, fun d H' s nd' e => ⟨false, X.bh, fun q => Bool.noConfusion q, fun _ => ⟨true, X.bb, fun _ a0 na0 => ?_, fun q => Bool.noConfusion q⟩⟩⟩))
      refine ⟨_, rfl, rfl, rfl, d, _, .int l, rfl, e, by rfl, _, rfl, rfl, rfl, d, _, .int h, rfl, e, rfl, by show 3 ≤ sizeLine; decide, fun t nt => h2 t _ (Same.new s nt) upd_same⟩
    · exact makes_ok hl hh hle fun H' s b => ⟨rfl, h2 H' s⟩
abbrev s__law_common : Stmt := topS 18
theorem sc__law_common : FnScope ["_law_one", "_law_other", "_law_found", "e"] ["_law_one", "_law_other"] (defScope s__law_common) := ⟨rfl, rfl, rfl, by decide +kernel, rfl, by decide +kernel, by decide +kernel⟩
def spCommon (C : Addr) : Sp := fun vs H Q _ => ∃ (p q : Addr) (l h l2 h2 : Int), vs = [.ref p, .ref q] ∧ BndAt C H p l h ∧ BndAt C H q l2 h2 ∧ heightB l = true ∧ heightB h = true ∧ heightB l2 = true ∧ heightB h2 = true ∧
  (min h h2 < max l l2 → ∀ t H', Same H H' → H' t = some (.tup [.str "none", .int l, .int h, .int l2, .int h2]) → Q (.ref t) H') ∧
  (max l l2 ≤ min h h2 → ∀ t H', Same H H' → H' t = some (.tup [.int (max l l2), .int (min h h2)]) → Q (.ref t) H')
theorem ok_common {f C fI CH CB CC fC fA : Addr} {fd fdA : FuncData} (F : Fun K "_law_common" "_law_common" s__law_common f fd) (B : BndT K mg C fI) (hA : PySem.W.findIn K (.ref C) "__and__" = some (some (.ref fA))) (fnA : PySem.W.isFn K (.ref fA) = true)
    (GA : FnOk P w K mg base (L2.CX P w) 7 fA fdA ["self", "other"] (spAnd C CC)) (bA : Binds K fdA ["self", "other"] []) (EC : ErrT K mg "Contradiction" CC fC) (X : Exm K CH CB CC) : FnOk P w K mg base CX0 8 f fd ["_law_one", "_law_other"] (spCommon C) := by
  refine F.ok sc__law_common (fun vs H Q E h => ?_) (fun cdv A outer s H vs Q E hr h => ?_)
  · obtain ⟨p, q, l, h, l2, h2, rfl, _⟩ := h
    rfl
  · obtain ⟨p, q', l, h, l2, h2, rfl, B1, B2, b1, b2, b3, b4, qr, q⟩ := h
    refine ⟨_, (pss_cons (ps_try_all (i := 3) (n := "e") (out := fun _ _ _ _ => False) rfl rfl sc__law_common.nd rfl rfl takes0
      (fun W pn xe tk _ => pss_one (ps_set (i := 2) sc__law_common.nd rfl (.inl rfl) (pe_ownS (op := .BitAnd) (E := WE W) B.sf hA fnA GA hr bA (fun σ => passAt tk σ) (pv 0) (pv 1))))
      (.cons ⟨by rfl, by decide, .inl EC.g⟩ (fun a oe cls d pn hz hf => pss_one (ps_ret (pe_tup (pa_cons pe_str (pa_cons (pe_fldS (pe_xf EC.xf X.nO hz hf (pv 3))) (pa_cons (pe_fldS (pe_xf EC.xf X.nO hz hf (pv 3))) (pa_cons (pe_fldS (pe_xf EC.xf X.nT hz hf (pv 3))) (pa_cons (pe_fldS (pe_xf EC.xf X.nT hz hf (pv 3))) pa_nil)))))))) .nil))
      (pss_one (ps_ret (pe_tup (pa_cons (pe_fld (pv 2) rfl) (pa_cons (pe_fld (pv 2) rfl) pa_nil)))))), ?_⟩
    obtain ⟨dx, hp⟩ := id B1
    obtain ⟨dy, hq⟩ := id B2
    refine ⟨.ref p, rfl, .ref q', rfl, p, dx, _, q', dy, _, rfl, rfl, hp, hq, p, q', l, h, l2, h2, rfl, B1, B2, b1, b2, b3, b4, fun e d H' s nd' ed => ?_, fun e y H' s ny By => ?_⟩
    · refine ⟨true, X.cc, fun _ a0 na0 => ?_, fun z => Bool.noConfusion z⟩
      have hp' := s _ _ hp
      have hq' := s _ _ hq
      refine ⟨_, rfl, rfl, rfl, d, _, .ref p, rfl, ed, by rfl, p, C, dx, _, _, rfl, hp', B.cl, B.nl, bf_low l h, ?_⟩
      refine ⟨_, rfl, rfl, rfl, d, _, .ref p, rfl, ed, by rfl, p, C, dx, _, _, rfl, hp', B.cl, B.nh, bf_high l h, ?_⟩
      refine ⟨_, rfl, rfl, rfl, d, _, .ref q', rfl, ed, by rfl, q', C, dy, _, _, rfl, hq', B.cl, B.nl, bf_low l2 h2, ?_⟩
      refine ⟨_, rfl, rfl, rfl, d, _, .ref q', rfl, ed, by rfl, q', C, dy, _, _, rfl, hq', B.cl, B.nh, bf_high l2 h2, ?_⟩
      exact ⟨by show 5 ≤ sizeLine; decide, fun t nt => qr e t _ (Same.new s nt) upd_same⟩
    · obtain ⟨dz, hy⟩ := By
      exact ⟨_, rfl, y, C, dz, _, _, rfl, hy, B.cl, B.nl, bf_low _ _, _, rfl, y, C, dz, _, _, rfl, hy, B.cl, B.nh, bf_high _ _, by show 2 ≤ sizeLine; decide, fun t nt => q e t _ (Same.new s nt) upd_same⟩
end
end K02n

namespace K02n
open PySem PySem.Spec PyProof.Rows L2 L9
/-- where Bounds and its defs stand -/
structure Adr where
  (C fI CH fH CB fB CC fC pW fW pE fE fHo fQ fCo fN fA : Addr)
  mC : Value
  (dI dW dE dHo dQ dCo dN dA : FuncData)
def gK (us ws : List Value) : List Value := us ++ [ws.getD 1 .none, ws.getD 0 .none]
def gVK (vs zs : List V) : List V := vs ++ [zs.getD 1 .non, zs.getD 0 .non]
structure Meths (P : Program) (w : World) (K : PySem.W.Frag) (mg : Str → Option Value) (base : Heap) (A : Adr) : Prop where
  B : BndT K mg A.C A.fI
  EH : ErrT K mg "InvalidHeight" A.CH A.fH
  EB : ErrT K mg "InvalidBounds" A.CB A.fB
  EC : ErrT K mg "Contradiction" A.CC A.fC
  X : Exm K A.CH A.CB A.CC
  GI : FnOk P w K mg base (L2.CX P w) 5 A.fI A.dI ["self", "low", "high"] (spInit K A.C A.CH A.CB)
  bI : Binds K A.dI ["self", "low", "high"] []
  KI : KBn K A.dI ["self", "low", "high"] 1 ["high", "low"] gK gVK
  rd : ClX.CRead K A.C A.mC
  cm : ClX.CMet K A.C A.mC "exact" A.pE A.fE
  GE : FnOk P w K mg base (L2.CX P w) 7 A.fE A.dE ["cls", "height"] (spExact K A.C A.CH)
  bE : Binds K A.dE ["cls", "height"] []
  KE : KBn K A.dE ["cls", "height"] 1 ["height"] (fun us ws => us ++ ws) (fun vs zs => vs ++ zs)
  pw : PropOf K A.C "width" A.pW A.fW
  GW : FnOk P w K mg base CX0 1 A.fW A.dW ["self"] (spWidth A.C)
  bW : Binds K A.dW ["self"] []
  mh : Meth K A.C "holds" A.fHo
  GHo : FnOk P w K mg base CX0 1 A.fHo A.dHo ["self", "other"] (spHolds A.C)
  bHo : Binds K A.dHo ["self", "other"] []
  fe : PySem.W.findIn K (.ref A.C) (cmpInfo .Eq).2.1 = some (some (.ref A.fQ))
  ne : PySem.W.isFn K (.ref A.fQ) = true
  GQ : FnOk P w K mg base CX0 1 A.fQ A.dQ ["self", "other"] (spEq K A.C)
  bQ : Binds K A.dQ ["self", "other"] []
  fc : PySem.W.findIn K (.ref A.C) "__contains__" = some (some (.ref A.fCo))
  nc : PySem.W.isFn K (.ref A.fCo) = true
  GC : FnOk P w K mg base CX0 3 A.fCo A.dCo ["self", "value"] (spCont K A.C)
  bC : Binds K A.dCo ["self", "value"] []
  fn : PySem.W.findIn K (.ref A.C) "__neg__" = some (some (.ref A.fN))
  nn : PySem.W.isFn K (.ref A.fN) = true
  GN : FnOk P w K mg base CX0 7 A.fN A.dN ["self"] (spNeg A.C)
  bN : Binds K A.dN ["self"] []
  fa : PySem.W.findIn K (.ref A.C) "__and__" = some (some (.ref A.fA))
  na : PySem.W.isFn K (.ref A.fA) = true
  GA : FnOk P w K mg base (L2.CX P w) 7 A.fA A.dA ["self", "other"] (spAnd A.C A.CC)
  bA : Binds K A.dA ["self", "other"] []
  nfC : PySem.W.notFirst K A.C (.ref A.C) = true
  nfT : PySem.W.notFirst K A.C (.type "tuple") = true
  nfI : PySem.W.notFirst K A.C (.type "int") = true
  nfL : PySem.W.notFirst K A.C (.type "list") = true
  kT : PySem.W.kitOne K (.type "tuple") (.ref A.C) = some false
  kI : PySem.W.kitOne K (.type "int") (.ref A.C) = some false
  kL : PySem.W.kitOne K (.type "list") (.ref A.C) = some false
section
variable {P : Program} {w : World} {K : PySem.W.Frag} {mg : Str → Option Value} {base : Heap}
abbrev s__law_doors : Stmt := topS 19
abbrev N__law_doors : List Str := ["_law_box_here", "_law_a", "_law_b", "_law_wrong", "e"]
theorem sc__law_doors : FnScope N__law_doors ["_law_box_here", "_law_a", "_law_b"] (defScope s__law_doors) := ⟨rfl, rfl, rfl, by decide +kernel, rfl, by decide +kernel, by decide +kernel⟩
def spDoors : Sp := fun vs H Q _ => ∃ (b : Addr) (n : Nat) (i j : Int), vs = [.ref b, .int i, .int j] ∧ BoxAt H b n ∧ n ≤ 999000 ∧ heightB i = true ∧ heightB j = true ∧ ∀ H', Drw H H' b (n + 2) → Q (.bl true) H'
abbrev wrongs (p : Addr) : List V := [.non, .bl true, .str "3", .int (10 ^ (Int.toNat 12) + 1), .int (-(10 ^ (Int.toNat 12)) - 1), .ref p, .bl false]
theorem wrong_no {p : Addr} {v : V} (h : v ∈ wrongs p) {H : Hp} (e : H p = some (.lst [.int 1])) : NoH K H v := by
  unfold wrongs at h
  simp only [List.mem_cons, List.not_mem_nil, or_false] at h
  rcases h with z | z | z | z | z | z | z
  · rw [z]; exact .inr (.inr (off_non k_NoneType_int))
  · exact .inr (.inl ⟨_, z⟩)
  · rw [z]; exact .inr (.inr (off_str k_str_int))
  · exact .inl ⟨_, z, by decide +kernel⟩
  · exact .inl ⟨_, z, by decide +kernel⟩
  · rw [z]; exact .inr (.inr (off_lst e k_list_int))
  · exact .inr (.inl ⟨_, z⟩)
theorem wrong_dat {p : Addr} {v : V} (h : v ∈ wrongs p) {H : Hp} (e : H p = some (.lst [.int 1])) : ∃ d, Dat K H 2 v d := by
  unfold wrongs at h
  simp only [List.mem_cons, List.not_mem_nil, or_false] at h
  rcases h with z | z | z | z | z | z | z
  · rw [z]; exact ⟨_, dat_non⟩
  · rw [z]; exact ⟨_, dat_bl⟩
  · rw [z]; exact ⟨_, dat_str (by decide +kernel)⟩
  · rw [z]; exact ⟨_, dat_int⟩
  · rw [z]; exact ⟨_, dat_int⟩
  · rw [z]; exact ⟨_, dat_lst (SqL.of e) (datAll_cons dat_int datAll_nil)⟩
  · rw [z]; exact ⟨_, dat_bl⟩
theorem ok_doors {f : Addr} {fd : FuncData} {Z : Adr} (F : Fun K "_law_doors" "_law_doors" s__law_doors f fd) (M : Meths P w K mg base Z) (C__law_take : Cal P w K mg base "_law_take" 1 ["_law_box_here", "_law_many"] spTake)
    (C__law_refused : Cal P w K mg base "_law_refused" 7 ["_law_least", "_law_most"] (spRefused K)) : FnOk P w K mg base CX0 8 f fd ["_law_box_here", "_law_a", "_law_b"] spDoors := by
  refine F.ok sc__law_doors (fun vs H Q E h => ?_) (fun cdv A outer s H vs Q E hr h => ?_)
  · obtain ⟨b, n, i, j, rfl, _⟩ := h
    rfl
  · obtain ⟨b, n, i, j, rfl, hb, hn, hi, hj, q⟩ := h
    have gB : GlV mg "Bounds" (.ref Z.C) := ⟨_, M.B.g, rfl⟩
    refine ⟨_, (pss_cons (ps_set (i := 3) sc__law_doors.nd rfl (.inl rfl) (pe_ix ix_list (pe_lst (pa_cons pe_non (pa_cons pe_bl (pa_cons pe_str (pa_cons (pe_op op_add (pe_op op_pow pe_int pe_int) pe_int) (pa_cons (pe_op op_sub (pe_un un_neg (pe_op op_pow pe_int pe_int)) pe_int) (pa_cons (pe_lst (pa_cons pe_int pa_nil)) (pa_cons pe_bl pa_nil)))))))) (pe_cal C__law_take (hr.mono (by decide)) (by rfl) (pa_cons (pv 0) (pa_cons pe_int pa_nil))) (fun _ _ => rfl)))
    (pss_cons (ps_if (pt_cmpR (op_neD (hu64 hr)) (pe_cal C__law_refused (hr.mono (by decide)) (by rfl) (pa_cons (pv 3) (pa_cons (pe_ix ix_list (pe_lst (pa_cons (pv 2) (pa_cons (pv 3) (pa_cons pe_str pa_nil)))) (pe_cal C__law_take (hr.mono (by decide)) (by rfl) (pa_cons (pv 0) (pa_cons pe_int pa_nil))) (fun _ _ => rfl)) pa_nil))) (pe_tup (pa_cons pe_str (pa_cons (pv 3) pa_nil))) (nomark _)) (pss_one (ps_ret pe_bl)) pss_nil)
    (pss_cons (ps_if (pt_cmpR (op_neD (hu64 hr)) (pe_cal C__law_refused (hr.mono (by decide)) (by rfl) (pa_cons (pv 1) (pa_cons (pv 3) pa_nil))) (pe_tup (pa_cons pe_str (pa_cons (pv 3) pa_nil))) (nomark _)) (pss_one (ps_ret pe_bl)) pss_nil)
    (pss_cons (ps_try_all (i := 4) (n := "e") (out := fun _ _ _ _ => False) rfl rfl sc__law_doors.nd rfl rfl takes0
      (fun W pn xe tk _ => pss_cons (ps_expr (pe_cmS (E := WE W) (pe_gl gB) M.rd M.cm M.GE M.bE hr (fun σ => passAt tk σ) (pa_cons (pv 3) pa_nil))) (pss_one (ps_ret pe_bl)))
      (.cons ⟨by rfl, by decide, .inl M.EH.g⟩ (fun a oe cls d pn hz hf => pss_one (ps_if (pt_not (pt_cmpR (op_eqDS (hu64 hr)) (pe_xf M.EH.xf M.X.nH hz hf (pv 4)) (pv 3) (nomark _))) (pss_one (ps_ret pe_bl)) pss_nil)) .nil))
    (pss_one (ps_ret (pe_or (pe_cmpR op_le (pv 1) (pv 2) (nomark _)) (pe_one (pe_cmpR (op_eqD (hu64 hr)) (pe_cal C__law_refused (hr.mono (by decide)) (by rfl) (pa_cons (pv 1) (pa_cons (pv 2) pa_nil))) (pe_tup (pa_cons pe_str (pa_cons (pv 1) (pa_cons (pv 2) pa_nil)))) (nomark _)))))))))), ?_⟩
    -- wrong
    refine ⟨10, 12, rfl, rfl, ⟨by decide, by decide, by decide⟩, _, 1, rfl, rfl, 10, 12, rfl, rfl, ⟨by decide, by decide, by decide⟩, _, rfl, _, 1, rfl, rfl, by show 1 ≤ sizeLine; decide, fun p1 n1 => ?_⟩
    have d1 : Drw H (upd H p1 (.lst [.int 1])) b n := (Drw.refl hb).new n1
    have e1 : (upd H p1 (.lst [.int 1])) p1 = some (.lst [.int 1]) := upd_same
    have h1b : p1 ≠ b := (Drw.refl hb).ne n1
    generalize upd H p1 (HO.lst [.int 1]) = H1 at d1 e1 ⊢
    refine ⟨by show 7 ≤ sizeLine; decide, fun p2 n2 => ?_⟩
    have d2 : Drw H (upd H1 p2 (.lst (wrongs p1))) b n := d1.new n2
    have e2 : (upd H1 p2 (.lst (wrongs p1))) p2 = some (.lst (wrongs p1)) := upd_same
    have e1 := same_upd (o := .lst (wrongs p1)) n2 _ _ e1
    have h2b : p2 ≠ b := d1.ne n2

    refine ⟨.ref b, rfl, b, 7, n, rfl, d2.box, by decide, by decide, by omega, fun r1 x1 l1 u1 hx1 => ?_⟩
    have d3 := d2.take hx1
    have e2 := (upd_ne (o := .lst x1) h2b).trans e2
    have e1 := (upd_ne (o := .lst x1) h1b).trans e1
    generalize upd (upd H1 p2 (.lst (wrongs p1))) b (HO.lst x1) = H3 at d3 e1 e2 ⊢
    obtain ⟨ix, rfl⟩ := Int.eq_ofNat_of_zero_le l1
    have hix : ix < (wrongs p1).length := by
      show ix < 7
      omega
    obtain ⟨wr, hwr⟩ : ∃ wr, (wrongs p1)[ix]? = some wr := ⟨_, List.getElem?_eq_getElem hix⟩
    have hmem := List.mem_of_getElem? hwr
    refine ⟨p2, _, _, wr, rfl, rfl, SqL.of e2, atI_nat hwr, ?_⟩
    -- refused(wrong, ..)
    refine ⟨wr, rfl, _, rfl, wr, rfl, by show 3 ≤ sizeLine; decide, fun p3 n3 => ?_⟩
    have d4 : Drw H (upd H3 p3 (.lst [.int j, wr, .str "x"])) b (n + 1) := d3.new n3
    have e3 : (upd H3 p3 (.lst [.int j, wr, .str "x"])) p3 = some (.lst [.int j, wr, .str "x"]) := upd_same
    have e1 := same_upd (o := .lst [.int j, wr, .str "x"]) n3 _ _ e1
    have h3b : p3 ≠ b := d3.ne n3
    generalize upd H3 p3 (HO.lst [.int j, wr, .str "x"]) = H4 at d4 e1 e3 ⊢
    refine ⟨.ref b, rfl, b, 3, n + 1, rfl, d4.box, by decide, by decide, by omega, fun r2 x2 l2 u2 hx2 => ?_⟩
    have d5 := d4.take hx2
    have e3 := (upd_ne (o := .lst x2) h3b).trans e3
    have e1 := (upd_ne (o := .lst x2) h1b).trans e1
    generalize upd H4 b (HO.lst x2) = H5 at d5 e1 e3 ⊢
    obtain ⟨iy, rfl⟩ := Int.eq_ofNat_of_zero_le l2
    have hiy : iy < ([.int j, wr, .str "x"] : List V).length := by
      show iy < 3
      omega
    refine ⟨p3, _, _, _, rfl, rfl, SqL.of e3, atI_nat (List.getElem?_eq_getElem hiy), ?_⟩
    refine ⟨wr, _, rfl, .inl ⟨wrong_no hmem e1, fun t H6 s6 et => ?_⟩⟩
    refine ⟨wr, rfl, by show 2 ≤ sizeLine; decide, fun t2 nt2 => ?_⟩
    have s7 : Same H5 (upd H6 t2 (.tup [.str "height", wr])) := Same.new s6 nt2
    have et2 : (upd H6 t2 (.tup [.str "height", wr])) t2 = some (.tup [.str "height", wr]) := upd_same
    have et := same_upd (o := .tup [.str "height", wr]) nt2 _ _ et
    generalize upd H6 t2 (HO.tup [.str "height", wr]) = H7 at s7 et et2 ⊢
    have e1 := s7 _ _ e1
    obtain ⟨dw, hdw⟩ := wrong_dat (K := K) hmem e1
    have hh : ∀ {t}, H7 t = some (.tup [.str "height", wr]) → Dat K H7 3 (.ref t) (.tuple [.str "height", dw]) := fun et => dat_tup (SqT.of et) (datAll_cons (dat_str (by decide +kernel)) (datAll_cons hdw datAll_nil))
    refine ne_same (hh et) (hh et2) (by decide) ⟨_, rfl, iteF ?_⟩
    have d7 := d5.go s7
    clear et et2 hh hdw
    -- refused(a, wrong)
    refine ⟨_, rfl, wr, rfl, _, wr, rfl, .inr (.inl ⟨i, rfl, hi, wrong_no hmem e1, fun t H8 s8 et => ?_⟩)⟩
    refine ⟨wr, rfl, by show 2 ≤ sizeLine; decide, fun t2 nt2 => ?_⟩
    have s9 : Same H7 (upd H8 t2 (.tup [.str "height", wr])) := Same.new s8 nt2
    have et2 : (upd H8 t2 (.tup [.str "height", wr])) t2 = some (.tup [.str "height", wr]) := upd_same
    have et := same_upd (o := .tup [.str "height", wr]) nt2 _ _ et
    generalize upd H8 t2 (HO.tup [.str "height", wr]) = H9 at s9 et et2 ⊢
    have e1 := s9 _ _ e1
    obtain ⟨dw, hdw⟩ := wrong_dat (K := K) hmem e1
    have hh : ∀ {t}, H9 t = some (.tup [.str "height", wr]) → Dat K H9 3 (.ref t) (.tuple [.str "height", dw]) := fun et => dat_tup (SqT.of et) (datAll_cons (dat_str (by decide +kernel)) (datAll_cons hdw datAll_nil))
    refine ne_same (hh et) (hh et2) (by decide) ⟨_, rfl, iteF ?_⟩
    have d9 := d7.go s9
    clear et et2 hh hdw
    -- Bounds.exact(wrong)
    refine ⟨rfl, wr, rfl, wr, rfl, .inl ⟨wrong_no hmem e1, fun d H10 s10 nd ed => ?_⟩⟩
    refine ⟨true, M.X.hh, fun _ a0 na0 => ?_, fun z => Bool.noConfusion z⟩
    have e1 := s10 _ _ e1
    obtain ⟨dw, hdw⟩ := wrong_dat (K := K) hmem e1
    refine ⟨_, rfl, rfl, rfl, d, _, wr, rfl, ed, rfl, wr, rfl, ?_⟩
    refine eq_same hdw hdw (by decide) ⟨_, rfl, iteF ?_⟩
    have d10 := d9.go s10
    -- the end
    refine ⟨_, rfl, _, rfl, i, j, rfl, rfl, _, rfl, ite2 (fun e => q _ d10) (fun e => ?_)⟩
    have hlt : j < i := Int.not_le.mp (fun z => e (decide_eq_true z))
    refine ⟨_, rfl, _, rfl, _, _, rfl, .inr (.inr (.inl ⟨i, j, rfl, rfl, hi, hj, hlt, fun t H11 s11 et => ?_⟩))⟩
    refine ⟨_, rfl, _, rfl, by show 3 ≤ sizeLine; decide, fun t2 nt2 => ?_⟩
    have s12 : Same H10 (upd H11 t2 (.tup [.str "bounds", .int i, .int j])) := Same.new s11 nt2
    have et2 : (upd H11 t2 (.tup [.str "bounds", .int i, .int j])) t2 = some (.tup [.str "bounds", .int i, .int j]) := upd_same
    have et := same_upd (o := .tup [.str "bounds", .int i, .int j]) nt2 _ _ et
    have hh : ∀ {t}, (upd H11 t2 (.tup [.str "bounds", .int i, .int j])) t = some (.tup [.str "bounds", .int i, .int j]) → Dat K (upd H11 t2 (.tup [.str "bounds", .int i, .int j])) 3 (.ref t) (.tuple [.str "bounds", .int i, .int j]) :=
      fun et => dat_tup (SqT.of et) (datAll_cons (dat_str (by decide +kernel)) (datAll_cons dat_int (datAll_cons dat_int datAll_nil)))
    exact eq_same (hh et) (hh et2) (by decide) (q _ (d10.go s12))
end
end K02n

namespace K02n
open PySem PySem.Spec PyProof.Rows L2 L9
section
variable {P : Program} {w : World} {K : PySem.W.Frag} {mg : Str → Option Value} {base : Heap}
abbrev s__law_right : Stmt := topS 20
abbrev N__law_right : List Str := ["_law_a", "_law_b", "_law_c", "_law_d", "_law_one", "_law_two", "_law_due", "_law_number", "_law_turned"]
theorem sc__law_right : FnScope N__law_right ["_law_a", "_law_b", "_law_c", "_law_d"] (defScope s__law_right) := ⟨rfl, rfl, rfl, by decide +kernel, rfl, by decide +kernel, by decide +kernel⟩
def spRight : Sp := fun vs H Q _ => ∃ i j k l : Int, vs = [.int i, .int j, .int k, .int l] ∧ heightB i = true ∧ heightB j = true ∧ heightB k = true ∧ heightB l = true ∧ i ≤ j ∧ k ≤ l ∧ ∀ H', Same H H' → Q (.bl true) H'
theorem ok_right {f : Addr} {fd : FuncData} {Z : Adr} (F : Fun K "_law_right" "_law_right" s__law_right f fd) (M : Meths P w K mg base Z) (C__law_common : Cal P w K mg base "_law_common" 8 ["_law_one", "_law_other"] (spCommon Z.C))
    (m_max : mg "max" = none) (m_min : mg "min" = none) (m_repr : mg "repr" = none) : FnOk P w K mg base CX0 9 f fd ["_law_a", "_law_b", "_law_c", "_law_d"] spRight := by
  refine F.ok sc__law_right (fun vs H Q E h => ?_) (fun cdv A outer s H vs Q E hr h => ?_)
  · obtain ⟨i, j, k, l, rfl, _⟩ := h
    rfl
  · obtain ⟨i, j, k, l, rfl, hi, hj, hk, hl, hij, hkl, q⟩ := h
    have gB : GlV mg "Bounds" (.ref Z.C) := ⟨_, M.B.g, rfl⟩
    refine ⟨_, (pss_cons (ps_par (i := 4) (j := 5) (by rfl) sc__law_right.nd rfl rfl (by decide) rfl rfl (pa_cons (pe_makeS (E := fun _ => E0) M.B.mkk M.GI (hr.mono (by decide)) M.bI (passAt_of passL) (by rfl) M.B.g (pa_cons (pv 0) (pa_cons (pv 1) pa_nil))) (pa_cons (pe_makeK0 (E := E0) M.B.mkk M.GI (hr.mono (by decide)) (by rfl) M.B.g M.KI passL (pk_cons (pv 3) (pk_cons (pv 2) pk_nil))) pa_nil)) (by rfl))
    (pss_cons (ps_if (pt_cmpR (op_neD (hu64 hr)) (pe_lst (pa_cons (pe_fld (pv 4) rfl) (pa_cons (pe_fld (pv 4) rfl) (pa_cons (pe_prop (E := E0) (pv 4) M.B.cl M.pw M.GW (hr.mono (by decide)) M.bW .nil pass0 rfl) pa_nil)))) (pe_lst (pa_cons (pv 0) (pa_cons (pv 1) (pa_cons (pe_op op_sub (pv 1) (pv 0)) pa_nil)))) (nomark _)) (pss_one (ps_ret pe_bl)) pss_nil)
    (pss_cons (ps_if (pt_cmpR (op_neD (hu64 hr)) (pe_lst (pa_cons (pe_fld (pv 5) rfl) (pa_cons (pe_fld (pv 5) rfl) (pa_cons (pe_prop (E := E0) (pv 5) M.B.cl M.pw M.GW (hr.mono (by decide)) M.bW .nil pass0 rfl) pa_nil)))) (pe_lst (pa_cons (pv 2) (pa_cons (pv 3) (pa_cons (pe_op op_sub (pv 3) (pv 2)) pa_nil)))) (nomark _)) (pss_one (ps_ret pe_bl)) pss_nil)
    (pss_cons (ps_set (i := 6) sc__law_right.nd rfl (.inl rfl) (pe_tup (pa_cons (pe_callB (call_max2 rfl) (by rfl) m_max (by decide +kernel) (pa_cons (pv 0) (pa_cons (pv 2) pa_nil))) (pa_cons (pe_callB (call_min2 rfl) (by rfl) m_min (by decide +kernel) (pa_cons (pv 1) (pa_cons (pv 3) pa_nil))) pa_nil))))
    (pss_cons (ps_if (pt_cmpR op_gt (pe_ix ix_tup (pv 6) pe_int (fun _ _ => rfl)) (pe_ix ix_tup (pv 6) pe_int (fun _ _ => rfl)) (nomark _)) (pss_one (ps_set (i := 6) sc__law_right.nd rfl (.inl rfl) (pe_tup (pa_cons pe_str (pa_cons (pv 0) (pa_cons (pv 1) (pa_cons (pv 2) (pa_cons (pv 3) pa_nil)))))))) pss_nil)
    (pss_cons (ps_if (pt_cmpR (op_neD (hu64 hr)) (pe_cal C__law_common (hr.mono (by decide)) (by rfl) (pa_cons (pv 4) (pa_cons (pv 5) pa_nil))) (pv 6) (nomark _)) (pss_one (ps_ret pe_bl)) pss_nil)
    (pss_cons (ps_if (pt_cmpR op_ne (pe_callB call_repr_bl (by rfl) m_repr (by decide +kernel) (pa_cons (pe_meth (E := E0) (pv 4) M.B.cl M.mh M.GHo (hr.mono (by decide)) M.bHo .nil pass0 (pa_cons (pv 5) pa_nil)) pa_nil)) (pe_callB call_repr_bl (by rfl) m_repr (by decide +kernel) (pa_cons (pe_and (pe_cmpR op_le (pv 0) (pv 2) (nomark _)) (pe_one (pe_cmpR op_le (pv 3) (pv 1) (nomark _)))) pa_nil)) (nomark _)) (pss_one (ps_ret pe_bl)) pss_nil)
    (pss_cons (ps_if (pt_cmpR op_ne (pe_callB call_repr_bl (by rfl) m_repr (by decide +kernel) (pa_cons (pe_cmpR (op_eqO (E := E0) M.fe M.ne M.GQ (hr.mono (by decide)) M.bQ pass0) (pv 4) (pv 5) (nomark _)) pa_nil)) (pe_callB call_repr_bl (by rfl) m_repr (by decide +kernel) (pa_cons (pe_cmpR (op_eqD (hu64 hr)) (pe_tup (pa_cons (pv 0) (pa_cons (pv 1) pa_nil))) (pe_tup (pa_cons (pv 2) (pa_cons (pv 3) pa_nil))) (nomark _)) pa_nil)) (nomark _)) (pss_one (ps_ret pe_bl)) pss_nil)
    (pss_cons (ps_if (PW.pt (pw_or (pt_not (pt_cmpR (op_eqO (E := E0) M.fe M.ne M.GQ (hr.mono (by decide)) M.bQ pass0) (pv 4) (pe_makeS (E := fun _ => E0) M.B.mkk M.GI (hr.mono (by decide)) M.bI (passAt_of passL) (by rfl) M.B.g (pa_cons (pv 0) (pa_cons (pv 1) pa_nil))) (nomark _))) (pw_or (pt_cmpR (op_eqO (E := E0) M.fe M.ne M.GQ (hr.mono (by decide)) M.bQ pass0) (pv 4) (pe_tup (pa_cons (pv 0) (pa_cons (pv 1) pa_nil))) (nomark _)) (pw_or (pt_cmpR (op_eqO (E := E0) M.fe M.ne M.GQ (hr.mono (by decide)) M.bQ pass0) (pv 4) (pv 0) (nomark _)) (pw_or1 (pt_cmpR (op_eqO (E := E0) M.fe M.ne M.GQ (hr.mono (by decide)) M.bQ pass0) (pv 4) (pe_lst (pa_cons (pv 0) (pa_cons (pv 1) pa_nil))) (nomark _))))))) (pss_one (ps_ret pe_bl)) pss_nil)
    (pss_cons (ps_for PassesOwn.never rfl (pi_list (pe_lst (pa_cons (pv 0) (pa_cons (pv 1) (pa_cons (pv 2) (pa_cons (pv 3) (pa_cons (pe_op op_sub (pv 0) pe_int) (pa_cons (pe_op op_add (pv 1) pe_int) (pa_cons (pe_op op_fdivW (pe_op op_add (pv 0) (pv 1)) pe_int) pa_nil))))))))) (pg_name (i := 7) sc__law_right.nd rfl (.inl rfl))
    (pss_one (ps_if (pt_cmpR op_ne (pe_callB call_repr_bl (by rfl) m_repr (by decide +kernel) (pa_cons (pe_cmpR (op_inO (E := E0) M.fc M.nc M.GC (hr.mono (by decide)) M.bC pass0) (pv 7) (pv 4) (by rfl)) pa_nil)) (pe_callB call_repr_bl (by rfl) m_repr (by decide +kernel) (pa_cons (pe_and (pe_cmpR op_le (pv 0) (pv 7) (nomark _)) (pe_one (pe_cmpR op_le (pv 7) (pv 1) (nomark _)))) pa_nil)) (nomark _)) (pss_one (ps_ret pe_bl)) pss_nil)))
    (pss_cons (ps_if (PW.pt (pw_or (pt_cmpR (op_inO (E := E0) M.fc M.nc M.GC (hr.mono (by decide)) M.bC pass0) pe_bl (pe_makeS (E := fun _ => E0) M.B.mkk M.GI (hr.mono (by decide)) M.bI (passAt_of passL) (by rfl) M.B.g (pa_cons pe_int (pa_cons pe_int pa_nil))) (by rfl)) (pw_or (pt_cmpR (op_inO (E := E0) M.fc M.nc M.GC (hr.mono (by decide)) M.bC pass0) pe_str (pv 4) (by rfl)) (pw_or (pt_cmpR (op_inO (E := E0) M.fc M.nc M.GC (hr.mono (by decide)) M.bC pass0) pe_non (pv 4) (by rfl)) (pw_or1 (pt_cmpR (op_inO (E := E0) M.fc M.nc M.GC (hr.mono (by decide)) M.bC pass0) (pe_lst (pa_cons (pv 0) pa_nil)) (pv 4) (by rfl))))))) (pss_one (ps_ret pe_bl)) pss_nil)
    (pss_cons (ps_set (i := 8) sc__law_right.nd rfl (.inl rfl) (pe_un (un_negO (E := E0) M.fn M.nn M.GN (hr.mono (by decide)) M.bN pass0) (pv 4)))
    (pss_cons (ps_if (pt_cmpR (op_neD (hu64 hr)) (pe_lst (pa_cons (pe_fld (pv 8) rfl) (pa_cons (pe_fld (pv 8) rfl) pa_nil))) (pe_lst (pa_cons (pe_un un_neg (pv 1)) (pa_cons (pe_un un_neg (pv 0)) pa_nil))) (nomark _)) (pss_one (ps_ret pe_bl)) pss_nil)
    (pss_cons (ps_if (pt_cmpR (op_neD (hu64 hr)) (pe_lst (pa_cons (pe_fld (pv 4) rfl) (pa_cons (pe_fld (pv 4) rfl) (pa_cons (pe_fld (pv 5) rfl) (pa_cons (pe_fld (pv 5) rfl) pa_nil))))) (pe_lst (pa_cons (pv 0) (pa_cons (pv 1) (pa_cons (pv 2) (pa_cons (pv 3) pa_nil))))) (nomark _)) (pss_one (ps_ret pe_bl)) pss_nil)
    (pss_one (ps_ret (pe_and (pe_cmpR (op_eqO (E := E0) M.fe M.ne M.GQ (hr.mono (by decide)) M.bQ pass0) (pe_cmS (E := fun _ => E0) (pe_gl gB) M.rd M.cm M.GE M.bE (hr.mono (by decide)) (passAt_of passL) (pa_cons (pv 2) pa_nil)) (pe_makeS (E := fun _ => E0) M.B.mkk M.GI (hr.mono (by decide)) M.bI (passAt_of passL) (by rfl) M.B.g (pa_cons (pv 2) (pa_cons (pv 2) pa_nil))) (nomark _)) (pe_one (pe_cmpR op_eq (pe_prop (E := E0) (pe_cmK0 (E := fun _ => E0) (pe_gl gB) M.rd M.cm M.GE M.KE (hr.mono (by decide)) (passAt_of passL) (pk_cons (pv 2) pk_nil)) M.B.cl M.pw M.GW (hr.mono (by decide)) M.bW .nil pass0 rfl) pe_int (nomark _)))))))))))))))))))), ?_⟩
    -- one, two
    refine ⟨_, rfl, _, rfl, fun p1 d1 np1 nd1 ne1 => makes_at (makes_ok hi hj hij fun H1 s1 B1 => ⟨rfl, ?_⟩) np1 nd1 ne1⟩
    refine ⟨_, rfl, _, rfl, rfl, rfl, fun p2 d2 np2 nd2 ne2 => makes_at (makes_ok hk hl hkl fun H2 s2 B2 => ⟨rfl, ?_⟩) np2 nd2 ne2⟩
    have B1 := B1.mono s2
    have s2 := s1.trans s2
    clear s1
    refine ⟨_, _, rfl, ?_⟩
    obtain ⟨x1, h1⟩ := id B1
    obtain ⟨x2, h2⟩ := id B2
    -- what one and two tell
    refine ⟨_, rfl, p1, Z.C, x1, _, _, rfl, h1, M.B.cl, M.B.nl, bf_low i j, _, rfl, p1, Z.C, x1, _, _, rfl, h1, M.B.cl, M.B.nh, bf_high i j, _, rfl, p1, x1, _, rfl, h1, p1, i, j, rfl, B1, by show 3 ≤ sizeLine; decide, fun t nt => ?_⟩
    refine ⟨_, rfl, _, rfl, _, rfl, _, rfl, j, i, rfl, rfl, by show 3 ≤ sizeLine; decide, fun u nu => ne_ints [i, j, j - i] nt nu fun H3 s3 => ⟨_, rfl, iteF ?_⟩⟩
    have B1 := B1.mono s3
    have B2 := B2.mono s3
    have s3 := s2.trans s3
    clear h1 h2 s2 nt nu t u
    obtain ⟨x1, h1⟩ := id B1
    obtain ⟨x2, h2⟩ := id B2
    refine ⟨_, rfl, p2, Z.C, x2, _, _, rfl, h2, M.B.cl, M.B.nl, bf_low k l, _, rfl, p2, Z.C, x2, _, _, rfl, h2, M.B.cl, M.B.nh, bf_high k l, _, rfl, p2, x2, _, rfl, h2, p2, k, l, rfl, B2, by show 3 ≤ sizeLine; decide, fun t nt => ?_⟩
    refine ⟨_, rfl, _, rfl, _, rfl, _, rfl, l, k, rfl, rfl, by show 3 ≤ sizeLine; decide, fun u nu => ne_ints [k, l, l - k] nt nu fun H4 s4 => ⟨_, rfl, iteF ?_⟩⟩
    have B1 := B1.mono s4
    have B2 := B2.mono s4
    have s4 := s3.trans s4
    clear h1 h2 s3 nt nu t u
    -- due
    refine ⟨_, rfl, _, rfl, i, k, rfl, ?_⟩
    rw [maxI]
    refine ⟨_, rfl, _, rfl, j, l, rfl, ?_⟩
    rw [minI]
    refine ⟨by show 2 ≤ sizeLine; decide, fun t nt => ?_⟩
    have s5 : Same H4 (upd H4 t (.tup [.int (max i k), .int (min j l)])) := same_upd nt
    have et : (upd H4 t (.tup [.int (max i k), .int (min j l)])) t = some (.tup [.int (max i k), .int (min j l)]) := upd_same
    generalize upd H4 t (HO.tup [.int (max i k), .int (min j l)]) = H5 at s5 et ⊢
    have B1 := B1.mono s5
    have B2 := B2.mono s5
    have s5 := s4.trans s5
    refine ⟨_, rfl, t, _, 0, .int (max i k), rfl, rfl, SqT.of et, rfl, _, rfl, t, _, 1, .int (min j l), rfl, rfl, SqT.of et, rfl, _, _, rfl, rfl, _, rfl, ?_⟩
    -- common
    refine ite2 (fun e => ?_) (fun e => ?_)
    have hlt : min j l < max i k := of_decide_eq_true e
    refine ⟨_, rfl, _, rfl, _, rfl, _, rfl, by show 5 ≤ sizeLine; decide, fun t2 nt2 => ?_⟩
    have s6 := same_upd (o := .tup [.str "none", .int i, .int j, .int k, .int l]) nt2
    have e2 : (upd H5 t2 (.tup [.str "none", .int i, .int j, .int k, .int l])) t2 = some (.tup [.str "none", .int i, .int j, .int k, .int l]) := upd_same
    have B1 := B1.mono s6
    have B2 := B2.mono s6
    have s6 := s5.trans s6
    generalize upd H5 t2 (HO.tup [.str "none", .int i, .int j, .int k, .int l]) = H6 at s6 e2 B1 B2 ⊢
    refine ⟨_, rfl, _, rfl, p1, p2, i, j, k, l, rfl, B1, B2, hi, hj, hk, hl, fun _ tc H7 s7 ec => ?_, fun z => absurd z (by omega)⟩
    have D5 : ∀ G, DatAll K G 1 [.str "none", .int i, .int j, .int k, .int l] [.str "none", .int i, .int j, .int k, .int l] := fun G => datAll_cons (dat_str (by decide +kernel)) (datAll_ints [i, j, k, l])
    refine ⟨_, rfl, ne_same (dat_tup (SqT.of ec) (D5 _)) (dat_tup (SqT.of (s7 _ _ e2)) (D5 _)) (by decide) ⟨_, rfl, iteF ?_⟩⟩
    have B1 := B1.mono s7
    have B2 := B2.mono s7
    have s7 := s6.trans s7
    clear hlt e e2 ec D5 s6 s5 nt2
    rotate_left
    have hge : max i k ≤ min j l := Int.not_lt.mp (fun z => e (decide_eq_true z))
    refine ⟨_, rfl, _, rfl, p1, p2, i, j, k, l, rfl, B1, B2, hi, hj, hk, hl, fun z => absurd z (by omega), fun _ tc H7 s7 ec => ?_⟩
    have D5 : ∀ G, DatAll K G 1 [.int (max i k), .int (min j l)] [.int (max i k), .int (min j l)] := fun G => datAll_ints [max i k, min j l]
    refine ⟨_, rfl, ne_same (dat_tup (SqT.of ec) (D5 _)) (dat_tup (SqT.of (s7 _ _ et)) (D5 _)) (by decide) ⟨_, rfl, iteF ?_⟩⟩
    have B1 := B1.mono s7
    have B2 := B2.mono s7
    have s7 := s5.trans s7
    clear hge e ec D5 s5
    rotate_left
    all_goals
      obtain ⟨x1, h1⟩ := id B1
      obtain ⟨x2, h2⟩ := id B2
      -- holds
      have hb1 : ∀ bb : Bool, bb = (decide (i ≤ k) && decide (l ≤ j)) → ∀ {A B : Prop}, B → if (!decide (V.str (blT (decide (i ≤ k) && decide (l ≤ j))) = V.str (blT bb))) = true then A else B := by
        intro bb e A B hB
        rw [e]
        exact iteNS rfl hB
      refine ⟨_, rfl, p1, x1, _, rfl, h1, bf_no (by decide +kernel) (by decide +kernel), _, rfl, p1, p2, i, j, k, l, rfl, B1, B2, _, rfl, ?_⟩
      refine ⟨_, rfl, _, rfl, _, _, rfl, rfl, _, rfl, ?_⟩
      refine ite2 (fun e => ⟨_, rfl, _, rfl, _, _, rfl, rfl, _, rfl, rfl, _, rfl, hb1 _ (by rw [e, Bool.true_and]) ?_⟩) (fun e => ⟨_, rfl, rfl, _, rfl, hb1 _ (by rw [Bool.eq_false_iff.mpr e, Bool.false_and]) ?_⟩)
    all_goals
      -- one == two
      refine ⟨_, rfl, _, rfl, p1, x1, _, .ref Z.C, rfl, h1, BndAt.ty M.B B2, M.nfC, p1, _, i, j, rfl, B1, .inl ⟨p2, k, l, rfl, B2, _, rfl, ?_⟩⟩
      refine ⟨_, rfl, _, rfl, by show 2 ≤ sizeLine; decide, fun t nt => ?_⟩
      refine ⟨_, rfl, _, rfl, by show 2 ≤ sizeLine; decide, fun u nu => eq_pairs i j k l nt nu fun H8 s8 => ⟨_, rfl, rfl, _, rfl, iteNS rfl ?_⟩⟩
      have B1 := B1.mono s8
      have B2 := B2.mono s8
      have s8 := s7.trans s8
      clear h1 h2 s7 nt nu t u hb1
      obtain ⟨x1, h1⟩ := id B1
      -- not one == Bounds(a, b)
      refine ⟨_, rfl, _, rfl, _, rfl, fun p3 d3 np3 nd3 ne3 => makes_at (makes_ok hi hj hij fun H9 s9 B3 => ⟨rfl, ?_⟩) np3 nd3 ne3⟩
      have B1 := B1.mono s9
      have B2 := B2.mono s9
      have s9' := s8.trans s9
      refine ⟨p1, x1, _, .ref Z.C, rfl, s9 _ _ h1, BndAt.ty M.B B3, M.nfC, p1, _, i, j, rfl, B1, .inl ⟨p3, i, j, rfl, B3, _, rfl, ?_⟩⟩
      rw [decide_eq_true (show i = i from rfl), decide_eq_true (show j = j from rfl)]
      refine iteF ?_
      clear s8 h1
      obtain ⟨x1, h1⟩ := id B1
      -- one == (a, b)
      refine ⟨_, rfl, _, rfl, _, rfl, by show 2 ≤ sizeLine; decide, fun t nt => ?_⟩
      have s10 := same_upd (o := .tup [.int i, .int j]) nt
      have et : (upd H9 t (.tup [.int i, .int j])) t = some (.tup [.int i, .int j]) := upd_same
      generalize upd H9 t (HO.tup [.int i, .int j]) = H10 at s10 et ⊢
      have B1 := B1.mono s10
      have B2 := B2.mono s10
      have h1 := s10 _ _ h1
      have s10 := s9'.trans s10
      have tyT : TyX K H10 (.ref t) (.type "tuple") := .base (.tup et)
      refine ⟨p1, x1, _, .type "tuple", rfl, h1, tyT, M.nfT, p1, _, i, j, rfl, B1, .inr ⟨_, tyT, M.kT, _, rfl, iteF ?_⟩⟩
      -- one == a
      have tyI : TyX K H10 (.int i) (.type "int") := .base (.int i)
      refine ⟨_, rfl, _, rfl, p1, x1, _, .type "int", rfl, h1, tyI, M.nfI, p1, _, i, j, rfl, B1, .inr ⟨_, tyI, M.kI, _, rfl, iteF ?_⟩⟩
      -- one == [a, b]
      refine ⟨_, rfl, _, rfl, _, rfl, by show 2 ≤ sizeLine; decide, fun t2 nt2 => ?_⟩
      have s11 := same_upd (o := .lst [.int i, .int j]) nt2
      have et2 : (upd H10 t2 (.lst [.int i, .int j])) t2 = some (.lst [.int i, .int j]) := upd_same
      generalize upd H10 t2 (HO.lst [.int i, .int j]) = H11 at s11 et2 ⊢
      have B1 := B1.mono s11
      have B2 := B2.mono s11
      have h1 := s11 _ _ h1
      have s11 := s10.trans s11
      have tyL : TyX K H11 (.ref t2) (.type "list") := .base (.lst et2)
      refine ⟨p1, x1, _, .type "list", rfl, h1, tyL, M.nfL, p1, _, i, j, rfl, B1, .inr ⟨_, tyL, M.kL, _, rfl, iteF ?_⟩⟩
      clear tyL tyI tyT et et2 nt nt2 s10 s9'
      -- the numbers
      refine ⟨_, rfl, _, rfl, _, rfl, _, rfl, _, rfl, i, 1, rfl, rfl, _, rfl, j, 1, rfl, rfl, _, rfl, _, rfl, i, j, rfl, rfl, _, 2, rfl, rfl, wide_div (b := 60) (by decide) (by decide) (by decide) (by decide), by show 7 ≤ sizeLine; decide, fun L nL => ?_⟩
      have s12 := same_upd (o := .lst (([i, j, k, l, i - 1, j + 1, (i + j) / 2] : List Int).map V.int)) nL
      have eL : (upd H11 L (.lst (([i, j, k, l, i - 1, j + 1, (i + j) / 2] : List Int).map V.int))) L = some (.lst (([i, j, k, l, i - 1, j + 1, (i + j) / 2] : List Int).map V.int)) := upd_same
      refine ⟨_, rfl, ⟨_, SqL.of eL⟩, ?_⟩
      have B1 := B1.mono s12
      have B2 := B2.mono s12
      have h1 := s12 _ _ h1
      have s12 := s11.trans s12
      refine for_list (xs := ([i, j, k, l, i - 1, j + 1, (i + j) / 2] : List Int).map V.int) (fun _ σ G => (∃ z6 z7, σ = [some (.int i), some (.int j), some (.int k), some (.int l), some (.ref p1), some (.ref p2), z6, z7, none]) ∧ G = upd H11 L (.lst (([i, j, k, l, i - 1, j + 1, (i + j) / 2] : List Int).map V.int)))
        ⟨⟨_, _, rfl⟩, rfl⟩ (fun _ σ G _ hP => by rw [hP.2]; exact SqL.of eL) (fun i' x σ G hx hP => ?_) (fun σ G hP => ?_)
      · obtain ⟨⟨z6, z7, rfl⟩, rfl⟩ := hP
        obtain ⟨m, _, rfl⟩ := List.mem_map.mp (List.mem_of_getElem? hx)
        have hw := within_height (m := m) hi hj
        have hb2 : ∀ bb : Bool, bb = (decide (i ≤ m) && decide (m ≤ j)) → ∀ {A B : Prop}, B → if (!decide (V.str (blT (heightB m && (decide (i ≤ m) && decide (m ≤ j)))) = V.str (blT bb))) = true then A else B := by
          intro bb e A B hB
          rw [e, hw]
          exact iteNS rfl hB
        refine ⟨_, rfl, _, rfl, p1, x1, _, rfl, h1, p1, _, i, j, rfl, B1, .inl ⟨m, rfl, _, rfl, _, rfl, ?_⟩⟩
        refine ⟨_, rfl, _, rfl, _, _, rfl, rfl, _, rfl, ?_⟩
        exact ite2 (fun e => ⟨_, rfl, _, rfl, _, _, rfl, rfl, _, rfl, rfl, _, rfl, hb2 _ (by rw [e, Bool.true_and]) ⟨⟨_, _, rfl⟩, rfl⟩⟩) (fun e => ⟨_, rfl, rfl, _, rfl, hb2 _ (by rw [Bool.eq_false_iff.mpr e, Bool.false_and]) ⟨⟨_, _, rfl⟩, rfl⟩⟩)
      obtain ⟨⟨z6, z7, rfl⟩, rfl⟩ := hP
      generalize upd H11 L (HO.lst (([i, j, k, l, i - 1, j + 1, (i + j) / 2] : List Int).map V.int)) = H12 at s12 B1 B2 h1 ⊢
      -- True in Bounds(0, 1)
      have h01 : heightB 0 = true := by decide +kernel
      have h11 : heightB 1 = true := by decide +kernel
      refine fun p4 d4 np4 nd4 ne4 => makes_at (makes_ok h01 h11 (by decide) fun H13 s13 B4 => ⟨rfl, ?_⟩) np4 nd4 ne4
      have B1 := B1.mono s13
      have B2 := B2.mono s13
      have h1 := s13 _ _ h1
      have s13 := s12.trans s13
      obtain ⟨x4, h4⟩ := id B4
      refine ⟨p4, x4, _, rfl, h4, p4, _, 0, 1, rfl, B4, .inr ⟨.inl ⟨_, rfl⟩, _, rfl, _, rfl, iteF ?_⟩⟩
      -- "3" in one, None in one, [a] in one
      refine ⟨_, rfl, p1, x1, _, rfl, h1, p1, _, i, j, rfl, B1, .inr ⟨.inr (off_str k_str_int), _, rfl, _, rfl, iteF ?_⟩⟩
      refine ⟨_, rfl, p1, x1, _, rfl, h1, p1, _, i, j, rfl, B1, .inr ⟨.inr (off_non k_NoneType_int), _, rfl, _, rfl, iteF ?_⟩⟩
      refine ⟨_, rfl, by show 1 ≤ sizeLine; decide, fun t nt => ?_⟩
      have s14 := same_upd (o := .lst [.int i]) nt
      have et : (upd H13 t (.lst [.int i])) t = some (.lst [.int i]) := upd_same
      generalize upd H13 t (HO.lst [.int i]) = H14 at s14 et ⊢
      have B1 := B1.mono s14
      have B2 := B2.mono s14
      have h1 := s14 _ _ h1
      have s14 := s13.trans s14
      refine ⟨_, rfl, p1, x1, _, rfl, h1, p1, _, i, j, rfl, B1, .inr ⟨.inr (off_lst et k_list_int), _, rfl, _, rfl, iteF ?_⟩⟩
      -- turned
      refine ⟨_, rfl, p1, x1, _, rfl, h1, p1, i, j, rfl, B1, hi, hj, hij, fun p5 H15 s15 np5 B5 => ?_⟩
      have B1 := B1.mono s15
      have B2 := B2.mono s15
      have s15 := s14.trans s15
      obtain ⟨x5, h5⟩ := id B5
      refine ⟨_, rfl, p5, Z.C, x5, _, _, rfl, h5, M.B.cl, M.B.nl, bf_low _ _, _, rfl, p5, Z.C, x5, _, _, rfl, h5, M.B.cl, M.B.nh, bf_high _ _, by show 2 ≤ sizeLine; decide, fun t nt => ?_⟩
      refine ⟨_, rfl, _, rfl, _, rfl, _, rfl, by show 2 ≤ sizeLine; decide, fun u nu => ne_ints [-j, -i] nt nu fun H16 s16 => ⟨_, rfl, iteF ?_⟩⟩
      have B1 := B1.mono s16
      have B2 := B2.mono s16
      have s16 := s15.trans s16
      clear h1 et h4 h5 B4 B5
      obtain ⟨x1, h1⟩ := id B1
      obtain ⟨x2, h2⟩ := id B2
      refine ⟨_, rfl, p1, Z.C, x1, _, _, rfl, h1, M.B.cl, M.B.nl, bf_low _ _, _, rfl, p1, Z.C, x1, _, _, rfl, h1, M.B.cl, M.B.nh, bf_high _ _, _, rfl, p2, Z.C, x2, _, _, rfl, h2, M.B.cl, M.B.nl, bf_low _ _, _, rfl, p2, Z.C, x2, _, _, rfl, h2, M.B.cl, M.B.nh, bf_high _ _, by show 4 ≤ sizeLine; decide, fun t nt => ?_⟩
      refine ⟨_, rfl, _, rfl, _, rfl, _, rfl, by show 4 ≤ sizeLine; decide, fun u nu => ne_ints [i, j, k, l] nt nu fun H17 s17 => ⟨_, rfl, iteF ?_⟩⟩
      have s17 := s16.trans s17
      -- Bounds.exact
      refine ⟨rfl, _, rfl, _, rfl, .inr ⟨k, rfl, hk, fun p6 H18 s18 np6 B6 => ?_⟩⟩
      refine ⟨_, rfl, _, rfl, fun p7 d7 np7 nd7 ne7 => makes_at (makes_ok hk hk (Int.le_refl _) fun H19 s19 B7 => ⟨rfl, ?_⟩) np7 nd7 ne7⟩
      have B6 := B6.mono s19
      have s19 := (s17.trans s18).trans s19
      obtain ⟨x6, h6⟩ := id B6
      refine ⟨p6, x6, _, .ref Z.C, rfl, h6, BndAt.ty M.B B7, M.nfC, p6, _, k, k, rfl, B6, .inl ⟨p7, k, k, rfl, B7, _, rfl, ?_⟩⟩
      rw [decide_eq_true (show k = k from rfl)]
      refine iteT ?_
      refine ⟨rfl, _, rfl, rfl, _, rfl, .inr ⟨k, rfl, hk, fun p8 H20 s20 np8 B8 => ?_⟩⟩
      obtain ⟨x8, h8⟩ := id B8
      refine ⟨p8, x8, _, rfl, h8, p8, k, k, rfl, B8, rfl, ?_⟩
      rw [show k - k = 0 by omega, decide_eq_true rfl]
      exact q _ (s19.trans s20)
end
end K02n

namespace K02n
open PySem PySem.Spec PyProof.Rows L2 L9
/-- the built-ins that the law names -/
structure Txt (mg : Str → Option Value) : Prop where
  m_len : mg "len" = none
  m_int : mg "int" = none
  m_max : mg "max" = none
  m_min : mg "min" = none
  m_range : mg "range" = none
  m_sorted : mg "sorted" = none
section
variable {P : Program} {w : World} {K : PySem.W.Frag} {mg : Str → Option Value} {base : Heap}
abbrev s_law : Stmt := topS 21
abbrev N_law : List Str := ["_law_script", "_law_k", "_law_box_here", "_law_a", "_law_b", "_law_some"]
theorem sc_law : FnScope N_law ["_law_script"] (defScope s_law) := ⟨rfl, rfl, rfl, by decide +kernel, rfl, by decide +kernel, by decide +kernel⟩
def spLaw (K : PySem.W.Frag) : Sp := fun vs H Q _ => ∃ (a : Addr) (ns : List Int), vs = [.ref a] ∧ SqL K H a (ns.map V.int) ∧ ns.length ≤ 63 ∧ ∀ H', Q (.bl true) H'
theorem two_of {ns : List Int} {a b : Int} (h : ns.Perm [a, b]) (s : ns.Pairwise (· ≤ ·)) : ∃ x y, ns = [x, y] ∧ x ≤ y ∧ (x = a ∨ x = b) ∧ (y = a ∨ y = b) := by
  have hl := h.length_eq
  match ns, hl with
  | [x, y], _ =>
    refine ⟨x, y, rfl, ?_, ?_, ?_⟩
    · exact (List.pairwise_cons.mp s).1 y List.mem_cons_self
    · simpa using h.mem_iff.mp (List.mem_cons_self : x ∈ [x, y])
    · simpa using h.mem_iff.mp (List.mem_cons_of_mem x List.mem_cons_self : y ∈ [x, y])
theorem ok_law {f : Addr} {fd : FuncData} (F : Fun K "law" "law" s_law f fd) (T : Txt mg)
    (C__law_cell : Cal P w K mg base "_law_cell" 1 ["_law_script", "_law_k"] (spCellA K)) (C__law_box : Cal P w K mg base "_law_box" 1 ["_law_cell_here"] spBox) (C__law_drawn : Cal P w K mg base "_law_drawn" 2 ["_law_box_here"] spDrawn)
    (C__law_doors : Cal P w K mg base "_law_doors" 8 ["_law_box_here", "_law_a", "_law_b"] spDoors) (C__law_right : Cal P w K mg base "_law_right" 9 ["_law_a", "_law_b", "_law_c", "_law_d"] spRight) : FnOk P w K mg base CX0 10 f fd ["_law_script"] (spLaw K) := by
  refine F.ok sc_law (fun vs H Q E h => ?_) (fun cdv A outer s H vs Q E hr h => ?_)
  · obtain ⟨a, ns, rfl, _⟩ := h
    rfl
  · obtain ⟨a, ns, rfl, hS, hlen, q⟩ := h
    refine ⟨_, (pss_cons (ps_for PassesOwn.never rfl (pi_range1 (by rfl) T.m_range (pa_cons (pe_callB (call_max2 rfl) (by rfl) T.m_max (by decide +kernel) (pa_cons pe_int (pa_cons (pe_callB (call_min2 rfl) (by rfl) T.m_min (by decide +kernel) (pa_cons pe_int (pa_cons (pe_callB call_len_seq (by rfl) T.m_len (by decide +kernel) (pa_cons (pv 0) pa_nil)) pa_nil))) pa_nil))) pa_nil)) (pg_name (i := 1) sc_law.nd rfl (.inl rfl))
    (pss_cons (ps_set (i := 2) sc_law.nd rfl (.inl rfl) (pe_cal C__law_box (hr.mono (by decide)) (by rfl) (pa_cons (pe_cal C__law_cell (hr.mono (by decide)) (by rfl) (pa_cons (pv 0) (pa_cons (pv 1) pa_nil))) pa_nil)))
    (pss_cons (ps_par (i := 3) (j := 4) (by rfl) sc_law.nd rfl rfl (by decide) rfl rfl (pa_cons (pe_cal C__law_drawn (hr.mono (by decide)) (by rfl) (pa_cons (pv 2) pa_nil)) (pa_cons (pe_cal C__law_drawn (hr.mono (by decide)) (by rfl) (pa_cons (pv 2) pa_nil)) pa_nil)) (by rfl))
    (pss_cons (ps_if (pt_not (pt_val (pe_cal C__law_doors (hr.mono (by decide)) (by rfl) (pa_cons (pv 2) (pa_cons (pv 3) (pa_cons (pv 4) pa_nil)))))) (pss_one (ps_ret pe_bl)) pss_nil)
    (pss_cons (ps_set (i := 5) sc_law.nd rfl (.inl rfl) (pe_op op_cat (pe_callB cr_sorted (by rfl) T.m_sorted (by decide +kernel) (pa_cons (pe_lst (pa_cons (pv 3) (pa_cons (pv 4) pa_nil))) pa_nil)) (pe_callB cr_sorted (by rfl) T.m_sorted (by decide +kernel) (pa_cons (pe_lst (pa_cons (pe_cal C__law_drawn (hr.mono (by decide)) (by rfl) (pa_cons (pv 2) pa_nil)) (pa_cons (pe_cal C__law_drawn (hr.mono (by decide)) (by rfl) (pa_cons (pv 2) pa_nil)) pa_nil))) pa_nil))))
    (pss_one (ps_if (pt_not (pt_val (pe_cal C__law_right (hr.mono (by decide)) (by rfl) (pa_cons (pe_ix ix_list (pv 5) pe_int (fun _ _ => rfl)) (pa_cons (pe_ix ix_list (pv 5) pe_int (fun _ _ => rfl)) (pa_cons (pe_ix ix_list (pv 5) pe_int (fun _ _ => rfl)) (pa_cons (pe_ix ix_list (pv 5) pe_int (fun _ _ => rfl)) pa_nil))))))) (pss_one (ps_ret pe_bl)) pss_nil)))))))
    (pss_one (ps_ret pe_bl))), ?_⟩
    refine ⟨.ref a, rfl, a, _, rfl, .inl hS, 30, _, rfl, 2, _, rfl, _, rfl, ?lo, ?hi, ?_⟩
    case lo => split <;> split <;> omega
    case hi => split <;> split <;> omega
    refine for_range (lo := 0) (fun i σ H' => (∃ y1 y2 y3 y4 y5, σ = [some (.ref a), y1, y2, y3, y4, y5]) ∧ Same H H') ⟨⟨_, _, _, _, _, rfl⟩, Same.refl H⟩ (fun i σ H1 hi hP => ?_) (fun σ H1 hP => q H1)
    obtain ⟨⟨y1, y2, y3, y4, y5, rfl⟩, sm⟩ := hP
    have hi2 : i < 64 := by
      rw [List.length_map] at hi
      have h1 : i < Int.toNat _ := hi
      split at h1 <;> (try split at h1) <;> omega
    have hS1 := sm.seq hS
    refine ⟨.ref a, rfl, _, rfl, a, ns, _, rfl, hS1, hlen, by omega, by omega, fun c => ⟨c, rfl, fun b xs nb hx => ?_⟩⟩
    have t0 : Trn H1 (upd H1 b (.lst xs)) b 0 := ⟨same_upd nb, nb, xs, upd_same, hx⟩
    generalize upd H1 b (HO.lst xs) = H2 at t0 ⊢
    -- a, b
    refine ⟨_, rfl, b, 0, rfl, t0.box, by decide, fun r1 H3 hr1 d1 => ?_⟩
    have t1 := t0.drw d1
    refine ⟨_, rfl, b, 2, rfl, t1.box, by decide, fun r2 H4 hr2 d2 => ?_⟩
    have t2 := t1.drw d2
    refine ⟨_, _, rfl, ?_⟩
    -- doors
    refine ⟨_, rfl, _, rfl, _, rfl, b, 4, r1, r2, rfl, t2.box, by decide, hr1, hr2, fun H5 d3 => ⟨_, rfl, iteF ?_⟩⟩
    have t3 := t2.drw d3
    -- the four ends
    refine ⟨_, rfl, _, rfl, by show 2 ≤ sizeLine; decide, fun p np => ?_⟩
    have t4 : Trn H1 (upd H5 p (.lst (([r1, r2] : List Int).map V.int))) b 6 := t3.new np
    have ep : (upd H5 p (.lst (([r1, r2] : List Int).map V.int))) p = some (.lst (([r1, r2] : List Int).map V.int)) := upd_same
    refine ⟨p, [r1, r2], rfl, SqL.of ep, by show 2 < 64; decide, fun ms p2 hperm hsrt np2 => ?_⟩
    obtain ⟨x, y, rfl, hxy, hx1, hy1⟩ := two_of hperm hsrt
    have hxh : heightB x = true := by
      rcases hx1 with e | e <;> rw [e] <;> assumption
    have hyh : heightB y = true := by
      rcases hy1 with e | e <;> rw [e] <;> assumption
    have t5 := t4.new (o := .lst (([x, y] : List Int).map V.int)) np2
    have e2 : (upd (upd H5 p (.lst (([r1, r2] : List Int).map V.int))) p2 (.lst (([x, y] : List Int).map V.int))) p2 = some (.lst (([x, y] : List Int).map V.int)) := upd_same
    have h2b : p2 ≠ b := t4.ne np2
    refine ⟨_, rfl, b, 6, rfl, t5.box, by decide, fun r3 H6 hr3 d4 => ?_⟩
    have e2 := d4.keep _ _ h2b e2
    have t6 := t5.drw d4
    refine ⟨_, rfl, b, 8, rfl, t6.box, by decide, fun r4 H7 hr4 d5 => ?_⟩
    have e2 := d5.keep _ _ h2b e2
    have t7 := t6.drw d5
    refine ⟨by show 2 ≤ sizeLine; decide, fun p3 np3 => ?_⟩
    have t8 : Trn H1 (upd H7 p3 (.lst (([r3, r4] : List Int).map V.int))) b 10 := t7.new np3
    have e3 : (upd H7 p3 (.lst (([r3, r4] : List Int).map V.int))) p3 = some (.lst (([r3, r4] : List Int).map V.int)) := upd_same
    have e2 := same_upd (o := .lst (([r3, r4] : List Int).map V.int)) np3 _ _ e2
    refine ⟨p3, [r3, r4], rfl, SqL.of e3, by show 2 < 64; decide, fun ms p4 hperm2 hsrt2 np4 => ?_⟩
    obtain ⟨z, u, rfl, hzu, hz1, hu1⟩ := two_of hperm2 hsrt2
    have hzh : heightB z = true := by
      rcases hz1 with e | e <;> rw [e] <;> assumption
    have huh : heightB u = true := by
      rcases hu1 with e | e <;> rw [e] <;> assumption
    have t9 := t8.new (o := .lst (([z, u] : List Int).map V.int)) np4
    have e4 : (upd (upd H7 p3 (.lst (([r3, r4] : List Int).map V.int))) p4 (.lst (([z, u] : List Int).map V.int))) p4 = some (.lst (([z, u] : List Int).map V.int)) := upd_same
    have e2 := same_upd (o := .lst (([z, u] : List Int).map V.int)) np4 _ _ e2
    refine ⟨p2, p4, _, _, rfl, rfl, e2, e4, by show 4 ≤ sizeLine; decide, fun p5 np5 => ?_⟩
    have t10 := t9.new (o := .lst ([.int x, .int y, .int z, .int u])) np5
    have e5 : (upd (upd (upd H7 p3 (.lst (([r3, r4] : List Int).map V.int))) p4 (.lst (([z, u] : List Int).map V.int))) p5 (.lst [.int x, .int y, .int z, .int u])) p5 = some (.lst [.int x, .int y, .int z, .int u]) := upd_same
    -- right
    refine ⟨_, rfl, p5, _, 0, .int x, rfl, rfl, SqL.of e5, rfl, _, rfl, p5, _, 1, .int y, rfl, rfl, SqL.of e5, rfl, _, rfl, p5, _, 2, .int z, rfl, rfl, SqL.of e5, rfl, _, rfl, p5, _, 3, .int u, rfl, rfl, SqL.of e5, rfl, x, y, z, u, rfl, hxh, hyh, hzh, huh, hxy, hzu, fun H8 s8 => ⟨_, rfl, iteF ?_⟩⟩
    exact ⟨⟨_, _, _, _, _, rfl⟩, sm.trans (t10.go s8).same⟩
end
end K02n

namespace K02n
open PySem PySem.Spec PyProof.Rows L2 L9
theorem vals_getD : ∀ {zs : List V} {ws : List Value} (i : Nat), Vals zs ws → RelV (zs.getD i .non) (ws.getD i .none)
  | [], [], i, .nil => by
    show RelV ([].getD i V.non) ([].getD i Value.none)
    rw [List.getD_nil, List.getD_nil]
    rfl
  | _ :: _, _ :: _, 0, .cons r _ => r
  | _ :: _, _ :: _, i + 1, .cons _ r => vals_getD i r
theorem vals_gK {vs : List V} {us : List Value} {zs : List V} {ws : List Value} (r1 : Vals vs us) (r2 : Vals zs ws) : Vals (gVK vs zs) (gK us ws) := r1.append (.cons (vals_getD 1 r2) (.cons (vals_getD 0 r2) .nil))
theorem all_mk {l : PySem.W.OpenLaw} {w : World} {K : PySem.W.Frag} {h : Heap} {mg : Str → Option Value} {fa CS CH CB CC CX f1 f2 f3 f4 f5 f6 f7 f8 f9 f10 f11 f12 f13 f14 f15 f16 f17 f18 f19 f20 f21 f22 f23 f24 : Addr} (X : K.In h) (G : h.Ns mainGlobals mg) (hfa : mg "law" = some (.ref fa))
    {od1 an1 : Option Addr} {sl1 : Array (Option Value)} {oc1 kV1 dc1 pm1 cd1 ct1 : Value}
    {nmH qH : Str} {NH : Addr} {bsH : List Value} {snH : List Str} {subH : List Value} {abH : Bool} {colH : Option Bool} {ddH : Option Addr} {m0H m1H m2H m3H m5H : Option Value}
    {od2 an2 : Option Addr} {sl2 : Array (Option Value)} {oc2 kV2 dc2 pm2 cd2 ct2 : Value}
    {nmB qB : Str} {NB : Addr} {bsB : List Value} {snB : List Str} {subB : List Value} {abB : Bool} {colB : Option Bool} {ddB : Option Addr} {m0B m1B m2B m3B m5B : Option Value}
    {od3 an3 : Option Addr} {sl3 : Array (Option Value)} {oc3 kV3 dc3 pm3 cd3 ct3 : Value}
    {nmC qC : Str} {NC : Addr} {bsC : List Value} {snC : List Str} {subC : List Value} {abC : Bool} {colC : Option Bool} {ddC : Option Addr} {m0C m1C m2C m3C m5C : Option Value}
    {od4 an4 : Option Addr} {sl4 : Array (Option Value)} {oc4 kV4 dc4 pm4 cd4 ct4 : Value}
    {od5 an5 : Option Addr} {sl5 : Array (Option Value)} {oc5 kV5 dc5 pm5 cd5 ct5 : Value}
    {pE pW : Addr} {restE restW : List Value}
    {od6 an6 : Option Addr} {sl6 : Array (Option Value)} {oc6 kV6 dc6 pm6 cd6 ct6 : Value}
    {od7 an7 : Option Addr} {sl7 : Array (Option Value)} {oc7 kV7 dc7 pm7 cd7 ct7 : Value}
    {od8 an8 : Option Addr} {sl8 : Array (Option Value)} {oc8 kV8 dc8 pm8 cd8 ct8 : Value}
    {od9 an9 : Option Addr} {sl9 : Array (Option Value)} {oc9 kV9 dc9 pm9 cd9 ct9 : Value}
    {od10 an10 : Option Addr} {sl10 : Array (Option Value)} {oc10 kV10 dc10 pm10 cd10 ct10 : Value}
    {od11 an11 : Option Addr} {sl11 : Array (Option Value)} {oc11 kV11 dc11 pm11 cd11 ct11 : Value}
    {od12 an12 : Option Addr} {sl12 : Array (Option Value)} {oc12 kV12 dc12 pm12 cd12 ct12 : Value}
    {od13 an13 : Option Addr} {sl13 : Array (Option Value)} {oc13 kV13 dc13 pm13 cd13 ct13 : Value}
    {od14 an14 : Option Addr} {sl14 : Array (Option Value)} {oc14 kV14 dc14 pm14 cd14 ct14 : Value}
    {od15 an15 : Option Addr} {sl15 : Array (Option Value)} {oc15 kV15 dc15 pm15 cd15 ct15 : Value}
    {od16 an16 : Option Addr} {sl16 : Array (Option Value)} {oc16 kV16 dc16 pm16 cd16 ct16 : Value}
    {od17 an17 : Option Addr} {sl17 : Array (Option Value)} {oc17 kV17 dc17 pm17 cd17 ct17 : Value}
    {od18 an18 : Option Addr} {sl18 : Array (Option Value)} {oc18 kV18 dc18 pm18 cd18 ct18 : Value}
    {od19 an19 : Option Addr} {sl19 : Array (Option Value)} {oc19 kV19 dc19 pm19 cd19 ct19 : Value}
    {od20 an20 : Option Addr} {sl20 : Array (Option Value)} {oc20 kV20 dc20 pm20 cd20 ct20 : Value}
    {od21 an21 : Option Addr} {sl21 : Array (Option Value)} {oc21 kV21 dc21 pm21 cd21 ct21 : Value}
    {od22 an22 : Option Addr} {sl22 : Array (Option Value)} {oc22 kV22 dc22 pm22 cd22 ct22 : Value}
    {od23 an23 : Option Addr} {sl23 : Array (Option Value)} {oc23 kV23 dc23 pm23 cd23 ct23 : Value}
    {od24 an24 : Option Addr} {sl24 : Array (Option Value)} {oc24 kV24 dc24 pm24 cd24 ct24 : Value}
    {tk0 : Tok}
    (gS : PySem.W.nsIn K mainGlobals "SurveyError" = some (some (.ref CS)))
    (rS1 : PySem.W.readsIn K CS (.type "type") = true)
    (rS2 : PySem.W.specialIn K (.ref CS) "__getattribute__" = some (some (.builtin "type.__getattribute__")))
    (vS : PySem.W.findCls K (.ref CS) (.type "type") "__init__" = some (.val (.ref f1)))
    (vV : PySem.W.findCls K (.type "ValueError") (.type "type") "__init__" = some (.val (.builtin "ValueError.__init__")))
    (l1 : K.lookup f1 = some ⟨oc1, od1, .func (PySem.W.fnOf "__init__" "SurveyError.__init__" (defArgs s_SurveyError___init__) (defBody s_SurveyError___init__) (defScope s_SurveyError___init__) .none kV1 dc1 pm1 an1 cd1 ct1), sl1⟩)
    (c1 : PySem.W.codeIn K cd1 "SurveyError.__init__" = true)
    (k1 : PySem.W.keepIn K (.ref f1) = true)
    (gH : PySem.W.nsIn K mainGlobals "InvalidHeight" = some (some (.ref CH)))
    (xH : K.lookup CH = some (excClassObj nmH qH CH NH bsH [.ref CS, .type "ValueError", .type "Exception", .type "BaseException", .type "object"] true snH subH abH colH ddH m0H m1H m2H m3H m5H "ValueError.__new__"))
    (saH : PySem.W.findIn K (.ref CH) "__setattr__" = some (some (.builtin "object.__setattr__")))
    (gaH : PySem.W.findIn K (.ref CH) "__getattribute__" = some (some (.builtin "BaseException.__getattribute__")))
    (ggH : PySem.W.findIn K (.ref CH) "__getattr__" = some none)
    (exH : PySem.W.subIn K (.ref CH) (.type "BaseException") = some true)
    (tyH : PySem.W.typeIn K (.ref CH) = some (.type "type"))
    (kpH : PySem.W.keepIn K (.ref CH) = true)
    (hdH : PySem.W.hasDictIn K CH = true)
    (iiH : PySem.W.findIn K (.ref CH) "__init__" = some (some (.ref f2)))
    (tiH : PySem.W.typeIn K (.ref f2) = some (.type "function"))
    (l2 : K.lookup f2 = some ⟨oc2, od2, .func (PySem.W.fnOf "__init__" "InvalidHeight.__init__" (defArgs s_InvalidHeight___init__) (defBody s_InvalidHeight___init__) (defScope s_InvalidHeight___init__) .none kV2 dc2 pm2 an2 cd2 ct2), sl2⟩)
    (c2 : PySem.W.codeIn K cd2 "InvalidHeight.__init__" = true)
    (k2 : PySem.W.keepIn K (.ref f2) = true)
    (noHvalue : PySem.W.findIn K (.ref CH) "value" = some none)
    (gB : PySem.W.nsIn K mainGlobals "InvalidBounds" = some (some (.ref CB)))
    (xB : K.lookup CB = some (excClassObj nmB qB CB NB bsB [.ref CS, .type "ValueError", .type "Exception", .type "BaseException", .type "object"] true snB subB abB colB ddB m0B m1B m2B m3B m5B "ValueError.__new__"))
    (saB : PySem.W.findIn K (.ref CB) "__setattr__" = some (some (.builtin "object.__setattr__")))
    (gaB : PySem.W.findIn K (.ref CB) "__getattribute__" = some (some (.builtin "BaseException.__getattribute__")))
    (ggB : PySem.W.findIn K (.ref CB) "__getattr__" = some none)
    (exB : PySem.W.subIn K (.ref CB) (.type "BaseException") = some true)
    (tyB : PySem.W.typeIn K (.ref CB) = some (.type "type"))
    (kpB : PySem.W.keepIn K (.ref CB) = true)
    (hdB : PySem.W.hasDictIn K CB = true)
    (iiB : PySem.W.findIn K (.ref CB) "__init__" = some (some (.ref f3)))
    (tiB : PySem.W.typeIn K (.ref f3) = some (.type "function"))
    (l3 : K.lookup f3 = some ⟨oc3, od3, .func (PySem.W.fnOf "__init__" "InvalidBounds.__init__" (defArgs s_InvalidBounds___init__) (defBody s_InvalidBounds___init__) (defScope s_InvalidBounds___init__) .none kV3 dc3 pm3 an3 cd3 ct3), sl3⟩)
    (c3 : PySem.W.codeIn K cd3 "InvalidBounds.__init__" = true)
    (k3 : PySem.W.keepIn K (.ref f3) = true)
    (noBlow : PySem.W.findIn K (.ref CB) "low" = some none)
    (noBhigh : PySem.W.findIn K (.ref CB) "high" = some none)
    (gC : PySem.W.nsIn K mainGlobals "Contradiction" = some (some (.ref CC)))
    (xC : K.lookup CC = some (excClassObj nmC qC CC NC bsC [.ref CS, .type "ValueError", .type "Exception", .type "BaseException", .type "object"] true snC subC abC colC ddC m0C m1C m2C m3C m5C "ValueError.__new__"))
    (saC : PySem.W.findIn K (.ref CC) "__setattr__" = some (some (.builtin "object.__setattr__")))
    (gaC : PySem.W.findIn K (.ref CC) "__getattribute__" = some (some (.builtin "BaseException.__getattribute__")))
    (ggC : PySem.W.findIn K (.ref CC) "__getattr__" = some none)
    (exC : PySem.W.subIn K (.ref CC) (.type "BaseException") = some true)
    (tyC : PySem.W.typeIn K (.ref CC) = some (.type "type"))
    (kpC : PySem.W.keepIn K (.ref CC) = true)
    (hdC : PySem.W.hasDictIn K CC = true)
    (iiC : PySem.W.findIn K (.ref CC) "__init__" = some (some (.ref f4)))
    (tiC : PySem.W.typeIn K (.ref f4) = some (.type "function"))
    (l4 : K.lookup f4 = some ⟨oc4, od4, .func (PySem.W.fnOf "__init__" "Contradiction.__init__" (defArgs s_Contradiction___init__) (defBody s_Contradiction___init__) (defScope s_Contradiction___init__) .none kV4 dc4 pm4 an4 cd4 ct4), sl4⟩)
    (c4 : PySem.W.codeIn K cd4 "Contradiction.__init__" = true)
    (k4 : PySem.W.keepIn K (.ref f4) = true)
    (noCone : PySem.W.findIn K (.ref CC) "one" = some none)
    (noCother : PySem.W.findIn K (.ref CC) "other" = some none)
    (exHH : PySem.W.exmOne K (.ref CH) (.ref CH) = some true)
    (exBH : PySem.W.exmOne K (.ref CB) (.ref CH) = some false)
    (exBB : PySem.W.exmOne K (.ref CB) (.ref CB) = some true)
    (exCC : PySem.W.exmOne K (.ref CC) (.ref CC) = some true)
    (gX : PySem.W.nsIn K mainGlobals "Bounds" = some (some (.ref CX)))
    (cX1 : PySem.W.plainGet K CX Str.empty = true)
    (cX2 : PySem.W.hasDictIn K CX = true)
    (cX3 : PySem.W.plainOver K CX = true)
    (cX4 : PySem.W.findIn K (.ref CX) "__setattr__" = some (some (.builtin "object.__setattr__")))
    (mX1 : PySem.W.makesIn K CX = true)
    (mX2 : PySem.W.findIn K (.ref CX) "__init__" = some (some (.ref f5)))
    (mX3 : PySem.W.isFn K (.ref f5) = true)
    (mX4 : PySem.W.keepIn K (.ref CX) = true)
    (l5 : K.lookup f5 = some ⟨oc5, od5, .func (PySem.W.fnOf "__init__" "Bounds.__init__" (defArgs s_Bounds___init__) (defBody s_Bounds___init__) (defScope s_Bounds___init__) .none kV5 dc5 pm5 an5 cd5 ct5), sl5⟩)
    (c5 : PySem.W.codeIn K cd5 "Bounds.__init__" = true)
    (k5 : PySem.W.keepIn K (.ref f5) = true)
    (nX1 : PySem.W.findIn K (.ref CX) "low" = some none)
    (nX2 : PySem.W.findIn K (.ref CX) "high" = some none)
    (caX : PySem.W.findIn K (.ref CX) "__class__" = some (some (.builtin "object.__class__")))
    (cnX : PySem.W.specialIn K (.builtin "object.__class__") "__get__" = some (some (.builtin "getset_descriptor.__get__")))
    (ctX : PySem.W.takesIn K (.builtin "object.__class__") = some true)
    (cmX : PySem.W.mroIn K CX (.type "object") = some true)
    (sfX : PySem.W.selfFirst K CX = true)
    (kbX : PySem.W.kitOne K (.ref CX) (.ref CX) = some true)
    (rX1 : PySem.W.readsIn K CX (.type "type") = true)
    (rX2 : PySem.W.specialIn K (.ref CX) "__getattribute__" = some (some (.builtin "type.__getattribute__")))
    (e1 : PySem.W.findCls K (.ref CX) (.type "type") "exact" = some (.get (.builtin "classmethod.__get__") (.ref pE) .none (.ref CX)))
    (e2 : PySem.W.recIn K pE "classmethod" = some (.ref f6 :: restE))
    (e3 : PySem.W.fnIn K f6 = true)
    (l6 : K.lookup f6 = some ⟨oc6, od6, .func (PySem.W.fnOf "exact" "Bounds.exact" (defArgs s_Bounds_exact) (defBody s_Bounds_exact) (defScope s_Bounds_exact) .none kV6 dc6 pm6 an6 cd6 ct6), sl6⟩)
    (c6 : PySem.W.codeIn K cd6 "Bounds.exact" = true)
    (k6 : PySem.W.keepIn K (.ref f6) = true)
    (w1 : PySem.W.findIn K (.ref CX) "width" = some (some (.ref pW)))
    (w2 : PySem.W.specialIn K (.ref pW) "__get__" = some (some (.builtin "property.__get__")))
    (w3 : PySem.W.takesIn K (.ref pW) = some true)
    (w4 : PySem.W.recIn K pW "property" = some (.ref f7 :: restW))
    (l7 : K.lookup f7 = some ⟨oc7, od7, .func (PySem.W.fnOf "width" "Bounds.width" (defArgs s_Bounds_width) (defBody s_Bounds_width) (defScope s_Bounds_width) .none kV7 dc7 pm7 an7 cd7 ct7), sl7⟩)
    (c7 : PySem.W.codeIn K cd7 "Bounds.width" = true)
    (k7 : PySem.W.keepIn K (.ref f7) = true)
    (a8 : PySem.W.findIn K (.ref CX) "holds" = some (some (.ref f8)))
    (b8 : PySem.W.isFn K (.ref f8) = true)
    (l8 : K.lookup f8 = some ⟨oc8, od8, .func (PySem.W.fnOf "holds" "Bounds.holds" (defArgs s_Bounds_holds) (defBody s_Bounds_holds) (defScope s_Bounds_holds) .none kV8 dc8 pm8 an8 cd8 ct8), sl8⟩)
    (c8 : PySem.W.codeIn K cd8 "Bounds.holds" = true)
    (k8 : PySem.W.keepIn K (.ref f8) = true)
    (a9 : PySem.W.findIn K (.ref CX) "__contains__" = some (some (.ref f9)))
    (b9 : PySem.W.isFn K (.ref f9) = true)
    (l9 : K.lookup f9 = some ⟨oc9, od9, .func (PySem.W.fnOf "__contains__" "Bounds.__contains__" (defArgs s_Bounds___contains__) (defBody s_Bounds___contains__) (defScope s_Bounds___contains__) .none kV9 dc9 pm9 an9 cd9 ct9), sl9⟩)
    (c9 : PySem.W.codeIn K cd9 "Bounds.__contains__" = true)
    (k9 : PySem.W.keepIn K (.ref f9) = true)
    (a10 : PySem.W.findIn K (.ref CX) "__eq__" = some (some (.ref f10)))
    (b10 : PySem.W.isFn K (.ref f10) = true)
    (l10 : K.lookup f10 = some ⟨oc10, od10, .func (PySem.W.fnOf "__eq__" "Bounds.__eq__" (defArgs s_Bounds___eq__) (defBody s_Bounds___eq__) (defScope s_Bounds___eq__) .none kV10 dc10 pm10 an10 cd10 ct10), sl10⟩)
    (c10 : PySem.W.codeIn K cd10 "Bounds.__eq__" = true)
    (k10 : PySem.W.keepIn K (.ref f10) = true)
    (a11 : PySem.W.findIn K (.ref CX) "__and__" = some (some (.ref f11)))
    (b11 : PySem.W.isFn K (.ref f11) = true)
    (l11 : K.lookup f11 = some ⟨oc11, od11, .func (PySem.W.fnOf "__and__" "Bounds.__and__" (defArgs s_Bounds___and__) (defBody s_Bounds___and__) (defScope s_Bounds___and__) .none kV11 dc11 pm11 an11 cd11 ct11), sl11⟩)
    (c11 : PySem.W.codeIn K cd11 "Bounds.__and__" = true)
    (k11 : PySem.W.keepIn K (.ref f11) = true)
    (a12 : PySem.W.findIn K (.ref CX) "__neg__" = some (some (.ref f12)))
    (b12 : PySem.W.isFn K (.ref f12) = true)
    (l12 : K.lookup f12 = some ⟨oc12, od12, .func (PySem.W.fnOf "__neg__" "Bounds.__neg__" (defArgs s_Bounds___neg__) (defBody s_Bounds___neg__) (defScope s_Bounds___neg__) .none kV12 dc12 pm12 an12 cd12 ct12), sl12⟩)
    (c12 : PySem.W.codeIn K cd12 "Bounds.__neg__" = true)
    (k12 : PySem.W.keepIn K (.ref f12) = true)
    (nf1 : PySem.W.notFirst K CX (.ref CX) = true)
    (nf2 : PySem.W.notFirst K CX (.type "tuple") = true)
    (nf3 : PySem.W.notFirst K CX (.type "int") = true)
    (nf4 : PySem.W.notFirst K CX (.type "list") = true)
    (kt1 : PySem.W.kitOne K (.type "tuple") (.ref CX) = some false)
    (kt2 : PySem.W.kitOne K (.type "int") (.ref CX) = some false)
    (kt3 : PySem.W.kitOne K (.type "list") (.ref CX) = some false)
    (a13 : PySem.W.nsIn K mainGlobals "is_height" = some (some (.ref f13)))
    (l13 : K.lookup f13 = some ⟨oc13, od13, .func (PySem.W.fnOf "is_height" "is_height" (defArgs s_is_height) (defBody s_is_height) (defScope s_is_height) .none kV13 dc13 pm13 an13 cd13 ct13), sl13⟩)
    (c13 : PySem.W.codeIn K cd13 "is_height" = true)
    (k13 : PySem.W.keepIn K (.ref f13) = true)
    (a14 : PySem.W.nsIn K mainGlobals "_law_cell" = some (some (.ref f14)))
    (l14 : K.lookup f14 = some ⟨oc14, od14, .func (PySem.W.fnOf "_law_cell" "_law_cell" (defArgs s__law_cell) (defBody s__law_cell) (defScope s__law_cell) .none kV14 dc14 pm14 an14 cd14 ct14), sl14⟩)
    (c14 : PySem.W.codeIn K cd14 "_law_cell" = true)
    (k14 : PySem.W.keepIn K (.ref f14) = true)
    (a15 : PySem.W.nsIn K mainGlobals "_law_box" = some (some (.ref f15)))
    (l15 : K.lookup f15 = some ⟨oc15, od15, .func (PySem.W.fnOf "_law_box" "_law_box" (defArgs s__law_box) (defBody s__law_box) (defScope s__law_box) .none kV15 dc15 pm15 an15 cd15 ct15), sl15⟩)
    (c15 : PySem.W.codeIn K cd15 "_law_box" = true)
    (k15 : PySem.W.keepIn K (.ref f15) = true)
    (a16 : PySem.W.nsIn K mainGlobals "_law_take" = some (some (.ref f16)))
    (l16 : K.lookup f16 = some ⟨oc16, od16, .func (PySem.W.fnOf "_law_take" "_law_take" (defArgs s__law_take) (defBody s__law_take) (defScope s__law_take) .none kV16 dc16 pm16 an16 cd16 ct16), sl16⟩)
    (c16 : PySem.W.codeIn K cd16 "_law_take" = true)
    (k16 : PySem.W.keepIn K (.ref f16) = true)
    (a17 : PySem.W.nsIn K mainGlobals "_law_drawn" = some (some (.ref f17)))
    (l17 : K.lookup f17 = some ⟨oc17, od17, .func (PySem.W.fnOf "_law_drawn" "_law_drawn" (defArgs s__law_drawn) (defBody s__law_drawn) (defScope s__law_drawn) .none kV17 dc17 pm17 an17 cd17 ct17), sl17⟩)
    (c17 : PySem.W.codeIn K cd17 "_law_drawn" = true)
    (k17 : PySem.W.keepIn K (.ref f17) = true)
    (a18 : PySem.W.nsIn K mainGlobals "_law_refused" = some (some (.ref f18)))
    (l18 : K.lookup f18 = some ⟨oc18, od18, .func (PySem.W.fnOf "_law_refused" "_law_refused" (defArgs s__law_refused) (defBody s__law_refused) (defScope s__law_refused) .none kV18 dc18 pm18 an18 cd18 ct18), sl18⟩)
    (c18 : PySem.W.codeIn K cd18 "_law_refused" = true)
    (k18 : PySem.W.keepIn K (.ref f18) = true)
    (a19 : PySem.W.nsIn K mainGlobals "_law_common" = some (some (.ref f19)))
    (l19 : K.lookup f19 = some ⟨oc19, od19, .func (PySem.W.fnOf "_law_common" "_law_common" (defArgs s__law_common) (defBody s__law_common) (defScope s__law_common) .none kV19 dc19 pm19 an19 cd19 ct19), sl19⟩)
    (c19 : PySem.W.codeIn K cd19 "_law_common" = true)
    (k19 : PySem.W.keepIn K (.ref f19) = true)
    (a20 : PySem.W.nsIn K mainGlobals "_law_doors" = some (some (.ref f20)))
    (l20 : K.lookup f20 = some ⟨oc20, od20, .func (PySem.W.fnOf "_law_doors" "_law_doors" (defArgs s__law_doors) (defBody s__law_doors) (defScope s__law_doors) .none kV20 dc20 pm20 an20 cd20 ct20), sl20⟩)
    (c20 : PySem.W.codeIn K cd20 "_law_doors" = true)
    (k20 : PySem.W.keepIn K (.ref f20) = true)
    (a21 : PySem.W.nsIn K mainGlobals "_law_right" = some (some (.ref f21)))
    (l21 : K.lookup f21 = some ⟨oc21, od21, .func (PySem.W.fnOf "_law_right" "_law_right" (defArgs s__law_right) (defBody s__law_right) (defScope s__law_right) .none kV21 dc21 pm21 an21 cd21 ct21), sl21⟩)
    (c21 : PySem.W.codeIn K cd21 "_law_right" = true)
    (k21 : PySem.W.keepIn K (.ref f21) = true)
    (a22 : PySem.W.nsIn K mainGlobals "law" = some (some (.ref f22)))
    (l22 : K.lookup f22 = some ⟨oc22, od22, .func (PySem.W.fnOf "law" "law" (defArgs s_law) (defBody s_law) (defScope s_law) .none kV22 dc22 pm22 an22 cd22 ct22), sl22⟩)
    (c22 : PySem.W.codeIn K cd22 "law" = true)
    (k22 : PySem.W.keepIn K (.ref f22) = true)
    (a23 : PySem.W.nsIn K mainGlobals "is_whole" = some (some (.ref f23)))
    (l23 : K.lookup f23 = some ⟨oc23, od23, .func (PySem.W.fnOf "is_whole" "is_whole" (defArgs s_is_whole) (defBody s_is_whole) (defScope s_is_whole) .none kV23 dc23 pm23 an23 cd23 ct23), sl23⟩)
    (c23 : PySem.W.codeIn K cd23 "is_whole" = true)
    (k23 : PySem.W.keepIn K (.ref f23) = true)
    (a24 : PySem.W.nsIn K mainGlobals "check_height" = some (some (.ref f24)))
    (l24 : K.lookup f24 = some ⟨oc24, od24, .func (PySem.W.fnOf "check_height" "check_height" (defArgs s_check_height) (defBody s_check_height) (defScope s_check_height) .none kV24 dc24 pm24 an24 cd24 ct24), sl24⟩)
    (c24 : PySem.W.codeIn K cd24 "check_height" = true)
    (k24 : PySem.W.keepIn K (.ref f24) = true)
    (cst0 : PySem.W.nsIn K mainGlobals "MOST_HEIGHT" = some (some (.int MH tk0)))
    (z_len : PySem.W.nsIn K mainGlobals "len" = some none)
    (z_int : PySem.W.nsIn K mainGlobals "int" = some none)
    (z_max : PySem.W.nsIn K mainGlobals "max" = some none)
    (z_min : PySem.W.nsIn K mainGlobals "min" = some none)
    (z_range : PySem.W.nsIn K mainGlobals "range" = some none)
    (z_sorted : PySem.W.nsIn K mainGlobals "sorted" = some none)
    (z_bool : PySem.W.nsIn K mainGlobals "bool" = some none)
    (z_isinstance : PySem.W.nsIn K mainGlobals "isinstance" = some none)
    (z_repr : PySem.W.nsIn K mainGlobals "repr" = some none)
    (z_ValueError : PySem.W.nsIn K mainGlobals "ValueError" = some none)
    : ∃ fd : FuncData, (∀ (s : Shared) (v : Value), BindsTo s fd ⟨[v], []⟩ [("_law_script", v)]) ∧ ∀ base : Heap, K.In base → base.Ns mainGlobals mg → FnOk l.prog w K mg base CX0 10 fa fd ["_law_script"] (spLaw K) := by
  have e := hfa.symm.trans (PySem.W.mg_of X G a22)
  cases e
  have F1 := fun_mk (st := s_SurveyError___init__) l1 c1 k1
  have F2 := fun_mk (st := s_InvalidHeight___init__) l2 c2 k2
  have F3 := fun_mk (st := s_InvalidBounds___init__) l3 c3 k3
  have F4 := fun_mk (st := s_Contradiction___init__) l4 c4 k4
  have F5 := fun_mk (st := s_Bounds___init__) l5 c5 k5
  have F6 := fun_mk (st := s_Bounds_exact) l6 c6 k6
  have F7 := fun_mk (st := s_Bounds_width) l7 c7 k7
  have F8 := fun_mk (st := s_Bounds_holds) l8 c8 k8
  have F9 := fun_mk (st := s_Bounds___contains__) l9 c9 k9
  have F10 := fun_mk (st := s_Bounds___eq__) l10 c10 k10
  have F11 := fun_mk (st := s_Bounds___and__) l11 c11 k11
  have F12 := fun_mk (st := s_Bounds___neg__) l12 c12 k12
  have F13 := fun_mk (st := s_is_height) l13 c13 k13
  have F14 := fun_mk (st := s__law_cell) l14 c14 k14
  have F15 := fun_mk (st := s__law_box) l15 c15 k15
  have F16 := fun_mk (st := s__law_take) l16 c16 k16
  have F17 := fun_mk (st := s__law_drawn) l17 c17 k17
  have F18 := fun_mk (st := s__law_refused) l18 c18 k18
  have F19 := fun_mk (st := s__law_common) l19 c19 k19
  have F20 := fun_mk (st := s__law_doors) l20 c20 k20
  have F21 := fun_mk (st := s__law_right) l21 c21 k21
  have F22 := fun_mk (st := s_law) l22 c22 k22
  have F23 := fun_mk (st := s_is_whole) l23 c23 k23
  have F24 := fun_mk (st := s_check_height) l24 c24 k24
  have b1' := F1.binds (ps := ["self", "message"]) fun _ _ _ _ _ _ us hl => match us, hl with | [_, _], _ => rfl
  have b2' := F2.binds (ps := ["self", "value"]) fun _ _ _ _ _ _ us hl => match us, hl with | [_, _], _ => rfl
  have b3' := F3.binds (ps := ["self", "low", "high"]) fun _ _ _ _ _ _ us hl => match us, hl with | [_, _, _], _ => rfl
  have b4' := F4.binds (ps := ["self", "one", "other"]) fun _ _ _ _ _ _ us hl => match us, hl with | [_, _, _], _ => rfl
  have b5' := F5.binds (ps := ["self", "low", "high"]) fun _ _ _ _ _ _ us hl => match us, hl with | [_, _, _], _ => rfl
  have b6' := F6.binds (ps := ["cls", "height"]) fun _ _ _ _ _ _ us hl => match us, hl with | [_, _], _ => rfl
  have b7' := F7.binds (ps := ["self"]) fun _ _ _ _ _ _ us hl => match us, hl with | [_], _ => rfl
  have b8' := F8.binds (ps := ["self", "other"]) fun _ _ _ _ _ _ us hl => match us, hl with | [_, _], _ => rfl
  have b9' := F9.binds (ps := ["self", "value"]) fun _ _ _ _ _ _ us hl => match us, hl with | [_, _], _ => rfl
  have b10' := F10.binds (ps := ["self", "other"]) fun _ _ _ _ _ _ us hl => match us, hl with | [_, _], _ => rfl
  have b11' := F11.binds (ps := ["self", "other"]) fun _ _ _ _ _ _ us hl => match us, hl with | [_, _], _ => rfl
  have b12' := F12.binds (ps := ["self"]) fun _ _ _ _ _ _ us hl => match us, hl with | [_], _ => rfl
  have b13' := F13.binds (ps := ["value"]) fun _ _ _ _ _ _ us hl => match us, hl with | [_], _ => rfl
  have b14' := F14.binds (ps := ["_law_script", "_law_k"]) fun _ _ _ _ _ _ us hl => match us, hl with | [_, _], _ => rfl
  have b15' := F15.binds (ps := ["_law_cell_here"]) fun _ _ _ _ _ _ us hl => match us, hl with | [_], _ => rfl
  have b16' := F16.binds (ps := ["_law_box_here", "_law_many"]) fun _ _ _ _ _ _ us hl => match us, hl with | [_, _], _ => rfl
  have b17' := F17.binds (ps := ["_law_box_here"]) fun _ _ _ _ _ _ us hl => match us, hl with | [_], _ => rfl
  have b18' := F18.binds (ps := ["_law_least", "_law_most"]) fun _ _ _ _ _ _ us hl => match us, hl with | [_, _], _ => rfl
  have b19' := F19.binds (ps := ["_law_one", "_law_other"]) fun _ _ _ _ _ _ us hl => match us, hl with | [_, _], _ => rfl
  have b20' := F20.binds (ps := ["_law_box_here", "_law_a", "_law_b"]) fun _ _ _ _ _ _ us hl => match us, hl with | [_, _, _], _ => rfl
  have b21' := F21.binds (ps := ["_law_a", "_law_b", "_law_c", "_law_d"]) fun _ _ _ _ _ _ us hl => match us, hl with | [_, _, _, _], _ => rfl
  have b23' := F23.binds (ps := ["value"]) fun _ _ _ _ _ _ us hl => match us, hl with | [_], _ => rfl
  have b24' := F24.binds (ps := ["value"]) fun _ _ _ _ _ _ us hl => match us, hl with | [_], _ => rfl
  have S : SurT K mg CS f1 (.type "type") := ⟨PySem.W.mg_of X G gS, ⟨rS1, rS2⟩, ⟨vS, rfl⟩, k1, PySem.W.mg_none_of X G z_ValueError, vV⟩
  have OH : OexC K CH := ⟨⟨_, _, _, _, _, _, _, _, _, _, _, _, _, _, _, xH, by show PySem.HandSPX.refsVE [.type "ValueError", .type "Exception", .type "BaseException", .type "object"] = true; decide +kernel⟩, saH, exH, tyH, kpH⟩
  have EH : ErrT K mg "InvalidHeight" CH f2 := ⟨PySem.W.mg_of X G gH, OH, iiH, tiH, ⟨gaH, ggH, exH, hdH⟩⟩
  have OB : OexC K CB := ⟨⟨_, _, _, _, _, _, _, _, _, _, _, _, _, _, _, xB, by show PySem.HandSPX.refsVE [.type "ValueError", .type "Exception", .type "BaseException", .type "object"] = true; decide +kernel⟩, saB, exB, tyB, kpB⟩
  have EB : ErrT K mg "InvalidBounds" CB f3 := ⟨PySem.W.mg_of X G gB, OB, iiB, tiB, ⟨gaB, ggB, exB, hdB⟩⟩
  have OC : OexC K CC := ⟨⟨_, _, _, _, _, _, _, _, _, _, _, _, _, _, _, xC, by show PySem.HandSPX.refsVE [.type "ValueError", .type "Exception", .type "BaseException", .type "object"] = true; decide +kernel⟩, saC, exC, tyC, kpC⟩
  have EC : ErrT K mg "Contradiction" CC f4 := ⟨PySem.W.mg_of X G gC, OC, iiC, tiC, ⟨gaC, ggC, exC, hdC⟩⟩
  have XM : Exm K CH CB CC := ⟨exHH, exBH, exBB, exCC, noHvalue, noBlow, noBhigh, noCone, noCother⟩
  have B : BndT K mg CX f5 := ⟨PySem.W.mg_of X G gX, ⟨cX1, cX2, cX3, cX4⟩, ⟨mX1, mX2, mX3, mX4⟩, nX1, nX2, caX, cnX, ctX, cmX, sfX, kbX⟩
  have bt : Bt mg := ⟨PySem.W.mg_none_of X G z_len, PySem.W.mg_none_of X G z_int, PySem.W.mg_none_of X G z_max⟩
  have bh : Bh mg := ⟨PySem.W.mg_none_of X G z_int, PySem.W.mg_none_of X G z_bool, PySem.W.mg_none_of X G z_isinstance, ⟨_, PySem.W.mg_of X G cst0, ⟨_, rfl⟩⟩⟩
  have T : Txt mg := ⟨PySem.W.mg_none_of X G z_len, PySem.W.mg_none_of X G z_int, PySem.W.mg_none_of X G z_max, PySem.W.mg_none_of X G z_min, PySem.W.mg_none_of X G z_range, PySem.W.mg_none_of X G z_sorted⟩
  have mi := PySem.W.mg_none_of X G z_isinstance
  have mx := PySem.W.mg_none_of X G z_max
  have mn := PySem.W.mg_none_of X G z_min
  have mr := PySem.W.mg_none_of X G z_repr
  refine ⟨PySem.W.fnOf "law" "law" (defArgs s_law) (defBody s_law) (defScope s_law) .none kV22 dc22 pm22 an22 cd22 ct22, fun s v => .of_eq rfl, fun base _ _ => ?_⟩
  have C_is_whole : Cal l.prog w K mg base "is_whole" 1 ["value"] (spWholeG K) := ⟨f23, _, ok_is_whole F23 bh, PySem.W.mg_of X G a23, k23, b23'⟩
  have C_is_height : Cal l.prog w K mg base "is_height" 2 ["value"] (spIsHeight K) := ⟨f13, _, ok_is_height F13 bh C_is_whole, PySem.W.mg_of X G a13, k13, b13'⟩
  have C__law_cell : Cal l.prog w K mg base "_law_cell" 1 ["_law_script", "_law_k"] (spCellA K) := ⟨f14, _, ok_cell F14 bt, PySem.W.mg_of X G a14, k14, b14'⟩
  have C__law_box : Cal l.prog w K mg base "_law_box" 1 ["_law_cell_here"] spBox := ⟨f15, _, ok_box F15 bt, PySem.W.mg_of X G a15, k15, b15'⟩
  have C__law_take : Cal l.prog w K mg base "_law_take" 1 ["_law_box_here", "_law_many"] spTake := ⟨f16, _, ok_take F16 bt, PySem.W.mg_of X G a16, k16, b16'⟩
  have C__law_drawn : Cal l.prog w K mg base "_law_drawn" 2 ["_law_box_here"] spDrawn := ⟨f17, _, ok_drawn F17 C__law_take, PySem.W.mg_of X G a17, k17, b17'⟩
  have G1 := ok_survey (P := l.prog) (w := w) (base := base) F1 S
  have G2 := ok_InvalidHeight (P := l.prog) (w := w) (base := base) F2 S OH noHvalue G1 b1'
  have G3 := ok_InvalidBounds (P := l.prog) (w := w) (base := base) F3 S OB noBlow noBhigh G1 b1'
  have G4 := ok_Contradiction (P := l.prog) (w := w) (base := base) F4 S OC noCone noCother G1 b1'
  have GCH := ok_check_height (P := l.prog) (w := w) (base := base) F24 C_is_height EH G2 b2'
  have G5 := ok_init (P := l.prog) (w := w) (base := base) F5 B GCH (PySem.W.mg_of X G a24) k24 b24' EB G3 b3'
  have G6 := ok_exact (P := l.prog) (w := w) (base := base) F6 B G5 b5'
  have G7 := ok_width (P := l.prog) (w := w) (base := base) F7 B
  have G8 := ok_holds (P := l.prog) (w := w) (base := base) F8 B
  have G9 := ok_contains (P := l.prog) (w := w) (base := base) F9 B C_is_height
  have G10 := ok_eq (P := l.prog) (w := w) (base := base) F10 B mi
  have G11 := ok_and (P := l.prog) (w := w) (base := base) F11 B G5 b5' EC G4 b4' mx mn
  have G12 := ok_neg (P := l.prog) (w := w) (base := base) F12 B G5 b5'
  let Z : Adr := { C := CX, fI := f5, CH := CH, fH := f2, CB := CB, fB := f3, CC := CC, fC := f4, pW := pW, fW := f7, pE := pE, fE := f6, fHo := f8, fQ := f10, fCo := f9, fN := f12, fA := f11, mC := .type "type", dI := (PySem.W.fnOf "__init__" "Bounds.__init__" (defArgs s_Bounds___init__) (defBody s_Bounds___init__) (defScope s_Bounds___init__) .none kV5 dc5 pm5 an5 cd5 ct5), dW := (PySem.W.fnOf "width" "Bounds.width" (defArgs s_Bounds_width) (defBody s_Bounds_width) (defScope s_Bounds_width) .none kV7 dc7 pm7 an7 cd7 ct7), dE := (PySem.W.fnOf "exact" "Bounds.exact" (defArgs s_Bounds_exact) (defBody s_Bounds_exact) (defScope s_Bounds_exact) .none kV6 dc6 pm6 an6 cd6 ct6), dHo := (PySem.W.fnOf "holds" "Bounds.holds" (defArgs s_Bounds_holds) (defBody s_Bounds_holds) (defScope s_Bounds_holds) .none kV8 dc8 pm8 an8 cd8 ct8), dQ := (PySem.W.fnOf "__eq__" "Bounds.__eq__" (defArgs s_Bounds___eq__) (defBody s_Bounds___eq__) (defScope s_Bounds___eq__) .none kV10 dc10 pm10 an10 cd10 ct10), dCo := (PySem.W.fnOf "__contains__" "Bounds.__contains__" (defArgs s_Bounds___contains__) (defBody s_Bounds___contains__) (defScope s_Bounds___contains__) .none kV9 dc9 pm9 an9 cd9 ct9), dN := (PySem.W.fnOf "__neg__" "Bounds.__neg__" (defArgs s_Bounds___neg__) (defBody s_Bounds___neg__) (defScope s_Bounds___neg__) .none kV12 dc12 pm12 an12 cd12 ct12), dA := (PySem.W.fnOf "__and__" "Bounds.__and__" (defArgs s_Bounds___and__) (defBody s_Bounds___and__) (defScope s_Bounds___and__) .none kV11 dc11 pm11 an11 cd11 ct11) }
  have KI : KBn K Z.dI ["self", "low", "high"] 1 ["high", "low"] gK gVK := ⟨fun s us ws _ h1 h2 => match us, ws, h1, h2 with | [_], [_, _], _, _ => .of_eq rfl, fun r1 r2 => vals_gK r1 r2⟩
  have KE : KBn K Z.dE ["cls", "height"] 1 ["height"] (fun us ws => us ++ ws) (fun vs zs => vs ++ zs) := ⟨fun s us ws _ h1 h2 => match us, ws, h1, h2 with | [_], [_], _, _ => .of_eq rfl, fun r1 r2 => r1.append r2⟩
  have M : Meths l.prog w K mg base Z :=
    { B := B, EH := EH, EB := EB, EC := EC, X := XM, GI := G5, bI := b5', KI := KI, rd := ⟨rX1, rX2⟩, cm := ⟨e1, ⟨_, e2⟩, e3⟩, GE := G6, bE := b6', KE := KE, pw := ⟨w1, w2, w3, ⟨_, w4⟩⟩, GW := G7, bW := b7', mh := ⟨a8, b8, k8⟩, GHo := G8, bHo := b8',
      fe := a10, ne := b10, GQ := G10, bQ := b10', fc := a9, nc := b9, GC := G9, bC := b9', fn := a12, nn := b12, GN := G12, bN := b12', fa := a11, na := b11, GA := G11, bA := b11', nfC := nf1, nfT := nf2, nfI := nf3, nfL := nf4, kT := kt1, kI := kt2, kL := kt3 }
  have C__law_refused : Cal l.prog w K mg base "_law_refused" 7 ["_law_least", "_law_most"] (spRefused K) := ⟨f18, _, ok_refused F18 B G5 b5' EH EB XM, PySem.W.mg_of X G a18, k18, b18'⟩
  have C__law_common : Cal l.prog w K mg base "_law_common" 8 ["_law_one", "_law_other"] (spCommon CX) := ⟨f19, _, ok_common F19 B a11 b11 G11 b11' EC XM, PySem.W.mg_of X G a19, k19, b19'⟩
  have C__law_doors : Cal l.prog w K mg base "_law_doors" 8 ["_law_box_here", "_law_a", "_law_b"] spDoors := ⟨f20, _, ok_doors (Z := Z) F20 M C__law_take C__law_refused, PySem.W.mg_of X G a20, k20, b20'⟩
  have C__law_right : Cal l.prog w K mg base "_law_right" 9 ["_law_a", "_law_b", "_law_c", "_law_d"] spRight := ⟨f21, _, ok_right (Z := Z) F21 M C__law_common mx mn mr, PySem.W.mg_of X G a21, k21, b21'⟩
  exact ok_law F22 T C__law_cell C__law_box C__law_drawn C__law_doors C__law_right
end K02n
open PySem PySem.W PyProof.Rows
set_option maxRecDepth 100000 in
set_option maxHeartbeats 0 in
theorem PySem.Challenge.cw_surehollows_k02_bounds_and_their_signs_holds : PySem.Challenge.rw_surehollows_k02_bounds_and_their_signs.Holds := by
  w_on; o_law; k_head; (case hw => w_witness2)
  k_fill
  refine L2.walk_of (l := PySem.Challenge.rw_surehollows_k02_bounds_and_their_signs) (n := 63) (k := 10) (x := "_law_script") (CX := fun _ => L2.CX0) (sp := fun w => K02n.spLaw _) rfl (by decide) rfl ⟨rfl, by decide, by decide⟩ (fun w h Y => PySem.W.kIn_of Y) ?F (fun _ _ a ns hl _ hS => ⟨a, ns, rfl, hS, hl, fun _ => rfl⟩) (fun _ _ _ _ _ h => h)
  case F =>
    intro w mg fa h KX G hmg
    refine' K02n.all_mk KX G hmg ?ff_gS ?ff_rS1 ?ff_rS2 ?ff_vS ?ff_vV ?ff_l1 ?ff_c1 ?ff_k1 ?ff_gH ?ff_xH ?ff_saH ?ff_gaH ?ff_ggH ?ff_exH ?ff_tyH ?ff_kpH ?ff_hdH ?ff_iiH ?ff_tiH ?ff_l2 ?ff_c2 ?ff_k2 ?ff_noHvalue ?ff_gB ?ff_xB ?ff_saB ?ff_gaB ?ff_ggB ?ff_exB ?ff_tyB ?ff_kpB ?ff_hdB ?ff_iiB ?ff_tiB ?ff_l3 ?ff_c3 ?ff_k3 ?ff_noBlow ?ff_noBhigh ?ff_gC ?ff_xC ?ff_saC ?ff_gaC ?ff_ggC ?ff_exC ?ff_tyC ?ff_kpC ?ff_hdC ?ff_iiC ?ff_tiC ?ff_l4 ?ff_c4 ?ff_k4 ?ff_noCone ?ff_noCother ?ff_exHH ?ff_exBH ?ff_exBB ?ff_exCC ?ff_gX ?ff_cX1 ?ff_cX2 ?ff_cX3 ?ff_cX4 ?ff_mX1 ?ff_mX2 ?ff_mX3 ?ff_mX4 ?ff_l5 ?ff_c5 ?ff_k5 ?ff_nX1 ?ff_nX2 ?ff_caX ?ff_cnX ?ff_ctX ?ff_cmX ?ff_sfX ?ff_kbX ?ff_rX1 ?ff_rX2 ?ff_e1 ?ff_e2 ?ff_e3 ?ff_l6 ?ff_c6 ?ff_k6 ?ff_w1 ?ff_w2 ?ff_w3 ?ff_w4 ?ff_l7 ?ff_c7 ?ff_k7 ?ff_a8 ?ff_b8 ?ff_l8 ?ff_c8 ?ff_k8 ?ff_a9 ?ff_b9 ?ff_l9 ?ff_c9 ?ff_k9 ?ff_a10 ?ff_b10 ?ff_l10 ?ff_c10 ?ff_k10 ?ff_a11 ?ff_b11 ?ff_l11 ?ff_c11 ?ff_k11 ?ff_a12 ?ff_b12 ?ff_l12 ?ff_c12 ?ff_k12 ?ff_nf1 ?ff_nf2 ?ff_nf3 ?ff_nf4 ?ff_kt1 ?ff_kt2 ?ff_kt3 ?ff_a13 ?ff_l13 ?ff_c13 ?ff_k13 ?ff_a14 ?ff_l14 ?ff_c14 ?ff_k14 ?ff_a15 ?ff_l15 ?ff_c15 ?ff_k15 ?ff_a16 ?ff_l16 ?ff_c16 ?ff_k16 ?ff_a17 ?ff_l17 ?ff_c17 ?ff_k17 ?ff_a18 ?ff_l18 ?ff_c18 ?ff_k18 ?ff_a19 ?ff_l19 ?ff_c19 ?ff_k19 ?ff_a20 ?ff_l20 ?ff_c20 ?ff_k20 ?ff_a21 ?ff_l21 ?ff_c21 ?ff_k21 ?ff_a22 ?ff_l22 ?ff_c22 ?ff_k22 ?ff_a23 ?ff_l23 ?ff_c23 ?ff_k23 ?ff_a24 ?ff_l24 ?ff_c24 ?ff_k24 ?ff_cst0 ?ff_z_len ?ff_z_int ?ff_z_max ?ff_z_min ?ff_z_range ?ff_z_sorted ?ff_z_bool ?ff_z_isinstance ?ff_z_repr ?ff_z_ValueError
    (case ff_gS => first | k_is | rfl | decide +kernel)
    (case ff_rS1 => first | k_is | rfl | decide +kernel)
    (case ff_rS2 => first | k_is | rfl | decide +kernel)
    (case ff_vS => first | k_is | rfl | decide +kernel)
    (case ff_vV => first | k_is | rfl | decide +kernel)
    (case ff_l1 => first | k_is | rfl | decide +kernel)
    (case ff_c1 => first | k_is | rfl | decide +kernel)
    (case ff_k1 => first | k_is | rfl | decide +kernel)
    (case ff_gH => first | k_is | rfl | decide +kernel)
    (case ff_xH => first | k_is | rfl | decide +kernel)
    (case ff_saH => first | k_is | rfl | decide +kernel)
    (case ff_gaH => first | k_is | rfl | decide +kernel)
    (case ff_ggH => first | k_is | rfl | decide +kernel)
    (case ff_exH => first | k_is | rfl | decide +kernel)
    (case ff_tyH => first | k_is | rfl | decide +kernel)
    (case ff_kpH => first | k_is | rfl | decide +kernel)
    (case ff_hdH => first | k_is | rfl | decide +kernel)
    (case ff_iiH => first | k_is | rfl | decide +kernel)
    (case ff_tiH => first | k_is | rfl | decide +kernel)
    (case ff_l2 => first | k_is | rfl | decide +kernel)
    (case ff_c2 => first | k_is | rfl | decide +kernel)
    (case ff_k2 => first | k_is | rfl | decide +kernel)
    (case ff_noHvalue => first | k_is | rfl | decide +kernel)
    (case ff_gB => first | k_is | rfl | decide +kernel)
    (case ff_xB => first | k_is | rfl | decide +kernel)
    (case ff_saB => first | k_is | rfl | decide +kernel)
    (case ff_gaB => first | k_is | rfl | decide +kernel)
    (case ff_ggB => first | k_is | rfl | decide +kernel)
    (case ff_exB => first | k_is | rfl | decide +kernel)
    (case ff_tyB => first | k_is | rfl | decide +kernel)
    (case ff_kpB => first | k_is | rfl | decide +kernel)
    (case ff_hdB => first | k_is | rfl | decide +kernel)
    (case ff_iiB => first | k_is | rfl | decide +kernel)
    (case ff_tiB => first | k_is | rfl | decide +kernel)
    (case ff_l3 => first | k_is | rfl | decide +kernel)
    (case ff_c3 => first | k_is | rfl | decide +kernel)
    (case ff_k3 => first | k_is | rfl | decide +kernel)
    (case ff_noBlow => first | k_is | rfl | decide +kernel)
    (case ff_noBhigh => first | k_is | rfl | decide +kernel)
    (case ff_gC => first | k_is | rfl | decide +kernel)
    (case ff_xC => first | k_is | rfl | decide +kernel)
    (case ff_saC => first | k_is | rfl | decide +kernel)
    (case ff_gaC => first | k_is | rfl | decide +kernel)
    (case ff_ggC => first | k_is | rfl | decide +kernel)
    (case ff_exC => first | k_is | rfl | decide +kernel)
    (case ff_tyC => first | k_is | rfl | decide +kernel)
    (case ff_kpC => first | k_is | rfl | decide +kernel)
    (case ff_hdC => first | k_is | rfl | decide +kernel)
    (case ff_iiC => first | k_is | rfl | decide +kernel)
    (case ff_tiC => first | k_is | rfl | decide +kernel)
    (case ff_l4 => first | k_is | rfl | decide +kernel)
    (case ff_c4 => first | k_is | rfl | decide +kernel)
    (case ff_k4 => first | k_is | rfl | decide +kernel)
    (case ff_noCone => first | k_is | rfl | decide +kernel)
    (case ff_noCother => first | k_is | rfl | decide +kernel)
    (case ff_exHH => first | k_is | rfl | decide +kernel)
    (case ff_exBH => first | k_is | rfl | decide +kernel)
    (case ff_exBB => first | k_is | rfl | decide +kernel)
    (case ff_exCC => first | k_is | rfl | decide +kernel)
    (case ff_gX => first | k_is | rfl | decide +kernel)
    (case ff_cX1 => first | k_is | rfl | decide +kernel)
    (case ff_cX2 => first | k_is | rfl | decide +kernel)
    (case ff_cX3 => first | k_is | rfl | decide +kernel)
    (case ff_cX4 => first | k_is | rfl | decide +kernel)
    (case ff_mX1 => first | k_is | rfl | decide +kernel)
    (case ff_mX2 => first | k_is | rfl | decide +kernel)
    (case ff_mX3 => first | k_is | rfl | decide +kernel)
    (case ff_mX4 => first | k_is | rfl | decide +kernel)
    (case ff_l5 => first | k_is | rfl | decide +kernel)
    (case ff_c5 => first | k_is | rfl | decide +kernel)
    (case ff_k5 => first | k_is | rfl | decide +kernel)
    (case ff_nX1 => first | k_is | rfl | decide +kernel)
    (case ff_nX2 => first | k_is | rfl | decide +kernel)
    (case ff_caX => first | k_is | rfl | decide +kernel)
    (case ff_cnX => first | k_is | rfl | decide +kernel)
    (case ff_ctX => first | k_is | rfl | decide +kernel)
    (case ff_cmX => first | k_is | rfl | decide +kernel)
    (case ff_sfX => first | k_is | rfl | decide +kernel)
    (case ff_kbX => first | k_is | rfl | decide +kernel)
    (case ff_rX1 => first | k_is | rfl | decide +kernel)
    (case ff_rX2 => first | k_is | rfl | decide +kernel)
    (case ff_e1 => first | k_is | rfl | decide +kernel)
    (case ff_e2 => first | k_is | rfl | decide +kernel)
    (case ff_e3 => first | k_is | rfl | decide +kernel)
    (case ff_l6 => first | k_is | rfl | decide +kernel)
    (case ff_c6 => first | k_is | rfl | decide +kernel)
    (case ff_k6 => first | k_is | rfl | decide +kernel)
    (case ff_w1 => first | k_is | rfl | decide +kernel)
    (case ff_w2 => first | k_is | rfl | decide +kernel)
    (case ff_w3 => first | k_is | rfl | decide +kernel)
    (case ff_w4 => first | k_is | rfl | decide +kernel)
    (case ff_l7 => first | k_is | rfl | decide +kernel)
    (case ff_c7 => first | k_is | rfl | decide +kernel)
    (case ff_k7 => first | k_is | rfl | decide +kernel)
    (case ff_a8 => first | k_is | rfl | decide +kernel)
    (case ff_b8 => first | k_is | rfl | decide +kernel)
    (case ff_l8 => first | k_is | rfl | decide +kernel)
    (case ff_c8 => first | k_is | rfl | decide +kernel)
    (case ff_k8 => first | k_is | rfl | decide +kernel)
    (case ff_a9 => first | k_is | rfl | decide +kernel)
    (case ff_b9 => first | k_is | rfl | decide +kernel)
    (case ff_l9 => first | k_is | rfl | decide +kernel)
    (case ff_c9 => first | k_is | rfl | decide +kernel)
    (case ff_k9 => first | k_is | rfl | decide +kernel)
    (case ff_a10 => first | k_is | rfl | decide +kernel)
    (case ff_b10 => first | k_is | rfl | decide +kernel)
    (case ff_l10 => first | k_is | rfl | decide +kernel)
    (case ff_c10 => first | k_is | rfl | decide +kernel)
    (case ff_k10 => first | k_is | rfl | decide +kernel)
    (case ff_a11 => first | k_is | rfl | decide +kernel)
    (case ff_b11 => first | k_is | rfl | decide +kernel)
    (case ff_l11 => first | k_is | rfl | decide +kernel)
    (case ff_c11 => first | k_is | rfl | decide +kernel)
    (case ff_k11 => first | k_is | rfl | decide +kernel)
    (case ff_a12 => first | k_is | rfl | decide +kernel)
    (case ff_b12 => first | k_is | rfl | decide +kernel)
    (case ff_l12 => first | k_is | rfl | decide +kernel)
    (case ff_c12 => first | k_is | rfl | decide +kernel)
    (case ff_k12 => first | k_is | rfl | decide +kernel)
    (case ff_nf1 => first | k_is | rfl | decide +kernel)
    (case ff_nf2 => first | k_is | rfl | decide +kernel)
    (case ff_nf3 => first | k_is | rfl | decide +kernel)
    (case ff_nf4 => first | k_is | rfl | decide +kernel)
    (case ff_kt1 => first | k_is | rfl | decide +kernel)
    (case ff_kt2 => first | k_is | rfl | decide +kernel)
    (case ff_kt3 => first | k_is | rfl | decide +kernel)
    (case ff_a13 => first | k_is | rfl | decide +kernel)
    (case ff_l13 => first | k_is | rfl | decide +kernel)
    (case ff_c13 => first | k_is | rfl | decide +kernel)
    (case ff_k13 => first | k_is | rfl | decide +kernel)
    (case ff_a14 => first | k_is | rfl | decide +kernel)
    (case ff_l14 => first | k_is | rfl | decide +kernel)
    (case ff_c14 => first | k_is | rfl | decide +kernel)
    (case ff_k14 => first | k_is | rfl | decide +kernel)
    (case ff_a15 => first | k_is | rfl | decide +kernel)
    (case ff_l15 => first | k_is | rfl | decide +kernel)
    (case ff_c15 => first | k_is | rfl | decide +kernel)
    (case ff_k15 => first | k_is | rfl | decide +kernel)
    (case ff_a16 => first | k_is | rfl | decide +kernel)
    (case ff_l16 => first | k_is | rfl | decide +kernel)
    (case ff_c16 => first | k_is | rfl | decide +kernel)
    (case ff_k16 => first | k_is | rfl | decide +kernel)
    (case ff_a17 => first | k_is | rfl | decide +kernel)
    (case ff_l17 => first | k_is | rfl | decide +kernel)
    (case ff_c17 => first | k_is | rfl | decide +kernel)
    (case ff_k17 => first | k_is | rfl | decide +kernel)
    (case ff_a18 => first | k_is | rfl | decide +kernel)
    (case ff_l18 => first | k_is | rfl | decide +kernel)
    (case ff_c18 => first | k_is | rfl | decide +kernel)
    (case ff_k18 => first | k_is | rfl | decide +kernel)
    (case ff_a19 => first | k_is | rfl | decide +kernel)
    (case ff_l19 => first | k_is | rfl | decide +kernel)
    (case ff_c19 => first | k_is | rfl | decide +kernel)
    (case ff_k19 => first | k_is | rfl | decide +kernel)
    (case ff_a20 => first | k_is | rfl | decide +kernel)
    (case ff_l20 => first | k_is | rfl | decide +kernel)
    (case ff_c20 => first | k_is | rfl | decide +kernel)
    (case ff_k20 => first | k_is | rfl | decide +kernel)
    (case ff_a21 => first | k_is | rfl | decide +kernel)
    (case ff_l21 => first | k_is | rfl | decide +kernel)
    (case ff_c21 => first | k_is | rfl | decide +kernel)
    (case ff_k21 => first | k_is | rfl | decide +kernel)
    (case ff_a22 => first | k_is | rfl | decide +kernel)
    (case ff_l22 => first | k_is | rfl | decide +kernel)
    (case ff_c22 => first | k_is | rfl | decide +kernel)
    (case ff_k22 => first | k_is | rfl | decide +kernel)
    (case ff_a23 => first | k_is | rfl | decide +kernel)
    (case ff_l23 => first | k_is | rfl | decide +kernel)
    (case ff_c23 => first | k_is | rfl | decide +kernel)
    (case ff_k23 => first | k_is | rfl | decide +kernel)
    (case ff_a24 => first | k_is | rfl | decide +kernel)
    (case ff_l24 => first | k_is | rfl | decide +kernel)
    (case ff_c24 => first | k_is | rfl | decide +kernel)
    (case ff_k24 => first | k_is | rfl | decide +kernel)
    (case ff_cst0 => first | k_is | rfl | decide +kernel)
    (case ff_z_len => first | k_is | rfl | decide +kernel)
    (case ff_z_int => first | k_is | rfl | decide +kernel)
    (case ff_z_max => first | k_is | rfl | decide +kernel)
    (case ff_z_min => first | k_is | rfl | decide +kernel)
    (case ff_z_range => first | k_is | rfl | decide +kernel)
    (case ff_z_sorted => first | k_is | rfl | decide +kernel)
    (case ff_z_bool => first | k_is | rfl | decide +kernel)
    (case ff_z_isinstance => first | k_is | rfl | decide +kernel)
    (case ff_z_repr => first | k_is | rfl | decide +kernel)
    (case ff_z_ValueError => first | k_is | rfl | decide +kernel)
