import PyProof.Rows.All
import Wide.All
import OpenK.AllK
import Wide.FinOn
import HandS.ForMost
import HandS.Wide
import HandS.IsInst
import HandS.RaiseMore
import HandS.Defaults
import HandS.EndBits
import HandS.ForExc
import HandS.ExcInit
import HandS.ExcField
import HandS.ClsMeth
import HandS.Property
import HandS.MakeKw
import HandS.SlotsOwn
import HandS.TryMany
import KE.SortData
import KE.DatumOrd
import KE.SortCalls
import HandS.DictComp
import HandS.Sort
import HandS.Conv
import HandS.MakeKwOnly
import HandS.Walk
import PySem.Challenge.RW_surehollows_k01_heights_and_names
set_option Elab.async false
set_option linter.all false
set_option maxRecDepth 100000
/-! Words that the proofs of these laws share: a callee with all that its call wants, a module's name, the drawn numbers. -/
namespace L9
open PySem PySem.Spec PyProof.Rows L2

/-- the module's name x holds v -/
def GlV (mg : Str → Option Value) (x : Str) (v : V) : Prop := ∃ u, mg x = some u ∧ RelV v u

/-- the def x, with all that a call of it wants -/
structure Cal (P : Program) (w : World) (K : PySem.W.Frag) (mg : Str → Option Value) (base : Heap) (x : Str) (k : Nat) (ps : List Str) (sp : Sp) : Prop where
  ex : ∃ (f : Addr) (fd : FuncData), FnOk P w K mg base CX0 k f fd ps sp ∧ mg x = some (.ref f) ∧ PySem.W.keepIn K (.ref f) = true ∧ Binds K fd ps []

section
variable {X : Cx}
theorem pe_cal {x : Str} {k : Nat} {ps : List Str} {sp : Sp} {p pos : Pos} {e : Expr} {es : List Expr} {t : TA} (C : Cal X.prog X.w X.K X.mg X.base x k ps sp) (hr : Room k X.A) (hg : Gl X x) (ha : PA X (e :: es) t)
    (hdb : (x == ("__debug__" : Str)) = false := by decide) (he : starEach (e :: es) X.env = (false, eval e X.env) :: starEach es X.env := by rfl) (hpl : (backTo pos (starEach es X.env)).any (·.1) = false := by rfl) :
    PE X (.Call (.Name x p) (e :: es) [] pos) (tCall sp [] E0 t) := by
  obtain ⟨f, fd, G, m, kp, b⟩ := C.ex
  exact pe_call G hr hg m kp b .nil pass0 ha hdb he hpl
theorem pe_gl {x : Str} {v : V} {pos : Pos} (h : GlV X.mg x v) (hg : Gl X x := by rfl) (hd : (x == ("__debug__" : Str)) = false := by decide) : PE X (.Name x pos) (tC v) := by
  obtain ⟨u, hm, r⟩ := h
  exact pe_glob hg hm r hd
theorem pe_ty {x : Str} {T : String} {pos : Pos} (hg : Gl X x) (hm : X.mg x = none) (hv : bootBuiltins x = some (.type T) := by decide +kernel) (hn : x ≠ "__name__" := by decide) (hd : (x == ("__debug__" : Str)) = false := by decide) : PE X (.Name x pos) (tC (.ty T)) :=
  pe_bltn hg hm hv rfl hn hd
/-- True, False as texts -/
def blT (b : Bool) : Str := if b then "True" else "False"
theorem blT_inj {a b : Bool} (h : blT a = blT b) : a = b := by
  cases a <;> cases b
  · rfl
  · exact absurd h (by decide +kernel)
  · exact absurd h (by decide +kernel)
  · rfl
theorem blT_dec (a b : Bool) : decide (V.str (blT a) = V.str (blT b)) = decide (a = b) := by
  by_cases h : a = b
  · subst h
    rw [decide_eq_true rfl, decide_eq_true rfl]
  · rw [decide_eq_false h, decide_eq_false]
    intro z
    exact h (blT_inj (V.str.inj z))
theorem call_repr_bl : CallR X (.builtin "repr") (fun xs H Q => ∃ b, xs = [.bl b] ∧ Q (.str (blT b)) H) := by
  intro pins s σ H xs us Q I r h
  obtain ⟨b, rfl, q⟩ := h
  obtain ⟨u, rfl, rb⟩ := vals1 r
  cases (show u = Value.bool b from rb)
  exact PySem.P.repr_of_bool ⟨.str _, H, I.tok _, ⟨_, rfl⟩, q⟩
/-- s * 2 of one sign -/
theorem op_mul_str2 : OpR X (binaryOp .Mult) (fun x y H Q => ∃ (z : Str) (n : Int), x = .str z ∧ y = .int n ∧ MulOk z n ∧ Q (.str (Txt.mul z n)) H) := by
  intro pins s σ H x y v u Q I rx ry h
  obtain ⟨z, n, rfl, rfl, hz, q⟩ := h
  obtain ⟨t, rfl⟩ := rx
  obtain ⟨t', rfl⟩ := ry
  exact SB.mul hz fun t' k => ⟨.str (Txt.mul z n), H, I.tok _, ⟨_, rfl⟩, q⟩
/-- the def x, called with n values by place and the keywords ks -/
structure CalK (P : Program) (w : World) (K : PySem.W.Frag) (mg : Str → Option Value) (base : Heap) (x : Str) (k : Nat) (ps : List Str) (n : Nat) (ks : List Str) (gV : List V → List V → List V) (sp : Sp) : Prop where
  ex : ∃ (f : Addr) (fd : FuncData) (g : List Value → List Value → List Value), FnOk P w K mg base CX0 k f fd ps sp ∧ mg x = some (.ref f) ∧ PySem.W.keepIn K (.ref f) = true ∧ KBn K fd ps n ks g gV
/-- f(k = v, ..): keywords alone -/
theorem pe_calK0 {x : Str} {k : Nat} {ps ks : List Str} {gV : List V → List V → List V} {sp : Sp} {p pos : Pos} {kws : List Keyword} {tk : TA} (C : CalK X.prog X.w X.K X.mg X.base x k ps 0 ks gV sp) (hr : Room k X.A) (hg : Gl X x) (hkw : PK X kws tk)
    (hall : (backToKw pos (keywordEach kws X.env)).all (·.1.isSome) = true := by rfl) (hks : (backToKw pos (keywordEach kws X.env)).filterMap (·.1) = ks := by rfl)
    (hdb : (x == ("__debug__" : Str)) = false := by decide) (hpl : ((backTo pos (starEach [] X.env)).any (·.1) || (backToKw pos (keywordEach kws X.env)).any (·.1.isNone)) = false := by rfl) :
    PE X (.Call (.Name x p) [] kws pos) (tCallN 0 ks.length sp gV E0 tNil tk) := by
  obtain ⟨f, fd, g, G, m, kp, b⟩ := C.ex
  refine ⟨fun pins s σ H Q I h => ?_⟩
  refine wpAny_Call_Name_kw (ld_glob I hg m ?_ hdb)
  refine PySem.W.callWith_KW0 (h₀ := X.base) I.ok.mod.kin kp hall (thn (hkw.run pos pins s σ H _ I h) fun ws s2 ⟨zs, H2, I2, rz, l1, l2, q2⟩ => ⟨I2.kIn, ?_⟩) hpl
  rw [hks]
  exact run_fnN (us := []) G hr b pass0 I2 .nil rz l1 l2 q2
theorem tyes {A B : Hp → Prop} {σ : L2.St} {H : Hp} (h : A H) : tYes σ H fun b H3 => if b = true then A H3 else B H3 := by
  unfold tYes
  show if true = true then A H else B H
  rw [if_pos rfl]
  exact h
/-- a comprehension over a text -/
theorem lc_str {x : Str} {g : TG} {tt : TT} {te : TE} {vs : List Nat} {σ : L2.St} {H1 : Hp} {D : Addr} {Qd : Hp → Prop} (Pv : Nat → Hp → Prop) (h0 : Pv 0 (upd H1 D (.lst [])))
    (hs : ∀ i c H, x.cps[i]? = some c → Pv i H → g (.str ⟨#[c]⟩) (wipe σ vs) H fun σ2 H2 => wipe σ2 vs = wipe σ vs ∧ tt σ2 H2 fun b H3 =>
      if b = true then te σ2 H3 fun y H4 => ∃ acc, H4 D = some (.lst acc) ∧ acc.length < sizeLine ∧ Pv (i + 1) (upd H4 D (.lst (acc ++ [y]))) else Pv (i + 1) H3) (hd : ∀ H, Pv x.cps.size H → Qd H) :
    ∃ W : Nat → Nat → Hp → Prop, (∃ m, W 0 m (upd H1 D (.lst []))) ∧ ∀ i m H, W i m H →
      ((Its x).stop i H ∧ Qd H) ∨ ((Its x).go i H ∧ ∃ Nx : Hp → Prop, (∀ H', Nx H' → ∃ m', m' < m ∧ W (i + 1) m' H') ∧ ∀ y H', (Its x).yld i H y H' → g y (wipe σ vs) H' fun σ2 H2 => wipe σ2 vs = wipe σ vs ∧ tt σ2 H2 fun b H3 =>
        if b = true then te σ2 H3 fun y H4 => ∃ acc, H4 D = some (.lst acc) ∧ acc.length < sizeLine ∧ Nx (upd H4 D (.lst (acc ++ [y]))) else Nx H3) := by
  refine ⟨fun i m H => m = x.cps.size - i ∧ i ≤ x.cps.size ∧ Pv i H, ⟨x.cps.size, by simp, Nat.zero_le _, h0⟩, ?_⟩
  rintro i m H ⟨rfl, hi, p⟩
  by_cases hlt : i < x.cps.size
  · refine .inr ⟨hlt, Pv (i + 1), fun H' p' => ⟨x.cps.size - (i + 1), by omega, rfl, hlt, p'⟩, fun y H' hy => ?_⟩
    obtain ⟨e, c, hc, ey⟩ := hy
    subst e ey
    exact hs i c _ hc p
  · have e : i = x.cps.size := by omega
    subst e
    exact .inl ⟨Nat.le_refl _, hd H p⟩
end
theorem hu64 {A : Around} {k : Nat} (hr : Room k A) : A.units + 64 < cLine := Nat.lt_of_le_of_lt (Nat.add_le_add_left (by omega) _) hr.units

/-! ### heaps -/
theorem same_upd {H : Hp} {p : Addr} {o : HO} (h : H p = none) : Same H (upd H p o) := fun b x e => by
  rw [upd_ne (ne_of_none e h)]
  exact e

/-! ### data -/
theorem canLay_strs : ∀ l : List Str, (∀ x ∈ l, PyData.strOk x = true) → PyData.canLayAll0 (l.map PyData.str) = true
  | [], _ => by simp [PyData.canLayAll0]
  | x :: l, h => by simp [PyData.canLayAll0, PyData.canLay0, canLay_strs l (fun y hy => h y (List.mem_cons_of_mem _ hy)), h x List.mem_cons_self]
theorem depth_strs : ∀ l : List Str, PyData.depthAll (l.map PyData.str) = 0
  | [] => by simp [PyData.depthAll]
  | x :: l => by simp [PyData.depthAll, PyData.depth, depth_strs l]
theorem shaped_strs (l : List Str) (h : ∀ x ∈ l, PyData.strOk x = true) : SeqAt.shaped (.list (l.map PyData.str)) = true := by
  unfold SeqAt.shaped
  simp [PyData.canLay0, canLay_strs l h, PyData.depth, depth_strs l]
theorem shaped_nil : SeqAt.shaped (.list []) = true := shaped_strs [] (fun _ h => nomatch h)
theorem strOk_one {z : Str} (hz : PyData.strOk z = true) {c : Nat} (hc : c ∈ z.cps.toList) : PyData.strOk ⟨#[c]⟩ = true := by
  unfold PyData.strOk at hz ⊢
  rw [Array.all_eq_true'] at hz
  have h1 := hz c (Array.mem_toList_iff.mp hc)
  simpa using h1
theorem dp_strs {K : PySem.W.Frag} {H : Hp} : ∀ l : List Str, DpAll K H (l.map V.str) (l.map PyData.str)
  | [] => .nil
  | x :: l => .cons (.str x) (dp_strs l)
theorem eqv_strs_nil : ∀ l : List Str, PyData.eqv (.list (l.map PyData.str)) (.list []) = l.isEmpty
  | [] => by simp [PyData.eqv, PyData.eqvAll]
  | x :: l => by simp [PyData.eqv, PyData.eqvAll]
/-! ### names -/
def inL (c : Nat) : Bool := decide (c ∈ ("abcdefghijklmnopqrstuvwxyz" : Str).cps.toList)
theorem filter_all : ∀ l : List Nat, ((l.filter fun c => !inL c).map fun c => (⟨#[c]⟩ : Str)).isEmpty = l.all inL
  | [] => rfl
  | c :: l => by
    rw [List.filter_cons, List.all_cons]
    cases h : inL c with
    | true =>
      rw [Bool.not_true, if_neg Bool.false_ne_true, Bool.true_and]
      exact filter_all l
    | false =>
      rw [Bool.not_false, if_pos rfl]
      rfl
def lets : Str := "abcdefghijklmnopqrstuvwxyz"
/-- whether all signs of a text are letters -/
def allLets (z : Str) : Bool := z.cps.toList.all fun c => decide (c ∈ lets.cps.toList)
def nameB (z : Str) : Bool := decide ((1 : Int) ≤ (z.length : Int)) && decide ((z.length : Int) ≤ 8) && allLets z
/-- a value of a kind that is known and no T -/
def Off (K : PySem.W.Frag) (H : Hp) (T : String) (v : V) : Prop := ∃ t : String, TyX K H v (.type t) ∧ kitB t T = some false
/-- the law's own look at a text -/
def spNamed : Sp := fun vs H Q _ => ∃ z : Str, vs = [.str z] ∧ z.length ≤ sizeLine ∧ PyData.strOk z = true ∧ ∀ H', Same H H' → Q (.bl (nameB z)) H'
def spIsName (K : PySem.W.Frag) : Sp := fun vs H Q _ => ∃ v : V, vs = [v] ∧ ((∃ z : Str, v = .str z ∧ z.length ≤ sizeLine ∧ ∀ H', Same H H' → Q (.bl (nameB z)) H') ∨ (Off K H "str" v ∧ Q (.bl false) H))
def MH : Int := 10 ^ 12
def heightB (i : Int) : Bool := decide (-MH ≤ i) && decide (i ≤ MH)
def spIsHeight (K : PySem.W.Frag) : Sp := fun vs H Q _ => ∃ v : V, vs = [v] ∧ ((∃ i : Int, v = .int i ∧ Q (.bl (heightB i)) H) ∨ ((∃ b, v = .bl b) ∧ Q (.bl false) H) ∨ (Off K H "int" v ∧ Q (.bl false) H))
/-! ### the drawn numbers -/
/-- a box whose numbers were drawn at most n times -/
def BoxV (n : Nat) (xs : List V) : Prop := ∃ x y z : Int, xs = [.int x, .int y, .int z] ∧ 0 ≤ x ∧ 0 ≤ y ∧ y < 2147483629 ∧ 0 ≤ z ∧ z ≤ n
def BoxAt (H : Hp) (b : Addr) (n : Nat) : Prop := ∃ xs, H b = some (.lst xs) ∧ BoxV n xs
theorem BoxV.mono {n m : Nat} {xs : List V} (h : BoxV n xs) (hnm : n ≤ m) : BoxV m xs := by
  obtain ⟨x, y, z, e, h1, h2, h3, h4, h5⟩ := h
  exact ⟨x, y, z, e, h1, h2, h3, h4, by omega⟩
def spTake : Sp := fun vs H Q _ => ∃ (b : Addr) (m : Int) (n : Nat), vs = [.ref b, .int m] ∧ BoxAt H b n ∧ 0 < m ∧ m ≤ 10 ^ 15 ∧ n ≤ 1000000 ∧
  ∀ (r : Int) (xs : List V), 0 ≤ r → r < m → BoxV (n + 1) xs → Q (.int r) (upd H b (.lst xs))
def spBox : Sp := fun vs H Q _ => ∃ c : Int, vs = [.int c] ∧ ∀ (p : Addr) (xs : List V), H p = none → BoxV 0 xs → Q (.ref p) (upd H p (.lst xs))
def spCellA (K : PySem.W.Frag) : Sp := fun vs H Q _ => ∃ (l : Addr) (ns : List Int) (j : Int), vs = [.ref l, .int j] ∧ SqL K H l (ns.map V.int) ∧ ns.length ≤ 63 ∧ 0 ≤ j ∧ j ≤ 1000 ∧ ∀ c : Int, Q (.int c) H
/-- a turn's heap: what stood at its start (H0) stands, and the box b, made behind it, was drawn from at most n times -/
structure Trn (H0 H : Hp) (b : Addr) (n : Nat) : Prop where
  same : Same H0 H
  free : H0 b = none
  box : BoxAt H b n
theorem Trn.take {H0 H : Hp} {b : Addr} {n : Nat} (t : Trn H0 H b n) {xs : List V} (h : BoxV (n + 1) xs) : Trn H0 (upd H b (.lst xs)) b (n + 1) :=
  ⟨fun c o e => by
    rw [upd_ne (ne_of_none e t.free)]
    exact t.same c o e, t.free, ⟨xs, upd_same, h⟩⟩
theorem Trn.go {H0 H H' : Hp} {b : Addr} {n : Nat} (t : Trn H0 H b n) (s : Same H H') : Trn H0 H' b n := by
  obtain ⟨xs, e, h⟩ := t.box
  exact ⟨t.same.trans s, t.free, ⟨xs, s _ _ e, h⟩⟩
theorem Trn.ne {H0 H : Hp} {b p : Addr} {n : Nat} (t : Trn H0 H b n) (np : H p = none) : p ≠ b := by
  intro e
  obtain ⟨xs, hb, _⟩ := t.box
  rw [e, hb] at np
  cases np
theorem Same.new {H H' : Hp} {p : Addr} {o : HO} (s : Same H H') (np : H' p = none) : Same H (upd H' p o) := s.trans (same_upd np)
theorem Same.at {H H' : Hp} {p : Addr} {o : HO} (s : Same H H') (np : H p = none) : Same H (upd H' p o) := fun b x e => by
  rw [upd_ne (ne_of_none e np)]
  exact s b x e
theorem Trn.at {H0 H : Hp} {b p : Addr} {n : Nat} {o : HO} (t : Trn H0 H b n) (np : H0 p = none) (hpb : p ≠ b) : Trn H0 (upd H p o) b n := by
  obtain ⟨xs, e, h⟩ := t.box
  exact ⟨Same.at t.same np, t.free, xs, (upd_ne hpb.symm).trans e, h⟩
theorem Trn.new {H0 H : Hp} {b p : Addr} {n : Nat} {o : HO} (t : Trn H0 H b n) (np : H p = none) : Trn H0 (upd H p o) b n := t.go (same_upd np)
/-- from H to H' at most the box b was changed, among what stood -/
structure Drw (H H' : Hp) (b : Addr) (n : Nat) : Prop where
  keep : ∀ q o, q ≠ b → H q = some o → H' q = some o
  box : BoxAt H' b n
theorem Trn.drw {H0 H H' : Hp} {b : Addr} {n m : Nat} (t : Trn H0 H b n) (d : Drw H H' b m) : Trn H0 H' b m :=
  ⟨fun q o e => d.keep q o (ne_of_none e t.free) (t.same q o e), t.free, d.box⟩
theorem Drw.take {H H' : Hp} {b : Addr} {n : Nat} {xs : List V} (d : Drw H H' b n) (h : BoxV (n + 1) xs) : Drw H (upd H' b (.lst xs)) b (n + 1) :=
  ⟨fun q o hq e => (upd_ne hq).trans (d.keep q o hq e), xs, upd_same, h⟩
theorem Drw.refl {H : Hp} {b : Addr} {n : Nat} (h : BoxAt H b n) : Drw H H b n := ⟨fun _ _ _ e => e, h⟩
theorem Drw.new {H H' : Hp} {b p : Addr} {n : Nat} {o : HO} (d : Drw H H' b n) (np : H' p = none) : Drw H (upd H' p o) b n := by
  obtain ⟨xs, e, h⟩ := d.box
  exact ⟨fun q u hq e2 => same_upd np _ _ (d.keep q u hq e2), xs, same_upd np _ _ e, h⟩
theorem Drw.go {H H' H2 : Hp} {b : Addr} {n : Nat} (d : Drw H H' b n) (s : Same H' H2) : Drw H H2 b n := by
  obtain ⟨xs, e, h⟩ := d.box
  exact ⟨fun q u hq e2 => s _ _ (d.keep q u hq e2), xs, s _ _ e, h⟩
theorem Drw.trans {H H' H2 : Hp} {b : Addr} {n m : Nat} (d : Drw H H' b n) (e : Drw H' H2 b m) : Drw H H2 b m := ⟨fun q u hq h => e.keep q u hq (d.keep q u hq h), e.box⟩
theorem Drw.ne {H H' : Hp} {b p : Addr} {n : Nat} (d : Drw H H' b n) (np : H' p = none) : p ≠ b := by
  intro e
  obtain ⟨xs, h, _⟩ := d.box
  rw [e, h] at np
  cases np
/-! ### words -/
theorem join_signs : ∀ cs : List Nat, Str.join (⟨#[]⟩ : Str) (cs.map fun c => (⟨#[c]⟩ : Str)) = ⟨cs.toArray⟩
  | [] => rfl
  | [c] => rfl
  | c :: d :: r => by
    have ih := join_signs (d :: r)
    show ((⟨#[c]⟩ : Str) ++ (⟨#[]⟩ : Str)) ++ Str.join (⟨#[]⟩ : Str) ((d :: r).map fun c => (⟨#[c]⟩ : Str)) = _
    rw [ih]
    show (⟨(#[c] ++ #[]) ++ (d :: r).toArray⟩ : Str) = ⟨(c :: d :: r).toArray⟩
    congr 1
    simp
theorem txt_join_signs (cs : List Nat) : Txt.join (⟨#[]⟩ : Str) (cs.map fun c => (⟨#[c]⟩ : Str)) = ⟨cs.toArray⟩ := by
  show Builtin.Str.glued _ _ = _
  rw [StrLaws.glued_eq_join]
  exact join_signs cs
theorem sum_signs : ∀ cs : List Nat, ((cs.map fun c => (⟨#[c]⟩ : Str)).map (·.length)).sum = cs.length
  | [] => rfl
  | c :: r => by
    rw [List.map_cons, List.map_cons, List.sum_cons, sum_signs r, List.length_cons]
    show 1 + r.length = r.length + 1
    omega
theorem ok_of_codes {z : Str} (h : ∀ c ∈ z.cps.toList, c < 1114112) : PyData.strOk z = true := by
  unfold PyData.strOk
  rw [Array.all_eq_true']
  intro c hc
  exact decide_eq_true (h c (Array.mem_toList_iff.mpr hc))
theorem codes_of_ok {z : Str} (h : PyData.strOk z = true) : ∀ c ∈ z.cps.toList, c < 1114112 := by
  intro c hc
  unfold PyData.strOk at h
  rw [Array.all_eq_true'] at h
  exact of_decide_eq_true (h c (Array.mem_toList_iff.mp hc))
theorem ok_app {a b : Str} (ha : PyData.strOk a = true) (hb : PyData.strOk b = true) : PyData.strOk (a ++ b) = true := by
  refine ok_of_codes fun c hc => ?_
  have e : (a ++ b).cps.toList = a.cps.toList ++ b.cps.toList := by
    show (a.cps ++ b.cps).toList = _
    rw [Array.toList_append]
  rw [e] at hc
  rcases List.mem_append.mp hc with h | h
  · exact codes_of_ok ha c h
  · exact codes_of_ok hb c h
theorem len_app (a b : Str) : (a ++ b).length = a.length + b.length := by
  show (a.cps ++ b.cps).size = _
  rw [Array.size_append]
  rfl
theorem ok_cut {z : Str} (h : PyData.strOk z = true) (lo hi : Option Int) : PyData.strOk (cutS z lo hi) = true := by
  refine ok_of_codes fun c hc => ?_
  unfold cutS at hc
  exact codes_of_ok h c (List.mem_of_mem_drop (List.mem_of_mem_take hc))
theorem len_cut (z : Str) (lo hi : Option Int) : (cutS z lo hi).length ≤ z.length := by
  unfold cutS
  show (List.toArray _).size ≤ z.cps.size
  rw [List.size_toArray, List.length_take, List.length_drop, Array.length_toList]
  omega
theorem mul_one_sign (c : Nat) : MulOk ⟨#[c]⟩ 2 ∧ Txt.mul ⟨#[c]⟩ 2 = ⟨#[c, c]⟩ := by
  refine ⟨⟨by decide, fun _ _ => ?_, fun _ _ => ?_⟩, ?_⟩
  · show ¬ ((1 : Int) > (2 ^ 63 - 1) / 2)
    decide
  · show Builtin.Str.tooLong (1 * 2) = false
    decide
  · unfold Txt.mul
    rw [if_neg (by decide), if_neg (by show ¬ (((2 : Int) == 1 || (1 : Nat) == 0) = true); decide)]
    rfl
theorem allLets_of {z : Str} (h : ∀ c ∈ z.cps.toList, c ∈ lets.cps.toList) : allLets z = true := by
  unfold allLets
  rw [List.all_eq_true]
  exact fun c hc => decide_eq_true (h c hc)
theorem lets_small : ∀ c ∈ lets.cps.toList, c < 1114112 := by decide +kernel
theorem lets_len : lets.cps.toList.length = 26 := by decide +kernel
theorem off_non {K : PySem.W.Frag} {H : Hp} {T : String} (h : kitB "NoneType" T = some false) : Off K H T .non := ⟨_, .base .non, h⟩
theorem off_bl {K : PySem.W.Frag} {H : Hp} {T : String} {b : Bool} (h : kitB "bool" T = some false) : Off K H T (.bl b) := ⟨_, .base (.bl b), h⟩
theorem off_int {K : PySem.W.Frag} {H : Hp} {T : String} {b : Int} (h : kitB "int" T = some false) : Off K H T (.int b) := ⟨_, .base (.int b), h⟩
theorem off_str {K : PySem.W.Frag} {H : Hp} {T : String} {b : Str} (h : kitB "str" T = some false) : Off K H T (.str b) := ⟨_, .base (.str b), h⟩
theorem off_lst {K : PySem.W.Frag} {H : Hp} {T : String} {p : Addr} {xs : List V} (e : H p = some (.lst xs)) (h : kitB "list" T = some false) : Off K H T (.ref p) := ⟨_, .base (.lst e), h⟩
theorem off_tup {K : PySem.W.Frag} {H : Hp} {T : String} {p : Addr} {xs : List V} (e : H p = some (.tup xs)) (h : kitB "tuple" T = some false) : Off K H T (.ref p) := ⟨_, .base (.tup e), h⟩
theorem off_dK {K : PySem.W.Frag} {H : Hp} {T : String} {p : Addr} {xs : List (Key × V)} (e : H p = some (.dK xs)) (h : kitB "dict" T = some false) : Off K H T (.ref p) := ⟨_, .base (.dK e), h⟩
theorem k_NoneType_str : kitB "NoneType" "str" = some false := by decide +kernel
theorem k_bool_str : kitB "bool" "str" = some false := by decide +kernel
theorem k_int_str : kitB "int" "str" = some false := by decide +kernel
theorem k_list_str : kitB "list" "str" = some false := by decide +kernel
theorem k_tuple_str : kitB "tuple" "str" = some false := by decide +kernel
theorem k_dict_str : kitB "dict" "str" = some false := by decide +kernel
theorem k_NoneType_int : kitB "NoneType" "int" = some false := by decide +kernel
theorem k_str_int : kitB "str" "int" = some false := by decide +kernel
theorem k_list_int : kitB "list" "int" = some false := by decide +kernel
theorem k_tuple_int : kitB "tuple" "int" = some false := by decide +kernel
theorem k_dict_int : kitB "dict" "int" = some false := by decide +kernel
/-- the built-ins that the drawn numbers and is_height want -/
structure Bt (mg : Str → Option Value) : Prop where
  m_len : mg "len" = none
  m_int : mg "int" = none
  m_max : mg "max" = none
structure Bh (mg : Str → Option Value) : Prop where
  m_int : mg "int" = none
  m_bool : mg "bool" = none
  m_isinstance : mg "isinstance" = none
  m_MOST_HEIGHT : GlV mg "MOST_HEIGHT" (.int MH)
theorem kit_bi : kitB "bool" "int" = some true := by decide +kernel
theorem kit_bb : kitB "bool" "bool" = some true := by decide +kernel
theorem kit_ii : kitB "int" "int" = some true := by decide +kernel
theorem kit_ib : kitB "int" "bool" = some false := by decide +kernel
theorem kit_ss : kitB "str" "str" = some true := by decide +kernel
/-- a value that is no int -/
def NoI (K : PySem.W.Frag) (H : Hp) (v : V) : Prop := (∃ b, v = .bl b) ∨ Off K H "int" v
/-- a value that is no height -/
def NoH (K : PySem.W.Frag) (H : Hp) (v : V) : Prop := (∃ i, v = .int i ∧ heightB i = false) ∨ NoI K H v
theorem TyX.mono {K : PySem.W.Frag} {H H' : Hp} {v : V} {t : Value} (s : Same H H') (h : TyX K H v t) : TyX K H' v t := by
  cases h with
  | base h =>
    refine .base ?_
    cases h with
    | non => exact .non
    | bl x => exact .bl x
    | int i => exact .int i
    | str x => exact .str x
    | flt x => exact .flt x
    | lst e => exact .lst (s _ _ e)
    | frz e => exact .frz (s _ _ e)
    | tup e => exact .tup (s _ _ e)
    | dK e => exact .dK (s _ _ e)
    | dT e => exact .dT (s _ _ e)
    | ins e cl ha hn ht hm => exact .ins (s _ _ e) cl ha hn ht hm
  | byt b => exact .byt b
  | set e => exact .set (s _ _ e)
  | kList e c => exact .kList e c
  | kTuple e c => exact .kTuple e c
  | kDict e c => exact .kDict e c
  | fTuple e => exact .fTuple (s _ _ e)
  | fDict e => exact .fDict (s _ _ e)
theorem Off.mono {K : PySem.W.Frag} {H H' : Hp} {T : String} {v : V} (s : Same H H') (h : Off K H T v) : Off K H' T v := by
  obtain ⟨t, h1, h2⟩ := h
  exact ⟨t, TyX.mono s h1, h2⟩
theorem NoI.mono {K : PySem.W.Frag} {H H' : Hp} {v : V} (s : Same H H') (h : NoI K H v) : NoI K H' v := h.imp id (Off.mono s)
theorem NoH.mono {K : PySem.W.Frag} {H H' : Hp} {v : V} (s : Same H H') (h : NoH K H v) : NoH K H' v := h.imp id (NoI.mono s)
/-- how is_height answers a value that is no height -/
theorem isH_no {K : PySem.W.Frag} {H : Hp} {v : V} {Q : VK} {E : XK} (h : NoH K H v) (q : Q (.bl false) H) : spIsHeight K ([v] ++ []) H Q E := by
  rcases h with ⟨i, rfl, hi⟩ | h | h
  · refine ⟨_, rfl, .inl ⟨i, rfl, ?_⟩⟩
    rw [hi]
    exact q
  · exact ⟨_, rfl, .inr (.inl ⟨h, q⟩)⟩
  · exact ⟨_, rfl, .inr (.inr ⟨h, q⟩)⟩
theorem isH_yes {K : PySem.W.Frag} {H : Hp} {i : Int} {Q : VK} {E : XK} (h : heightB i = true) (q : Q (.bl true) H) : spIsHeight K ([V.int i] ++ []) H Q E := by
  refine ⟨_, rfl, .inl ⟨i, rfl, ?_⟩⟩
  rw [h]
  exact q
end L9

/-! Own classes: what is called on a class, made in a try, compared, added by the class's own defs; except clauses with names. -/
namespace L9
open PySem PySem.Spec PyProof.Rows L2

section
variable {X : Cx} {CX : CXT} {k : Nat} {C f g p : Addr} {fd : FuncData} {ps : List Str} {sp : Sp} {x m : Str} {p1 p2 pos : Pos} {e o : Expr} {es : List Expr} {t : TA} {ta tb : TE}

/-- the wish of a call, by the caller's slots; a fixed one too -/
theorem passAt_of {E : XK} (h : Passes CX X E) : ∀ σ, PassesAt CX X σ E := fun σ pins H s e s' I c => h pins σ H s e s' I c
theorem pass0A {E : L2.St → XK} : ∀ σ, PassesAt CX0 X σ (E σ) := fun _ _ _ _ _ _ _ h => h.elim

/-- C0.__init__(e, ..), C0 an own class whose __init__ is the def at f -/
theorem pe_cinit {C0 : Addr} {mc : Value} {E : L2.St → XK} {pl : Sem Bool} (hg : Gl X x) (hm : X.mg x = some (.ref C0)) (r : ClX.CRead X.K C0 mc) (c : ClX.CVal X.K C0 mc m (.ref f) (.ref f)) (hk : PySem.W.keepIn X.K (.ref f) = true)
    (F : FnOk X.prog X.w X.K X.mg X.base CX k f fd ps sp) (hr : Room k X.A) (hb : Binds X.K fd ps []) (hx : ∀ σ, PassesAt CX X σ (E σ)) (ha : PA X (e :: es) t)
    (hst : starEach (e :: es) X.env = (false, eval e X.env) :: starEach es X.env := by rfl) (hpl : (backTo pos (starEach es X.env)).any (·.1) = false := by rfl) (hdb : (x == ("__debug__" : Str)) = false := by decide)
    (ht : eval (.Call (.Attribute (.Name x p1) m p2) (e :: es) [] pos) X.env = (do
      let ov ← eval (.Name x p1) X.env
      standAt p2.atName
      let (f, first) ← holding [ov] (getMethod ov m pl)
      callWith pos f first (backTo pos (starEach (e :: es) X.env)) (backToKw pos (keywordEach [] X.env))) := by rfl) :
    PE X (.Call (.Attribute (.Name x p1) m p2) (e :: es) [] pos) (tCallS sp E t) := by
  refine ⟨fun pins s σ H Q I h => ?_⟩
  refine PySem.W.methodCall_KW (pl := pl) (ld_glob I hg hm ?_ hdb) ht
  refine PySem.W.method_cls I.kIn r.ga (ClX.getcval_ok I r c fun s1 I1 => ?_)
  refine PySem.W.callWith_K (first := []) (h₀ := X.base) I.ok.mod.kin hk (thn (ha.run pos pins s1 σ H _ I1 h) fun us s2 ⟨vs, H2, I2, rv, q⟩ => ⟨I2.kIn, ?_⟩) hst hpl
  exact run_fnS F hr hb (hx σ) I2 rv q

/-- in an except suite -/
theorem pe_fldS {a : Addr} {l : List (Addr × Obj)} {e : Expr} {f : Str} {pos : Pos} {ta : TE} (he : PE (X.suite a l) e ta) (hb : attributeBase e f X.env (eval e X.env) = eval e X.env := by rfl) : PE (X.suite a l) (.Attribute e f pos) (tFld X.K ta f) := pe_fld he hb
theorem op_eqDS {a : Addr} {l : List (Addr × Obj)} (hu : X.A.units + 64 < cLine) : OpR (X.suite a l) (compareOp .Eq) (rEqD X.K) := op_eqD (X := X.suite a l) hu
/-! ### an instance made where what is raised is wished for by the slots -/
theorem run_makeS {E : L2.St → XK} {pins : List (Addr × Obj)} {σ : L2.St} {H : Hp} {s : Shared} {Q : VK} {us : List Value} {vs : List V} (M : Mk X.K C f) (F : FnOk X.prog X.w X.K X.mg X.base CX k f fd ps sp) (hr : Room (k + 1) X.A)
    (hb : Binds X.K fd ps []) (hx : PassesAt CX X σ (E σ) ∨ True) (hx2 : ∀ (H2 : Hp) (s2 : Shared) (e : Value) (s' : Shared), Inv X pins σ H2 s2 → CX X.stack H2 s2 (E σ) e s' → X.xe e s') (I : Inv X pins σ H s) (rv : Vals vs us)
    (h : ∀ y dy, H y = none → H dy = none → dy ≠ y → sp (.ref y :: vs) (upd (upd H dy (.own y)) y (.ins C dy [])) (fun v H2 => v = .non ∧ Q (.ref y) H2) (E σ)) :
    wpAny (model X.prog X.w) X.A (call (.ref C) us) (EP X pins σ Q) X.xe s := by
  have hq := h (s.heap.objs.size + 1) s.heap.objs.size (I.hok.fresh (Nat.le_succ _)) (I.hok.fresh (Nat.le_refl _)) (Nat.ne_of_lt (Nat.lt_succ_self _))
  have J := Inv.made (C := C) I
  have rr : Vals (V.ref (s.heap.objs.size + 1) :: vs) (Value.ref (s.heap.objs.size + 1) :: us) := .cons rfl rv
  have ln : (Value.ref (s.heap.objs.size + 1) :: us).length = ps.length := by
    have z := rr.length
    rw [F.len _ _ _ _ hq] at z
    exact z.symm
  have bb := hb _ (Value.ref (s.heap.objs.size + 1) :: us) J.kIn (by rw [List.append_nil]; exact ln)
  rw [List.append_nil] at bb
  refine wpAny_call (make_map (f := f) I.kIn M.makes M.init (beq_iff_eq.mp M.fn) (codeAny_mono (F.run _ X.stack _ _ ⟨Value.ref (s.heap.objs.size + 1) :: us, []⟩ _ _ _ (E σ) (hr.make C us [])
    (J.env0.make C us []) bb rr hq) fun a s' z => ?_))
  cases a with
  | error e => exact hx2 _ _ e s' J z
  | ok fl =>
    cases fl with
    | ret u =>
      obtain ⟨v, H', I3, r3, ev, q3⟩ := J.after z
      subst ev
      exact ⟨r3, ⟨V.ref (s.heap.objs.size + 1), H', I3, rfl, q3⟩⟩
    | next => exact z.elim
    | brk => exact z.elim
    | cont => exact z.elim
def tMakeS (C : Addr) (sp : Sp) (E : L2.St → XK) (t : TA) : TE := fun σ H Q => t σ H fun vs H1 => ∀ y dy, H1 y = none → H1 dy = none → dy ≠ y → sp (.ref y :: vs) (upd (upd H1 dy (.own y)) y (.ins C dy [])) (fun v H2 => v = .non ∧ Q (.ref y) H2) (E σ)
/-- C(e, ..) -/
theorem pe_makeS {E : L2.St → XK} (M : Mk X.K C f) (F : FnOk X.prog X.w X.K X.mg X.base CX k f fd ps sp) (hr : Room (k + 1) X.A) (hb : Binds X.K fd ps []) (hx : ∀ σ, PassesAt CX X σ (E σ)) (hg : Gl X x) (hm : X.mg x = some (.ref C))
    (ha : PA X (e :: es) t) (hdb : (x == ("__debug__" : Str)) = false := by decide) (hst : starEach (e :: es) X.env = (false, eval e X.env) :: starEach es X.env := by rfl) (hpl : (backTo pos (starEach es X.env)).any (·.1) = false := by rfl) :
    PE X (.Call (.Name x p1) (e :: es) [] pos) (tMakeS C sp E t) := by
  refine ⟨fun pins s σ H Q I h => ?_⟩
  refine wpAny_Call_Name_kw (ld_glob I hg hm ?_ hdb)
  refine PySem.W.callWith_K (h₀ := X.base) I.ok.mod.kin M.kp (thn (ha.run pos pins s σ H _ I h) fun us s1 ⟨vs, H1, I1, rv, q⟩ => ⟨I1.kIn, ?_⟩) hst hpl
  exact run_makeS M F hr hb (.inr trivial) (fun H2 s2 e s' J z => hx σ pins H2 s2 e s' J z) I1 rv q
/-- cls(e, ..), cls a slot that holds the class at C -/
def tMakeL (i : Nat) (C : Addr) (sp : Sp) (E : L2.St → XK) (t : TA) : TE := fun σ H Q => σ[i]? = some (some (.ref C)) ∧ tMakeS C sp E t σ H Q
theorem pe_makeL {E : L2.St → XK} {i : Nat} (M : Mk X.K C f) (F : FnOk X.prog X.w X.K X.mg X.base CX k f fd ps sp) (hr : Room (k + 1) X.A) (hb : Binds X.K fd ps []) (hx : ∀ σ, PassesAt CX X σ (E σ)) (hN : X.N[i]? = some x) (hv : Vis X.env.scope x)
    (ha : PA X (e :: es) t) (hdb : (x == ("__debug__" : Str)) = false := by decide) (hcd : (x == ("__classdict__" : Str)) = false := by decide) (hst : starEach (e :: es) X.env = (false, eval e X.env) :: starEach es X.env := by rfl)
    (hpl : (backTo pos (starEach es X.env)).any (·.1) = false := by rfl) : PE X (.Call (.Name x p1) (e :: es) [] pos) (tMakeL i C sp E t) := by
  refine ⟨fun pins s σ H Q I h => ?_⟩
  obtain ⟨hs, h⟩ := h
  refine wpAny_Call_Name_kw (thn ((pe_var (pos := p1) hN hv hdb hcd).run pins s σ H (fun v H1 => v = .ref C ∧ H1 = H) I ⟨.ref C, hs, rfl, rfl⟩) fun u s1 ⟨v, H1, I1, r1, z⟩ => ?_)
  obtain ⟨rfl, rfl⟩ := z
  cases r1
  refine PySem.W.callWith_K (h₀ := X.base) I.ok.mod.kin M.kp (thn (ha.run pos pins s1 σ _ _ I1 h) fun us s2 ⟨vs, H2, I2, rv, q⟩ => ⟨I2.kIn, ?_⟩) hst hpl
  exact run_makeS M F hr hb (.inr trivial) (fun H3 s3 e s' J z => hx σ pins H3 s3 e s' J z) I2 rv q

/-! ### class methods, their wish by the slots -/
theorem code_fnS {E : L2.St → XK} {pins : List (Addr × Obj)} {σ : L2.St} {H : Hp} {s : Shared} {Q : VK} {us : List Value} {kw : List (Str × Value)} {bs : List Value} {ws : List V} (F : FnOk X.prog X.w X.K X.mg X.base CX k g fd ps sp) (hr : Room k X.A)
    (bd : BindsTo s fd ⟨us, kw⟩ (ps.zip bs)) (hx : PassesAt CX X σ (E σ)) (I : Inv X pins σ H s) (rv : Vals ws bs) (h : sp ws H Q (E σ)) :
    codeAny (model X.prog X.w) X.A (.call (.ref g) ⟨us, kw⟩) (fun a s' => match a with | .ok (.ret v) => EP X pins σ Q v s' | .ok _ => False | .error e => X.xe e s') s := by
  refine codeAny_mono (F.run X.A X.stack s H ⟨us, kw⟩ bs ws Q (E σ) hr I.env0 bd rv h) fun a s' z => ?_
  cases a with
  | error e => exact hx pins H s e s' I z
  | ok fl =>
    cases fl with
    | ret u => exact I.after z
    | next => exact z.elim
    | brk => exact z.elim
    | cont => exact z.elim
/-- C.m(e, ..) -/
def tCm (C : Addr) (sp : Sp) (E : L2.St → XK) (ta : TE) (t : TA) : TE := fun σ H Q => ta σ H fun x H1 => x = .ref C ∧ t σ H1 fun vs H2 => sp (.ref C :: vs) H2 Q (E σ)
theorem pe_cmS {mc : Value} {E : L2.St → XK} {pl : Sem Bool} (he : PE X o ta) (r : ClX.CRead X.K C mc) (c : ClX.CMet X.K C mc m p g) (F : FnOk X.prog X.w X.K X.mg X.base CX k g fd ps sp) (hb : Binds X.K fd ps []) (hr : Room k X.A) (hx : ∀ σ, PassesAt CX X σ (E σ)) (ha : PA X (e :: es) t)
    (hst : starEach (e :: es) X.env = (false, eval e X.env) :: starEach es X.env := by rfl) (hpl : (backTo pos (starEach es X.env)).any (·.1) = false := by rfl)
    (ht : eval (.Call (.Attribute o m p2) (e :: es) [] pos) X.env = (do
      let ov ← eval o X.env
      standAt p2.atName
      let (f, first) ← holding [ov] (getMethod ov m pl)
      callWith pos f first (backTo pos (starEach (e :: es) X.env)) (backToKw pos (keywordEach [] X.env))) := by rfl) :
    PE X (.Call (.Attribute o m p2) (e :: es) [] pos) (tCm C sp E ta t) := by
  refine ⟨fun pins s σ H Q I h => ?_⟩
  refine PySem.W.methodCall_KW (pl := pl) (thn (he.run pins s σ H _ I h) fun u s1 ⟨x, H1, I1, rx, ex, q⟩ => ?_) ht
  subst ex
  obtain rfl : u = Value.ref C := rx
  refine ClX.getmethcm_ok I1 r c fun s2 I2 => ?_
  refine ClX.callwith_cm I2 (ClX.base_none I1 (Nat.le_refl _)) c.fi (thn (ha.run pos _ s2 σ H1 _ I2 q) fun us s3 ⟨vs, H2, I3, rv, q2⟩ => ⟨⟨ClX.pin_at I3, I3.kIn⟩, ?_⟩) hst hpl
  have rr : Vals (.ref C :: vs) (Value.ref C :: us) := .cons rfl rv
  have ln : (Value.ref C :: us).length = ps.length := by
    rw [← rr.length]
    exact F.len _ _ _ _ q2
  have bd := hb s3 (Value.ref C :: us) I3.kIn (by rw [List.append_nil]; exact ln)
  rw [List.append_nil] at bd
  have z := wpAny_call (PySem.W.method_call (pos := us) (kw := []) (ClX.pin_at I3) (code_fnS (X := X) (E := E) F hr bd (hx σ) I3 rr q2))
  exact thn z fun _ _ y => ClX.unpinE y
/-- C.m(k = v, ..) -/
def tCmK (n : Nat) (C : Addr) (sp : Sp) (gV : List V → List V → List V) (E : L2.St → XK) (ta : TE) (tk : TA) : TE := fun σ H Q => ta σ H fun x H1 => x = .ref C ∧ tk σ H1 fun zs H2 => zs.length = n ∧ sp (gV [.ref C] zs) H2 Q (E σ)
theorem pe_cmK0 {mc : Value} {E : L2.St → XK} {pl : Sem Bool} {kws : List Keyword} {tk : TA} {ks : List Str} {gg : List Value → List Value → List Value} {gV : List V → List V → List V} (he : PE X o ta) (r : ClX.CRead X.K C mc) (c : ClX.CMet X.K C mc m p g)
    (F : FnOk X.prog X.w X.K X.mg X.base CX k g fd ps sp) (hb : KBn X.K fd ps 1 ks gg gV) (hr : Room k X.A) (hx : ∀ σ, PassesAt CX X σ (E σ)) (hkw : PK X kws tk)
    (hall : (backToKw pos (keywordEach kws X.env)).all (·.1.isSome) = true := by rfl) (hks : (backToKw pos (keywordEach kws X.env)).filterMap (·.1) = ks := by rfl)
    (hpl : ((backTo pos (starEach [] X.env)).any (·.1) || (backToKw pos (keywordEach kws X.env)).any (·.1.isNone)) = false := by rfl)
    (ht : eval (.Call (.Attribute o m p2) [] kws pos) X.env = (do
      let ov ← eval o X.env
      standAt p2.atName
      let (f, first) ← holding [ov] (getMethod ov m pl)
      callWith pos f first (backTo pos (starEach [] X.env)) (backToKw pos (keywordEach kws X.env))) := by rfl) :
    PE X (.Call (.Attribute o m p2) [] kws pos) (tCmK ks.length C sp gV E ta tk) := by
  refine ⟨fun pins s σ H Q I h => ?_⟩
  refine PySem.W.methodCall_KW (pl := pl) (thn (he.run pins s σ H _ I h) fun u s1 ⟨x, H1, I1, rx, ex, q⟩ => ?_) ht
  subst ex
  obtain rfl : u = Value.ref C := rx
  refine ClX.getmethcm_ok I1 r c fun s2 I2 => ?_
  refine PySem.W.callWith_of (P := fun h => PySem.W.MethP X.K s1.heap.objs.size g (.ref C) h) hpl (PySem.W.keeps_M c.fi) (evalArgs_kw2_nil hall (thn (hkw.run pos _ s2 σ H1 _ I2 q) fun us s3 ⟨zs, H2, I3, rz, l1, q2⟩ => ⟨⟨ClX.pin_at I3, I3.kIn⟩, ?_⟩))
  rw [hks]
  have rr := hb.rel (vs := [.ref C]) (us := [Value.ref C]) (.cons rfl .nil) rz
  have bd := hb.to s3 [Value.ref C] us I3.kIn rfl (by rw [← l1]; exact rz.length.symm)
  have z := wpAny_call (PySem.W.method_call (pos := []) (kw := ks.zip us) (ClX.pin_at I3) (code_fnS (X := X) (E := E) F hr bd (hx σ) I3 rr q2))
  exact thn z fun _ _ y => ClX.unpinE y

/-! ### operators by the class's own defs -/
/-- x op y, both of the class at C -/
def rOwnB (C : Addr) (sp : Sp) (E : XK) : R2 := fun x y H Q => ∃ a dx fs b dy gs, x = .ref a ∧ y = .ref b ∧ H a = some (.ins C dx fs) ∧ H b = some (.ins C dy gs) ∧ sp [x, y] H Q E
theorem inst_at {pins : List (Addr × Obj)} {σ : L2.St} {H : Hp} {s : Shared} {a dx : Addr} {fs : List (Str × V)} (I : Inv X pins σ H s) (h : H a = some (.ins C dx fs)) : ∃ od, PySem.W.InstAt s.heap a (PySem.W.instObj C dx) C (some od) := by
  obtain ⟨mA, O, _⟩ := ins_get I.hok h
  obtain ⟨od, J, _⟩ := O.look
  exact ⟨od, J⟩
theorem op_ownB {op : Operator} {E : XK} (hc : PySem.W.selfFirst X.K C = true) (hs : PySem.W.findIn X.K (.ref C) (PySem.dunder op.info.2) = some (some (.ref f))) (hf : PySem.W.isFn X.K (.ref f) = true)
    (F : FnOk X.prog X.w X.K X.mg X.base CX k f fd ps sp) (hr : Room k X.A) (hb : Binds X.K fd ps []) (hx : Passes CX X E) : OpR X (binaryOp op) (rOwnB C sp E) := by
  intro pins s σ H x y v u Q I rx ry h
  obtain ⟨a, dx, fs, b, dy, gs, rfl, rfl, ha, hb2, q⟩ := h
  cases (show v = Value.ref a from rx)
  cases (show u = Value.ref b from ry)
  obtain ⟨od, J⟩ := inst_at I ha
  obtain ⟨od2, J2⟩ := inst_at I hb2
  obtain ⟨mm, hF⟩ := I.fr
  refine PySem.W.binop_K (op := op) hF I.ok.mod.kin J J2.type hc hs hf ?_
  refine wpAny_mono (run_fn (us := [.ref a, .ref b]) (vs := [.ref a, .ref b]) F hr hb .nil hx I (.cons rfl (.cons rfl .nil)) q) (fun w s' z => ?_) fun _ _ z => z
  obtain ⟨z', H', I', rz, qz⟩ := z
  exact SlX.cmpback rz ⟨z', H', I', rz, qz⟩
/-- .. where what is raised is wished for by the slots -/
def tOwnS (C : Addr) (sp : Sp) (E : L2.St → XK) (ta tb : TE) : TE := fun σ H Q => tOp (rOwnB C sp (E σ)) ta tb σ H Q
theorem pe_ownS {op : Operator} {E : L2.St → XK} {a b : Expr} (hc : PySem.W.selfFirst X.K C = true) (hs : PySem.W.findIn X.K (.ref C) (PySem.dunder op.info.2) = some (some (.ref f))) (hf : PySem.W.isFn X.K (.ref f) = true)
    (F : FnOk X.prog X.w X.K X.mg X.base CX k f fd ps sp) (hr : Room k X.A) (hb : Binds X.K fd ps []) (hx : ∀ σ, PassesAt CX X σ (E σ)) (ha : PE X a ta) (hb2 : PE X b tb) : PE X (.BinOp a op b pos) (tOwnS C sp E ta tb) := by
  refine ⟨fun pins s σ H Q I h => ?_⟩
  refine wpAny_BinOp (binT ha hb2 I h fun v u s2 x y H2 I2 rx ry q => ?_)
  obtain ⟨a', dx, fs, b', dy, gs, rfl, rfl, h1, h2, q⟩ := q
  cases (show v = Value.ref a' from rx)
  cases (show u = Value.ref b' from ry)
  obtain ⟨od, J⟩ := inst_at I2 h1
  obtain ⟨od2, J2⟩ := inst_at I2 h2
  obtain ⟨mm, hF⟩ := I2.fr
  refine PySem.W.binop_K (op := op) hF I2.ok.mod.kin J J2.type hc hs hf ?_
  refine wpAny_mono (run_fnS (us := [.ref a', .ref b']) (vs := [.ref a', .ref b']) F hr hb (hx σ) I2 (.cons rfl (.cons rfl .nil)) q) (fun w s' z => ?_) fun _ _ z => z
  obtain ⟨z', H', I', rz, qz⟩ := z
  exact SlX.cmpback rz ⟨z', H', I', rz, qz⟩
/-- -x -/
def rNegO (C : Addr) (sp : Sp) (E : XK) : V → Hp → VK → Prop := fun x H Q => ∃ a dx fs, x = .ref a ∧ H a = some (.ins C dx fs) ∧ sp [x] H Q E
theorem un_negO {E : XK} (hs : PySem.W.findIn X.K (.ref C) "__neg__" = some (some (.ref f))) (hf : PySem.W.isFn X.K (.ref f) = true) (F : FnOk X.prog X.w X.K X.mg X.base CX k f fd ps sp) (hr : Room k X.A) (hb : Binds X.K fd ps []) (hx : Passes CX X E) :
    UnR X (unaryOp .USub) (rNegO C sp E) := by
  intro pins s σ H x v Q I rx h
  obtain ⟨a, dx, fs, rfl, ha, q⟩ := h
  cases (show v = Value.ref a from rx)
  obtain ⟨od, J⟩ := inst_at I ha
  obtain ⟨mm, hF⟩ := I.fr
  exact PySem.W.ksp_neg hF I.ok.mod.kin J hs hf (run_fn (us := [.ref a]) (vs := [.ref a]) F hr hb .nil hx I (.cons rfl .nil) q)
/-- x == y, x of the class at C -/
def rEqO (K : PySem.W.Frag) (C : Addr) (sp : Sp) (E : XK) : R2 := fun x y H Q => ∃ a dx fs t, x = .ref a ∧ H a = some (.ins C dx fs) ∧ TyX K H y t ∧ PySem.W.notFirst K C t = true ∧ sp [x, y] H Q E
theorem op_eqO {E : XK} (hs : PySem.W.findIn X.K (.ref C) (cmpInfo .Eq).2.1 = some (some (.ref f))) (hf : PySem.W.isFn X.K (.ref f) = true) (F : FnOk X.prog X.w X.K X.mg X.base CX k f fd ps sp) (hr : Room k X.A) (hb : Binds X.K fd ps []) (hx : Passes CX X E) :
    OpR X (compareOp .Eq) (rEqO X.K C sp E) := by
  intro pins s σ H x y v u Q I rx ry h
  obtain ⟨a, dx, fs, t, rfl, ha, hy, hn, q⟩ := h
  cases (show v = Value.ref a from rx)
  obtain ⟨od, J⟩ := inst_at I ha
  obtain ⟨mm, hF⟩ := I.fr
  obtain ⟨Pk, kx, hP, _⟩ := kit_of I ry hy
  show wpAny _ _ (richCompare .Eq (.ref a) u) _ _ _
  refine PySem.W.cmp_K (op := .Eq) hr.units0 hF I.ok.mod.kin J (kx.ty _ _ I.kIn hP) hn hs hf ?_
  refine wpAny_mono (run_fn (us := [.ref a, u]) (vs := [.ref a, y]) F hr hb .nil hx I (.cons rfl (.cons ry .nil)) q) (fun w s' z => ?_) fun _ _ z => z
  obtain ⟨z', H', I', rz, qz⟩ := z
  exact SlX.cmpback rz ⟨z', H', I', rz, qz⟩
/-- y in x, x of the class at C, its def handing back a bool -/
def rInO (C : Addr) (sp : Sp) (E : XK) : R2 := fun y x H Q => ∃ a dx fs, x = .ref a ∧ H a = some (.ins C dx fs) ∧ sp [x, y] H (fun z H' => ∃ b, z = .bl b ∧ Q z H') E
theorem op_inO {E : XK} (hs : PySem.W.findIn X.K (.ref C) "__contains__" = some (some (.ref f))) (hf : PySem.W.isFn X.K (.ref f) = true) (F : FnOk X.prog X.w X.K X.mg X.base CX k f fd ps sp) (hr : Room k X.A) (hb : Binds X.K fd ps []) (hx : Passes CX X E) :
    OpR X (compareOp .In) (rInO C sp E) := by
  intro pins s σ H y x u v Q I ry rx h
  obtain ⟨a, dx, fs, rfl, ha, q⟩ := h
  cases (show v = Value.ref a from rx)
  obtain ⟨od, J⟩ := inst_at I ha
  obtain ⟨mm, hF⟩ := I.fr
  refine PySem.W.in_K hF I.ok.mod.kin J hs hf ?_
  refine wpAny_mono (run_fn (us := [.ref a, u]) (vs := [.ref a, y]) F hr hb .nil hx I (.cons rfl (.cons ry .nil)) q) (fun w s' z => ?_) fun _ _ z => z
  obtain ⟨z', H', I', rz, b, ez, qz⟩ := z
  subst ez
  cases (show w = Value.bool b from rz)
  exact wpAny_truthy_bool ⟨.bl b, H', I', rfl, qz⟩
end
/-! ### exceptions: the __init__ of the common class, of a class with one field, with two -/
section
variable {P : Program} {w : World} {K : PySem.W.Frag} {mg : Str → Option Value} {base : Heap}
def spSurvey (K : PySem.W.Frag) : Sp := fun vs H Q _ => ∃ (a C : Addr) (v : V), vs = [.ref a, v] ∧ OexC K C ∧ H a = some (exo a C none) ∧ Q .non H
def spErr1 (C : Addr) (f : Str) : Sp := fun vs H Q _ => ∃ (a : Addr) (v : V), vs = [.ref a, v] ∧ H a = some (exo a C none) ∧ ∀ dx, H dx = none → dx ≠ a → Q .non (upd (upd H dx (exd dx [(f, v)])) a (exo a C (some dx)))
def spErr2 (C : Addr) (f g : Str) : Sp := fun vs H Q _ => ∃ (a : Addr) (v u : V), vs = [.ref a, v, u] ∧ H a = some (exo a C none) ∧ ∀ dx H', H dx = none → dx ≠ a → (∀ b, b ≠ a → b ≠ dx → H' b = H b) → H' a = some (exo a C (some dx)) → H' dx = some (exd dx [(g, u), (f, v)]) → Q .non H'
/-- the heap behind a raise: the exception is gone, its dict stays -/
theorem same_gone {H H2 : Hp} {a d : Addr} {fs : List (Str × V)} (na : H a = none) (nd : H d = none) (k : ∀ b, b ≠ a → b ≠ d → H2 b = H b) : Same H (upd (del H2 a) d (.xd fs)) := fun b o e => by
  have h1 : b ≠ d := ne_of_none e nd
  have h2 : b ≠ a := ne_of_none e na
  rw [upd_ne h1, del_ne h2, k b h2 h1]
  exact e
theorem mk_err1 {C : Addr} {f : Str} {Q : XK} {v : V} {H1 : Hp} (h : ∀ (d : Addr) (H' : Hp), Same H1 H' → H1 d = none → H' d = some (.xd [(f, v)]) → Q (.ref C) (some d) H') :
    ([v] : List V).length ≤ 1000 ∧ ∀ a, H1 a = none → spErr1 C f (.ref a :: ([v] ++ [])) (upd H1 a (exo a C none)) (fun z H2 => z = .non ∧ ∃ (d : Addr) (fs : List (Str × V)), H2 a = some (exo a C (some d)) ∧ H2 d = some (exd d fs) ∧ H1 d = none ∧ Q (.ref C) (some d) (upd (del H2 a) d (.xd fs))) (fun _ _ _ => False) := by
  refine ⟨by show 1 ≤ 1000; decide, fun a na => ⟨a, v, rfl, upd_same, fun dx ndx ne => ⟨rfl, dx, [(f, v)], upd_same, ?_, ?_, ?_⟩⟩⟩
  · rw [upd_ne ne, upd_same]
  · rw [upd_ne ne] at ndx
    exact ndx
  · rw [upd_ne ne] at ndx
    refine h dx _ (same_gone na ndx fun b h1 h2 => ?_) ndx upd_same
    rw [upd_ne h1, upd_ne h2, upd_ne h1]
theorem mk_err2 {C : Addr} {f g : Str} {Q : XK} {v u : V} {H1 : Hp} (h : ∀ (d : Addr) (H' : Hp), Same H1 H' → H1 d = none → H' d = some (.xd [(g, u), (f, v)]) → Q (.ref C) (some d) H') :
    ([v, u] : List V).length ≤ 1000 ∧ ∀ a, H1 a = none → spErr2 C f g (.ref a :: ([v, u] ++ [])) (upd H1 a (exo a C none)) (fun z H2 => z = .non ∧ ∃ (d : Addr) (fs : List (Str × V)), H2 a = some (exo a C (some d)) ∧ H2 d = some (exd d fs) ∧ H1 d = none ∧ Q (.ref C) (some d) (upd (del H2 a) d (.xd fs))) (fun _ _ _ => False) := by
  refine ⟨by show 2 ≤ 1000; decide, fun a na => ⟨a, v, u, rfl, upd_same, fun dx H' ndx ne keep ea ed => ⟨rfl, dx, [(g, u), (f, v)], ea, ed, ?_, ?_⟩⟩⟩
  · rw [upd_ne ne] at ndx
    exact ndx
  · rw [upd_ne ne] at ndx
    refine h dx _ (same_gone na ndx fun b h1 h2 => ?_) ndx upd_same
    rw [keep b h1 h2, upd_ne h1]
end
end L9

/-! try .. except X as n: .. except Y as n: .. (several clauses, each with the name in the same slot) -/
namespace L9
open PySem PySem.Spec PyProof.Rows L2

/-- one clause: the class that it names, what its suite does -/
abbrev Clause := Value × (Addr → Value → Option Addr → TS)
/-- what lies behind a suite that had the exception in slot i: the slot is empty again -/
def gone (i : Nat) (D : Ends) : Ends := { nx := fun τ G => D.nx (τ.set i none) G, rt := D.rt, bk := fun τ G => D.bk (τ.set i none) G, ct := fun τ G => D.ct (τ.set i none) G }
/-- what the clauses wish of an exception of the body, one behind the other -/
def wAll (K : PySem.W.Frag) (i : Nat) (out : WX) (D : Ends) : List Clause → WX
  | [] => out
  | c :: r => fun cls d τ G => ∃ b, PySem.W.exmOne K cls c.1 = some b ∧ (b = true → ∀ a, G a = none → c.2 a cls d (gone i D) (τ.set i (some (.ref a))) G) ∧ (b = false → wAll K i out D r cls d τ G)
/-- the suites hold -/
inductive Clauses (X : Cx) (n : Str) : List ExceptHandler → List Clause → Prop
  | nil : Clauses X n [] []
  | cons {x : Str} {c : Value} {ts : Addr → Value → Option Addr → TS} {b0 : Stmt} {bs : List Stmt} {q1 q2 : Pos} {hs : List ExceptHandler} {l : List Clause} (hc : Names X x c)
      (hb : ∀ (a : Addr) (oe : Obj) (cls : Value) (d : Option Addr) (pn : List (Addr × Obj)), Zc cls d oe → (∃ vs, oe.data = .fields vs) → PSs (X.suite a ((a, oe) :: pn)) (b0 :: bs) (ts a cls d)) (r : Clauses X n hs l) :
      Clauses X n (.ExceptHandler (some (.Name x q1)) (some n) (b0 :: bs) q2 :: hs) ((c, ts) :: l)
section
variable {X : Cx} {n : Str} {i : Nat}
theorem ps_try_all {body : List Stmt} {h0 : ExceptHandler} {hs : List ExceptHandler} {l : List Clause} {pos : Pos} {tb : WX → TS} {out : WX} (st : X.stack = X.env :: X.outer) (fr : X.env.frame = some X.env.locals) (nd : X.N.Nodup) (hi : X.N[i]? = some n)
    (hn : X.env.kindOf n = some .local) (tk : Takes X out) (hb : ∀ (W : WX) (pn : List (Addr × Obj)) (xe : Value → Shared → Prop), Takes (X.tr pn xe) W → PassesOwn (model X.prog X.w) X.A X.env xe → PSs (X.tr pn xe) body (tb W)) (hh : Clauses X n (h0 :: hs) l) :
    PS X (.Try body (h0 :: hs) [] [] pos) (fun D σ H => tb (wAll X.K i out D l) D σ H) := by
  refine ⟨fun pins s σ H D I h => ?_⟩
  have ok := I.ok
  have frs' : X.A.frames = some (X.env :: X.outer) := by rw [ok.frames, st]
  refine wpAny_Try_except ?_
  refine wpAny_mono ((hb (wAll X.K i out D l) (X.pn ++ pins) _ (fun u s' air => ?_) PassesOwn.looking).run [] s σ H D (I.toTry _) h) (fun f s1 z => ?_) (fun _ _ z => z)
  · obtain ⟨a, B, sI, pins2, τ, G, cls, d, rfl, J0, nb, up, sky, na, os, ag, wish⟩ := air
    have J : Inv X pins τ G sI := J0.ofTry ok
    rw [st] at sky
    show wpAny (model X.prog X.w) X.A (noteFrame (.ref a) X.env) _ _ _
    refine Sky.land Zc.steady frs' fr sky fun hA flA upA => ?_
    have JA : Inv X pins τ G { s' with heap := hA } := J.landed nb flA.1 (up.trans upA) os ag
    obtain ⟨oA, vA, eA, zA, dA⟩ := flA.there
    have apart : a ∉ frs (X.env :: X.outer) := fun hm => by
      obtain ⟨_, o2, e2, nf⟩ := flA.2.2.1.mem hm
      rw [eA] at e2
      cases e2
      exact nf _ dA
    have aL : a ≠ X.env.locals := fun z => apart (List.mem_filterMap.mpr ⟨X.env, List.mem_cons_self, by rw [fr, z]⟩)
    have aF : a ∉ X.fs := fun hm => by
      obtain ⟨en, m1, m2⟩ := List.mem_filterMap.mp hm
      exact apart (List.mem_filterMap.mpr ⟨en, List.mem_cons_of_mem _ m1, m2⟩)
    have SA := JA.suite eA dA na aL aF
    have each : ∀ {ks : List ExceptHandler} {m : List Clause}, Clauses X n ks m → wAll X.K i out D m cls d τ G → wpAny (model X.prog X.w) X.A (handleBy (.ref a) X.env ks) (SP X pins D) X.xe { s' with heap := hA } := by
      intro ks m hk
      induction hk with
      | nil =>
        intro w
        refine wpAny_handleBy_nil ?_
        obtain ⟨_, _, _, oe, vs, T, oT, us, he, hz, hd, h1, hr⟩ := id flA
        unfold PySem.passOn
        refine wpAny_bind (wpAny_field he hd h1 ?_)
        rw [if_neg (by simp)]
        have fin : wpAny (model X.prog X.w) X.A (setFlight (.ref a) X.env.frame) (fun _ s4 => wpAny (model X.prog X.w) X.A (throw (.ref a) : Sem Flow) (SP X pins D) X.xe s4) X.xe { s' with heap := hA } := by
          rw [fr]
          refine HandSPX.setFlight_upZ flA fun hB hhB upB => wpAny_throw (tk _ _ ?_)
          refine ⟨a, B, sI, pins, τ, G, cls, d, rfl, J, nb, (up.trans upA).trans upB, ?_, na, os, ag, w⟩
          rw [st]
          exact .inr (.inr hhB)
        first
          | exact wpAny_bind (wpAny_pure (wpAny_bind fin))
          | exact wpAny_bind fin
      | @cons x c ts b0 bs q1 q2 ks2 m2 hc hbody r ih =>
        intro w
        obtain ⟨b, e1, yes, no⟩ := w
        refine wpAny_handleBy_cons (codeAny_handlers_test ?_) (by intro q; cases q)
        have tyA : PySem.W.Looks (model X.prog X.w) hA (typeOf (.ref a)) cls := fun A Q E s k q => wpAny_typeOf_ref (k _ _ eA) (by rw [zA.1]; exact q)
        have ans := PySem.W.exm_one (M := model X.prog X.w) (JA.kIn) tyA e1
        have named : ∀ {Q : Value → Shared → Prop} {E : Value → Shared → Prop}, Q c { s' with heap := hA } → wpAny (model X.prog X.w) (X.A.mark (some (.ref a))) (eval (.Name x q1) X.env) Q E { s' with heap := hA } := by
          intro Q E q
          obtain ⟨g1, g2, g3 | ⟨g3, g4, g5⟩⟩ := hc
          · exact ld_glob (X := X.suite a ((a, oA) :: (X.pn ++ pins))) SA g1 g3 q g2
          · exact ld_blt (X := X.suite a ((a, oA) :: (X.pn ++ pins))) SA g1 g3 g4 q g5 g2
        refine named (ans.here ?_)
        cases b with
        | false => exact ih (no rfl)
        | true =>
          refine codeAny_handlers_suite_as ?_
          refine HandSPX.lands_againZ flA fun hC flC upC => ?_
          have JC : Inv X pins τ G { s' with heap := hC } := J.landed nb flC.1 ((up.trans upA).trans upC) os ag
          obtain ⟨oC, vC, eC, zC, dC⟩ := flC.there
          have SC := JC.suite eC dC na aL aF
          refine store_ok (X := X.suite a ((a, oC) :: (X.pn ++ pins))) (v := .ref a) SC nd hi (.inl hn) rfl (fun sD SD => ?_) (.inr hn)
          refine wpAny_mono ((hbody a oC cls d (X.pn ++ pins) zC ⟨_, dC⟩).run [] sD _ G _ SD (yes rfl a na)) (fun f sE hE => ?_) (fun _ _ z => z.elim)
          have over : ∀ {τ6 : L2.St} {G6 : Hp} {Q : Shared → Prop}, Inv (X.suite a ((a, oC) :: (X.pn ++ pins))) [] τ6 G6 sE → (∀ sF, Inv X pins (τ6.set i none) G6 sF → Q sF) →
              wpAny (model X.prog X.w) X.A (do bindName X.env n .none; unbindBehindTheSuite X.env n q2) (fun _ sF => Q sF) X.xe sE := fun S6 hq => gone_ok (S6.unsuite ok) nd hi hn hq
          cases f with
          | next => obtain ⟨τ6, G6, S6, z6⟩ := hE; exact over S6 fun sF JF => ⟨_, _, JF, z6⟩
          | brk => obtain ⟨τ6, G6, S6, z6⟩ := hE; exact over S6 fun sF JF => ⟨_, _, JF, z6⟩
          | cont => obtain ⟨τ6, G6, S6, z6⟩ := hE; exact over S6 fun sF JF => ⟨_, _, JF, z6⟩
          | ret u => obtain ⟨v6, τ6, G6, S6, r6, z6⟩ := hE; exact over S6 fun sF JF => ⟨_, _, _, JF, r6, z6⟩
    exact each hh wish
  · cases f with
    | next => obtain ⟨τ, G, J, q⟩ := z; exact wpAny_execs_nil ⟨τ, G, J.ofTry ok, q⟩
    | brk => obtain ⟨τ, G, J, q⟩ := z; exact ⟨τ, G, J.ofTry ok, q⟩
    | cont => obtain ⟨τ, G, J, q⟩ := z; exact ⟨τ, G, J.ofTry ok, q⟩
    | ret u => obtain ⟨v, τ, G, J, r, q⟩ := z; exact ⟨v, τ, G, J.ofTry ok, r, q⟩
end
end L9

/-! Bounds: what holds of them, and the promises of their methods -/
namespace L9
open PySem PySem.Spec PyProof.Rows L2
/-- an own exception class x at C, its __init__ at f -/
structure ErrT (K : PySem.W.Frag) (mg : Str → Option Value) (x : Str) (C f : Addr) : Prop where
  g : mg x = some (.ref C)
  oe : OexC K C
  iC : PySem.W.findIn K (.ref C) "__init__" = some (some (.ref f))
  tI : PySem.W.typeIn K (.ref f) = some (.type "function")
  xf : XfC K C
/-- the common class at CS, its __init__ at fS -/
structure SurT (K : PySem.W.Frag) (mg : Str → Option Value) (CS fS : Addr) (mS : Value) : Prop where
  g : mg "SurveyError" = some (.ref CS)
  rd : ClX.CRead K CS mS
  vl : ClX.CVal K CS mS "__init__" (.ref fS) (.ref fS)
  kp : PySem.W.keepIn K (.ref fS) = true
  ve : mg "ValueError" = none
  vf : PySem.W.findCls K (.type "ValueError") (.type "type") "__init__" = some (.val (.builtin "ValueError.__init__"))
/-- the class Bounds at C, its __init__ at f -/
structure BndT (K : PySem.W.Frag) (mg : Str → Option Value) (C f : Addr) : Prop where
  g : mg "Bounds" = some (.ref C)
  cl : Cls K C
  mkk : Mk K C f
  nl : NoAttr K C "low"
  nh : NoAttr K C "high"
  ca : PySem.W.findIn K (.ref C) "__class__" = some (some (.builtin "object.__class__"))
  cn : PySem.W.specialIn K (.builtin "object.__class__") "__get__" = some (some (.builtin "getset_descriptor.__get__"))
  ct : PySem.W.takesIn K (.builtin "object.__class__") = some true
  cm : PySem.W.mroIn K C (.type "object") = some true
  sf : PySem.W.selfFirst K C = true
  kb : PySem.W.kitOne K (.ref C) (.ref C) = some true
def bf (l h : Int) : List (Str × V) := [(("low" : Str), .int l), (("high" : Str), .int h)]
theorem bf_low (l h : Int) : (bf l h).lookup ("low" : Str) = some (.int l) := rfl
theorem bf_high (l h : Int) : (bf l h).lookup ("high" : Str) = some (.int h) := by
  unfold bf
  rw [List.lookup_cons, show (("high" : Str) == ("low" : Str)) = false by decide +kernel]
  rfl
theorem bf_no {l h : Int} {m : Str} (h1 : (m == ("low" : Str)) = false) (h2 : (m == ("high" : Str)) = false) : (bf l h).lookup m = none := by
  unfold bf
  rw [List.lookup_cons, h1]
  show ([(("high" : Str), V.int h)]).lookup m = none
  rw [List.lookup_cons, h2]
  rfl
/-- Bounds from l to h at p -/
def BndAt (C : Addr) (H : Hp) (p : Addr) (l h : Int) : Prop := ∃ dx, H p = some (.ins C dx (bf l h))
theorem BndAt.mono {C : Addr} {H H' : Hp} {p : Addr} {l h : Int} (s : Same H H') (b : BndAt C H p l h) : BndAt C H' p l h := by
  obtain ⟨dx, e⟩ := b
  exact ⟨dx, s _ _ e⟩
theorem BndAt.ty {K : PySem.W.Frag} {mg : Str → Option Value} {C f : Addr} (B : BndT K mg C f) {H : Hp} {p : Addr} {l h : Int} (b : BndAt C H p l h) : TyX K H (.ref p) (.ref C) := by
  obtain ⟨dx, e⟩ := b
  exact .base (.ins e B.cl B.ca B.cn B.ct B.cm)
/-- what making Bounds of two values does: it raises the first error that is due, or ok -/
def MakesB (K : PySem.W.Frag) (CH CB : Addr) (v1 v2 : V) (H : Hp) (E : XK) (ok : Int → Int → Prop) : Prop :=
  (NoH K H v1 ∧ ∀ d H', Same H H' → H d = none → H' d = some (.xd [(("value" : Str), v1)]) → E (.ref CH) (some d) H') ∨
  (∃ l, v1 = .int l ∧ heightB l = true ∧ NoH K H v2 ∧ ∀ d H', Same H H' → H d = none → H' d = some (.xd [(("value" : Str), v2)]) → E (.ref CH) (some d) H') ∨
  (∃ l h, v1 = .int l ∧ v2 = .int h ∧ heightB l = true ∧ heightB h = true ∧ h < l ∧ ∀ d H', Same H H' → H d = none → H' d = some (.xd [(("high" : Str), .int h), (("low" : Str), .int l)]) → E (.ref CB) (some d) H') ∨
  (∃ l h, v1 = .int l ∧ v2 = .int h ∧ heightB l = true ∧ heightB h = true ∧ l ≤ h ∧ ok l h)
def spInit (K : PySem.W.Frag) (C CH CB : Addr) : Sp := fun vs H Q E => ∃ (p dx : Addr) (v1 v2 : V), vs = [.ref p, v1, v2] ∧ H p = some (.ins C dx []) ∧ MakesB K CH CB v1 v2 H E (fun l h => Q .non (upd H p (.ins C dx (bf l h))))
/-- new Bounds, at y -/
theorem makes_at {K : PySem.W.Frag} {C CH CB y dy : Addr} {v1 v2 : V} {H : Hp} {R : VK} {E : XK} (m : MakesB K CH CB v1 v2 H E (fun l h => ∀ H', Same H H' → BndAt C H' y l h → R .non H')) (ny : H y = none) (nd : H dy = none) (ne : dy ≠ y) :
    spInit K C CH CB (.ref y :: [v1, v2]) (upd (upd H dy (.own y)) y (.ins C dy [])) R E := by
  have s1 : Same H (upd H dy (.own y)) := same_upd nd
  have ny1 : (upd H dy (.own y)) y = none := (upd_ne ne.symm).trans ny
  have s2 : Same H (upd (upd H dy (.own y)) y (.ins C dy [])) := s1.trans (same_upd ny1)
  refine ⟨y, dy, v1, v2, rfl, upd_same, ?_⟩
  rcases m with ⟨h1, h2⟩ | ⟨l, rfl, hl, h1, h2⟩ | ⟨l, h, rfl, rfl, hl, hh, hlt, h2⟩ | ⟨l, h, rfl, rfl, hl, hh, hle, h2⟩
  · exact .inl ⟨h1.mono s2, fun d H' s nd' e => h2 d H' (s2.trans s) (s2.free nd') e⟩
  · exact .inr (.inl ⟨l, rfl, hl, h1.mono s2, fun d H' s nd' e => h2 d H' (s2.trans s) (s2.free nd') e⟩)
  · exact .inr (.inr (.inl ⟨l, h, rfl, rfl, hl, hh, hlt, fun d H' s nd' e => h2 d H' (s2.trans s) (s2.free nd') e⟩))
  · refine .inr (.inr (.inr ⟨l, h, rfl, rfl, hl, hh, hle, ?_⟩))
    show R V.non (upd (upd (upd H dy (HO.own y)) y (HO.ins C dy [])) y (HO.ins C dy (bf l h)))
    rw [upd_upd]
    exact h2 _ (s1.trans (same_upd ny1)) ⟨dy, upd_same⟩
/-- Bounds of two heights in order -/
theorem makes_ok {K : PySem.W.Frag} {CH CB : Addr} {l h : Int} {H : Hp} {E : XK} {ok : Int → Int → Prop} (hl : heightB l = true) (hh : heightB h = true) (hle : l ≤ h) (q : ok l h) : MakesB K CH CB (.int l) (.int h) H E ok :=
  .inr (.inr (.inr ⟨l, h, rfl, rfl, hl, hh, hle, q⟩))
def spExact (K : PySem.W.Frag) (C CH : Addr) : Sp := fun vs H Q E => ∃ v : V, vs = [.ref C, v] ∧ ((NoH K H v ∧ ∀ d H', Same H H' → H d = none → H' d = some (.xd [(("value" : Str), v)]) → E (.ref CH) (some d) H') ∨
  (∃ l, v = .int l ∧ heightB l = true ∧ ∀ y H', Same H H' → H y = none → BndAt C H' y l l → Q (.ref y) H'))
def spWidth (C : Addr) : Sp := fun vs H Q _ => ∃ (p : Addr) (l h : Int), vs = [.ref p] ∧ BndAt C H p l h ∧ Q (.int (h - l)) H
def spHolds (C : Addr) : Sp := fun vs H Q _ => ∃ (p q : Addr) (l h l2 h2 : Int), vs = [.ref p, .ref q] ∧ BndAt C H p l h ∧ BndAt C H q l2 h2 ∧ Q (.bl (decide (l ≤ l2) && decide (h2 ≤ h))) H
def spCont (K : PySem.W.Frag) (C : Addr) : Sp := fun vs H Q _ => ∃ (p : Addr) (v : V) (l h : Int), vs = [.ref p, v] ∧ BndAt C H p l h ∧ ((∃ i, v = .int i ∧ Q (.bl (heightB i && (decide (l ≤ i) && decide (i ≤ h)))) H) ∨ (NoI K H v ∧ Q (.bl false) H))
def spEq (K : PySem.W.Frag) (C : Addr) : Sp := fun vs H Q _ => ∃ (p : Addr) (v : V) (l h : Int), vs = [.ref p, v] ∧ BndAt C H p l h ∧
  ((∃ q l2 h2, v = .ref q ∧ BndAt C H q l2 h2 ∧ Q (.bl (decide (l = l2) && decide (h = h2))) H) ∨ (∃ t, TyX K H v t ∧ PySem.W.kitOne K t (.ref C) = some false ∧ Q (.bl false) H))
def spAnd (C CC : Addr) : Sp := fun vs H Q E => ∃ (p q : Addr) (l h l2 h2 : Int), vs = [.ref p, .ref q] ∧ BndAt C H p l h ∧ BndAt C H q l2 h2 ∧ heightB l = true ∧ heightB h = true ∧ heightB l2 = true ∧ heightB h2 = true ∧
  (min h h2 < max l l2 → ∀ d H', Same H H' → H d = none → H' d = some (.xd [(("other" : Str), .ref q), (("one" : Str), .ref p)]) → E (.ref CC) (some d) H') ∧
  (max l l2 ≤ min h h2 → ∀ y H', Same H H' → H y = none → BndAt C H' y (max l l2) (min h h2) → Q (.ref y) H')
def spNeg (C : Addr) : Sp := fun vs H Q _ => ∃ (p : Addr) (l h : Int), vs = [.ref p] ∧ BndAt C H p l h ∧ heightB l = true ∧ heightB h = true ∧ l ≤ h ∧ ∀ y H', Same H H' → H y = none → BndAt C H' y (-h) (-l) → Q (.ref y) H'
theorem height_neg {i : Int} (h : heightB i = true) : heightB (-i) = true := by
  unfold heightB at h ⊢
  obtain ⟨h1, h2⟩ := Bool.and_eq_true_iff.mp h
  have h3 := of_decide_eq_true h1
  have h4 := of_decide_eq_true h2
  exact Bool.and_eq_true_iff.mpr ⟨decide_eq_true (by omega), decide_eq_true (by omega)⟩
theorem maxI (i j : Int) : (if j > i then j else i) = max i j := by
  rw [Int.max_def]
  split <;> split <;> omega
theorem minI (i j : Int) : (if j < i then j else i) = min i j := by
  rw [Int.min_def]
  split <;> split <;> omega
theorem height_max {i j : Int} (h : heightB i = true) (h2 : heightB j = true) : heightB (max i j) = true := by
  rw [Int.max_def]
  split
  · exact h2
  · exact h
theorem height_min {i j : Int} (h : heightB i = true) (h2 : heightB j = true) : heightB (min i j) = true := by
  rw [Int.min_def]
  split
  · exact h
  · exact h2
end L9

/-! Values as data: what == says of two values that hold the same -/
namespace L9
open PySem PySem.Spec PyProof.Rows L2
mutual
theorem eqv_self : ∀ d : PyData, d.canLay0 = true → PyData.eqv d d = true
  | .none, _ => by simp [PyData.eqv]
  | .bool b, _ => by simp [PyData.eqv]
  | .int i, _ => by simp [PyData.eqv]
  | .str x, _ => by simp [PyData.eqv]
  | .list xs, h => by
    have h2 : PyData.canLayAll0 xs = true := by simpa [PyData.canLay0] using h
    simpa [PyData.eqv] using eqv_selfAll xs h2
  | .tuple xs, h => by
    have h2 : PyData.canLayAll0 xs = true := by simpa [PyData.canLay0] using h
    simpa [PyData.eqv] using eqv_selfAll xs h2
  | .dict _, h => nomatch h
theorem eqv_selfAll : ∀ xs : List PyData, PyData.canLayAll0 xs = true → PyData.eqvAll xs xs = true
  | [], _ => by simp [PyData.eqvAll]
  | x :: xs, h => by
    have h2 : x.canLay0 = true ∧ PyData.canLayAll0 xs = true := by simpa [PyData.canLayAll0] using h
    simp [PyData.eqvAll, eqv_self x h2.1, eqv_selfAll xs h2.2]
end
/-- v holds the data d, at most n deep -/
structure Dat (K : PySem.W.Frag) (H : Hp) (n : Nat) (v : V) (d : PyData) : Prop where
  dp : Dp K H v d
  lay : d.canLay0 = true
  dep : d.depth ≤ n
structure DatAll (K : PySem.W.Frag) (H : Hp) (n : Nat) (vs : List V) (ds : List PyData) : Prop where
  dp : DpAll K H vs ds
  lay : PyData.canLayAll0 ds = true
  dep : PyData.depthAll ds ≤ n
section
variable {K : PySem.W.Frag} {H H' : Hp} {n : Nat} {v : V} {d : PyData} {vs : List V} {ds : List PyData}
theorem Dat.shaped (h : Dat K H n v d) (hn : n ≤ 64) : SeqAt.shaped d = true := by
  unfold SeqAt.shaped
  rw [h.lay, Bool.true_and]
  exact decide_eq_true (Nat.le_trans h.dep hn)
theorem dat_non : Dat K H n .non .none := ⟨.non, rfl, by simp [PyData.depth]⟩
theorem dat_bl {b : Bool} : Dat K H n (.bl b) (.bool b) := ⟨.bl b, rfl, by simp [PyData.depth]⟩
theorem dat_int {i : Int} : Dat K H n (.int i) (.int i) := ⟨.int i, rfl, by simp [PyData.depth]⟩
theorem dat_str {x : Str} (h : PyData.strOk x = true) : Dat K H n (.str x) (.str x) := ⟨.str x, by simpa [PyData.canLay0] using h, by simp [PyData.depth]⟩
theorem datAll_nil : DatAll K H n [] [] := ⟨.nil, by simp [PyData.canLayAll0], by simp [PyData.depthAll]⟩
theorem datAll_cons (h : Dat K H n v d) (hs : DatAll K H n vs ds) : DatAll K H n (v :: vs) (d :: ds) :=
  ⟨.cons h.dp hs.dp, by simp [PyData.canLayAll0, h.lay, hs.lay], by simp only [PyData.depthAll]; exact Nat.max_le.mpr ⟨h.dep, hs.dep⟩⟩
theorem dat_lst {p : Addr} (h : SqL K H p vs) (hs : DatAll K H n vs ds) : Dat K H (n + 1) (.ref p) (.list ds) :=
  ⟨.lst h hs.dp, by simpa [PyData.canLay0] using hs.lay, by simp only [PyData.depth]; exact Nat.succ_le_succ hs.dep⟩
theorem dat_tup {p : Addr} (h : SqT K H p vs) (hs : DatAll K H n vs ds) : Dat K H (n + 1) (.ref p) (.tuple ds) :=
  ⟨.tup h hs.dp, by simpa [PyData.canLay0] using hs.lay, by simp only [PyData.depth]; exact Nat.succ_le_succ hs.dep⟩
theorem datAll_ints : ∀ l : List Int, DatAll K H n (l.map V.int) (l.map PyData.int)
  | [] => datAll_nil
  | i :: l => datAll_cons dat_int (datAll_ints l)
theorem Dat.mono {m : Nat} (h : Dat K H n v d) (hn : n ≤ m) : Dat K H m v d := ⟨h.dp, h.lay, Nat.le_trans h.dep hn⟩
/-- == of two values that hold the same -/
theorem eq_same {u : V} {Q : VK} (h : Dat K H n v d) (h2 : Dat K H n u d) (hn : n ≤ 64) (q : Q (.bl true) H) : rEqD K v u H Q := by
  refine ⟨d, d, h.dp, h2.dp, h.shaped hn, h.shaped hn, ?_⟩
  rw [eqv_self d h.lay]
  exact q
theorem ne_same {u : V} {Q : VK} (h : Dat K H n v d) (h2 : Dat K H n u d) (hn : n ≤ 64) (q : Q (.bl false) H) : rNeD K v u H Q := by
  refine ⟨d, d, h.dp, h2.dp, h.shaped hn, h.shaped hn, ?_⟩
  rw [eqv_self d h.lay]
  exact q
theorem seqT {p : Addr} {xs : List V} (e : H p = some (.tup xs)) : SqT K H p xs := SqT.of e
end
mutual
theorem Dp.same {K : PySem.W.Frag} {H H' : Hp} (s : Same H H') : ∀ (d : PyData) (v : V), Dp K H v d → Dp K H' v d
  | .none, _, h => by cases h; exact .non
  | .bool b, _, h => by cases h; exact .bl b
  | .int i, _, h => by cases h; exact .int i
  | .str x, _, h => by cases h; exact .str x
  | .list ds, _, h => by
    cases h with
    | lst hs ha => exact .lst (s.seq hs) (DpAll.same s ds _ ha)
  | .tuple ds, _, h => by
    cases h with
    | tup hs ha =>
      refine .tup ?_ (DpAll.same s ds _ ha)
      rcases hs with (hs | ⟨o, hs⟩) | hs
      · exact .inl (.inl (s _ _ hs))
      · exact .inl (.inr ⟨o, s _ _ hs⟩)
      · exact .inr hs
  | .dict _, _, h => by cases h
theorem DpAll.same {K : PySem.W.Frag} {H H' : Hp} (s : Same H H') : ∀ (ds : List PyData) (vs : List V), DpAll K H vs ds → DpAll K H' vs ds
  | [], _, h => by cases h; exact .nil
  | d :: ds, _, h => by
    cases h with
    | cons h1 h2 => exact .cons (Dp.same s d _ h1) (DpAll.same s ds _ h2)
end
theorem Dat.same {K : PySem.W.Frag} {H H' : Hp} {n : Nat} {v : V} {d : PyData} (h : Dat K H n v d) (s : Same H H') : Dat K H' n v d := ⟨Dp.same s d v h.dp, h.lay, h.dep⟩
/-- two new lists of the same ints -/
theorem ne_ints {K : PySem.W.Frag} {H : Hp} {p q : Addr} {Q : VK} (xs : List Int) (np : H p = none) (nq : (upd H p (.lst (xs.map V.int))) q = none) (h : ∀ H', Same H H' → Q (.bl false) H') :
    rNeD K (.ref p) (.ref q) (upd (upd H p (.lst (xs.map V.int))) q (.lst (xs.map V.int))) Q := by
  have s1 : Same H (upd H p (.lst (xs.map V.int))) := same_upd np
  have e1 : (upd H p (.lst (xs.map V.int))) p = some (.lst (xs.map V.int)) := upd_same
  exact ne_same (n := 1) (dat_lst (SqL.of (same_upd nq _ _ e1)) (datAll_ints xs)) (dat_lst (SqL.of upd_same) (datAll_ints xs)) (by decide) (h _ (s1.trans (same_upd nq)))
theorem eqv2 (a b c d : Int) : PyData.eqv (.tuple [.int a, .int b]) (.tuple [.int c, .int d]) = (decide (a = c) && decide (b = d)) := by
  simp only [PyData.eqv, PyData.eqvAll, Bool.and_true]
  rfl
/-- two new pairs of ints -/
theorem eq_pairs {K : PySem.W.Frag} {H : Hp} {p q : Addr} {Q : VK} (a b c d : Int) (np : H p = none) (nq : (upd H p (.tup [.int a, .int b])) q = none) (h : ∀ H', Same H H' → Q (.bl (decide (a = c) && decide (b = d))) H') :
    rEqD K (.ref p) (.ref q) (upd (upd H p (.tup [.int a, .int b])) q (.tup [.int c, .int d])) Q := by
  have s1 : Same H (upd H p (.tup [.int a, .int b])) := same_upd np
  have e1 : (upd H p (.tup [.int a, .int b])) p = some (.tup [.int a, .int b]) := upd_same
  have d1 : Dat K (upd (upd H p (.tup [.int a, .int b])) q (.tup [.int c, .int d])) 1 (.ref p) (.tuple [.int a, .int b]) := dat_tup (SqT.of (same_upd nq _ _ e1)) (datAll_ints [a, b])
  have d2 : Dat K (upd (upd H p (.tup [.int a, .int b])) q (.tup [.int c, .int d])) 1 (.ref q) (.tuple [.int c, .int d]) := dat_tup (SqT.of upd_same) (datAll_ints [c, d])
  refine ⟨_, _, d1.dp, d2.dp, d1.shaped (by decide), d2.shaped (by decide), ?_⟩
  rw [eqv2]
  exact h _ (s1.trans (same_upd nq))
/-- within bounds that are heights: a height -/
theorem within_height {a b m : Int} (ha : heightB a = true) (hb : heightB b = true) : (heightB m && (decide (a ≤ m) && decide (m ≤ b))) = (decide (a ≤ m) && decide (m ≤ b)) := by
  cases e1 : decide (a ≤ m) with
  | false => rw [Bool.false_and, Bool.and_false]
  | true =>
    cases e2 : decide (m ≤ b) with
    | false => rw [Bool.and_false, Bool.and_false]
    | true =>
      have h1 := of_decide_eq_true e1
      have h2 := of_decide_eq_true e2
      unfold heightB at ha hb ⊢
      obtain ⟨h3, _⟩ := Bool.and_eq_true_iff.mp ha
      obtain ⟨_, h4⟩ := Bool.and_eq_true_iff.mp hb
      have h5 := of_decide_eq_true h3
      have h6 := of_decide_eq_true h4
      rw [decide_eq_true (show -MH ≤ m by omega), decide_eq_true (show m ≤ MH by omega)]
      rfl
end L9

/-! own o[k]; d.update(e); typed data: sorted, min, ==, in -/
namespace L9
open PySem PySem.Spec PyProof.Rows L2

section
variable {X : Cx} {CX : CXT} {k : Nat} {C f : Addr} {fd : FuncData} {ps : List Str} {sp : Sp} {pos : Pos} {a b : Expr} {ta tb : TE}
theorem run_fn1 {E : XK} {pins : List (Addr × Obj)} {σ : L2.St} {H : Hp} {s : Shared} {Q : VK} {us : List Value} {vs : List V} (F : FnOk X.prog X.w X.K X.mg X.base CX k f fd ps sp) (hr : Room (k + 1) X.A) (hb : Binds X.K fd ps []) (hx : Passes CX X E)
    (I : Inv X pins σ H s) (r : Vals vs us) (h : sp vs H Q E) : wpAny (model X.prog X.w) X.A.in1 (call (.ref f) us) (EP X pins σ Q) X.xe s := by
  have r2 : Vals vs (us ++ []) := by rwa [List.append_nil]
  have hl : (us ++ []).length = ps.length := by rw [← r2.length]; exact F.len _ _ _ _ h
  refine wpAny_call (codeAny_mono (F.run X.A.in1 X.stack s H ⟨us, []⟩ (us ++ []) vs Q E hr.in1 I.env0.in1 (hb s us I.kIn hl) r2 h) fun r s' hq => ?_)
  cases r with
  | error e => exact hx pins σ H s e s' I hq
  | ok fl =>
    cases fl with
    | ret u => exact I.after hq
    | next => exact False.elim hq
    | brk => exact False.elim hq
    | cont => exact False.elim hq
/-- o[i] by the class's own __getitem__ -/
def tSubO (C : Addr) (sp : Sp) (E : XK) (ta tb : TE) : TE := fun σ H Q => ta σ H fun x H1 => tb σ H1 fun y H2 => ∃ a dx fs, x = .ref a ∧ H2 a = some (.ins C dx fs) ∧ sp [x, y] H2 Q E
theorem pe_subO {E : XK} (hs : PySem.W.findIn X.K (.ref C) "__getitem__" = some (some (.ref f))) (hf : PySem.W.fnIn X.K f = true) (hfn : PySem.W.isFn X.K (.ref f) = true) (F : FnOk X.prog X.w X.K X.mg X.base CX k f fd ps sp) (hr : Room (k + 1) X.A)
    (hb : Binds X.K fd ps []) (hx : Passes CX X E) (ha : PE X a ta) (hb2 : PE X b tb) (hsl : ∀ (x : Addr) (i : Value), subscripted b true (.ref x) i = runValue (.builtin "lifetime.subscript" ⟨[.ref x, i], []⟩)) : PE X (.Subscript a b pos) (tSubO C sp E ta tb) := by
  refine ⟨fun pins s σ H Q I h => ?_⟩
  refine Subscript_ (binT ha hb2 I h fun v u s2 x y H2 I2 rx ry q => ?_)
  obtain ⟨p, dx, fs, rfl, hp, q⟩ := q
  cases (show v = Value.ref p from rx)
  obtain ⟨od, J⟩ := inst_at I2 hp
  obtain ⟨mm, hF⟩ := I2.fr
  exact PySem.W.sub_K hF I2.ok.mod.kin J hs hf hfn (run_fn1 (us := [.ref p, u]) (vs := [.ref p, y]) F hr hb hx I2 (.cons rfl (.cons ry .nil)) q) (hsl p u)
end
/-- d.update(e) -/
def rDUpd : V → List V → Hp → VK → Prop := fun x vs H Q => ∃ (a b : Addr) (kvs more : List (L2.Key × V)), x = .ref a ∧ vs = [.ref b] ∧ a ≠ b ∧ H a = some (.dK kvs) ∧ H b = some (.dK more) ∧ kvs.length + more.length ≤ sizeLine ∧ Q .non (upd H a (.dK (mergeK kvs more)))
theorem mtd_update {X : Cx} : MtR X "dict.update" rDUpd := by
  intro pins s σ H x vs v us Q I rx rv h
  obtain ⟨a, b, kvs, more, rfl, rfl, hab, ea, eb, hz, q⟩ := h
  obtain rfl : v = Value.ref a := rx
  obtain ⟨u, rfl, ru⟩ := vals1 rv
  obtain rfl : u = Value.ref b := ru
  obtain ⟨z, hd, ws, rel, dd⟩ := dk_of I.hok ea
  obtain ⟨z2, hd2, ws2, rel2, dd2⟩ := dk_of I.hok eb
  refine call_meetsIn PySem.F.slot_dict_update dd.typeIs PySem.F.entry_dict_update (PySem.F.args_dict_update_2 _ _) (meets_dict_update (mixKind X.prog X.w) a b hab hd2) ⟨ws, ws2, dd, dd2, by rw [← rel.length, ← rel2.length]; exact hz, fun h' dd' _ hs => ?_⟩
  have he : ∃ q, h'.get? a = some q := let ⟨q, _, _, hq, _⟩ := dd'; ⟨q, hq⟩
  exact ⟨.non, _, d_write (t' := s.toks) I (by rw [ea]; exact True.intro) hs he (dk_new (Nat.le_trans (length_mergeK more kvs) hz) hd (KV.merge rel2 rel) dd'), rfl, q⟩

/-! ### typed data -/
mutual
theorem reads_inj {h : Heap} : ∀ (d : PyData) (v : Value) (d' : PyData) (as as' : List Addr), d.plain = true → Reads h v d as → Reads h v d' as' → d = d'
  | .none, v, d', as, as', _, r1, r2 => by cases r1; cases r2; rfl
  | .bool _, v, d', as, as', _, r1, r2 => by cases r1; cases r2; rfl
  | .int _, v, d', as, as', _, r1, r2 => by cases r1; cases r2; rfl
  | .str _, v, d', as, as', _, r1, r2 => by cases r1; cases r2; rfl
  | .list ds, v, d', as, as', hp, r1, r2 => by
    have hp2 : PyData.plainAll ds = true := by simpa [PyData.plain] using hp
    cases r1 with
    | list h1 h2 h3 h4 =>
      cases r2 with
      | list k1 k2 k3 k4 =>
        rw [h1] at k1
        cases k1
        rw [h3] at k3
        cases k3
        rw [reads_injAll ds _ _ _ _ hp2 h4 k4]
      | tuple k1 k2 k3 k4 =>
        rw [h1] at k1
        cases k1
        rw [h2] at k2
        exact absurd (Value.type.inj k2) (by decide)
      | dict k1 k2 k3 k4 =>
        rw [h1] at k1
        cases k1
        rw [h2] at k2
        exact absurd (Value.type.inj k2) (by decide)
  | .tuple ds, v, d', as, as', hp, r1, r2 => by
    have hp2 : PyData.plainAll ds = true := by simpa [PyData.plain] using hp
    cases r1 with
    | tuple h1 h2 h3 h4 =>
      cases r2 with
      | tuple k1 k2 k3 k4 =>
        rw [h1] at k1
        cases k1
        rw [h3] at k3
        cases k3
        rw [reads_injAll ds _ _ _ _ hp2 h4 k4]
      | list k1 k2 k3 k4 =>
        rw [h1] at k1
        cases k1
        rw [h2] at k2
        exact absurd (Value.type.inj k2) (by decide)
      | dict k1 k2 k3 k4 =>
        rw [h1] at k1
        cases k1
        rw [h2] at k2
        exact absurd (Value.type.inj k2) (by decide)
  | .dict _, v, d', as, as', hp, _, _ => absurd hp (by simp [PyData.plain])
theorem reads_injAll {h : Heap} : ∀ (ds : List PyData) (vs : List Value) (ds' : List PyData) (as as' : List Addr), PyData.plainAll ds = true → ReadsAll h vs ds as → ReadsAll h vs ds' as' → ds = ds'
  | [], vs, ds', as, as', _, r1, r2 => by cases r1; cases r2; rfl
  | d :: ds, vs, ds', as, as', hp, r1, r2 => by
    have hp2 : d.plain = true ∧ PyData.plainAll ds = true := by simpa [PyData.plainAll] using hp
    cases r1 with
    | cons h1 h2 =>
      cases r2 with
      | cons k1 k2 => rw [reads_inj d _ _ _ _ hp2.1 h1 k1, reads_injAll ds _ _ _ _ hp2.2 h2 k2]
end
theorem vals_at : ∀ {xs : List V} {us : List Value} {i : Nat} {u : Value}, Vals xs us → us[i]? = some u → ∃ x, xs[i]? = some x ∧ RelV x u
  | _, _, 0, u, .cons r _, e => by
    cases e
    exact ⟨_, rfl, r⟩
  | _, _, i + 1, u, .cons _ rs, e => vals_at (i := i) rs e
section
variable {K : PySem.W.Frag} {H : Hp} {α : Type} [DecidableEq α] [PySem.W.Datum α]
/-- v holds x -/
def Hd (K : PySem.W.Frag) (H : Hp) (v : V) (x : α) : Prop := Dp K H v (PySem.W.Datum.toD x)
/-- item by item -/
def HdAll (K : PySem.W.Frag) (H : Hp) : List V → List α → Prop
  | [], [] => True
  | v :: vs, x :: xs => Hd K H v x ∧ HdAll K H vs xs
  | _, _ => False
theorem HdAll.dp : ∀ {vs : List V} {xs : List α}, HdAll K H vs xs → DpAll K H vs (xs.map PySem.W.Datum.toD)
  | [], [], _ => .nil
  | _ :: _, _ :: _, h => .cons h.1 h.2.dp
  | [], _ :: _, h => h.elim
  | _ :: _, [], h => h.elim
theorem HdAll.length : ∀ {vs : List V} {xs : List α}, HdAll K H vs xs → vs.length = xs.length
  | [], [], _ => rfl
  | _ :: _, _ :: _, h => by rw [List.length_cons, List.length_cons, h.2.length]
  | [], _ :: _, h => h.elim
  | _ :: _, [], h => h.elim
theorem HdAll.mono {H' : Hp} (s : Same H H') : ∀ {vs : List V} {xs : List α}, HdAll K H vs xs → HdAll K H' vs xs
  | [], [], _ => trivial
  | _ :: _, _ :: _, h => ⟨Dp.same s _ _ h.1, h.2.mono s⟩
  | [], _ :: _, h => h.elim
  | _ :: _, [], h => h.elim
theorem HdAll.app : ∀ {vs us : List V} {xs ys : List α}, HdAll K H vs xs → HdAll K H us ys → HdAll K H (vs ++ us) (xs ++ ys)
  | [], _, [], _, _, h2 => h2
  | _ :: _, _, _ :: _, _, h, h2 => ⟨h.1, HdAll.app h.2 h2⟩
  | [], _, _ :: _, _, h, _ => h.elim
  | _ :: _, _, [], _, h, _ => h.elim
theorem HdAll.get : ∀ {vs : List V} {xs : List α} {i : Nat} {v : V}, HdAll K H vs xs → vs[i]? = some v → ∃ x, xs[i]? = some x ∧ Hd K H v x
  | _ :: _, x :: _, 0, v, h, e => by
    cases e
    exact ⟨x, rfl, h.1⟩
  | _ :: _, _ :: _, i + 1, v, h, e => HdAll.get (i := i) h.2 e
  | [], [], _, _, _, e => nomatch e
  | [], _ :: _, _, _, h, _ => h.elim
  | _ :: _, [], _, _, h, _ => h.elim
theorem hd_strs : ∀ l : List Str, HdAll K H (l.map V.str) l
  | [] => trivial
  | x :: l => ⟨.str x, hd_strs l⟩
theorem hd_ints : ∀ l : List Int, HdAll K H (l.map V.int) l
  | [] => trivial
  | x :: l => ⟨.int x, hd_ints l⟩
theorem hd_list {p : Addr} {vs : List V} {xs : List α} (h : SqL K H p vs) (hs : HdAll K H vs xs) : Hd K H (.ref p) xs := .lst h hs.dp
theorem hd_pair {β : Type} [DecidableEq β] [PySem.W.Datum β] {p : Addr} {v u : V} {x : α} {y : β} (h : SqT K H p [v, u]) (h1 : Hd K H v x) (h2 : Hd K H u y) : Hd K H (.ref p) (x, y) := .tup h (.cons h1 (.cons h2 .nil))
end
section
variable {X : Cx} {α : Type} [DecidableEq α]
/-- x == y of data of the one type -/
def rEqT (α : Type) [DecidableEq α] [PySem.W.Datum α] (K : PySem.W.Frag) : R2 := fun v u H Q => ∃ x y : α, Hd K H v x ∧ Hd K H u y ∧ Q (.bl (decide (x = y))) H
def rNeT (α : Type) [DecidableEq α] [PySem.W.Datum α] (K : PySem.W.Frag) : R2 := fun v u H Q => ∃ x y : α, Hd K H v x ∧ Hd K H u y ∧ Q (.bl (decide (x ≠ y))) H
theorem op_eqT [PySem.W.Datum α] (hu : X.A.units + PySem.W.Datum.depth α < cLine) : OpR X (compareOp .Eq) (rEqT α X.K) := by
  intro pins s σ H v u v' u' Q I rv ru h
  obtain ⟨x, y, h1, h2, q⟩ := h
  exact PySem.W.eq_datum (Dp.reads I _ _ _ h1 rv) (Dp.reads I _ _ _ h2 ru) hu ⟨.bl _, H, I, rfl, q⟩
theorem op_neT [PySem.W.Datum α] (hu : X.A.units + PySem.W.Datum.depth α < cLine) : OpR X (compareOp .NotEq) (rNeT α X.K) := by
  intro pins s σ H v u v' u' Q I rv ru h
  obtain ⟨x, y, h1, h2, q⟩ := h
  exact PySem.W.ne_datum (Dp.reads I _ _ _ h1 rv) (Dp.reads I _ _ _ h2 ru) hu ⟨.bl _, H, I, rfl, q⟩
/-- x in xs, a list of data of the one type -/
def rInT (α : Type) [DecidableEq α] [PySem.W.Datum α] (K : PySem.W.Frag) : R2 := fun v u H Q => ∃ (x : α) (xs : List α) (p : Addr) (vs : List V), u = .ref p ∧ SqL K H p vs ∧ HdAll K H vs xs ∧ Hd K H v x ∧ Q (.bl (decide (x ∈ xs))) H
def rNotInT (α : Type) [DecidableEq α] [PySem.W.Datum α] (K : PySem.W.Frag) : R2 := fun v u H Q => ∃ (x : α) (xs : List α) (p : Addr) (vs : List V), u = .ref p ∧ SqL K H p vs ∧ HdAll K H vs xs ∧ Hd K H v x ∧ Q (.bl (decide (x ∉ xs))) H
theorem op_inT [PySem.W.Datum α] (hu : X.A.units + 1 + PySem.W.Datum.depth α < cLine) : OpR X (compareOp .In) (rInT α X.K) := by
  intro pins s σ H v u v' u' Q I rv ru h
  obtain ⟨x, xs, p, vs, rfl, hl, ha, h1, q⟩ := h
  cases (show u' = Value.ref p from ru)
  obtain ⟨its, r, pl, hz⟩ := I.list hl
  obtain ⟨as, rd⟩ := Dp.readsAll I _ _ _ ha.dp r
  exact PySem.W.in_list_datum pl.isList ⟨as, by simpa using rd⟩ (Dp.reads I _ _ _ h1 rv) hu ⟨.bl _, H, I, rfl, q⟩
theorem op_notInT [PySem.W.Datum α] (hu : X.A.units + 1 + PySem.W.Datum.depth α < cLine) : OpR X (compareOp .NotIn) (rNotInT α X.K) := by
  intro pins s σ H v u v' u' Q I rv ru h
  obtain ⟨x, xs, p, vs, rfl, hl, ha, h1, q⟩ := h
  cases (show u' = Value.ref p from ru)
  obtain ⟨its, r, pl, hz⟩ := I.list hl
  obtain ⟨as, rd⟩ := Dp.readsAll I _ _ _ ha.dp r
  exact PySem.W.notIn_list_datum pl.isList ⟨as, by simpa using rd⟩ (Dp.reads I _ _ _ h1 rv) hu ⟨.bl _, H, I, rfl, q⟩
/-- min(xs): the item itself -/
def rMinT (α : Type) [DecidableEq α] [PySem.W.DatumOrd α] (K : PySem.W.Frag) : List V → Hp → VK → Prop := fun ws H Q => ∃ (p : Addr) (vs : List V) (x : α) (xs : List α), ws = [.ref p] ∧ SqL K H p vs ∧ HdAll K H vs (x :: xs) ∧ ∀ (i : Nat) v, vs[i]? = some v → Hd K H v (PySem.W.minOf x xs) → Q v H
theorem cr_minT [PySem.W.DatumOrd α] (hc : X.calm = true) (hu : X.A.units + 1 + PySem.W.Datum.depth α < cLine) : CallR X (.builtin "min") (rMinT α X.K) := by
  intro pins s σ H ws us Q I r h
  obtain ⟨p, vs, x, xs, rfl, hl, ha, q⟩ := h
  rw [Vals.ref1 r]
  obtain ⟨its, rv, pl, hz⟩ := I.list hl
  obtain ⟨as, rd⟩ := Dp.readsAll I _ _ _ ha.dp rv
  refine PySem.W.min_list_datum (I.ok.hd hc) pl.isList (x := x) (xs := xs) ⟨as, by simpa using rd⟩ hu fun i v h' tk hi hv hk => ?_
  have hi2 : its[i]? = some v := by simpa using hi
  obtain ⟨y, hy, ry⟩ := vals_at rv hi2
  obtain ⟨z, hz2, hzd⟩ := HdAll.get ha hy
  obtain ⟨as2, rd2⟩ := Dp.reads I _ _ _ hzd ry
  obtain ⟨as3, rd3⟩ := hv
  have e : PySem.W.Datum.toD z = PySem.W.Datum.toD (PySem.W.minOf x xs) := reads_inj _ _ _ _ _ (PySem.W.Datum.plain z) (PyProof.Rows.Reads.keeps hk rd2) rd3
  refine ⟨y, H, I.kept hk, ry, q i y hy ?_⟩
  unfold Hd
  rw [← e]
  exact hzd
/-- sorted(xs): the items by their order -/
def rSortT (α : Type) [DecidableEq α] [PySem.W.DatumOrd α] (K : PySem.W.Frag) : List V → Hp → VK → Prop := fun ws H Q => ∃ (p : Addr) (vs : List V) (xs : List α), ws = [.ref p] ∧ SqL K H p vs ∧ HdAll K H vs xs ∧ PySem.W.Sortable (xs.map PySem.W.Datum.toD) ∧
  ∀ (q : Addr) (us : List V), H q = none → HdAll K H us (xs.mergeSort (PySem.W.dataLe false PySem.W.Datum.toD)) → Q (.ref q) (upd H q (.lst us))
theorem each_out {R : Value → α → Prop} {S : V → Value → α → Prop} (h : ∀ u x, R u x → ∃ v, S v u x ∧ RelV v u) : ∀ {us : List Value} {xs : List α}, PySem.W.EachIs R us xs → ∃ vs : List V, Vals vs us ∧ vs.length = xs.length ∧ ∀ (i : Nat) (v : V) (u : Value) (x : α), vs[i]? = some v → us[i]? = some u → xs[i]? = some x → S v u x
  | _, _, .nil => ⟨[], .nil, rfl, fun i v u x e => nomatch e⟩
  | _, _, .cons r rs => by
    obtain ⟨v, s, rv⟩ := h _ _ r
    obtain ⟨vs, rr, hl, hs⟩ := each_out h rs
    refine ⟨v :: vs, .cons rv rr, by rw [List.length_cons, List.length_cons, hl], fun i w u x e1 e2 e3 => ?_⟩
    match i with
    | 0 =>
      cases e1
      cases e2
      cases e3
      exact s
    | i + 1 => exact hs i w u x e1 e2 e3
theorem hdAll_of {K : PySem.W.Frag} {H : Hp} [PySem.W.Datum α] : ∀ {vs : List V} {xs : List α}, vs.length = xs.length → (∀ (i : Nat) v x, vs[i]? = some v → xs[i]? = some x → Hd K H v x) → HdAll K H vs xs
  | [], [], _, _ => trivial
  | v :: vs, x :: xs, hl, h => ⟨h 0 v x rfl rfl, hdAll_of (by simpa using hl) fun i v x e1 e2 => h (i + 1) v x e1 e2⟩
  | [], _ :: _, hl, _ => by simp at hl
  | _ :: _, [], hl, _ => by simp at hl
theorem each_in {K : PySem.W.Frag} {H : Hp} [PySem.W.Datum α] {R : Value → α → Prop} (h : ∀ v u x, RelV v u → Hd K H v x → R u x) : ∀ {vs : List V} {us : List Value} {xs : List α}, Vals vs us → HdAll K H vs xs → PySem.W.EachIs R us xs
  | [], _, [], .nil, _ => .nil
  | _ :: _, _, _ :: _, .cons r rs, hd => .cons (h _ _ _ r hd.1) (each_in h rs hd.2)
  | [], _, _ :: _, _, hd => hd.elim
  | _ :: _, _, [], _, hd => hd.elim
theorem cr_sortT [PySem.W.DatumOrd α] (hu : X.A.units + 2 + PySem.W.Datum.depth α < cLine) : CallR X (.builtin "sorted") (rSortT α X.K) := by
  intro pins s σ H ws us Q I r h
  obtain ⟨p, vs, xs, rfl, hl, ha, hso, q⟩ := h
  rw [Vals.ref1 r]
  obtain ⟨its, rv, pl, hz⟩ := I.list hl
  have hlen : xs.length ≤ sizeLine := by
    rw [← ha.length]
    exact hz
  refine PySem.W.sorted_data (R := fun u x => ∃ v, RelV v u ∧ Hd X.K H v x) (enc := PySem.W.Datum.toD) pl.isList (each_in (fun v u x rr hd => ⟨v, rr, hd⟩) rv ha) (each_in (fun v u x rr hd => Dp.reads I _ _ _ hd rr) rv ha) (fun d hd d' hd' => by
    obtain ⟨a, _, rfl⟩ := List.mem_map.mp hd
    obtain ⟨b, _, rfl⟩ := List.mem_map.mp hd'
    exact PySem.W.DatumOrd.alike a b) hso hlen (fun b _ => Nat.lt_of_le_of_lt (Nat.add_le_add_left (PySem.W.Datum.depth_le b) _) hu) fun out ho he => ?_
  obtain ⟨ws, rw', hwl, hws⟩ := each_out (S := fun v _ x => Hd X.K H v x) (fun u x h => by
    obtain ⟨v, h1, h2⟩ := h
    exact ⟨v, h2, h1⟩) he
  have hd : HdAll X.K H ws (xs.mergeSort (PySem.W.dataLe false PySem.W.Datum.toD)) := hdAll_of hwl fun i v x e1 e2 => by
    obtain ⟨u, hu2, _⟩ := rw'.get e1
    exact hws i v u x e1 hu2 e2
  obtain ⟨ep, he'⟩ := PyProof.Rows.sortedAll_at s.heap its out.toArray
  have hln : ws.length ≤ sizeLine := by
    rw [hwl, List.length_mergeSort]
    exact hlen
  exact ⟨.ref _, upd H (s.heap.objs.size + 1) (.lst ws), I.laid (t' := s.toks) (fun _ _ => PyProof.Rows.sortedAll_old) (Nat.le_succ _) ⟨hln, out, ep, rw', he'⟩, rfl, q _ ws (I.hok.fresh (Nat.le_succ _)) hd⟩
end
end L9

/-! own classes by name: their methods, their making, their o[k] and k in o -/
namespace L9
open PySem PySem.Spec PyProof.Rows L2
theorem hu65 {A : Around} {k : Nat} (hr : Room k A) : A.units + 1 + 64 < cLine := by have := hr.un; omega
theorem mtr_popAt {X : Cx} : MtR X "list.pop" rPopAt := mt_popAt
theorem mtr_pop {X : Cx} : MtR X "list.pop" rPop := mt_pop
theorem mtr_append {X : Cx} : MtR X "list.append" rAppend := mt_append
/-! rules that name the written part, for the block of a comprehension -/
section
variable {X : Cx} {K' : PySem.W.Frag}
theorem ix_listK (h : X.K = K') : IxR X (rIxL K') := by subst h; exact ix_list
theorem ix_tupK (h : X.K = K') : IxR X (rIxT K') := by subst h; exact ix_tup
theorem call_len_seqK (h : X.K = K') : CallR X (.builtin "len") (fun xs H Q => ∃ p ys, xs = [.ref p] ∧ (SqL K' H p ys ∨ SqT K' H p ys) ∧ Q (.int ys.length) H) := by subst h; exact call_len_seq
theorem op_in_seqK (h : X.K = K') : OpR X (compareOp .In) (rIn K' false) := by subst h; exact op_in_seq
theorem op_notIn_seqK (h : X.K = K') : OpR X (compareOp .NotIn) (rIn K' true) := by subst h; exact op_notIn_seq
theorem cr_sortedSK (h : X.K = K') : CallR X (.builtin "sorted") (rSortedS K') := by subst h; exact cr_sortedS
theorem pe_bmK (h : X.K = K') {o e : Expr} {es : List Expr} {T name id : String} {r : V → List V → Hp → VK → Prop} {to : TE} {t : TA} {apos cpos : Pos} (pa : PlainAttrs T) (slot : Slot T name id) (hty : typeOf (.builtin id) = pure (.type "method_descriptor")) (hm : MtR X id r) (ho : PE X o to) (ha : PA X (e :: es) t)
    (hbase : attributeBase o name X.env (eval o X.env) = eval o X.env := by rfl)
    (hfew : ((backTo cpos (starEach (e :: es) X.env)).all (fun x => !x.1) && (backToKw cpos (keywordEach [] X.env)).all (fun x => x.1.isSome)
      && decide ((e :: es).length + ([] : List Keyword).length + (if ([] : List Keyword).isEmpty then 0 else 1) < 30)) = true := by rfl)
    (hline : (apos.endLine == cpos.line) = true := by rfl) (hs : starEach (e :: es) X.env = (false, eval e X.env) :: starEach es X.env := by rfl) (hplain : (backTo cpos (starEach es X.env)).any (·.1) = false := by rfl) :
    PE X (.Call (.Attribute o name apos) (e :: es) [] cpos) (tBM K' T r to t) := by subst h; exact pe_bm pa slot hty hm ho ha hbase hfew hline hs hplain
theorem pe_fldK (h : X.K = K') {e : Expr} {f : Str} {pos : Pos} {ta : TE} (he : PE X e ta) (hb : attributeBase e f X.env (eval e X.env) = eval e X.env) : PE X (.Attribute e f pos) (tFld K' ta f) := by subst h; exact pe_fld he hb
end
theorem huD {A : Around} {k d : Nat} (hr : Room k A) (h : d ≤ 64) : A.units + 1 + d < cLine := by have := hu65 hr; omega
theorem huF {A : Around} {k d : Nat} (hr : Room k A) (h : d ≤ 62) : A.units + 2 + d < cLine := by have := hu65 hr; omega
theorem huE {A : Around} {k d : Nat} (hr : Room k A) (h : d ≤ 64) : A.units + d < cLine := by have := hu65 hr; omega
/-- an own class x at C, whose instances have attributes of their own -/
structure ClsT (K : PySem.W.Frag) (mg : Str → Option Value) (x : Str) (C : Addr) : Prop where
  g : mg x = some (.ref C)
  cl : Cls K C
  ca : PySem.W.findIn K (.ref C) "__class__" = some (some (.builtin "object.__class__"))
  cn : PySem.W.specialIn K (.builtin "object.__class__") "__get__" = some (some (.builtin "getset_descriptor.__get__"))
  ct : PySem.W.takesIn K (.builtin "object.__class__") = some true
  cm : PySem.W.mroIn K C (.type "object") = some true
  kb : PySem.W.kitOne K (.ref C) (.ref C) = some true
theorem ClsT.ty {K : PySem.W.Frag} {mg : Str → Option Value} {x : Str} {C : Addr} (B : ClsT K mg x C) {H : Hp} {p dx : Addr} {fs : List (Str × V)} (e : H p = some (.ins C dx fs)) : TyX K H (.ref p) (.ref C) := .base (.ins e B.cl B.ca B.cn B.ct B.cm)
/-- the method m of the class at C, with all that a call of it wants -/
structure MCal (P : Program) (w : World) (K : PySem.W.Frag) (mg : Str → Option Value) (base : Heap) (C : Addr) (m : Str) (k : Nat) (ps : List Str) (sp : Sp) : Prop where
  ex : ∃ (f : Addr) (fd : FuncData), FnOk P w K mg base CX0 k f fd ps sp ∧ Meth K C m f ∧ Binds K fd ps []
/-- C(..), with all that it wants -/
structure ICal (P : Program) (w : World) (K : PySem.W.Frag) (mg : Str → Option Value) (base : Heap) (x : Str) (C : Addr) (k : Nat) (ps : List Str) (sp : Sp) : Prop where
  ex : ∃ (f : Addr) (fd : FuncData), FnOk P w K mg base CX0 k f fd ps sp ∧ Mk K C f ∧ Binds K fd ps [] ∧ mg x = some (.ref C)
/-- C(e, .., k = v, ..) -/
structure IKal (P : Program) (w : World) (K : PySem.W.Frag) (mg : Str → Option Value) (base : Heap) (x : Str) (C : Addr) (k : Nat) (ps : List Str) (n : Nat) (ks : List Str) (gV : List V → List V → List V) (sp : Sp) : Prop where
  ex : ∃ (f : Addr) (fd : FuncData) (g : List Value → List Value → List Value), FnOk P w K mg base CX0 k f fd ps sp ∧ Mk K C f ∧ KBn K fd ps (n + 1) ks g gV ∧ mg x = some (.ref C)
/-- the operator's def m (not called by its name) -/
structure OCal (P : Program) (w : World) (K : PySem.W.Frag) (mg : Str → Option Value) (base : Heap) (C : Addr) (m : Str) (k : Nat) (ps : List Str) (sp : Sp) : Prop where
  ex : ∃ (f : Addr) (fd : FuncData), FnOk P w K mg base CX0 k f fd ps sp ∧ PySem.W.findIn K (.ref C) m = some (some (.ref f)) ∧ PySem.W.isFn K (.ref f) = true ∧ PySem.W.fnIn K f = true ∧ Binds K fd ps []
section
variable {X : Cx} {C : Addr} {m x : Str} {k : Nat} {ps : List Str} {sp : Sp} {o e : Expr} {es : List Expr} {ta tb : TE} {t : TA} {pos apos p1 : Pos}
theorem MCal.pe {pl : Sem Bool} (M : MCal X.prog X.w X.K X.mg X.base C m k ps sp) (c : Cls X.K C) (hr : Room k X.A) (he : PE X o ta) (ha : PA X (e :: es) t)
    (hst : starEach (e :: es) X.env = (false, eval e X.env) :: starEach es X.env := by rfl) (hpl : (backTo pos (starEach es X.env)).any (·.1) = false := by rfl)
    (ht : eval (.Call (.Attribute o m apos) (e :: es) [] pos) X.env = (do
      let ov ← eval o X.env
      standAt apos.atName
      let (f, first) ← holding [ov] (getMethod ov m pl)
      callWith pos f first (backTo pos (starEach (e :: es) X.env)) (backToKw pos (keywordEach [] X.env))) := by rfl) :
    PE X (.Call (.Attribute o m apos) (e :: es) [] pos) (tMeth C m sp [] E0 ta t) := by
  obtain ⟨f, fd, G, hm, b⟩ := M.ex
  exact pe_meth he c hm G hr b .nil pass0 ha hst hpl ht
theorem MCal.pe0 {pl : Sem Bool} (M : MCal X.prog X.w X.K X.mg X.base C m k ps sp) (c : Cls X.K C) (hr : Room k X.A) (he : PE X o ta)
    (ht : eval (.Call (.Attribute o m apos) [] [] pos) X.env = (do
      let ov ← eval o X.env
      standAt apos.atName
      let (f, first) ← holding [ov] (getMethod ov m pl)
      callWith pos f first (backTo pos (starEach [] X.env)) (backToKw pos (keywordEach [] X.env))) := by rfl) :
    PE X (.Call (.Attribute o m apos) [] [] pos) (tMeth C m sp [] E0 ta tNil) := by
  obtain ⟨f, fd, G, hm, b⟩ := M.ex
  exact pe_meth0 he c hm G hr b .nil pass0 ht
theorem ICal.pe (M : ICal X.prog X.w X.K X.mg X.base x C k ps sp) (hr : Room (k + 1) X.A) (hg : Gl X x) (ha : PA X (e :: es) t) (hdb : (x == ("__debug__" : Str)) = false := by decide)
    (he : starEach (e :: es) X.env = (false, eval e X.env) :: starEach es X.env := by rfl) (hpl : (backTo pos (starEach es X.env)).any (·.1) = false := by rfl) :
    PE X (.Call (.Name x p1) (e :: es) [] pos) (tMake C sp [] E0 t) := by
  obtain ⟨f, fd, G, M, b, hm⟩ := M.ex
  exact pe_make M G hr hg hm b .nil pass0 ha hdb he hpl
theorem IKal.pk {n : Nat} {ks : List Str} {gV : List V → List V → List V} {kws : List Keyword} {tk : TA} (M : IKal X.prog X.w X.K X.mg X.base x C k ps n ks gV sp) (hr : Room (k + 1) X.A) (hg : Gl X x) (ha : PA X (e :: es) t) (hkw : PK X kws tk)
    (hall : (backToKw pos (keywordEach kws X.env)).all (·.1.isSome) = true := by rfl) (hks : (backToKw pos (keywordEach kws X.env)).filterMap (·.1) = ks := by rfl) (hdb : (x == ("__debug__" : Str)) = false := by decide)
    (he : starEach (e :: es) X.env = (false, eval e X.env) :: starEach es X.env := by rfl) (hpl : ((backTo pos (starEach (e :: es) X.env)).any (·.1) || (backToKw pos (keywordEach kws X.env)).any (·.1.isNone)) = false := by rfl) :
    PE X (.Call (.Name x p1) (e :: es) kws pos) (tMakeK C n ks.length sp gV E0 t tk) := by
  obtain ⟨f, fd, g, G, M, b, hm⟩ := M.ex
  exact pe_makeK M G hr hg hm b pass0 ha hkw hall hks hdb he hpl
theorem OCal.sub (M : OCal X.prog X.w X.K X.mg X.base C "__getitem__" k ps sp) (hr : Room (k + 1) X.A) (ha : PE X o ta) (hb2 : PE X e tb) (hsl : ∀ (x : Addr) (i : Value), subscripted e true (.ref x) i = runValue (.builtin "lifetime.subscript" ⟨[.ref x, i], []⟩)) :
    PE X (.Subscript o e pos) (tSubO C sp E0 ta tb) := by
  obtain ⟨f, fd, G, hs, hf, hf2, b⟩ := M.ex
  exact pe_subO hs hf2 hf G hr b pass0 ha hb2 hsl
theorem OCal.has (M : OCal X.prog X.w X.K X.mg X.base C "__contains__" k ps sp) (hr : Room k X.A) : OpR X (compareOp .In) (rInO C sp E0) := by
  obtain ⟨f, fd, G, hs, hf, hf2, b⟩ := M.ex
  exact op_inO (E := E0) hs hf G hr b pass0
/-- y not in x, x of the class at C -/
def rNotInO (C : Addr) (sp : Sp) (E : XK) : R2 := fun y x H Q => ∃ a dx fs, x = .ref a ∧ H a = some (.ins C dx fs) ∧ sp [x, y] H (fun z H' => ∃ b, z = .bl b ∧ Q (.bl (!b)) H') E
theorem OCal.hasnt (M : OCal X.prog X.w X.K X.mg X.base C "__contains__" k ps sp) (hr : Room k X.A) : OpR X (compareOp .NotIn) (rNotInO C sp E0) := by
  obtain ⟨f, fd, G, hs, hf, hf2, bb⟩ := M.ex
  intro pins s σ H y x u v Q I ry rx h
  obtain ⟨a, dx, fs, rfl, ha, q⟩ := h
  cases (show v = Value.ref a from rx)
  obtain ⟨od, J⟩ := inst_at I ha
  obtain ⟨mm, hF⟩ := I.fr
  refine PySem.W.notIn_K hF I.ok.mod.kin J hs hf ?_
  refine wpAny_mono (run_fn (us := [.ref a, u]) (vs := [.ref a, y]) G hr bb .nil pass0 I (.cons rfl (.cons ry .nil)) q) (fun w s' z => ?_) fun _ _ z => z
  obtain ⟨z', H', I', rz, b, ez, qz⟩ := z
  subst ez
  cases (show w = Value.bool b from rz)
  exact wpAny_truthy_bool ⟨.bl (!b), H', I', rfl, qz⟩
end
end L9

/-! unlike names, as lists of their signs' codes -/
namespace NL9
def Let (c : Nat) : Prop := 97 ≤ c ∧ c ≤ 122
/-- right names, none twice -/
structure Ok (L : List (List Nat)) : Prop where
  nd : L.Nodup
  nm : ∀ x ∈ L, 1 ≤ x.length ∧ x.length ≤ 8 ∧ ∀ c ∈ x, Let c
theorem Ok.take {L : List (List Nat)} (h : Ok L) (m : Nat) : Ok (L.take m) :=
  ⟨h.nd.sublist (List.take_sublist m L), fun x hx => h.nm x (List.mem_of_mem_take hx)⟩
theorem nodup_map {α β : Type} {f : α → β} (hf : ∀ a b, f a = f b → a = b) : ∀ {l : List α}, l.Nodup → (l.map f).Nodup
  | [], _ => List.nodup_nil
  | a :: l, h => by
    rw [List.nodup_cons] at h
    rw [List.map_cons, List.nodup_cons]
    refine ⟨fun hm => ?_, nodup_map hf h.2⟩
    obtain ⟨b, hb, e⟩ := List.mem_map.mp hm
    rw [hf _ _ e] at hb
    exact h.1 hb
theorem nodup_on {α β : Type} {f : α → β} : ∀ {l : List α}, (∀ a ∈ l, ∀ b ∈ l, f a = f b → a = b) → l.Nodup → (l.map f).Nodup
  | [], _, _ => List.nodup_nil
  | a :: l, hf, h => by
    rw [List.nodup_cons] at h
    rw [List.map_cons, List.nodup_cons]
    refine ⟨fun hm => ?_, nodup_on (fun a ha b hb => hf a (List.mem_cons_of_mem _ ha) b (List.mem_cons_of_mem _ hb)) h.2⟩
    obtain ⟨b, hb, e⟩ := List.mem_map.mp hm
    rw [hf _ (List.mem_cons_of_mem _ hb) _ List.mem_cons_self e] at hb
    exact h.1 hb
/-- the 26 signs from a first one on, by a step -/
def signs (f s : Nat) : List Nat := (List.range 26).map fun k => 97 + (f + s * k) % 26
theorem signs_all : ((List.range 26).all fun f => [1, 3, 5, 7, 9, 11, 15].all fun s => decide (signs f s).Nodup) = true := by decide +kernel
theorem signs_nd {f s : Nat} (hf : f < 26) (hs : s ∈ [1, 3, 5, 7, 9, 11, 15]) : (signs f s).Nodup := by
  have h := signs_all
  rw [List.all_eq_true] at h
  have h1 := h f (List.mem_range.mpr hf)
  rw [List.all_eq_true] at h1
  exact of_decide_eq_true (h1 s hs)
theorem signs_let (f s : Nat) : ∀ c ∈ signs f s, Let c := by
  intro c hc
  obtain ⟨k, _, rfl⟩ := List.mem_map.mp hc
  have := Nat.mod_lt (f + s * k) (show 0 < 26 by decide)
  exact ⟨by omega, by omega⟩
theorem signs_len (f s : Nat) : (signs f s).length = 26 := by
  unfold signs
  rw [List.length_map, List.length_range]
theorem signs_get {f s k : Nat} (hk : k < 26) : (signs f s)[k]? = some (97 + (f + s * k) % 26) := by
  unfold signs
  rw [List.getElem?_map, List.getElem?_range hk] <;> rfl
/-- the beginnings of a word -/
def heads (w : List Nat) : List (List Nat) := (List.range 8).map fun k => w.take (1 + k)
/-- .. and others -/
def way0 (w sg : List Nat) : List (List Nat) := heads w ++ (sg.map fun s => [122, s, 113]).filter fun x => decide (x ∉ heads w)
theorem way0_ok {w sg : List Nat} (hw : w.length = 8) (hl : ∀ c ∈ w, Let c) (hs : sg.Nodup) (hsl : ∀ c ∈ sg, Let c) : Ok (way0 w sg) := by
  have hh : ∀ x ∈ heads w, 1 ≤ x.length ∧ x.length ≤ 8 ∧ ∀ c ∈ x, Let c := by
    intro x hx
    obtain ⟨k, hk, rfl⟩ := List.mem_map.mp hx
    have hk := List.mem_range.mp hk
    rw [List.length_take]
    exact ⟨by omega, by omega, fun c hc => hl c (List.mem_of_mem_take hc)⟩
  have hn : (heads w).Nodup := by
    refine nodup_on (fun a ha b hb e => ?_) List.nodup_range
    have ha := List.mem_range.mp ha
    have hb := List.mem_range.mp hb
    have e := congrArg List.length e
    rw [List.length_take, List.length_take] at e
    omega
  have hr : ((sg.map fun s => [122, s, 113]).filter fun x => decide (x ∉ heads w)).Nodup := by
    refine List.Nodup.sublist List.filter_sublist (nodup_map (fun a b e => ?_) hs)
    simpa using e
  refine ⟨?_, fun x hx => ?_⟩
  · unfold way0
    rw [List.nodup_append]
    refine ⟨hn, hr, fun a ha b hb e => ?_⟩
    have h2 := of_decide_eq_true (List.mem_filter.mp hb).2
    rw [← e] at h2
    exact h2 ha
  · rcases List.mem_append.mp hx with h | h
    · exact hh x h
    · obtain ⟨s, hs', rfl⟩ := List.mem_map.mp (List.mem_filter.mp h).1
      refine ⟨by show 1 ≤ 3; decide, by show 3 ≤ 8; decide, fun c hc => ?_⟩
      simp only [List.mem_cons, List.not_mem_nil, or_false] at hc
      rcases hc with e | e | e
      · rw [e]; exact ⟨by decide, by decide⟩
      · rw [e]; exact hsl s hs'
      · rw [e]; exact ⟨by decide, by decide⟩
/-- the drawn sign at a place of a stem -/
def way2 (stem : List Nat) (at' : Nat) (sg : List Nat) : List (List Nat) := sg.map fun s => stem.take at' ++ [s] ++ stem.drop at'
theorem way2_ok {stem sg : List Nat} {at' : Nat} (hw : stem.length = 7) (hl : ∀ c ∈ stem, Let c) (hs : sg.Nodup) (hsl : ∀ c ∈ sg, Let c) : Ok (way2 stem at' sg) := by
  refine ⟨nodup_map (fun a b e => ?_) hs, fun x hx => ?_⟩
  · have e2 := List.append_cancel_right e
    have e3 := List.append_cancel_left e2
    simpa using e3
  · obtain ⟨s, hs', rfl⟩ := List.mem_map.mp hx
    rw [List.length_append, List.length_append, List.length_take, List.length_drop]
    refine ⟨by simp; omega, by simp; omega, fun c hc => ?_⟩
    rcases List.mem_append.mp hc with h | h
    · rcases List.mem_append.mp h with h | h
      · exact hl c (List.mem_of_mem_take h)
      · rw [List.mem_singleton.mp h]; exact hsl s hs'
    · exact hl c (List.mem_of_mem_drop h)
def way1 (sg : List Nat) : List (List Nat) := sg.map fun s => [s]
theorem way1_ok {sg : List Nat} (hs : sg.Nodup) (hsl : ∀ c ∈ sg, Let c) : Ok (way1 sg) := by
  refine ⟨nodup_map (fun a b e => by simpa using e) hs, fun x hx => ?_⟩
  obtain ⟨s, hs', rfl⟩ := List.mem_map.mp hx
  exact ⟨by show 1 ≤ 1; decide, by show 1 ≤ 8; decide, fun c hc => by rw [List.mem_singleton.mp hc]; exact hsl s hs'⟩
/-- each sign so often -/
def way3 (sg : List Nat) (at' m : Nat) : List (List Nat) := (List.range m).map fun k => List.replicate (1 + (k + at') % 8) (sg.getD k 97)
theorem way3_ok {sg : List Nat} {at' m : Nat} (hm : m ≤ sg.length) (hs : sg.Nodup) (hsl : ∀ c ∈ sg, Let c) : Ok (way3 sg at' m) := by
  refine ⟨nodup_on (fun a ha b hb e => ?_) List.nodup_range, fun x hx => ?_⟩
  · have ha := List.mem_range.mp ha
    have hb := List.mem_range.mp hb
    have e1 := congrArg (fun l => l.getD 0 0) e
    have e2 : sg.getD a 97 = sg.getD b 97 := by
      simpa [List.getD, Nat.add_comm 1, List.replicate_succ] using e1
    rw [List.getD_eq_getElem?_getD, List.getD_eq_getElem?_getD, List.getElem?_eq_getElem (by omega), List.getElem?_eq_getElem (by omega)] at e2
    exact (List.getElem_inj hs).mp e2
  · obtain ⟨k, hk, rfl⟩ := List.mem_map.mp hx
    have hk := List.mem_range.mp hk
    have h8 := Nat.mod_lt (k + at') (show 0 < 8 by decide)
    rw [List.length_replicate]
    refine ⟨by omega, by omega, fun c hc => ?_⟩
    rw [(List.mem_replicate.mp hc).2, List.getD_eq_getElem?_getD, List.getElem?_eq_getElem (by omega)]
    exact hsl _ (List.getElem_mem _)
/-- at least nine names by the first way -/
theorem way0_many {w sg : List Nat} (hs : sg.Nodup) (hl : sg.length = 26) : 9 ≤ (way0 w sg).length := by
  unfold way0
  rw [List.length_append]
  have h1 : (heads w).length = 8 := by unfold heads; rw [List.length_map, List.length_range]
  -- at most eight of the 26 others are beginnings
  have h2 : ((sg.map fun s => [122, s, 113]).filter fun x => decide (x ∉ heads w)).length + ((sg.map fun s => [122, s, 113]).filter fun x => !decide (x ∉ heads w)).length = 26 := by
    rw [← List.countP_eq_length_filter, ← List.countP_eq_length_filter]
    have h := List.length_eq_countP_add_countP (p := fun x => decide (x ∉ heads w)) (l := sg.map fun s => [122, s, 113])
    rw [List.length_map, hl] at h
    have e : (fun x => !decide (x ∉ heads w)) = fun x => decide ¬(decide (x ∉ heads w) = true) := by
      funext x
      simp
    rw [e]
    omega
  have h3 : ((sg.map fun s => [122, s, 113]).filter fun x => !decide (x ∉ heads w)).length ≤ (heads w).length := by
    refine List.Nodup.length_le_of_subset (List.Nodup.sublist List.filter_sublist (nodup_map (fun a b e => by simpa using e) hs)) fun x hx => ?_
    have h := (List.mem_filter.mp hx).2
    simpa using h
  omega
end NL9

/-! Parts of a set of places: reach, lists of parts, counting them -/
namespace M9
universe u v
section
variable {α : Type u} {β : Type v}
/-- a way from x to y within S, tie by tie -/
inductive Rch (adj : α → α → Prop) (S : α → Prop) (x : α) : α → Prop
  | refl : S x → Rch adj S x x
  | step {y z : α} : Rch adj S x y → adj y z → S z → Rch adj S x z
variable {adj : α → α → Prop} {S T : α → Prop} {x y z : α}
theorem Rch.head (h : Rch adj S x y) : S x := by
  induction h with
  | refl h => exact h
  | step _ _ _ ih => exact ih
theorem Rch.last (h : Rch adj S x y) : S y := by
  cases h with
  | refl h => exact h
  | step _ _ h => exact h
theorem Rch.trans (h : Rch adj S x y) (k : Rch adj S y z) : Rch adj S x z := by
  induction k with
  | refl _ => exact h
  | step _ a s ih => exact .step ih a s
theorem Rch.symm (sy : ∀ a b, adj a b → adj b a) (h : Rch adj S x y) : Rch adj S y x := by
  induction h with
  | refl h => exact .refl h
  | step k a s ih => exact Rch.trans (.step (.refl s) (sy _ _ a) k.last) ih
theorem Rch.mono (hs : ∀ a, S a → T a) (h : Rch adj S x y) : Rch adj T x y := by
  induction h with
  | refl h => exact .refl (hs _ h)
  | step _ a s ih => exact .step ih a (hs _ s)
/-- ways over another set of names -/
theorem Rch.map {adj2 : β → β → Prop} {T : β → Prop} (f : α → β) (hs : ∀ a, S a → T (f a)) (ha : ∀ a b, S a → S b → adj a b → adj2 (f a) (f b)) (h : Rch adj S x y) : Rch adj2 T (f x) (f y) := by
  induction h with
  | refl h => exact .refl (hs _ h)
  | step k a s ih => exact .step ih (ha _ _ k.last s a) (hs _ s)
/-- what is closed under ties within S, from x on, holds of all that is reached -/
theorem Rch.closed {F : α → Prop} (h0 : F x) (hc : ∀ a b, F a → adj a b → S b → F b) (h : Rch adj S x y) : F y := by
  induction h with
  | refl _ => exact h0
  | step _ a s ih => exact hc _ _ ih a s
/-- a list of some parts of S, none twice -/
structure Parts (adj : α → α → Prop) (S : α → Prop) (L : List (List α)) : Prop where
  part : ∀ l ∈ L, ∃ x, S x ∧ ∀ y, y ∈ l ↔ Rch adj S x y
  apart : L.Pairwise fun a b => ∀ y ∈ a, y ∉ b
theorem Parts.at {L : List (List α)} (sy : ∀ a b, adj a b → adj b a) (p : Parts adj S L) {l : List α} (hl : l ∈ L) (hx : x ∈ l) : S x ∧ ∀ y, y ∈ l ↔ Rch adj S x y := by
  obtain ⟨z, hz, h⟩ := p.part l hl
  have hzx := (h x).mp hx
  exact ⟨hzx.last, fun y => ⟨fun hy => (hzx.symm sy).trans ((h y).mp hy), fun hy => (h y).mpr (hzx.trans hy)⟩⟩
theorem Parts.filter {L : List (List α)} (p : Parts adj S L) (q : List α → Bool) : Parts adj S (L.filter q) :=
  ⟨fun l hl => p.part l (List.mem_filter.mp hl).1, p.apart.filter q⟩
theorem Parts.nil : Parts adj S [] := ⟨fun _ h => (nomatch h), .nil⟩
theorem Parts.snoc {L : List (List α)} {l : List α} (sy : ∀ a b, adj a b → adj b a) (p : Parts adj S L) (hl : ∃ x, S x ∧ ∀ y, y ∈ l ↔ Rch adj S x y) (hn : ∃ x ∈ l, ∀ a ∈ L, x ∉ a) : Parts adj S (L ++ [l]) := by
  refine ⟨fun m hm => ?_, ?_⟩
  · rcases List.mem_append.mp hm with h | h
    · exact p.part m h
    · rw [List.mem_singleton.mp h]
      exact hl
  · rw [List.pairwise_append]
    refine ⟨p.apart, List.pairwise_singleton _ _, fun a ha b hb y hy hy2 => ?_⟩
    rw [List.mem_singleton.mp hb] at hy2
    obtain ⟨x, hx, hxa⟩ := hn
    obtain ⟨z, hz, h⟩ := hl
    have h1 := (p.at sy ha hy).2
    have h2 : Rch adj S y x := (((h y).mp hy2).symm sy).trans ((h x).mp hx)
    exact hxa a ha ((h1 x).mpr h2)
/-- each of A has one of B of its own -/
theorem count_le {γ : Type u} {δ : Type v} {D : γ → γ → Prop} {R : γ → δ → Prop} (hR : ∀ a a' b, R a b → R a' b → D a a' → False) : ∀ (A : List γ) (B : List δ), A.Pairwise D → (∀ a ∈ A, ∃ b ∈ B, R a b) → A.length ≤ B.length
  | [], B, _, _ => Nat.zero_le _
  | a :: A, B, hA, h => by
    obtain ⟨b, hb, r⟩ := h a List.mem_cons_self
    obtain ⟨B1, B2, rfl⟩ := List.append_of_mem hb
    rw [List.pairwise_cons] at hA
    have ih := count_le hR A (B1 ++ B2) hA.2 fun a' ha' => by
      obtain ⟨b', hb', r'⟩ := h a' (List.mem_cons_of_mem _ ha')
      refine ⟨b', ?_, r'⟩
      rcases List.mem_append.mp hb' with h1 | h1
      · exact List.mem_append.mpr (.inl h1)
      · rcases List.mem_cons.mp h1 with h2 | h2
        · subst h2
          exact (hR a a' b' r r' (hA.1 a' ha')).elim
        · exact List.mem_append.mpr (.inr h2)
    rw [List.length_append] at ih
    rw [List.length_cons, List.length_append, List.length_cons]
    omega
theorem perm_eraseIdx {α : Type u} : ∀ {l : List α} {k : Nat} {y : α}, l[k]? = some y → (y :: l.eraseIdx k).Perm l
  | a :: l, 0, y, h => by
    cases h
    exact List.Perm.refl _
  | a :: l, k + 1, y, h => by
    rw [List.eraseIdx_cons_succ]
    exact (List.Perm.swap a y _).trans ((perm_eraseIdx (l := l) (k := k) h).cons a)
  | [], k, y, h => nomatch h
end
end M9

/-! texts of codes; webs and charts in the heap; the promises of the defs that these laws share -/
namespace L9
open PySem PySem.Spec PyProof.Rows L2
/-- a text of codes -/
def mkS (l : List Nat) : Str := ⟨l.toArray⟩
theorem mkS_inj {a b : List Nat} (h : mkS a = mkS b) : a = b := by
  have h1 := congrArg (fun z : Str => z.cps.toList) h
  simpa [mkS] using h1
theorem mkS_cps (l : List Nat) : (mkS l).cps.toList = l := by simp [mkS]
theorem mkS_len (l : List Nat) : (mkS l).length = l.length := by
  show l.toArray.size = _
  rw [List.size_toArray]
theorem mkS_app (a b : List Nat) : mkS a ++ mkS b = mkS (a ++ b) := by
  show (⟨a.toArray ++ b.toArray⟩ : Str) = ⟨(a ++ b).toArray⟩
  congr 1
  simp
theorem mkS_to (l : List Nat) (k : Nat) : cutS (mkS l) none (some (k : Int)) = mkS (l.take k) := by
  unfold cutS
  rw [HT.sIx_none, HT.sIx_nat, mkS_len, mkS_cps]
  show (⟨((l.drop 0).take (min k l.length - 0)).toArray⟩ : Str) = ⟨(l.take k).toArray⟩
  rw [List.drop_zero, Nat.sub_zero]
  congr 2
  by_cases h : k ≤ l.length
  · rw [Nat.min_eq_left h]
  · rw [Nat.min_eq_right (by omega), List.take_of_length_le (Nat.le_refl _), List.take_of_length_le (by omega)]
theorem mkS_from (l : List Nat) (k : Nat) : cutS (mkS l) (some (k : Int)) none = mkS (l.drop k) := by
  unfold cutS
  rw [HT.sIx_none, HT.sIx_nat, mkS_len, mkS_cps]
  show (⟨((l.drop (min k l.length)).take (l.length - min k l.length)).toArray⟩ : Str) = ⟨(l.drop k).toArray⟩
  congr 2
  by_cases h : k ≤ l.length
  · rw [Nat.min_eq_left h, List.take_of_length_le (by rw [List.length_drop]; exact Nat.le_refl _)]
  · rw [Nat.min_eq_right (by omega), List.drop_eq_nil_of_le (Nat.le_refl _), List.drop_eq_nil_of_le (by omega), List.take_nil]
theorem mkS_join (cs : List Nat) : Txt.join ("" : Str) ((cs.map fun c => mkS [c])) = mkS cs := txt_join_signs cs
theorem foldl_rep (c : Nat) : ∀ (n : Nat) (a : Array Nat), (List.replicate n (#[c] : Array Nat)).foldl (· ++ ·) a = a ++ (List.replicate n c).toArray
  | 0, a => by simp
  | n + 1, a => by
    rw [List.replicate_succ, List.foldl_cons, foldl_rep c n, List.replicate_succ]
    apply Array.ext'
    simp
theorem mkS_mul (c n : Nat) (h1 : 1 ≤ n) (h2 : n ≤ 1000) : MulOk (mkS [c]) (n : Int) ∧ Txt.mul (mkS [c]) (n : Int) = mkS (List.replicate n c) := by
  refine ⟨⟨?_, fun _ _ => ?_, fun _ _ => ?_⟩, ?_⟩
  · rw [decide_eq_false (by omega), decide_eq_false (by omega)]
    rfl
  · show ¬ ((1 : Int) > (2 ^ 63 - 1) / (n : Int))
    have : (1 : Int) ≤ (2 ^ 63 - 1) / (n : Int) := (Int.le_ediv_iff_mul_le (by omega)).mpr (by omega)
    omega
  · show Builtin.Str.tooLong (1 * (n : Int).toNat) = false
    rw [Int.toNat_natCast, Nat.one_mul]
    unfold Builtin.Str.tooLong
    simp
    have := sizeLine_eq
    omega
  · unfold Txt.mul
    rw [if_neg (by omega)]
    by_cases e : n = 1
    · subst e
      rw [if_pos (by rfl)]
      rfl
    · rw [if_neg (by
        have : (mkS [c]).length = 1 := rfl
        simp [this]
        omega)]
      show (⟨(List.replicate ((n : Int).toNat) (#[c] : Array Nat)).foldl (· ++ ·) #[]⟩ : Str) = _
      rw [foldl_rep, Int.toNat_natCast]
      simp [mkS]
theorem cutV_to (xs : List V) (k : Nat) : cutV xs none (some (k : Int)) = xs.take k := by
  unfold cutV
  rw [HT.sIx_none, HT.sIx_nat, Nat.sub_zero, List.drop_zero]
  by_cases h : k ≤ xs.length
  · rw [Nat.min_eq_left h]
  · rw [Nat.min_eq_right (by omega), List.take_of_length_le (Nat.le_refl _), List.take_of_length_le (by omega)]
theorem inV_strs (z : Str) : ∀ l : List Str, inV (.str z) (l.map V.str) = decide (z ∈ l)
  | [] => by simp [inV]
  | y :: l => by
    have ih := inV_strs z l
    unfold inV at ih ⊢
    rw [List.map_cons, List.any_cons, ih]
    by_cases e : y = z
    · subst e
      simp [eqV]
    · have e2 : ¬ z = y := fun h => e h.symm
      simp [eqV, e, e2]
theorem mkS_mem {x : List Nat} {L : List (List Nat)} : mkS x ∈ L.map mkS ↔ x ∈ L := by
  constructor
  · intro h
    obtain ⟨y, hy, e⟩ := List.mem_map.mp h
    rw [← mkS_inj e]
    exact hy
  · exact fun h => List.mem_map.mpr ⟨x, h, rfl⟩
theorem flat_strs : ∀ l : List Str, (l.map V.str).all flatV = true
  | [] => rfl
  | _ :: l => by rw [List.map_cons, List.all_cons, flat_strs l]; rfl
theorem flat_ints : ∀ l : List Int, (l.map V.int).all flatV = true
  | [] => rfl
  | _ :: l => by rw [List.map_cons, List.all_cons, flat_ints l]; rfl
theorem inV_ints (z : Int) : ∀ l : List Int, inV (.int z) (l.map V.int) = decide (z ∈ l)
  | [] => by simp [inV]
  | y :: l => by
    have ih := inV_ints z l
    unfold inV at ih ⊢
    rw [List.map_cons, List.any_cons, ih]
    by_cases e : y = z
    · subst e
      simp [eqV]
    · have e2 : ¬ z = y := fun h => e h.symm
      simp [eqV, e, e2]
theorem lets_iff (c : Nat) : c ∈ lets.cps.toList ↔ NL9.Let c := by
  have e : lets.cps.toList = [97, 98, 99, 100, 101, 102, 103, 104, 105, 106, 107, 108, 109, 110, 111, 112, 113, 114, 115, 116, 117, 118, 119, 120, 121, 122] := by decide +kernel
  rw [e]
  unfold NL9.Let
  simp only [List.mem_cons, List.not_mem_nil, or_false]
  omega
theorem lets_at {k : Nat} (h : k < 26) : lets.cps.toList[k]? = some (97 + k) := by
  have e : lets.cps.toList = (List.range 26).map fun k => 97 + k := by decide +kernel
  rw [e, List.getElem?_map, List.getElem?_range h] <;> rfl
/-- right names, none twice -/
structure Labs (l : List Str) : Prop where
  nd : l.Nodup
  nm : ∀ x ∈ l, nameB x = true ∧ x.length ≤ 8 ∧ PyData.strOk x = true
theorem nameB_mkS {l : List Nat} (h1 : 1 ≤ l.length) (h2 : l.length ≤ 8) (h3 : ∀ c ∈ l, NL9.Let c) : nameB (mkS l) = true := by
  unfold nameB
  rw [mkS_len, allLets_of (fun c hc => by rw [mkS_cps] at hc; exact (lets_iff c).mpr (h3 c hc)), decide_eq_true (by omega), decide_eq_true (by omega)]
  rfl
theorem labs_of {L : List (List Nat)} (h : NL9.Ok L) : Labs (L.map mkS) := by
  refine ⟨NL9.nodup_map (fun a b e => mkS_inj e) h.nd, fun x hx => ?_⟩
  obtain ⟨l, hl, rfl⟩ := List.mem_map.mp hx
  obtain ⟨h1, h2, h3⟩ := h.nm l hl
  refine ⟨nameB_mkS h1 h2 h3, by rw [mkS_len]; exact h2, ok_of_codes fun c hc => ?_⟩
  rw [mkS_cps] at hc
  have := h3 c hc
  unfold NL9.Let at this
  omega
/-! ### a web -/
structure Wb where
  lab : List Str
  lo : List Int
  hi : List Int
  prs : List (Int × Int)
  dr : List Int
structure Wb.Ok (W : Wb) (m : Nat) : Prop where
  len1 : 1 ≤ W.lab.length
  len : W.lab.length ≤ m
  labs : Labs W.lab
  llo : W.lo.length = W.lab.length
  lhi : W.hi.length = W.lab.length
  bnd : ∀ (i : Nat) (a b : Int), W.lo[i]? = some a → W.hi[i]? = some b → -MH ≤ a ∧ a ≤ b ∧ b ≤ MH
  prs : ∀ p ∈ W.prs, 0 ≤ p.1 ∧ p.1 < p.2 ∧ p.2 < (W.lab.length : Int)
  pnd : W.prs.Nodup
  pl : W.prs.length ≤ 20
  dr : ∀ d ∈ W.dr, 0 ≤ d ∧ d < (W.lab.length : Int)
  dnd : W.dr.Nodup
/-! ### the promises of the drawn things -/
def spLabels : Sp := fun vs H Q _ => ∃ (b : Addr) (m : Int) (n : Nat), vs = [.ref b, .int m] ∧ BoxAt H b n ∧ 1 ≤ m ∧ m ≤ 9 ∧ n ≤ 900000 ∧
  ∀ (p : Addr) (H' : Hp) (lab : List Str), Drw H H' b (n + 12) → H p = none → H' p = some (.lst (lab.map V.str)) → (lab.length : Int) = m → Labs lab → Q (.ref p) H'
def spEnds : Sp := fun vs H Q _ => ∃ (b : Addr) (s c : Int) (n : Nat), vs = [.ref b, .int s, .int c] ∧ BoxAt H b n ∧ 1 ≤ s ∧ s ≤ 10 ∧ 1 ≤ c ∧ c ≤ 250000000000 ∧ n ≤ 900000 ∧
  ∀ (p : Addr) (H' : Hp) (l h : Int), Drw H H' b (n + 4) → H p = none → H' p = some (.tup [.int l, .int h]) → -MH ≤ l → l ≤ h → h ≤ MH → Q (.ref p) H'
def spMixed (K : PySem.W.Frag) : Sp := fun vs H Q _ => ∃ (b a : Addr) (xs : List V) (n : Nat), vs = [.ref b, .ref a] ∧ BoxAt H b n ∧ SqL K H a xs ∧ xs.length ≤ 100 ∧ n ≤ 900000 ∧
  ∀ (p : Addr) (H' : Hp) (ys : List V), Drw H H' b (n + xs.length) → H p = none → H' p = some (.lst ys) → ys.Perm xs → Q (.ref p) H'
/-! ### a chart -/
structure Ch where
  names : List Str
  lo : Str → Int
  hi : Str → Int
  nbr : Str → List Str
  outs : List Str
structure Ch.Ok (c : Ch) : Prop where
  nd : c.names.Nodup
  len : c.names.length ≤ 60
  bnd : ∀ x ∈ c.names, -MH ≤ c.lo x ∧ c.lo x ≤ c.hi x ∧ c.hi x ≤ MH
  nin : ∀ x ∈ c.names, ∀ y ∈ c.nbr x, y ∈ c.names
  nnd : ∀ x ∈ c.names, (c.nbr x).Nodup
  sy : ∀ x ∈ c.names, ∀ y ∈ c.nbr x, x ∈ c.nbr y
  oin : ∀ x ∈ c.outs, x ∈ c.names
  ond : c.outs.Nodup
def chf (b t o : Addr) : List (Str × V) := [(("bounds_by_name" : Str), .ref b), (("tied_by_name" : Str), .ref t), (("outlet_names" : Str), .ref o)]
theorem chf_b (b t o : Addr) : (chf b t o).lookup ("bounds_by_name" : Str) = some (.ref b) := rfl
theorem chf_t (b t o : Addr) : (chf b t o).lookup ("tied_by_name" : Str) = some (.ref t) := by
  unfold chf
  rw [List.lookup_cons, show (("tied_by_name" : Str) == ("bounds_by_name" : Str)) = false by decide +kernel]
  rfl
theorem chf_o (b t o : Addr) : (chf b t o).lookup ("outlet_names" : Str) = some (.ref o) := by
  unfold chf
  rw [List.lookup_cons, show (("outlet_names" : Str) == ("bounds_by_name" : Str)) = false by decide +kernel]
  show List.lookup _ [(("tied_by_name" : Str), V.ref t), (("outlet_names" : Str), V.ref o)] = _
  rw [List.lookup_cons, show (("outlet_names" : Str) == ("tied_by_name" : Str)) = false by decide +kernel]
  rfl
theorem chf_no {b t o : Addr} {m : Str} (h1 : (m == ("bounds_by_name" : Str)) = false) (h2 : (m == ("tied_by_name" : Str)) = false) (h3 : (m == ("outlet_names" : Str)) = false) : (chf b t o).lookup m = none := by
  unfold chf
  rw [List.lookup_cons, h1]
  show List.lookup _ [(("tied_by_name" : Str), V.ref t), (("outlet_names" : Str), V.ref o)] = _
  rw [List.lookup_cons, h2]
  show List.lookup _ [(("outlet_names" : Str), V.ref o)] = _
  rw [List.lookup_cons, h3]
  rfl
/-- the dict of names -/
def byN (l : List Str) (a : Str → Addr) : List (L2.Key × V) := l.map fun x => ((Sum.inr x : L2.Key), V.ref (a x))
/-- the dict of bounds -/
def BdAt (CB : Addr) (H : Hp) (b : Addr) (l : List Str) (lo hi : Str → Int) : Prop := ∃ ba : Str → Addr, H b = some (.dK (byN l ba)) ∧ ∀ x ∈ l, BndAt CB H (ba x) (lo x) (hi x)
/-- the dict of ties -/
def TdAt (H : Hp) (t : Addr) (l : List Str) (nbr : Str → List Str) : Prop := ∃ ta : Str → Addr, H t = some (.dK (byN l ta)) ∧ ∀ x ∈ l, H (ta x) = some (.lst ((nbr x).map V.str))
def ChAt (C CB : Addr) (H : Hp) (p : Addr) (c : Ch) : Prop := ∃ dx b t o, H p = some (.ins C dx (chf b t o)) ∧ BdAt CB H b c.names c.lo c.hi ∧ TdAt H t c.names c.nbr ∧ H o = some (.lst (c.outs.map V.str))
theorem BdAt.mono {CB : Addr} {H H' : Hp} {b : Addr} {l : List Str} {lo hi : Str → Int} (s : Same H H') (h : BdAt CB H b l lo hi) : BdAt CB H' b l lo hi := by
  obtain ⟨ba, h1, h2⟩ := h
  exact ⟨ba, s _ _ h1, fun x hx => (h2 x hx).mono s⟩
theorem TdAt.mono {H H' : Hp} {t : Addr} {l : List Str} {nbr : Str → List Str} (s : Same H H') (h : TdAt H t l nbr) : TdAt H' t l nbr := by
  obtain ⟨ta, h1, h2⟩ := h
  exact ⟨ta, s _ _ h1, fun x hx => s _ _ (h2 x hx)⟩
theorem ChAt.mono {C CB : Addr} {H H' : Hp} {p : Addr} {c : Ch} (s : Same H H') (h : ChAt C CB H p c) : ChAt C CB H' p c := by
  obtain ⟨dx, b, t, o, h0, h1, h2, h3⟩ := h
  exact ⟨dx, b, t, o, s _ _ h0, h1.mono s, h2.mono s, s _ _ h3⟩
theorem valV_byN {a : Str → Addr} {x : Str} : ∀ {l : List Str}, x ∈ l → valV (byN l a) (Sum.inr x : L2.Key) = some (V.ref (a x))
  | y :: l, h => by
    unfold byN valV
    rw [List.map_cons, List.find?_cons]
    by_cases e : y = x
    · subst e
      rw [decide_eq_true rfl]
      rfl
    · rw [decide_eq_false (fun z => e (Sum.inr.inj z))]
      have hl : x ∈ l := by
        rcases List.mem_cons.mp h with h | h
        · exact absurd h.symm e
        · exact h
      exact valV_byN (l := l) hl
theorem valV_byN_no {a : Str → Addr} {x : Str} : ∀ {l : List Str}, x ∉ l → valV (byN l a) (Sum.inr x : L2.Key) = none
  | [], _ => rfl
  | y :: l, h => by
    rw [List.mem_cons, not_or] at h
    unfold byN valV
    rw [List.map_cons, List.find?_cons, decide_eq_false (fun z => h.1 (Sum.inr.inj z).symm)]
    exact valV_byN_no (l := l) h.2
/-- is x a key of the dict -/
theorem valV_is {a : Str → Addr} {x : Str} {l : List Str} : (valV (byN l a) (Sum.inr x : L2.Key)).isSome = decide (x ∈ l) := by
  by_cases h : x ∈ l
  · rw [valV_byN h, decide_eq_true h]
    rfl
  · rw [valV_byN_no h, decide_eq_false h]
    rfl
theorem putK_new {kvs : List (L2.Key × V)} {k : L2.Key} {v : V} (h : ∀ p ∈ kvs, p.1 ≠ k) : putK kvs k v = kvs ++ [(k, v)] := by
  unfold putK
  rw [if_neg]
  simp only [List.any_eq_true, not_exists, not_and]
  intro p hp e
  exact h p hp (of_decide_eq_true e)
end L9

/-! a wish, one step at a time -/
namespace L9
open PySem PySem.Spec PyProof.Rows L2
section
variable {σ : L2.St} {H : Hp} {Q : VK} {D : Ends} {ta tb tc : TE} {t : TA}
def isBl (x : V) (Q : Bool → Hp → Prop) (H : Hp) : Prop := ∃ c, x = .bl c ∧ Q c H
theorem w_isBl {c : Bool} {Q : Bool → Hp → Prop} (q : Q c H) : isBl (.bl c) Q H := ⟨c, rfl, q⟩
theorem w_var {i : Nat} {v : V} (h : σ[i]? = some (some v)) (q : Q v H) : tVar i σ H Q := ⟨v, h, q⟩
theorem w_c {v : V} (q : Q v H) : tC v σ H Q := q
theorem w_op {r : R2} (q : ta σ H fun x H1 => tb σ H1 fun y H2 => r x y H2 Q) : tOp r ta tb σ H Q := q
theorem w_un {r : V → Hp → VK → Prop} (q : ta σ H fun x H1 => r x H1 Q) : tUn r ta σ H Q := q
theorem w_rI0 {g : Int → Int → V} {i j : Int} (q : Q (g i j) H) : rI0 g (.int i) (.int j) H Q := ⟨i, j, rfl, rfl, q⟩
theorem w_rI {C : Int → Int → Prop} {g : Int → Int → V} {i j : Int} (c : C i j) (q : Q (g i j) H) : rI C g (.int i) (.int j) H Q := ⟨i, j, rfl, rfl, c, q⟩
theorem w_mulL {g : Int → Int → V} {i j : Int} (h1 : -(2 ^ 64) < i) (h2 : i < 2 ^ 64) (q : Q (g i j) H) : rI CMul g (.int i) (.int j) H Q := ⟨i, j, rfl, rfl, .inl ⟨h1, h2⟩, q⟩
theorem w_mulR {g : Int → Int → V} {i j : Int} (h1 : -(2 ^ 64) < j) (h2 : j < 2 ^ 64) (q : Q (g i j) H) : rI CMul g (.int i) (.int j) H Q := ⟨i, j, rfl, rfl, .inr ⟨h1, h2⟩, q⟩
theorem w_pow {g : Int → Int → V} {i j : Int} (h1 : 0 ≤ j) (h2 : j ≤ 1000000) (h3 : i.natAbs < 2 ^ 64) (q : Q (g i j) H) : rI CPow g (.int i) (.int j) H Q := ⟨i, j, rfl, rfl, ⟨h1, h2, h3⟩, q⟩
theorem w_mod {g : Int → Int → V} {i j : Int} (h : 0 < j) (q : Q (g i j) H) : rI (fun _ j => 0 < j) g (.int i) (.int j) H Q := ⟨i, j, rfl, rfl, h, q⟩
theorem w_div {g : Int → Int → V} {i j : Int} (h : 0 < j) (h2 : j.natAbs < 2 ^ 64) (q : Q (g i j) H) : rI CDivW g (.int i) (.int j) H Q := ⟨i, j, rfl, rfl, wide_div h h2 (by decide) (by decide), q⟩
theorem w_rU {g : Int → V} {i : Int} (q : Q (g i) H) : rU g (.int i) H Q := ⟨i, rfl, q⟩
theorem w_eq {x y : V} (h : scal x y = true) (q : Q (.bl (decide (x = y))) H) : rEq x y H Q := ⟨h, q⟩
theorem w_ne {x y : V} (h : scal x y = true) (q : Q (.bl (!decide (x = y))) H) : rNe x y H Q := ⟨h, q⟩
theorem w_B {Q : Bool → Hp → Prop} (q : ta σ H fun x H1 => isBl x Q H1) : tB ta σ H Q := q
theorem w_test {Q : Bool → Hp → Prop} (q : ta σ H fun x H1 => isBl x Q H1) : tTest ta σ H Q := q
theorem w_not {u : TT} {Q : Bool → Hp → Prop} (q : u σ H fun c H1 => Q (!c) H1) : tNot u σ H Q := q
theorem w_and {u v : TT} {Q : Bool → Hp → Prop} (q : u σ H fun c H1 => if c = true then v σ H1 Q else Q false H1) : tAnd u v σ H Q := q
theorem w_or {u v : TT} {Q : Bool → Hp → Prop} (q : u σ H fun c H1 => if c = true then Q true H1 else v σ H1 Q) : tOr u v σ H Q := q
theorem w_if {u : TT} (q : u σ H fun c H1 => if c = true then ta σ H1 Q else tb σ H1 Q) : tIf u ta tb σ H Q := q
theorem w_ifS {c : TT} {s u : TS} (q : c σ H fun b H1 => if b = true then s D σ H1 else u D σ H1) : tIfS c s u D σ H := q
theorem w_nil {Q : List V → Hp → Prop} (q : Q [] H) : tNil σ H Q := q
theorem w_cons {Q : List V → Hp → Prop} (q : ta σ H fun x H1 => t σ H1 fun xs H2 => Q (x :: xs) H2) : tCons ta t σ H Q := q
theorem w_CB {r : List V → Hp → VK → Prop} (q : t σ H fun vs H1 => r vs H1 Q) : tCB r t σ H Q := q
theorem w_call {sp : Sp} {dvs : List V} {E : XK} (q : t σ H fun vs H1 => sp (vs ++ dvs) H1 Q E) : tCall sp dvs E t σ H Q := q
theorem w_gName {i : Nat} {v : V} {Q : L2.St → Hp → Prop} (q : Q (σ.set i (some v)) H) : gName i v σ H Q := q
theorem w_gNil {Q : L2.St → Hp → Prop} (q : Q σ H) : gNil [] σ H Q := ⟨rfl, q⟩
theorem w_gCons {g : TG} {u : TGs} {v : V} {r : List V} {Q : L2.St → Hp → Prop} (q : g v σ H fun σ' H' => u r σ' H' Q) : gCons g u (v :: r) σ H Q := ⟨v, r, rfl, q⟩
theorem w_asg {g : TG} (q : ta σ H fun x H1 => g x σ H1 D.nx) : tAsg ta g D σ H := q
theorem w_seq {s u : TS} (q : s { D with nx := u D } σ H) : tSeq s u D σ H := q
theorem w_ret (q : ta σ H D.rt) : tRet ta D σ H := q
theorem w_retN (q : D.rt .non H) : tRetN D σ H := q
theorem w_next (q : D.nx σ H) : tNext D σ H := q
theorem w_drop (q : ta σ H fun _ H1 => D.nx σ H1) : tDrop ta D σ H := q
def isTwo (vs : List V) (Q : V → V → Prop) : Prop := ∃ v w, vs = [v, w] ∧ Q v w
theorem w_isTwo {v w : V} {Q : V → V → Prop} (q : Q v w) : isTwo [v, w] Q := ⟨v, w, rfl, q⟩
theorem w_par {i j : Nat} (q : t σ H fun vs H1 => isTwo vs fun v w => D.nx ((σ.set i (some v)).set j (some w)) H1) : tPar i j t D σ H := q
theorem w_tup (q : t σ H fun xs H1 => xs.length ≤ sizeLine ∧ ∀ p, H1 p = none → Q (.ref p) (upd H1 p (.tup xs))) : tTup t σ H Q := q
theorem w_lst (q : t σ H fun xs H1 => xs.length ≤ sizeLine ∧ ∀ p, H1 p = none → Q (.ref p) (upd H1 p (.lst xs))) : tLst t σ H Q := q
theorem w_andV (q : ta σ H fun x H1 => isBl x (fun c H1 => if c = true then tb σ H1 Q else Q (.bl false) H1) H1) : tAndV ta tb σ H Q := q
theorem w_orV (q : ta σ H fun x H1 => isBl x (fun c H1 => if c = true then Q (.bl true) H1 else tb σ H1 Q) H1) : tOrV ta tb σ H Q := q
theorem w_notV (q : ta σ H fun x H1 => isBl x (fun c H1 => Q (.bl (!c)) H1) H1) : tNotV ta σ H Q := q
def isIt (x : V) (Q : Option Int → Hp → Prop) (H : Hp) : Prop := ∃ i, x = .int i ∧ Q (some i) H
theorem w_isIt {i : Int} {Q : Option Int → Hp → Prop} (q : Q (some i) H) : isIt (.int i) Q H := ⟨i, rfl, q⟩
theorem w_part {Q : Option Int → Hp → Prop} (q : ta σ H fun x H1 => isIt x Q H1) : tPart ta σ H Q := q
theorem w_chain {r r' : R2} (q : ta σ H fun x H1 => tb σ H1 fun y H2 => r x y H2 fun z H3 => isBl z (fun k H4 => if k = true then tc σ H4 fun w H5 => r' y w H5 Q else Q (.bl false) H4) H3) : tChain r r' ta tb tc σ H Q := q
theorem w_chainT {r r' : R2} {Q : Bool → Hp → Prop} (q : tChain r r' ta tb tc σ H fun x H1 => isBl x Q H1) : tTest (tChain r r' ta tb tc) σ H Q := q
def isIntR (x : V) (Q : Int → Int → Hp → Prop) (H : Hp) : Prop := ∃ n, x = .int n ∧ Q 0 n H
theorem w_isIntR {n : Int} {Q : Int → Int → Hp → Prop} (q : Q 0 n H) : isIntR (.int n) Q H := ⟨n, rfl, q⟩
theorem w_rgOne {Q : Int → Int → Hp → Prop} (q : ta σ H fun x H1 => isIntR x Q H1) : tRg1 ta σ H Q := q
theorem w_listRg {te : L2.St → Hp → (Int → Int → Hp → Prop) → Prop} (q : te σ H fun a b H1 => RgOk a b ∧ ∀ q, H1 q = none → Q (.ref q) (upd H1 q (.lst (rgV a b)))) : tLstRg te σ H Q := q
theorem w_makeK {C : Addr} {n m : Nat} {sp : Sp} {gV : List V → List V → List V} {E : XK} {tk : TA} (q : t σ H fun vs H1 => tk σ H1 fun zs H2 => vs.length = n ∧ zs.length = m ∧ ∀ x dx, H2 x = none → H2 dx = none → dx ≠ x → sp (gV (.ref x :: vs) zs) (upd (upd H2 dx (.own x)) x (.ins C dx [])) (fun v H3 => v = .non ∧ Q (.ref x) H3) E) : tMakeK C n m sp gV E t tk σ H Q := q
theorem w_nopart {Q : Option Int → Hp → Prop} (q : Q none H) : tNoPart σ H Q := q
theorem w_sl {r : V → Option Int → Option Int → Hp → VK → Prop} {tl th : TO} (q : ta σ H fun x H1 => tl σ H1 fun l H2 => th σ H2 fun u H3 => r x l u H3 Q) : tSl r ta tl th σ H Q := q
theorem w_yes {Q : Bool → Hp → Prop} (q : Q true H) : tYes σ H Q := q
theorem w_bm {K : PySem.W.Frag} {T : String} {r : V → List V → Hp → VK → Prop} (q : ta σ H fun x H1 => tyV K T x H1 ∧ t σ H1 fun xs H2 => r x xs H2 Q) : tBM K T r ta t σ H Q := q
theorem w_bm0 {K : PySem.W.Frag} {T : String} {r : V → List V → Hp → VK → Prop} (q : ta σ H fun x H1 => tyV K T x H1 ∧ r x [] H1 Q) : tBM0 K T r ta σ H Q := q
theorem w_dput (q : tc σ H fun v H1 => ta σ H1 fun x H2 => tb σ H2 fun y H3 => ∃ a H4, x = .ref a ∧ DPut H3 a y v H4 ∧ D.nx σ H4) : sDPut ta tb tc D σ H := q
theorem w_dget (q : ta σ H fun x H1 => tb σ H1 fun y H2 => ∃ a v, x = .ref a ∧ DGet H2 a y (some v) ∧ Q v H2) : tDGet ta tb σ H Q := q
theorem w_din (q : tb σ H fun y H1 => ta σ H1 fun x H2 => ∃ a o, x = .ref a ∧ DGet H2 a y o ∧ Q (.bl o.isSome) H2) : tDIn tb ta σ H Q := q
theorem w_dnin (q : tb σ H fun y H1 => ta σ H1 fun x H2 => ∃ a o, x = .ref a ∧ DGet H2 a y o ∧ Q (.bl (!o.isSome)) H2) : tDNotIn tb ta σ H Q := q
theorem w_dnew (q : ∀ p, H p = none → Q (.ref p) (upd H p (.dK []))) : tDNewK σ H Q := q
theorem w_fld {K : PySem.W.Frag} {f : Str} (q : ta σ H fun x H1 => ∃ a C dx fs v, x = .ref a ∧ H1 a = some (.ins C dx fs) ∧ Cls K C ∧ NoAttr K C f ∧ fs.lookup f = some v ∧ Q v H1) : tFld K ta f σ H Q := q
theorem w_sfld {K : PySem.W.Frag} {f : Str} (q : tb σ H fun y H1 => ta σ H1 fun x H2 => ∃ a C dx fs, x = .ref a ∧ H2 a = some (.ins C dx fs) ∧ Cls K C ∧ NoAttr K C f ∧ fs.length < 1000 ∧ D.nx σ (upd H2 a (.ins C dx (putF f y fs)))) : sFld K ta tb f D σ H := q
theorem w_meth {C : Addr} {m : Str} {sp : Sp} {dvs : List V} {E : XK} (q : ta σ H fun x H1 => ∃ a dx fs, x = .ref a ∧ H1 a = some (.ins C dx fs) ∧ fs.lookup m = none ∧ t σ H1 fun vs H2 => sp (x :: (vs ++ dvs)) H2 Q E) : tMeth C m sp dvs E ta t σ H Q := q
theorem w_make {C : Addr} {sp : Sp} {dvs : List V} {E : XK} (q : t σ H fun vs H1 => ∀ x dx, H1 x = none → H1 dx = none → dx ≠ x → sp (.ref x :: (vs ++ dvs)) (upd (upd H1 dx (.own x)) x (.ins C dx [])) (fun v H2 => v = .non ∧ Q (.ref x) H2) E) : tMake C sp dvs E t σ H Q := q
theorem w_subO {C : Addr} {sp : Sp} {E : XK} (q : ta σ H fun x H1 => tb σ H1 fun y H2 => ∃ a dx fs, x = .ref a ∧ H2 a = some (.ins C dx fs) ∧ sp [x, y] H2 Q E) : tSubO C sp E ta tb σ H Q := q
def isRg (vs : List V) (R : It → Hp → Prop) (H : Hp) : Prop := ∃ j : Int, vs = [.int j] ∧ -(2 ^ 62) ≤ j ∧ j < 2 ^ 62 ∧ R (Itr 0 j.toNat) H
theorem w_isRg {R : It → Hp → Prop} {j : Int} (h1 : -(2 ^ 62) ≤ j) (h2 : j < 2 ^ 62) (q : R (Itr 0 j.toNat) H) : isRg [.int j] R H := ⟨j, rfl, h1, h2, q⟩
theorem w_rg1 {R : It → Hp → Prop} (q : t σ H fun vs H1 => isRg vs R H1) : iRng1 t σ H R := q
def isRg2 (vs : List V) (R : It → Hp → Prop) (H : Hp) : Prop := ∃ i j : Int, vs = [.int i, .int j] ∧ (-(2 ^ 62) ≤ i ∧ i < 2 ^ 62 ∧ -(2 ^ 62) ≤ j ∧ j < 2 ^ 62) ∧ R (Itr i (j - i).toNat) H
theorem w_isRg2 {R : It → Hp → Prop} {i j : Int} (h1 : -(2 ^ 62) ≤ i) (h2 : i < 2 ^ 62) (h3 : -(2 ^ 62) ≤ j) (h4 : j < 2 ^ 62) (q : R (Itr i (j - i).toNat) H) : isRg2 [.int i, .int j] R H := ⟨i, j, rfl, ⟨h1, h2, h3, h4⟩, q⟩
theorem w_rg2 {R : It → Hp → Prop} (q : t σ H fun vs H1 => isRg2 vs R H1) : iRng2 t σ H R := q
theorem w_list {K : PySem.W.Frag} {R : It → Hp → Prop} (q : ta σ H fun x H1 => ∃ a, x = .ref a ∧ (∃ xs, SqL K H1 a xs) ∧ R (Itl K a) H1) : iList K ta σ H R := q
def forG (J : It) (g : TG) (s : TS) (D : Ends) (σ : L2.St) (H : Hp) : Prop := tFor (fun _ _ R => R J H) g s D σ H
theorem w_for {wi : TI} {g : TG} {s : TS} (q : wi σ H fun J H1 => forG J g s D σ H1) : tFor wi g s D σ H := q
def lcG (J : It) (g : TG) (u : TT) (e : TE) (vs : List Nat) (σ : L2.St) (H : Hp) (Q : VK) : Prop := tLc (fun _ _ R => R J H) g u e vs σ H Q
theorem w_lc {wi : TI} {g : TG} {u : TT} {vs : List Nat} (q : wi σ H fun J H1 => lcG J g u ta vs σ H1 Q) : tLc wi g u ta vs σ H Q := q
def dcG (J : It) (g : TG) (u : TT) (k e : TE) (vs : List Nat) (σ : L2.St) (H : Hp) (Q : VK) : Prop := tDc (fun _ _ R => R J H) g u k e vs σ H Q
theorem w_dc {wi : TI} {g : TG} {u : TT} {vs : List Nat} (q : wi σ H fun J H1 => dcG J g u ta tb vs σ H1 Q) : tDc wi g u ta tb vs σ H Q := q
end
/-- what stood stands, but at b -/
def But (b : Addr) (H H' : Hp) : Prop := ∀ p o, p ≠ b → H p = some o → H' p = some o
theorem But.trans {b : Addr} {H H' H2 : Hp} (h : But b H H') (k : But b H' H2) : But b H H2 := fun p o hp e => k p o hp (h p o hp e)
theorem But.of {b : Addr} {H H' : Hp} (s : Same H H') : But b H H' := fun p o _ e => s p o e
theorem Drw.but {H H' : Hp} {b : Addr} {n : Nat} (d : Drw H H' b n) : But b H H' := d.keep
theorem Drw.le {H H' : Hp} {b : Addr} {n m : Nat} (d : Drw H H' b n) (h : n ≤ m) : Drw H H' b m := ⟨d.keep, by
  obtain ⟨xs, e, x⟩ := d.box
  exact ⟨xs, e, x.mono h⟩⟩
section
variable {H0 H : Hp} {b : Addr} {n : Nat} {Q : VK} {E : XK} {K : PySem.W.Frag}
theorem go_take {m : Int} (d : Drw H0 H b n) (h1 : 0 < m) (h2 : m ≤ 10 ^ 15) (h3 : n ≤ 1000000) (q : ∀ (r : Int) (H' : Hp), 0 ≤ r → r < m → Drw H0 H' b (n + 1) → But b H H' → Q (.int r) H') : spTake ([V.ref b, V.int m] ++ []) H Q E :=
  ⟨b, m, n, rfl, d.box, h1, h2, h3, fun r xs l u h => q r _ l u (d.take h) fun p o hp e => (upd_ne hp).trans e⟩
theorem go_lst {xs : List V} (d : Drw H0 H b n) (hz : xs.length ≤ sizeLine) (q : ∀ (p : Addr) (H' : Hp), p ≠ b → H p = none → H' p = some (.lst xs) → Same H H' → Drw H0 H' b n → Q (.ref p) H') : xs.length ≤ sizeLine ∧ ∀ p, H p = none → Q (.ref p) (upd H p (.lst xs)) :=
  ⟨hz, fun p np => q p _ (d.ne np) np upd_same (same_upd np) (d.new np)⟩
theorem go_tup {xs : List V} (d : Drw H0 H b n) (hz : xs.length ≤ sizeLine) (q : ∀ (p : Addr) (H' : Hp), p ≠ b → H p = none → H' p = some (.tup xs) → Same H H' → Drw H0 H' b n → Q (.ref p) H') : xs.length ≤ sizeLine ∧ ∀ p, H p = none → Q (.ref p) (upd H p (.tup xs)) :=
  ⟨hz, fun p np => q p _ (d.ne np) np upd_same (same_upd np) (d.new np)⟩
theorem Drw.gen {H' : Hp} {p : Addr} {o : HO} (d : Drw H0 H b n) (np : H p = none) (e : upd H p o = H') : p ≠ b ∧ H' p = some o ∧ Same H H' ∧ Drw H0 H' b n := by
  subst e
  exact ⟨d.ne np, upd_same, same_upd np, d.new np⟩
theorem Drw.at {p : Addr} {o : HO} (d : Drw H0 H b n) (hp : p ≠ b) (np : H0 p = none) : Drw H0 (upd H p o) b n := by
  obtain ⟨xs, e, x⟩ := d.box
  exact ⟨fun q u hq e2 => (upd_ne (ne_of_none e2 np)).trans (d.keep q u hq e2), xs, (upd_ne hp.symm).trans e, x⟩
theorem Drw.free {p : Addr} (d : Drw H0 H b n) (hp : p ≠ b) (np : H p = none) : H0 p = none := by
  cases hx : H0 p with
  | none => rfl
  | some o =>
    rw [d.keep p o hp hx] at np
    cases np
theorem go_new {o : Addr → HO} (d : Drw H0 H b n) (q : ∀ (p : Addr) (H' : Hp), p ≠ b → H p = none → H' p = some (o p) → Same H H' → Drw H0 H' b n → Q (.ref p) H') : ∀ p, H p = none → Q (.ref p) (upd H p (o p)) :=
  fun p np => q p _ (d.ne np) np upd_same (same_upd np) (d.new np)
theorem go_ixL {p : Addr} {xs : List V} {i : Int} {j : Nat} {v : V} (h : SqL K H p xs) (hi : i = (j : Int)) (hv : xs[j]? = some v) (q : Q v H) : rIxL K (.ref p) (.int i) H Q := by
  subst hi
  exact ⟨p, xs, _, v, rfl, rfl, h, atI_nat hv, q⟩
theorem go_ixT {p : Addr} {xs : List V} {i : Int} {j : Nat} {v : V} (h : SqT K H p xs) (hi : i = (j : Int)) (hv : xs[j]? = some v) (q : Q v H) : rIxT K (.ref p) (.int i) H Q := by
  subst hi
  exact ⟨p, xs, _, v, rfl, rfl, h, atI_nat hv, q⟩
theorem go_ixS {z : Str} {i : Int} {j c : Nat} (hz : z.length ≤ sizeLine) (hi : i = (j : Int)) (hc : z.cps.toList[j]? = some c) (q : Q (.str (mkS [c])) H) : rIxS (.str z) (.int i) H Q := by
  subst hi
  exact ⟨z, _, c, rfl, rfl, hz, atI_nat hc, q⟩
end
/-- tuples of two ints, item by item -/
def TupAll (H : Hp) : List V → List (Int × Int) → Prop
  | [], [] => True
  | v :: vs, x :: xs => (∃ p, v = .ref p ∧ H p = some (.tup [.int x.1, .int x.2])) ∧ TupAll H vs xs
  | _, _ => False
theorem TupAll.keep {H H' : Hp} (k : ∀ p xs, H p = some (.tup xs) → H' p = some (.tup xs)) : ∀ {vs : List V} {xs : List (Int × Int)}, TupAll H vs xs → TupAll H' vs xs
  | [], [], _ => trivial
  | _ :: _, _ :: _, ⟨⟨p, e, h⟩, t⟩ => ⟨⟨p, e, k _ _ h⟩, t.keep k⟩
  | [], _ :: _, h => h.elim
  | _ :: _, [], h => h.elim
theorem TupAll.app {H : Hp} {v : V} {x : Int × Int} (h : ∃ p, v = .ref p ∧ H p = some (.tup [.int x.1, .int x.2])) : ∀ {vs : List V} {xs : List (Int × Int)}, TupAll H vs xs → TupAll H (vs ++ [v]) (xs ++ [x])
  | [], [], _ => ⟨h, trivial⟩
  | _ :: _, _ :: _, ⟨h0, t⟩ => ⟨h0, TupAll.app h t⟩
  | [], _ :: _, h => h.elim
  | _ :: _, [], h => h.elim
theorem TupAll.length {H : Hp} : ∀ {vs : List V} {xs : List (Int × Int)}, TupAll H vs xs → vs.length = xs.length
  | [], [], _ => rfl
  | _ :: _, _ :: _, ⟨_, t⟩ => by rw [List.length_cons, List.length_cons, t.length]
  | [], _ :: _, h => h.elim
  | _ :: _, [], h => h.elim
theorem TupAll.hd {K : PySem.W.Frag} {H : Hp} : ∀ {vs : List V} {xs : List (Int × Int)}, TupAll H vs xs → HdAll K H vs xs
  | [], [], _ => trivial
  | _ :: _, (a, b) :: _, ⟨⟨p, e, h⟩, t⟩ => by
    subst e
    exact ⟨hd_pair (SqT.of h) (.int a) (.int b), t.hd⟩
  | [], _ :: _, h => h.elim
  | _ :: _, [], h => h.elim
theorem TupAll.get {H : Hp} : ∀ {vs : List V} {xs : List (Int × Int)} {i : Nat} {v : V}, TupAll H vs xs → vs[i]? = some v → ∃ x p, xs[i]? = some x ∧ v = .ref p ∧ H p = some (.tup [.int x.1, .int x.2])
  | _ :: _, x :: _, 0, v, ⟨⟨p, e, h⟩, _⟩, ev => by
    cases ev
    exact ⟨x, p, rfl, e, h⟩
  | _ :: _, _ :: _, i + 1, v, ⟨_, t⟩, ev => TupAll.get (i := i) t ev
  | [], [], _, _, _, e => nomatch e
  | [], _ :: _, _, _, h, _ => h.elim
  | _ :: _, [], _, _, h, _ => h.elim
theorem TupAll.perm {H : Hp} {us vs : List V} (p : us.Perm vs) : ∀ {xs : List (Int × Int)}, TupAll H vs xs → ∃ ys : List (Int × Int), ys.Perm xs ∧ TupAll H us ys := by
  induction p with
  | nil => exact fun {xs} h => ⟨xs, .refl _, h⟩
  | cons a _ ih =>
    intro xs h
    cases xs with
    | nil => exact h.elim
    | cons x xs =>
      obtain ⟨ys, h1, h2⟩ := ih h.2
      exact ⟨x :: ys, h1.cons x, h.1, h2⟩
  | swap a b l =>
    intro xs h
    cases xs with
    | nil => exact h.elim
    | cons x xs =>
      cases xs with
      | nil => exact h.2.elim
      | cons y xs => exact ⟨y :: x :: xs, List.Perm.swap x y xs, h.2.1, h.1, h.2.2⟩
  | trans _ _ ih1 ih2 =>
    intro xs h
    obtain ⟨ys, h1, h2⟩ := ih2 h
    obtain ⟨zs, h3, h4⟩ := ih1 h2
    exact ⟨zs, h3.trans h1, h4⟩
theorem perm_map {α β : Type} {f : α → β} {us vs : List β} (p : us.Perm vs) : ∀ {xs : List α}, vs = xs.map f → ∃ ys : List α, ys.Perm xs ∧ us = ys.map f := by
  induction p with
  | nil =>
    intro xs h
    cases xs with
    | nil => exact ⟨[], .refl _, rfl⟩
    | cons _ _ => cases h
  | cons a _ ih =>
    intro xs h
    cases xs with
    | nil => cases h
    | cons x xs =>
      rw [List.map_cons] at h
      injection h with h1 h2
      obtain ⟨ys, h3, h4⟩ := ih h2
      exact ⟨x :: ys, h3.cons x, by rw [List.map_cons, h1, h4]⟩
  | swap a b l =>
    intro xs h
    cases xs with
    | nil => cases h
    | cons x xs =>
      cases xs with
      | nil => cases h
      | cons y xs =>
        rw [List.map_cons, List.map_cons] at h
        injection h with h1 h2
        injection h2 with h2 h3
        exact ⟨y :: x :: xs, List.Perm.swap x y xs, by rw [List.map_cons, List.map_cons, h1, h2, h3]⟩
  | trans _ _ ih1 ih2 =>
    intro xs h
    obtain ⟨ys, h1, h2⟩ := ih2 h
    obtain ⟨zs, h3, h4⟩ := ih1 h2
    exact ⟨zs, h3.trans h1, h4⟩
theorem TupAll.drw {H H' : Hp} {b : Addr} {n m : Nat} (d : Drw H H' b n) (hb : BoxAt H b m) {vs : List V} {xs : List (Int × Int)} (t : TupAll H vs xs) : TupAll H' vs xs := by
  obtain ⟨ys, eb, _⟩ := hb
  refine t.keep fun p zs e => d.keep p _ (fun z => ?_) e
  rw [z, eb] at e
  cases e
theorem TupAll.upd {H : Hp} {D : Addr} {ys : List V} {o : HO} (eD : H D = some (.lst ys)) {vs : List V} {xs : List (Int × Int)} (t : TupAll H vs xs) : TupAll (L2.upd H D o) vs xs := by
  refine t.keep fun p zs e => ?_
  by_cases z : p = D
  · rw [z, eD] at e
    cases e
  · exact (upd_ne z).trans e
theorem TupAll.same {H H' : Hp} (s : Same H H') {vs : List V} {xs : List (Int × Int)} (t : TupAll H vs xs) : TupAll H' vs xs := t.keep fun p zs e => s _ _ e
/-- a dict's comprehension over a list that stays -/
theorem dc_list {K : PySem.W.Frag} {a : Addr} {xs : List V} {g : TG} {tt : TT} {tk tv : TE} {vs : List Nat} {σ : L2.St} {H1 : Hp} {D : Addr} {Qd : Hp → Prop} (Pv : Nat → Hp → Prop) (h0 : Pv 0 (upd H1 D (.dK []))) (hl : ∀ i H, i ≤ xs.length → Pv i H → SqL K H a xs)
    (hs : ∀ i x H, xs[i]? = some x → Pv i H → g x (wipe σ vs) H fun σ2 H2 => wipe σ2 vs = wipe σ vs ∧ tt σ2 H2 fun b H3 =>
      if b = true then tk σ2 H3 fun y H4 => tv σ2 H4 fun z H5 => ∃ kvs k, y = kV k ∧ H5 D = some (.dK kvs) ∧ kvs.length < sizeLine ∧ Pv (i + 1) (upd H5 D (.dK (putK kvs k z))) else Pv (i + 1) H3) (hd : ∀ H, Pv xs.length H → Qd H) :
    ∃ W : Nat → Nat → Hp → Prop, (∃ m, W 0 m (upd H1 D (.dK []))) ∧ ∀ i m H, W i m H →
      ((Itl K a).stop i H ∧ Qd H) ∨ ((Itl K a).go i H ∧ ∃ Nx : Hp → Prop, (∀ H', Nx H' → ∃ m', m' < m ∧ W (i + 1) m' H') ∧ ∀ x H', (Itl K a).yld i H x H' → g x (wipe σ vs) H' fun σ2 H2 => wipe σ2 vs = wipe σ vs ∧ tt σ2 H2 fun b H3 =>
        if b = true then tk σ2 H3 fun y H4 => tv σ2 H4 fun z H5 => ∃ kvs k, y = kV k ∧ H5 D = some (.dK kvs) ∧ kvs.length < sizeLine ∧ Nx (upd H5 D (.dK (putK kvs k z))) else Nx H3) := by
  refine ⟨fun i m H => m = xs.length - i ∧ i ≤ xs.length ∧ Pv i H, ⟨xs.length, by simp, Nat.zero_le _, h0⟩, ?_⟩
  rintro i m H ⟨rfl, hi, p⟩
  have q := hl i H hi p
  by_cases hlt : i < xs.length
  · refine .inr ⟨⟨xs, xs[i], q, by simp [hlt]⟩, Pv (i + 1), fun H' p' => ⟨xs.length - (i + 1), by omega, rfl, hlt, p'⟩, fun x H' y => ?_⟩
    obtain ⟨e, y⟩ := y
    subst e
    exact hs i x _ (y xs q) p
  · have e : i = xs.length := by omega
    subst e
    exact .inl ⟨⟨xs, q, Nat.le_refl _⟩, hd H p⟩
/-- lists of two texts, item by item -/
def LstAll (H : Hp) : List V → List (Str × Str) → Prop
  | [], [] => True
  | v :: vs, x :: xs => (∃ p, v = .ref p ∧ H p = some (.lst [.str x.1, .str x.2])) ∧ LstAll H vs xs
  | _, _ => False
theorem LstAll.same {H H' : Hp} (k : Same H H') : ∀ {vs : List V} {xs : List (Str × Str)}, LstAll H vs xs → LstAll H' vs xs
  | [], [], _ => trivial
  | _ :: _, _ :: _, ⟨⟨p, e, h⟩, t⟩ => ⟨⟨p, e, k _ _ h⟩, t.same k⟩
  | [], _ :: _, h => h.elim
  | _ :: _, [], h => h.elim
theorem LstAll.keep {H H' : Hp} (k : ∀ p xs, H p = some (.lst xs) → H' p = some (.lst xs)) : ∀ {vs : List V} {xs : List (Str × Str)}, LstAll H vs xs → LstAll H' vs xs
  | [], [], _ => trivial
  | _ :: _, _ :: _, ⟨⟨p, e, h⟩, t⟩ => ⟨⟨p, e, k _ _ h⟩, t.keep k⟩
  | [], _ :: _, h => h.elim
  | _ :: _, [], h => h.elim
theorem LstAll.length {H : Hp} : ∀ {vs : List V} {xs : List (Str × Str)}, LstAll H vs xs → vs.length = xs.length
  | [], [], _ => rfl
  | _ :: _, _ :: _, ⟨_, t⟩ => by rw [List.length_cons, List.length_cons, t.length]
  | [], _ :: _, h => h.elim
  | _ :: _, [], h => h.elim
theorem LstAll.get {H : Hp} : ∀ {vs : List V} {xs : List (Str × Str)} {i : Nat} {v : V}, LstAll H vs xs → vs[i]? = some v → ∃ x p, xs[i]? = some x ∧ v = .ref p ∧ H p = some (.lst [.str x.1, .str x.2])
  | _ :: _, x :: _, 0, v, ⟨⟨p, e, h⟩, _⟩, ev => by
    cases ev
    exact ⟨x, p, rfl, e, h⟩
  | _ :: _, _ :: _, i + 1, v, ⟨_, t⟩, ev => LstAll.get (i := i) t ev
  | [], [], _, _, _, e => nomatch e
  | [], _ :: _, _, _, h, _ => h.elim
  | _ :: _, [], _, _, h, _ => h.elim
theorem LstAll.app {H : Hp} {v : V} {x : Str × Str} (h : ∃ p, v = .ref p ∧ H p = some (.lst [.str x.1, .str x.2])) : ∀ {vs : List V} {xs : List (Str × Str)}, LstAll H vs xs → LstAll H (vs ++ [v]) (xs ++ [x])
  | [], [], _ => ⟨h, trivial⟩
  | _ :: _, _ :: _, ⟨h0, t⟩ => ⟨h0, LstAll.app h t⟩
  | [], _ :: _, h => h.elim
  | _ :: _, [], h => h.elim
theorem byN_snoc {l : List Str} {a : Str → Addr} {x : Str} {p : Addr} (h : x ∉ l) : byN (l ++ [x]) (fun y => if y = x then p else a y) = byN l a ++ [((Sum.inr x : L2.Key), V.ref p)] := by
  unfold byN
  rw [List.map_append]
  congr 1
  · refine List.map_congr_left fun y hy => ?_
    have hne : ¬ y = x := fun e => h (by rw [← e]; exact hy)
    show ((Sum.inr y : L2.Key), V.ref (if y = x then p else a y)) = _
    rw [if_neg hne]
  · rw [List.map_singleton]
    show [((Sum.inr x : L2.Key), V.ref (if x = x then p else a x))] = _
    rw [if_pos rfl]
theorem putK_byN {l : List Str} {a : Str → Addr} {x : Str} {p : Addr} (h : x ∉ l) : putK (byN l a) (Sum.inr x : L2.Key) (V.ref p) = byN (l ++ [x]) (fun y => if y = x then p else a y) := by
  rw [byN_snoc h]
  refine putK_new fun q hq e => ?_
  obtain ⟨y, hy, rfl⟩ := List.mem_map.mp hq
  exact h (by rw [← Sum.inr.inj e]; exact hy)
theorem byN_len (l : List Str) (a : Str → Addr) : (byN l a).length = l.length := List.length_map _
theorem kit_lt {K : PySem.W.Frag} : PySem.W.kitAny K (.type "list") [.type "list", .type "tuple"] = some true := kitAny_cons (b := true) (kit_ty (by decide +kernel)) (fun e => nomatch e) (fun _ => rfl)
theorem ite_nt {A B : Prop} (h : B) : if (!true) = true then A else B := h
theorem ite_nf {A B : Prop} (h : A) : if (!false) = true then A else B := h
theorem Drw.cat {H H' H2 : Hp} {b : Addr} {n m : Nat} (d : Drw H H' b n) (e : Drw H' H2 b m) : Drw H H2 b m := d.trans e
end L9

namespace K01n
open PySem PySem.Spec PyProof.Rows L2 L9
def topS (i : Nat) : Stmt := PySem.Challenge.pw_surehollows_k01_heights_and_names.main.body.getD i (.Pass ⟨0, 0, 0, 0⟩)
structure Txt (K : PySem.W.Frag) (mg : Str → Option Value) : Prop where
  m_len : mg "len" = none
  m_int : mg "int" = none
  m_max : mg "max" = none
  m_min : mg "min" = none
  m_range : mg "range" = none
  m_repr : mg "repr" = none
  m_str : mg "str" = none
  m_bool : mg "bool" = none
  m_all : mg "all" = none
  m_isinstance : mg "isinstance" = none
  m_MOST_HEIGHT : GlV mg "MOST_HEIGHT" (.int MH)
  m_MOST_LETTERS : GlV mg "MOST_LETTERS" (.int 8)
  m_LETTERS : GlV mg "LETTERS" (.str lets)
section
variable {P : Program} {w : World} {K : PySem.W.Frag} {mg : Str → Option Value} {base : Heap}
abbrev s__law_take : Stmt := topS 10
abbrev N__law_take : List Str := ["_law_box_here", "_law_many", "_law_digit", "_law_one", "_law_two"]
theorem sc__law_take : FnScope N__law_take ["_law_box_here", "_law_many"] (defScope s__law_take) := ⟨rfl, rfl, rfl, by decide +kernel, rfl, by decide +kernel, by decide +kernel⟩
theorem ok_take {f : Addr} {fd : FuncData} (F : Fun K "_law_take" "_law_take" s__law_take f fd) (T : Txt K mg) : FnOk P w K mg base CX0 1 f fd ["_law_box_here", "_law_many"] spTake := by
  refine F.ok sc__law_take (fun vs H Q E h => ?_) (fun cdv A outer s H vs Q E hr h => ?_)
  · obtain ⟨b, m, n, rfl, _⟩ := h
    rfl
  · obtain ⟨b, m, n, rfl, ⟨xs, hb, x, y, z, rfl, hx, hy, hy2, hz, hz2⟩, hm, hm2, hn, q⟩ := h
    refine ⟨_, (pss_cons (ps_if (pt_cmpR op_gt (pe_ix ix_list (pv 0) pe_int (fun _ _ => rfl)) pe_int (nomark _)) (pss_cons (ps_set (i := 2) sc__law_take.nd rfl (.inl rfl) (pe_op op_mod (pe_callTy call_int1 (by rfl) T.m_int (by decide +kernel) (pa_cons (pe_ix ix_list (pv 0) pe_int (fun _ _ => rfl)) pa_nil)) (pv 1)))
    (pss_cons (ps_asg (pe_op op_fdivW (pe_ix ix_list (pv 0) pe_int (fun _ _ => rfl)) (pv 1)) (pg_sub (pv 0) pe_int set_list))
    (pss_one (ps_ret (pv 2))))) pss_nil)
    (pss_cons (ps_asg (pe_op op_add (pe_ix ix_list (pv 0) pe_int (fun _ _ => rfl)) pe_int) (pg_sub (pv 0) pe_int set_list))
    (pss_cons (ps_set (i := 3) sc__law_take.nd rfl (.inl rfl) (pe_op op_mod (pe_op op_pow (pe_callTy call_int1 (by rfl) T.m_int (by decide +kernel) (pa_cons (pe_op op_add (pe_op op_add (pe_ix ix_list (pv 0) pe_int (fun _ _ => rfl)) (pe_op op_mul pe_int (pe_ix ix_list (pv 0) pe_int (fun _ _ => rfl)))) pe_int) pa_nil)) pe_int) pe_int))
    (pss_cons (ps_set (i := 4) sc__law_take.nd rfl (.inl rfl) (pe_op op_mod (pe_op op_pow (pe_callTy call_int1 (by rfl) T.m_int (by decide +kernel) (pa_cons (pe_op op_add (pe_op op_add (pe_op op_fdivW (pv 3) pe_int) (pe_op op_mul (pe_op op_mul pe_int (pe_ix ix_list (pv 0) pe_int (fun _ _ => rfl))) (pe_ix ix_list (pv 0) pe_int (fun _ _ => rfl)))) pe_int) pa_nil)) pe_int) pe_int))
    (pss_one (ps_ret (pe_op op_mod (pe_callTy call_int1 (by rfl) T.m_int (by decide +kernel) (pa_cons (pe_op op_add (pe_op op_fdivW (pv 3) pe_int) (pe_op op_mul pe_int (pe_op op_fdivW (pv 4) pe_int))) pa_nil)) (pv 1)))))))), ?_⟩
    -- box[0] > 0
    refine ⟨.ref b, rfl, b, _, 0, .int x, rfl, rfl, SqL.of hb, rfl, x, 0, rfl, rfl, _, rfl, ite2 (fun e => ?_) (fun e => ?_)⟩
    · have hx0 : 0 < x := of_decide_eq_true e
      refine ⟨.ref b, rfl, b, _, 0, .int x, rfl, rfl, SqL.of hb, rfl, .inl ⟨x, rfl, .int m, rfl, x, m, rfl, rfl, hm, ?_⟩⟩
      refine ⟨.ref b, rfl, b, _, 0, .int x, rfl, rfl, SqL.of hb, rfl, .int m, rfl, x, m, rfl, rfl, wide_div (b := 60) hm (by omega) (by decide) (by decide), .ref b, rfl, b, _, 0, 0, rfl, rfl, hb, rfl, ?_⟩
      refine ⟨.int (x % m), rfl, q _ _ (Int.emod_nonneg _ (by omega)) (Int.emod_lt_of_pos _ hm) ⟨x / m, y, z, rfl, Int.ediv_nonneg hx (by omega), hy, hy2, hz, by omega⟩⟩
    · -- the counter
      refine ⟨.ref b, rfl, b, _, 2, .int z, rfl, rfl, SqL.of hb, rfl, z, 1, rfl, rfl, .ref b, rfl, b, _, 2, 2, rfl, rfl, hb, rfl, ?_⟩
      have hb2 : (upd H b (.lst [V.int x, V.int y, V.int (z + 1)])) b = some (.lst [V.int x, V.int y, V.int (z + 1)]) := upd_same
      have hB1 : y + 15485863 * (z + 1) + 83 < 2 ^ 63 := by omega
      have hone : 0 ≤ (y + 15485863 * (z + 1) + 83) ^ 5 % 2147483647 ∧ (y + 15485863 * (z + 1) + 83) ^ 5 % 2147483647 < 2147483647 := ⟨Int.emod_nonneg _ (by decide), Int.emod_lt_of_pos _ (by decide)⟩
      refine ⟨.ref b, rfl, b, _, 1, .int y, rfl, rfl, SqL.of hb2, rfl, .ref b, rfl, b, _, 2, .int (z + 1), rfl, rfl, SqL.of hb2, rfl, 15485863, z + 1, rfl, rfl, .inl ⟨by decide, by decide⟩, y, _, rfl, rfl, _, 83, rfl, rfl, .inl ⟨_, rfl, _, 5, rfl, rfl, ⟨by decide, by decide, by omega⟩, _, 2147483647, rfl, rfl, by show (0 : Int) < 2147483647; decide, ?_⟩⟩
      show gName 3 (V.int ((y + 15485863 * (z + 1) + 83) ^ (Int.toNat 5) % 2147483647)) _ _ _
      obtain ⟨one, hoe⟩ : ∃ one : Int, one = (y + 15485863 * (z + 1) + 83) ^ (Int.toNat 5) % 2147483647 := ⟨_, rfl⟩
      have h1 : 0 ≤ one ∧ one < 2147483647 := by
        rw [hoe]
        exact hone
      rw [← hoe]
      have hsq : 96581 * (z + 1) * (z + 1) ≤ 96581 * 1000001 * 1000001 := by
        refine Int.le_trans (Int.mul_le_mul_of_nonneg_left (show z + 1 ≤ 1000001 by omega) (by omega)) ?_
        exact Int.mul_le_mul_of_nonneg_right (by omega) (by decide)
      have hsq0 : 0 ≤ 96581 * (z + 1) * (z + 1) := Int.mul_nonneg (by omega) (by omega)
      obtain ⟨sq, hsqe⟩ : ∃ sq : Int, sq = 96581 * (z + 1) * (z + 1) := ⟨_, rfl⟩
      rw [← hsqe] at hsq hsq0
      refine ⟨.int one, rfl, one, 8, rfl, rfl, wide_div (b := 60) (by decide) (by decide) (by decide) (by decide), .ref b, rfl, b, _, 2, .int (z + 1), rfl, rfl, SqL.of hb2, rfl, 96581, z + 1, rfl, rfl, .inl ⟨by decide, by decide⟩, .ref b, rfl, b, _, 2, .int (z + 1), rfl, rfl, SqL.of hb2, rfl, _, z + 1, rfl, rfl, .inl ⟨by omega, by omega⟩, _, _, rfl, rfl, ?_⟩
      show ∃ i j, V.int (one / 8 + 96581 * (z + 1) * (z + 1)) = V.int i ∧ _
      rw [← hsqe]
      refine ⟨_, 3, rfl, rfl, .inl ⟨_, rfl, _, 3, rfl, rfl, ⟨by decide, by decide, by omega⟩, _, 2147483629, rfl, rfl, by show (0 : Int) < 2147483629; decide, ?_⟩⟩
      show gName 4 (V.int ((one / 8 + sq + 3) ^ (Int.toNat 3) % 2147483629)) _ _ _
      obtain ⟨two, htwo⟩ : ∃ two : Int, two = (one / 8 + sq + 3) ^ (Int.toNat 3) % 2147483629 := ⟨_, rfl⟩
      have h2 : 0 ≤ two ∧ two < 2147483629 := by
        rw [htwo]
        exact ⟨Int.emod_nonneg _ (by decide), Int.emod_lt_of_pos _ (by decide)⟩
      rw [← htwo]
      refine ⟨.int one, rfl, one, 4, rfl, rfl, wide_div (b := 60) (by decide) (by decide) (by decide) (by decide), .int two, rfl, two, 4, rfl, rfl, wide_div (b := 60) (by decide) (by decide) (by decide) (by decide), 536870909, _, rfl, rfl, .inl ⟨by decide, by decide⟩, _, _, rfl, rfl, .inl ⟨_, rfl, .int m, rfl, _, m, rfl, rfl, hm, ?_⟩⟩
      exact q _ _ (Int.emod_nonneg _ (by omega)) (Int.emod_lt_of_pos _ hm) ⟨x, y, z + 1, rfl, hx, hy, hy2, by omega, by omega⟩
abbrev s__law_cell : Stmt := topS 8
abbrev N__law_cell : List Str := ["_law_script", "_law_k"]
theorem sc__law_cell : FnScope N__law_cell ["_law_script", "_law_k"] (defScope s__law_cell) := ⟨rfl, rfl, rfl, by decide +kernel, rfl, by decide +kernel, by decide +kernel⟩
theorem ok_cell {f : Addr} {fd : FuncData} (F : Fun K "_law_cell" "_law_cell" s__law_cell f fd) (T : Txt K mg) : FnOk P w K mg base CX0 1 f fd ["_law_script", "_law_k"] (spCellA K) := by
  refine F.ok sc__law_cell (fun vs H Q E h => ?_) (fun cdv A outer s H vs Q E hr h => ?_)
  · obtain ⟨l, ns, j, rfl, _⟩ := h
    rfl
  · obtain ⟨l, ns, j, rfl, hl, hn, hj0, hj, q⟩ := h
    obtain ⟨j, rfl⟩ := Int.eq_ofNat_of_zero_le hj0
    refine ⟨_, (pss_one (ps_ret (pe_ifExp (pt_cmpR op_lt (pv 1) (pe_callB call_len_seq (by rfl) T.m_len (by decide +kernel) (pa_cons (pv 0) pa_nil)) (nomark _)) (pe_ix ix_list (pv 0) (pv 1) (fun _ _ => rfl)) (pe_op op_add (pe_op op_mul pe_int (pv 1)) pe_int)))), ?_⟩
    refine ⟨_, rfl, .ref l, rfl, l, _, rfl, .inl hl, _, _, rfl, rfl, _, rfl, ite2 (fun e => ?_) (fun e => ?_)⟩
    · have e1 : (j : Int) < ((ns.map V.int).length : Int) := of_decide_eq_true e
      rw [List.length_map] at e1
      have hj2 : j < ns.length := by omega
      exact ⟨.ref l, rfl, _, rfl, l, _, (j : Nat), .int ns[j], rfl, rfl, hl, atI_nat (by rw [List.getElem?_map, List.getElem?_eq_getElem hj2] <;> rfl), q _⟩
    · exact ⟨_, rfl, 48271, (j : Nat), rfl, rfl, .inl ⟨by decide, by decide⟩, _, 83, rfl, rfl, q _⟩
abbrev s__law_box : Stmt := topS 9
abbrev N__law_box : List Str := ["_law_cell_here"]
theorem sc__law_box : FnScope N__law_box ["_law_cell_here"] (defScope s__law_box) := ⟨rfl, rfl, rfl, by decide +kernel, rfl, by decide +kernel, by decide +kernel⟩
theorem ok_box {f : Addr} {fd : FuncData} (F : Fun K "_law_box" "_law_box" s__law_box f fd) (T : Txt K mg) : FnOk P w K mg base CX0 1 f fd ["_law_cell_here"] spBox := by
  refine F.ok sc__law_box (fun vs H Q E h => ?_) (fun cdv A outer s H vs Q E hr h => ?_)
  · obtain ⟨c, rfl, _⟩ := h
    rfl
  · obtain ⟨c, rfl, q⟩ := h
    refine ⟨_, (pss_one (ps_ret (pe_lst (pa_cons (pe_callB (call_max2 rfl) (by rfl) T.m_max (by decide +kernel) (pa_cons pe_int (pa_cons (pe_op op_sub (pv 0) (pe_op op_pow pe_int pe_int)) pa_nil))) (pa_cons (pe_op op_mod (pe_callTy call_int1 (by rfl) T.m_int (by decide +kernel) (pa_cons (pv 0) pa_nil)) pe_int) (pa_cons pe_int pa_nil)))))), ?_⟩
    refine ⟨.int c, rfl, 10, 18, rfl, rfl, ⟨by decide, by decide, by decide⟩, c, _, rfl, rfl, 0, _, rfl, .int c, rfl, .inl ⟨c, rfl, c, 2147483629, rfl, rfl, by show (0 : Int) < 2147483629; decide, by show 3 ≤ sizeLine; decide, fun p np => ?_⟩⟩
    refine q p _ np ⟨_, _, _, rfl, ?_, Int.emod_nonneg _ (by decide), Int.emod_lt_of_pos _ (by decide), Int.le_refl _, by decide⟩
    split <;> omega

local macro_rules | `(tactic| array_get_dec) => `(tactic| first
  | with_reducible refine w_var rfl ?_
  | with_reducible refine w_c ?_
  | with_reducible refine w_op ?_
  | with_reducible refine w_cons ?_
  | with_reducible refine w_nil ?_
  | with_reducible refine w_CB ?_
  | with_reducible refine w_call ?_
  | with_reducible refine w_rI0 ?_
  | with_reducible refine w_rU ?_
  | with_reducible refine w_mulL (by omega) (by omega) ?_
  | with_reducible refine w_mulR (by omega) (by omega) ?_
  | with_reducible refine w_pow (by omega) (by omega) (by omega) ?_
  | with_reducible refine w_mod (by omega) ?_
  | with_reducible refine w_div (by omega) (by omega) ?_
  | with_reducible refine w_seq ?_
  | with_reducible refine w_asg ?_
  | with_reducible refine w_gName ?_
  | with_reducible refine w_gCons ?_
  | with_reducible refine w_gNil ?_
  | with_reducible refine w_ret ?_
  | with_reducible refine w_retN ?_
  | with_reducible refine w_next ?_
  | with_reducible refine w_drop ?_
  | with_reducible refine w_par ?_
  | with_reducible refine w_isTwo ?_
  | with_reducible refine w_par3 ?_
  | with_reducible refine w_isThree ?_
  | with_reducible refine w_ifS ?_
  | with_reducible refine w_if ?_
  | with_reducible refine w_test ?_
  | with_reducible refine w_B ?_
  | with_reducible refine w_isBl ?_
  | with_reducible refine w_eq rfl ?_
  | with_reducible refine w_ne rfl ?_
  | with_reducible refine w_not ?_
  | with_reducible refine w_and ?_
  | with_reducible refine w_or ?_
  | with_reducible refine w_andV ?_
  | with_reducible refine w_orV ?_
  | with_reducible refine w_notV ?_
  | with_reducible refine w_un ?_
  | with_reducible refine w_tup ?_
  | with_reducible refine w_lst ?_
  | with_reducible refine w_part ?_
  | with_reducible refine w_nopart ?_
  | with_reducible refine w_isIt ?_
  | with_reducible refine w_sl ?_
  | with_reducible refine w_yes ?_
  | with_reducible refine w_bm ?_
  | with_reducible refine w_bm0 ?_
  | with_reducible refine w_dput ?_
  | with_reducible refine w_ddel ?_
  | with_reducible refine w_ckw ?_
  | with_reducible refine w_callO ?_
  | with_reducible refine w_callOK ?_
  | with_reducible refine w_dget ?_
  | with_reducible refine w_din ?_
  | with_reducible refine w_dnin ?_
  | with_reducible refine w_dnew ?_
  | with_reducible refine w_fld ?_
  | with_reducible refine w_sfld ?_
  | with_reducible refine w_meth ?_
  | with_reducible refine w_make ?_
  | with_reducible refine w_subO ?_
  | with_reducible refine w_rg1 ?_
  | with_reducible refine w_isRg (by omega) (by omega) ?_
  | with_reducible refine w_rg2 ?_
  | with_reducible refine w_isRg2 (by omega) (by omega) (by omega) (by omega) ?_
  | with_reducible refine w_list ?_
  | with_reducible refine w_for ?_
  | with_reducible refine w_listRg ?_
  | with_reducible refine w_rgOne ?_
  | with_reducible refine w_isIntR ?_
  | with_reducible refine w_makeK ?_
  | with_reducible refine w_lc ?_
  | with_reducible refine w_dc ?_
  | with_reducible refine w_chain ?_
  | with_reducible refine iteT ?_
  | with_reducible refine iteF ?_
  | with_reducible refine ite_nt ?_
  | with_reducible refine ite_nf ?_)
def spWholeG (K : PySem.W.Frag) : Sp := fun vs H Q _ => ∃ v : V, vs = [v] ∧ ((∃ i : Int, v = .int i ∧ Q (.bl true) H) ∨ ((∃ b, v = .bl b) ∧ Q (.bl false) H) ∨ (Off K H "int" v ∧ Q (.bl false) H))
abbrev s_is_whole : Stmt := topS 4
theorem sc_is_whole : FnScope ["value"] ["value"] (defScope s_is_whole) := ⟨rfl, rfl, rfl, by decide +kernel, rfl, by decide +kernel, by decide +kernel⟩
theorem ok_is_whole {f : Addr} {fd : FuncData} (F : Fun K "is_whole" "is_whole" s_is_whole f fd) (T : Txt K mg) : FnOk P w K mg base CX0 1 f fd ["value"] (spWholeG K) := by
  refine F.ok sc_is_whole (fun vs H Q E h => ?_) (fun cdv A outer s H vs Q E hr h => ?_)
  · obtain ⟨v, rfl, _⟩ := h
    rfl
  · obtain ⟨v, rfl, h⟩ := h
    refine ⟨_, (pss_one (ps_ret (pe_and (pe_callB call_isi (by rfl) T.m_isinstance (by decide +kernel) (pa_cons (pv 0) (pa_cons (pe_ty (T := "int") (by rfl) T.m_int) pa_nil))) (pe_one (pe_not (pe_callB call_isi (by rfl) T.m_isinstance (by decide +kernel) (pa_cons (pv 0) (pa_cons (pe_ty (T := "bool") (by rfl) T.m_bool) pa_nil)))))))), ?_⟩
    repeat array_get_dec
    rcases h with ⟨i, rfl, q⟩ | ⟨⟨b, rfl⟩, q⟩ | ⟨⟨t, ht, hk⟩, q⟩
    · refine ⟨_, _, _, _, true, rfl, .ty "int", .base (.int i), kit_ty kit_ii, ?_⟩
      repeat array_get_dec
      refine ⟨_, _, _, _, false, rfl, .ty "bool", .base (.int i), kit_ty kit_ib, ?_⟩
      repeat array_get_dec
      exact q
    · refine ⟨_, _, _, _, true, rfl, .ty "int", .base (.bl b), kit_ty kit_bi, ?_⟩
      repeat array_get_dec
      refine ⟨_, _, _, _, true, rfl, .ty "bool", .base (.bl b), kit_ty kit_bb, ?_⟩
      repeat array_get_dec
      exact q
    · refine ⟨_, _, _, _, false, rfl, .ty "int", ht, kit_ty hk, ?_⟩
      repeat array_get_dec
      exact q
abbrev s_is_height : Stmt := topS 5
theorem sc_is_height : FnScope ["value"] ["value"] (defScope s_is_height) := ⟨rfl, rfl, rfl, by decide +kernel, rfl, by decide +kernel, by decide +kernel⟩
theorem ok_is_height {f : Addr} {fd : FuncData} (F : Fun K "is_height" "is_height" s_is_height f fd) (T : Txt K mg) (C_is_whole : Cal P w K mg base "is_whole" 1 ["value"] (spWholeG K)) : FnOk P w K mg base CX0 2 f fd ["value"] (spIsHeight K) := by
  refine F.ok sc_is_height (fun vs H Q E h => ?_) (fun cdv A outer s H vs Q E hr h => ?_)
  · obtain ⟨v, rfl, _⟩ := h
    rfl
  · obtain ⟨v, rfl, h⟩ := h
    refine ⟨_, (pss_one (ps_ret (pe_and (pe_cal C_is_whole (hr.mono (by decide)) (by rfl) (pa_cons (pv 0) pa_nil)) (pe_one (pe_chain op_le op_le (pe_un un_neg (pe_gl T.m_MOST_HEIGHT)) (pv 0) (pe_gl T.m_MOST_HEIGHT)))))), ?_⟩
    repeat array_get_dec
    rcases h with ⟨i, rfl, q⟩ | ⟨⟨b, rfl⟩, q⟩ | ⟨ho, q⟩
    · refine ⟨_, rfl, .inl ⟨i, rfl, ?_⟩⟩
      repeat array_get_dec
      unfold heightB at q
      by_cases e : decide (-MH ≤ i) = true
      · rw [e]
        rw [e, Bool.true_and] at q
        repeat array_get_dec
        exact q
      · rw [Bool.eq_false_iff.mpr e]
        rw [Bool.eq_false_iff.mpr e, Bool.false_and] at q
        repeat array_get_dec
        exact q
    · refine ⟨_, rfl, .inr (.inl ⟨⟨b, rfl⟩, ?_⟩)⟩
      repeat array_get_dec
      exact q
    · refine ⟨_, rfl, .inr (.inr ⟨ho, ?_⟩)⟩
      repeat array_get_dec
      exact q
end
end K01n

namespace K01n
open PySem PySem.Spec PyProof.Rows L2 L9
section
variable {P : Program} {w : World} {K : PySem.W.Frag} {mg : Str → Option Value} {base : Heap}
theorem take_all {xs : List Nat} {i c : Nat} (h : xs[i]? = some c) {f : Nat → Bool} : ((xs.take (i + 1)).map f) = (xs.take i).map f ++ [f c] := by
  rw [List.take_add_one, h, List.map_append] <;> rfl
abbrev s_is_name : Stmt := topS 6
abbrev N_is_name : List Str := ["value", "letter"]
theorem sc_is_name : FnScope N_is_name ["value"] (defScope s_is_name) := ⟨rfl, rfl, rfl, by decide +kernel, rfl, by decide +kernel, by decide +kernel⟩
theorem ok_is_name {f : Addr} {fd : FuncData} (F : Fun K "is_name" "is_name" s_is_name f fd) (T : Txt K mg) : FnOk P w K mg base CX0 1 f fd ["value"] (spIsName K) := by
  refine F.ok sc_is_name (fun vs H Q E h => ?_) (fun cdv A outer s H vs Q E hr h => ?_)
  · obtain ⟨v, rfl, _⟩ := h
    rfl
  · obtain ⟨v, rfl, h⟩ := h
    refine ⟨_, (pss_cons (ps_if (PW.pt (pw_or (pt_not (pt_val (pe_callB call_isi (by rfl) T.m_isinstance (by decide +kernel) (pa_cons (pv 0) (pa_cons (pe_ty (T := "str") (by rfl) T.m_str) pa_nil))))) (pw_or1 (pt_not (pt_chain op_le op_le pe_int (pe_callB call_len_str (by rfl) T.m_len (by decide +kernel) (pa_cons (pv 0) pa_nil)) (pe_gl T.m_MOST_LETTERS)))))) (pss_one (ps_ret pe_bl)) pss_nil)
    (pss_one (ps_ret (pe_callB (cr_all rfl) (by rfl) T.m_all (by decide +kernel) (pa_cons (pe_lc (own := [("letter", 1)]) (g := gName 1) (tt := tYes) rfl sc_is_name.nd (pi_str (pv 0)) (blkOk_by (N := N_is_name) (sc := defScope s_is_name) (by decide +kernel)) (fun _ _ _ _ _ => pg_name (i := 1) sc_is_name.nd rfl (Or.inl rfl)) (fun _ _ _ _ _ => pts_nil) (fun _ _ _ _ _ => (pe_cmpR op_in_sign (pv 1) (pe_gl T.m_LETTERS) (by rfl)))) pa_nil))))), ?_⟩
    refine ⟨v, rfl, v, .ty "str", ?_⟩
    rcases h with ⟨z, rfl, hz, q⟩ | ⟨⟨t, ht, hk⟩, q⟩
    · refine ⟨_, _, true, rfl, .ty "str", .base (.str z), kit_ty kit_ss, true, rfl, iteF ?_⟩
      have q0 := q H (Same.refl H)
      unfold nameB at q q0
      refine ⟨.str z, rfl, z, rfl, hz, _, _, rfl, rfl, _, rfl, ite2 (fun e1 => ?_) (fun e1 => ?_)⟩
      · rw [e1, Bool.true_and] at q q0
        refine ⟨_, _, rfl, rfl, _, rfl, ?_⟩
        refine ite2 (fun e2 => ?_) (fun e2 => ?_)
        · have e3 : decide ((z.length : Int) ≤ 8) = false := by
            cases h8 : decide ((z.length : Int) ≤ 8) with
            | false => rfl
            | true =>
              have e4 : (!decide ((z.length : Int) ≤ 8)) = true := e2
              rw [h8] at e4
              cases e4
          rw [e3, Bool.false_and] at q0
          exact q0
        · have e3 : decide ((z.length : Int) ≤ 8) = true := by
            cases h8 : decide ((z.length : Int) ≤ 8) with
            | true => rfl
            | false =>
              have e4 : ¬ (!decide ((z.length : Int) ≤ 8)) = true := e2
              rw [h8] at e4
              exact absurd rfl e4
          rw [e3] at q
          refine ⟨.str z, rfl, z, rfl, fun D nD => ?_⟩
          refine lc_str (fun i H' => Same H H' ∧ H' D = some (.lst (((z.cps.toList.take i).map inL).map V.bl))) ⟨same_upd nD, upd_same⟩ (fun i c H' hc hP => ?_) (fun H' hP => ?_)
          · refine ⟨rfl, ?_⟩
            refine tyes ?_
            refine ⟨.str ⟨#[c]⟩, rfl, c, lets, rfl, rfl, _, hP.2, ?_, ?_, ?_⟩
            · rw [List.length_map, List.length_map, List.length_take]
              refine Nat.lt_of_le_of_lt (Nat.min_le_left _ _) ?_
              have h8 : i < z.cps.size := by
                rcases Nat.lt_or_ge i z.cps.size with h | h
                · exact h
                · rw [Array.getElem?_eq_none h] at hc
                  cases hc
              have h9 : (z.length : Int) ≤ 8 := of_decide_eq_true e3
              have h10 : z.length = z.cps.size := rfl
              exact small1000 (by omega)
            · exact fun b o e => by
                rw [upd_ne]
                · exact hP.1 b o e
                · intro e9
                  rw [e9, nD] at e
                  cases e
            · rw [upd_same, take_all (c := c) (by rw [Array.getElem?_toList]; exact hc), List.map_append]
              rfl
          · refine ⟨D, _, rfl, .inl (.inl hP.2), ?_⟩
            have e4 : List.take z.cps.size z.cps.toList = z.cps.toList := List.take_of_length_le (by rw [Array.length_toList]; exact Nat.le_refl _)
            rw [e4]
            have e5 : (z.cps.toList.map inL).all id = allLets z := by
              rw [List.all_map]
              rfl
            rw [e5]
            exact q H' hP.1
      · refine ⟨_, rfl, iteT ?_⟩
        rw [Bool.eq_false_iff.mpr e1, Bool.false_and, Bool.false_and] at q0
        exact q0
    · exact ⟨_, _, false, rfl, .ty "str", ht, kit_ty hk, false, rfl, iteT (iteT q)⟩
theorem take_filter {xs : List Nat} {i c : Nat} (h : xs[i]? = some c) {f : Nat → Bool} : ((xs.take (i + 1)).filter f) = (xs.take i).filter f ++ (if f c = true then [c] else []) := by
  rw [List.take_add_one, h, List.filter_append]
  congr 1
  show List.filter f [c] = _
  rw [List.filter_cons]
  rfl
abbrev s__law_named : Stmt := topS 11
abbrev N__law_named : List Str := ["_law_word", "_law_letters", "_law_sign"]
theorem sc__law_named : FnScope N__law_named ["_law_word"] (defScope s__law_named) := ⟨rfl, rfl, rfl, by decide +kernel, rfl, by decide +kernel, by decide +kernel⟩
theorem ok_named {f : Addr} {fd : FuncData} (F : Fun K "_law_named" "_law_named" s__law_named f fd) (T : Txt K mg) : FnOk P w K mg base CX0 1 f fd ["_law_word"] spNamed := by
  refine F.ok sc__law_named (fun vs H Q E h => ?_) (fun cdv A outer s H vs Q E hr h => ?_)
  · obtain ⟨v, rfl, _⟩ := h
    rfl
  · obtain ⟨z, rfl, hz, hok, q⟩ := h
    refine ⟨_, (pss_cons (ps_set (i := 1) sc__law_named.nd rfl (.inr rfl) pe_str)
    (pss_one (ps_ret (pe_and (pe_cmpR op_le pe_int (pe_callB call_len_str (by rfl) T.m_len (by decide +kernel) (pa_cons (pv 0) pa_nil)) (nomark _)) (pe_and (pe_cmpR op_le (pe_callB call_len_str (by rfl) T.m_len (by decide +kernel) (pa_cons (pv 0) pa_nil)) pe_int (nomark _)) (pe_one (pe_cmpR (op_eqD (hu64 hr)) (pe_lc (own := [("_law_sign", 2)]) (g := gName 2) rfl sc__law_named.nd (pi_str (pv 0)) (blkOk_by (N := N__law_named) (sc := defScope s__law_named) (by decide +kernel)) (fun _ _ _ _ _ => pg_name (i := 2) sc__law_named.nd rfl (Or.inl rfl)) (fun _ _ _ _ _ => pts_one (pt_cmpR op_notIn_sign (pv 2) (pv 1) (by rfl))) (fun _ _ _ _ _ => (pv 2))) (pe_lst pa_nil) (nomark _)))))))), ?_⟩
    have q0 := q H (Same.refl H)
    unfold nameB at q q0
    refine ⟨.str z, rfl, z, rfl, hz, _, _, rfl, rfl, _, rfl, ite2 (fun e1 => ?_) (fun e1 => ?_)⟩
    · rw [e1, Bool.true_and] at q q0
      refine ⟨.str z, rfl, z, rfl, hz, _, _, rfl, rfl, _, rfl, ite2 (fun e3 => ?_) (fun e3 => ?_)⟩
      · rw [e3] at q
        refine ⟨.str z, rfl, z, rfl, fun D nD => ?_⟩
        refine lc_str (fun i H' => Same H H' ∧ H' D = some (.lst (((z.cps.toList.take i).filter fun c => !inL c).map fun c => V.str ⟨#[c]⟩))) ⟨same_upd nD, upd_same⟩ (fun i c H' hc hP => ?_) (fun H' hP => ?_)
        · have hcl : z.cps.toList[i]? = some c := by
            rw [Array.getElem?_toList]
            exact hc
          refine ⟨rfl, .str ⟨#[c]⟩, rfl, _, rfl, c, _, rfl, rfl, _, rfl, ite2 (fun e => ?_) (fun e => ?_)⟩
          · refine ⟨_, rfl, _, hP.2, ?_, ?_, ?_⟩
            · rw [List.length_map]
              refine Nat.lt_of_le_of_lt (List.length_filter_le _ _) ?_
              rw [List.length_take]
              refine Nat.lt_of_le_of_lt (Nat.min_le_left _ _) ?_
              have h8 : i < z.cps.size := by
                rcases Nat.lt_or_ge i z.cps.size with h | h
                · exact h
                · rw [Array.getElem?_eq_none h] at hc
                  cases hc
              have h9 : (z.length : Int) ≤ 8 := of_decide_eq_true e3
              have h10 : z.length = z.cps.size := rfl
              exact small1000 (by omega)
            · exact fun b o e => by
                rw [upd_ne]
                · exact hP.1 b o e
                · intro e9
                  rw [e9, nD] at e
                  cases e
            · rw [upd_same, take_filter hcl, if_pos (show (!inL c) = true from e), List.map_append]
              rfl
          · refine ⟨hP.1, ?_⟩
            rw [take_filter hcl, if_neg (show ¬ (!inL c) = true from e), List.append_nil]
            exact hP.2
        · refine ⟨Nat.zero_le _, fun M nM => ?_⟩
          have e4 : List.take z.cps.size z.cps.toList = z.cps.toList := List.take_of_length_le (by rw [Array.length_toList]; exact Nat.le_refl _)
          have hD := hP.2
          rw [e4] at hD
          have eD : ((z.cps.toList.filter fun c => !inL c).map fun c => V.str ⟨#[c]⟩) = ((z.cps.toList.filter fun c => !inL c).map fun c => (⟨#[c]⟩ : Str)).map V.str := by
            rw [List.map_map]
            rfl
          rw [eD] at hD
          have hD2 : (upd H' M (.lst [])) D = _ := (upd_ne (ne_of_none hD nM)).trans hD
          refine ⟨.list (((z.cps.toList.filter fun c => !inL c).map fun c => (⟨#[c]⟩ : Str)).map PyData.str), .list [], .lst (.inl (.inl hD2)) (dp_strs _), .lst (.inl (.inl upd_same)) .nil, shaped_strs _ (fun x hx => ?_), shaped_nil, ?_⟩
          · obtain ⟨c, hc, rfl⟩ := List.mem_map.mp hx
            exact strOk_one hok (List.mem_filter.mp hc).1
          · rw [eqv_strs_nil, L9.filter_all]
            exact q _ (hP.1.trans (same_upd nM))
      · rw [Bool.eq_false_iff.mpr e3, Bool.false_and] at q0
        exact q0
    · rw [Bool.eq_false_iff.mpr e1, Bool.false_and, Bool.false_and] at q0
      exact q0
end
end K01n

namespace K01n
open PySem PySem.Spec PyProof.Rows L2 L9
section
variable {P : Program} {w : World} {K : PySem.W.Frag} {mg : Str → Option Value} {base : Heap}
abbrev s_law : Stmt := topS 12
abbrev N_law : List Str := ["_law_script", "_law_k", "_law_box_here", "_law_size", "_law_way", "_law_word", "_law_at", "_law_sign", "_law_odd", "_law_other", "_law_ends", "_law_number", "_law_j"]
theorem sc_law : FnScope N_law ["_law_script"] (defScope s_law) := ⟨rfl, rfl, rfl, by decide +kernel, rfl, by decide +kernel, by decide +kernel⟩
def sgns (c : Nat) : List Str := [⟨#[c]⟩, ⟨#[c]⟩, ⟨#[c]⟩, ("" : Str), Txt.mul ⟨#[c]⟩ 2, ("A" : Str), ("0" : Str), ("-" : Str), (" " : Str), ("\n" : Str), ("_" : Str), ("Z" : Str), ("`" : Str), ("{" : Str)]
def okS (z : Str) : Bool := decide (z.length ≤ 2) && PyData.strOk z
theorem sgns_ok {c : Nat} (hc : c < 1114112) : ∀ z ∈ sgns c, z.length ≤ 2 ∧ PyData.strOk z = true := by
  have h1 : PyData.strOk ⟨#[c]⟩ = true := ok_of_codes fun d hd => by
    have : d = c := by simpa using hd
    omega
  have h2 : PyData.strOk (Txt.mul ⟨#[c]⟩ 2) = true := by
    rw [(mul_one_sign c).2]
    exact ok_of_codes fun d hd => by
      have : d = c := by simpa using hd
      omega
  have h3 : (Txt.mul ⟨#[c]⟩ 2).length ≤ 2 := by
    rw [(mul_one_sign c).2]
    exact Nat.le_refl 2
  have h4 : ∀ z ∈ ([("" : Str), ("A" : Str), ("0" : Str), ("-" : Str), (" " : Str), ("\n" : Str), ("_" : Str), ("Z" : Str), ("`" : Str), ("{" : Str)] : List Str), z.length ≤ 2 ∧ PyData.strOk z = true := by decide +kernel
  intro z hz
  unfold sgns at hz
  simp only [List.mem_cons, List.not_mem_nil, or_false] at hz
  rcases hz with e | e | e | e | e | e | e | e | e | e | e | e | e | e
  · rw [e]; exact ⟨Nat.le_succ 1, h1⟩
  · rw [e]; exact ⟨Nat.le_succ 1, h1⟩
  · rw [e]; exact ⟨Nat.le_succ 1, h1⟩
  · rw [e]; exact h4 _ (by simp)
  · rw [e]; exact ⟨h3, h2⟩
  all_goals rw [e]; exact h4 _ (by simp)
def spLaw (K : PySem.W.Frag) : Sp := fun vs H Q _ => ∃ (a : Addr) (ns : List Int), vs = [.ref a] ∧ SqL K H a (ns.map V.int) ∧ ns.length ≤ 63 ∧ ∀ H', Q (.bl true) H'
theorem ok_law {f : Addr} {fd : FuncData} (F : Fun K "law" "law" s_law f fd) (T : Txt K mg)
    (C__law_cell : Cal P w K mg base "_law_cell" 1 ["_law_script", "_law_k"] (spCellA K)) (C__law_box : Cal P w K mg base "_law_box" 1 ["_law_cell_here"] spBox) (C__law_take : Cal P w K mg base "_law_take" 1 ["_law_box_here", "_law_many"] spTake)
    (C__law_named : Cal P w K mg base "_law_named" 1 ["_law_word"] spNamed) (C_is_name : Cal P w K mg base "is_name" 1 ["value"] (spIsName K)) (C_is_height : Cal P w K mg base "is_height" 2 ["value"] (spIsHeight K))
    (K_is_height : CalK P w K mg base "is_height" 2 ["value"] 0 ["value"] (fun _ zs => zs) (spIsHeight K)) : FnOk P w K mg base CX0 3 f fd ["_law_script"] (spLaw K) := by
  refine F.ok sc_law (fun vs H Q E h => ?_) (fun cdv A outer s H vs Q E hr h => ?_)
  · obtain ⟨a, ns, rfl, _⟩ := h
    rfl
  · obtain ⟨a, ns, rfl, hS, hlen, q⟩ := h
    refine ⟨_, (pss_cons (ps_if (pt_cmpR op_ne (pe_gl T.m_MOST_HEIGHT) (pe_op op_pow pe_int pe_int) (nomark _)) (pss_one (ps_ret pe_bl)) pss_nil)
    (pss_cons (ps_for PassesOwn.never rfl (pi_range1 (by rfl) T.m_range (pa_cons (pe_callB (call_max2 rfl) (by rfl) T.m_max (by decide +kernel) (pa_cons pe_int (pa_cons (pe_callB (call_min2 rfl) (by rfl) T.m_min (by decide +kernel) (pa_cons pe_int (pa_cons (pe_callB call_len_seq (by rfl) T.m_len (by decide +kernel) (pa_cons (pv 0) pa_nil)) pa_nil))) pa_nil))) pa_nil)) (pg_name (i := 1) sc_law.nd rfl (.inl rfl))
    (pss_cons (ps_set (i := 2) sc_law.nd rfl (.inr rfl) (pe_cal C__law_box (hr.mono (by decide)) (by rfl) (pa_cons (pe_cal C__law_cell (hr.mono (by decide)) (by rfl) (pa_cons (pv 0) (pa_cons (pv 1) pa_nil))) pa_nil)))
    (pss_cons (ps_par (i := 3) (j := 4) (by rfl) sc_law.nd rfl rfl (by decide) rfl rfl (pa_cons (pe_op op_add pe_int (pe_cal C__law_take (hr.mono (by decide)) (by rfl) (pa_cons (pv 2) (pa_cons pe_int pa_nil)))) (pa_cons (pe_cal C__law_take (hr.mono (by decide)) (by rfl) (pa_cons (pv 2) (pa_cons pe_int pa_nil))) pa_nil)) (by rfl))
    (pss_cons (ps_set (i := 5) sc_law.nd rfl (.inl rfl) (pe_join pe_str (pe_lc (own := [("_law_j", 12)]) (g := gName 12) (tt := tYes) rfl sc_law.nd (pi_range1 (by rfl) T.m_range (pa_cons (pv 3) pa_nil)) (blkOk_by (N := N_law) (sc := defScope s_law) (by decide +kernel)) (fun _ _ _ _ _ => pg_name (i := 12) sc_law.nd rfl (Or.inl rfl)) (fun _ _ _ _ _ => pts_nil) (fun _ _ _ _ _ => (pe_ix ix_str pe_str (pe_cal C__law_take (hr.mono (by decide)) (by rfl) (pa_cons (pv 2) (pa_cons pe_int pa_nil))) (fun _ _ => rfl))))))
    (pss_cons (ps_set (i := 6) sc_law.nd rfl (.inl rfl) (pe_cal C__law_take (hr.mono (by decide)) (by rfl) (pa_cons (pv 2) (pa_cons (pv 3) pa_nil))))
    (pss_cons (ps_set (i := 7) sc_law.nd rfl (.inl rfl) (pe_ix ix_list (pe_lst (pa_cons (pe_ix ix_str (pv 5) (pv 6) (fun _ _ => rfl)) (pa_cons (pe_ix ix_str (pv 5) (pv 6) (fun _ _ => rfl)) (pa_cons (pe_ix ix_str (pv 5) (pv 6) (fun _ _ => rfl)) (pa_cons pe_str (pa_cons (pe_op op_mul_str2 (pe_ix ix_str (pv 5) (pv 6) (fun _ _ => rfl)) pe_int) (pa_cons pe_str (pa_cons pe_str (pa_cons pe_str (pa_cons pe_str (pa_cons pe_str (pa_cons pe_str (pa_cons pe_str (pa_cons pe_str (pa_cons pe_str pa_nil))))))))))))))) (pv 4) (fun _ _ => rfl)))
    (pss_cons (ps_set (i := 8) sc_law.nd rfl (.inl rfl) (pe_op op_add_str (pe_op op_add_str (pe_slice sl_str (pv 5) po_none (po_some (pv 6))) (pv 7)) (pe_slice sl_str (pv 5) (po_some (pe_op op_add (pv 6) pe_int)) po_none)))
    (pss_cons (ps_if (PW.pt (pw_or (pt_cmpR op_ne (pe_callB call_repr_bl (by rfl) T.m_repr (by decide +kernel) (pa_cons (pe_cal C_is_name (hr.mono (by decide)) (by rfl) (pa_cons (pv 8) pa_nil)) pa_nil)) (pe_callB call_repr_bl (by rfl) T.m_repr (by decide +kernel) (pa_cons (pe_cal C__law_named (hr.mono (by decide)) (by rfl) (pa_cons (pv 8) pa_nil)) pa_nil)) (nomark _)) (pw_or1 (pt_cmpR op_ne (pe_callB call_repr_bl (by rfl) T.m_repr (by decide +kernel) (pa_cons (pe_cal C_is_name (hr.mono (by decide)) (by rfl) (pa_cons (pv 5) pa_nil)) pa_nil)) (pe_callB call_repr_bl (by rfl) T.m_repr (by decide +kernel) (pa_cons (pe_cmpR op_le (pv 3) pe_int (nomark _)) pa_nil)) (nomark _))))) (pss_one (ps_ret pe_bl)) pss_nil)
    (pss_cons (ps_for PassesOwn.never rfl (pi_list (pe_lst (pa_cons pe_non (pa_cons pe_bl (pa_cons (pv 3) (pa_cons (pe_lst (pa_cons (pv 5) pa_nil)) (pa_cons (pe_tup (pa_cons (pv 5) pa_nil)) (pa_cons (pe_disp (pps_cons (pv 5) pe_int pps_nil) (by rfl) (by rfl) (by simp) (by decide)) pa_nil)))))))) (pg_name (i := 9) sc_law.nd rfl (.inl rfl))
    (pss_one (ps_if (pt_cmpR op_ne (pe_callB call_repr_bl (by rfl) T.m_repr (by decide +kernel) (pa_cons (pe_cal C_is_name (hr.mono (by decide)) (by rfl) (pa_cons (pv 9) pa_nil)) pa_nil)) pe_str (nomark _)) (pss_one (ps_ret pe_bl)) pss_nil)))
    (pss_cons (ps_set (i := 10) sc_law.nd rfl (.inl rfl) (pe_lst (pa_cons pe_int (pa_cons (pe_op op_pow pe_int pe_int) (pa_cons (pe_un un_neg (pe_op op_pow pe_int pe_int)) (pa_cons (pe_cal C__law_take (hr.mono (by decide)) (by rfl) (pa_cons (pv 2) (pa_cons (pe_op op_pow pe_int pe_int) pa_nil))) (pa_cons (pe_op op_pow pe_int pe_int) pa_nil)))))))
    (pss_cons (ps_set (i := 11) sc_law.nd rfl (.inl rfl) (pe_op op_sub (pe_op op_add (pe_ix ix_list (pv 10) (pe_cal C__law_take (hr.mono (by decide)) (by rfl) (pa_cons (pv 2) (pa_cons pe_int pa_nil))) (fun _ _ => rfl)) (pe_cal C__law_take (hr.mono (by decide)) (by rfl) (pa_cons (pv 2) (pa_cons pe_int pa_nil)))) pe_int))
    (pss_cons (ps_if (pt_cmpR op_ne (pe_callB call_repr_bl (by rfl) T.m_repr (by decide +kernel) (pa_cons (pe_calK0 K_is_height (hr.mono (by decide)) (by rfl) (pk_cons (pv 11) pk_nil)) pa_nil)) (pe_callB call_repr_bl (by rfl) T.m_repr (by decide +kernel) (pa_cons (pe_and (pe_cmpR op_le (pe_un un_neg (pe_op op_pow pe_int pe_int)) (pv 11) (nomark _)) (pe_one (pe_cmpR op_le (pv 11) (pe_op op_pow pe_int pe_int) (nomark _)))) pa_nil)) (nomark _)) (pss_one (ps_ret pe_bl)) pss_nil)
    (pss_one (ps_for PassesOwn.never rfl (pi_list (pe_lst (pa_cons pe_non (pa_cons pe_bl (pa_cons pe_bl (pa_cons (pe_callTy call_str_int (by rfl) T.m_str (by decide +kernel) (pa_cons (pv 11) pa_nil)) (pa_cons (pe_lst (pa_cons (pv 11) pa_nil)) (pa_cons (pe_tup (pa_cons (pv 11) pa_nil)) (pa_cons (pe_disp (pps_cons pe_str (pv 11) pps_nil) (by rfl) (by rfl) (by simp) (by decide)) (pa_cons (pv 5) pa_nil)))))))))) (pg_name (i := 9) sc_law.nd rfl (.inl rfl))
    (pss_one (ps_if (pt_cmpR op_ne (pe_callB call_repr_bl (by rfl) T.m_repr (by decide +kernel) (pa_cons (pe_cal C_is_height (hr.mono (by decide)) (by rfl) (pa_cons (pv 9) pa_nil)) pa_nil)) pe_str (nomark _)) (pss_one (ps_ret pe_bl)) pss_nil))))))))))))))))
    (pss_one (ps_ret pe_bl)))), ?_⟩
    refine ⟨10, 12, rfl, rfl, ⟨by decide, by decide, by decide⟩, rfl, _, rfl, iteNS (by decide +kernel) ?_⟩
    refine ⟨.ref a, rfl, a, _, rfl, .inl hS, 30, _, rfl, 2, _, rfl, _, rfl, ?lo, ?hi, ?_⟩
    case lo => split <;> split <;> omega
    case hi => split <;> split <;> omega
    refine for_range (lo := 0) (fun i σ H' => (∃ y1 y2 y3 y4 y5 y6 y7 y8 y9 y10 y11 y12, σ = [some (.ref a), y1, y2, y3, y4, y5, y6, y7, y8, y9, y10, y11, y12]) ∧ Same H H') ⟨⟨_, _, _, _, _, _, _, _, _, _, _, _, rfl⟩, Same.refl H⟩ (fun i σ H1 hi hP => ?_) (fun σ H1 hP => q H1)
    obtain ⟨⟨y1, y2, y3, y4, y5, y6, y7, y8, y9, y10, y11, y12, rfl⟩, sm⟩ := hP
    have hi2 : i < 64 := by
      rw [List.length_map] at hi
      have h1 : i < Int.toNat _ := hi
      split at h1 <;> (try split at h1) <;> omega
    have hS1 := sm.seq hS
    -- the box
    refine ⟨.ref a, rfl, _, rfl, a, ns, _, rfl, hS1, hlen, by omega, by omega, fun c => ⟨c, rfl, fun b xs nb hx => ?_⟩⟩
    have t0 : Trn H1 (upd H1 b (.lst xs)) b 0 := ⟨same_upd nb, nb, xs, upd_same, hx⟩
    generalize upd H1 b (HO.lst xs) = H2 at t0 ⊢
    -- size, way
    refine ⟨.ref b, rfl, b, 9, 0, rfl, t0.box, by decide, by decide, by decide, fun r1 x1 l1 u1 h1 => ?_⟩
    have t1 := t0.take h1
    generalize upd H2 b (HO.lst x1) = H3 at t1 ⊢
    refine ⟨1, r1, rfl, rfl, .ref b, rfl, b, 14, 1, rfl, t1.box, by decide, by decide, by decide, fun r2 x2 l2 u2 h2 => ?_⟩
    have t2 := t1.take h2
    generalize upd H3 b (HO.lst x2) = H4 at t2 ⊢
    refine ⟨_, _, rfl, ?_⟩
    -- the word
    refine ⟨⟨_, rfl⟩, _, rfl, 1 + r1, rfl, by omega, by omega, fun D nD => ?_⟩
    have hDb : D ≠ b := t2.ne nD
    refine lc_range (lo := 0) (fun j H' => Trn H1 H' b (2 + j) ∧ ∃ cs : List Nat, cs.length = j ∧ (∀ c ∈ cs, c ∈ lets.cps.toList) ∧ H' D = some (.lst ((cs.map fun c => (⟨#[c]⟩ : Str)).map V.str))) ⟨t2.go (same_upd nD), [], rfl, fun _ h => (nomatch h), upd_same⟩ (fun j H' hj hP => ?_) (fun H' hP => ?_)
    · obtain ⟨tj, cs, hcs, hcl, hD⟩ := hP
      have hj2 : j < 9 := by
        have h1 : j < (1 + r1).toNat := hj
        omega
      refine ⟨rfl, tyes ⟨.ref b, rfl, b, 26, 2 + j, rfl, tj.box, by decide, by decide, by omega, fun r x l u h => ?_⟩⟩
      obtain ⟨rn, rfl⟩ := Int.eq_ofNat_of_zero_le l
      have hr1 : rn < lets.cps.toList.length := by
        rw [lets_len]
        omega
      have hD2 : (upd H' b (.lst x)) D = some (.lst ((cs.map fun c => (⟨#[c]⟩ : Str)).map V.str)) := (upd_ne hDb).trans hD
      refine ⟨lets, _, lets.cps.toList[rn], rfl, rfl, by decide +kernel, atI_nat (List.getElem?_eq_getElem hr1), _, hD2, ?_, ?_, cs ++ [lets.cps.toList[rn]], ?_, ?_, ?_⟩
      · rw [List.length_map, List.length_map]
        exact small1000 (by omega)
      · exact (tj.take h).at (t2.same.free nD) hDb
      · rw [List.length_append, hcs]
        rfl
      · intro c hc
        rcases List.mem_append.mp hc with h | h
        · exact hcl c h
        · rw [List.mem_singleton.mp h]
          exact List.getElem_mem hr1
      · rw [upd_same, List.map_append, List.map_append]
        rfl
    obtain ⟨t3, cs, hcs, hcl, hD⟩ := hP
    have hcs2 : (cs.length : Int) = 1 + r1 := by
      have h1 : cs.length = (1 + r1).toNat := hcs
      omega
    have hcs3 : (1 + r1).toNat ≤ 9 := by omega
    refine ⟨_, D, cs.map fun c => (⟨#[c]⟩ : Str), rfl, rfl, .inl (.inl (.inl hD)), ?sz, ?_⟩
    case sz =>
      rw [sum_signs]
      show cs.length + _ * 0 ≤ _
      omega
    obtain ⟨word, hw⟩ : ∃ word : Str, word = Txt.join ("" : Str) (cs.map fun c => (⟨#[c]⟩ : Str)) := ⟨_, rfl⟩
    have hwe : word = ⟨cs.toArray⟩ := hw.trans (txt_join_signs cs)
    show gName 5 (V.str (Txt.join ("" : Str) (cs.map fun c => (⟨#[c]⟩ : Str)))) _ _ _
    rw [← hw]
    have hwl : word.length = cs.length := by
      rw [hwe]
      show cs.toArray.size = _
      rw [List.size_toArray]
    have hwc : ∀ c ∈ word.cps.toList, c ∈ lets.cps.toList := by
      rw [hwe]
      exact hcl
    clear hw hwe hD hcl hcs
    -- at
    have hsz9 : (1 + r1).toNat ≤ 9 ∧ (((1 + r1).toNat : Nat) : Int) = 1 + r1 := by omega
    obtain ⟨n3, hn3, hn3'⟩ : ∃ n3 : Nat, n3 = 2 + (1 + r1).toNat ∧ n3 ≤ 11 := ⟨_, rfl, by omega⟩
    have t3 : Trn H1 H' b n3 := by
      rw [hn3]
      exact t3
    refine ⟨.ref b, rfl, .int (1 + r1), rfl, b, 1 + r1, n3, rfl, t3.box, by omega, by omega, by omega, fun r4 x4 l4 u4 h4 => ?_⟩
    have t4 := t3.take h4
    generalize upd H' b (HO.lst x4) = H5 at t4 ⊢
    obtain ⟨at4, rfl⟩ := Int.eq_ofNat_of_zero_le l4
    have hat : at4 < word.cps.toList.length := by
      rw [Array.length_toList]
      show at4 < word.length
      omega
    have hwsz : word.length ≤ sizeLine := Nat.le_of_lt (small1000 (by omega))
    obtain ⟨c4, hc4⟩ : ∃ c4, word.cps.toList[at4]? = some c4 := ⟨_, List.getElem?_eq_getElem hat⟩
    have hc4l : c4 < 1114112 := lets_small _ (hwc _ (List.mem_of_getElem? hc4))
    have hat4 : atI word.cps.toList ((at4 : Nat) : Int) = some c4 := atI_nat hc4
    -- sign
    refine ⟨.str word, rfl, _, rfl, word, _, c4, rfl, rfl, hwsz, hat4, .str word, rfl, _, rfl, word, _, c4, rfl, rfl, hwsz, hat4, .str word, rfl, _, rfl, word, _, c4, rfl, rfl, hwsz, hat4, .str word, rfl, _, rfl, word, _, c4, rfl, rfl, hwsz, hat4, _, 2, rfl, rfl, (mul_one_sign c4).1, by show 14 ≤ sizeLine; decide, fun p5 np5 => ?_⟩
    have t5 : Trn H1 (upd H5 p5 (.lst ((sgns c4).map V.str))) b (n3 + 1) := t4.new np5
    have hp5 : (upd H5 p5 (.lst ((sgns c4).map V.str))) p5 = some (.lst ((sgns c4).map V.str)) := upd_same
    obtain ⟨way, rfl⟩ := Int.eq_ofNat_of_zero_le l2
    have hway : way < (sgns c4).length := by
      show way < 14
      omega
    obtain ⟨sg, hsg⟩ : ∃ sg, (sgns c4)[way]? = some sg := ⟨_, List.getElem?_eq_getElem hway⟩
    have hsgok := sgns_ok hc4l sg (List.mem_of_getElem? hsg)
    have hsgi : atI ((sgns c4).map V.str) ((way : Nat) : Int) = some (.str sg) := atI_nat (by rw [List.getElem?_map, hsg] <;> rfl)
    refine ⟨_, rfl, p5, (sgns c4).map V.str, _, .str sg, rfl, rfl, SqL.of hp5, hsgi, ?_⟩
    show gName 7 (V.str sg) _ (upd H5 p5 (.lst ((sgns c4).map V.str))) _
    generalize upd H5 p5 (HO.lst ((sgns c4).map V.str)) = H6 at t5 ⊢
    -- odd
    have hwok : PyData.strOk word = true := ok_of_codes fun c hc => lets_small c (hwc c hc)
    refine ⟨.str word, rfl, _, rfl, _, rfl, word, rfl, hwsz, _, rfl, _, _, rfl, rfl, ?l1, .str word, rfl, _, rfl, _, 1, rfl, rfl, _, rfl, word, rfl, hwsz, _, _, rfl, rfl, ?l2, ?_⟩
    case l1 =>
      have h1 := len_cut word none (some ((at4 : Nat) : Int))
      exact Nat.le_of_lt (small1000 (by omega))
    case l2 =>
      have h1 := len_cut word none (some ((at4 : Nat) : Int))
      have h2 := len_cut word (some (((at4 : Nat) : Int) + 1)) none
      rw [len_app]
      exact Nat.le_of_lt (small1000 (show _ + _ + (cutS word (some (((at4 : Nat) : Int) + 1)) none).length ≤ 1000 by omega))
    obtain ⟨odd, hodd⟩ : ∃ odd : Str, odd = (cutS word none (some ((at4 : Nat) : Int)) ++ sg) ++ cutS word (some (((at4 : Nat) : Int) + 1)) none := ⟨_, rfl⟩
    show gName 8 (V.str ((cutS word none (some ((at4 : Nat) : Int)) ++ sg) ++ cutS word (some (((at4 : Nat) : Int) + 1)) none)) _ _ _
    rw [← hodd]
    have hoddok : PyData.strOk odd = true := by
      rw [hodd]
      exact ok_app (ok_app (ok_cut hwok _ _) hsgok.2) (ok_cut hwok _ _)
    have hoddl : odd.length ≤ sizeLine := by
      rw [hodd, len_app, len_app]
      have h1 := len_cut word none (some ((at4 : Nat) : Int))
      have h2 := len_cut word (some (((at4 : Nat) : Int) + 1)) none
      exact Nat.le_of_lt (small1000 (by omega))
    clear hodd
    -- is_name(odd), _law_named(odd)
    refine ⟨_, rfl, _, rfl, .inl ⟨odd, rfl, hoddl, fun H7 s7 => ?_⟩⟩
    refine ⟨_, rfl, _, rfl, odd, rfl, hoddl, hoddok, fun H8 s8 => ?_⟩
    have t8 := (t5.go s7).go s8
    refine ⟨_, rfl, rfl, _, rfl, iteNS rfl ?_⟩
    -- is_name(word)
    refine ⟨_, rfl, _, rfl, .inl ⟨word, rfl, hwsz, fun H9 s9 => ?_⟩⟩
    have t9 := t8.go s9
    have hnw : nameB word = decide (1 + r1 ≤ 8) := by
      unfold nameB
      rw [allLets_of hwc, Bool.and_true]
      rw [decide_eq_true (show (1 : Int) ≤ (word.length : Int) by omega), Bool.true_and]
      rw [show ((word.length : Nat) : Int) = 1 + r1 by omega]
    refine ⟨_, rfl, _, rfl, _, 8, rfl, rfl, _, rfl, rfl, _, rfl, iteNS ?_ ?_⟩
    · rw [hnw]
    -- the things of other kinds
    refine ⟨_, rfl, _, rfl, by show 1 ≤ sizeLine; decide, fun l1 n1 => ?_⟩
    refine ⟨_, rfl, by show 1 ≤ sizeLine; decide, fun t2' n2 => ?_⟩
    refine fun d3 n3' => ?_
    refine ⟨_, rfl, upd_same, [(Sum.inr word, .int 1)], rfl, by show 1 ≤ 15; decide, ?_⟩
    refine ⟨by show 6 ≤ sizeLine; decide, fun L nL => ?_⟩
    rw [upd_upd] at nL ⊢
    have sA : Same H9 (upd H9 l1 (.lst [.str word])) := same_upd n1
    have eA : (upd H9 l1 (.lst [.str word])) l1 = some (.lst [.str word]) := upd_same
    generalize upd H9 l1 (HO.lst [.str word]) = HA at sA eA n2 n3' nL ⊢
    have sB : Same HA (upd HA t2' (.tup [.str word])) := same_upd n2
    have eB : (upd HA t2' (.tup [.str word])) t2' = some (.tup [.str word]) := upd_same
    generalize upd HA t2' (HO.tup [.str word]) = HB at sB eB n3' nL ⊢
    obtain ⟨kv, hkv⟩ : ∃ kv, kv = mergeK [] [((Sum.inr word : Key), V.int 1)] := ⟨_, rfl⟩
    rw [← hkv] at nL ⊢
    have sC : Same HB (upd HB d3 (.dK kv)) := same_upd n3'
    have eC : (upd HB d3 (.dK kv)) d3 = some (.dK kv) := upd_same
    generalize upd HB d3 (HO.dK kv) = HC at sC eC nL ⊢
    have sD : Same HC (upd HC L (.lst [.non, .bl true, .int (1 + r1), .ref l1, .ref t2', .ref d3])) := same_upd nL
    have eD : (upd HC L (.lst [.non, .bl true, .int (1 + r1), .ref l1, .ref t2', .ref d3])) L = some (.lst [.non, .bl true, .int (1 + r1), .ref l1, .ref t2', .ref d3]) := upd_same
    refine ⟨_, rfl, ⟨_, SqL.of eD⟩, ?_⟩
    generalize upd HC L (HO.lst [.non, .bl true, .int (1 + r1), .ref l1, .ref t2', .ref d3]) = HD at sD eD ⊢
    have t10 := (((t9.go sA).go sB).go sC).go sD
    have off1 : ∀ x ∈ ([.non, .bl true, .int (1 + r1), .ref l1, .ref t2', .ref d3] : List V), ∀ H', Same HD H' → Off K H' "str" x := by
      intro x hx H' sH
      simp only [List.mem_cons, List.not_mem_nil, or_false] at hx
      rcases hx with e | e | e | e | e | e
      · rw [e]; exact off_non k_NoneType_str
      · rw [e]; exact off_bl k_bool_str
      · rw [e]; exact off_int k_int_str
      · rw [e]; exact off_lst (sH _ _ (sD _ _ (sC _ _ (sB _ _ eA)))) k_list_str
      · rw [e]; exact off_tup (sH _ _ (sD _ _ (sC _ _ eB))) k_tuple_str
      · rw [e]; exact off_dK (sH _ _ (sD _ _ eC)) k_dict_str
    refine for_list (fun i' σ H' => (∃ z9, σ = [some (.ref a), some (.int (0 + (i : Nat))), some (.ref b), some (.int (1 + r1)), some (.int ((way : Nat) : Int)), some (.str word), some (.int ((at4 : Nat) : Int)), some (.str sg), some (.str odd), z9, y10, y11, y12]) ∧ Same HD H') ⟨⟨_, rfl⟩, Same.refl HD⟩ (fun i' σ H' _ hP => .inl (.inl (hP.2 _ _ eD))) (fun i' x σ H' hx hP => ?_) (fun σ H' hP => ?_)
    · obtain ⟨⟨z9, rfl⟩, sH⟩ := hP
      exact ⟨_, rfl, _, rfl, .inr ⟨off1 x (List.mem_of_getElem? hx) H' sH, _, rfl, rfl, _, rfl, iteNS rfl ⟨⟨_, rfl⟩, sH⟩⟩⟩
    obtain ⟨⟨z9, rfl⟩, sH⟩ := hP
    have t11 := t10.go sH
    clear eA eB eC eD sA sB sC sD off1 sH t10
    -- ends
    refine ⟨10, 12, rfl, rfl, ⟨by decide, by decide, by decide⟩, 10, 12, rfl, rfl, ⟨by decide, by decide, by decide⟩, _, rfl, ?_⟩
    have hp12 : (10 : Int) ^ (Int.toNat 12) = 1000000000000 := by decide
    refine ⟨.ref b, rfl, 10, 12, rfl, rfl, ⟨by decide, by decide, by decide⟩, b, _, n3 + 1, rfl, t11.box, by decide, by decide, by omega, fun r5 x5 l5 u5 h5 => ?_⟩
    have t12 := t11.take h5
    generalize upd H' b (HO.lst x5) = HE at t12 ⊢
    have u5' : r5 < 10 ^ (Int.toNat 12) := u5
    rw [hp12] at u5'
    refine ⟨10, 29, rfl, rfl, ⟨by decide, by decide, by decide⟩, by show 5 ≤ sizeLine; decide, fun p6 np6 => ?_⟩
    have t13 : Trn H1 (upd HE p6 (.lst (([0, 10 ^ (Int.toNat 12), -(10 ^ (Int.toNat 12)), r5, 10 ^ (Int.toNat 29)] : List Int).map V.int))) b (n3 + 2) := t12.new np6
    have e13 : (upd HE p6 (.lst (([0, 10 ^ (Int.toNat 12), -(10 ^ (Int.toNat 12)), r5, 10 ^ (Int.toNat 29)] : List Int).map V.int))) p6 = some (.lst (([0, 10 ^ (Int.toNat 12), -(10 ^ (Int.toNat 12)), r5, 10 ^ (Int.toNat 29)] : List Int).map V.int)) := upd_same
    have hp6b : p6 ≠ b := t12.ne np6
    obtain ⟨es, hes⟩ : ∃ es : List Int, es = [0, 10 ^ (Int.toNat 12), -(10 ^ (Int.toNat 12)), r5, 10 ^ (Int.toNat 29)] := ⟨_, rfl⟩
    show gName 10 (V.ref p6) _ (upd HE p6 (.lst (([0, 10 ^ (Int.toNat 12), -(10 ^ (Int.toNat 12)), r5, 10 ^ (Int.toNat 29)] : List Int).map V.int))) _
    rw [← hes] at t13 e13 ⊢
    have hesl : es.length = 5 := by rw [hes]; rfl
    have hesb : ∀ e ∈ es, e.natAbs < 10 ^ 30 := by
      intro e he
      rw [hes] at he
      simp only [List.mem_cons, List.not_mem_nil, or_false] at he
      rcases he with h | h | h | h | h
      · rw [h]; decide
      · rw [h]; decide
      · rw [h]; decide
      · rw [h]; omega
      · rw [h]; decide
    clear hes
    generalize upd HE p6 (HO.lst (es.map V.int)) = HF at t13 e13 ⊢
    -- number
    refine ⟨_, rfl, .ref b, rfl, b, 5, n3 + 2, rfl, t13.box, by decide, by decide, by omega, fun r6 x6 l6 u6 h6 => ?_⟩
    have t14 := t13.take h6
    have e14 : (upd HF b (.lst x6)) p6 = some (.lst (es.map V.int)) := (upd_ne hp6b).trans e13
    generalize upd HF b (HO.lst x6) = HG at t14 e14 ⊢
    obtain ⟨ix, rfl⟩ := Int.eq_ofNat_of_zero_le l6
    have hix : ix < es.length := by omega
    refine ⟨p6, _, _, .int es[ix], rfl, rfl, SqL.of e14, atI_nat (by rw [List.getElem?_map, List.getElem?_eq_getElem hix] <;> rfl), ?_⟩
    have hei := hesb es[ix] (List.getElem_mem hix)
    generalize es[ix] = ei at hei ⊢
    refine ⟨.ref b, rfl, b, 5, n3 + 3, rfl, t14.box, by decide, by decide, by omega, fun r7 x7 l7 u7 h7 => ?_⟩
    have t15 := t14.take h7
    generalize upd HG b (HO.lst x7) = HI at t15 ⊢
    refine ⟨_, _, rfl, rfl, _, 2, rfl, rfl, ?_⟩
    obtain ⟨num, hnum⟩ : ∃ num : Int, num = ei + r7 - 2 := ⟨_, rfl⟩
    show gName 11 (V.int (ei + r7 - 2)) _ _ _
    rw [← hnum]
    have hnumb : num.natAbs < 10 ^ 31 := by omega
    clear hnum
    -- is_height(value=number)
    refine ⟨_, rfl, rfl, rfl, _, rfl, .inl ⟨num, rfl, ?_⟩⟩
    have hhb : heightB num = (decide (-(10 ^ (Int.toNat 12)) ≤ num) && decide (num ≤ 10 ^ (Int.toNat 12))) := rfl
    refine ⟨_, rfl, 10, 12, rfl, rfl, ⟨by decide, by decide, by decide⟩, _, rfl, _, rfl, _, num, rfl, rfl, _, rfl, ?_⟩
    rw [hhb]
    have hfin : ∀ bb : Bool, bb = (decide (-(10 ^ (Int.toNat 12)) ≤ num) && decide (num ≤ 10 ^ (Int.toNat 12))) → ∀ {A B : Prop}, B → if (!decide (V.str (blT (decide (-(10 ^ (Int.toNat 12)) ≤ num) && decide (num ≤ 10 ^ (Int.toNat 12)))) = V.str (blT bb))) = true then A else B := by
      intro bb e A B hB
      rw [e]
      exact iteNS rfl hB
    refine ite2 (fun e => ⟨_, rfl, 10, 12, rfl, rfl, ⟨by decide, by decide, by decide⟩, num, _, rfl, rfl, _, rfl, rfl, _, rfl, hfin _ (by rw [e, Bool.true_and]) ?_⟩) (fun e => ⟨_, rfl, rfl, _, rfl, hfin _ (by rw [Bool.eq_false_iff.mpr e, Bool.false_and]) ?_⟩)
    all_goals
      refine ⟨_, rfl, num, rfl, ?_, ?_⟩
      · refine Nat.lt_of_lt_of_le (PySem.Flt.log2_lt_of (k := 110) (by decide) (Nat.lt_of_lt_of_le hnumb (by decide))) (by decide)
      refine ⟨_, rfl, by show 1 ≤ sizeLine; decide, fun l1 n1 => ?_⟩
      refine ⟨_, rfl, by show 1 ≤ sizeLine; decide, fun t2' n2 => ?_⟩
      refine fun d3 n3' => ?_
      refine ⟨_, rfl, upd_same, [(Sum.inr ("a" : Str), .int num)], rfl, by show 1 ≤ 15; decide, ?_⟩
      refine ⟨_, rfl, by show 8 ≤ sizeLine; decide, fun L nL => ?_⟩
      rw [upd_upd] at nL ⊢
      have sA : Same HI (upd HI l1 (.lst [.int num])) := same_upd n1
      have eA : (upd HI l1 (.lst [.int num])) l1 = some (.lst [.int num]) := upd_same
      generalize upd HI l1 (HO.lst [.int num]) = HA at sA eA n2 n3' nL ⊢
      have sB : Same HA (upd HA t2' (.tup [.int num])) := same_upd n2
      have eB : (upd HA t2' (.tup [.int num])) t2' = some (.tup [.int num]) := upd_same
      generalize upd HA t2' (HO.tup [.int num]) = HB at sB eB n3' nL ⊢
      obtain ⟨kv, hkv⟩ : ∃ kv, kv = mergeK [] [((Sum.inr ("a" : Str) : Key), V.int num)] := ⟨_, rfl⟩
      rw [← hkv] at nL ⊢
      have sC : Same HB (upd HB d3 (.dK kv)) := same_upd n3'
      have eC : (upd HB d3 (.dK kv)) d3 = some (.dK kv) := upd_same
      generalize upd HB d3 (HO.dK kv) = HC at sC eC nL ⊢
      have sD : Same HC (upd HC L (.lst [.non, .bl true, .bl false, .str (toString num : String), .ref l1, .ref t2', .ref d3, .str word])) := same_upd nL
      have eD : (upd HC L (.lst [.non, .bl true, .bl false, .str (toString num : String), .ref l1, .ref t2', .ref d3, .str word])) L = some (.lst [.non, .bl true, .bl false, .str (toString num : String), .ref l1, .ref t2', .ref d3, .str word]) := upd_same
      refine ⟨_, rfl, ⟨_, SqL.of eD⟩, ?_⟩
      generalize upd HC L (HO.lst [.non, .bl true, .bl false, .str (toString num : String), .ref l1, .ref t2', .ref d3, .str word]) = HD' at sD eD ⊢
      have t16 := (((t15.go sA).go sB).go sC).go sD
      have off1 : ∀ x ∈ ([.non, .bl true, .bl false, .str (toString num : String), .ref l1, .ref t2', .ref d3, .str word] : List V), ∀ H', Same HD' H' → ((∃ b, x = .bl b) ∨ Off K H' "int" x) := by
        intro x hx H' sH
        simp only [List.mem_cons, List.not_mem_nil, or_false] at hx
        rcases hx with e | e | e | e | e | e | e | e
        · rw [e]; exact .inr (off_non k_NoneType_int)
        · exact .inl ⟨_, e⟩
        · exact .inl ⟨_, e⟩
        · rw [e]; exact .inr (off_str k_str_int)
        · rw [e]; exact .inr (off_lst (sH _ _ (sD _ _ (sC _ _ (sB _ _ eA)))) k_list_int)
        · rw [e]; exact .inr (off_tup (sH _ _ (sD _ _ (sC _ _ eB))) k_tuple_int)
        · rw [e]; exact .inr (off_dK (sH _ _ (sD _ _ eC)) k_dict_int)
        · rw [e]; exact .inr (off_str k_str_int)
      refine for_list (fun i' σ H' => (∃ z9, σ = [some (.ref a), some (.int (0 + (i : Nat))), some (.ref b), some (.int (1 + r1)), some (.int ((way : Nat) : Int)), some (.str word), some (.int ((at4 : Nat) : Int)), some (.str sg), some (.str odd), z9, some (.ref p6), some (.int num), y12]) ∧ Same HD' H') ⟨⟨_, rfl⟩, Same.refl HD'⟩ (fun i' σ H' _ hP => .inl (.inl (hP.2 _ _ eD))) (fun i' x σ H' hx hP => ?_) (fun σ H' hP => ?_)
      · obtain ⟨⟨z9, rfl⟩, sH⟩ := hP
        rcases off1 x (List.mem_of_getElem? hx) H' sH with hb | ho
        · exact ⟨_, rfl, _, rfl, .inr (.inl ⟨hb, _, rfl, rfl, _, rfl, iteNS rfl ⟨⟨_, rfl⟩, sH⟩⟩)⟩
        · exact ⟨_, rfl, _, rfl, .inr (.inr ⟨ho, _, rfl, rfl, _, rfl, iteNS rfl ⟨⟨_, rfl⟩, sH⟩⟩)⟩
      · obtain ⟨⟨z9, rfl⟩, sH⟩ := hP
        exact ⟨⟨_, _, _, _, _, _, _, _, _, _, _, _, rfl⟩, sm.trans (t16.go sH).same⟩
end
end K01n

namespace K01n
open PySem PySem.Spec PyProof.Rows L2 L9
theorem all_mk {l : PySem.W.OpenLaw} {w : World} {K : PySem.W.Frag} {h : Heap} {mg : Str → Option Value} {fa f1 f2 f3 f4 f5 f6 f7 f8 : Addr} (X : K.In h) (G : h.Ns mainGlobals mg) (hfa : mg "law" = some (.ref fa))
    {od1 an1 : Option Addr} {sl1 : Array (Option Value)} {oc1 kV1 dc1 pm1 cd1 ct1 : Value}
    {od2 an2 : Option Addr} {sl2 : Array (Option Value)} {oc2 kV2 dc2 pm2 cd2 ct2 : Value}
    {od3 an3 : Option Addr} {sl3 : Array (Option Value)} {oc3 kV3 dc3 pm3 cd3 ct3 : Value}
    {od4 an4 : Option Addr} {sl4 : Array (Option Value)} {oc4 kV4 dc4 pm4 cd4 ct4 : Value}
    {od5 an5 : Option Addr} {sl5 : Array (Option Value)} {oc5 kV5 dc5 pm5 cd5 ct5 : Value}
    {od6 an6 : Option Addr} {sl6 : Array (Option Value)} {oc6 kV6 dc6 pm6 cd6 ct6 : Value}
    {od8 an8 : Option Addr} {sl8 : Array (Option Value)} {oc8 kV8 dc8 pm8 cd8 ct8 : Value}
    {od7 an7 : Option Addr} {sl7 : Array (Option Value)} {oc7 kV7 dc7 pm7 cd7 ct7 : Value}
    {tk0 : Tok}
    {tk1 : Tok}
    {tk2 : Tok}
    (a1 : PySem.W.nsIn K mainGlobals "_law_cell" = some (some (.ref f1))) (l1 : K.lookup f1 = some ⟨oc1, od1, .func (PySem.W.fnOf "_law_cell" "_law_cell" (defArgs s__law_cell) (defBody s__law_cell) (defScope s__law_cell) .none kV1 dc1 pm1 an1 cd1 ct1), sl1⟩) (c1 : PySem.W.codeIn K cd1 "_law_cell" = true) (k1 : PySem.W.keepIn K (.ref f1) = true)
    (a2 : PySem.W.nsIn K mainGlobals "_law_box" = some (some (.ref f2))) (l2 : K.lookup f2 = some ⟨oc2, od2, .func (PySem.W.fnOf "_law_box" "_law_box" (defArgs s__law_box) (defBody s__law_box) (defScope s__law_box) .none kV2 dc2 pm2 an2 cd2 ct2), sl2⟩) (c2 : PySem.W.codeIn K cd2 "_law_box" = true) (k2 : PySem.W.keepIn K (.ref f2) = true)
    (a3 : PySem.W.nsIn K mainGlobals "_law_take" = some (some (.ref f3))) (l3 : K.lookup f3 = some ⟨oc3, od3, .func (PySem.W.fnOf "_law_take" "_law_take" (defArgs s__law_take) (defBody s__law_take) (defScope s__law_take) .none kV3 dc3 pm3 an3 cd3 ct3), sl3⟩) (c3 : PySem.W.codeIn K cd3 "_law_take" = true) (k3 : PySem.W.keepIn K (.ref f3) = true)
    (a4 : PySem.W.nsIn K mainGlobals "_law_named" = some (some (.ref f4))) (l4 : K.lookup f4 = some ⟨oc4, od4, .func (PySem.W.fnOf "_law_named" "_law_named" (defArgs s__law_named) (defBody s__law_named) (defScope s__law_named) .none kV4 dc4 pm4 an4 cd4 ct4), sl4⟩) (c4 : PySem.W.codeIn K cd4 "_law_named" = true) (k4 : PySem.W.keepIn K (.ref f4) = true)
    (a5 : PySem.W.nsIn K mainGlobals "is_name" = some (some (.ref f5))) (l5 : K.lookup f5 = some ⟨oc5, od5, .func (PySem.W.fnOf "is_name" "is_name" (defArgs s_is_name) (defBody s_is_name) (defScope s_is_name) .none kV5 dc5 pm5 an5 cd5 ct5), sl5⟩) (c5 : PySem.W.codeIn K cd5 "is_name" = true) (k5 : PySem.W.keepIn K (.ref f5) = true)
    (a6 : PySem.W.nsIn K mainGlobals "is_height" = some (some (.ref f6))) (l6 : K.lookup f6 = some ⟨oc6, od6, .func (PySem.W.fnOf "is_height" "is_height" (defArgs s_is_height) (defBody s_is_height) (defScope s_is_height) .none kV6 dc6 pm6 an6 cd6 ct6), sl6⟩) (c6 : PySem.W.codeIn K cd6 "is_height" = true) (k6 : PySem.W.keepIn K (.ref f6) = true)
    (a8 : PySem.W.nsIn K mainGlobals "is_whole" = some (some (.ref f8))) (l8 : K.lookup f8 = some ⟨oc8, od8, .func (PySem.W.fnOf "is_whole" "is_whole" (defArgs s_is_whole) (defBody s_is_whole) (defScope s_is_whole) .none kV8 dc8 pm8 an8 cd8 ct8), sl8⟩) (c8 : PySem.W.codeIn K cd8 "is_whole" = true) (k8 : PySem.W.keepIn K (.ref f8) = true)
    (a7 : PySem.W.nsIn K mainGlobals "law" = some (some (.ref f7))) (l7 : K.lookup f7 = some ⟨oc7, od7, .func (PySem.W.fnOf "law" "law" (defArgs s_law) (defBody s_law) (defScope s_law) .none kV7 dc7 pm7 an7 cd7 ct7), sl7⟩) (c7 : PySem.W.codeIn K cd7 "law" = true) (k7 : PySem.W.keepIn K (.ref f7) = true)
    (cst0 : PySem.W.nsIn K mainGlobals "MOST_HEIGHT" = some (some (.int MH tk0)))
    (cst1 : PySem.W.nsIn K mainGlobals "MOST_LETTERS" = some (some (.int 8 tk1)))
    (cst2 : PySem.W.nsIn K mainGlobals "LETTERS" = some (some (.str lets tk2)))
    (z0 : PySem.W.nsIn K mainGlobals "len" = some none)
    (z1 : PySem.W.nsIn K mainGlobals "int" = some none)
    (z2 : PySem.W.nsIn K mainGlobals "max" = some none)
    (z3 : PySem.W.nsIn K mainGlobals "min" = some none)
    (z4 : PySem.W.nsIn K mainGlobals "range" = some none)
    (z5 : PySem.W.nsIn K mainGlobals "repr" = some none)
    (z6 : PySem.W.nsIn K mainGlobals "str" = some none)
    (z7 : PySem.W.nsIn K mainGlobals "bool" = some none)
    (z8 : PySem.W.nsIn K mainGlobals "all" = some none)
    (z9 : PySem.W.nsIn K mainGlobals "isinstance" = some none)
    : ∃ fd : FuncData, (∀ (s : Shared) (v : Value), BindsTo s fd ⟨[v], []⟩ [("_law_script", v)]) ∧ ∀ base : Heap, K.In base → base.Ns mainGlobals mg → FnOk l.prog w K mg base CX0 3 fa fd ["_law_script"] (spLaw K) := by
  have e := hfa.symm.trans (PySem.W.mg_of X G a7)
  cases e
  have T : Txt K mg := { m_len := PySem.W.mg_none_of X G z0, m_int := PySem.W.mg_none_of X G z1, m_max := PySem.W.mg_none_of X G z2, m_min := PySem.W.mg_none_of X G z3, m_range := PySem.W.mg_none_of X G z4, m_repr := PySem.W.mg_none_of X G z5, m_str := PySem.W.mg_none_of X G z6, m_bool := PySem.W.mg_none_of X G z7, m_all := PySem.W.mg_none_of X G z8, m_isinstance := PySem.W.mg_none_of X G z9, m_MOST_HEIGHT := ⟨_, PySem.W.mg_of X G cst0, ⟨_, rfl⟩⟩, m_MOST_LETTERS := ⟨_, PySem.W.mg_of X G cst1, ⟨_, rfl⟩⟩, m_LETTERS := ⟨_, PySem.W.mg_of X G cst2, ⟨_, rfl⟩⟩ }
  have F1 := fun_mk (st := s__law_cell) l1 c1 k1
  have F2 := fun_mk (st := s__law_box) l2 c2 k2
  have F3 := fun_mk (st := s__law_take) l3 c3 k3
  have F4 := fun_mk (st := s__law_named) l4 c4 k4
  have F5 := fun_mk (st := s_is_name) l5 c5 k5
  have F6 := fun_mk (st := s_is_height) l6 c6 k6
  have F8 := fun_mk (st := s_is_whole) l8 c8 k8
  have F7 := fun_mk (st := s_law) l7 c7 k7
  refine ⟨PySem.W.fnOf "law" "law" (defArgs s_law) (defBody s_law) (defScope s_law) .none kV7 dc7 pm7 an7 cd7 ct7, fun s v => .of_eq rfl, fun base _ _ => ?_⟩
  have C__law_cell : Cal l.prog w K mg base "_law_cell" 1 ["_law_script", "_law_k"] (spCellA K) := ⟨f1, _, ok_cell F1 T, PySem.W.mg_of X G a1, k1, F1.binds fun _ _ _ _ _ _ us hl => match us, hl with | [_, _], _ => rfl⟩
  have C__law_box : Cal l.prog w K mg base "_law_box" 1 ["_law_cell_here"] spBox := ⟨f2, _, ok_box F2 T, PySem.W.mg_of X G a2, k2, F2.binds fun _ _ _ _ _ _ us hl => match us, hl with | [_], _ => rfl⟩
  have C__law_take : Cal l.prog w K mg base "_law_take" 1 ["_law_box_here", "_law_many"] spTake := ⟨f3, _, ok_take F3 T, PySem.W.mg_of X G a3, k3, F3.binds fun _ _ _ _ _ _ us hl => match us, hl with | [_, _], _ => rfl⟩
  have C__law_named : Cal l.prog w K mg base "_law_named" 1 ["_law_word"] spNamed := ⟨f4, _, ok_named F4 T, PySem.W.mg_of X G a4, k4, F4.binds fun _ _ _ _ _ _ us hl => match us, hl with | [_], _ => rfl⟩
  have C_is_name : Cal l.prog w K mg base "is_name" 1 ["value"] (spIsName K) := ⟨f5, _, ok_is_name F5 T, PySem.W.mg_of X G a5, k5, F5.binds fun _ _ _ _ _ _ us hl => match us, hl with | [_], _ => rfl⟩
  have C_is_whole : Cal l.prog w K mg base "is_whole" 1 ["value"] (spWholeG K) := ⟨f8, _, ok_is_whole F8 T, PySem.W.mg_of X G a8, k8, F8.binds fun _ _ _ _ _ _ us hl => match us, hl with | [_], _ => rfl⟩
  have C_is_height : Cal l.prog w K mg base "is_height" 2 ["value"] (spIsHeight K) := ⟨f6, _, ok_is_height F6 T C_is_whole, PySem.W.mg_of X G a6, k6, F6.binds fun _ _ _ _ _ _ us hl => match us, hl with | [_], _ => rfl⟩
  have K_is_height : CalK l.prog w K mg base "is_height" 2 ["value"] 0 ["value"] (fun _ zs => zs) (spIsHeight K) := ⟨f6, _, fun _ ws => ws, ok_is_height F6 T C_is_whole, PySem.W.mg_of X G a6, k6, ⟨fun s us ws _ h1 h2 => match us, ws, h1, h2 with | [], [_], _, _ => (by obtain ⟨oc, od, kV, doc, pm, an, cdv, ct, osl, e, _⟩ := F6.ex; rw [e]; exact .of_eq rfl), fun _ r => r⟩⟩
  exact ok_law F7 T C__law_cell C__law_box C__law_take C__law_named C_is_name C_is_height K_is_height
end K01n
open PySem PySem.W PyProof.Rows
set_option maxRecDepth 100000 in
set_option maxHeartbeats 0 in
theorem PySem.Challenge.cw_surehollows_k01_heights_and_names_holds : PySem.Challenge.rw_surehollows_k01_heights_and_names.Holds := by
  w_on; o_law; k_head; (case hw => w_witness2)
  k_fill
  refine L2.walk_of (l := PySem.Challenge.rw_surehollows_k01_heights_and_names) (n := 63) (k := 3) (x := "_law_script") (CX := fun _ => L2.CX0) (sp := fun w => K01n.spLaw _) rfl (by decide) rfl ⟨rfl, by decide, by decide⟩ (fun w h Y => PySem.W.kIn_of Y) ?F (fun _ _ a ns hl _ hS => ⟨a, ns, rfl, hS, hl, fun _ => rfl⟩) (fun _ _ _ _ _ h => h)
  case F =>
    intro w mg fa h KX G hmg
    refine' K01n.all_mk KX G hmg ?a1 ?l1 ?c1 ?k1 ?a2 ?l2 ?c2 ?k2 ?a3 ?l3 ?c3 ?k3 ?a4 ?l4 ?c4 ?k4 ?a5 ?l5 ?c5 ?k5 ?a6 ?l6 ?c6 ?k6 ?a8 ?l8 ?c8 ?k8 ?a7 ?l7 ?c7 ?k7 ?cst0 ?cst1 ?cst2 ?z0 ?z1 ?z2 ?z3 ?z4 ?z5 ?z6 ?z7 ?z8 ?z9
    (case a1 => k_is)
    (case l1 => k_is)
    (case c1 => k_is)
    (case k1 => k_is)
    (case a2 => k_is)
    (case l2 => k_is)
    (case c2 => k_is)
    (case k2 => k_is)
    (case a3 => k_is)
    (case l3 => k_is)
    (case c3 => k_is)
    (case k3 => k_is)
    (case a4 => k_is)
    (case l4 => k_is)
    (case c4 => k_is)
    (case k4 => k_is)
    (case a5 => k_is)
    (case l5 => k_is)
    (case c5 => k_is)
    (case k5 => k_is)
    (case a6 => k_is)
    (case l6 => k_is)
    (case c6 => k_is)
    (case k6 => k_is)
    (case a8 => k_is)
    (case l8 => k_is)
    (case c8 => k_is)
    (case k8 => k_is)
    (case a7 => k_is)
    (case l7 => k_is)
    (case c7 => k_is)
    (case k7 => k_is)
    (case cst0 => k_is)
    (case cst1 => k_is)
    (case cst2 => k_is)
    (case z0 => k_is)
    (case z1 => k_is)
    (case z2 => k_is)
    (case z3 => k_is)
    (case z4 => k_is)
    (case z5 => k_is)
    (case z6 => k_is)
    (case z7 => k_is)
    (case z8 => k_is)
    (case z9 => k_is)
