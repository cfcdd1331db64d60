import PyProof.Rows.All
import Wide.All
import OpenK.AllK
import Wide.FinOn
import HandS.ForMost
import HandS.Wide
import HandS.IsInst
import HandS.RaiseMore
import HandS.Defaults
import HandS.EndBits
import PySem.Challenge.RW_surehollows_k01_heights_and_names
set_option Elab.async false
set_option linter.all false
set_option maxRecDepth 100000
/-! Words that the proofs of these laws share: a callee with all that its call wants, a module's name, the drawn numbers. -/
namespace L9
open PySem PySem.Spec PyProof.Rows L2

/-- the module's name x holds v -/
def GlV (mg : Str → Option Value) (x : Str) (v : V) : Prop := ∃ u, mg x = some u ∧ RelV v u

/-- the def x, with all that a call of it wants -/
structure Cal (P : Program) (w : World) (K : PySem.W.Frag) (mg : Str → Option Value) (base : Heap) (x : Str) (k : Nat) (ps : List Str) (sp : Sp) : Prop where
  ex : ∃ (f : Addr) (fd : FuncData), FnOk P w K mg base CX0 k f fd ps sp ∧ mg x = some (.ref f) ∧ PySem.W.keepIn K (.ref f) = true ∧ Binds K fd ps []

section
variable {X : Cx}
theorem pe_cal {x : Str} {k : Nat} {ps : List Str} {sp : Sp} {p pos : Pos} {e : Expr} {es : List Expr} {t : TA} (C : Cal X.prog X.w X.K X.mg X.base x k ps sp) (hr : Room k X.A) (hg : Gl X x) (ha : PA X (e :: es) t)
    (hdb : (x == ("__debug__" : Str)) = false := by decide) (he : starEach (e :: es) X.env = (false, eval e X.env) :: starEach es X.env := by rfl) (hpl : (backTo pos (starEach es X.env)).any (·.1) = false := by rfl) :
    PE X (.Call (.Name x p) (e :: es) [] pos) (tCall sp [] E0 t) := by
  obtain ⟨f, fd, G, m, kp, b⟩ := C.ex
  exact pe_call G hr hg m kp b .nil pass0 ha hdb he hpl
theorem pe_gl {x : Str} {v : V} {pos : Pos} (h : GlV X.mg x v) (hg : Gl X x := by rfl) (hd : (x == ("__debug__" : Str)) = false := by decide) : PE X (.Name x pos) (tC v) := by
  obtain ⟨u, hm, r⟩ := h
  exact pe_glob hg hm r hd
theorem pe_ty {x : Str} {T : String} {pos : Pos} (hg : Gl X x) (hm : X.mg x = none) (hv : bootBuiltins x = some (.type T) := by decide +kernel) (hn : x ≠ "__name__" := by decide) (hd : (x == ("__debug__" : Str)) = false := by decide) : PE X (.Name x pos) (tC (.ty T)) :=
  pe_bltn hg hm hv rfl hn hd
/-- True, False as texts -/
def blT (b : Bool) : Str := if b then "True" else "False"
theorem blT_inj {a b : Bool} (h : blT a = blT b) : a = b := by
  cases a <;> cases b
  · rfl
  · exact absurd h (by decide +kernel)
  · exact absurd h (by decide +kernel)
  · rfl
theorem blT_dec (a b : Bool) : decide (V.str (blT a) = V.str (blT b)) = decide (a = b) := by
  by_cases h : a = b
  · subst h
    rw [decide_eq_true rfl, decide_eq_true rfl]
  · rw [decide_eq_false h, decide_eq_false]
    intro z
    exact h (blT_inj (V.str.inj z))
theorem call_repr_bl : CallR X (.builtin "repr") (fun xs H Q => ∃ b, xs = [.bl b] ∧ Q (.str (blT b)) H) := by
  intro pins s σ H xs us Q I r h
  obtain ⟨b, rfl, q⟩ := h
  obtain ⟨u, rfl, rb⟩ := vals1 r
  cases (show u = Value.bool b from rb)
  exact PySem.P.repr_of_bool ⟨.str _, H, I.tok _, ⟨_, rfl⟩, q⟩
/-- s * 2 of one sign -/
theorem op_mul_str2 : OpR X (binaryOp .Mult) (fun x y H Q => ∃ (z : Str) (n : Int), x = .str z ∧ y = .int n ∧ MulOk z n ∧ Q (.str (Txt.mul z n)) H) := by
  intro pins s σ H x y v u Q I rx ry h
  obtain ⟨z, n, rfl, rfl, hz, q⟩ := h
  obtain ⟨t, rfl⟩ := rx
  obtain ⟨t', rfl⟩ := ry
  exact SB.mul hz fun t' k => ⟨.str (Txt.mul z n), H, I.tok _, ⟨_, rfl⟩, q⟩
/-- the def x, called with n values by place and the keywords ks -/
structure CalK (P : Program) (w : World) (K : PySem.W.Frag) (mg : Str → Option Value) (base : Heap) (x : Str) (k : Nat) (ps : List Str) (n : Nat) (ks : List Str) (gV : List V → List V → List V) (sp : Sp) : Prop where
  ex : ∃ (f : Addr) (fd : FuncData) (g : List Value → List Value → List Value), FnOk P w K mg base CX0 k f fd ps sp ∧ mg x = some (.ref f) ∧ PySem.W.keepIn K (.ref f) = true ∧ KBn K fd ps n ks g gV
/-- f(k = v, ..): keywords alone -/
theorem pe_calK0 {x : Str} {k : Nat} {ps ks : List Str} {gV : List V → List V → List V} {sp : Sp} {p pos : Pos} {kws : List Keyword} {tk : TA} (C : CalK X.prog X.w X.K X.mg X.base x k ps 0 ks gV sp) (hr : Room k X.A) (hg : Gl X x) (hkw : PK X kws tk)
    (hall : (backToKw pos (keywordEach kws X.env)).all (·.1.isSome) = true := by rfl) (hks : (backToKw pos (keywordEach kws X.env)).filterMap (·.1) = ks := by rfl)
    (hdb : (x == ("__debug__" : Str)) = false := by decide) (hpl : ((backTo pos (starEach [] X.env)).any (·.1) || (backToKw pos (keywordEach kws X.env)).any (·.1.isNone)) = false := by rfl) :
    PE X (.Call (.Name x p) [] kws pos) (tCallN 0 ks.length sp gV E0 tNil tk) := by
  obtain ⟨f, fd, g, G, m, kp, b⟩ := C.ex
  refine ⟨fun pins s σ H Q I h => ?_⟩
  refine wpAny_Call_Name_kw (ld_glob I hg m ?_ hdb)
  refine PySem.W.callWith_KW0 (h₀ := X.base) I.ok.mod.kin kp hall (thn (hkw.run pos pins s σ H _ I h) fun ws s2 ⟨zs, H2, I2, rz, l1, l2, q2⟩ => ⟨I2.kIn, ?_⟩) hpl
  rw [hks]
  exact run_fnN (us := []) G hr b pass0 I2 .nil rz l1 l2 q2
theorem tyes {A B : Hp → Prop} {σ : L2.St} {H : Hp} (h : A H) : tYes σ H fun b H3 => if b = true then A H3 else B H3 := by
  unfold tYes
  show if true = true then A H else B H
  rw [if_pos rfl]
  exact h
/-- a comprehension over a text -/
theorem lc_str {x : Str} {g : TG} {tt : TT} {te : TE} {vs : List Nat} {σ : L2.St} {H1 : Hp} {D : Addr} {Qd : Hp → Prop} (Pv : Nat → Hp → Prop) (h0 : Pv 0 (upd H1 D (.lst [])))
    (hs : ∀ i c H, x.cps[i]? = some c → Pv i H → g (.str ⟨#[c]⟩) (wipe σ vs) H fun σ2 H2 => wipe σ2 vs = wipe σ vs ∧ tt σ2 H2 fun b H3 =>
      if b = true then te σ2 H3 fun y H4 => ∃ acc, H4 D = some (.lst acc) ∧ acc.length < sizeLine ∧ Pv (i + 1) (upd H4 D (.lst (acc ++ [y]))) else Pv (i + 1) H3) (hd : ∀ H, Pv x.cps.size H → Qd H) :
    ∃ W : Nat → Nat → Hp → Prop, (∃ m, W 0 m (upd H1 D (.lst []))) ∧ ∀ i m H, W i m H →
      ((Its x).stop i H ∧ Qd H) ∨ ((Its x).go i H ∧ ∃ Nx : Hp → Prop, (∀ H', Nx H' → ∃ m', m' < m ∧ W (i + 1) m' H') ∧ ∀ y H', (Its x).yld i H y H' → g y (wipe σ vs) H' fun σ2 H2 => wipe σ2 vs = wipe σ vs ∧ tt σ2 H2 fun b H3 =>
        if b = true then te σ2 H3 fun y H4 => ∃ acc, H4 D = some (.lst acc) ∧ acc.length < sizeLine ∧ Nx (upd H4 D (.lst (acc ++ [y]))) else Nx H3) := by
  refine ⟨fun i m H => m = x.cps.size - i ∧ i ≤ x.cps.size ∧ Pv i H, ⟨x.cps.size, by simp, Nat.zero_le _, h0⟩, ?_⟩
  rintro i m H ⟨rfl, hi, p⟩
  by_cases hlt : i < x.cps.size
  · refine .inr ⟨hlt, Pv (i + 1), fun H' p' => ⟨x.cps.size - (i + 1), by omega, rfl, hlt, p'⟩, fun y H' hy => ?_⟩
    obtain ⟨e, c, hc, ey⟩ := hy
    subst e ey
    exact hs i c _ hc p
  · have e : i = x.cps.size := by omega
    subst e
    exact .inl ⟨Nat.le_refl _, hd H p⟩
end
theorem hu64 {A : Around} {k : Nat} (hr : Room k A) : A.units + 64 < cLine := Nat.lt_of_le_of_lt (Nat.add_le_add_left (by omega) _) hr.units

/-! ### heaps -/
theorem same_upd {H : Hp} {p : Addr} {o : HO} (h : H p = none) : Same H (upd H p o) := fun b x e => by
  rw [upd_ne (ne_of_none e h)]
  exact e

/-! ### data -/
theorem canLay_strs : ∀ l : List Str, (∀ x ∈ l, PyData.strOk x = true) → PyData.canLayAll0 (l.map PyData.str) = true
  | [], _ => by simp [PyData.canLayAll0]
  | x :: l, h => by simp [PyData.canLayAll0, PyData.canLay0, canLay_strs l (fun y hy => h y (List.mem_cons_of_mem _ hy)), h x List.mem_cons_self]
theorem depth_strs : ∀ l : List Str, PyData.depthAll (l.map PyData.str) = 0
  | [] => by simp [PyData.depthAll]
  | x :: l => by simp [PyData.depthAll, PyData.depth, depth_strs l]
theorem shaped_strs (l : List Str) (h : ∀ x ∈ l, PyData.strOk x = true) : SeqAt.shaped (.list (l.map PyData.str)) = true := by
  unfold SeqAt.shaped
  simp [PyData.canLay0, canLay_strs l h, PyData.depth, depth_strs l]
theorem shaped_nil : SeqAt.shaped (.list []) = true := shaped_strs [] (fun _ h => nomatch h)
theorem strOk_one {z : Str} (hz : PyData.strOk z = true) {c : Nat} (hc : c ∈ z.cps.toList) : PyData.strOk ⟨#[c]⟩ = true := by
  unfold PyData.strOk at hz ⊢
  rw [Array.all_eq_true'] at hz
  have h1 := hz c (Array.mem_toList_iff.mp hc)
  simpa using h1
theorem dp_strs {K : PySem.W.Frag} {H : Hp} : ∀ l : List Str, DpAll K H (l.map V.str) (l.map PyData.str)
  | [] => .nil
  | x :: l => .cons (.str x) (dp_strs l)
theorem eqv_strs_nil : ∀ l : List Str, PyData.eqv (.list (l.map PyData.str)) (.list []) = l.isEmpty
  | [] => by simp [PyData.eqv, PyData.eqvAll]
  | x :: l => by simp [PyData.eqv, PyData.eqvAll]
/-! ### names -/
def inL (c : Nat) : Bool := decide (c ∈ ("abcdefghijklmnopqrstuvwxyz" : Str).cps.toList)
theorem filter_all : ∀ l : List Nat, ((l.filter fun c => !inL c).map fun c => (⟨#[c]⟩ : Str)).isEmpty = l.all inL
  | [] => rfl
  | c :: l => by
    rw [List.filter_cons, List.all_cons]
    cases h : inL c with
    | true =>
      rw [Bool.not_true, if_neg Bool.false_ne_true, Bool.true_and]
      exact filter_all l
    | false =>
      rw [Bool.not_false, if_pos rfl]
      rfl
def lets : Str := "abcdefghijklmnopqrstuvwxyz"
/-- whether all signs of a text are letters -/
def allLets (z : Str) : Bool := z.cps.toList.all fun c => decide (c ∈ lets.cps.toList)
def nameB (z : Str) : Bool := decide ((1 : Int) ≤ (z.length : Int)) && decide ((z.length : Int) ≤ 8) && allLets z
/-- a value of a kind that is known and no T -/
def Off (K : PySem.W.Frag) (H : Hp) (T : String) (v : V) : Prop := ∃ t : String, TyX K H v (.type t) ∧ kitB t T = some false
/-- the law's own look at a text -/
def spNamed : Sp := fun vs H Q _ => ∃ z : Str, vs = [.str z] ∧ z.length ≤ sizeLine ∧ PyData.strOk z = true ∧ ∀ H', Same H H' → Q (.bl (nameB z)) H'
def spIsName (K : PySem.W.Frag) : Sp := fun vs H Q _ => ∃ v : V, vs = [v] ∧ ((∃ z : Str, v = .str z ∧ z.length ≤ sizeLine ∧ ∀ H', Same H H' → Q (.bl (nameB z)) H') ∨ (Off K H "str" v ∧ Q (.bl false) H))
def MH : Int := 10 ^ 12
def heightB (i : Int) : Bool := decide (-MH ≤ i) && decide (i ≤ MH)
def spIsHeight (K : PySem.W.Frag) : Sp := fun vs H Q _ => ∃ v : V, vs = [v] ∧ ((∃ i : Int, v = .int i ∧ Q (.bl (heightB i)) H) ∨ ((∃ b, v = .bl b) ∧ Q (.bl false) H) ∨ (Off K H "int" v ∧ Q (.bl false) H))
/-! ### the drawn numbers -/
/-- a box whose numbers were drawn at most n times -/
def BoxV (n : Nat) (xs : List V) : Prop := ∃ x y z : Int, xs = [.int x, .int y, .int z] ∧ 0 ≤ x ∧ 0 ≤ y ∧ y < 2147483629 ∧ 0 ≤ z ∧ z ≤ n
def BoxAt (H : Hp) (b : Addr) (n : Nat) : Prop := ∃ xs, H b = some (.lst xs) ∧ BoxV n xs
theorem BoxV.mono {n m : Nat} {xs : List V} (h : BoxV n xs) (hnm : n ≤ m) : BoxV m xs := by
  obtain ⟨x, y, z, e, h1, h2, h3, h4, h5⟩ := h
  exact ⟨x, y, z, e, h1, h2, h3, h4, by omega⟩
def spTake : Sp := fun vs H Q _ => ∃ (b : Addr) (m : Int) (n : Nat), vs = [.ref b, .int m] ∧ BoxAt H b n ∧ 0 < m ∧ m ≤ 10 ^ 15 ∧ n ≤ 1000000 ∧
  ∀ (r : Int) (xs : List V), 0 ≤ r → r < m → BoxV (n + 1) xs → Q (.int r) (upd H b (.lst xs))
def spBox : Sp := fun vs H Q _ => ∃ c : Int, vs = [.int c] ∧ ∀ (p : Addr) (xs : List V), H p = none → BoxV 0 xs → Q (.ref p) (upd H p (.lst xs))
def spCellA (K : PySem.W.Frag) : Sp := fun vs H Q _ => ∃ (l : Addr) (ns : List Int) (j : Int), vs = [.ref l, .int j] ∧ SqL K H l (ns.map V.int) ∧ ns.length ≤ 63 ∧ 0 ≤ j ∧ j ≤ 1000 ∧ ∀ c : Int, Q (.int c) H
/-- a turn's heap: what stood at its start (H0) stands, and the box b, made behind it, was drawn from at most n times -/
structure Trn (H0 H : Hp) (b : Addr) (n : Nat) : Prop where
  same : Same H0 H
  free : H0 b = none
  box : BoxAt H b n
theorem Trn.take {H0 H : Hp} {b : Addr} {n : Nat} (t : Trn H0 H b n) {xs : List V} (h : BoxV (n + 1) xs) : Trn H0 (upd H b (.lst xs)) b (n + 1) :=
  ⟨fun c o e => by
    rw [upd_ne (ne_of_none e t.free)]
    exact t.same c o e, t.free, ⟨xs, upd_same, h⟩⟩
theorem Trn.go {H0 H H' : Hp} {b : Addr} {n : Nat} (t : Trn H0 H b n) (s : Same H H') : Trn H0 H' b n := by
  obtain ⟨xs, e, h⟩ := t.box
  exact ⟨t.same.trans s, t.free, ⟨xs, s _ _ e, h⟩⟩
theorem Trn.ne {H0 H : Hp} {b p : Addr} {n : Nat} (t : Trn H0 H b n) (np : H p = none) : p ≠ b := by
  intro e
  obtain ⟨xs, hb, _⟩ := t.box
  rw [e, hb] at np
  cases np
theorem Same.new {H H' : Hp} {p : Addr} {o : HO} (s : Same H H') (np : H' p = none) : Same H (upd H' p o) := s.trans (same_upd np)
theorem Same.at {H H' : Hp} {p : Addr} {o : HO} (s : Same H H') (np : H p = none) : Same H (upd H' p o) := fun b x e => by
  rw [upd_ne (ne_of_none e np)]
  exact s b x e
theorem Trn.at {H0 H : Hp} {b p : Addr} {n : Nat} {o : HO} (t : Trn H0 H b n) (np : H0 p = none) (hpb : p ≠ b) : Trn H0 (upd H p o) b n := by
  obtain ⟨xs, e, h⟩ := t.box
  exact ⟨Same.at t.same np, t.free, xs, (upd_ne hpb.symm).trans e, h⟩
theorem Trn.new {H0 H : Hp} {b p : Addr} {n : Nat} {o : HO} (t : Trn H0 H b n) (np : H p = none) : Trn H0 (upd H p o) b n := t.go (same_upd np)
/-! ### words -/
theorem join_signs : ∀ cs : List Nat, Str.join (⟨#[]⟩ : Str) (cs.map fun c => (⟨#[c]⟩ : Str)) = ⟨cs.toArray⟩
  | [] => rfl
  | [c] => rfl
  | c :: d :: r => by
    have ih := join_signs (d :: r)
    show ((⟨#[c]⟩ : Str) ++ (⟨#[]⟩ : Str)) ++ Str.join (⟨#[]⟩ : Str) ((d :: r).map fun c => (⟨#[c]⟩ : Str)) = _
    rw [ih]
    show (⟨(#[c] ++ #[]) ++ (d :: r).toArray⟩ : Str) = ⟨(c :: d :: r).toArray⟩
    congr 1
    simp
theorem txt_join_signs (cs : List Nat) : Txt.join (⟨#[]⟩ : Str) (cs.map fun c => (⟨#[c]⟩ : Str)) = ⟨cs.toArray⟩ := by
  show Builtin.Str.glued _ _ = _
  rw [StrLaws.glued_eq_join]
  exact join_signs cs
theorem sum_signs : ∀ cs : List Nat, ((cs.map fun c => (⟨#[c]⟩ : Str)).map (·.length)).sum = cs.length
  | [] => rfl
  | c :: r => by
    rw [List.map_cons, List.map_cons, List.sum_cons, sum_signs r, List.length_cons]
    show 1 + r.length = r.length + 1
    omega
theorem ok_of_codes {z : Str} (h : ∀ c ∈ z.cps.toList, c < 1114112) : PyData.strOk z = true := by
  unfold PyData.strOk
  rw [Array.all_eq_true']
  intro c hc
  exact decide_eq_true (h c (Array.mem_toList_iff.mpr hc))
theorem codes_of_ok {z : Str} (h : PyData.strOk z = true) : ∀ c ∈ z.cps.toList, c < 1114112 := by
  intro c hc
  unfold PyData.strOk at h
  rw [Array.all_eq_true'] at h
  exact of_decide_eq_true (h c (Array.mem_toList_iff.mp hc))
theorem ok_app {a b : Str} (ha : PyData.strOk a = true) (hb : PyData.strOk b = true) : PyData.strOk (a ++ b) = true := by
  refine ok_of_codes fun c hc => ?_
  have e : (a ++ b).cps.toList = a.cps.toList ++ b.cps.toList := by
    show (a.cps ++ b.cps).toList = _
    rw [Array.toList_append]
  rw [e] at hc
  rcases List.mem_append.mp hc with h | h
  · exact codes_of_ok ha c h
  · exact codes_of_ok hb c h
theorem len_app (a b : Str) : (a ++ b).length = a.length + b.length := by
  show (a.cps ++ b.cps).size = _
  rw [Array.size_append]
  rfl
theorem ok_cut {z : Str} (h : PyData.strOk z = true) (lo hi : Option Int) : PyData.strOk (cutS z lo hi) = true := by
  refine ok_of_codes fun c hc => ?_
  unfold cutS at hc
  exact codes_of_ok h c (List.mem_of_mem_drop (List.mem_of_mem_take hc))
theorem len_cut (z : Str) (lo hi : Option Int) : (cutS z lo hi).length ≤ z.length := by
  unfold cutS
  show (List.toArray _).size ≤ z.cps.size
  rw [List.size_toArray, List.length_take, List.length_drop, Array.length_toList]
  omega
theorem mul_one_sign (c : Nat) : MulOk ⟨#[c]⟩ 2 ∧ Txt.mul ⟨#[c]⟩ 2 = ⟨#[c, c]⟩ := by
  refine ⟨⟨by decide, fun _ _ => ?_, fun _ _ => ?_⟩, ?_⟩
  · show ¬ ((1 : Int) > (2 ^ 63 - 1) / 2)
    decide
  · show Builtin.Str.tooLong (1 * 2) = false
    decide
  · unfold Txt.mul
    rw [if_neg (by decide), if_neg (by show ¬ (((2 : Int) == 1 || (1 : Nat) == 0) = true); decide)]
    rfl
theorem allLets_of {z : Str} (h : ∀ c ∈ z.cps.toList, c ∈ lets.cps.toList) : allLets z = true := by
  unfold allLets
  rw [List.all_eq_true]
  exact fun c hc => decide_eq_true (h c hc)
theorem lets_small : ∀ c ∈ lets.cps.toList, c < 1114112 := by decide +kernel
theorem lets_len : lets.cps.toList.length = 26 := by decide +kernel
theorem off_non {K : PySem.W.Frag} {H : Hp} {T : String} (h : kitB "NoneType" T = some false) : Off K H T .non := ⟨_, .base .non, h⟩
theorem off_bl {K : PySem.W.Frag} {H : Hp} {T : String} {b : Bool} (h : kitB "bool" T = some false) : Off K H T (.bl b) := ⟨_, .base (.bl b), h⟩
theorem off_int {K : PySem.W.Frag} {H : Hp} {T : String} {b : Int} (h : kitB "int" T = some false) : Off K H T (.int b) := ⟨_, .base (.int b), h⟩
theorem off_str {K : PySem.W.Frag} {H : Hp} {T : String} {b : Str} (h : kitB "str" T = some false) : Off K H T (.str b) := ⟨_, .base (.str b), h⟩
theorem off_lst {K : PySem.W.Frag} {H : Hp} {T : String} {p : Addr} {xs : List V} (e : H p = some (.lst xs)) (h : kitB "list" T = some false) : Off K H T (.ref p) := ⟨_, .base (.lst e), h⟩
theorem off_tup {K : PySem.W.Frag} {H : Hp} {T : String} {p : Addr} {xs : List V} (e : H p = some (.tup xs)) (h : kitB "tuple" T = some false) : Off K H T (.ref p) := ⟨_, .base (.tup e), h⟩
theorem off_dK {K : PySem.W.Frag} {H : Hp} {T : String} {p : Addr} {xs : List (Key × V)} (e : H p = some (.dK xs)) (h : kitB "dict" T = some false) : Off K H T (.ref p) := ⟨_, .base (.dK e), h⟩
theorem k_NoneType_str : kitB "NoneType" "str" = some false := by decide +kernel
theorem k_bool_str : kitB "bool" "str" = some false := by decide +kernel
theorem k_int_str : kitB "int" "str" = some false := by decide +kernel
theorem k_list_str : kitB "list" "str" = some false := by decide +kernel
theorem k_tuple_str : kitB "tuple" "str" = some false := by decide +kernel
theorem k_dict_str : kitB "dict" "str" = some false := by decide +kernel
theorem k_NoneType_int : kitB "NoneType" "int" = some false := by decide +kernel
theorem k_str_int : kitB "str" "int" = some false := by decide +kernel
theorem k_list_int : kitB "list" "int" = some false := by decide +kernel
theorem k_tuple_int : kitB "tuple" "int" = some false := by decide +kernel
theorem k_dict_int : kitB "dict" "int" = some false := by decide +kernel
end L9

namespace K01
open PySem PySem.Spec PyProof.Rows L2 L9
def topS (i : Nat) : Stmt := PySem.Challenge.pw_surehollows_k01_heights_and_names.main.body.getD i (.Pass ⟨0, 0, 0, 0⟩)
structure Txt (K : PySem.W.Frag) (mg : Str → Option Value) : Prop where
  m_len : mg "len" = none
  m_int : mg "int" = none
  m_max : mg "max" = none
  m_min : mg "min" = none
  m_range : mg "range" = none
  m_repr : mg "repr" = none
  m_str : mg "str" = none
  m_bool : mg "bool" = none
  m_all : mg "all" = none
  m_isinstance : mg "isinstance" = none
  m_MOST_HEIGHT : GlV mg "MOST_HEIGHT" (.int MH)
  m_MOST_LETTERS : GlV mg "MOST_LETTERS" (.int 8)
  m_LETTERS : GlV mg "LETTERS" (.str lets)
section
variable {P : Program} {w : World} {K : PySem.W.Frag} {mg : Str → Option Value} {base : Heap}
abbrev s__law_take : Stmt := topS 9
abbrev N__law_take : List Str := ["_law_box_here", "_law_many", "_law_digit", "_law_one", "_law_two"]
theorem sc__law_take : FnScope N__law_take ["_law_box_here", "_law_many"] (defScope s__law_take) := ⟨rfl, rfl, rfl, by decide +kernel, rfl, by decide +kernel, by decide +kernel⟩
theorem ok_take {f : Addr} {fd : FuncData} (F : Fun K "_law_take" "_law_take" s__law_take f fd) (T : Txt K mg) : FnOk P w K mg base CX0 1 f fd ["_law_box_here", "_law_many"] spTake := by
  refine F.ok sc__law_take (fun vs H Q E h => ?_) (fun cdv A outer s H vs Q E hr h => ?_)
  · obtain ⟨b, m, n, rfl, _⟩ := h
    rfl
  · obtain ⟨b, m, n, rfl, ⟨xs, hb, x, y, z, rfl, hx, hy, hy2, hz, hz2⟩, hm, hm2, hn, q⟩ := h
    refine ⟨_, (pss_cons (ps_if (pt_cmpR op_gt (pe_ix ix_list (pv 0) pe_int (fun _ _ => rfl)) pe_int (nomark _)) (pss_cons (ps_set (i := 2) sc__law_take.nd rfl (.inl rfl) (pe_op op_mod (pe_callTy call_int1 (by rfl) T.m_int (by decide +kernel) (pa_cons (pe_ix ix_list (pv 0) pe_int (fun _ _ => rfl)) pa_nil)) (pv 1)))
    (pss_cons (ps_asg (pe_op op_fdivW (pe_ix ix_list (pv 0) pe_int (fun _ _ => rfl)) (pv 1)) (pg_sub (pv 0) pe_int set_list))
    (pss_one (ps_ret (pv 2))))) pss_nil)
    (pss_cons (ps_asg (pe_op op_add (pe_ix ix_list (pv 0) pe_int (fun _ _ => rfl)) pe_int) (pg_sub (pv 0) pe_int set_list))
    (pss_cons (ps_set (i := 3) sc__law_take.nd rfl (.inl rfl) (pe_op op_mod (pe_op op_pow (pe_callTy call_int1 (by rfl) T.m_int (by decide +kernel) (pa_cons (pe_op op_add (pe_op op_add (pe_ix ix_list (pv 0) pe_int (fun _ _ => rfl)) (pe_op op_mul pe_int (pe_ix ix_list (pv 0) pe_int (fun _ _ => rfl)))) pe_int) pa_nil)) pe_int) pe_int))
    (pss_cons (ps_set (i := 4) sc__law_take.nd rfl (.inl rfl) (pe_op op_mod (pe_op op_pow (pe_callTy call_int1 (by rfl) T.m_int (by decide +kernel) (pa_cons (pe_op op_add (pe_op op_add (pe_op op_fdivW (pv 3) pe_int) (pe_op op_mul (pe_op op_mul pe_int (pe_ix ix_list (pv 0) pe_int (fun _ _ => rfl))) (pe_ix ix_list (pv 0) pe_int (fun _ _ => rfl)))) pe_int) pa_nil)) pe_int) pe_int))
    (pss_one (ps_ret (pe_op op_mod (pe_callTy call_int1 (by rfl) T.m_int (by decide +kernel) (pa_cons (pe_op op_add (pe_op op_fdivW (pv 3) pe_int) (pe_op op_mul pe_int (pe_op op_fdivW (pv 4) pe_int))) pa_nil)) (pv 1)))))))), ?_⟩
    -- box[0] > 0
    refine ⟨.ref b, rfl, b, _, 0, .int x, rfl, rfl, SqL.of hb, rfl, x, 0, rfl, rfl, _, rfl, ite2 (fun e => ?_) (fun e => ?_)⟩
    · have hx0 : 0 < x := of_decide_eq_true e
      refine ⟨.ref b, rfl, b, _, 0, .int x, rfl, rfl, SqL.of hb, rfl, .inl ⟨x, rfl, .int m, rfl, x, m, rfl, rfl, hm, ?_⟩⟩
      refine ⟨.ref b, rfl, b, _, 0, .int x, rfl, rfl, SqL.of hb, rfl, .int m, rfl, x, m, rfl, rfl, wide_div (b := 60) hm (by omega) (by decide) (by decide), .ref b, rfl, b, _, 0, 0, rfl, rfl, hb, rfl, ?_⟩
      refine ⟨.int (x % m), rfl, q _ _ (Int.emod_nonneg _ (by omega)) (Int.emod_lt_of_pos _ hm) ⟨x / m, y, z, rfl, Int.ediv_nonneg hx (by omega), hy, hy2, hz, by omega⟩⟩
    · -- the counter
      refine ⟨.ref b, rfl, b, _, 2, .int z, rfl, rfl, SqL.of hb, rfl, z, 1, rfl, rfl, .ref b, rfl, b, _, 2, 2, rfl, rfl, hb, rfl, ?_⟩
      have hb2 : (upd H b (.lst [V.int x, V.int y, V.int (z + 1)])) b = some (.lst [V.int x, V.int y, V.int (z + 1)]) := upd_same
      have hB1 : y + 15485863 * (z + 1) + 83 < 2 ^ 63 := by omega
      have hone : 0 ≤ (y + 15485863 * (z + 1) + 83) ^ 5 % 2147483647 ∧ (y + 15485863 * (z + 1) + 83) ^ 5 % 2147483647 < 2147483647 := ⟨Int.emod_nonneg _ (by decide), Int.emod_lt_of_pos _ (by decide)⟩
      refine ⟨.ref b, rfl, b, _, 1, .int y, rfl, rfl, SqL.of hb2, rfl, .ref b, rfl, b, _, 2, .int (z + 1), rfl, rfl, SqL.of hb2, rfl, 15485863, z + 1, rfl, rfl, .inl ⟨by decide, by decide⟩, y, _, rfl, rfl, _, 83, rfl, rfl, .inl ⟨_, rfl, _, 5, rfl, rfl, ⟨by decide, by decide, by omega⟩, _, 2147483647, rfl, rfl, by show (0 : Int) < 2147483647; decide, ?_⟩⟩
      show gName 3 (V.int ((y + 15485863 * (z + 1) + 83) ^ (Int.toNat 5) % 2147483647)) _ _ _
      obtain ⟨one, hoe⟩ : ∃ one : Int, one = (y + 15485863 * (z + 1) + 83) ^ (Int.toNat 5) % 2147483647 := ⟨_, rfl⟩
      have h1 : 0 ≤ one ∧ one < 2147483647 := by
        rw [hoe]
        exact hone
      rw [← hoe]
      have hsq : 96581 * (z + 1) * (z + 1) ≤ 96581 * 1000001 * 1000001 := by
        refine Int.le_trans (Int.mul_le_mul_of_nonneg_left (show z + 1 ≤ 1000001 by omega) (by omega)) ?_
        exact Int.mul_le_mul_of_nonneg_right (by omega) (by decide)
      have hsq0 : 0 ≤ 96581 * (z + 1) * (z + 1) := Int.mul_nonneg (by omega) (by omega)
      obtain ⟨sq, hsqe⟩ : ∃ sq : Int, sq = 96581 * (z + 1) * (z + 1) := ⟨_, rfl⟩
      rw [← hsqe] at hsq hsq0
      refine ⟨.int one, rfl, one, 8, rfl, rfl, wide_div (b := 60) (by decide) (by decide) (by decide) (by decide), .ref b, rfl, b, _, 2, .int (z + 1), rfl, rfl, SqL.of hb2, rfl, 96581, z + 1, rfl, rfl, .inl ⟨by decide, by decide⟩, .ref b, rfl, b, _, 2, .int (z + 1), rfl, rfl, SqL.of hb2, rfl, _, z + 1, rfl, rfl, .inl ⟨by omega, by omega⟩, _, _, rfl, rfl, ?_⟩
      show ∃ i j, V.int (one / 8 + 96581 * (z + 1) * (z + 1)) = V.int i ∧ _
      rw [← hsqe]
      refine ⟨_, 3, rfl, rfl, .inl ⟨_, rfl, _, 3, rfl, rfl, ⟨by decide, by decide, by omega⟩, _, 2147483629, rfl, rfl, by show (0 : Int) < 2147483629; decide, ?_⟩⟩
      show gName 4 (V.int ((one / 8 + sq + 3) ^ (Int.toNat 3) % 2147483629)) _ _ _
      obtain ⟨two, htwo⟩ : ∃ two : Int, two = (one / 8 + sq + 3) ^ (Int.toNat 3) % 2147483629 := ⟨_, rfl⟩
      have h2 : 0 ≤ two ∧ two < 2147483629 := by
        rw [htwo]
        exact ⟨Int.emod_nonneg _ (by decide), Int.emod_lt_of_pos _ (by decide)⟩
      rw [← htwo]
      refine ⟨.int one, rfl, one, 4, rfl, rfl, wide_div (b := 60) (by decide) (by decide) (by decide) (by decide), .int two, rfl, two, 4, rfl, rfl, wide_div (b := 60) (by decide) (by decide) (by decide) (by decide), 536870909, _, rfl, rfl, .inl ⟨by decide, by decide⟩, _, _, rfl, rfl, .inl ⟨_, rfl, .int m, rfl, _, m, rfl, rfl, hm, ?_⟩⟩
      exact q _ _ (Int.emod_nonneg _ (by omega)) (Int.emod_lt_of_pos _ hm) ⟨x, y, z + 1, rfl, hx, hy, hy2, by omega, by omega⟩
abbrev s__law_cell : Stmt := topS 7
abbrev N__law_cell : List Str := ["_law_script", "_law_k"]
theorem sc__law_cell : FnScope N__law_cell ["_law_script", "_law_k"] (defScope s__law_cell) := ⟨rfl, rfl, rfl, by decide +kernel, rfl, by decide +kernel, by decide +kernel⟩
theorem ok_cell {f : Addr} {fd : FuncData} (F : Fun K "_law_cell" "_law_cell" s__law_cell f fd) (T : Txt K mg) : FnOk P w K mg base CX0 1 f fd ["_law_script", "_law_k"] (spCellA K) := by
  refine F.ok sc__law_cell (fun vs H Q E h => ?_) (fun cdv A outer s H vs Q E hr h => ?_)
  · obtain ⟨l, ns, j, rfl, _⟩ := h
    rfl
  · obtain ⟨l, ns, j, rfl, hl, hn, hj0, hj, q⟩ := h
    obtain ⟨j, rfl⟩ := Int.eq_ofNat_of_zero_le hj0
    refine ⟨_, (pss_one (ps_ret (pe_ifExp (pt_cmpR op_lt (pv 1) (pe_callB call_len_seq (by rfl) T.m_len (by decide +kernel) (pa_cons (pv 0) pa_nil)) (nomark _)) (pe_ix ix_list (pv 0) (pv 1) (fun _ _ => rfl)) (pe_op op_add (pe_op op_mul pe_int (pv 1)) pe_int)))), ?_⟩
    refine ⟨_, rfl, .ref l, rfl, l, _, rfl, .inl hl, _, _, rfl, rfl, _, rfl, ite2 (fun e => ?_) (fun e => ?_)⟩
    · have e1 : (j : Int) < ((ns.map V.int).length : Int) := of_decide_eq_true e
      rw [List.length_map] at e1
      have hj2 : j < ns.length := by omega
      exact ⟨.ref l, rfl, _, rfl, l, _, (j : Nat), .int ns[j], rfl, rfl, hl, atI_nat (by rw [List.getElem?_map, List.getElem?_eq_getElem hj2] <;> rfl), q _⟩
    · exact ⟨_, rfl, 48271, (j : Nat), rfl, rfl, .inl ⟨by decide, by decide⟩, _, 83, rfl, rfl, q _⟩
abbrev s__law_box : Stmt := topS 8
abbrev N__law_box : List Str := ["_law_cell_here"]
theorem sc__law_box : FnScope N__law_box ["_law_cell_here"] (defScope s__law_box) := ⟨rfl, rfl, rfl, by decide +kernel, rfl, by decide +kernel, by decide +kernel⟩
theorem ok_box {f : Addr} {fd : FuncData} (F : Fun K "_law_box" "_law_box" s__law_box f fd) (T : Txt K mg) : FnOk P w K mg base CX0 1 f fd ["_law_cell_here"] spBox := by
  refine F.ok sc__law_box (fun vs H Q E h => ?_) (fun cdv A outer s H vs Q E hr h => ?_)
  · obtain ⟨c, rfl, _⟩ := h
    rfl
  · obtain ⟨c, rfl, q⟩ := h
    refine ⟨_, (pss_one (ps_ret (pe_lst (pa_cons (pe_callB (call_max2 rfl) (by rfl) T.m_max (by decide +kernel) (pa_cons pe_int (pa_cons (pe_op op_sub (pv 0) (pe_op op_pow pe_int pe_int)) pa_nil))) (pa_cons (pe_op op_mod (pe_callTy call_int1 (by rfl) T.m_int (by decide +kernel) (pa_cons (pv 0) pa_nil)) pe_int) (pa_cons pe_int pa_nil)))))), ?_⟩
    refine ⟨.int c, rfl, 10, 18, rfl, rfl, ⟨by decide, by decide, by decide⟩, c, _, rfl, rfl, 0, _, rfl, .int c, rfl, .inl ⟨c, rfl, c, 2147483629, rfl, rfl, by show (0 : Int) < 2147483629; decide, by show 3 ≤ sizeLine; decide, fun p np => ?_⟩⟩
    refine q p _ np ⟨_, _, _, rfl, ?_, Int.emod_nonneg _ (by decide), Int.emod_lt_of_pos _ (by decide), Int.le_refl _, by decide⟩
    split <;> omega
abbrev s_is_height : Stmt := topS 4
abbrev N_is_height : List Str := ["value"]
theorem sc_is_height : FnScope N_is_height ["value"] (defScope s_is_height) := ⟨rfl, rfl, rfl, by decide +kernel, rfl, by decide +kernel, by decide +kernel⟩
theorem kit_bi : kitB "bool" "int" = some true := by decide +kernel
theorem kit_bb : kitB "bool" "bool" = some true := by decide +kernel
theorem kit_ii : kitB "int" "int" = some true := by decide +kernel
theorem kit_ib : kitB "int" "bool" = some false := by decide +kernel
theorem kit_ss : kitB "str" "str" = some true := by decide +kernel
theorem ok_is_height {f : Addr} {fd : FuncData} (F : Fun K "is_height" "is_height" s_is_height f fd) (T : Txt K mg) : FnOk P w K mg base CX0 1 f fd ["value"] (spIsHeight K) := by
  refine F.ok sc_is_height (fun vs H Q E h => ?_) (fun cdv A outer s H vs Q E hr h => ?_)
  · obtain ⟨v, rfl, _⟩ := h
    rfl
  · obtain ⟨v, rfl, h⟩ := h
    refine ⟨_, (pss_cons (ps_if (PW.pt (pw_or (pt_not (pt_val (pe_callB call_isi (by rfl) T.m_isinstance (by decide +kernel) (pa_cons (pv 0) (pa_cons (pe_ty (T := "int") (by rfl) T.m_int) pa_nil))))) (pw_or1 (pt_val (pe_callB call_isi (by rfl) T.m_isinstance (by decide +kernel) (pa_cons (pv 0) (pa_cons (pe_ty (T := "bool") (by rfl) T.m_bool) pa_nil))))))) (pss_one (ps_ret pe_bl)) pss_nil)
    (pss_one (ps_ret (pe_chain op_le op_le (pe_un un_neg (pe_gl T.m_MOST_HEIGHT)) (pv 0) (pe_gl T.m_MOST_HEIGHT))))), ?_⟩
    refine ⟨v, rfl, v, .ty "int", ?_⟩
    rcases h with ⟨i, rfl, q⟩ | ⟨⟨b, rfl⟩, q⟩ | ⟨⟨t, ht, hk⟩, q⟩
    · refine ⟨_, _, true, rfl, .ty "int", .base (.int i), kit_ty kit_ii, true, rfl, iteF ?_⟩
      refine ⟨_, rfl, _, .ty "bool", _, _, false, rfl, .ty "bool", .base (.int i), kit_ty kit_ib, false, rfl, iteF ?_⟩
      refine ⟨MH, rfl, _, rfl, _, _, rfl, rfl, _, rfl, ?_⟩
      unfold heightB at q
      refine ite2 (fun e => ?_) (fun e => ?_)
      · rw [e, Bool.true_and] at q
        exact ⟨_, _, rfl, rfl, q⟩
      · rw [Bool.eq_false_iff.mpr e, Bool.false_and] at q
        exact q
    · refine ⟨_, _, true, rfl, .ty "int", .base (.bl b), kit_ty kit_bi, true, rfl, iteF ?_⟩
      exact ⟨_, rfl, _, .ty "bool", _, _, true, rfl, .ty "bool", .base (.bl b), kit_ty kit_bb, true, rfl, iteT q⟩
    · exact ⟨_, _, false, rfl, .ty "int", ht, kit_ty hk, false, rfl, iteT (iteT q)⟩
end
end K01

namespace K01
open PySem PySem.Spec PyProof.Rows L2 L9
section
variable {P : Program} {w : World} {K : PySem.W.Frag} {mg : Str → Option Value} {base : Heap}
theorem take_all {xs : List Nat} {i c : Nat} (h : xs[i]? = some c) {f : Nat → Bool} : ((xs.take (i + 1)).map f) = (xs.take i).map f ++ [f c] := by
  rw [List.take_add_one, h, List.map_append] <;> rfl
abbrev s_is_name : Stmt := topS 5
abbrev N_is_name : List Str := ["value", "letter"]
theorem sc_is_name : FnScope N_is_name ["value"] (defScope s_is_name) := ⟨rfl, rfl, rfl, by decide +kernel, rfl, by decide +kernel, by decide +kernel⟩
theorem ok_is_name {f : Addr} {fd : FuncData} (F : Fun K "is_name" "is_name" s_is_name f fd) (T : Txt K mg) : FnOk P w K mg base CX0 1 f fd ["value"] (spIsName K) := by
  refine F.ok sc_is_name (fun vs H Q E h => ?_) (fun cdv A outer s H vs Q E hr h => ?_)
  · obtain ⟨v, rfl, _⟩ := h
    rfl
  · obtain ⟨v, rfl, h⟩ := h
    refine ⟨_, (pss_cons (ps_if (PW.pt (pw_or (pt_not (pt_val (pe_callB call_isi (by rfl) T.m_isinstance (by decide +kernel) (pa_cons (pv 0) (pa_cons (pe_ty (T := "str") (by rfl) T.m_str) pa_nil))))) (pw_or1 (pt_not (pt_chain op_le op_le pe_int (pe_callB call_len_str (by rfl) T.m_len (by decide +kernel) (pa_cons (pv 0) pa_nil)) (pe_gl T.m_MOST_LETTERS)))))) (pss_one (ps_ret pe_bl)) pss_nil)
    (pss_one (ps_ret (pe_callB (cr_all rfl) (by rfl) T.m_all (by decide +kernel) (pa_cons (pe_lc (own := [("letter", 1)]) (g := gName 1) (tt := tYes) rfl sc_is_name.nd (pi_str (pv 0)) (blkOk_by (N := N_is_name) (sc := defScope s_is_name) (by decide +kernel)) (fun _ _ _ _ _ => pg_name (i := 1) sc_is_name.nd rfl (Or.inl rfl)) (fun _ _ _ _ _ => pts_nil) (fun _ _ _ _ _ => (pe_cmpR op_in_sign (pv 1) (pe_gl T.m_LETTERS) (by rfl)))) pa_nil))))), ?_⟩
    refine ⟨v, rfl, v, .ty "str", ?_⟩
    rcases h with ⟨z, rfl, hz, q⟩ | ⟨⟨t, ht, hk⟩, q⟩
    · refine ⟨_, _, true, rfl, .ty "str", .base (.str z), kit_ty kit_ss, true, rfl, iteF ?_⟩
      have q0 := q H (Same.refl H)
      unfold nameB at q q0
      refine ⟨.str z, rfl, z, rfl, hz, _, _, rfl, rfl, _, rfl, ite2 (fun e1 => ?_) (fun e1 => ?_)⟩
      · rw [e1, Bool.true_and] at q q0
        refine ⟨_, _, rfl, rfl, _, rfl, ?_⟩
        refine ite2 (fun e2 => ?_) (fun e2 => ?_)
        · have e3 : decide ((z.length : Int) ≤ 8) = false := by
            cases h8 : decide ((z.length : Int) ≤ 8) with
            | false => rfl
            | true =>
              have e4 : (!decide ((z.length : Int) ≤ 8)) = true := e2
              rw [h8] at e4
              cases e4
          rw [e3, Bool.false_and] at q0
          exact q0
        · have e3 : decide ((z.length : Int) ≤ 8) = true := by
            cases h8 : decide ((z.length : Int) ≤ 8) with
            | true => rfl
            | false =>
              have e4 : ¬ (!decide ((z.length : Int) ≤ 8)) = true := e2
              rw [h8] at e4
              exact absurd rfl e4
          rw [e3] at q
          refine ⟨.str z, rfl, z, rfl, fun D nD => ?_⟩
          refine lc_str (fun i H' => Same H H' ∧ H' D = some (.lst (((z.cps.toList.take i).map inL).map V.bl))) ⟨same_upd nD, upd_same⟩ (fun i c H' hc hP => ?_) (fun H' hP => ?_)
          · refine ⟨rfl, ?_⟩
            refine tyes ?_
            refine ⟨.str ⟨#[c]⟩, rfl, c, lets, rfl, rfl, _, hP.2, ?_, ?_, ?_⟩
            · rw [List.length_map, List.length_map, List.length_take]
              refine Nat.lt_of_le_of_lt (Nat.min_le_left _ _) ?_
              have h8 : i < z.cps.size := by
                rcases Nat.lt_or_ge i z.cps.size with h | h
                · exact h
                · rw [Array.getElem?_eq_none h] at hc
                  cases hc
              have h9 : (z.length : Int) ≤ 8 := of_decide_eq_true e3
              have h10 : z.length = z.cps.size := rfl
              exact small1000 (by omega)
            · exact fun b o e => by
                rw [upd_ne]
                · exact hP.1 b o e
                · intro e9
                  rw [e9, nD] at e
                  cases e
            · rw [upd_same, take_all (c := c) (by rw [Array.getElem?_toList]; exact hc), List.map_append]
              rfl
          · refine ⟨D, _, rfl, .inl (.inl hP.2), ?_⟩
            have e4 : List.take z.cps.size z.cps.toList = z.cps.toList := List.take_of_length_le (by rw [Array.length_toList]; exact Nat.le_refl _)
            rw [e4]
            have e5 : (z.cps.toList.map inL).all id = allLets z := by
              rw [List.all_map]
              rfl
            rw [e5]
            exact q H' hP.1
      · refine ⟨_, rfl, iteT ?_⟩
        rw [Bool.eq_false_iff.mpr e1, Bool.false_and, Bool.false_and] at q0
        exact q0
    · exact ⟨_, _, false, rfl, .ty "str", ht, kit_ty hk, false, rfl, iteT (iteT q)⟩
theorem take_filter {xs : List Nat} {i c : Nat} (h : xs[i]? = some c) {f : Nat → Bool} : ((xs.take (i + 1)).filter f) = (xs.take i).filter f ++ (if f c = true then [c] else []) := by
  rw [List.take_add_one, h, List.filter_append]
  congr 1
  show List.filter f [c] = _
  rw [List.filter_cons]
  rfl
abbrev s__law_named : Stmt := topS 10
abbrev N__law_named : List Str := ["_law_word", "_law_letters", "_law_sign"]
theorem sc__law_named : FnScope N__law_named ["_law_word"] (defScope s__law_named) := ⟨rfl, rfl, rfl, by decide +kernel, rfl, by decide +kernel, by decide +kernel⟩
theorem ok_named {f : Addr} {fd : FuncData} (F : Fun K "_law_named" "_law_named" s__law_named f fd) (T : Txt K mg) : FnOk P w K mg base CX0 1 f fd ["_law_word"] spNamed := by
  refine F.ok sc__law_named (fun vs H Q E h => ?_) (fun cdv A outer s H vs Q E hr h => ?_)
  · obtain ⟨v, rfl, _⟩ := h
    rfl
  · obtain ⟨z, rfl, hz, hok, q⟩ := h
    refine ⟨_, (pss_cons (ps_set (i := 1) sc__law_named.nd rfl (.inr rfl) pe_str)
    (pss_one (ps_ret (pe_and (pe_cmpR op_le pe_int (pe_callB call_len_str (by rfl) T.m_len (by decide +kernel) (pa_cons (pv 0) pa_nil)) (nomark _)) (pe_and (pe_cmpR op_le (pe_callB call_len_str (by rfl) T.m_len (by decide +kernel) (pa_cons (pv 0) pa_nil)) pe_int (nomark _)) (pe_one (pe_cmpR (op_eqD (hu64 hr)) (pe_lc (own := [("_law_sign", 2)]) (g := gName 2) rfl sc__law_named.nd (pi_str (pv 0)) (blkOk_by (N := N__law_named) (sc := defScope s__law_named) (by decide +kernel)) (fun _ _ _ _ _ => pg_name (i := 2) sc__law_named.nd rfl (Or.inl rfl)) (fun _ _ _ _ _ => pts_one (pt_cmpR op_notIn_sign (pv 2) (pv 1) (by rfl))) (fun _ _ _ _ _ => (pv 2))) (pe_lst pa_nil) (nomark _)))))))), ?_⟩
    have q0 := q H (Same.refl H)
    unfold nameB at q q0
    refine ⟨.str z, rfl, z, rfl, hz, _, _, rfl, rfl, _, rfl, ite2 (fun e1 => ?_) (fun e1 => ?_)⟩
    · rw [e1, Bool.true_and] at q q0
      refine ⟨.str z, rfl, z, rfl, hz, _, _, rfl, rfl, _, rfl, ite2 (fun e3 => ?_) (fun e3 => ?_)⟩
      · rw [e3] at q
        refine ⟨.str z, rfl, z, rfl, fun D nD => ?_⟩
        refine lc_str (fun i H' => Same H H' ∧ H' D = some (.lst (((z.cps.toList.take i).filter fun c => !inL c).map fun c => V.str ⟨#[c]⟩))) ⟨same_upd nD, upd_same⟩ (fun i c H' hc hP => ?_) (fun H' hP => ?_)
        · have hcl : z.cps.toList[i]? = some c := by
            rw [Array.getElem?_toList]
            exact hc
          refine ⟨rfl, .str ⟨#[c]⟩, rfl, _, rfl, c, _, rfl, rfl, _, rfl, ite2 (fun e => ?_) (fun e => ?_)⟩
          · refine ⟨_, rfl, _, hP.2, ?_, ?_, ?_⟩
            · rw [List.length_map]
              refine Nat.lt_of_le_of_lt (List.length_filter_le _ _) ?_
              rw [List.length_take]
              refine Nat.lt_of_le_of_lt (Nat.min_le_left _ _) ?_
              have h8 : i < z.cps.size := by
                rcases Nat.lt_or_ge i z.cps.size with h | h
                · exact h
                · rw [Array.getElem?_eq_none h] at hc
                  cases hc
              have h9 : (z.length : Int) ≤ 8 := of_decide_eq_true e3
              have h10 : z.length = z.cps.size := rfl
              exact small1000 (by omega)
            · exact fun b o e => by
                rw [upd_ne]
                · exact hP.1 b o e
                · intro e9
                  rw [e9, nD] at e
                  cases e
            · rw [upd_same, take_filter hcl, if_pos (show (!inL c) = true from e), List.map_append]
              rfl
          · refine ⟨hP.1, ?_⟩
            rw [take_filter hcl, if_neg (show ¬ (!inL c) = true from e), List.append_nil]
            exact hP.2
        · refine ⟨Nat.zero_le _, fun M nM => ?_⟩
          have e4 : List.take z.cps.size z.cps.toList = z.cps.toList := List.take_of_length_le (by rw [Array.length_toList]; exact Nat.le_refl _)
          have hD := hP.2
          rw [e4] at hD
          have eD : ((z.cps.toList.filter fun c => !inL c).map fun c => V.str ⟨#[c]⟩) = ((z.cps.toList.filter fun c => !inL c).map fun c => (⟨#[c]⟩ : Str)).map V.str := by
            rw [List.map_map]
            rfl
          rw [eD] at hD
          have hD2 : (upd H' M (.lst [])) D = _ := (upd_ne (ne_of_none hD nM)).trans hD
          refine ⟨.list (((z.cps.toList.filter fun c => !inL c).map fun c => (⟨#[c]⟩ : Str)).map PyData.str), .list [], .lst (.inl (.inl hD2)) (dp_strs _), .lst (.inl (.inl upd_same)) .nil, shaped_strs _ (fun x hx => ?_), shaped_nil, ?_⟩
          · obtain ⟨c, hc, rfl⟩ := List.mem_map.mp hx
            exact strOk_one hok (List.mem_filter.mp hc).1
          · rw [eqv_strs_nil, L9.filter_all]
            exact q _ (hP.1.trans (same_upd nM))
      · rw [Bool.eq_false_iff.mpr e3, Bool.false_and] at q0
        exact q0
    · rw [Bool.eq_false_iff.mpr e1, Bool.false_and, Bool.false_and] at q0
      exact q0
end
end K01

namespace K01
open PySem PySem.Spec PyProof.Rows L2 L9
section
variable {P : Program} {w : World} {K : PySem.W.Frag} {mg : Str → Option Value} {base : Heap}
abbrev s_law : Stmt := topS 11
abbrev N_law : List Str := ["_law_script", "_law_k", "_law_box_here", "_law_size", "_law_way", "_law_word", "_law_at", "_law_sign", "_law_odd", "_law_other", "_law_ends", "_law_number", "_law_j"]
theorem sc_law : FnScope N_law ["_law_script"] (defScope s_law) := ⟨rfl, rfl, rfl, by decide +kernel, rfl, by decide +kernel, by decide +kernel⟩
def sgns (c : Nat) : List Str := [⟨#[c]⟩, ⟨#[c]⟩, ⟨#[c]⟩, ("" : Str), Txt.mul ⟨#[c]⟩ 2, ("A" : Str), ("0" : Str), ("-" : Str), (" " : Str), ("\n" : Str), ("_" : Str), ("Z" : Str), ("`" : Str), ("{" : Str)]
def okS (z : Str) : Bool := decide (z.length ≤ 2) && PyData.strOk z
theorem sgns_ok {c : Nat} (hc : c < 1114112) : ∀ z ∈ sgns c, z.length ≤ 2 ∧ PyData.strOk z = true := by
  have h1 : PyData.strOk ⟨#[c]⟩ = true := ok_of_codes fun d hd => by
    have : d = c := by simpa using hd
    omega
  have h2 : PyData.strOk (Txt.mul ⟨#[c]⟩ 2) = true := by
    rw [(mul_one_sign c).2]
    exact ok_of_codes fun d hd => by
      have : d = c := by simpa using hd
      omega
  have h3 : (Txt.mul ⟨#[c]⟩ 2).length ≤ 2 := by
    rw [(mul_one_sign c).2]
    exact Nat.le_refl 2
  have h4 : ∀ z ∈ ([("" : Str), ("A" : Str), ("0" : Str), ("-" : Str), (" " : Str), ("\n" : Str), ("_" : Str), ("Z" : Str), ("`" : Str), ("{" : Str)] : List Str), z.length ≤ 2 ∧ PyData.strOk z = true := by decide +kernel
  intro z hz
  unfold sgns at hz
  simp only [List.mem_cons, List.not_mem_nil, or_false] at hz
  rcases hz with e | e | e | e | e | e | e | e | e | e | e | e | e | e
  · rw [e]; exact ⟨Nat.le_succ 1, h1⟩
  · rw [e]; exact ⟨Nat.le_succ 1, h1⟩
  · rw [e]; exact ⟨Nat.le_succ 1, h1⟩
  · rw [e]; exact h4 _ (by simp)
  · rw [e]; exact ⟨h3, h2⟩
  all_goals rw [e]; exact h4 _ (by simp)
def spLaw (K : PySem.W.Frag) : Sp := fun vs H Q _ => ∃ (a : Addr) (ns : List Int), vs = [.ref a] ∧ SqL K H a (ns.map V.int) ∧ ns.length ≤ 63 ∧ ∀ H', Q (.bl true) H'
theorem ok_law {f : Addr} {fd : FuncData} (F : Fun K "law" "law" s_law f fd) (T : Txt K mg)
    (C__law_cell : Cal P w K mg base "_law_cell" 1 ["_law_script", "_law_k"] (spCellA K)) (C__law_box : Cal P w K mg base "_law_box" 1 ["_law_cell_here"] spBox) (C__law_take : Cal P w K mg base "_law_take" 1 ["_law_box_here", "_law_many"] spTake)
    (C__law_named : Cal P w K mg base "_law_named" 1 ["_law_word"] spNamed) (C_is_name : Cal P w K mg base "is_name" 1 ["value"] (spIsName K)) (C_is_height : Cal P w K mg base "is_height" 1 ["value"] (spIsHeight K))
    (K_is_height : CalK P w K mg base "is_height" 1 ["value"] 0 ["value"] (fun _ zs => zs) (spIsHeight K)) : FnOk P w K mg base CX0 2 f fd ["_law_script"] (spLaw K) := by
  refine F.ok sc_law (fun vs H Q E h => ?_) (fun cdv A outer s H vs Q E hr h => ?_)
  · obtain ⟨a, ns, rfl, _⟩ := h
    rfl
  · obtain ⟨a, ns, rfl, hS, hlen, q⟩ := h
    refine ⟨_, (pss_cons (ps_if (pt_cmpR op_ne (pe_gl T.m_MOST_HEIGHT) (pe_op op_pow pe_int pe_int) (nomark _)) (pss_one (ps_ret pe_bl)) pss_nil)
    (pss_cons (ps_for PassesOwn.never rfl (pi_range1 (by rfl) T.m_range (pa_cons (pe_callB (call_max2 rfl) (by rfl) T.m_max (by decide +kernel) (pa_cons pe_int (pa_cons (pe_callB (call_min2 rfl) (by rfl) T.m_min (by decide +kernel) (pa_cons pe_int (pa_cons (pe_callB call_len_seq (by rfl) T.m_len (by decide +kernel) (pa_cons (pv 0) pa_nil)) pa_nil))) pa_nil))) pa_nil)) (pg_name (i := 1) sc_law.nd rfl (.inl rfl))
    (pss_cons (ps_set (i := 2) sc_law.nd rfl (.inr rfl) (pe_cal C__law_box (hr.mono (by decide)) (by rfl) (pa_cons (pe_cal C__law_cell (hr.mono (by decide)) (by rfl) (pa_cons (pv 0) (pa_cons (pv 1) pa_nil))) pa_nil)))
    (pss_cons (ps_par (i := 3) (j := 4) (by rfl) sc_law.nd rfl rfl (by decide) rfl rfl (pa_cons (pe_op op_add pe_int (pe_cal C__law_take (hr.mono (by decide)) (by rfl) (pa_cons (pv 2) (pa_cons pe_int pa_nil)))) (pa_cons (pe_cal C__law_take (hr.mono (by decide)) (by rfl) (pa_cons (pv 2) (pa_cons pe_int pa_nil))) pa_nil)) (by rfl))
    (pss_cons (ps_set (i := 5) sc_law.nd rfl (.inl rfl) (pe_join pe_str (pe_lc (own := [("_law_j", 12)]) (g := gName 12) (tt := tYes) rfl sc_law.nd (pi_range1 (by rfl) T.m_range (pa_cons (pv 3) pa_nil)) (blkOk_by (N := N_law) (sc := defScope s_law) (by decide +kernel)) (fun _ _ _ _ _ => pg_name (i := 12) sc_law.nd rfl (Or.inl rfl)) (fun _ _ _ _ _ => pts_nil) (fun _ _ _ _ _ => (pe_ix ix_str pe_str (pe_cal C__law_take (hr.mono (by decide)) (by rfl) (pa_cons (pv 2) (pa_cons pe_int pa_nil))) (fun _ _ => rfl))))))
    (pss_cons (ps_set (i := 6) sc_law.nd rfl (.inl rfl) (pe_cal C__law_take (hr.mono (by decide)) (by rfl) (pa_cons (pv 2) (pa_cons (pv 3) pa_nil))))
    (pss_cons (ps_set (i := 7) sc_law.nd rfl (.inl rfl) (pe_ix ix_list (pe_lst (pa_cons (pe_ix ix_str (pv 5) (pv 6) (fun _ _ => rfl)) (pa_cons (pe_ix ix_str (pv 5) (pv 6) (fun _ _ => rfl)) (pa_cons (pe_ix ix_str (pv 5) (pv 6) (fun _ _ => rfl)) (pa_cons pe_str (pa_cons (pe_op op_mul_str2 (pe_ix ix_str (pv 5) (pv 6) (fun _ _ => rfl)) pe_int) (pa_cons pe_str (pa_cons pe_str (pa_cons pe_str (pa_cons pe_str (pa_cons pe_str (pa_cons pe_str (pa_cons pe_str (pa_cons pe_str (pa_cons pe_str pa_nil))))))))))))))) (pv 4) (fun _ _ => rfl)))
    (pss_cons (ps_set (i := 8) sc_law.nd rfl (.inl rfl) (pe_op op_add_str (pe_op op_add_str (pe_slice sl_str (pv 5) po_none (po_some (pv 6))) (pv 7)) (pe_slice sl_str (pv 5) (po_some (pe_op op_add (pv 6) pe_int)) po_none)))
    (pss_cons (ps_if (PW.pt (pw_or (pt_cmpR op_ne (pe_callB call_repr_bl (by rfl) T.m_repr (by decide +kernel) (pa_cons (pe_cal C_is_name (hr.mono (by decide)) (by rfl) (pa_cons (pv 8) pa_nil)) pa_nil)) (pe_callB call_repr_bl (by rfl) T.m_repr (by decide +kernel) (pa_cons (pe_cal C__law_named (hr.mono (by decide)) (by rfl) (pa_cons (pv 8) pa_nil)) pa_nil)) (nomark _)) (pw_or1 (pt_cmpR op_ne (pe_callB call_repr_bl (by rfl) T.m_repr (by decide +kernel) (pa_cons (pe_cal C_is_name (hr.mono (by decide)) (by rfl) (pa_cons (pv 5) pa_nil)) pa_nil)) (pe_callB call_repr_bl (by rfl) T.m_repr (by decide +kernel) (pa_cons (pe_cmpR op_le (pv 3) pe_int (nomark _)) pa_nil)) (nomark _))))) (pss_one (ps_ret pe_bl)) pss_nil)
    (pss_cons (ps_for PassesOwn.never rfl (pi_list (pe_lst (pa_cons pe_non (pa_cons pe_bl (pa_cons (pv 3) (pa_cons (pe_lst (pa_cons (pv 5) pa_nil)) (pa_cons (pe_tup (pa_cons (pv 5) pa_nil)) (pa_cons (pe_disp (pps_cons (pv 5) pe_int pps_nil) (by rfl) (by rfl) (by simp) (by decide)) pa_nil)))))))) (pg_name (i := 9) sc_law.nd rfl (.inl rfl))
    (pss_one (ps_if (pt_cmpR op_ne (pe_callB call_repr_bl (by rfl) T.m_repr (by decide +kernel) (pa_cons (pe_cal C_is_name (hr.mono (by decide)) (by rfl) (pa_cons (pv 9) pa_nil)) pa_nil)) pe_str (nomark _)) (pss_one (ps_ret pe_bl)) pss_nil)))
    (pss_cons (ps_set (i := 10) sc_law.nd rfl (.inl rfl) (pe_lst (pa_cons pe_int (pa_cons (pe_op op_pow pe_int pe_int) (pa_cons (pe_un un_neg (pe_op op_pow pe_int pe_int)) (pa_cons (pe_cal C__law_take (hr.mono (by decide)) (by rfl) (pa_cons (pv 2) (pa_cons (pe_op op_pow pe_int pe_int) pa_nil))) (pa_cons (pe_op op_pow pe_int pe_int) pa_nil)))))))
    (pss_cons (ps_set (i := 11) sc_law.nd rfl (.inl rfl) (pe_op op_sub (pe_op op_add (pe_ix ix_list (pv 10) (pe_cal C__law_take (hr.mono (by decide)) (by rfl) (pa_cons (pv 2) (pa_cons pe_int pa_nil))) (fun _ _ => rfl)) (pe_cal C__law_take (hr.mono (by decide)) (by rfl) (pa_cons (pv 2) (pa_cons pe_int pa_nil)))) pe_int))
    (pss_cons (ps_if (pt_cmpR op_ne (pe_callB call_repr_bl (by rfl) T.m_repr (by decide +kernel) (pa_cons (pe_calK0 K_is_height (hr.mono (by decide)) (by rfl) (pk_cons (pv 11) pk_nil)) pa_nil)) (pe_callB call_repr_bl (by rfl) T.m_repr (by decide +kernel) (pa_cons (pe_and (pe_cmpR op_le (pe_un un_neg (pe_op op_pow pe_int pe_int)) (pv 11) (nomark _)) (pe_one (pe_cmpR op_le (pv 11) (pe_op op_pow pe_int pe_int) (nomark _)))) pa_nil)) (nomark _)) (pss_one (ps_ret pe_bl)) pss_nil)
    (pss_one (ps_for PassesOwn.never rfl (pi_list (pe_lst (pa_cons pe_non (pa_cons pe_bl (pa_cons pe_bl (pa_cons (pe_callTy call_str_int (by rfl) T.m_str (by decide +kernel) (pa_cons (pv 11) pa_nil)) (pa_cons (pe_lst (pa_cons (pv 11) pa_nil)) (pa_cons (pe_tup (pa_cons (pv 11) pa_nil)) (pa_cons (pe_disp (pps_cons pe_str (pv 11) pps_nil) (by rfl) (by rfl) (by simp) (by decide)) (pa_cons (pv 5) pa_nil)))))))))) (pg_name (i := 9) sc_law.nd rfl (.inl rfl))
    (pss_one (ps_if (pt_cmpR op_ne (pe_callB call_repr_bl (by rfl) T.m_repr (by decide +kernel) (pa_cons (pe_cal C_is_height (hr.mono (by decide)) (by rfl) (pa_cons (pv 9) pa_nil)) pa_nil)) pe_str (nomark _)) (pss_one (ps_ret pe_bl)) pss_nil))))))))))))))))
    (pss_one (ps_ret pe_bl)))), ?_⟩
    refine ⟨10, 12, rfl, rfl, ⟨by decide, by decide, by decide⟩, rfl, _, rfl, iteNS (by decide +kernel) ?_⟩
    refine ⟨.ref a, rfl, a, _, rfl, .inl hS, 30, _, rfl, 2, _, rfl, _, rfl, ?lo, ?hi, ?_⟩
    case lo => split <;> split <;> omega
    case hi => split <;> split <;> omega
    refine for_range (lo := 0) (fun i σ H' => (∃ y1 y2 y3 y4 y5 y6 y7 y8 y9 y10 y11 y12, σ = [some (.ref a), y1, y2, y3, y4, y5, y6, y7, y8, y9, y10, y11, y12]) ∧ Same H H') ⟨⟨_, _, _, _, _, _, _, _, _, _, _, _, rfl⟩, Same.refl H⟩ (fun i σ H1 hi hP => ?_) (fun σ H1 hP => q H1)
    obtain ⟨⟨y1, y2, y3, y4, y5, y6, y7, y8, y9, y10, y11, y12, rfl⟩, sm⟩ := hP
    have hi2 : i < 64 := by
      rw [List.length_map] at hi
      have h1 : i < Int.toNat _ := hi
      split at h1 <;> (try split at h1) <;> omega
    have hS1 := sm.seq hS
    -- the box
    refine ⟨.ref a, rfl, _, rfl, a, ns, _, rfl, hS1, hlen, by omega, by omega, fun c => ⟨c, rfl, fun b xs nb hx => ?_⟩⟩
    have t0 : Trn H1 (upd H1 b (.lst xs)) b 0 := ⟨same_upd nb, nb, xs, upd_same, hx⟩
    generalize upd H1 b (HO.lst xs) = H2 at t0 ⊢
    -- size, way
    refine ⟨.ref b, rfl, b, 9, 0, rfl, t0.box, by decide, by decide, by decide, fun r1 x1 l1 u1 h1 => ?_⟩
    have t1 := t0.take h1
    generalize upd H2 b (HO.lst x1) = H3 at t1 ⊢
    refine ⟨1, r1, rfl, rfl, .ref b, rfl, b, 14, 1, rfl, t1.box, by decide, by decide, by decide, fun r2 x2 l2 u2 h2 => ?_⟩
    have t2 := t1.take h2
    generalize upd H3 b (HO.lst x2) = H4 at t2 ⊢
    refine ⟨_, _, rfl, ?_⟩
    -- the word
    refine ⟨⟨_, rfl⟩, _, rfl, 1 + r1, rfl, by omega, by omega, fun D nD => ?_⟩
    have hDb : D ≠ b := t2.ne nD
    refine lc_range (lo := 0) (fun j H' => Trn H1 H' b (2 + j) ∧ ∃ cs : List Nat, cs.length = j ∧ (∀ c ∈ cs, c ∈ lets.cps.toList) ∧ H' D = some (.lst ((cs.map fun c => (⟨#[c]⟩ : Str)).map V.str))) ⟨t2.go (same_upd nD), [], rfl, fun _ h => (nomatch h), upd_same⟩ (fun j H' hj hP => ?_) (fun H' hP => ?_)
    · obtain ⟨tj, cs, hcs, hcl, hD⟩ := hP
      have hj2 : j < 9 := by
        have h1 : j < (1 + r1).toNat := hj
        omega
      refine ⟨rfl, tyes ⟨.ref b, rfl, b, 26, 2 + j, rfl, tj.box, by decide, by decide, by omega, fun r x l u h => ?_⟩⟩
      obtain ⟨rn, rfl⟩ := Int.eq_ofNat_of_zero_le l
      have hr1 : rn < lets.cps.toList.length := by
        rw [lets_len]
        omega
      have hD2 : (upd H' b (.lst x)) D = some (.lst ((cs.map fun c => (⟨#[c]⟩ : Str)).map V.str)) := (upd_ne hDb).trans hD
      refine ⟨lets, _, lets.cps.toList[rn], rfl, rfl, by decide +kernel, atI_nat (List.getElem?_eq_getElem hr1), _, hD2, ?_, ?_, cs ++ [lets.cps.toList[rn]], ?_, ?_, ?_⟩
      · rw [List.length_map, List.length_map]
        exact small1000 (by omega)
      · exact (tj.take h).at (t2.same.free nD) hDb
      · rw [List.length_append, hcs]
        rfl
      · intro c hc
        rcases List.mem_append.mp hc with h | h
        · exact hcl c h
        · rw [List.mem_singleton.mp h]
          exact List.getElem_mem hr1
      · rw [upd_same, List.map_append, List.map_append]
        rfl
    obtain ⟨t3, cs, hcs, hcl, hD⟩ := hP
    have hcs2 : (cs.length : Int) = 1 + r1 := by
      have h1 : cs.length = (1 + r1).toNat := hcs
      omega
    have hcs3 : (1 + r1).toNat ≤ 9 := by omega
    refine ⟨_, D, cs.map fun c => (⟨#[c]⟩ : Str), rfl, rfl, .inl (.inl (.inl hD)), ?sz, ?_⟩
    case sz =>
      rw [sum_signs]
      show cs.length + _ * 0 ≤ _
      omega
    obtain ⟨word, hw⟩ : ∃ word : Str, word = Txt.join ("" : Str) (cs.map fun c => (⟨#[c]⟩ : Str)) := ⟨_, rfl⟩
    have hwe : word = ⟨cs.toArray⟩ := hw.trans (txt_join_signs cs)
    show gName 5 (V.str (Txt.join ("" : Str) (cs.map fun c => (⟨#[c]⟩ : Str)))) _ _ _
    rw [← hw]
    have hwl : word.length = cs.length := by
      rw [hwe]
      show cs.toArray.size = _
      rw [List.size_toArray]
    have hwc : ∀ c ∈ word.cps.toList, c ∈ lets.cps.toList := by
      rw [hwe]
      exact hcl
    clear hw hwe hD hcl hcs
    -- at
    have hsz9 : (1 + r1).toNat ≤ 9 ∧ (((1 + r1).toNat : Nat) : Int) = 1 + r1 := by omega
    obtain ⟨n3, hn3, hn3'⟩ : ∃ n3 : Nat, n3 = 2 + (1 + r1).toNat ∧ n3 ≤ 11 := ⟨_, rfl, by omega⟩
    have t3 : Trn H1 H' b n3 := by
      rw [hn3]
      exact t3
    refine ⟨.ref b, rfl, .int (1 + r1), rfl, b, 1 + r1, n3, rfl, t3.box, by omega, by omega, by omega, fun r4 x4 l4 u4 h4 => ?_⟩
    have t4 := t3.take h4
    generalize upd H' b (HO.lst x4) = H5 at t4 ⊢
    obtain ⟨at4, rfl⟩ := Int.eq_ofNat_of_zero_le l4
    have hat : at4 < word.cps.toList.length := by
      rw [Array.length_toList]
      show at4 < word.length
      omega
    have hwsz : word.length ≤ sizeLine := Nat.le_of_lt (small1000 (by omega))
    obtain ⟨c4, hc4⟩ : ∃ c4, word.cps.toList[at4]? = some c4 := ⟨_, List.getElem?_eq_getElem hat⟩
    have hc4l : c4 < 1114112 := lets_small _ (hwc _ (List.mem_of_getElem? hc4))
    have hat4 : atI word.cps.toList ((at4 : Nat) : Int) = some c4 := atI_nat hc4
    -- sign
    refine ⟨.str word, rfl, _, rfl, word, _, c4, rfl, rfl, hwsz, hat4, .str word, rfl, _, rfl, word, _, c4, rfl, rfl, hwsz, hat4, .str word, rfl, _, rfl, word, _, c4, rfl, rfl, hwsz, hat4, .str word, rfl, _, rfl, word, _, c4, rfl, rfl, hwsz, hat4, _, 2, rfl, rfl, (mul_one_sign c4).1, by show 14 ≤ sizeLine; decide, fun p5 np5 => ?_⟩
    have t5 : Trn H1 (upd H5 p5 (.lst ((sgns c4).map V.str))) b (n3 + 1) := t4.new np5
    have hp5 : (upd H5 p5 (.lst ((sgns c4).map V.str))) p5 = some (.lst ((sgns c4).map V.str)) := upd_same
    obtain ⟨way, rfl⟩ := Int.eq_ofNat_of_zero_le l2
    have hway : way < (sgns c4).length := by
      show way < 14
      omega
    obtain ⟨sg, hsg⟩ : ∃ sg, (sgns c4)[way]? = some sg := ⟨_, List.getElem?_eq_getElem hway⟩
    have hsgok := sgns_ok hc4l sg (List.mem_of_getElem? hsg)
    have hsgi : atI ((sgns c4).map V.str) ((way : Nat) : Int) = some (.str sg) := atI_nat (by rw [List.getElem?_map, hsg] <;> rfl)
    refine ⟨_, rfl, p5, (sgns c4).map V.str, _, .str sg, rfl, rfl, SqL.of hp5, hsgi, ?_⟩
    show gName 7 (V.str sg) _ (upd H5 p5 (.lst ((sgns c4).map V.str))) _
    generalize upd H5 p5 (HO.lst ((sgns c4).map V.str)) = H6 at t5 ⊢
    -- odd
    have hwok : PyData.strOk word = true := ok_of_codes fun c hc => lets_small c (hwc c hc)
    refine ⟨.str word, rfl, _, rfl, _, rfl, word, rfl, hwsz, _, rfl, _, _, rfl, rfl, ?l1, .str word, rfl, _, rfl, _, 1, rfl, rfl, _, rfl, word, rfl, hwsz, _, _, rfl, rfl, ?l2, ?_⟩
    case l1 =>
      have h1 := len_cut word none (some ((at4 : Nat) : Int))
      exact Nat.le_of_lt (small1000 (by omega))
    case l2 =>
      have h1 := len_cut word none (some ((at4 : Nat) : Int))
      have h2 := len_cut word (some (((at4 : Nat) : Int) + 1)) none
      rw [len_app]
      exact Nat.le_of_lt (small1000 (show _ + _ + (cutS word (some (((at4 : Nat) : Int) + 1)) none).length ≤ 1000 by omega))
    obtain ⟨odd, hodd⟩ : ∃ odd : Str, odd = (cutS word none (some ((at4 : Nat) : Int)) ++ sg) ++ cutS word (some (((at4 : Nat) : Int) + 1)) none := ⟨_, rfl⟩
    show gName 8 (V.str ((cutS word none (some ((at4 : Nat) : Int)) ++ sg) ++ cutS word (some (((at4 : Nat) : Int) + 1)) none)) _ _ _
    rw [← hodd]
    have hoddok : PyData.strOk odd = true := by
      rw [hodd]
      exact ok_app (ok_app (ok_cut hwok _ _) hsgok.2) (ok_cut hwok _ _)
    have hoddl : odd.length ≤ sizeLine := by
      rw [hodd, len_app, len_app]
      have h1 := len_cut word none (some ((at4 : Nat) : Int))
      have h2 := len_cut word (some (((at4 : Nat) : Int) + 1)) none
      exact Nat.le_of_lt (small1000 (by omega))
    clear hodd
    -- is_name(odd), _law_named(odd)
    refine ⟨_, rfl, _, rfl, .inl ⟨odd, rfl, hoddl, fun H7 s7 => ?_⟩⟩
    refine ⟨_, rfl, _, rfl, odd, rfl, hoddl, hoddok, fun H8 s8 => ?_⟩
    have t8 := (t5.go s7).go s8
    refine ⟨_, rfl, rfl, _, rfl, iteNS rfl ?_⟩
    -- is_name(word)
    refine ⟨_, rfl, _, rfl, .inl ⟨word, rfl, hwsz, fun H9 s9 => ?_⟩⟩
    have t9 := t8.go s9
    have hnw : nameB word = decide (1 + r1 ≤ 8) := by
      unfold nameB
      rw [allLets_of hwc, Bool.and_true]
      rw [decide_eq_true (show (1 : Int) ≤ (word.length : Int) by omega), Bool.true_and]
      rw [show ((word.length : Nat) : Int) = 1 + r1 by omega]
    refine ⟨_, rfl, _, rfl, _, 8, rfl, rfl, _, rfl, rfl, _, rfl, iteNS ?_ ?_⟩
    · rw [hnw]
    -- the things of other kinds
    refine ⟨_, rfl, _, rfl, by show 1 ≤ sizeLine; decide, fun l1 n1 => ?_⟩
    refine ⟨_, rfl, by show 1 ≤ sizeLine; decide, fun t2' n2 => ?_⟩
    refine fun d3 n3' => ?_
    refine ⟨_, rfl, upd_same, [(Sum.inr word, .int 1)], rfl, by show 1 ≤ 15; decide, ?_⟩
    refine ⟨by show 6 ≤ sizeLine; decide, fun L nL => ?_⟩
    rw [upd_upd] at nL ⊢
    have sA : Same H9 (upd H9 l1 (.lst [.str word])) := same_upd n1
    have eA : (upd H9 l1 (.lst [.str word])) l1 = some (.lst [.str word]) := upd_same
    generalize upd H9 l1 (HO.lst [.str word]) = HA at sA eA n2 n3' nL ⊢
    have sB : Same HA (upd HA t2' (.tup [.str word])) := same_upd n2
    have eB : (upd HA t2' (.tup [.str word])) t2' = some (.tup [.str word]) := upd_same
    generalize upd HA t2' (HO.tup [.str word]) = HB at sB eB n3' nL ⊢
    obtain ⟨kv, hkv⟩ : ∃ kv, kv = mergeK [] [((Sum.inr word : Key), V.int 1)] := ⟨_, rfl⟩
    rw [← hkv] at nL ⊢
    have sC : Same HB (upd HB d3 (.dK kv)) := same_upd n3'
    have eC : (upd HB d3 (.dK kv)) d3 = some (.dK kv) := upd_same
    generalize upd HB d3 (HO.dK kv) = HC at sC eC nL ⊢
    have sD : Same HC (upd HC L (.lst [.non, .bl true, .int (1 + r1), .ref l1, .ref t2', .ref d3])) := same_upd nL
    have eD : (upd HC L (.lst [.non, .bl true, .int (1 + r1), .ref l1, .ref t2', .ref d3])) L = some (.lst [.non, .bl true, .int (1 + r1), .ref l1, .ref t2', .ref d3]) := upd_same
    refine ⟨_, rfl, ⟨_, SqL.of eD⟩, ?_⟩
    generalize upd HC L (HO.lst [.non, .bl true, .int (1 + r1), .ref l1, .ref t2', .ref d3]) = HD at sD eD ⊢
    have t10 := (((t9.go sA).go sB).go sC).go sD
    have off1 : ∀ x ∈ ([.non, .bl true, .int (1 + r1), .ref l1, .ref t2', .ref d3] : List V), ∀ H', Same HD H' → Off K H' "str" x := by
      intro x hx H' sH
      simp only [List.mem_cons, List.not_mem_nil, or_false] at hx
      rcases hx with e | e | e | e | e | e
      · rw [e]; exact off_non k_NoneType_str
      · rw [e]; exact off_bl k_bool_str
      · rw [e]; exact off_int k_int_str
      · rw [e]; exact off_lst (sH _ _ (sD _ _ (sC _ _ (sB _ _ eA)))) k_list_str
      · rw [e]; exact off_tup (sH _ _ (sD _ _ (sC _ _ eB))) k_tuple_str
      · rw [e]; exact off_dK (sH _ _ (sD _ _ eC)) k_dict_str
    refine for_list (fun i' σ H' => (∃ z9, σ = [some (.ref a), some (.int (0 + (i : Nat))), some (.ref b), some (.int (1 + r1)), some (.int ((way : Nat) : Int)), some (.str word), some (.int ((at4 : Nat) : Int)), some (.str sg), some (.str odd), z9, y10, y11, y12]) ∧ Same HD H') ⟨⟨_, rfl⟩, Same.refl HD⟩ (fun i' σ H' _ hP => .inl (.inl (hP.2 _ _ eD))) (fun i' x σ H' hx hP => ?_) (fun σ H' hP => ?_)
    · obtain ⟨⟨z9, rfl⟩, sH⟩ := hP
      exact ⟨_, rfl, _, rfl, .inr ⟨off1 x (List.mem_of_getElem? hx) H' sH, _, rfl, rfl, _, rfl, iteNS rfl ⟨⟨_, rfl⟩, sH⟩⟩⟩
    obtain ⟨⟨z9, rfl⟩, sH⟩ := hP
    have t11 := t10.go sH
    clear eA eB eC eD sA sB sC sD off1 sH t10
    -- ends
    refine ⟨10, 12, rfl, rfl, ⟨by decide, by decide, by decide⟩, 10, 12, rfl, rfl, ⟨by decide, by decide, by decide⟩, _, rfl, ?_⟩
    have hp12 : (10 : Int) ^ (Int.toNat 12) = 1000000000000 := by decide
    refine ⟨.ref b, rfl, 10, 12, rfl, rfl, ⟨by decide, by decide, by decide⟩, b, _, n3 + 1, rfl, t11.box, by decide, by decide, by omega, fun r5 x5 l5 u5 h5 => ?_⟩
    have t12 := t11.take h5
    generalize upd H' b (HO.lst x5) = HE at t12 ⊢
    have u5' : r5 < 10 ^ (Int.toNat 12) := u5
    rw [hp12] at u5'
    refine ⟨10, 29, rfl, rfl, ⟨by decide, by decide, by decide⟩, by show 5 ≤ sizeLine; decide, fun p6 np6 => ?_⟩
    have t13 : Trn H1 (upd HE p6 (.lst (([0, 10 ^ (Int.toNat 12), -(10 ^ (Int.toNat 12)), r5, 10 ^ (Int.toNat 29)] : List Int).map V.int))) b (n3 + 2) := t12.new np6
    have e13 : (upd HE p6 (.lst (([0, 10 ^ (Int.toNat 12), -(10 ^ (Int.toNat 12)), r5, 10 ^ (Int.toNat 29)] : List Int).map V.int))) p6 = some (.lst (([0, 10 ^ (Int.toNat 12), -(10 ^ (Int.toNat 12)), r5, 10 ^ (Int.toNat 29)] : List Int).map V.int)) := upd_same
    have hp6b : p6 ≠ b := t12.ne np6
    obtain ⟨es, hes⟩ : ∃ es : List Int, es = [0, 10 ^ (Int.toNat 12), -(10 ^ (Int.toNat 12)), r5, 10 ^ (Int.toNat 29)] := ⟨_, rfl⟩
    show gName 10 (V.ref p6) _ (upd HE p6 (.lst (([0, 10 ^ (Int.toNat 12), -(10 ^ (Int.toNat 12)), r5, 10 ^ (Int.toNat 29)] : List Int).map V.int))) _
    rw [← hes] at t13 e13 ⊢
    have hesl : es.length = 5 := by rw [hes]; rfl
    have hesb : ∀ e ∈ es, e.natAbs < 10 ^ 30 := by
      intro e he
      rw [hes] at he
      simp only [List.mem_cons, List.not_mem_nil, or_false] at he
      rcases he with h | h | h | h | h
      · rw [h]; decide
      · rw [h]; decide
      · rw [h]; decide
      · rw [h]; omega
      · rw [h]; decide
    clear hes
    generalize upd HE p6 (HO.lst (es.map V.int)) = HF at t13 e13 ⊢
    -- number
    refine ⟨_, rfl, .ref b, rfl, b, 5, n3 + 2, rfl, t13.box, by decide, by decide, by omega, fun r6 x6 l6 u6 h6 => ?_⟩
    have t14 := t13.take h6
    have e14 : (upd HF b (.lst x6)) p6 = some (.lst (es.map V.int)) := (upd_ne hp6b).trans e13
    generalize upd HF b (HO.lst x6) = HG at t14 e14 ⊢
    obtain ⟨ix, rfl⟩ := Int.eq_ofNat_of_zero_le l6
    have hix : ix < es.length := by omega
    refine ⟨p6, _, _, .int es[ix], rfl, rfl, SqL.of e14, atI_nat (by rw [List.getElem?_map, List.getElem?_eq_getElem hix] <;> rfl), ?_⟩
    have hei := hesb es[ix] (List.getElem_mem hix)
    generalize es[ix] = ei at hei ⊢
    refine ⟨.ref b, rfl, b, 5, n3 + 3, rfl, t14.box, by decide, by decide, by omega, fun r7 x7 l7 u7 h7 => ?_⟩
    have t15 := t14.take h7
    generalize upd HG b (HO.lst x7) = HI at t15 ⊢
    refine ⟨_, _, rfl, rfl, _, 2, rfl, rfl, ?_⟩
    obtain ⟨num, hnum⟩ : ∃ num : Int, num = ei + r7 - 2 := ⟨_, rfl⟩
    show gName 11 (V.int (ei + r7 - 2)) _ _ _
    rw [← hnum]
    have hnumb : num.natAbs < 10 ^ 31 := by omega
    clear hnum
    -- is_height(value=number)
    refine ⟨_, rfl, rfl, rfl, _, rfl, .inl ⟨num, rfl, ?_⟩⟩
    have hhb : heightB num = (decide (-(10 ^ (Int.toNat 12)) ≤ num) && decide (num ≤ 10 ^ (Int.toNat 12))) := rfl
    refine ⟨_, rfl, 10, 12, rfl, rfl, ⟨by decide, by decide, by decide⟩, _, rfl, _, rfl, _, num, rfl, rfl, _, rfl, ?_⟩
    rw [hhb]
    have hfin : ∀ bb : Bool, bb = (decide (-(10 ^ (Int.toNat 12)) ≤ num) && decide (num ≤ 10 ^ (Int.toNat 12))) → ∀ {A B : Prop}, B → if (!decide (V.str (blT (decide (-(10 ^ (Int.toNat 12)) ≤ num) && decide (num ≤ 10 ^ (Int.toNat 12)))) = V.str (blT bb))) = true then A else B := by
      intro bb e A B hB
      rw [e]
      exact iteNS rfl hB
    refine ite2 (fun e => ⟨_, rfl, 10, 12, rfl, rfl, ⟨by decide, by decide, by decide⟩, num, _, rfl, rfl, _, rfl, rfl, _, rfl, hfin _ (by rw [e, Bool.true_and]) ?_⟩) (fun e => ⟨_, rfl, rfl, _, rfl, hfin _ (by rw [Bool.eq_false_iff.mpr e, Bool.false_and]) ?_⟩)
    all_goals
      refine ⟨_, rfl, num, rfl, ?_, ?_⟩
      · refine Nat.lt_of_lt_of_le (PySem.Flt.log2_lt_of (k := 110) (by decide) (Nat.lt_of_lt_of_le hnumb (by decide))) (by decide)
      refine ⟨_, rfl, by show 1 ≤ sizeLine; decide, fun l1 n1 => ?_⟩
      refine ⟨_, rfl, by show 1 ≤ sizeLine; decide, fun t2' n2 => ?_⟩
      refine fun d3 n3' => ?_
      refine ⟨_, rfl, upd_same, [(Sum.inr ("a" : Str), .int num)], rfl, by show 1 ≤ 15; decide, ?_⟩
      refine ⟨_, rfl, by show 8 ≤ sizeLine; decide, fun L nL => ?_⟩
      rw [upd_upd] at nL ⊢
      have sA : Same HI (upd HI l1 (.lst [.int num])) := same_upd n1
      have eA : (upd HI l1 (.lst [.int num])) l1 = some (.lst [.int num]) := upd_same
      generalize upd HI l1 (HO.lst [.int num]) = HA at sA eA n2 n3' nL ⊢
      have sB : Same HA (upd HA t2' (.tup [.int num])) := same_upd n2
      have eB : (upd HA t2' (.tup [.int num])) t2' = some (.tup [.int num]) := upd_same
      generalize upd HA t2' (HO.tup [.int num]) = HB at sB eB n3' nL ⊢
      obtain ⟨kv, hkv⟩ : ∃ kv, kv = mergeK [] [((Sum.inr ("a" : Str) : Key), V.int num)] := ⟨_, rfl⟩
      rw [← hkv] at nL ⊢
      have sC : Same HB (upd HB d3 (.dK kv)) := same_upd n3'
      have eC : (upd HB d3 (.dK kv)) d3 = some (.dK kv) := upd_same
      generalize upd HB d3 (HO.dK kv) = HC at sC eC nL ⊢
      have sD : Same HC (upd HC L (.lst [.non, .bl true, .bl false, .str (toString num : String), .ref l1, .ref t2', .ref d3, .str word])) := same_upd nL
      have eD : (upd HC L (.lst [.non, .bl true, .bl false, .str (toString num : String), .ref l1, .ref t2', .ref d3, .str word])) L = some (.lst [.non, .bl true, .bl false, .str (toString num : String), .ref l1, .ref t2', .ref d3, .str word]) := upd_same
      refine ⟨_, rfl, ⟨_, SqL.of eD⟩, ?_⟩
      generalize upd HC L (HO.lst [.non, .bl true, .bl false, .str (toString num : String), .ref l1, .ref t2', .ref d3, .str word]) = HD' at sD eD ⊢
      have t16 := (((t15.go sA).go sB).go sC).go sD
      have off1 : ∀ x ∈ ([.non, .bl true, .bl false, .str (toString num : String), .ref l1, .ref t2', .ref d3, .str word] : List V), ∀ H', Same HD' H' → ((∃ b, x = .bl b) ∨ Off K H' "int" x) := by
        intro x hx H' sH
        simp only [List.mem_cons, List.not_mem_nil, or_false] at hx
        rcases hx with e | e | e | e | e | e | e | e
        · rw [e]; exact .inr (off_non k_NoneType_int)
        · exact .inl ⟨_, e⟩
        · exact .inl ⟨_, e⟩
        · rw [e]; exact .inr (off_str k_str_int)
        · rw [e]; exact .inr (off_lst (sH _ _ (sD _ _ (sC _ _ (sB _ _ eA)))) k_list_int)
        · rw [e]; exact .inr (off_tup (sH _ _ (sD _ _ (sC _ _ eB))) k_tuple_int)
        · rw [e]; exact .inr (off_dK (sH _ _ (sD _ _ eC)) k_dict_int)
        · rw [e]; exact .inr (off_str k_str_int)
      refine for_list (fun i' σ H' => (∃ z9, σ = [some (.ref a), some (.int (0 + (i : Nat))), some (.ref b), some (.int (1 + r1)), some (.int ((way : Nat) : Int)), some (.str word), some (.int ((at4 : Nat) : Int)), some (.str sg), some (.str odd), z9, some (.ref p6), some (.int num), y12]) ∧ Same HD' H') ⟨⟨_, rfl⟩, Same.refl HD'⟩ (fun i' σ H' _ hP => .inl (.inl (hP.2 _ _ eD))) (fun i' x σ H' hx hP => ?_) (fun σ H' hP => ?_)
      · obtain ⟨⟨z9, rfl⟩, sH⟩ := hP
        rcases off1 x (List.mem_of_getElem? hx) H' sH with hb | ho
        · exact ⟨_, rfl, _, rfl, .inr (.inl ⟨hb, _, rfl, rfl, _, rfl, iteNS rfl ⟨⟨_, rfl⟩, sH⟩⟩)⟩
        · exact ⟨_, rfl, _, rfl, .inr (.inr ⟨ho, _, rfl, rfl, _, rfl, iteNS rfl ⟨⟨_, rfl⟩, sH⟩⟩)⟩
      · obtain ⟨⟨z9, rfl⟩, sH⟩ := hP
        exact ⟨⟨_, _, _, _, _, _, _, _, _, _, _, _, rfl⟩, sm.trans (t16.go sH).same⟩
end
end K01

namespace K01
open PySem PySem.Spec PyProof.Rows L2 L9
theorem all_mk {l : PySem.W.OpenLaw} {w : World} {K : PySem.W.Frag} {h : Heap} {mg : Str → Option Value} {fa f1 f2 f3 f4 f5 f6 f7 : Addr} (X : K.In h) (G : h.Ns mainGlobals mg) (hfa : mg "law" = some (.ref fa))
    {od1 an1 : Option Addr} {sl1 : Array (Option Value)} {oc1 kV1 dc1 pm1 cd1 ct1 : Value}
    {od2 an2 : Option Addr} {sl2 : Array (Option Value)} {oc2 kV2 dc2 pm2 cd2 ct2 : Value}
    {od3 an3 : Option Addr} {sl3 : Array (Option Value)} {oc3 kV3 dc3 pm3 cd3 ct3 : Value}
    {od4 an4 : Option Addr} {sl4 : Array (Option Value)} {oc4 kV4 dc4 pm4 cd4 ct4 : Value}
    {od5 an5 : Option Addr} {sl5 : Array (Option Value)} {oc5 kV5 dc5 pm5 cd5 ct5 : Value}
    {od6 an6 : Option Addr} {sl6 : Array (Option Value)} {oc6 kV6 dc6 pm6 cd6 ct6 : Value}
    {od7 an7 : Option Addr} {sl7 : Array (Option Value)} {oc7 kV7 dc7 pm7 cd7 ct7 : Value}
    {tk0 : Tok}
    {tk1 : Tok}
    {tk2 : Tok}
    (a1 : PySem.W.nsIn K mainGlobals "_law_cell" = some (some (.ref f1))) (l1 : K.lookup f1 = some ⟨oc1, od1, .func (PySem.W.fnOf "_law_cell" "_law_cell" (defArgs s__law_cell) (defBody s__law_cell) (defScope s__law_cell) .none kV1 dc1 pm1 an1 cd1 ct1), sl1⟩) (c1 : PySem.W.codeIn K cd1 "_law_cell" = true) (k1 : PySem.W.keepIn K (.ref f1) = true)
    (a2 : PySem.W.nsIn K mainGlobals "_law_box" = some (some (.ref f2))) (l2 : K.lookup f2 = some ⟨oc2, od2, .func (PySem.W.fnOf "_law_box" "_law_box" (defArgs s__law_box) (defBody s__law_box) (defScope s__law_box) .none kV2 dc2 pm2 an2 cd2 ct2), sl2⟩) (c2 : PySem.W.codeIn K cd2 "_law_box" = true) (k2 : PySem.W.keepIn K (.ref f2) = true)
    (a3 : PySem.W.nsIn K mainGlobals "_law_take" = some (some (.ref f3))) (l3 : K.lookup f3 = some ⟨oc3, od3, .func (PySem.W.fnOf "_law_take" "_law_take" (defArgs s__law_take) (defBody s__law_take) (defScope s__law_take) .none kV3 dc3 pm3 an3 cd3 ct3), sl3⟩) (c3 : PySem.W.codeIn K cd3 "_law_take" = true) (k3 : PySem.W.keepIn K (.ref f3) = true)
    (a4 : PySem.W.nsIn K mainGlobals "_law_named" = some (some (.ref f4))) (l4 : K.lookup f4 = some ⟨oc4, od4, .func (PySem.W.fnOf "_law_named" "_law_named" (defArgs s__law_named) (defBody s__law_named) (defScope s__law_named) .none kV4 dc4 pm4 an4 cd4 ct4), sl4⟩) (c4 : PySem.W.codeIn K cd4 "_law_named" = true) (k4 : PySem.W.keepIn K (.ref f4) = true)
    (a5 : PySem.W.nsIn K mainGlobals "is_name" = some (some (.ref f5))) (l5 : K.lookup f5 = some ⟨oc5, od5, .func (PySem.W.fnOf "is_name" "is_name" (defArgs s_is_name) (defBody s_is_name) (defScope s_is_name) .none kV5 dc5 pm5 an5 cd5 ct5), sl5⟩) (c5 : PySem.W.codeIn K cd5 "is_name" = true) (k5 : PySem.W.keepIn K (.ref f5) = true)
    (a6 : PySem.W.nsIn K mainGlobals "is_height" = some (some (.ref f6))) (l6 : K.lookup f6 = some ⟨oc6, od6, .func (PySem.W.fnOf "is_height" "is_height" (defArgs s_is_height) (defBody s_is_height) (defScope s_is_height) .none kV6 dc6 pm6 an6 cd6 ct6), sl6⟩) (c6 : PySem.W.codeIn K cd6 "is_height" = true) (k6 : PySem.W.keepIn K (.ref f6) = true)
    (a7 : PySem.W.nsIn K mainGlobals "law" = some (some (.ref f7))) (l7 : K.lookup f7 = some ⟨oc7, od7, .func (PySem.W.fnOf "law" "law" (defArgs s_law) (defBody s_law) (defScope s_law) .none kV7 dc7 pm7 an7 cd7 ct7), sl7⟩) (c7 : PySem.W.codeIn K cd7 "law" = true) (k7 : PySem.W.keepIn K (.ref f7) = true)
    (cst0 : PySem.W.nsIn K mainGlobals "MOST_HEIGHT" = some (some (.int MH tk0)))
    (cst1 : PySem.W.nsIn K mainGlobals "MOST_LETTERS" = some (some (.int 8 tk1)))
    (cst2 : PySem.W.nsIn K mainGlobals "LETTERS" = some (some (.str lets tk2)))
    (z0 : PySem.W.nsIn K mainGlobals "len" = some none)
    (z1 : PySem.W.nsIn K mainGlobals "int" = some none)
    (z2 : PySem.W.nsIn K mainGlobals "max" = some none)
    (z3 : PySem.W.nsIn K mainGlobals "min" = some none)
    (z4 : PySem.W.nsIn K mainGlobals "range" = some none)
    (z5 : PySem.W.nsIn K mainGlobals "repr" = some none)
    (z6 : PySem.W.nsIn K mainGlobals "str" = some none)
    (z7 : PySem.W.nsIn K mainGlobals "bool" = some none)
    (z8 : PySem.W.nsIn K mainGlobals "all" = some none)
    (z9 : PySem.W.nsIn K mainGlobals "isinstance" = some none)
    : ∃ fd : FuncData, (∀ (s : Shared) (v : Value), BindsTo s fd ⟨[v], []⟩ [("_law_script", v)]) ∧ ∀ base : Heap, K.In base → base.Ns mainGlobals mg → FnOk l.prog w K mg base CX0 2 fa fd ["_law_script"] (spLaw K) := by
  have e := hfa.symm.trans (PySem.W.mg_of X G a7)
  cases e
  have T : Txt K mg := { m_len := PySem.W.mg_none_of X G z0, m_int := PySem.W.mg_none_of X G z1, m_max := PySem.W.mg_none_of X G z2, m_min := PySem.W.mg_none_of X G z3, m_range := PySem.W.mg_none_of X G z4, m_repr := PySem.W.mg_none_of X G z5, m_str := PySem.W.mg_none_of X G z6, m_bool := PySem.W.mg_none_of X G z7, m_all := PySem.W.mg_none_of X G z8, m_isinstance := PySem.W.mg_none_of X G z9, m_MOST_HEIGHT := ⟨_, PySem.W.mg_of X G cst0, ⟨_, rfl⟩⟩, m_MOST_LETTERS := ⟨_, PySem.W.mg_of X G cst1, ⟨_, rfl⟩⟩, m_LETTERS := ⟨_, PySem.W.mg_of X G cst2, ⟨_, rfl⟩⟩ }
  have F1 := fun_mk (st := s__law_cell) l1 c1 k1
  have F2 := fun_mk (st := s__law_box) l2 c2 k2
  have F3 := fun_mk (st := s__law_take) l3 c3 k3
  have F4 := fun_mk (st := s__law_named) l4 c4 k4
  have F5 := fun_mk (st := s_is_name) l5 c5 k5
  have F6 := fun_mk (st := s_is_height) l6 c6 k6
  have F7 := fun_mk (st := s_law) l7 c7 k7
  refine ⟨PySem.W.fnOf "law" "law" (defArgs s_law) (defBody s_law) (defScope s_law) .none kV7 dc7 pm7 an7 cd7 ct7, fun s v => .of_eq rfl, fun base _ _ => ?_⟩
  have C__law_cell : Cal l.prog w K mg base "_law_cell" 1 ["_law_script", "_law_k"] (spCellA K) := ⟨f1, _, ok_cell F1 T, PySem.W.mg_of X G a1, k1, F1.binds fun _ _ _ _ _ _ us hl => match us, hl with | [_, _], _ => rfl⟩
  have C__law_box : Cal l.prog w K mg base "_law_box" 1 ["_law_cell_here"] spBox := ⟨f2, _, ok_box F2 T, PySem.W.mg_of X G a2, k2, F2.binds fun _ _ _ _ _ _ us hl => match us, hl with | [_], _ => rfl⟩
  have C__law_take : Cal l.prog w K mg base "_law_take" 1 ["_law_box_here", "_law_many"] spTake := ⟨f3, _, ok_take F3 T, PySem.W.mg_of X G a3, k3, F3.binds fun _ _ _ _ _ _ us hl => match us, hl with | [_, _], _ => rfl⟩
  have C__law_named : Cal l.prog w K mg base "_law_named" 1 ["_law_word"] spNamed := ⟨f4, _, ok_named F4 T, PySem.W.mg_of X G a4, k4, F4.binds fun _ _ _ _ _ _ us hl => match us, hl with | [_], _ => rfl⟩
  have C_is_name : Cal l.prog w K mg base "is_name" 1 ["value"] (spIsName K) := ⟨f5, _, ok_is_name F5 T, PySem.W.mg_of X G a5, k5, F5.binds fun _ _ _ _ _ _ us hl => match us, hl with | [_], _ => rfl⟩
  have C_is_height : Cal l.prog w K mg base "is_height" 1 ["value"] (spIsHeight K) := ⟨f6, _, ok_is_height F6 T, PySem.W.mg_of X G a6, k6, F6.binds fun _ _ _ _ _ _ us hl => match us, hl with | [_], _ => rfl⟩
  have K_is_height : CalK l.prog w K mg base "is_height" 1 ["value"] 0 ["value"] (fun _ zs => zs) (spIsHeight K) := ⟨f6, _, fun _ ws => ws, ok_is_height F6 T, PySem.W.mg_of X G a6, k6, ⟨fun s us ws _ h1 h2 => match us, ws, h1, h2 with | [], [_], _, _ => (by obtain ⟨oc, od, kV, doc, pm, an, cdv, ct, osl, e, _⟩ := F6.ex; rw [e]; exact .of_eq rfl), fun _ r => r⟩⟩
  exact ok_law F7 T C__law_cell C__law_box C__law_take C__law_named C_is_name C_is_height K_is_height
end K01
open PySem PySem.W PyProof.Rows
set_option maxRecDepth 100000 in
set_option maxHeartbeats 0 in
theorem PySem.Challenge.cw_surehollows_k01_heights_and_names_holds : PySem.Challenge.rw_surehollows_k01_heights_and_names.Holds := by
  w_on; o_law; k_head; (case hw => w_witness2)
  k_fill
  refine L2.walk_of (l := PySem.Challenge.rw_surehollows_k01_heights_and_names) (n := 63) (k := 2) (x := "_law_script") (CX := fun _ => L2.CX0) (sp := fun w => K01.spLaw _) rfl (by decide) rfl ⟨rfl, by decide, by decide⟩ (fun w h Y => PySem.W.kIn_of Y) ?F (fun _ _ a ns hl _ hS => ⟨a, ns, rfl, hS, hl, fun _ => rfl⟩) (fun _ _ _ _ _ h => h)
  case F =>
    intro w mg fa h KX G hmg
    refine' K01.all_mk KX G hmg ?a1 ?l1 ?c1 ?k1 ?a2 ?l2 ?c2 ?k2 ?a3 ?l3 ?c3 ?k3 ?a4 ?l4 ?c4 ?k4 ?a5 ?l5 ?c5 ?k5 ?a6 ?l6 ?c6 ?k6 ?a7 ?l7 ?c7 ?k7 ?cst0 ?cst1 ?cst2 ?z0 ?z1 ?z2 ?z3 ?z4 ?z5 ?z6 ?z7 ?z8 ?z9
    (case a1 => k_is)
    (case l1 => k_is)
    (case c1 => k_is)
    (case k1 => k_is)
    (case a2 => k_is)
    (case l2 => k_is)
    (case c2 => k_is)
    (case k2 => k_is)
    (case a3 => k_is)
    (case l3 => k_is)
    (case c3 => k_is)
    (case k3 => k_is)
    (case a4 => k_is)
    (case l4 => k_is)
    (case c4 => k_is)
    (case k4 => k_is)
    (case a5 => k_is)
    (case l5 => k_is)
    (case c5 => k_is)
    (case k5 => k_is)
    (case a6 => k_is)
    (case l6 => k_is)
    (case c6 => k_is)
    (case k6 => k_is)
    (case a7 => k_is)
    (case l7 => k_is)
    (case c7 => k_is)
    (case k7 => k_is)
    (case cst0 => k_is)
    (case cst1 => k_is)
    (case cst2 => k_is)
    (case z0 => k_is)
    (case z1 => k_is)
    (case z2 => k_is)
    (case z3 => k_is)
    (case z4 => k_is)
    (case z5 => k_is)
    (case z6 => k_is)
    (case z7 => k_is)
    (case z8 => k_is)
    (case z9 => k_is)
