import PyProof.Rows.All
import Wide.All
import OpenK.AllK
import Wide.FinOn
import HandS.Base
import HandS.Call
import HandS.List
import HandS.Comp
import HandS.Ends
import HandS.Iter
import HandS.Text
import HandS.Words
import HandS.WordsList
import HandS.More
import HandS.Codes
import HandS.IsInst
import HandS.Zip
import HandS.Walk
import HandS.Style
import HandS.Defaults
import HandS.MakeKwOnly
import PySem.Challenge.RW_fivefault_k01_values_that_are_terms
set_option Elab.async false
set_option linter.all false
set_option maxRecDepth 100000
namespace Fv
open PySem PySem.Spec PyProof.Rows L2
/-! ### heaps -/
theorem same_upd {H : Hp} {p : Addr} {o : HO} (h : H p = none) : Same H (upd H p o) := fun b x e => by
  rw [upd_ne (ne_of_none e h)]
  exact e
/-- all but what stands at M is as it was -/
def SmX (M : List Addr) (H H' : Hp) : Prop := ∀ b o, b ∉ M → H b = some o → H' b = some o
theorem SmX.refl (M : List Addr) (H : Hp) : SmX M H H := fun _ _ _ h => h
theorem SmX.trans {M : List Addr} {H H1 H2 : Hp} (a : SmX M H H1) (b : SmX M H1 H2) : SmX M H H2 := fun c o m h => b c o m (a c o m h)
theorem SmX.of_same {M : List Addr} {H H1 : Hp} (a : Same H H1) : SmX M H H1 := fun c o _ h => a c o h
theorem SmX.new {M : List Addr} {H : Hp} {p : Addr} {o : HO} (h : H p = none) : SmX M H (upd H p o) := .of_same (same_upd h)
theorem SmX.sub {M M' : List Addr} {H H1 : Hp} (a : SmX M H H1) (h : ∀ b, b ∈ M → b ∈ M' ∨ H b = none) : SmX M' H H1 := fun c o m e => by
  refine a c o (fun hc => ?_) e
  rcases h c hc with q | q
  · exact m q
  · rw [q] at e; cases e
theorem SmX.at {M : List Addr} {H H1 : Hp} {a : Addr} (h : ∀ b, b ≠ a → H1 b = H b) (m : a ∈ M) : SmX M H H1 := fun c o n e => by
  rw [h c (fun z => n (z ▸ m))]; exact e
theorem SmX.put {M : List Addr} {H H1 : Hp} {p : Addr} {o : HO} (a : SmX M H H1) (m : p ∈ M) : SmX M H (L2.upd H1 p o) := fun c x n e => by
  have ne : c ≠ p := fun z => n (z ▸ m)
  rw [upd_ne ne]; exact a c x n e
/-- what does not stand at M -/
def hide (M : List Addr) (H : Hp) : Hp := fun b => if b ∈ M then none else H b
theorem hide_ne {M : List Addr} {H : Hp} {b : Addr} (h : b ∉ M) : hide M H b = H b := by unfold hide; rw [if_neg h]
theorem hide_some {M : List Addr} {H : Hp} {b : Addr} {o : HO} (h : hide M H b = some o) : b ∉ M ∧ H b = some o := by
  unfold hide at h
  by_cases m : b ∈ M
  · rw [if_pos m] at h; cases h
  · rw [if_neg m] at h; exact ⟨m, h⟩
theorem hide_same {M : List Addr} {H : Hp} : Same (hide M H) H := fun b o h => (hide_some h).2
theorem SmX.hid {M : List Addr} {H H' : Hp} (h : SmX M H H') : Same (hide M H) (hide M H') := fun b o e => by
  obtain ⟨m, e⟩ := hide_some e
  rw [hide_ne m]
  exact h b o m e
theorem hide_sub {M M' : List Addr} {H : Hp} (h : ∀ b, b ∈ M' → b ∈ M) : Same (hide M H) (hide M' H) := fun b o e => by
  obtain ⟨m, e⟩ := hide_some e
  rw [hide_ne (fun z => m (h b z))]
  exact e
theorem same_seqT {K : PySem.W.Frag} {H H' : Hp} {a : Addr} {xs : List V} (e : Same H H') (h : SqT K H a xs) : SqT K H' a xs := by
  rcases h with (h | ⟨o, h⟩) | h
  · exact .inl (.inl (e _ _ h))
  · exact .inl (.inr ⟨o, e _ _ h⟩)
  · exact .inr h
mutual
theorem dp_same {K : PySem.W.Frag} {H H' : Hp} (e : Same H H') : ∀ (d : PyData) (v : V), Dp K H v d → Dp K H' v d
  | .none, _, h => by cases h; exact .non
  | .bool b, _, h => by cases h; exact .bl b
  | .int i, _, h => by cases h; exact .int i
  | .str x, _, h => by cases h; exact .str x
  | .list ds, _, h => by cases h with | lst hs ha => exact .lst (e.seq hs) (dpAll_same e ds _ ha)
  | .tuple ds, _, h => by cases h with | tup hs ha => exact .tup (same_seqT e hs) (dpAll_same e ds _ ha)
  | .dict kvs, _, h => by cases h
theorem dpAll_same {K : PySem.W.Frag} {H H' : Hp} (e : Same H H') : ∀ (ds : List PyData) (vs : List V), DpAll K H vs ds → DpAll K H' vs ds
  | [], _, h => by cases h; exact .nil
  | d :: ds, _, h => by cases h with | cons h1 h2 => exact .cons (dp_same e d _ h1) (dpAll_same e ds _ h2)
end
theorem dpAll_len {K : PySem.W.Frag} {H : Hp} : ∀ {vs : List V} {ds : List PyData}, DpAll K H vs ds → vs.length = ds.length
  | _, _, .nil => rfl
  | _, _, .cons _ h => by rw [List.length_cons, List.length_cons, dpAll_len h]
theorem dpAll_get {K : PySem.W.Frag} {H : Hp} : ∀ {vs : List V} {ds : List PyData} {i : Nat} {v : V}, DpAll K H vs ds → vs[i]? = some v → ∃ d, ds[i]? = some d ∧ Dp K H v d
  | _, _, _, _, .nil, e => by simp at e
  | _, _, 0, _, .cons h _, e => by simp at e; subst e; exact ⟨_, rfl, h⟩
  | _ :: vs, _ :: ds, i + 1, _, .cons _ h, e => by
    have e' : vs[i]? = some _ := e
    exact dpAll_get (ds := ds) h e'
theorem dpAll_app {K : PySem.W.Frag} {H : Hp} : ∀ {vs ws : List V} {ds es : List PyData}, DpAll K H vs ds → DpAll K H ws es → DpAll K H (vs ++ ws) (ds ++ es)
  | _, _, _, _, .nil, h => h
  | _, _, _, _, .cons h1 h2, h => .cons h1 (dpAll_app h2 h)
theorem dpAll_drop {K : PySem.W.Frag} {H : Hp} : ∀ (n : Nat) {vs : List V} {ds : List PyData}, DpAll K H vs ds → DpAll K H (vs.drop n) (ds.drop n)
  | 0, _, _, h => h
  | n + 1, _, _, .nil => .nil
  | n + 1, _, _, .cons _ h => dpAll_drop n h
/-! ### data -/
mutual
/-- plain data, nested at most n deep -/
def gd : Nat → PyData → Bool
  | _, .none => true
  | _, .bool _ => true
  | _, .int _ => true
  | _, .str x => PyData.strOk x && decide (x.length ≤ 100000)
  | 0, _ => false
  | n + 1, .list ds => gdAll n ds && decide (ds.length ≤ 1000)
  | n + 1, .tuple ds => gdAll n ds && decide (ds.length ≤ 1000)
  | _, .dict _ => false
def gdAll : Nat → List PyData → Bool
  | _, [] => true
  | n, d :: ds => gd n d && gdAll n ds
end
theorem gdAll_iff {n : Nat} : ∀ {ds : List PyData}, gdAll n ds = true ↔ ∀ d ∈ ds, gd n d = true
  | [] => by simp [gdAll]
  | d :: ds => by simp [gdAll, gdAll_iff (n := n) (ds := ds)]
mutual
theorem gd_up : ∀ (n : Nat) (d : PyData), gd n d = true → gd (n + 1) d = true
  | _, .none, _ => rfl
  | _, .bool _, _ => rfl
  | _, .int _, _ => rfl
  | 0, .str x, h => h
  | n + 1, .str x, h => h
  | 0, .list _, h => by cases h
  | 0, .tuple _, h => by cases h
  | 0, .dict _, h => by cases h
  | n + 1, .list ds, h => by
    simp only [gd, Bool.and_eq_true] at h ⊢
    exact ⟨gdAll_up n ds h.1, h.2⟩
  | n + 1, .tuple ds, h => by
    simp only [gd, Bool.and_eq_true] at h ⊢
    exact ⟨gdAll_up n ds h.1, h.2⟩
  | n + 1, .dict _, h => by cases h
theorem gdAll_up : ∀ (n : Nat) (ds : List PyData), gdAll n ds = true → gdAll (n + 1) ds = true
  | _, [], _ => rfl
  | n, d :: ds, h => by
    simp only [gdAll, Bool.and_eq_true] at h ⊢
    exact ⟨gd_up n d h.1, gdAll_up n ds h.2⟩
end
theorem gd_le {n m : Nat} {d : PyData} (h : gd n d = true) (hm : n ≤ m) : gd m d = true := by
  induction hm with
  | refl => exact h
  | step _ ih => exact gd_up _ _ ih
mutual
theorem gd_lay : ∀ (n : Nat) (d : PyData), gd n d = true → d.canLay0 = true ∧ d.depth ≤ n
  | _, .none, _ => ⟨rfl, by simp [PyData.depth]⟩
  | _, .bool _, _ => ⟨rfl, by simp [PyData.depth]⟩
  | _, .int _, _ => ⟨rfl, by simp [PyData.depth]⟩
  | 0, .str x, h => ⟨by simp only [gd, Bool.and_eq_true] at h; simpa [PyData.canLay0] using h.1, by simp [PyData.depth]⟩
  | n + 1, .str x, h => ⟨by simp only [gd, Bool.and_eq_true] at h; simpa [PyData.canLay0] using h.1, by simp [PyData.depth]⟩
  | 0, .list _, h => by cases h
  | 0, .tuple _, h => by cases h
  | 0, .dict _, h => by cases h
  | n + 1, .list ds, h => by
    have q := gdAll_lay n ds (by simp only [gd, Bool.and_eq_true] at h; exact h.1)
    exact ⟨by simpa [PyData.canLay0] using q.1, by simp only [PyData.depth]; omega⟩
  | n + 1, .tuple ds, h => by
    have q := gdAll_lay n ds (by simp only [gd, Bool.and_eq_true] at h; exact h.1)
    exact ⟨by simpa [PyData.canLay0] using q.1, by simp only [PyData.depth]; omega⟩
  | n + 1, .dict _, h => by cases h
theorem gdAll_lay : ∀ (n : Nat) (ds : List PyData), gdAll n ds = true → PyData.canLayAll0 ds = true ∧ PyData.depthAll ds ≤ n
  | _, [], _ => ⟨rfl, by simp [PyData.depthAll]⟩
  | n, d :: ds, h => by
    simp only [gdAll, Bool.and_eq_true] at h
    have a := gd_lay n d h.1
    have b := gdAll_lay n ds h.2
    exact ⟨by simp [PyData.canLayAll0, a.1, b.1], by simp only [PyData.depthAll]; omega⟩
end
theorem gd_list {n : Nat} {ds : List PyData} (h : gd (n + 1) (.list ds) = true) : ds.length ≤ 1000 ∧ ∀ d ∈ ds, gd n d = true := by
  simp only [gd, Bool.and_eq_true, decide_eq_true_eq] at h
  exact ⟨h.2, gdAll_iff.mp h.1⟩
theorem gd_tuple {n : Nat} {ds : List PyData} (h : gd (n + 1) (.tuple ds) = true) : ds.length ≤ 1000 ∧ ∀ d ∈ ds, gd n d = true := by
  simp only [gd, Bool.and_eq_true, decide_eq_true_eq] at h
  exact ⟨h.2, gdAll_iff.mp h.1⟩
theorem gd_tup {n : Nat} {ds : List PyData} (h : ∀ d ∈ ds, gd n d = true) (hl : ds.length ≤ 1000) : gd (n + 1) (.tuple ds) = true := by
  simp only [gd, Bool.and_eq_true, decide_eq_true_eq]
  exact ⟨gdAll_iff.mpr h, hl⟩
theorem gd_lst {n : Nat} {ds : List PyData} (h : ∀ d ∈ ds, gd n d = true) (hl : ds.length ≤ 1000) : gd (n + 1) (.list ds) = true := by
  simp only [gd, Bool.and_eq_true, decide_eq_true_eq]
  exact ⟨gdAll_iff.mpr h, hl⟩
theorem gd_shaped {n : Nat} {d : PyData} (h : gd n d = true) (hn : n ≤ 64) : SeqAt.shaped d = true := by
  have q := gd_lay n d h
  show (d.canLay0 && decide (d.depth ≤ 64)) = true
  rw [q.1, decide_eq_true (Nat.le_trans q.2 hn)]
  rfl
/-! ### an own def as its callers see it -/
structure Own (P : Program) (w : World) (K : PySem.W.Frag) (mg : Str → Option Value) (base : Heap) (k : Nat) (x : Str) (ps : List Str) (sp : Sp) : Prop where
  ex : ∃ (f : Addr) (fd : FuncData), mg x = some (.ref f) ∧ PySem.W.keepIn K (.ref f) = true ∧ Binds K fd ps [] ∧ FnOk P w K mg base CX0 k f fd ps sp
section
variable {X : Cx} {k : Nat} {x : Str} {ps : List Str} {sp : Sp} {e : Expr} {es : List Expr} {t : TA} {p pos : Pos}
theorem pe_own (C : Own X.prog X.w X.K X.mg X.base k x ps sp) (hr : Room k X.A) (hg : Gl X x) (ha : PA X (e :: es) t) (hdb : (x == ("__debug__" : Str)) = false := by decide)
    (he : starEach (e :: es) X.env = (false, eval e X.env) :: starEach es X.env := by rfl) (hpl : (backTo pos (starEach es X.env)).any (·.1) = false := by rfl) : PE X (.Call (.Name x p) (e :: es) [] pos) (tCall sp [] E0 t) := by
  obtain ⟨f, fd, h1, h2, h3, h4⟩ := C.ex
  exact pe_call h4 hr hg h1 h2 h3 .nil pass0 ha hdb he hpl
end
/-! ### isinstance of data -/
def tyN : PyData → String
  | .none => "NoneType"
  | .bool _ => "bool"
  | .int _ => "int"
  | .str _ => "str"
  | .list _ => "list"
  | .tuple _ => "tuple"
  | .dict _ => "dict"
/-- isinstance of data, by the names of the types -/
def isB : String → String → Bool
  | a, b => a == b || (a == "bool" && b == "int")
def tyOk (T : String) : Bool := T == "str" || T == "int" || T == "bool" || T == "list" || T == "tuple" || T == "dict"
theorem kitB_all {d : PyData} {T : String} (h : tyOk T = true) : kitB (tyN d) T = some (isB (tyN d) T) := by
  simp only [tyOk, Bool.or_eq_true, beq_iff_eq] at h
  rcases h with ((((h | h) | h) | h) | h) | h <;> subst h <;> cases d <;> (simp only [tyN]; decide +kernel)
theorem dp_ty {K : PySem.W.Frag} {H : Hp} {v : V} {d : PyData} (h : Dp K H v d) : TyX K H v (.type (tyN d)) := by
  cases h with
  | non => exact .base .non
  | bl b => exact .base (.bl b)
  | int i => exact .base (.int i)
  | str x => exact .base (.str x)
  | lst hs ha =>
    rcases hs with (h | ⟨o, h⟩) | ⟨o, its, n, h1, h2, _⟩
    · exact .base (.lst h)
    · exact .base (.frz h)
    · exact .kList h1 h2
  | tup hs ha =>
    rcases hs with (h | ⟨o, h⟩) | ⟨o, its, n, h1, h2, _⟩
    · exact .base (.tup h)
    · exact .fTuple h
    · exact .kTuple h1 h2
def rIsD (K : PySem.W.Frag) : List V → Hp → VK → Prop := fun xs H Q => ∃ (x : V) (T : String) (d : PyData), xs = [x, .ty T] ∧ tyOk T = true ∧ Dp K H x d ∧ Q (.bl (isB (tyN d) T)) H
theorem call_isD {X : Cx} : CallR X (.builtin "isinstance") (rIsD X.K) := by
  intro pins s σ H xs us Q I r h
  obtain ⟨x, T, d, rfl, hT, hd, q⟩ := h
  exact call_isi pins s σ H _ us Q I r ⟨x, .ty T, _, _, _, rfl, .ty T, dp_ty hd, kit_ty (kitB_all hT), q⟩
section
variable {X : Cx} {e : Expr} {te : TE} {T : String} {y : Str} {p p2 pos : Pos}
theorem pe_isD (hg : Gl X "isinstance") (hm : X.mg "isinstance" = none) (hg2 : Gl X y) (hm2 : X.mg y = none) (ha : PE X e te)
    (hv : bootBuiltins y = some (.type T) := by decide +kernel) (hn : y ≠ "__name__" := by decide) (hd2 : (y == ("__debug__" : Str)) = false := by decide)
    (he : starEach (e :: [.Name y p2]) X.env = (false, eval e X.env) :: starEach [.Name y p2] X.env := by rfl) (hpl : (backTo pos (starEach [.Name y p2] X.env)).any (·.1) = false := by rfl) :
    PE X (.Call (.Name "isinstance" p) [e, .Name y p2] [] pos) (tCB (rIsD X.K) (tCons te (tCons (tC (.ty T)) tNil))) :=
  pe_callB (x := "isinstance") call_isD hg hm (by decide +kernel) (pa_cons ha (pa_cons (pe_bltn (v := .ty T) (pos := p2) hg2 hm2 hv rfl hn hd2) pa_nil) (hs := he)) (by decide) (by decide) he hpl
/-! ### in, not in: a tuple of data -/
def rInT (K : PySem.W.Frag) : R2 := fun x y H Q => ∃ d ds, Dp K H x d ∧ Dp K H y (.tuple ds) ∧ SeqAt.shaped d = true ∧ SeqAt.shaped (.tuple ds) = true ∧ Q (.bl (ds.any fun z => PyData.eqv z d)) H
def rNotInT (K : PySem.W.Frag) : R2 := fun x y H Q => ∃ d ds, Dp K H x d ∧ Dp K H y (.tuple ds) ∧ SeqAt.shaped d = true ∧ SeqAt.shaped (.tuple ds) = true ∧ Q (.bl (!ds.any fun z => PyData.eqv z d)) H
theorem room_shaped {n : Nat} {ds : List PyData} {d : PyData} (h : SeqAt.shaped d = true) (hu : n + 65 < cLine) : n + 1 + min (PyData.depthAll ds) d.depth < cLine := by
  have := SeqAt.depth_of_shaped h
  have := Nat.min_le_right (PyData.depthAll ds) d.depth
  omega
theorem op_inT (hu : X.A.units + 65 < cLine) : OpR X (compareOp .In) (rInT X.K) := by
  intro pins s σ H x y v u Q I rx ry h
  obtain ⟨d, ds, hd, he, sd, se, q⟩ := h
  obtain ⟨as, r1⟩ := Dp.reads I d x v hd rx
  obtain ⟨bs, r2⟩ := Dp.reads I (.tuple ds) y u he ry
  exact SeqAt.in_tuple_reads r2 r1 (SeqAt.canLay_of_shaped se) (SeqAt.canLay_of_shaped sd) (room_shaped sd hu) ⟨.bl _, H, I, rfl, q⟩
theorem op_notInT (hu : X.A.units + 65 < cLine) : OpR X (compareOp .NotIn) (rNotInT X.K) := by
  intro pins s σ H x y v u Q I rx ry h
  obtain ⟨d, ds, hd, he, sd, se, q⟩ := h
  obtain ⟨as, r1⟩ := Dp.reads I d x v hd rx
  obtain ⟨bs, r2⟩ := Dp.reads I (.tuple ds) y u he ry
  exact SeqAt.notIn_tuple_reads r2 r1 (SeqAt.canLay_of_shaped se) (SeqAt.canLay_of_shaped sd) (room_shaped sd hu) ⟨.bl _, H, I, rfl, q⟩
end
theorem hu65 {A : Around} {k : Nat} (hr : Room k A) : A.units + 65 < cLine := by have := hr.un; omega
/-! ### the source of draws -/
/-- the source at a: its script at L, ns -/
def Src (H : Hp) (a L : Addr) (ns : List Int) : Prop := ∃ i p st c : Int, H a = some (.lst [.ref L, .int i, .int p, .int st, .int c]) ∧ H L = some (.lst (ns.map V.int)) ∧ 0 ≤ i ∧ 0 ≤ st ∧ st < 2147483629
theorem Src.off {H H' : Hp} {a L b : Addr} {ns : List Int} (h : Src H a L ns) (hb : H b = none) (e : ∀ c, c ≠ b → H' c = H c) : Src H' a L ns := by
  obtain ⟨i, p, st, c, h1, h2, h3⟩ := h
  exact ⟨i, p, st, c, by rw [e a (ne_of_none h1 hb)]; exact h1, by rw [e L (ne_of_none h2 hb)]; exact h2, h3⟩
theorem Src.same {H H' : Hp} {a L : Addr} {ns : List Int} (h : Src H a L ns) (e : Same H H') : Src H' a L ns := by
  obtain ⟨i, p, st, c, h1, h2, h3⟩ := h
  exact ⟨i, p, st, c, e _ _ h1, e _ _ h2, h3⟩
def spSource (K : PySem.W.Frag) : Sp := fun vs H Q _ => ∃ (a : Addr) (ns : List Int), vs = [.ref a] ∧ SqL K H a (ns.map V.int) ∧ ns.length ≤ 63 ∧
  ∀ (H' : Hp) (p L : Addr), Same H H' → H p = none → H L = none → Src H' p L ns → Q (.ref p) H'
def spTake : Sp := fun vs H Q _ => ∃ (a L : Addr) (ns : List Int) (n : Int), vs = [.ref a, .int n] ∧ Src H a L ns ∧ 1 ≤ n ∧ n ≤ 1000000 ∧
  ∀ (H' : Hp) (d : Int), 0 ≤ d → d < n → Src H' a L ns → (∀ b, b ≠ a → H' b = H b) → Q (.int d) H'
def spPick : Sp := fun vs H Q _ => ∃ (a L r : Addr) (ns : List Int) (xs : List V), vs = [.ref a, .ref r] ∧ Src H a L ns ∧ r ≠ a ∧ H r = some (.lst xs) ∧ 0 < xs.length ∧ xs.length ≤ 1000 ∧
  ∀ (H' : Hp) (v : V), v ∈ xs → Src H' a L ns → (∀ b, b ≠ a → H' b = H b) → Q v H'
def spMixed : Sp := fun vs H Q _ => ∃ (a L r : Addr) (ns : List Int) (xs : List V), vs = [.ref a, .ref r] ∧ Src H a L ns ∧ r ≠ a ∧ H r = some (.lst xs) ∧ xs.length ≤ 1000 ∧
  ∀ (H' : Hp) (p : Addr) (ys : List V), ys.Perm xs → H p = none → H' p = some (.lst ys) → Src H' a L ns → (∀ b, b ≠ a → b ≠ p → H' b = H b) → Q (.ref p) H'
/-! ### list(text) -/
def signs (x : Str) : List V := x.cps.toList.map fun c => V.str ⟨#[c]⟩
theorem vals_signs {x : Str} {acc : Array Value} (h : ItemsOf (SignAt x) acc x.cps.size) : Vals (signs x) acc.toList := by
  have hs : acc.toList.length = x.cps.toList.length := by simpa using h.1
  have hi : ∀ (j : Nat) (v : Value), acc.toList[j]? = some v → ∃ c u, x.cps.toList[j]? = some c ∧ v = .str ⟨#[c]⟩ u := fun j v e => by
    obtain ⟨c, u, e1, e2⟩ := h.2 j v (by simpa using e)
    exact ⟨c, u, by simpa using e1, e2⟩
  unfold signs
  generalize acc.toList = us at hs hi
  generalize x.cps.toList = cs at hs hi
  induction cs generalizing us with
  | nil =>
    cases us with
    | nil => exact .nil
    | cons u us => simp at hs
  | cons c cs ih =>
    cases us with
    | nil => simp at hs
    | cons u us =>
      obtain ⟨c', t, e1, e2⟩ := hi 0 u rfl
      simp at e1
      subst e1
      refine .cons ⟨t, e2⟩ (ih us (by simpa using hs) fun j v e => ?_)
      obtain ⟨c', t, e1, e2⟩ := hi (j + 1) v (by simpa using e)
      exact ⟨c', t, by simpa using e1, e2⟩
section
variable {X : Cx}
theorem call_listStr (hh : X.A.handled = none) : CallR X (.type "list") (fun xs H Q => ∃ x : Str, xs = [.str x] ∧ x.cps.size ≤ sizeLine ∧ ∀ l, H l = none → Q (.ref l) (upd H l (.lst (signs x)))) := by
  intro pins s σ H xs us Q I r h
  obtain ⟨x, rfl, hz, q⟩ := h
  obtain ⟨u, rfl, rx⟩ := vals1 r
  obtain ⟨t, rfl⟩ := rx
  refine call_list_str hh x t (fun h' tk acc' c' kp e it => ?_) hz
  have rv := vals_signs it
  refine ⟨.ref s.heap.objs.size, _, I.laid (t' := tk) kp (Nat.le_refl _) (show ObjOk X.prog X.w _ h' _ (.lst (signs x)) from ⟨?_, acc'.toList, c', rv, ?_⟩), rfl, q _ (I.hok.fresh (Nat.le_refl _))⟩
  · unfold signs; rw [List.length_map, Array.length_toList]; exact hz
  · simpa using e
end
theorem atI_mem {xs : List V} {i : Int} (h0 : 0 ≤ i) (h : i < (xs.length : Nat)) : ∃ v, atI xs i = some v ∧ v ∈ xs := by
  have hk : i.toNat < xs.length := by omega
  have q : atI xs ((i.toNat : Nat) : Int) = some xs[i.toNat] := atI_nat (List.getElem?_eq_getElem hk)
  rw [show ((i.toNat : Nat) : Int) = i by omega] at q
  exact ⟨_, q, List.getElem_mem hk⟩
theorem le1000 {n : Nat} (h : n ≤ 1000) : n ≤ sizeLine := Nat.le_of_lt (small1000 h)
/-- the letters of a list of signs are texts of one sign of a to h -/
def lett (v : V) : Prop := v ∈ signs "abcdefgh"
theorem lett_data {v : V} (h : lett v) : ∃ x : Str, v = .str x ∧ x ∈ (["a", "b", "c", "d", "e", "f", "g", "h"] : List Str) := by
  have e : signs "abcdefgh" = (["a", "b", "c", "d", "e", "f", "g", "h"] : List Str).map V.str := by decide +kernel
  unfold lett at h
  rw [e] at h
  obtain ⟨x, hx, rfl⟩ := List.mem_map.mp h
  exact ⟨x, rfl, hx⟩
def spSigns : Sp := fun vs H Q _ => ∃ (a L : Addr) (ns : List Int) (n : Int), vs = [.ref a, .int n] ∧ Src H a L ns ∧ 1 ≤ n ∧ n ≤ 8 ∧
  ∀ (H' : Hp) (p : Addr) (ys : List V), 0 < ys.length → ys.length ≤ n → (∀ y ∈ ys, lett y) → ys.Nodup → H p = none → H' p = some (.lst ys) → Src H' a L ns → SmX [a] H H' → Q (.ref p) H'
theorem cut_take (xs : List V) {n : Int} (h : 0 ≤ n) : cutV xs none (some n) = xs.take n.toNat := by
  unfold cutV
  rw [HT.sIx_none, show HT.sIx xs.length xs.length (some n) = min n.toNat xs.length by
    have := HT.sIx_nat xs.length xs.length n.toNat
    rw [show ((n.toNat : Nat) : Int) = n by omega] at this
    exact this]
  rw [List.drop_zero, Nat.sub_zero]
  rcases Nat.le_total n.toNat xs.length with q | q
  · rw [Nat.min_eq_left q]
  · rw [Nat.min_eq_right q, List.take_of_length_le (Nat.le_refl _), List.take_of_length_le q]
theorem cut_drop1 (xs : List V) : cutV xs (some 1) none = xs.drop 1 := by
  unfold cutV
  rw [show HT.sIx xs.length 0 (some 1) = min 1 xs.length from HT.sIx_nat xs.length 0 1, HT.sIx_none]
  cases xs with
  | nil => rfl
  | cons x r =>
    rw [show min 1 (x :: r).length = 1 by
      rw [List.length_cons]
      omega]
    show (List.take ((x :: r).length - 1) r) = r
    rw [List.length_cons, Nat.add_sub_cancel]
    exact List.take_length
/-! ### measures of data -/
def isL (s : Str) : Bool := decide (V.int (s.length : Nat) = V.int 1) && !(Builtin.Str.occurrences "abcdefgh" s 0 (Str.length "abcdefgh") 1).isEmpty
def isLd : PyData → Bool
  | .str s => isL s
  | _ => false
def isOp (o : PyData) : Bool := ([PyData.str "&", .str "|"] : List PyData).any fun z => PyData.eqv z o
def isCd : PyData → Bool
  | .tuple (o :: ds) => decide (2 ≤ ds.length) && isOp o
  | _ => false
def parts : PyData → List PyData
  | .tuple (_ :: ds) => ds
  | _ => []
def measL (f : PyData → Int → Option (Int × Int)) : List PyData → Int → Int → Int → Option (Int × Int)
  | [], _, dp, tot => some (dp + 1, tot)
  | d :: ds, ms, dp, tot => match f d (ms - tot) with
    | none => none
    | some (a, b) => measL f ds ms (if a > dp then a else dp) (tot + b)
def meas : Nat → PyData → Int → Option (Int × Int)
  | 0, _, _ => none
  | n + 1, d, ms => if ms < 1 then none else if isLd d = true then some (1, 1) else if isCd d = true then measL (meas n) (parts d) ms 0 0 else none
def lmeas : Nat → PyData → Int
  | 0, _ => 0
  | n + 1, d => if isLd d = true then 1 else if isCd d = true then (if (0 : Int) ∈ (parts d).map (lmeas n) then 0 else ((parts d).map (lmeas n)).sum) else 0
theorem sum_nonneg : ∀ {l : List Int}, (∀ x ∈ l, 0 ≤ x) → 0 ≤ l.sum
  | [], _ => by simp
  | x :: l, h => by
    rw [List.sum_cons]
    have := h x (List.mem_cons_self ..)
    have := sum_nonneg (l := l) fun y hy => h y (List.mem_cons_of_mem _ hy)
    omega
theorem lmeas_nonneg : ∀ (n : Nat) (d : PyData), 0 ≤ lmeas n d
  | 0, _ => by simp [lmeas]
  | n + 1, d => by
    unfold lmeas
    split
    · decide
    · split
      · split
        · decide
        · exact sum_nonneg fun x hx => by
            obtain ⟨d', _, rfl⟩ := List.mem_map.mp hx
            exact lmeas_nonneg n d'
      · decide
theorem measL_iff {f : PyData → Int → Option (Int × Int)} {g : PyData → Int} (hg : ∀ d, 0 ≤ g d)
    (hf : ∀ d ms, (f d ms = none ∧ ¬ (1 ≤ g d ∧ g d ≤ ms)) ∨ (∃ dp, f d ms = some (dp, g d) ∧ 1 ≤ g d ∧ g d ≤ ms)) :
    ∀ (ds : List PyData) (ms dp tot : Int), tot ≤ ms →
      (measL f ds ms dp tot = none ∧ ¬ ((∀ d ∈ ds, 1 ≤ g d) ∧ tot + (ds.map g).sum ≤ ms)) ∨ (∃ dp', measL f ds ms dp tot = some (dp', tot + (ds.map g).sum) ∧ (∀ d ∈ ds, 1 ≤ g d) ∧ tot + (ds.map g).sum ≤ ms)
  | [], ms, dp, tot, h => by
    refine .inr ⟨dp + 1, ?_, by simp, by simpa using h⟩
    simp [measL]
  | d :: ds, ms, dp, tot, h => by
    have hs : 0 ≤ (ds.map g).sum := sum_nonneg fun x hx => by
      obtain ⟨d', _, rfl⟩ := List.mem_map.mp hx
      exact hg d'
    rw [List.map_cons, List.sum_cons]
    rcases hf d (ms - tot) with ⟨e, ne⟩ | ⟨a, e, e1, e2⟩
    · refine .inl ⟨by simp only [measL, e], fun ⟨q1, q2⟩ => ne ⟨q1 d (List.mem_cons_self ..), by omega⟩⟩
    · have st : measL f (d :: ds) ms dp tot = measL f ds ms (if a > dp then a else dp) (tot + g d) := by simp only [measL, e]
      rw [st]
      rcases measL_iff hg hf ds ms (if a > dp then a else dp) (tot + g d) (by omega) with ⟨e', ne⟩ | ⟨dp', e', q1, q2⟩
      · refine .inl ⟨e', fun ⟨q1, q2⟩ => ne ⟨fun x hx => q1 x (List.mem_cons_of_mem _ hx), by omega⟩⟩
      · refine .inr ⟨dp', by rw [e', Int.add_assoc], fun x hx => ?_, by omega⟩
        rcases List.mem_cons.mp hx with e | hx
        · rw [e]; exact e1
        · exact q1 x hx
theorem meas_iff : ∀ (n : Nat) (d : PyData) (ms : Int), (meas n d ms = none ∧ ¬ (1 ≤ lmeas n d ∧ lmeas n d ≤ ms)) ∨ (∃ dp, meas n d ms = some (dp, lmeas n d) ∧ 1 ≤ lmeas n d ∧ lmeas n d ≤ ms)
  | 0, d, ms => .inl ⟨rfl, fun h => by simp only [lmeas] at h; omega⟩
  | n + 1, d, ms => by
    have hn := lmeas_nonneg (n + 1) d
    unfold meas
    by_cases h1 : ms < 1
    · rw [if_pos h1]
      exact .inl ⟨rfl, fun h => by omega⟩
    · rw [if_neg h1]
      unfold lmeas
      by_cases h2 : isLd d = true
      · rw [if_pos h2, if_pos h2]
        exact .inr ⟨1, rfl, by decide, by omega⟩
      · rw [if_neg h2, if_neg h2]
        by_cases h3 : isCd d = true
        · rw [if_pos h3, if_pos h3]
          have q := measL_iff (g := lmeas n) (lmeas_nonneg n) (meas_iff n) (parts d) ms 0 0 (by omega)
          rw [Int.zero_add] at q
          by_cases h4 : (0 : Int) ∈ (parts d).map (lmeas n)
          · rw [if_pos h4]
            rcases q with ⟨e, _⟩ | ⟨dp, e, q1, _⟩
            · exact .inl ⟨e, fun h => by omega⟩
            · obtain ⟨x, hx, e0⟩ := List.mem_map.mp h4
              have := q1 x hx
              omega
          · rw [if_neg h4]
            have all1 : ∀ x ∈ parts d, 1 ≤ lmeas n x := fun x hx => by
              have z := lmeas_nonneg n x
              rcases Int.lt_or_eq_of_le z with z | z
              · omega
              · exact absurd (List.mem_map.mpr ⟨x, hx, z.symm⟩) h4
            rcases q with ⟨e, ne⟩ | ⟨dp, e, q1, q2⟩
            · exact .inl ⟨e, fun h => ne ⟨all1, h.2⟩⟩
            · refine .inr ⟨dp, e, ?_, q2⟩
              have hp : parts d ≠ [] := by
                cases d with
                | tuple ds =>
                  cases ds with
                  | nil => cases h3
                  | cons o ds =>
                    intro e0
                    simp only [parts] at e0
                    rw [e0] at h3
                    simp [isCd] at h3
                | _ => cases h3
              cases hd : parts d with
              | nil => exact absurd hd hp
              | cons x r =>
                rw [hd] at all1
                rw [List.map_cons, List.sum_cons]
                have := all1 x (List.mem_cons_self ..)
                have := sum_nonneg (l := r.map (lmeas n)) fun y hy => by
                  obtain ⟨d', _, rfl⟩ := List.mem_map.mp hy
                  exact lmeas_nonneg n d'
                omega
        · rw [if_neg h3, if_neg h3]
          exact .inl ⟨rfl, fun h => by omega⟩
/-- the two measures agree -/
theorem meas_some (n : Nat) (d : PyData) (ms : Int) : (meas n d ms).isSome = (decide (1 ≤ lmeas n d) && decide (lmeas n d ≤ ms)) := by
  rcases meas_iff n d ms with ⟨e, ne⟩ | ⟨dp, e, h1, h2⟩
  · rw [e]
    by_cases a : 1 ≤ lmeas n d
    · have b : ¬ lmeas n d ≤ ms := fun z => ne ⟨a, z⟩
      simp [b]
    · simp [a]
  · rw [e]; simp [h1, h2]
/-! ### contracts -/
/-- plain data at v: nested at most 20 deep -/
def spIsLetter (K : PySem.W.Frag) : Sp := fun vs H Q _ => ∃ (v : V) (d : PyData), vs = [v] ∧ Dp K H v d ∧ gd 20 d = true ∧ Q (.bl (isLd d)) H
def spIsCompound (K : PySem.W.Frag) : Sp := fun vs H Q _ => ∃ (v : V) (d : PyData), vs = [v] ∧ Dp K H v d ∧ gd 20 d = true ∧ Q (.bl (isCd d)) H
def spMeas (K : PySem.W.Frag) (n : Nat) : Sp := fun vs H Q _ => ∃ (v : V) (d : PyData) (md ms : Int), vs = [v, .int md, .int ms] ∧ Dp K H v d ∧ gd 20 d = true ∧ 0 ≤ md ∧ md < n ∧
  (meas md.toNat d ms = none → ∀ H', Same H H' → Q .non H') ∧ (∀ dp sz, meas md.toNat d ms = some (dp, sz) → ∀ (H' : Hp) (p : Addr), Same H H' → H' p = some (.tup [.int dp, .int sz]) → Q (.ref p) H')
def spIsTerm (K : PySem.W.Frag) : Sp := fun vs H Q _ => ∃ (v : V) (d : PyData) (md ms : Int), vs = [v, .int md, .int ms] ∧ Dp K H v d ∧ gd 20 d = true ∧ 0 ≤ md ∧ md < 20 ∧
  ∀ H', Same H H' → Q (.bl (meas md.toNat d ms).isSome) H'
def spMeasure (K : PySem.W.Frag) (n : Nat) : Sp := fun vs H Q _ => ∃ (v : V) (d : PyData) (md : Int), vs = [v, .int md] ∧ Dp K H v d ∧ gd 20 d = true ∧ 0 ≤ md ∧ md < n ∧
  ∀ H', Same H H' → Q (.int (lmeas md.toNat d)) H'
def spFits (K : PySem.W.Frag) : Sp := fun vs H Q _ => ∃ (v : V) (d : PyData), vs = [v] ∧ Dp K H v d ∧ gd 20 d = true ∧
  ∀ H', Same H H' → Q (.bl (decide (1 ≤ lmeas 5 d) && decide (lmeas 5 d ≤ 24))) H'
theorem gd_parts {n : Nat} {o : PyData} {ds : List PyData} (h : gd (n + 1) (.tuple (o :: ds)) = true) : gd n o = true ∧ ∀ d ∈ ds, gd n d = true := by
  have q := (gd_tuple h).2
  exact ⟨q o (List.mem_cons_self ..), fun d hd => q d (List.mem_cons_of_mem _ hd)⟩
theorem drop_cons_get {α : Type} {l : List α} {i : Nat} {x : α} (h : l[i]? = some x) : l.drop i = x :: l.drop (i + 1) := by
  obtain ⟨hi, e⟩ := List.getElem?_eq_some_iff.mp h
  rw [List.drop_eq_getElem_cons hi, e]
theorem dropHead {vs : List V} {ds : List PyData} {K : PySem.W.Frag} {H : Hp} (h : DpAll K H vs ds) : DpAll K H (vs.drop 1) (ds.drop 1) := dpAll_drop 1 h
theorem isOp_str : isOp (.str "&") = true ∧ isOp (.str "|") = true := by decide +kernel
/-! ### own defs with defaults, called with and without keywords -/
structure OwnD (P : Program) (w : World) (K : PySem.W.Frag) (mg : Str → Option Value) (base : Heap) (k : Nat) (x : Str) (ps : List Str) (dvs : List V) (sp : Sp) : Prop where
  ex : ∃ (f : Addr) (fd : FuncData) (ds : List Value), mg x = some (.ref f) ∧ PySem.W.keepIn K (.ref f) = true ∧ Binds K fd ps ds ∧ Vals dvs ds ∧ FnOk P w K mg base CX0 k f fd ps sp
structure OwnK (P : Program) (w : World) (K : PySem.W.Frag) (mg : Str → Option Value) (base : Heap) (k : Nat) (x : Str) (ps : List Str) (n : Nat) (ks : List Str) (gV : List V → List V → List V) (sp : Sp) : Prop where
  ex : ∃ (f : Addr) (fd : FuncData) (g : List Value → List Value → List Value), mg x = some (.ref f) ∧ PySem.W.keepIn K (.ref f) = true ∧ KBn K fd ps n ks g gV ∧ FnOk P w K mg base CX0 k f fd ps sp
section
variable {X : Cx} {k n : Nat} {x : Str} {ps ks : List Str} {dvs : List V} {gV : List V → List V → List V} {sp : Sp} {e : Expr} {es : List Expr} {t tk : TA} {p pos : Pos} {kws : List Keyword}
theorem pe_ownD (C : OwnD X.prog X.w X.K X.mg X.base k x ps dvs sp) (hr : Room k X.A) (hg : Gl X x) (ha : PA X (e :: es) t) (hdb : (x == ("__debug__" : Str)) = false := by decide)
    (he : starEach (e :: es) X.env = (false, eval e X.env) :: starEach es X.env := by rfl) (hpl : (backTo pos (starEach es X.env)).any (·.1) = false := by rfl) : PE X (.Call (.Name x p) (e :: es) [] pos) (tCall sp dvs E0 t) := by
  obtain ⟨f, fd, ds, h1, h2, h3, h4, h5⟩ := C.ex
  exact pe_call h5 hr hg h1 h2 h3 h4 pass0 ha hdb he hpl
theorem pe_ownK (C : OwnK X.prog X.w X.K X.mg X.base k x ps n ks gV sp) (hr : Room k X.A) (hg : Gl X x) (ha : PA X (e :: es) t) (hkw : PK X kws tk)
    (hall : (backToKw pos (keywordEach kws X.env)).all (·.1.isSome) = true := by rfl) (hks : (backToKw pos (keywordEach kws X.env)).filterMap (·.1) = ks := by rfl)
    (hdb : (x == ("__debug__" : Str)) = false := by decide) (he : starEach (e :: es) X.env = (false, eval e X.env) :: starEach es X.env := by rfl)
    (hpl : ((backTo pos (starEach (e :: es) X.env)).any (·.1) || (backToKw pos (keywordEach kws X.env)).any (·.1.isNone)) = false := by rfl) :
    PE X (.Call (.Name x p) (e :: es) kws pos) (tCallN n ks.length sp gV E0 t tk) := by
  obtain ⟨f, fd, g, h1, h2, h3, h4⟩ := C.ex
  exact pe_callN h4 hr hg h1 h2 h3 pass0 ha hkw hall hks hdb he hpl
/-- no positional value -/
theorem pe_ownK0 (C : OwnK X.prog X.w X.K X.mg X.base k x ps 0 ks gV sp) (hr : Room k X.A) (hg : Gl X x) (hkw : PK X kws tk)
    (hall : (backToKw pos (keywordEach kws X.env)).all (·.1.isSome) = true := by rfl) (hks : (backToKw pos (keywordEach kws X.env)).filterMap (·.1) = ks := by rfl)
    (hdb : (x == ("__debug__" : Str)) = false := by decide)
    (hpl : ((backTo pos (starEach [] X.env)).any (·.1) || (backToKw pos (keywordEach kws X.env)).any (·.1.isNone)) = false := by rfl) :
    PE X (.Call (.Name x p) [] kws pos) (tCallN 0 ks.length sp gV E0 tNil tk) := by
  obtain ⟨f, fd, g, h1, h2, h3, h4⟩ := C.ex
  refine ⟨fun pins s σ H Q I h => ?_⟩
  refine wpAny_Call_Name_kw (ld_glob I hg h1 ?_ hdb)
  refine PySem.W.callWith_KW0 (h₀ := X.base) I.ok.mod.kin h2 hall ?_ hpl
  refine thn (hkw.run pos pins s σ H _ I h) fun ws s2 ⟨zs, H2, I2, rz, l1, l2, q2⟩ => ⟨I2.kIn, ?_⟩
  rw [hks]
  exact run_fnN h4 hr h3 pass0 I2 .nil rz l1 l2 q2
end
/-! ### what is tracked; values that are plain data apart from M -/
def Trk (M : List Addr) (H : Hp) : Prop := ∀ b ∈ M, ∃ o, H b = some o
theorem Trk.same {M : List Addr} {H H' : Hp} (h : Trk M H) (s : Same H H') : Trk M H' := fun b hb => by
  obtain ⟨o, e⟩ := h b hb
  exact ⟨o, s _ _ e⟩
theorem Trk.smx {M N : List Addr} {H H' : Hp} (h : Trk M H) (s : SmX N H H') (hN : Trk N H') : Trk M H' := fun b hb => by
  by_cases m : b ∈ N
  · exact hN b m
  · obtain ⟨o, e⟩ := h b hb
    exact ⟨o, s _ _ m e⟩
theorem Trk.ne {M : List Addr} {H : Hp} (h : Trk M H) {p : Addr} (np : H p = none) : p ∉ M := fun hp => by
  obtain ⟨o, e⟩ := h p hp
  rw [np] at e
  cases e
theorem hid_new {M : List Addr} {H : Hp} {p : Addr} {o : HO} (np : H p = none) : Same (hide M H) (hide M (upd H p o)) := (SmX.new np).hid
theorem hid_at {M : List Addr} {H : Hp} (h : Trk M H) {p : Addr} {o : HO} (np : H p = none) : hide M (upd H p o) p = some o := by
  rw [hide_ne (h.ne np), upd_same]
def GV (K : PySem.W.Frag) (n : Nat) (M : List Addr) (H : Hp) (v : V) : Prop := ∃ d, Dp K (hide M H) v d ∧ gd n d = true
theorem GV.same {K : PySem.W.Frag} {n : Nat} {M : List Addr} {H H' : Hp} {v : V} (g : GV K n M H v) (s : Same H H') : GV K n M H' v := by
  obtain ⟨d, h1, h2⟩ := g
  exact ⟨d, dp_same (SmX.of_same s).hid d v h1, h2⟩
theorem GV.up {K : PySem.W.Frag} {n m : Nat} {M : List Addr} {H : Hp} {v : V} (g : GV K n M H v) (h : n ≤ m) : GV K m M H v := by
  obtain ⟨d, h1, h2⟩ := g
  exact ⟨d, h1, gd_le h2 h⟩
theorem GV.str {K : PySem.W.Frag} {n : Nat} {M : List Addr} {H : Hp} {x : Str} (h : gd 0 (.str x) = true) : GV K n M H (.str x) := ⟨_, .str x, gd_le h (Nat.zero_le _)⟩
theorem GV.int {K : PySem.W.Frag} {n : Nat} {M : List Addr} {H : Hp} (i : Int) : GV K n M H (.int i) := ⟨_, .int i, gd_le (n := 0) rfl (Nat.zero_le _)⟩
theorem GV.bl {K : PySem.W.Frag} {n : Nat} {M : List Addr} {H : Hp} (b : Bool) : GV K n M H (.bl b) := ⟨_, .bl b, gd_le (n := 0) rfl (Nat.zero_le _)⟩
theorem GV.non {K : PySem.W.Frag} {n : Nat} {M : List Addr} {H : Hp} : GV K n M H .non := ⟨_, .non, gd_le (n := 0) rfl (Nat.zero_le _)⟩
theorem gv_all {K : PySem.W.Frag} {n : Nat} {M : List Addr} {H : Hp} : ∀ {xs : List V}, (∀ x ∈ xs, GV K n M H x) → ∃ ds, DpAll K (hide M H) xs ds ∧ ∀ d ∈ ds, gd n d = true
  | [], _ => ⟨[], .nil, fun d h => nomatch h⟩
  | x :: xs, h => by
    obtain ⟨d, h1, h2⟩ := h x (List.mem_cons_self ..)
    obtain ⟨ds, h3, h4⟩ := gv_all (xs := xs) fun y hy => h y (List.mem_cons_of_mem _ hy)
    refine ⟨d :: ds, .cons h1 h3, fun e he => ?_⟩
    rcases List.mem_cons.mp he with z | z
    · rw [z]; exact h2
    · exact h4 e z
theorem GV.tup {K : PySem.W.Frag} {n : Nat} {M : List Addr} {H : Hp} {p : Addr} {xs : List V} (hM : Trk M H) (np : H p = none) (h : ∀ x ∈ xs, GV K n M H x) (hl : xs.length ≤ 1000 := by decide) : GV K (n + 1) M (upd H p (.tup xs)) (.ref p) := by
  obtain ⟨ds, h1, h2⟩ := gv_all h
  exact ⟨.tuple ds, .tup (SqT.of (hid_at hM np)) (dpAll_same (hid_new np) _ _ h1), gd_tup h2 (by rw [← dpAll_len h1]; exact hl)⟩
theorem GV.lst {K : PySem.W.Frag} {n : Nat} {M : List Addr} {H : Hp} {p : Addr} {xs : List V} (hM : Trk M H) (np : H p = none) (h : ∀ x ∈ xs, GV K n M H x) (hl : xs.length ≤ 1000 := by decide) : GV K (n + 1) M (upd H p (.lst xs)) (.ref p) := by
  obtain ⟨ds, h1, h2⟩ := gv_all h
  exact ⟨.list ds, .lst (SqL.of (hid_at hM np)) (dpAll_same (hid_new np) _ _ h1), gd_lst h2 (by rw [← dpAll_len h1]; exact hl)⟩
theorem Src.trk {H : Hp} {a L : Addr} {ns : List Int} (h : Src H a L ns) : Trk [a] H := fun b hb => by
  obtain ⟨_, _, _, _, e, _⟩ := h
  rw [List.mem_singleton.mp hb]
  exact ⟨_, e⟩
theorem Src.ne {H : Hp} {a L p : Addr} {ns : List Int} (h : Src H a L ns) (np : H p = none) : a ≠ p := by
  obtain ⟨_, _, _, _, e, _⟩ := h
  exact ne_of_none e np
theorem Src.put {H : Hp} {a L p : Addr} {ns : List Int} {o : HO} (h : Src H a L ns) (pa : p ≠ a) (pL : p ≠ L) : Src (upd H p o) a L ns := by
  obtain ⟨i, q, st, c, h1, h2, h3⟩ := h
  exact ⟨i, q, st, c, by rw [upd_ne pa.symm]; exact h1, by rw [upd_ne pL.symm]; exact h2, h3⟩
theorem Src.new {H : Hp} {a L p : Addr} {ns : List Int} {o : HO} (h : Src H a L ns) (np : H p = none) : Src (upd H p o) a L ns := h.same (same_upd np)
/-- the term that is drawn: its data d, its depth at most n, its size by the room that was used -/
def spTerm (K : PySem.W.Frag) (n : Nat) : Sp := fun vs H Q _ => ∃ (a L sg r : Addr) (ns : List Int) (deep m : Int) (ys : List V) (M : List Addr), vs = [.ref a, .ref sg, .int deep, .ref r] ∧ Src H a L ns ∧
  H sg = some (.lst ys) ∧ 0 < ys.length ∧ ys.length ≤ 8 ∧ (∀ y ∈ ys, lett y) ∧ H r = some (.lst [.int m]) ∧ sg ≠ a ∧ sg ≠ r ∧ r ≠ a ∧ r ≠ L ∧ 0 ≤ m ∧ m ≤ 1000 ∧ 1 ≤ deep ∧ deep ≤ n ∧ a ∈ M ∧ r ∈ M ∧ Trk M H ∧
  ∀ (H' : Hp) (v : V) (d : PyData) (m' : Int), Dp K (hide M H') v d → lmeas deep.toNat d = m - m' + 1 → 0 ≤ m' → m' ≤ m → gd deep.toNat d = true → Src H' a L ns → H' r = some (.lst [.int m']) → SmX [a, r] H H' → Q v H'
def spAnyTerm (K : PySem.W.Frag) : Sp := fun vs H Q _ => ∃ (a L : Addr) (ns : List Int) (M : List Addr), vs = [.ref a] ∧ Src H a L ns ∧ a ∈ M ∧ Trk M H ∧
  ∀ (H' : Hp) (v : V) (d : PyData) (n : Nat), Dp K (hide M H') v d → 1 ≤ n → n ≤ 5 → 1 ≤ lmeas n d → lmeas n d ≤ 24 → gd n d = true → Src H' a L ns → SmX [a] H H' → Q v H'
def nestD : Nat → PyData
  | 0 => .str "a"
  | n + 1 => .tuple [.str (if n % 2 = 0 then "&" else "|"), nestD n, .str "b"]
def spNest (K : PySem.W.Frag) : Sp := fun vs H Q _ => ∃ (n : Nat) (M : List Addr), vs = [.int (n : Nat)] ∧ n ≤ 12 ∧ Trk M H ∧
  ∀ (H' : Hp) (v : V), Dp K (hide M H') v (nestD n) → Same H H' → Q v H'
def spOdd (K : PySem.W.Frag) : Sp := fun vs H Q _ => ∃ (a L : Addr) (ns : List Int) (v : V) (M : List Addr), vs = [.ref a, v] ∧ Src H a L ns ∧ GV K 5 M H v ∧ a ∈ M ∧ Trk M H ∧
  ∀ (H' : Hp) (v' : V), GV K 12 M H' v' → Src H' a L ns → SmX [a] H H' → Q v' H'
theorem isL_lett {x : Str} (h : x ∈ (["a", "b", "c", "d", "e", "f", "g", "h"] : List Str)) : isL x = true ∧ gd 0 (.str x) = true := by
  have q : ∀ x ∈ (["a", "b", "c", "d", "e", "f", "g", "h"] : List Str), isL x = true ∧ gd 0 (.str x) = true := by decide +kernel
  exact q x h
theorem nest_gd : ∀ n : Nat, gd n (nestD n) = true
  | 0 => by decide +kernel
  | n + 1 => gd_tup (fun d hd => by
      rcases List.mem_cons.mp hd with e | hd
      · rw [e]
        refine gd_le (n := 0) ?_ (Nat.zero_le _)
        split <;> decide +kernel
      · rcases List.mem_cons.mp hd with e | hd
        · rw [e]; exact nest_gd n
        · rw [List.mem_singleton.mp hd]
          exact gd_le (n := 0) (by decide +kernel) (Nat.zero_le _)) (by show 3 ≤ 1000; decide)
/-- a term made of parts -/
theorem lmeas_tup {n : Nat} {op : Str} {ds : List PyData} {t : Int} (ho : isOp (.str op) = true) (h2 : 2 ≤ ds.length) (h1 : ∀ d ∈ ds, 1 ≤ lmeas n d) (hs : (ds.map (lmeas n)).sum = t) : lmeas (n + 1) (.tuple (.str op :: ds)) = t := by
  have e : lmeas (n + 1) (.tuple (.str op :: ds)) = if (decide (2 ≤ ds.length) && isOp (.str op)) = true then (if (0 : Int) ∈ ds.map (lmeas n) then 0 else (ds.map (lmeas n)).sum) else 0 := by
    show (if false = true then _ else _) = _
    rw [if_neg (fun z => by cases z)]
    rfl
  rw [e, ho, decide_eq_true h2, Bool.and_self, if_pos rfl, if_neg, hs]
  intro z
  obtain ⟨d, hd, e⟩ := List.mem_map.mp z
  have := h1 d hd
  omega
def topS (i : Nat) : Stmt := PySem.Challenge.pw_fivefault_k01_values_that_are_terms.main.body.getD i (.Pass ⟨0, 0, 0, 0⟩)
-- top 13  slots: 0:_law_source_here 1:_law_many 2:_law_cell 3:_law_digit 4:_law_mixed_here
abbrev s_law_take : Stmt := topS 13
abbrev N_law_take : List Str := ["_law_source_here", "_law_many", "_law_cell", "_law_digit", "_law_mixed_here"]
theorem sc_law_take : FnScope N_law_take ["_law_source_here", "_law_many"] (defScope s_law_take) := ⟨rfl, rfl, rfl, by decide +kernel, rfl, by decide +kernel, by decide +kernel⟩

theorem at_int {ns : List Int} {i : Int} (h0 : 0 ≤ i) (h : i < ((ns.map V.int).length : Nat)) : ∃ v : Int, atI (ns.map V.int) i = some (.int v) := by
  rw [List.length_map] at h
  have hk : i.toNat < ns.length := by omega
  have q : atI (ns.map V.int) ((i.toNat : Nat) : Int) = some (.int ns[i.toNat]) := atI_nat (by rw [List.getElem?_map, List.getElem?_eq_getElem hk] <;> rfl)
  rw [show ((i.toNat : Nat) : Int) = i by omega] at q
  exact ⟨_, q⟩
def zz (st c : Int) : Int := (((st * st) % 2147483629 + 40507 * (c + 1)) * 48271 + st + 17) % 2147483629
theorem pos1 : (0 : Int) < 2147483587 := by decide
theorem pos2 : (0 : Int) < 2147483629 := by decide
theorem pos3 : (0 : Int) < 8191 := by decide
section
variable {P : Program} {w : World} {K : PySem.W.Frag} {mg : Str → Option Value} {base : Heap}
theorem ok_take {f : Addr} {fd : FuncData} {k : Nat} (F : Fun K "_law_take" "_law_take" s_law_take f fd) (m_len : mg "len" = none) (m_int : mg "int" = none) :
    FnOk P w K mg base CX0 (k + 1) f fd ["_law_source_here", "_law_many"] spTake := by
  refine F.ok sc_law_take (fun vs H Q E h => ?_) (fun cdv A outer s H vs Q E hr h => ?_)
  · obtain ⟨a, L, ns, n, rfl, _⟩ := h
    rfl
  · obtain ⟨a, L, ns, n, rfl, ⟨i, p, st, c, hA, hL, h0, h1, h2⟩, n1, n2, q⟩ := h
    have aL : L ≠ a := fun e => by
      rw [e, hA] at hL
      cases ns with
      | nil => cases hL
      | cons x r => cases hL
    refine ⟨_, (C8.pss_cut (ps_if (PW.pt (pw_and (pt_cmpR op_eq (pe_ix ix_list (pv 0) pe_int (fun _ _ => rfl)) pe_int (nomark _)) (pw_and1 (pt_cmpR op_lt (pe_ix ix_list (pv 0) pe_int (fun _ _ => rfl)) (pe_callB call_len_seq (by rfl) m_len (by decide +kernel) (pa_cons (pe_ix ix_list (pv 0) pe_int (fun _ _ => rfl)) pa_nil)) (nomark _)))))
        (pss_cons (ps_set (i := 2) sc_law_take.nd rfl (by first | exact .inl rfl | exact .inr rfl) (pe_ix ix_list (pe_ix ix_list (pv 0) pe_int (fun _ _ => rfl)) (pe_ix ix_list (pv 0) pe_int (fun _ _ => rfl)) (fun _ _ => rfl)))
        (pss_cons (ps_asg (pe_op op_add (pe_ix ix_list (pv 0) pe_int (fun _ _ => rfl)) pe_int) (pg_sub (pv 0) pe_int set_list))
        (pss_one (ps_if (pt_cmpR op_ge (pv 2) (pe_op op_pow pe_int pe_int) (nomark _))
          (pss_one (ps_asg (pv 2) (pg_sub (pv 0) pe_int set_list)))
          (pss_one (ps_asg (pe_op op_mod (pe_callTy call_int1 (by rfl) m_int (by decide +kernel) (pa_cons (pe_op op_add (pe_op op_add (pe_op op_mul (pe_ix ix_list (pv 0) pe_int (fun _ _ => rfl)) pe_int) (pe_op op_mul (pe_op op_mod (pe_callTy call_int1 (by rfl) m_int (by decide +kernel) (pa_cons (pv 2) pa_nil)) pe_int) pe_int)) pe_int) pa_nil)) pe_int) (pg_sub (pv 0) pe_int set_list)))))))
        pss_nil)
      (pss_cons (ps_if (pt_cmpR op_gt (pe_ix ix_list (pv 0) pe_int (fun _ _ => rfl)) pe_int (nomark _))
        (pss_cons (ps_set (i := 3) sc_law_take.nd rfl (by first | exact .inl rfl | exact .inr rfl) (pe_op op_mod (pe_callTy call_int1 (by rfl) m_int (by decide +kernel) (pa_cons (pe_ix ix_list (pv 0) pe_int (fun _ _ => rfl)) pa_nil)) (pv 1)))
        (pss_cons (ps_asg (pe_op op_fdiv (pe_ix ix_list (pv 0) pe_int (fun _ _ => rfl)) (pv 1)) (pg_sub (pv 0) pe_int set_list))
        (pss_one (ps_ret (pv 3)))))
        pss_nil)
      (pss_cons (ps_asg (pe_op op_add (pe_ix ix_list (pv 0) pe_int (fun _ _ => rfl)) pe_int) (pg_sub (pv 0) pe_int set_list))
      (pss_cons (ps_set (i := 4) sc_law_take.nd rfl (by first | exact .inl rfl | exact .inr rfl) (pe_op op_add (pe_op op_mod (pe_callTy call_int1 (by rfl) m_int (by decide +kernel) (pa_cons (pe_op op_mul (pe_ix ix_list (pv 0) pe_int (fun _ _ => rfl)) (pe_ix ix_list (pv 0) pe_int (fun _ _ => rfl))) pa_nil)) pe_int) (pe_op op_mul pe_int (pe_ix ix_list (pv 0) pe_int (fun _ _ => rfl)))))
      (pss_cons (ps_asg (pe_op op_mod (pe_callTy call_int1 (by rfl) m_int (by decide +kernel) (pa_cons (pe_op op_add (pe_op op_add (pe_op op_mul (pv 4) pe_int) (pe_ix ix_list (pv 0) pe_int (fun _ _ => rfl))) pe_int) pa_nil)) pe_int) (pg_sub (pv 0) pe_int set_list))
      (pss_one (ps_ret (pe_op op_mod (pe_callTy call_int1 (by rfl) m_int (by decide +kernel) (pa_cons (pe_op op_add (pe_op op_fdiv (pe_ix ix_list (pv 0) pe_int (fun _ _ => rfl)) pe_int) (pe_op op_mul (pe_op op_mod (pe_callTy call_int1 (by rfl) m_int (by decide +kernel) (pa_cons (pe_ix ix_list (pv 0) pe_int (fun _ _ => rfl)) pa_nil)) pe_int) pe_int)) pa_nil)) (pv 1))))))))), ?_⟩
    refine ⟨fun σ' H' => ∃ (y2 : Option V) (i p st c : Int), σ' = [some (.ref a), some (.int n), y2, none, none] ∧ H' a = some (.lst [.ref L, .int i, .int p, .int st, .int c]) ∧ H' L = some (.lst (ns.map V.int)) ∧ 0 ≤ i ∧ 0 ≤ st ∧ st < 2147483629 ∧ (∀ b, b ≠ a → H' b = H b), ?_, ?_⟩
    · -- the first if
      refine ⟨_, rfl, a, _, _, _, rfl, rfl, SqL.of hA, rfl, rfl, _, rfl, ?_⟩
      refine ite2 (fun c0 => ?_) (fun c0 => ?_)
      · refine ⟨_, rfl, a, _, _, _, rfl, rfl, SqL.of hA, rfl, _, rfl, a, _, _, _, rfl, rfl, SqL.of hA, rfl, L, _, rfl, .inl (SqL.of hL), _, _, rfl, rfl, _, rfl, ?_⟩
        refine ite2 (fun c1 => ?_) (fun c1 => ?_)
        · obtain ⟨v, hv⟩ := at_int h0 (of_decide_eq_true c1)
          refine ⟨_, rfl, a, _, _, _, rfl, rfl, SqL.of hA, rfl, _, rfl, a, _, _, _, rfl, rfl, SqL.of hA, rfl, L, _, _, _, rfl, rfl, SqL.of hL, hv, ?_⟩
          refine ⟨_, rfl, a, _, _, _, rfl, rfl, SqL.of hA, rfl, _, _, rfl, rfl, _, rfl, a, _, _, _, rfl, rfl, hA, rfl, ?_⟩
          have hA2 : (upd H a (.lst [.ref L, .int (i + 1), .int p, .int st, .int c])) a = some (.lst [.ref L, .int (i + 1), .int p, .int st, .int c]) := upd_same
          refine ⟨_, rfl, _, _, rfl, rfl, ⟨by decide, by decide, by decide⟩, _, _, rfl, rfl, _, rfl, ?_⟩
          refine ite2 (fun c2 => ?_) (fun c2 => ?_)
          · refine ⟨_, rfl, _, rfl, a, _, _, _, rfl, rfl, hA2, rfl, ?_⟩
            refine ⟨some (.int v), i + 1, v, st, c, rfl, upd_same, ?_, by omega, h1, h2, fun b nb => ?_⟩
            · rw [upd_ne aL, upd_ne aL]; exact hL
            · rw [upd_ne nb, upd_ne nb]
          · refine ⟨_, rfl, a, _, _, _, rfl, rfl, SqL.of hA2, rfl, _, _, rfl, rfl, .inr ⟨by decide, by decide⟩, _, rfl, .inl ⟨_, rfl, _, _, rfl, rfl, pos1, _, _, rfl, rfl, .inr ⟨by decide, by decide⟩, _, _, rfl, rfl, _, _, rfl, rfl, .inl ⟨_, rfl, _, _, rfl, rfl, pos2, ?_⟩⟩⟩
            refine ⟨_, rfl, a, _, _, _, rfl, rfl, hA2, rfl, ?_⟩
            refine ⟨some (.int v), i + 1, p, _, c, rfl, upd_same, ?_, by omega, ?_, ?_, fun b nb => ?_⟩
            · rw [upd_ne aL, upd_ne aL]; exact hL
            · exact Int.emod_nonneg _ (by decide)
            · exact Int.emod_lt_of_pos _ (by decide)
            · rw [upd_ne nb, upd_ne nb]
        · exact ⟨none, i, p, st, c, rfl, hA, hL, h0, h1, h2, fun b nb => rfl⟩
      · exact iteF ⟨none, i, p, st, c, rfl, hA, hL, h0, h1, h2, fun b nb => rfl⟩
    · rintro σ' H' ⟨y2, i, p, st, c, rfl, hA, hL, h0, h1, h2, off⟩
      refine ⟨_, rfl, a, _, _, _, rfl, rfl, SqL.of hA, rfl, _, _, rfl, rfl, _, rfl, ?_⟩
      refine ite2 (fun c0 => ?_) (fun c0 => ?_)
      · have cp : p > 0 := of_decide_eq_true c0
        refine ⟨_, rfl, a, _, _, _, rfl, rfl, SqL.of hA, rfl, .inl ⟨_, rfl, _, rfl, _, _, rfl, rfl, by omega, ?_⟩⟩
        refine ⟨_, rfl, a, _, _, _, rfl, rfl, SqL.of hA, rfl, _, rfl, _, _, rfl, rfl, ⟨by omega, by omega⟩, _, rfl, a, _, _, _, rfl, rfl, hA, rfl, ?_⟩
        refine ⟨_, rfl, q _ _ (Int.emod_nonneg _ (by omega)) (Int.emod_lt_of_pos _ (by omega)) ⟨i, _, st, c, upd_same, ?_, h0, h1, h2⟩ fun b nb => ?_⟩
        · rw [upd_ne aL]; exact hL
        · rw [upd_ne nb]; exact off b nb
      · refine ⟨_, rfl, a, _, _, _, rfl, rfl, SqL.of hA, rfl, _, _, rfl, rfl, _, rfl, a, _, _, _, rfl, rfl, hA, rfl, ?_⟩
        have hA2 : (upd H' a (.lst [.ref L, .int i, .int p, .int st, .int (c + 1)])) a = some (.lst [.ref L, .int i, .int p, .int st, .int (c + 1)]) := upd_same
        refine ⟨_, rfl, a, _, _, _, rfl, rfl, SqL.of hA2, rfl, _, rfl, a, _, _, _, rfl, rfl, SqL.of hA2, rfl, _, _, rfl, rfl, .inl ⟨by omega, by omega⟩, .inl ⟨_, rfl, _, _, rfl, rfl, pos2, ?_⟩⟩
        refine ⟨_, rfl, a, _, _, _, rfl, rfl, SqL.of hA2, rfl, _, _, rfl, rfl, .inl ⟨by decide, by decide⟩, _, _, rfl, rfl, ?_⟩
        refine ⟨_, rfl, _, _, rfl, rfl, .inr ⟨by decide, by decide⟩, _, rfl, a, _, _, _, rfl, rfl, SqL.of hA2, rfl, _, _, rfl, rfl, _, _, rfl, rfl, .inl ⟨_, rfl, _, _, rfl, rfl, pos2, ?_⟩⟩
        refine ⟨_, rfl, a, _, _, _, rfl, rfl, hA2, rfl, ?_⟩
        have z0 : 0 ≤ zz st c := Int.emod_nonneg _ (by decide)
        have z1 : zz st c < 2147483629 := Int.emod_lt_of_pos _ (by decide)
        have hA3 : (upd (upd H' a (.lst [.ref L, .int i, .int p, .int st, .int (c + 1)])) a (.lst [.ref L, .int i, .int p, .int (zz st c), .int (c + 1)])) a = some (.lst [.ref L, .int i, .int p, .int (zz st c), .int (c + 1)]) := upd_same
        refine ⟨_, rfl, a, _, _, _, rfl, rfl, SqL.of hA3, rfl, _, _, rfl, rfl, ⟨by decide, by decide⟩, ?_⟩
        refine ⟨_, rfl, a, _, _, _, rfl, rfl, SqL.of hA3, rfl, .inl ⟨_, rfl, _, _, rfl, rfl, pos3, _, _, rfl, rfl, .inr ⟨by decide, by decide⟩, _, _, rfl, rfl, .inl ⟨_, rfl, _, rfl, _, _, rfl, rfl, by omega, ?_⟩⟩⟩
        refine q _ _ (Int.emod_nonneg _ (by omega)) (Int.emod_lt_of_pos _ (by omega)) ⟨i, p, zz st c, c + 1, upd_same, ?_, h0, z0, z1⟩ fun b nb => ?_
        · rw [upd_ne aL, upd_ne aL]; exact hL
        · rw [upd_ne nb, upd_ne nb]; exact off b nb
end
-- top 12  slots: 0:_law_script
abbrev s_law_source : Stmt := topS 12
abbrev N_law_source : List Str := ["_law_script"]
theorem sc_law_source : FnScope N_law_source ["_law_script"] (defScope s_law_source) := ⟨rfl, rfl, rfl, by decide +kernel, rfl, by decide +kernel, by decide +kernel⟩

-- top 14  slots: 0:_law_source_here 1:_law_row
abbrev s_law_pick : Stmt := topS 14
abbrev N_law_pick : List Str := ["_law_source_here", "_law_row"]
theorem sc_law_pick : FnScope N_law_pick ["_law_source_here", "_law_row"] (defScope s_law_pick) := ⟨rfl, rfl, rfl, by decide +kernel, rfl, by decide +kernel, by decide +kernel⟩

-- top 15  slots: 0:_law_source_here 1:_law_row 2:_law_found 3:_law_one
abbrev s_law_mixed : Stmt := topS 15
abbrev N_law_mixed : List Str := ["_law_source_here", "_law_row", "_law_found", "_law_one"]
theorem sc_law_mixed : FnScope N_law_mixed ["_law_source_here", "_law_row"] (defScope s_law_mixed) := ⟨rfl, rfl, rfl, by decide +kernel, rfl, by decide +kernel, by decide +kernel⟩

-- top 19  slots: 0:_law_source_here 1:_law_most 2:_law_every
abbrev s_law_signs : Stmt := topS 19
abbrev N_law_signs : List Str := ["_law_source_here", "_law_most", "_law_every"]
theorem sc_law_signs : FnScope N_law_signs ["_law_source_here", "_law_most"] (defScope s_law_signs) := ⟨rfl, rfl, rfl, by decide +kernel, rfl, by decide +kernel, by decide +kernel⟩

section
variable {P : Program} {w : World} {K : PySem.W.Frag} {mg : Str → Option Value} {base : Heap}
theorem ok_source {f : Addr} {fd : FuncData} {k : Nat} (F : Fun K "_law_source" "_law_source" s_law_source f fd) (m_list : mg "list" = none) :
    FnOk P w K mg base CX0 (k + 1) f fd ["_law_script"] (spSource K) := by
  refine F.ok sc_law_source (fun vs H Q E h => ?_) (fun cdv A outer s H vs Q E hr h => ?_)
  · obtain ⟨a, ns, rfl, _⟩ := h
    rfl
  · obtain ⟨a, ns, rfl, hS, hl, q⟩ := h
    refine ⟨_, (pss_one (ps_ret (pe_lst (pa_cons (pe_callTy call_list_of (by rfl) m_list (by decide +kernel) (pa_cons (pe_slice sl_list (pv 0) po_none (po_some pe_int)) pa_nil)) (pa_cons pe_int (pa_cons pe_int (pa_cons pe_int (pa_cons pe_int pa_nil)))))))), ?_⟩
    refine ⟨_, rfl, _, rfl, a, _, rfl, hS, fun c nc => ?_⟩
    have e1 : cutV (ns.map V.int) none (some 63) = ns.map V.int := by
      rw [cut_take _ (by decide)]
      exact List.take_of_length_le (by rw [List.length_map]; exact hl)
    refine ⟨c, _, rfl, .inl (SqL.of upd_same), fun L nL => ?_⟩
    refine ⟨(by show 5 ≤ sizeLine; decide), fun p np => ?_⟩
    have s1 := same_upd (o := .lst (cutV (ns.map V.int) none (some 63))) nc
    have s2 := same_upd (o := .lst (cutV (ns.map V.int) none (some 63))) nL
    have s3 := same_upd (o := .lst [.ref L, .int 0, .int 0, .int 3818, .int 0]) np
    refine q _ p L (s1.trans (s2.trans s3)) (s1.free (s2.free np)) (s1.free nL) ⟨0, 0, 3818, 0, upd_same, ?_, by decide, by decide, by decide⟩
    refine s3 _ _ ?_
    rw [upd_same, e1]
theorem ok_pick {f : Addr} {fd : FuncData} {k : Nat} (F : Fun K "_law_pick" "_law_pick" s_law_pick f fd) (m_len : mg "len" = none)
    (C_law_take : Own P w K mg base k "_law_take" ["_law_source_here", "_law_many"] spTake) :
    FnOk P w K mg base CX0 (k + 1) f fd ["_law_source_here", "_law_row"] spPick := by
  refine F.ok sc_law_pick (fun vs H Q E h => ?_) (fun cdv A outer s H vs Q E hr h => ?_)
  · obtain ⟨a, L, r, ns, xs, rfl, _⟩ := h
    rfl
  · obtain ⟨a, L, r, ns, xs, rfl, hs, ra, hr', hp, hl, q⟩ := h
    refine ⟨_, (pss_one (ps_ret (pe_ix ix_list (pv 1) (pe_own C_law_take (hr.mono (by omega)) (by rfl) (pa_cons (pv 0) (pa_cons (pe_callB call_len_seq (by rfl) m_len (by decide +kernel) (pa_cons (pv 1) pa_nil)) pa_nil))) (fun _ _ => rfl)))), ?_⟩
    refine ⟨_, rfl, _, rfl, _, rfl, r, _, rfl, .inl (SqL.of hr'), a, L, ns, _, rfl, hs, by omega, by omega, fun H' d d0 d1 hs' off => ?_⟩
    obtain ⟨v, hv, mv⟩ := atI_mem d0 d1
    exact ⟨r, _, _, _, rfl, rfl, SqL.of ((off r ra).trans hr'), hv, q H' v mv hs' off⟩
theorem ok_mixed {f : Addr} {fd : FuncData} {k : Nat} (F : Fun K "_law_mixed" "_law_mixed" s_law_mixed f fd) (m_len : mg "len" = none)
    (C_law_take : Own P w K mg base k "_law_take" ["_law_source_here", "_law_many"] spTake) :
    FnOk P w K mg base CX0 (k + 1) f fd ["_law_source_here", "_law_row"] spMixed := by
  refine F.ok sc_law_mixed (fun vs H Q E h => ?_) (fun cdv A outer s H vs Q E hr h => ?_)
  · obtain ⟨a, L, r, ns, xs, rfl, _⟩ := h
    rfl
  · obtain ⟨a, L, r, ns, xs, rfl, hs, ra, hR, hl, q⟩ := h
    refine ⟨_, (pss_cons (ps_set (i := 2) sc_law_mixed.nd rfl (by first | exact .inl rfl | exact .inr rfl) (pe_lst pa_nil))
      (pss_cons (ps_for PassesOwn.never rfl (pi_list (pv 1)) (pg_name (i := 3) sc_law_mixed.nd rfl (by first | exact .inl rfl | exact .inr rfl))
        (pss_one (ps_expr (pe_bm PySem.F.plainAttrs_list PySem.F.slot_list_insert PySem.F.type_list_insert mt_insert (pv 2) (pa_cons (pe_own C_law_take (hr.mono (by omega)) (by rfl) (pa_cons (pv 0) (pa_cons (pe_op op_add (pe_callB call_len_seq (by rfl) m_len (by decide +kernel) (pa_cons (pv 2) pa_nil)) pe_int) pa_nil))) (pa_cons (pv 3) pa_nil))))))
      (pss_one (ps_ret (pv 2))))), ?_⟩
    refine ⟨Nat.zero_le _, fun p np => ?_⟩
    have ap : a ≠ p := by
      obtain ⟨_, _, _, _, e, _⟩ := hs
      exact ne_of_none e np
    have rp : r ≠ p := ne_of_none hR np
    refine ⟨_, rfl, r, rfl, ⟨_, SqL.of (by rw [upd_ne rp]; exact hR)⟩, for_list (xs := xs) (fun i σ H1 => ∃ (y : Option V) (ys : List V), σ = [some (.ref a), some (.ref r), some (.ref p), y] ∧ ys.Perm (xs.take i) ∧ H1 p = some (.lst ys) ∧ Src H1 a L ns ∧ (∀ b, b ≠ a → b ≠ p → H1 b = H b)) ?_ ?_ ?_ ?_⟩
    · exact ⟨none, [], rfl, .nil, upd_same, hs.off np fun c hc => upd_ne hc, fun b _ hb => upd_ne hb⟩
    · rintro i σ H1 hi ⟨y, ys, rfl, pm, hp, hs1, off⟩
      exact SqL.of ((off r ra rp).trans hR)
    · rintro i x σ H1 hx ⟨y, ys, rfl, pm, hp, hs1, off⟩
      obtain ⟨hi, hxi⟩ := List.getElem?_eq_some_iff.mp hx
      have ly : ys.length = i := by
        rw [pm.length_eq, List.length_take]
        omega
      refine ⟨_, rfl, .inl ⟨rfl, _, SqL.of hp⟩, _, rfl, _, rfl, p, _, rfl, .inl (SqL.of hp), _, _, rfl, rfl, a, L, ns, _, rfl, hs1, by omega, by omega, fun H' d d0 d1 hs' off' => ?_⟩
      have hp' : H' p = some (.lst ys) := (off' p ap.symm).trans hp
      refine ⟨_, rfl, p, _, _, _, rfl, rfl, hp', small1000 (by omega), d0, by omega, ?_⟩
      refine ⟨_, _, rfl, ?_, upd_same, ?_, fun b ba bp => ?_⟩
      · rw [List.take_add_one, hx]
        refine List.Perm.trans ?_ (List.Perm.append_right _ pm)
        show (ys.take d.toNat ++ [x] ++ ys.drop d.toNat).Perm (ys ++ [x])
        refine List.Perm.trans (?_ : List.Perm _ (ys.take d.toNat ++ (ys.drop d.toNat ++ [x]))) ?_
        · rw [List.append_assoc]
          exact List.Perm.append_left _ List.perm_append_comm
        · rw [← List.append_assoc, List.take_append_drop]
      · obtain ⟨i', p', st, c, h1, h2, h3⟩ := hs'
        have Lp : L ≠ p := fun e => by
          obtain ⟨_, _, _, _, _, e2, _⟩ := hs
          rw [e, np] at e2
          cases e2
        exact ⟨i', p', st, c, by rw [upd_ne ap]; exact h1, by rw [upd_ne Lp]; exact h2, h3⟩
      · rw [upd_ne bp, off' b ba]
        exact off b ba bp
    · rintro σ H1 ⟨y, ys, rfl, pm, hp, hs1, off⟩
      rw [List.take_length] at pm
      exact ⟨_, rfl, q H1 p ys pm np hp hs1 off⟩
theorem ok_signs {f : Addr} {fd : FuncData} {k : Nat} (F : Fun K "_law_signs" "_law_signs" s_law_signs f fd) (m_list : mg "list" = none)
    (C_law_take : Own P w K mg base k "_law_take" ["_law_source_here", "_law_many"] spTake)
    (C_law_mixed : Own P w K mg base k "_law_mixed" ["_law_source_here", "_law_row"] spMixed) :
    FnOk P w K mg base CX0 (k + 1) f fd ["_law_source_here", "_law_most"] spSigns := by
  refine F.ok sc_law_signs (fun vs H Q E h => ?_) (fun cdv A outer s H vs Q E hr h => ?_)
  · obtain ⟨a, L, ns, n, rfl, _⟩ := h
    rfl
  · obtain ⟨a, L, ns, n, rfl, hs, n1, n8, q⟩ := h
    refine ⟨_, (pss_cons (ps_set (i := 2) sc_law_signs.nd rfl (by first | exact .inl rfl | exact .inr rfl) (pe_own C_law_mixed (hr.mono (by omega)) (by rfl) (pa_cons (pv 0) (pa_cons (pe_callTy (call_listStr hr.hd) (by rfl) m_list (by decide +kernel) (pa_cons pe_str pa_nil)) pa_nil))))
      (pss_one (ps_ret (pe_slice sl_list (pv 2) po_none (po_some (pe_op op_add pe_int (pe_own C_law_take (hr.mono (by omega)) (by rfl) (pa_cons (pv 0) (pa_cons (pv 1) pa_nil))))))))), ?_⟩
    refine ⟨_, rfl, _, rfl, by decide +kernel, fun r nr => ?_⟩
    have ar : a ≠ r := by
      obtain ⟨_, _, _, _, e, _⟩ := hs
      exact ne_of_none e nr
    refine ⟨a, L, r, ns, _, rfl, hs.off nr fun c hc => upd_ne hc, ar.symm, upd_same, by decide +kernel, fun H1 p ys pm np hp hs1 off1 => ?_⟩
    have s1 := same_upd (o := .lst (signs "abcdefgh")) nr
    have ap : a ≠ p := by
      obtain ⟨_, _, _, _, e, _⟩ := hs
      exact ne_of_none e (s1.free np)
    refine ⟨_, rfl, _, rfl, _, rfl, a, L, ns, n, rfl, hs1, n1, by omega, fun H2 d d0 d1 hs2 off2 => ?_⟩
    have hp2 : H2 p = some (.lst ys) := (off2 p ap.symm).trans hp
    refine ⟨_, _, rfl, rfl, _, rfl, p, ys, rfl, SqL.of hp2, fun z nz => ?_⟩
    have ly : ys.length = 8 := by
      rw [pm.length_eq]
      decide +kernel
    have ez : cutV ys none (some (1 + d)) = ys.take (1 + d).toNat := cut_take ys (by omega)
    have zn : H z = none := by
      have ap1 : H1 z = none := by
        by_cases e : z = a
        · rw [e] at nz
          obtain ⟨_, _, _, _, e', _⟩ := hs2
          rw [e'] at nz
          cases nz
        · rw [← off2 z e]; exact nz
      have ap2 : (upd H r (.lst (signs "abcdefgh"))) z = none := by
        by_cases e : z = a
        · rw [e] at ap1
          obtain ⟨_, _, _, _, e', _⟩ := hs1
          rw [e'] at ap1
          cases ap1
        · by_cases e2 : z = p
          · rw [e2] at ap1
            rw [hp] at ap1
            cases ap1
          · rw [← off1 z e e2]; exact ap1
      exact s1.free ap2
    refine q _ z _ ?_ ?_ ?_ ?_ zn upd_same (hs2.off nz fun c hc => upd_ne hc) ?_
    · rw [ez, List.length_take]; omega
    · rw [ez, List.length_take]; omega
    · intro y hy
      rw [ez] at hy
      exact pm.mem_iff.mp (List.mem_of_mem_take hy)
    · rw [ez]
      refine List.Sublist.nodup (List.take_sublist _ _) ?_
      exact pm.nodup_iff.mpr (by decide +kernel)
    · intro b o hb e
      have ba : b ≠ a := fun z => hb (by rw [z]; exact List.mem_singleton.mpr rfl)
      have bz : b ≠ z := ne_of_none e zn
      rw [upd_ne bz, off2 b ba, off1 b ba (ne_of_none e (s1.free np))]
      exact s1 b o e
end
-- top 7  slots: 0:value
abbrev s_is_letter : Stmt := topS 7
abbrev N_is_letter : List Str := ["value"]
theorem sc_is_letter : FnScope N_is_letter ["value"] (defScope s_is_letter) := ⟨rfl, rfl, rfl, by decide +kernel, rfl, by decide +kernel, by decide +kernel⟩

-- top 8  slots: 0:value
abbrev s_is_compound : Stmt := topS 8
abbrev N_is_compound : List Str := ["value"]
theorem sc_is_compound : FnScope N_is_compound ["value"] (defScope s_is_compound) := ⟨rfl, rfl, rfl, by decide +kernel, rfl, by decide +kernel, by decide +kernel⟩

-- top 9  slots: 0:value 1:max_depth 2:max_size 3:deepest 4:total 5:part 6:found
abbrev s_measured : Stmt := topS 9
abbrev N_measured : List Str := ["value", "max_depth", "max_size", "deepest", "total", "part", "found"]
theorem sc_measured : FnScope N_measured ["value", "max_depth", "max_size"] (defScope s_measured) := ⟨rfl, rfl, rfl, by decide +kernel, rfl, by decide +kernel, by decide +kernel⟩

-- top 10  slots: 0:value 1:max_depth 2:max_size
abbrev s_is_term : Stmt := topS 10
abbrev N_is_term : List Str := ["value", "max_depth", "max_size"]
theorem sc_is_term : FnScope N_is_term ["value", "max_depth", "max_size"] (defScope s_is_term) := ⟨rfl, rfl, rfl, by decide +kernel, rfl, by decide +kernel, by decide +kernel⟩

section
variable {P : Program} {w : World} {K : PySem.W.Frag} {mg : Str → Option Value} {base : Heap}
theorem at0 {x : V} {xs : List V} : atI (x :: xs) 0 = some x := atI_nat (xs := x :: xs) (rfl : (x :: xs)[0]? = some x)
theorem len_ok {n : Nat} {s : Str} (h : gd n (.str s) = true) : s.length ≤ sizeLine := by
  have q : s.length ≤ 100000 := by
    cases n <;> (simp only [gd, Bool.and_eq_true, decide_eq_true_eq] at h; exact h.2)
  exact Nat.le_trans q (by decide)
theorem ok_is_letter {f : Addr} {fd : FuncData} {k : Nat} (F : Fun K "is_letter" "is_letter" s_is_letter f fd) (m_isinstance : mg "isinstance" = none) (m_str : mg "str" = none) (m_len : mg "len" = none)
    {t : Tok} (g_LETTERS : mg "LETTERS" = some (.str "abcdefgh" t)) :
    FnOk P w K mg base CX0 (k + 1) f fd ["value"] (spIsLetter K) := by
  refine F.ok sc_is_letter (fun vs H Q E h => ?_) (fun cdv A outer s H vs Q E hr h => ?_)
  · obtain ⟨v, d, rfl, _⟩ := h
    rfl
  · obtain ⟨v, d, rfl, hd, hg, q⟩ := h
    refine ⟨_, (pss_one (ps_ret (pe_and (pe_isD (T := "str") (by rfl) m_isinstance (by rfl) m_str (pv 0)) (pe_and (pe_cmpR op_eq (pe_callB call_len_str (by rfl) m_len (by decide +kernel) (pa_cons (pv 0) pa_nil)) pe_int (nomark _)) (pe_one (pe_cmpR op_in_str (pv 0) (pe_glob (v := .str "abcdefgh") (by rfl) g_LETTERS (⟨_, rfl⟩)) (by rfl))))))), ?_⟩
    refine ⟨_, rfl, _, _, d, rfl, by decide, hd, _, rfl, ?_⟩
    cases d with
    | str z =>
      cases hd
      refine iteT ⟨_, rfl, z, rfl, len_ok hg, rfl, _, rfl, ?_⟩
      have e : isLd (.str z) = isL z := rfl
      rw [e] at q
      unfold isL at q
      refine ite2 (fun c => ?_) (fun c => ?_)
      · refine ⟨_, rfl, z, _, rfl, rfl, ?_⟩
        rw [c, Bool.true_and] at q
        exact q
      · rw [Bool.eq_false_iff.mpr c, Bool.false_and] at q
        exact q
    | _ => exact iteF q
theorem ok_is_compound {f : Addr} {fd : FuncData} {k : Nat} (F : Fun K "is_compound" "is_compound" s_is_compound f fd) (m_isinstance : mg "isinstance" = none) (m_tuple : mg "tuple" = none) (m_len : mg "len" = none)
    {oA : Addr} (g_OPERATORS : mg "OPERATORS" = some (.ref oA)) (hO : ∀ H, SqT K H oA [.str "&", .str "|"]) :
    FnOk P w K mg base CX0 (k + 1) f fd ["value"] (spIsCompound K) := by
  refine F.ok sc_is_compound (fun vs H Q E h => ?_) (fun cdv A outer s H vs Q E hr h => ?_)
  · obtain ⟨v, d, rfl, _⟩ := h
    rfl
  · obtain ⟨v, d, rfl, hd, hg, q⟩ := h
    refine ⟨_, (pss_one (ps_ret (pe_and (pe_isD (T := "tuple") (by rfl) m_isinstance (by rfl) m_tuple (pv 0)) (pe_and (pe_cmpR op_ge (pe_callB call_len_seq (by rfl) m_len (by decide +kernel) (pa_cons (pv 0) pa_nil)) pe_int (nomark _)) (pe_one (pe_cmpR (op_inT (hu65 hr)) (pe_ix ix_tup (pv 0) pe_int (fun _ _ => rfl)) (pe_glob (v := .ref oA) (by rfl) g_OPERATORS (rfl)) (by rfl))))))), ?_⟩
    refine ⟨_, rfl, _, _, d, rfl, by decide, hd, _, rfl, ?_⟩
    cases d with
    | tuple ds =>
      cases hd with
      | @tup a xs _ hs ha =>
        refine iteT ⟨_, rfl, a, xs, rfl, .inr hs, _, _, rfl, rfl, _, rfl, ?_⟩
        have hl := dpAll_len ha
        cases ds with
        | nil =>
          rw [hl]
          exact iteF q
        | cons o ds =>
          cases ha with
          | @cons x0 xr _ _ h1 h2 =>
            have hl' := dpAll_len h2
            have e : isCd (.tuple (o :: ds)) = (decide (2 ≤ ds.length) && isOp o) := rfl
            rw [e] at q
            refine ite2 (fun c => ?_) (fun c => ?_)
            · have c' : (3 : Int) ≤ (((x0 :: xr).length : Nat) : Int) := of_decide_eq_true c
              rw [List.length_cons] at c'
              refine ⟨_, rfl, a, _, _, x0, rfl, rfl, hs, at0, o, [.str "&", .str "|"], h1, .tup (hO _) (.cons (.str _) (.cons (.str _) .nil)), gd_shaped (gd_parts hg).1 (by decide), by decide +kernel, ?_⟩
              rw [decide_eq_true (by omega), Bool.true_and] at q
              exact q
            · have c' : ¬ (3 : Int) ≤ (((x0 :: xr).length : Nat) : Int) := of_decide_eq_false (Bool.eq_false_iff.mpr c)
              rw [List.length_cons] at c'
              rw [decide_eq_false (by omega), Bool.false_and] at q
              exact q
    | _ => exact iteF q
theorem ok_measured {f : Addr} {fd : FuncData} {k n : Nat} (F : Fun K "measured" "measured" s_measured f fd) (m_max : mg "max" = none) (hk : 1 ≤ k)
    (C_is_letter : Own P w K mg base 1 "is_letter" ["value"] (spIsLetter K)) (C_is_compound : Own P w K mg base 1 "is_compound" ["value"] (spIsCompound K))
    (C_measured : Own P w K mg base k "measured" ["value", "max_depth", "max_size"] (spMeas K n)) :
    FnOk P w K mg base CX0 (k + 1) f fd ["value", "max_depth", "max_size"] (spMeas K (n + 1)) := by
  refine F.ok sc_measured (fun vs H Q E h => ?_) (fun cdv A outer s H vs Q E hr h => ?_)
  · obtain ⟨v, d, md, ms, rfl, _⟩ := h
    rfl
  · obtain ⟨v, d, md, ms, rfl, hd, hg, m0, m1, q1, q2⟩ := h
    refine ⟨_, (pss_cons (ps_if (PW.pt (pw_or (pt_cmpR op_lt (pv 1) pe_int (nomark _)) (pw_or1 (pt_cmpR op_lt (pv 2) pe_int (nomark _)))))
        (pss_one (ps_ret pe_non))
        pss_nil)
      (pss_cons (ps_if (pt_val (pe_own C_is_letter (hr.mono (by omega)) (by rfl) (pa_cons (pv 0) pa_nil)))
        (pss_one (ps_ret (pe_tup (pa_cons pe_int (pa_cons pe_int pa_nil)))))
        pss_nil)
      (pss_cons (ps_if (pt_not (pt_val (pe_own C_is_compound (hr.mono (by omega)) (by rfl) (pa_cons (pv 0) pa_nil))))
        (pss_one (ps_ret pe_non))
        pss_nil)
      (pss_cons (ps_set (i := 3) sc_measured.nd rfl (by first | exact .inl rfl | exact .inr rfl) pe_int)
      (pss_cons (ps_set (i := 4) sc_measured.nd rfl (by first | exact .inl rfl | exact .inr rfl) pe_int)
      (pss_cons (ps_for PassesOwn.never rfl (pi_tup (pe_slice sl_tup (pv 0) (po_some pe_int) po_none)) (pg_name (i := 5) sc_measured.nd rfl (by first | exact .inl rfl | exact .inr rfl))
        (pss_cons (ps_set (i := 6) sc_measured.nd rfl (by first | exact .inl rfl | exact .inr rfl) (pe_own C_measured (hr.mono (by omega)) (by rfl) (pa_cons (pv 5) (pa_cons (pe_op op_sub (pv 1) pe_int) (pa_cons (pe_op op_sub (pv 2) (pv 4)) pa_nil)))))
        (pss_cons (ps_if (pt_cmpR op_isN (pv 6) pe_non (nomark _))
          (pss_one (ps_ret pe_non))
          pss_nil)
        (pss_cons (ps_set (i := 3) sc_measured.nd rfl (by first | exact .inl rfl | exact .inr rfl) (pe_callB (call_max2 rfl) (by rfl) m_max (by decide +kernel) (pa_cons (pv 3) (pa_cons (pe_ix ix_tup (pv 6) pe_int (fun _ _ => rfl)) pa_nil))))
        (pss_one (ps_set (i := 4) sc_measured.nd rfl (by first | exact .inl rfl | exact .inr rfl) (pe_op op_add (pv 4) (pe_ix ix_tup (pv 6) pe_int (fun _ _ => rfl)))))))))
      (pss_one (ps_ret (pe_tup (pa_cons (pe_op op_add (pv 3) pe_int) (pa_cons (pv 4) pa_nil))))))))))), ?_⟩
    refine ⟨_, rfl, _, _, rfl, rfl, _, rfl, ?_⟩
    have fin0 : ¬ 1 ≤ md ∨ ms < 1 → Q .non H := fun c => by
      refine q1 ?_ H (Same.refl H)
      rcases c with c | c
      · rw [show md.toNat = 0 by omega]; rfl
      · cases md.toNat with
        | zero => rfl
        | succ m => unfold meas; rw [if_pos c]
    refine ite2 (fun c => iteT (fin0 (.inl (by have := of_decide_eq_true c; omega)))) (fun c => ?_)
    have c1 : ¬ md < 1 := of_decide_eq_false (Bool.eq_false_iff.mpr c)
    refine ⟨_, rfl, _, _, rfl, rfl, _, rfl, ?_⟩
    refine ite2 (fun c => fin0 (.inr (of_decide_eq_true c))) (fun c => ?_)
    have c2 : ¬ ms < 1 := of_decide_eq_false (Bool.eq_false_iff.mpr c)
    obtain ⟨m, em⟩ : ∃ m, md.toNat = m + 1 := ⟨md.toNat - 1, by omega⟩
    have em' : (md - 1).toNat = m := by omega
    rw [em] at q1 q2
    unfold meas at q1 q2
    rw [if_neg c2] at q1 q2
    refine ⟨_, rfl, v, d, rfl, hd, hg, _, rfl, ?_⟩
    refine ite2 (fun c => ?_) (fun c => ?_)
    · refine ⟨(by show 2 ≤ sizeLine; decide), fun p np => ?_⟩
      rw [if_pos c] at q2
      exact q2 1 1 rfl _ p (same_upd np) upd_same
    · rw [if_neg c] at q1 q2
      refine ⟨_, rfl, v, d, rfl, hd, hg, _, rfl, ?_⟩
      cases hc : isCd d with
      | false =>
        rw [if_neg (by rw [hc]; decide)] at q1
        exact iteT (q1 rfl H (Same.refl H))
      | true =>
        rw [if_pos hc] at q1 q2
        refine iteF ?_
        cases d with
        | tuple ds =>
          cases ds with
          | nil => cases hc
          | cons o ds =>
            cases hd with
            | @tup a xs _ hs ha =>
              cases ha with
              | @cons x0 xr _ _ h1 h2 =>
                have hl := dpAll_len h2
                have h2l : 2 ≤ ds.length := by
                  have e : isCd (.tuple (o :: ds)) = (decide (2 ≤ ds.length) && isOp o) := rfl
                  rw [e, Bool.and_eq_true] at hc
                  exact of_decide_eq_true hc.1
                have ep : parts (.tuple (o :: ds)) = ds := rfl
                rw [ep] at q1 q2
                have gp := (gd_parts hg).2
                refine ⟨_, rfl, 1, rfl, a, x0 :: xr, rfl, hs, ?_, fun p np => ?_⟩
                · rw [show HT.sIx (x0 :: xr).length 0 (some 1) = min 1 (x0 :: xr).length from HT.sIx_nat _ 0 1, List.length_cons]
                  omega
                have ec : cutV (x0 :: xr) (some 1) none = xr := by rw [cut_drop1]; rfl
                rw [ec]
                have s0 : Same H (upd H p (.tup xr)) := same_upd np
                refine ⟨p, rfl, ⟨_, SqT.of upd_same⟩, for_tup (xs := xr) (fun i σ H1 => ∃ (dp tot : Int) (y5 y6 : Option V), σ = [some (.ref a), some (.int md), some (.int ms), some (.int dp), some (.int tot), y5, y6] ∧
                  Same (upd H p (.tup xr)) H1 ∧ measL (meas m) (ds.drop i) ms dp tot = measL (meas m) ds ms 0 0) ?_ ?_ ?_ ?_⟩
                · exact ⟨0, 0, none, none, rfl, Same.refl _, rfl⟩
                · rintro i σ H1 hi ⟨dp, tot, y5, y6, rfl, sm, e⟩
                  exact SqT.of (sm _ _ upd_same)
                · rintro i x σ H1 hx ⟨dp, tot, y5, y6, rfl, sm, e⟩
                  obtain ⟨d', hd', hD'⟩ := dpAll_get h2 hx
                  have hDs : Dp K H1 x d' := dp_same (s0.trans sm) d' x hD'
                  rw [drop_cons_get hd'] at e
                  refine ⟨_, rfl, _, rfl, _, _, rfl, rfl, _, rfl, _, rfl, _, _, rfl, rfl, x, d', md - 1, ms - tot, rfl, hDs, gd_le (gp d' (List.mem_of_getElem? hd')) (by decide), by omega, by omega, fun en H2 s2 => ?_, fun dp' sz es H2 p2 s2 hp2 => ?_⟩
                  · refine ⟨_, rfl, rfl, _, rfl, iteT ?_⟩
                    refine q1 ?_ H2 (s0.trans (sm.trans s2))
                    rw [em'] at en
                    rw [← e]
                    simp only [measL, en]
                  · refine ⟨_, rfl, rfl, _, rfl, iteF ?_⟩
                    refine ⟨_, rfl, _, rfl, p2, _, _, _, rfl, rfl, SqT.of hp2, rfl, _, _, rfl, ?_⟩
                    refine ⟨_, rfl, _, rfl, p2, _, _, _, rfl, rfl, SqT.of hp2, rfl, _, _, rfl, rfl, ?_⟩
                    refine ⟨_, _, _, _, rfl, sm.trans s2, ?_⟩
                    rw [← e, em'] at *
                    simp only [measL, es]
                · rintro σ H1 ⟨dp, tot, y5, y6, rfl, sm, e⟩
                  refine ⟨_, rfl, _, _, rfl, rfl, _, rfl, (by show 2 ≤ sizeLine; decide), fun p3 np3 => ?_⟩
                  refine q2 (dp + 1) tot ?_ _ p3 (s0.trans (sm.trans (same_upd np3))) upd_same
                  rw [← e, List.drop_eq_nil_of_le (by omega)]
                  rfl
        | _ => cases hc
theorem meas_zero {f : Addr} {fd : FuncData} {k : Nat} : FnOk P w K mg base CX0 k f fd ["value", "max_depth", "max_size"] (spMeas K 0) := by
  have no : ∀ vs H Q E, ¬ spMeas K 0 vs H Q E := fun vs H Q E h => by
    obtain ⟨v, d, md, ms, _, _, _, m0, m1, _⟩ := h
    omega
  exact ⟨fun vs H Q E h => absurd h (no vs H Q E), fun A outer s H args us vs Q E _ _ _ _ h => absurd h (no vs H Q E)⟩
end
abbrev PsT : List Str := ["value", "max_depth", "max_size"]
abbrev KwT : List (Str × V) := [("max_depth", .int 5), ("max_size", .int 24)]
abbrev FunT (K : PySem.W.Frag) (f : Addr) (fd : FuncData) : Prop := FunD K "is_term" "is_term" (defArgs s_is_term) (defBody s_is_term) (defScope s_is_term) [] KwT f fd
section
variable {P : Program} {w : World} {K : PySem.W.Frag} {mg : Str → Option Value} {base : Heap}
theorem ok_is_term {f : Addr} {fd : FuncData} {k : Nat} (F : FunT K f fd)
    (C_measured : Own P w K mg base k "measured" ["value", "max_depth", "max_size"] (spMeas K 20)) :
    FnOk P w K mg base CX0 (k + 1) f fd PsT (spIsTerm K) := by
  refine F.ok sc_is_term (fun vs H Q E h => ?_) (fun cdv A outer s H vs Q E hr h => ?_)
  · obtain ⟨v, d, md, ms, rfl, _⟩ := h
    rfl
  · obtain ⟨v, d, md, ms, rfl, hd, hg, m0, m1, q⟩ := h
    refine ⟨_, (pss_one (ps_ret (pe_cmpR op_notN (pe_own C_measured (hr.mono (by omega)) (by rfl) (pa_cons (pv 0) (pa_cons (pv 1) (pa_cons (pv 2) pa_nil)))) pe_non (nomark _)))), ?_⟩
    refine ⟨_, rfl, _, rfl, _, rfl, v, d, md, ms, rfl, hd, hg, m0, m1, fun e H' s' => ⟨rfl, ?_⟩, fun dp sz e H' p s' hp => ⟨rfl, ?_⟩⟩
    · have z := q H' s'
      rw [e] at z
      exact z
    · have z := q H' s'
      rw [e] at z
      exact z
theorem binds_T {f : Addr} {fd : FuncData} (F : FunT K f fd) : ∃ ds, Vals [V.int 5, V.int 24] ds ∧ Binds K fd PsT ds :=
  F.binds0 1 (by decide) rfl fun D doc pm an cdv ct us ks h1 h2 => match us, ks, h1, h2 with
    | [u], [k1, k2], _, _ => ⟨_, _, _, _, _, _, rfl, rfl, _, _, _, _, _, _, rfl, rfl, rfl⟩
theorem kbinds_T1 {f : Addr} {fd : FuncData} (F : FunT K f fd) : ∃ mv : List Value, KBn K fd PsT 1 ["max_size", "max_depth"] (fun us ws => us ++ ws.reverse ++ mv) (fun vs zs => vs ++ zs.reverse ++ []) :=
  F.kbinds0 1 ["max_size", "max_depth"] [] (fun us mv ws => us ++ ws.reverse ++ mv) (by decide) (fun q h => nomatch h) (fun a b c => (a.append c.reverse).append b)
    fun D doc pm an cdv ct us mv ws h1 h2 h3 => match us, mv, ws, h1, h2, h3 with
    | [u], [], [w1, w2], _, _, _ => rfl
theorem kbinds_T2 {f : Addr} {fd : FuncData} (F : FunT K f fd) : ∃ mv : List Value, KBn K fd PsT 0 ["value", "max_depth"] (fun us ws => us ++ ws ++ mv) (fun vs zs => vs ++ zs ++ [V.int 24]) :=
  F.kbinds0 0 ["value", "max_depth"] [("max_size", .int 24)] (fun us mv ws => us ++ ws ++ mv) (by decide) (fun q h => List.mem_cons_of_mem _ h) (fun a b c => (a.append c).append b)
    fun D doc pm an cdv ct us mv ws h1 h2 h3 => match us, mv, ws, h1, h2, h3 with
    | [], [m], [w1, w2], _, _, _ => ⟨_, _, _, _, _, _, rfl, rfl, rfl⟩
theorem kbinds_T3 {f : Addr} {fd : FuncData} (F : FunT K f fd) : ∃ mv : List Value, KBn K fd PsT 1 ["max_depth"] (fun us ws => us ++ ws ++ mv) (fun vs zs => vs ++ zs ++ [V.int 24]) :=
  F.kbinds0 1 ["max_depth"] [("max_size", .int 24)] (fun us mv ws => us ++ ws ++ mv) (by decide) (fun q h => List.mem_cons_of_mem _ h) (fun a b c => (a.append c).append b)
    fun D doc pm an cdv ct us mv ws h1 h2 h3 => match us, mv, ws, h1, h2, h3 with
    | [u], [m], [w1], _, _, _ => ⟨_, _, _, _, _, _, rfl, rfl, rfl⟩
end
-- top 16  slots: 0:_law_found 1:_law_due 2:_law_key 3:_law_one 4:_law_other
abbrev s_law_same : Stmt := topS 16
abbrev N_law_same : List Str := ["_law_found", "_law_due", "_law_key", "_law_one", "_law_other"]
theorem sc_law_same : FnScope N_law_same ["_law_found", "_law_due"] (defScope s_law_same) := ⟨rfl, rfl, rfl, by decide +kernel, rfl, by decide +kernel, by decide +kernel⟩

-- top 20  slots: 0:_law_word 1:_law_deep 2:_law_sizes 3:_law_one
abbrev s_law_measure : Stmt := topS 20
abbrev N_law_measure : List Str := ["_law_word", "_law_deep", "_law_sizes", "_law_one"]
theorem sc_law_measure : FnScope N_law_measure ["_law_word", "_law_deep"] (defScope s_law_measure) := ⟨rfl, rfl, rfl, by decide +kernel, rfl, by decide +kernel, by decide +kernel⟩

-- top 21  slots: 0:_law_word
abbrev s_law_fits : Stmt := topS 21
abbrev N_law_fits : List Str := ["_law_word"]
theorem sc_law_fits : FnScope N_law_fits ["_law_word"] (defScope s_law_fits) := ⟨rfl, rfl, rfl, by decide +kernel, rfl, by decide +kernel, by decide +kernel⟩

theorem walk_zipT {K : PySem.W.Frag} {a b : Addr} {xs ys : List V} {n : Nat} (hn : n = min xs.length ys.length) : Walk (RZ.ItzT K a b) n (fun H => SqT K H a xs ∧ SqT K H b ys) (YPair (fun i => xs[i]?) (fun i => ys[i]?)) := by
  subst hn
  refine ⟨fun i _ hi q => ?_, fun _ q => ⟨xs, ys, q.1, q.2, by omega⟩, fun i H v H' _ q y => ?_⟩
  · have h1 : i < xs.length := by omega
    have h2 : i < ys.length := by omega
    exact ⟨xs, ys, xs[i], ys[i], q.1, q.2, by simp [h1], by simp [h2]⟩
  · obtain ⟨T, x, z, h1, h2, h3, h4, h5⟩ := y
    exact ⟨T, x, z, h1, h2, h3, h4 xs q.1, h5 ys q.2⟩
def spSame (K : PySem.W.Frag) (n : Nat) : Sp := fun vs H Q _ => ∃ (v v' : V) (d : PyData) (m : Nat), vs = [v, v'] ∧ Dp K H v d ∧ Dp K H v' d ∧ m < n ∧ gd m d = true ∧ ∀ H', Same H H' → Q (.bl true) H'
theorem in_ints (ns : List Int) : inV (.int 0) (ns.map V.int) = decide ((0 : Int) ∈ ns) := by
  unfold inV
  induction ns with
  | nil => rfl
  | cons n ns ih =>
    rw [List.map_cons, List.any_cons, ih]
    show ((n == 0) || decide ((0 : Int) ∈ ns)) = decide ((0 : Int) ∈ n :: ns)
    by_cases e : n = 0
    · subst e; simp
    · have e1 : (n == 0) = false := beq_eq_false_iff_ne.mpr e
      rw [e1, Bool.false_or]
      simp [List.mem_cons, show ¬ (0 : Int) = n from fun z => e z.symm]
theorem flat_ints (ns : List Int) : (ns.map V.int).all flatV = true := by
  rw [List.all_map]
  exact List.all_eq_true.mpr fun _ _ => rfl
section
variable {P : Program} {w : World} {K : PySem.W.Frag} {mg : Str → Option Value} {base : Heap}
theorem ok_measure {f : Addr} {fd : FuncData} {k n : Nat} (F : Fun K "_law_measure" "_law_measure" s_law_measure f fd) (m_isinstance : mg "isinstance" = none) (m_str : mg "str" = none) (m_tuple : mg "tuple" = none) (m_len : mg "len" = none) (m_int : mg "int" = none) (m_sum : mg "sum" = none)
    (C_law_measure : Own P w K mg base k "_law_measure" ["_law_word", "_law_deep"] (spMeasure K n)) :
    FnOk P w K mg base CX0 (k + 1) f fd ["_law_word", "_law_deep"] (spMeasure K (n + 1)) := by
  refine F.ok sc_law_measure (fun vs H Q E h => ?_) (fun cdv A outer s H vs Q E hr h => ?_)
  · obtain ⟨v, d, md, rfl, _⟩ := h
    rfl
  · obtain ⟨v, d, md, rfl, hd, hg, m0, m1, q⟩ := h
    refine ⟨_, (pss_cons (ps_if (pt_val (pe_isD (T := "str") (by rfl) m_isinstance (by rfl) m_str (pv 0)))
        (pss_one (ps_ret (pe_callTy call_int1 (by rfl) m_int (by decide +kernel) (pa_cons (pe_and (pe_cmpR op_eq (pe_callB call_len (by rfl) m_len (by decide +kernel) (pa_cons (pv 0) pa_nil)) pe_int (nomark _)) (pe_and (pe_cmpR op_in_str (pv 0) pe_str (by rfl)) (pe_one (pe_cmpR op_gt (pv 1) pe_int (nomark _))))) pa_nil))))
        pss_nil)
      (pss_cons (ps_if (PW.pt (pw_or (pt_cmpR op_lt (pv 1) pe_int (nomark _)) (pw_or (pt_not (pt_val (pe_isD (T := "tuple") (by rfl) m_isinstance (by rfl) m_tuple (pv 0)))) (pw_or (pt_cmpR op_lt (pe_callB call_len (by rfl) m_len (by decide +kernel) (pa_cons (pv 0) pa_nil)) pe_int (nomark _)) (pw_or1 (pt_cmpR (op_notInT (hu65 hr)) (pe_ix ix_tup (pv 0) pe_int (fun _ _ => rfl)) (pe_tup (pa_cons pe_str (pa_cons pe_str pa_nil))) (by rfl)))))))
        (pss_one (ps_ret pe_int))
        pss_nil)
      (pss_cons (ps_setLc (i := 2) (own := [("_law_one", 3)]) (g := gName 3) (by rfl) sc_law_measure.nd rfl rfl (sw_true rfl rfl rfl (by decide +kernel)) (pi_tup (pe_slice sl_tup (pv 0) (po_some pe_int) po_none)) (blkOk_by (own := [("_law_one", 3)]) (N := N_law_measure) (sc := defScope s_law_measure) (by decide +kernel)) (fun _ _ _ _ _ => pg_name (i := 3) sc_law_measure.nd rfl (Or.inl rfl)) (fun _ _ _ _ _ => pts_nil) (fun _ _ _ _ _ => (pe_own C_law_measure (hr.mono (by omega)) (by rfl) (pa_cons (pv 3) (pa_cons (pe_op op_sub (pv 1) pe_int) pa_nil)))))
      (pss_one (ps_ret (pe_ifExp (pt_cmpR op_in_seq pe_int (pv 2) (by rfl)) pe_int (pe_callB (cr_sum rfl) (by rfl) m_sum (by decide +kernel) (pa_cons (pv 2) pa_nil)))))))), ?_⟩
    refine ⟨_, rfl, _, _, d, rfl, by decide, hd, _, rfl, ?_⟩
    have z0 : ∀ d', md.toNat = 0 → lmeas md.toNat d' = 0 := fun d' e => by rw [e]; rfl
    have fin1 : isLd d = false → isCd d = false → Q (.int 0) H := fun a b => by
      have q' := q H (Same.refl H)
      have e : lmeas md.toNat d = 0 := by
        cases md.toNat with
        | zero => rfl
        | succ m => unfold lmeas; rw [a, b]; rfl
      rw [e] at q'
      exact q'
    cases d with
    | str z =>
      cases hd
      refine iteT ⟨_, rfl, _, _, rfl, ⟨len_ok hg, rfl⟩, rfl, _, rfl, ?_⟩
      have es : lmeas (md.toNat) (.str z) = if (isL z && decide (0 < md)) = true then 1 else 0 := by
        cases hm : md.toNat with
        | zero =>
          rw [decide_eq_false (by omega), Bool.and_false]
          rfl
        | succ m =>
          rw [decide_eq_true (by omega), Bool.and_true]
          show (if isL z = true then (1 : Int) else _) = _
          by_cases c : isL z = true
          · rw [if_pos c, if_pos c]
          · rw [if_neg c, if_neg c, if_neg (fun z => by cases z)]
      have q' := q H (Same.refl H)
      rw [es] at q'
      unfold isL at q'
      refine ite2 (fun c => ?_) (fun c => ?_)
      · refine ⟨_, rfl, _, _, rfl, rfl, _, rfl, ?_⟩
        rw [c, Bool.true_and] at q'
        refine ite2 (fun c2 => ?_) (fun c2 => ?_)
        · rw [c2, Bool.true_and] at q'
          exact ⟨_, rfl, _, _, rfl, rfl, .inr ⟨_, rfl, q'⟩⟩
        · rw [Bool.eq_false_iff.mpr c2, Bool.false_and] at q'
          exact .inr ⟨_, rfl, q'⟩
      · rw [Bool.eq_false_iff.mpr c, Bool.false_and] at q'
        exact .inr ⟨_, rfl, q'⟩
    | tuple ds =>
      refine iteF ⟨_, rfl, _, _, rfl, rfl, _, rfl, ?_⟩
      have fin0 : lmeas md.toNat (.tuple ds) = 0 → Q (.int 0) H := fun e => by
        have q' := q H (Same.refl H)
        rw [e] at q'
        exact q'
      cases hd with
      | @tup a xs _ hs ha =>
        have hl := dpAll_len ha
        refine ite2 (fun c => iteT (fin0 ?_)) (fun c => ?_)
        · have c' : md < 2 := of_decide_eq_true c
          cases hm : md.toNat with
          | zero => rfl
          | succ m =>
            have : m = 0 := by omega
            subst this
            unfold lmeas
            rw [if_neg (fun z => by cases z)]
            split
            · rename_i hc
              rw [if_pos]
              cases ds with
              | nil => cases hc
              | cons o ds =>
                cases ds with
                | nil => simp [isCd] at hc
                | cons d1 ds => exact List.mem_map.mpr ⟨d1, List.mem_cons_self .., rfl⟩
            · rfl
        · have c1 : ¬ md < 2 := of_decide_eq_false (Bool.eq_false_iff.mpr c)
          obtain ⟨m, em⟩ : ∃ m, md.toNat = m + 1 := ⟨md.toNat - 1, by omega⟩
          have em' : (md - 1).toNat = m := by omega
          refine ⟨_, rfl, _, _, .tuple ds, rfl, by decide, .tup hs ha, _, rfl, ?_⟩
          refine iteF ⟨_, rfl, _, _, rfl, .inr ⟨xs, hs, rfl⟩, _, _, rfl, rfl, _, rfl, ?_⟩
          have e0 : lmeas (m + 1) (.tuple ds) = if isCd (.tuple ds) = true then (if (0 : Int) ∈ (parts (.tuple ds)).map (lmeas m) then 0 else ((parts (.tuple ds)).map (lmeas m)).sum) else 0 := by
            show (if false = true then _ else _) = _
            rw [if_neg (fun z => by cases z)]
          rw [em, e0] at fin0
          rw [em, e0] at q
          cases ds with
          | nil =>
            cases ha
            exact iteT (iteT (fin0 rfl))
          | cons o ds =>
            cases ha with
            | @cons x0 xr _ _ h1 h2 =>
              have hl' := dpAll_len h2
              have ec : isCd (.tuple (o :: ds)) = (decide (2 ≤ ds.length) && isOp o) := rfl
              refine ite2 (fun c => iteT (fin0 ?_)) (fun c => ?_)
              · have c' : (((x0 :: xr).length : Nat) : Int) < 3 := of_decide_eq_true c
                rw [List.length_cons] at c'
                rw [ec, decide_eq_false (by omega), Bool.false_and, if_neg (fun z => by cases z)]
              · have c' : ¬ (((x0 :: xr).length : Nat) : Int) < 3 := of_decide_eq_false (Bool.eq_false_iff.mpr c)
                rw [List.length_cons] at c'
                rw [ec, decide_eq_true (by omega), Bool.true_and] at q fin0
                refine ⟨_, rfl, a, _, _, x0, rfl, rfl, hs, at0, (by show 2 ≤ sizeLine; decide), fun t nt => ?_⟩
                have st : Same H (upd H t (.tup [.str "&", .str "|"])) := same_upd nt
                refine ⟨o, [.str "&", .str "|"], dp_same st o x0 h1, .tup (SqT.of upd_same) (.cons (.str _) (.cons (.str _) .nil)), gd_shaped (gd_parts hg).1 (by decide), by decide +kernel, _, rfl, ?_⟩
                show if (!isOp o) = true then _ else _
                cases ho : isOp o with
                | false =>
                  refine iteT ?_
                  rw [ho] at fin0
                  have q' := q _ st
                  rw [ho, if_neg (fun z => by cases z)] at q'
                  exact q'
                | true =>
                  rw [ho, if_pos rfl] at q
                  refine iteF ⟨_, rfl, 1, rfl, a, x0 :: xr, rfl, same_seqT st hs, ?_, fun p np => ?_⟩
                  · rw [show HT.sIx (x0 :: xr).length 0 (some 1) = min 1 (x0 :: xr).length from HT.sIx_nat _ 0 1, List.length_cons]
                    omega
                  have ex : cutV (x0 :: xr) (some 1) none = xr := by rw [cut_drop1]; rfl
                  rw [ex]
                  have sp := same_upd (o := .tup xr) np
                  have gp := (gd_parts hg).2
                  refine ⟨p, rfl, ⟨_, SqT.of upd_same⟩, fun D nD => lc_tup (xs := xr) (fun i H1 => Same (upd (upd H t (.tup [.str "&", .str "|"])) p (.tup xr)) H1 ∧ H1 D = some (.lst (((ds.take i).map (lmeas m)).map V.int))) ?_ ?_ ?_ ?_⟩
                  · exact ⟨same_upd nD, by rw [upd_same]; rfl⟩
                  · rintro i H1 hi ⟨sm, e⟩
                    exact SqT.of (sm _ _ upd_same)
                  · rintro i x H1 hx ⟨sm, e⟩
                    obtain ⟨d', hd', hD'⟩ := dpAll_get h2 hx
                    have hDs : Dp K H1 x d' := dp_same (st.trans (sp.trans sm)) d' x hD'
                    refine ⟨rfl, ?_⟩
                    dsimp only [tYes]
                    rw [if_pos rfl]
                    refine ⟨_, rfl, _, rfl, _, _, rfl, rfl, x, d', md - 1, rfl, hDs, gd_le (gp d' (List.mem_of_getElem? hd')) (by decide), by omega, by omega, fun H2 s2 => ?_⟩
                    refine ⟨_, s2 _ _ e, ?_, ?_, ?_⟩
                    · rw [List.length_map, List.length_map, List.length_take]
                      have lds := (gd_tuple hg).1
                      rw [List.length_cons] at lds
                      exact small1000 (by omega)
                    · intro b o' eb
                      have bD : b ≠ D := ne_of_none eb nD
                      rw [upd_ne bD]
                      exact s2 _ _ (sm _ _ eb)
                    · rw [upd_same, List.take_add_one, hd', em']
                      simp
                  · rintro H1 ⟨sm, e⟩
                    have et : ds.take xr.length = ds := List.take_of_length_le (by omega)
                    rw [et] at e
                    have ep : parts (.tuple (o :: ds)) = ds := rfl
                    have q' := q H1 (st.trans (sp.trans sm))
                    rw [ep] at q'
                    refine ⟨_, rfl, D, _, rfl, .inl (SqL.of e), rfl, flat_ints _, _, rfl, ?_⟩
                    show if inV (.int 0) ((ds.map (lmeas m)).map V.int) = true then _ else _
                    rw [in_ints]
                    refine ite2 (fun c => ?_) (fun c => ?_)
                    · rw [if_pos (of_decide_eq_true c)] at q'
                      exact q'
                    · rw [if_neg (of_decide_eq_false (Bool.eq_false_iff.mpr c))] at q'
                      exact ⟨_, rfl, D, _, rfl, SqL.of e, q'⟩
    | none => exact iteF ⟨_, rfl, _, _, rfl, rfl, _, rfl, ite2 (fun c => iteT (fin1 rfl rfl)) fun c => ⟨_, rfl, _, _, _, rfl, by decide, hd, _, rfl, iteT (iteT (fin1 rfl rfl))⟩⟩
    | bool b => exact iteF ⟨_, rfl, _, _, rfl, rfl, _, rfl, ite2 (fun c => iteT (fin1 rfl rfl)) fun c => ⟨_, rfl, _, _, _, rfl, by decide, hd, _, rfl, iteT (iteT (fin1 rfl rfl))⟩⟩
    | int i => exact iteF ⟨_, rfl, _, _, rfl, rfl, _, rfl, ite2 (fun c => iteT (fin1 rfl rfl)) fun c => ⟨_, rfl, _, _, _, rfl, by decide, hd, _, rfl, iteT (iteT (fin1 rfl rfl))⟩⟩
    | list ds => exact iteF ⟨_, rfl, _, _, rfl, rfl, _, rfl, ite2 (fun c => iteT (fin1 rfl rfl)) fun c => ⟨_, rfl, _, _, _, rfl, by decide, hd, _, rfl, iteT (iteT (fin1 rfl rfl))⟩⟩
    | dict ds => cases hd
end
section
variable {P : Program} {w : World} {K : PySem.W.Frag} {mg : Str → Option Value} {base : Heap}
theorem measure_zero {f : Addr} {fd : FuncData} {k : Nat} : FnOk P w K mg base CX0 k f fd ["_law_word", "_law_deep"] (spMeasure K 0) := by
  have no : ∀ vs H Q E, ¬ spMeasure K 0 vs H Q E := fun vs H Q E h => by
    obtain ⟨v, d, md, _, _, _, m0, m1, _⟩ := h
    omega
  exact ⟨fun vs H Q E h => absurd h (no vs H Q E), fun A outer s H args us vs Q E _ _ _ _ h => absurd h (no vs H Q E)⟩
theorem same_zero {f : Addr} {fd : FuncData} {k : Nat} : FnOk P w K mg base CX0 k f fd ["_law_found", "_law_due"] (spSame K 0) := by
  have no : ∀ vs H Q E, ¬ spSame K 0 vs H Q E := fun vs H Q E h => by
    obtain ⟨v, v', d, m, _, _, _, m1, _⟩ := h
    omega
  exact ⟨fun vs H Q E h => absurd h (no vs H Q E), fun A outer s H args us vs Q E _ _ _ _ h => absurd h (no vs H Q E)⟩
theorem ok_fits {f : Addr} {fd : FuncData} {k : Nat} (F : Fun K "_law_fits" "_law_fits" s_law_fits f fd)
    (C_law_measure : Own P w K mg base k "_law_measure" ["_law_word", "_law_deep"] (spMeasure K 20)) :
    FnOk P w K mg base CX0 (k + 1) f fd ["_law_word"] (spFits K) := by
  refine F.ok sc_law_fits (fun vs H Q E h => ?_) (fun cdv A outer s H vs Q E hr h => ?_)
  · obtain ⟨v, d, rfl, _⟩ := h
    rfl
  · obtain ⟨v, d, rfl, hd, hg, q⟩ := h
    refine ⟨_, (pss_one (ps_ret (pe_chain op_le op_le pe_int (pe_own C_law_measure (hr.mono (by omega)) (by rfl) (pa_cons (pv 0) (pa_cons pe_int pa_nil))) pe_int))), ?_⟩
    refine ⟨_, rfl, v, d, 5, rfl, hd, hg, by decide, by decide, fun H' s' => ?_⟩
    have q' := q H' s'
    refine ⟨_, _, rfl, rfl, _, rfl, ?_⟩
    refine ite2 (fun c => ?_) (fun c => ?_)
    · refine ⟨_, _, rfl, rfl, ?_⟩
      rw [show decide ((1 : Int) ≤ lmeas 5 d) = true from c, Bool.true_and] at q'
      exact q'
    · rw [show decide ((1 : Int) ≤ lmeas 5 d) = false from Bool.eq_false_iff.mpr c, Bool.false_and] at q'
      exact q'
theorem ok_same {f : Addr} {fd : FuncData} {k n : Nat} (F : Fun K "_law_same" "_law_same" s_law_same f fd) (m_isinstance : mg "isinstance" = none) (m_bool : mg "bool" = none) (m_int : mg "int" = none) (m_str : mg "str" = none) (m_dict : mg "dict" = none)
    (m_list : mg "list" = none) (m_tuple : mg "tuple" = none) (m_len : mg "len" = none) (m_all : mg "all" = none) (m_zip : mg "zip" = none)
    (C_law_same : Own P w K mg base k "_law_same" ["_law_found", "_law_due"] (spSame K n)) :
    FnOk P w K mg base CX0 (k + 1) f fd ["_law_found", "_law_due"] (spSame K (n + 1)) := by
  refine F.ok sc_law_same (fun vs H Q E h => ?_) (fun cdv A outer s H vs Q E hr h => ?_)
  · obtain ⟨v, v', d, m, rfl, _⟩ := h
    rfl
  · obtain ⟨v, v', d, m, rfl, hd, hd', hm, hg, q⟩ := h
    refine ⟨_, (pss_cons (ps_if (PW.pt (pw_or (pt_cmpR op_isN (pv 1) pe_non (nomark _)) (pw_or1 (pt_cmpR op_isN (pv 0) pe_non (nomark _)))))
        (pss_one (ps_ret (pe_and (pe_cmpR op_isN (pv 1) pe_non (nomark _)) (pe_one (pe_cmpR op_isN (pv 0) pe_non (nomark _))))))
        pss_nil)
      (pss_cons (ps_if (PW.pt (pw_or (pt_val (pe_isD (T := "bool") (by rfl) m_isinstance (by rfl) m_bool (pv 1))) (pw_or1 (pt_val (pe_isD (T := "bool") (by rfl) m_isinstance (by rfl) m_bool (pv 0))))))
        (pss_one (ps_ret (pe_and (pe_isD (T := "bool") (by rfl) m_isinstance (by rfl) m_bool (pv 1)) (pe_and (pe_isD (T := "bool") (by rfl) m_isinstance (by rfl) m_bool (pv 0)) (pe_one (pe_cmpR op_eq (pv 0) (pv 1) (nomark _)))))))
        pss_nil)
      (pss_cons (ps_if (PW.pt (pw_or (pt_val (pe_isD (T := "int") (by rfl) m_isinstance (by rfl) m_int (pv 1))) (pw_or1 (pt_val (pe_isD (T := "str") (by rfl) m_isinstance (by rfl) m_str (pv 1))))))
        (pss_one (ps_ret (pe_and (pe_cmpR op_eq (pe_isD (T := "int") (by rfl) m_isinstance (by rfl) m_int (pv 0)) (pe_isD (T := "int") (by rfl) m_isinstance (by rfl) m_int (pv 1)) (nomark _)) (pe_one (pe_cmpR op_eq (pv 0) (pv 1) (nomark _))))))
        pss_nil)
      (pss_cons (ps_if (pt_val (pe_isD (T := "dict") (by rfl) m_isinstance (by rfl) m_dict (pv 1)))
        pss_never
        pss_nil)
      (pss_cons (ps_if (PW.pt (pw_or (pt_cmpR op_ne (pe_isD (T := "list") (by rfl) m_isinstance (by rfl) m_list (pv 0)) (pe_isD (T := "list") (by rfl) m_isinstance (by rfl) m_list (pv 1)) (nomark _)) (pw_or1 (pt_cmpR op_ne (pe_isD (T := "tuple") (by rfl) m_isinstance (by rfl) m_tuple (pv 0)) (pe_isD (T := "tuple") (by rfl) m_isinstance (by rfl) m_tuple (pv 1)) (nomark _)))))
        (pss_one (ps_ret pe_bl))
        pss_nil)
      (pss_one (ps_ret (pe_and (pe_cmpR op_eq (pe_callB call_len_seq (by rfl) m_len (by decide +kernel) (pa_cons (pv 0) pa_nil)) (pe_callB call_len_seq (by rfl) m_len (by decide +kernel) (pa_cons (pv 1) pa_nil)) (nomark _)) (pe_one (pe_callB (cr_all rfl) (by rfl) m_all (by decide +kernel) (pa_cons (pe_lc (own := [("_law_one", 3), ("_law_other", 4)]) (g := gTup K 2 (gCons (gName 3) (gCons (gName 4) gNil))) (by rfl) sc_law_same.nd (RZ.pi_zipA (by rfl) m_zip (pa_cons (pv 0) (pa_cons (pv 1) pa_nil))) (blkOk_by (own := [("_law_one", 3), ("_law_other", 4)]) (N := N_law_same) (sc := defScope s_law_same) (by decide +kernel)) (fun _ _ _ _ _ => (pg_tup rfl (pgs_cons (pg_name (i := 3) sc_law_same.nd rfl (Or.inl rfl) (hf := Or.inr rfl)) (pgs_cons (pg_name (i := 4) sc_law_same.nd rfl (Or.inl rfl) (hf := Or.inr rfl)) pgs_nil)))) (fun _ _ _ _ _ => pts_nil) (fun _ _ _ _ _ => (pe_own C_law_same (hr.mono (by omega)) (by rfl) (pa_cons (pv 3) (pa_cons (pv 4) pa_nil))))) pa_nil))))))))))), ?_⟩
    have q0 := q H (Same.refl H)
    cases d with
    | none =>
      cases hd
      cases hd'
      exact ⟨_, rfl, rfl, _, rfl, iteT (iteT ⟨_, rfl, rfl, _, rfl, iteT ⟨_, rfl, rfl, q0⟩⟩)⟩
    | bool b =>
      refine ⟨_, rfl, rfl, _, rfl, ?_⟩
      cases hd
      cases hd'
      refine iteF ⟨_, rfl, rfl, _, rfl, iteF ?_⟩
      refine ⟨_, rfl, _, _, _, rfl, by decide, .bl b, _, rfl, iteT (iteT ⟨_, rfl, _, _, _, rfl, by decide, .bl b, _, rfl, iteT ⟨_, rfl, _, _, _, rfl, by decide, .bl b, _, rfl, iteT ⟨_, rfl, _, rfl, rfl, ?_⟩⟩⟩)⟩
      rw [decide_eq_true rfl]
      exact q0
    | int i =>
      refine ⟨_, rfl, rfl, _, rfl, ?_⟩
      cases hd
      cases hd'
      refine iteF ⟨_, rfl, rfl, _, rfl, iteF ?_⟩
      refine ⟨_, rfl, _, _, _, rfl, by decide, .int i, _, rfl, iteF ⟨_, rfl, _, _, _, rfl, by decide, .int i, _, rfl, iteF ?_⟩⟩
      refine ⟨_, rfl, _, _, _, rfl, by decide, .int i, _, rfl, iteT (iteT ⟨_, rfl, _, _, _, rfl, by decide, .int i, _, rfl, _, _, _, rfl, by decide, .int i, rfl, _, rfl, iteT ⟨_, rfl, _, rfl, rfl, ?_⟩⟩)⟩
      rw [decide_eq_true rfl]
      exact q0
    | str x =>
      refine ⟨_, rfl, rfl, _, rfl, ?_⟩
      cases hd
      cases hd'
      refine iteF ⟨_, rfl, rfl, _, rfl, iteF ?_⟩
      refine ⟨_, rfl, _, _, _, rfl, by decide, .str x, _, rfl, iteF ⟨_, rfl, _, _, _, rfl, by decide, .str x, _, rfl, iteF ?_⟩⟩
      refine ⟨_, rfl, _, _, _, rfl, by decide, .str x, _, rfl, iteF ⟨_, rfl, _, _, _, rfl, by decide, .str x, _, rfl, iteT ⟨_, rfl, _, _, _, rfl, by decide, .str x, _, rfl, _, _, _, rfl, by decide, .str x, rfl, _, rfl, iteT ⟨_, rfl, _, rfl, rfl, ?_⟩⟩⟩⟩
      rw [decide_eq_true rfl]
      exact q0
    | dict kvs => cases hd
    | list ds =>
      obtain ⟨a, xs, hs, ha, rfl⟩ : ∃ a xs, SqL K H a xs ∧ DpAll K H xs ds ∧ v = .ref a := by
        cases hd with | lst hs ha => exact ⟨_, _, hs, ha, rfl⟩
      obtain ⟨b, ys, hs', ha', rfl⟩ : ∃ b ys, SqL K H b ys ∧ DpAll K H ys ds ∧ v' = .ref b := by
        cases hd' with | lst hs ha => exact ⟨_, _, hs, ha, rfl⟩
      have D1 : Dp K H (.ref a) (.list ds) := .lst hs ha
      have D2 : Dp K H (.ref b) (.list ds) := .lst hs' ha'
      cases m with
      | zero => cases hg
      | succ m =>
      obtain ⟨lds, gds⟩ := gd_list hg
      have lx := dpAll_len ha
      have ly := dpAll_len ha'
      refine ⟨_, rfl, rfl, _, rfl, iteF ⟨_, rfl, rfl, _, rfl, iteF ?_⟩⟩
      refine ⟨_, rfl, _, _, _, rfl, by decide, D2, _, rfl, iteF ⟨_, rfl, _, _, _, rfl, by decide, D1, _, rfl, iteF ?_⟩⟩
      refine ⟨_, rfl, _, _, _, rfl, by decide, D2, _, rfl, iteF ⟨_, rfl, _, _, _, rfl, by decide, D2, _, rfl, iteF ?_⟩⟩
      refine ⟨_, rfl, _, _, _, rfl, by decide, D2, _, rfl, iteF ?_⟩
      refine ⟨_, rfl, _, _, _, rfl, by decide, D1, _, rfl, _, _, _, rfl, by decide, D2, rfl, _, rfl, iteF ⟨_, rfl, _, _, _, rfl, by decide, D1, _, rfl, _, _, _, rfl, by decide, D2, rfl, _, rfl, iteF ?_⟩⟩
      refine ⟨_, rfl, a, xs, rfl, .inl hs, _, rfl, b, ys, rfl, .inl hs', rfl, _, rfl, ?_⟩
      rw [lx, ly, decide_eq_true rfl]
      refine iteT ⟨_, rfl, _, rfl, a, b, xs, ys, rfl, .inl ⟨hs, hs', fun D nD => ?_⟩⟩
      refine lc_it (walk_zip (xs := xs) (ys := ys) (n := ds.length) (by omega)) (fun i H1 => Same H H1 ∧ H1 D = some (.lst ((List.replicate i true).map V.bl))) ⟨same_upd nD, upd_same⟩ (fun i H1 _ p => ⟨p.1.seq hs, p.1.seq hs'⟩) ?_ ?_
      · rintro i x H1 H2 hi ⟨sm, e⟩ ⟨T, x1, y1, rfl, nT, rfl, e1, e2⟩
        have sT : Same H1 (upd H1 T (.tup [x1, y1])) := same_upd nT
        obtain ⟨d1, g1, h1⟩ := dpAll_get ha e1
        obtain ⟨d2, g2, h2⟩ := dpAll_get ha' e2
        have ed : d2 = d1 := Option.some.inj (g2.symm.trans g1)
        subst ed
        refine ⟨T, [x1, y1], rfl, .inl (.inl upd_same), rfl, x1, [y1], rfl, y1, [], rfl, rfl, rfl, ?_⟩
        dsimp only [tYes]
        rw [if_pos rfl]
        refine ⟨_, rfl, _, rfl, x1, y1, d2, m, rfl, dp_same (sm.trans sT) _ _ h1, dp_same (sm.trans sT) _ _ h2, by omega, gds _ (List.mem_of_getElem? g1), fun H3 s3 => ?_⟩
        have e3 : H3 D = some (.lst ((List.replicate i true).map V.bl)) := s3 _ _ (sT _ _ e)
        refine ⟨_, e3, ?_, fun b' o' eb => ?_, ?_⟩
        · rw [List.length_map, List.length_replicate]
          exact small1000 (by omega)
        · rw [upd_ne (ne_of_none eb nD)]
          exact s3 _ _ (sT _ _ (sm _ _ eb))
        · rw [upd_same, List.replicate_succ']
          simp
      · rintro H1 ⟨sm, e⟩
        refine ⟨D, _, rfl, SqL.of e, ?_⟩
        rw [show (List.replicate ds.length true).all id = true by simp]
        exact q H1 sm
    | tuple ds =>
      obtain ⟨a, xs, hs, ha, rfl⟩ : ∃ a xs, SqT K H a xs ∧ DpAll K H xs ds ∧ v = .ref a := by
        cases hd with | tup hs ha => exact ⟨_, _, hs, ha, rfl⟩
      obtain ⟨b, ys, hs', ha', rfl⟩ : ∃ b ys, SqT K H b ys ∧ DpAll K H ys ds ∧ v' = .ref b := by
        cases hd' with | tup hs ha => exact ⟨_, _, hs, ha, rfl⟩
      have D1 : Dp K H (.ref a) (.tuple ds) := .tup hs ha
      have D2 : Dp K H (.ref b) (.tuple ds) := .tup hs' ha'
      cases m with
      | zero => cases hg
      | succ m =>
      obtain ⟨lds, gds⟩ := gd_tuple hg
      have lx := dpAll_len ha
      have ly := dpAll_len ha'
      refine ⟨_, rfl, rfl, _, rfl, iteF ⟨_, rfl, rfl, _, rfl, iteF ?_⟩⟩
      refine ⟨_, rfl, _, _, _, rfl, by decide, D2, _, rfl, iteF ⟨_, rfl, _, _, _, rfl, by decide, D1, _, rfl, iteF ?_⟩⟩
      refine ⟨_, rfl, _, _, _, rfl, by decide, D2, _, rfl, iteF ⟨_, rfl, _, _, _, rfl, by decide, D2, _, rfl, iteF ?_⟩⟩
      refine ⟨_, rfl, _, _, _, rfl, by decide, D2, _, rfl, iteF ?_⟩
      refine ⟨_, rfl, _, _, _, rfl, by decide, D1, _, rfl, _, _, _, rfl, by decide, D2, rfl, _, rfl, iteF ⟨_, rfl, _, _, _, rfl, by decide, D1, _, rfl, _, _, _, rfl, by decide, D2, rfl, _, rfl, iteF ?_⟩⟩
      refine ⟨_, rfl, a, xs, rfl, .inr hs, _, rfl, b, ys, rfl, .inr hs', rfl, _, rfl, ?_⟩
      rw [lx, ly, decide_eq_true rfl]
      refine iteT ⟨_, rfl, _, rfl, a, b, xs, ys, rfl, .inr ⟨hs, hs', fun D nD => ?_⟩⟩
      refine lc_it (walk_zipT (xs := xs) (ys := ys) (n := ds.length) (by omega)) (fun i H1 => Same H H1 ∧ H1 D = some (.lst ((List.replicate i true).map V.bl))) ⟨same_upd nD, upd_same⟩ (fun i H1 _ p => ⟨same_seqT p.1 hs, same_seqT p.1 hs'⟩) ?_ ?_
      · rintro i x H1 H2 hi ⟨sm, e⟩ ⟨T, x1, y1, rfl, nT, rfl, e1, e2⟩
        have sT : Same H1 (upd H1 T (.tup [x1, y1])) := same_upd nT
        obtain ⟨d1, g1, h1⟩ := dpAll_get ha e1
        obtain ⟨d2, g2, h2⟩ := dpAll_get ha' e2
        have ed : d2 = d1 := Option.some.inj (g2.symm.trans g1)
        subst ed
        refine ⟨T, [x1, y1], rfl, .inl (.inl upd_same), rfl, x1, [y1], rfl, y1, [], rfl, rfl, rfl, ?_⟩
        dsimp only [tYes]
        rw [if_pos rfl]
        refine ⟨_, rfl, _, rfl, x1, y1, d2, m, rfl, dp_same (sm.trans sT) _ _ h1, dp_same (sm.trans sT) _ _ h2, by omega, gds _ (List.mem_of_getElem? g1), fun H3 s3 => ?_⟩
        have e3 : H3 D = some (.lst ((List.replicate i true).map V.bl)) := s3 _ _ (sT _ _ e)
        refine ⟨_, e3, ?_, fun b' o' eb => ?_, ?_⟩
        · rw [List.length_map, List.length_replicate]
          exact small1000 (by omega)
        · rw [upd_ne (ne_of_none eb nD)]
          exact s3 _ _ (sT _ _ (sm _ _ eb))
        · rw [upd_same, List.replicate_succ']
          simp
      · rintro H1 ⟨sm, e⟩
        refine ⟨D, _, rfl, SqL.of e, ?_⟩
        rw [show (List.replicate ds.length true).all id = true by simp]
        exact q H1 sm
end
-- top 17  slots: 0:_law_source_here 1:_law_signs_here 2:_law_deep 3:_law_room 4:_law_many 5:_law_operator 6:_law_k
abbrev s_law_term : Stmt := topS 17
abbrev N_law_term : List Str := ["_law_source_here", "_law_signs_here", "_law_deep", "_law_room", "_law_many", "_law_operator", "_law_k"]
theorem sc_law_term : FnScope N_law_term ["_law_source_here", "_law_signs_here", "_law_deep", "_law_room"] (defScope s_law_term) := ⟨rfl, rfl, rfl, by decide +kernel, rfl, by decide +kernel, by decide +kernel⟩

-- top 18  slots: 0:_law_source_here 1:_law_signs_here
abbrev s_law_any_term : Stmt := topS 18
abbrev N_law_any_term : List Str := ["_law_source_here", "_law_signs_here"]
theorem sc_law_any_term : FnScope N_law_any_term ["_law_source_here"] (defScope s_law_any_term) := ⟨rfl, rfl, rfl, by decide +kernel, rfl, by decide +kernel, by decide +kernel⟩

section
variable {P : Program} {w : World} {K : PySem.W.Frag} {mg : Str → Option Value} {base : Heap}
theorem term_zero {f : Addr} {fd : FuncData} {k : Nat} : FnOk P w K mg base CX0 k f fd ["_law_source_here", "_law_signs_here", "_law_deep", "_law_room"] (spTerm K 0) := by
  have no : ∀ vs H Q E, ¬ spTerm K 0 vs H Q E := fun vs H Q E h => by
    obtain ⟨a, L, sg, r, ns, deep, m, ys, M, _, _, _, _, _, _, _, _, _, _, _, _, _, d1, d2, _⟩ := h
    omega
  exact ⟨fun vs H Q E h => absurd h (no vs H Q E), fun A outer s H args us vs Q E _ _ _ _ h => absurd h (no vs H Q E)⟩
theorem ok_term {f : Addr} {fd : FuncData} {k n : Nat} (F : Fun K "_law_term" "_law_term" s_law_term f fd) (m_tuple : mg "tuple" = none) (m_range : mg "range" = none) (hk : 2 ≤ k)
    (C_law_take : Own P w K mg base 1 "_law_take" ["_law_source_here", "_law_many"] spTake)
    (C_law_pick : Own P w K mg base 2 "_law_pick" ["_law_source_here", "_law_row"] spPick)
    (C_law_term : Own P w K mg base k "_law_term" ["_law_source_here", "_law_signs_here", "_law_deep", "_law_room"] (spTerm K n)) :
    FnOk P w K mg base CX0 (k + 1) f fd ["_law_source_here", "_law_signs_here", "_law_deep", "_law_room"] (spTerm K (n + 1)) := by
  refine F.ok sc_law_term (fun vs H Q E h => ?_) (fun cdv A outer s H vs Q E hr h => ?_)
  · obtain ⟨a, L, sg, r, ns, deep, m, ys, M, rfl, _⟩ := h
    rfl
  · obtain ⟨a, L, sg, r, ns, deep, m, ys, M, rfl, hs, hsg, y0, y8, hy, hR, sga, sgr, ra, rL, m0, m1, d1, d2, aM, rM, tM, q⟩ := h
    refine ⟨_, (pss_cons (ps_set (i := 4) sc_law_term.nd rfl (by first | exact .inl rfl | exact .inr rfl) (pe_op op_add pe_int (pe_op op_fdiv (pe_own C_law_take (hr.mono (by omega)) (by rfl) (pa_cons (pv 0) (pa_cons pe_int pa_nil))) pe_int)))
      (pss_cons (ps_if (PW.pt (pw_or (pt_cmpR op_lt (pv 2) pe_int (nomark _)) (pw_or (pt_cmpR op_lt (pe_ix ix_list (pv 3) pe_int (fun _ _ => rfl)) (pe_op op_sub (pv 4) pe_int) (nomark _)) (pw_or1 (pt_cmpR op_eq (pe_own C_law_take (hr.mono (by omega)) (by rfl) (pa_cons (pv 0) (pa_cons pe_int pa_nil))) pe_int (nomark _))))))
        (pss_one (ps_ret (pe_own C_law_pick (hr.mono (by omega)) (by rfl) (pa_cons (pv 0) (pa_cons (pv 1) pa_nil)))))
        pss_nil)
      (pss_cons (ps_asg (pe_op op_add (pe_op op_sub (pe_ix ix_list (pv 3) pe_int (fun _ _ => rfl)) (pv 4)) pe_int) (pg_sub (pv 3) pe_int set_list))
      (pss_cons (ps_set (i := 5) sc_law_term.nd rfl (by first | exact .inl rfl | exact .inr rfl) (pe_own C_law_pick (hr.mono (by omega)) (by rfl) (pa_cons (pv 0) (pa_cons (pe_lst (pa_cons pe_str (pa_cons pe_str pa_nil))) pa_nil))))
      (pss_one (ps_ret (pe_callTy call_tuple_of (by rfl) m_tuple (by decide +kernel) (pa_cons (pe_op op_cat (pe_lst (pa_cons (pv 5) pa_nil)) (pe_lc (own := [("_law_k", 6)]) (g := gName 6) (by rfl) sc_law_term.nd (pi_range1 (by rfl) m_range (pa_cons (pv 4) pa_nil)) (blkOk_by (own := [("_law_k", 6)]) (N := N_law_term) (sc := defScope s_law_term) (by decide +kernel)) (fun _ _ _ _ _ => pg_name (i := 6) sc_law_term.nd rfl (Or.inl rfl)) (fun _ _ _ _ _ => pts_nil) (fun _ _ _ _ _ => (pe_own C_law_term (hr.mono (by omega)) (by rfl) (pa_cons (pv 0) (pa_cons (pv 1) (pa_cons (pe_op op_sub (pv 2) pe_int) (pa_cons (pv 3) pa_nil)))))))) pa_nil)))))))), ?_⟩
    have fin : ∀ Hx, Src Hx a L ns → (∀ b, b ≠ a → Hx b = H b) → spPick [.ref a, .ref sg] Hx Q E0 := fun Hx hsx offx => by
      refine ⟨a, L, sg, ns, ys, rfl, hsx, sga, (offx sg sga).trans hsg, y0, by omega, fun H' v mv hs' off' => ?_⟩
      obtain ⟨x, rfl, hx⟩ := lett_data (hy v mv)
      obtain ⟨l1, l2⟩ := isL_lett hx
      refine q H' _ (.str x) m (.str x) ?_ m0 (Int.le_refl _) (gd_le l2 (Nat.zero_le _)) hs' (((off' r ra).trans (offx r ra)).trans hR) fun b o hb e => ?_
      · obtain ⟨j, ej⟩ : ∃ j, deep.toNat = j + 1 := ⟨deep.toNat - 1, by omega⟩
        rw [ej]
        show (if isL x = true then (1 : Int) else _) = _
        rw [if_pos l1]
        omega
      · have ba : b ≠ a := fun z => hb (by rw [z]; exact List.mem_cons_self ..)
        rw [off' b ba, offx b ba]
        exact e
    refine ⟨_, rfl, a, L, ns, 5, rfl, hs, by decide, by decide, fun H1 t t0 t1 hs1 off1 => ⟨_, _, rfl, rfl, ⟨by decide, by decide⟩, _, _, rfl, rfl, ?_⟩⟩
    have hR1 : H1 r = some (.lst [.int m]) := (off1 r ra).trans hR
    refine ⟨_, rfl, _, _, rfl, rfl, _, rfl, ?_⟩
    refine ite2 (fun c => iteT ⟨_, rfl, _, rfl, fin H1 hs1 off1⟩) (fun c => ?_)
    have cd : ¬ deep < 2 := of_decide_eq_false (Bool.eq_false_iff.mpr c)
    refine ⟨_, rfl, r, _, _, _, rfl, rfl, SqL.of hR1, rfl, _, rfl, _, _, rfl, rfl, _, _, rfl, rfl, _, rfl, ?_⟩
    refine ite2 (fun c => iteT ⟨_, rfl, _, rfl, fin H1 hs1 off1⟩) (fun c => ?_)
    have cm : ¬ m < 2 + t / 2 - 1 := of_decide_eq_false (Bool.eq_false_iff.mpr c)
    refine ⟨_, rfl, a, L, ns, 4, rfl, hs1, by decide, by decide, fun H2 t2 _ _ hs2 off2 => ⟨rfl, _, rfl, ?_⟩⟩
    have off12 : ∀ b, b ≠ a → H2 b = H b := fun b hb => (off2 b hb).trans (off1 b hb)
    refine ite2 (fun c => ⟨_, rfl, _, rfl, fin H2 hs2 off12⟩) (fun _ => ?_)
    have hR2 : H2 r = some (.lst [.int m]) := (off12 r ra).trans hR
    -- room[0] = room[0] - many + 1
    refine ⟨_, rfl, r, _, _, _, rfl, rfl, SqL.of hR2, rfl, _, rfl, _, _, rfl, rfl, _, _, rfl, rfl, _, rfl, r, _, _, _, rfl, rfl, hR2, rfl, ?_⟩
    have hs3 : Src (upd H2 r (.lst [.int (m - (2 + t / 2) + 1)])) a L ns := hs2.put ra rL
    have tM2 : Trk M (upd H2 r (.lst [.int (m - (2 + t / 2) + 1)])) := fun b hb => by
      by_cases br : b = r
      · rw [br]; exact ⟨_, upd_same⟩
      · rw [upd_ne br]
        by_cases ba : b = a
        · rw [ba]
          obtain ⟨_, _, _, _, e, _⟩ := hs2
          exact ⟨_, e⟩
        · rw [off12 b ba]; exact tM b hb
    -- operator
    refine ⟨_, rfl, (by show 2 ≤ sizeLine; decide), fun l nl => ?_⟩
    have sl := same_upd (o := .lst [.str "&", .str "|"]) nl
    have la : l ≠ a := (hs3.ne nl).symm
    refine ⟨a, L, l, ns, _, rfl, hs3.same sl, la, upd_same, by decide, by decide, fun H4 op mop hs4 off4 => ?_⟩
    obtain ⟨os, rfl, ho, go⟩ : ∃ os : Str, op = .str os ∧ isOp (.str os) = true ∧ gd 0 (.str os) = true := by
      rcases List.mem_cons.mp mop with e | e
      · exact ⟨_, e, isOp_str.1, by decide +kernel⟩
      · exact ⟨_, List.mem_singleton.mp e, isOp_str.2, by decide +kernel⟩
    -- what stands at H4
    have rl : r ≠ l := ne_of_none (H := upd H2 r (.lst [.int (m - (2 + t / 2) + 1)])) upd_same nl
    have hR4 : H4 r = some (.lst [.int (m - (2 + t / 2) + 1)]) := (off4 r ra).trans ((upd_ne rl).trans upd_same)
    have sm4 : SmX [a, r] H H4 := fun b o hb e => by
      have ba : b ≠ a := fun z => hb (by rw [z]; exact List.mem_cons_self ..)
      have br : b ≠ r := fun z => hb (by rw [z]; exact List.mem_cons_of_mem _ (List.mem_singleton.mpr rfl))
      rw [off4 b ba]
      exact sl b o ((upd_ne br).trans ((off12 b ba).trans e))
    have tM4 : Trk M H4 := fun b hb => by
      by_cases ba : b = a
      · rw [ba]
        obtain ⟨_, _, _, _, e, _⟩ := hs4
        exact ⟨_, e⟩
      · rw [off4 b ba]; exact (tM2.same sl) b hb
    have hsg4 : H4 sg = some (.lst ys) := sm4 _ _ (fun z => by
      rcases List.mem_cons.mp z with z | z
      · exact sga z
      · exact sgr (List.mem_singleton.mp z)) hsg
    -- [operator] + [..]
    refine ⟨_, rfl, (by show 1 ≤ sizeLine; decide), fun o1 no1 => ?_⟩
    have so := same_upd (o := .lst [.str os]) no1
    refine ⟨_, rfl, (2 + t / 2), rfl, by omega, by omega, fun D nD => ?_⟩
    have tMo : Trk M (upd H4 o1 (.lst [.str os])) := tM4.same so
    have DM : D ∉ M := tMo.ne nD
    have Da : D ≠ a := fun e => DM (e ▸ aM)
    have Dr : D ≠ r := fun e => DM (e ▸ rM)
    have sD := same_upd (o := .lst []) nD
    refine lc_range (lo := 0) (n := (2 + t / 2).toNat) (fun i Hi => ∃ (mi : Int) (acc : List V) (ds : List PyData), Src Hi a L ns ∧ Hi r = some (.lst [.int mi]) ∧ Hi D = some (.lst acc) ∧ acc.length = i ∧ DpAll K (hide (D :: M) Hi) acc ds ∧
      (∀ d ∈ ds, 1 ≤ lmeas (deep.toNat - 1) d ∧ gd (deep.toNat - 1) d = true) ∧ (ds.map (lmeas (deep.toNat - 1))).sum = (m - (2 + t / 2) + 1) - mi + i ∧ 0 ≤ mi ∧ mi ≤ m - (2 + t / 2) + 1 ∧ SmX [a, r] (upd H4 o1 (.lst [.str os])) Hi) ?_ ?_ ?_
    · refine ⟨_, [], [], (hs4.same so).same sD, sD _ _ (so _ _ hR4), upd_same, rfl, .nil, (fun d h => nomatch h), ?_, by omega, Int.le_refl _, .of_same sD⟩
      simp
    · rintro i Hi hi ⟨mi, acc, ds, hsi, hri, hDi, li, hda, hds, hsum, mi0, mi1, smi⟩
      refine ⟨rfl, ?_⟩
      dsimp only [tYes]
      rw [if_pos rfl]
      have tMi : Trk M Hi := tMo.smx smi fun b hb => by
        rcases List.mem_cons.mp hb with z | z
        · rw [z]
          obtain ⟨_, _, _, _, e, _⟩ := hsi
          exact ⟨_, e⟩
        · rw [List.mem_singleton.mp z]; exact ⟨_, hri⟩
      have hsgi : Hi sg = some (.lst ys) := smi _ _ (fun z => by
        rcases List.mem_cons.mp z with z | z
        · exact sga z
        · exact sgr (List.mem_singleton.mp z)) (so _ _ hsg4)
      refine ⟨_, rfl, _, rfl, _, rfl, _, _, rfl, rfl, _, rfl, a, L, sg, r, ns, deep - 1, mi, ys, D :: M, rfl, hsi, hsgi, y0, y8, hy, hri, sga, sgr, ra, rL, mi0, by omega, by omega, by omega, List.mem_cons_of_mem _ aM, List.mem_cons_of_mem _ rM, fun b hb => ?_, fun H5 v d m5 hd5 hl5 m50 m51 hg5 hs5 hr5 sm5 => ?_⟩
      · rcases List.mem_cons.mp hb with z | z
        · rw [z]; exact ⟨_, hDi⟩
        · exact tMi b z
      · have hD5 : H5 D = some (.lst acc) := sm5 _ _ (fun z => by
          rcases List.mem_cons.mp z with z | z
          · exact Da z
          · exact Dr (List.mem_singleton.mp z)) hDi
        have ed : (deep - 1).toNat = deep.toNat - 1 := by omega
        rw [ed] at hl5 hg5
        have hid : Same (hide (D :: M) Hi) (hide (D :: M) (upd H5 D (.lst (acc ++ [v])))) := (SmX.put (sm5.sub (M' := D :: M) fun b hb => by
          rcases List.mem_cons.mp hb with z | z
          · rw [z]; exact .inl (List.mem_cons_of_mem _ aM)
          · rw [List.mem_singleton.mp z]; exact .inl (List.mem_cons_of_mem _ rM)) (List.mem_cons_self ..)).hid
        have hid5 : Same (hide (D :: M) H5) (hide (D :: M) (upd H5 D (.lst (acc ++ [v])))) := (SmX.put (SmX.refl _ _) (List.mem_cons_self ..)).hid
        have Lr : r ≠ L := rL
        refine ⟨acc, hD5, ?_, m5, acc ++ [v], ds ++ [d], ?_, ?_, upd_same, ?_, ?_, ?_, ?_, m50, by omega, ?_⟩
        · exact small1000 (by omega)
        · refine hs5.put Da fun e => ?_
          obtain ⟨_, _, _, _, _, e2, _⟩ := hs
          have eL : (upd H4 o1 (.lst [.str os])) L = none := e ▸ nD
          obtain ⟨_, _, _, _, _, e3, _⟩ := hs4.same so
          rw [eL] at e3
          cases e3
        · rw [upd_ne Dr.symm]; exact hr5
        · rw [List.length_append, li]; rfl
        · exact dpAll_app (dpAll_same hid _ _ hda) (.cons (dp_same hid5 _ _ hd5) .nil)
        · intro d' hd'
          rcases List.mem_append.mp hd' with z | z
          · exact hds d' z
          · rw [List.mem_singleton.mp z]
            exact ⟨by omega, hg5⟩
        · rw [List.map_append, List.sum_append, hsum]
          simp only [List.map_cons, List.map_nil, List.sum_cons, List.sum_nil]
          omega
        · intro b o hb e
          rw [upd_ne (ne_of_none e nD)]
          exact sm5 b o hb (smi b o hb e)
    · rintro Hi ⟨mi, acc, ds, hsi, hri, hDi, li, hda, hds, hsum, mi0, mi1, smi⟩
      have o1a : o1 ≠ a := fun e => by
        obtain ⟨_, _, _, _, e', _⟩ := hs4
        rw [e, e'] at no1
        cases no1
      have o1r : o1 ≠ r := fun e => by
        rw [e, hR4] at no1
        cases no1
      have ho1 : Hi o1 = some (.lst [.str os]) := smi _ _ (fun z => by
        rcases List.mem_cons.mp z with z | z
        · exact o1a z
        · exact o1r (List.mem_singleton.mp z)) upd_same
      have tMi : Trk M Hi := tMo.smx smi fun b hb => by
        rcases List.mem_cons.mp hb with z | z
        · rw [z]
          obtain ⟨_, _, _, _, e, _⟩ := hsi
          exact ⟨_, e⟩
        · rw [List.mem_singleton.mp z]; exact ⟨_, hri⟩
      refine ⟨o1, D, _, _, rfl, rfl, ho1, hDi, ?_, fun cc ncc => ?_⟩
      · rw [li]
        exact le1000 (by show 1 + _ ≤ 1000; omega)
      have sc := same_upd (o := .lst ([.str os] ++ acc)) ncc
      refine ⟨cc, _, rfl, .inl ⟨SqL.of upd_same, fun p np => ?_⟩⟩
      have sp := same_upd (o := .tup ([.str os] ++ acc)) np
      have tMc : Trk M (upd Hi cc (.lst ([.str os] ++ acc))) := tMi.same sc
      have lds := dpAll_len hda
      obtain ⟨j, ej⟩ : ∃ j, deep.toNat = j + 1 := ⟨deep.toNat - 1, by omega⟩
      have ej1 : deep.toNat - 1 = j := by omega
      rw [ej1] at hds hsum
      have hidA : Same (hide (D :: M) Hi) (hide M (upd (upd Hi cc (.lst ([.str os] ++ acc))) p (.tup ([.str os] ++ acc)))) :=
        (hide_sub fun b hb => List.mem_cons_of_mem _ hb).trans (SmX.of_same (sc.trans sp)).hid
      refine q _ (.ref p) (.tuple (.str os :: ds)) mi (.tup (SqT.of (hid_at tMc np)) (.cons (.str os) (dpAll_same hidA _ _ hda))) ?_ mi0 (by omega) ?_ ((hsi.same sc).same sp) (sp _ _ (sc _ _ hri)) (sm4.trans ((SmX.of_same so).trans (smi.trans (.of_same (sc.trans sp)))))
      · rw [ej]
        refine lmeas_tup ho (by omega) (fun d hd => (hds d hd).1) ?_
        rw [hsum]
        omega
      · rw [ej]
        refine gd_tup (fun d hd => ?_) (by rw [List.length_cons]; omega)
        rcases List.mem_cons.mp hd with z | z
        · rw [z]; exact gd_le go (Nat.zero_le _)
        · exact (hds d z).2
end
-- top 23  slots: 0:_law_many 1:_law_word 2:_law_k
abbrev s_law_nest : Stmt := topS 23
abbrev N_law_nest : List Str := ["_law_many", "_law_word", "_law_k"]
theorem sc_law_nest : FnScope N_law_nest ["_law_many"] (defScope s_law_nest) := ⟨rfl, rfl, rfl, by decide +kernel, rfl, by decide +kernel, by decide +kernel⟩

-- top 22  slots: 0:_law_source_here 1:_law_word 2:_law_some
abbrev s_law_odd : Stmt := topS 22
abbrev N_law_odd : List Str := ["_law_source_here", "_law_word", "_law_some"]
theorem sc_law_odd : FnScope N_law_odd ["_law_source_here", "_law_word"] (defScope s_law_odd) := ⟨rfl, rfl, rfl, by decide +kernel, rfl, by decide +kernel, by decide +kernel⟩

theorem pos22 : (0 : Int) < 2 := by decide
section
variable {P : Program} {w : World} {K : PySem.W.Frag} {mg : Str → Option Value} {base : Heap}
theorem ok_any_term {f : Addr} {fd : FuncData} {k : Nat} (F : Fun K "_law_any_term" "_law_any_term" s_law_any_term f fd) (hk : 3 ≤ k)
    (C_law_take : Own P w K mg base 1 "_law_take" ["_law_source_here", "_law_many"] spTake)
    (C_law_pick : Own P w K mg base 2 "_law_pick" ["_law_source_here", "_law_row"] spPick)
    (C_law_signs : Own P w K mg base 3 "_law_signs" ["_law_source_here", "_law_most"] spSigns)
    (C_law_term : Own P w K mg base k "_law_term" ["_law_source_here", "_law_signs_here", "_law_deep", "_law_room"] (spTerm K 5)) :
    FnOk P w K mg base CX0 (k + 1) f fd ["_law_source_here"] (spAnyTerm K) := by
  refine F.ok sc_law_any_term (fun vs H Q E h => ?_) (fun cdv A outer s H vs Q E hr h => ?_)
  · obtain ⟨a, L, ns, M, rfl, _⟩ := h
    rfl
  · obtain ⟨a, L, ns, M, rfl, hs, aM, tM, q⟩ := h
    refine ⟨_, (pss_cons (ps_set (i := 1) sc_law_any_term.nd rfl (by first | exact .inl rfl | exact .inr rfl) (pe_own C_law_signs (hr.mono (by omega)) (by rfl) (pa_cons (pv 0) (pa_cons pe_int pa_nil))))
      (pss_one (ps_ret (pe_own C_law_term (hr.mono (by omega)) (by rfl) (pa_cons (pv 0) (pa_cons (pv 1) (pa_cons (pe_op op_add pe_int (pe_own C_law_take (hr.mono (by omega)) (by rfl) (pa_cons (pv 0) (pa_cons pe_int pa_nil)))) (pa_cons (pe_lst (pa_cons (pe_own C_law_pick (hr.mono (by omega)) (by rfl) (pa_cons (pv 0) (pa_cons (pe_lst (pa_cons pe_int (pa_cons pe_int (pa_cons pe_int pa_nil)))) pa_nil))) pa_nil)) pa_nil)))))))), ?_⟩
    refine ⟨_, rfl, a, L, ns, 8, rfl, hs, by decide, by decide, fun H1 sg ys y0 y8 hy _ nsg hsg hs1 sm1 => ?_⟩
    have sga : sg ≠ a := (hs.ne nsg).symm
    refine ⟨_, rfl, _, rfl, _, rfl, a, L, ns, 5, rfl, hs1, by decide, by decide, fun H2 t t0 t1 hs2 off2 => ⟨_, _, rfl, rfl, ?_⟩⟩
    refine ⟨_, rfl, (by show 3 ≤ sizeLine; decide), fun l nl => ?_⟩
    have sl := same_upd (o := .lst [.int 2, .int 7, .int 23]) nl
    refine ⟨a, L, l, ns, _, rfl, hs2.same sl, (hs2.ne nl).symm, upd_same, by decide, by decide, fun H3 v mv hs3 off3 => ?_⟩
    obtain ⟨m, rfl, m0, m23⟩ : ∃ m : Int, v = .int m ∧ 0 ≤ m ∧ m ≤ 23 := by
      simp only [List.mem_cons, List.not_mem_nil, or_false] at mv
      rcases mv with e | e | e
      · exact ⟨2, e, by decide, by decide⟩
      · exact ⟨7, e, by decide, by decide⟩
      · exact ⟨23, e, by decide, by decide⟩
    refine ⟨(by show 1 ≤ sizeLine; decide), fun r nr => ?_⟩
    have sr := same_upd (o := .lst [.int m]) nr
    have smA : SmX [a] H H3 := sm1.trans ((SmX.at off2 (List.mem_singleton.mpr rfl)).trans ((SmX.of_same sl).trans (SmX.at off3 (List.mem_singleton.mpr rfl))))
    have tM3 : Trk M H3 := tM.smx smA hs3.trk
    have hsg3 : H3 sg = some (.lst ys) := (off3 sg sga).trans (sl _ _ ((off2 sg sga).trans hsg))
    have rL : r ≠ L := fun e => by
      obtain ⟨_, _, _, _, _, e2, _⟩ := hs3
      rw [← e, nr] at e2
      cases e2
    have rn : H r = none := by
      by_cases e : r = a
      · exact absurd e (hs3.ne nr).symm
      · cases eh : H r with
        | none => rfl
        | some o =>
          have := smA r o (fun z => e (List.mem_singleton.mp z)) eh
          rw [nr] at this
          cases this
    refine ⟨a, L, sg, r, ns, 1 + t, m, ys, r :: M, rfl, hs3.same sr, sr _ _ hsg3, y0, by omega, hy, upd_same, sga, ne_of_none hsg3 nr, (hs3.ne nr).symm, rL, m0, by omega, by omega, by omega, List.mem_cons_of_mem _ aM, List.mem_cons_self .., fun b hb => ?_, fun H5 v5 d m5 hd hl m50 m51 hg hs5 hr5 sm5 => ?_⟩
    · rcases List.mem_cons.mp hb with z | z
      · rw [z]; exact ⟨_, upd_same⟩
      · exact (tM3.same sr) b z
    · refine q H5 v5 d (1 + t).toNat (dp_same (hide_sub fun b hb => List.mem_cons_of_mem _ hb) d v5 hd) (by omega) (by omega) (by omega) (by omega) hg hs5 ?_
      intro b o hb e
      have br : b ≠ r := ne_of_none e rn
      refine sm5 b o (fun z => ?_) (sr _ _ (smA b o hb e))
      rcases List.mem_cons.mp z with z | z
      · exact hb (by rw [z]; exact List.mem_singleton.mpr rfl)
      · exact br (List.mem_singleton.mp z)
theorem ok_nest {f : Addr} {fd : FuncData} {k : Nat} (F : Fun K "_law_nest" "_law_nest" s_law_nest f fd) (m_range : mg "range" = none) (m_int : mg "int" = none) :
    FnOk P w K mg base CX0 (k + 1) f fd ["_law_many"] (spNest K) := by
  refine F.ok sc_law_nest (fun vs H Q E h => ?_) (fun cdv A outer s H vs Q E hr h => ?_)
  · obtain ⟨n, M, rfl, _⟩ := h
    rfl
  · obtain ⟨n, M, rfl, hn, tM, q⟩ := h
    refine ⟨_, (pss_cons (ps_set (i := 1) sc_law_nest.nd rfl (by first | exact .inl rfl | exact .inr rfl) pe_str)
      (pss_cons (ps_for PassesOwn.never rfl (pi_range1 (by rfl) m_range (pa_cons (pv 0) pa_nil)) (pg_name (i := 2) sc_law_nest.nd rfl (by first | exact .inl rfl | exact .inr rfl))
        (pss_one (ps_set (i := 1) sc_law_nest.nd rfl (by first | exact .inl rfl | exact .inr rfl) (pe_tup (pa_cons (pe_ix ix_list (pe_lst (pa_cons pe_str (pa_cons pe_str pa_nil))) (pe_op op_mod (pe_callTy call_int1 (by rfl) m_int (by decide +kernel) (pa_cons (pv 2) pa_nil)) pe_int) (fun _ _ => rfl)) (pa_cons (pv 1) (pa_cons pe_str pa_nil)))))))
      (pss_one (ps_ret (pv 1))))), ?_⟩
    refine ⟨_, rfl, (n : Int), rfl, by omega, by omega, for_range (lo := 0) (n := (n : Int).toNat) (fun i σ Hi => ∃ (v : V) (y : Option V), σ = [some (.int (n : Nat)), some v, y] ∧ Dp K (hide M Hi) v (nestD i) ∧ Same H Hi) ?_ ?_ ?_⟩
    · exact ⟨_, none, rfl, .str _, Same.refl _⟩
    · rintro i σ Hi hi ⟨v, y, rfl, hd, sm⟩
      refine ⟨(by show 2 ≤ sizeLine; decide), fun l nl => ?_⟩
      have sl := same_upd (o := .lst [.str "&", .str "|"]) nl
      refine ⟨_, rfl, .inl ⟨_, rfl, _, _, rfl, rfl, pos22, ?_⟩⟩
      have hx : atI [V.str "&", V.str "|"] ((0 + (i : Int)) % 2) = some (.str (if i % 2 = 0 then "&" else "|")) := by
        rcases Nat.mod_two_eq_zero_or_one i with e | e
        · rw [show (0 + (i : Int)) % 2 = 0 by omega, if_pos e]; rfl
        · rw [show (0 + (i : Int)) % 2 = 1 by omega, if_neg (by omega)]; rfl
      refine ⟨l, _, _, _, rfl, rfl, SqL.of upd_same, hx, _, rfl, (by show 3 ≤ sizeLine; decide), fun p np => ?_⟩
      have sp := same_upd (o := .tup [.str (if i % 2 = 0 then "&" else "|"), v, .str "b"]) np
      refine ⟨_, _, rfl, ?_, sm.trans (sl.trans sp)⟩
      have tMi : Trk M (upd Hi l (.lst [.str "&", .str "|"])) := (tM.same sm).same sl
      exact .tup (SqT.of (hid_at tMi np)) (.cons (.str _) (.cons (dp_same (SmX.of_same (sl.trans sp)).hid _ _ hd) (.cons (.str _) .nil)))
    · rintro σ Hi ⟨v, y, rfl, hd, sm⟩
      rw [Int.toNat_natCast] at hd
      exact ⟨_, rfl, q Hi v hd sm⟩
end
theorem all_nil {P : V → Prop} : ∀ y ∈ ([] : List V), P y := fun y h => nomatch h
theorem all_cons {P : V → Prop} {x : V} {xs : List V} (h : P x) (t : ∀ y ∈ xs, P y) : ∀ y ∈ x :: xs, P y := fun y hy => by
  rcases List.mem_cons.mp hy with e | e
  · rw [e]; exact h
  · exact t y e
theorem all_app {P : V → Prop} {xs ys : List V} (h : ∀ y ∈ xs, P y) (t : ∀ y ∈ ys, P y) : ∀ y ∈ xs ++ ys, P y := fun y hy => by
  rcases List.mem_append.mp hy with e | e
  · exact h y e
  · exact t y e
section
variable {P : Program} {w : World} {K : PySem.W.Frag} {mg : Str → Option Value} {base : Heap}
theorem ok_odd {f : Addr} {fd : FuncData} {k : Nat} (F : Fun K "_law_odd" "_law_odd" s_law_odd f fd) (hk : 2 ≤ k)
    (C_law_pick : Own P w K mg base 2 "_law_pick" ["_law_source_here", "_law_row"] spPick)
    (C_law_nest : Own P w K mg base 1 "_law_nest" ["_law_many"] (spNest K)) :
    FnOk P w K mg base CX0 (k + 1) f fd ["_law_source_here", "_law_word"] (spOdd K) := by
  refine F.ok sc_law_odd (fun vs H Q E h => ?_) (fun cdv A outer s H vs Q E hr h => ?_)
  · obtain ⟨a, L, ns, v, M, rfl, _⟩ := h
    rfl
  · obtain ⟨a, L, ns, v, M, rfl, hs, gw, aM, t0, q⟩ := h
    have a0 : Same H H := Same.refl H
    refine ⟨_, (pss_cons (ps_set (i := 2) sc_law_odd.nd rfl (by first | exact .inl rfl | exact .inr rfl) (pe_lst (pa_cons pe_non (pa_cons pe_int (pa_cons pe_str (pa_cons pe_str (pa_cons pe_str (pa_cons pe_str (pa_cons (pe_tup pa_nil) (pa_cons (pe_tup (pa_cons pe_str pa_nil)) (pa_cons (pe_tup (pa_cons pe_str (pa_cons pe_str pa_nil))) (pa_cons (pe_tup (pa_cons pe_str (pa_cons pe_str (pa_cons pe_str pa_nil)))) (pa_cons (pe_tup (pa_cons pe_str (pa_cons pe_str (pa_cons pe_str pa_nil)))) (pa_cons (pe_lst (pa_cons pe_str (pa_cons pe_str (pa_cons pe_str pa_nil)))) pa_nil))))))))))))))
      (pss_cons (ps_set (i := 2) sc_law_odd.nd rfl (by first | exact .inl rfl | exact .inr rfl) (pe_op op_cat (pv 2) (pe_lst (pa_cons (pe_tup (pa_cons pe_str (pa_cons pe_str (pa_cons pe_non pa_nil)))) (pa_cons (pe_tup (pa_cons pe_str (pa_cons (pv 1) (pa_cons (pe_tup (pa_cons pe_str (pa_cons pe_str pa_nil))) pa_nil)))) (pa_cons (pe_tup (pa_cons (pv 1) pa_nil)) (pa_cons (pe_tup (pa_cons pe_str (pa_cons (pe_tup (pa_cons pe_str (pa_cons pe_str pa_nil))) (pa_cons (pv 1) pa_nil)))) (pa_cons (pe_tup (pa_cons pe_bl (pa_cons pe_str (pa_cons pe_str pa_nil)))) pa_nil))))))))
      (pss_cons (ps_set (i := 2) sc_law_odd.nd rfl (by first | exact .inl rfl | exact .inr rfl) (pe_op op_cat (pv 2) (pe_lst (pa_cons (pe_tup (pa_cons pe_str (pa_cons (pe_lst (pa_cons pe_str pa_nil)) (pa_cons (pv 1) pa_nil)))) (pa_cons (pe_tup (pa_cons pe_str (pa_cons (pv 1) (pa_cons pe_str pa_nil)))) (pa_cons (pe_tup (pa_cons pe_str (pa_cons (pv 1) (pa_cons (pv 1) pa_nil)))) (pa_cons (pe_tup (pa_cons (pe_tup (pa_cons pe_str (pa_cons pe_str (pa_cons pe_str pa_nil)))) (pa_cons pe_str (pa_cons pe_str pa_nil)))) (pa_cons (pe_own C_law_nest (hr.mono (by omega)) (by rfl) (pa_cons pe_int pa_nil)) pa_nil))))))))
      (pss_one (ps_ret (pe_own C_law_pick (hr.mono (by omega)) (by rfl) (pa_cons (pv 0) (pa_cons (pv 2) pa_nil)))))))), ?_⟩
    refine ⟨(by show 0 ≤ sizeLine; decide), fun p1 n1 => ?_⟩
    have s1 := same_upd (o := .tup []) n1
    have g1 : GV K 1 M _ (.ref p1) := GV.tup (n := 0) (xs := []) t0 n1 all_nil (Nat.le_of_ble_eq_true rfl)
    have a1 := a0.trans s1
    have t1 := t0.same s1
    refine ⟨(by show 1 ≤ sizeLine; decide), fun p2 n2 => ?_⟩
    have s2 := same_upd (o := .tup [.str "&"]) n2
    have g2 : GV K 1 M _ (.ref p2) := GV.tup (n := 0) (xs := [.str "&"]) t1 n2 (all_cons (GV.str (x := "&") (by decide +kernel)) all_nil) (Nat.le_of_ble_eq_true rfl)
    have a2 := a1.trans s2
    have t2 := t1.same s2
    refine ⟨(by show 2 ≤ sizeLine; decide), fun p3 n3 => ?_⟩
    have s3 := same_upd (o := .tup [.str "&", .str "a"]) n3
    have g3 : GV K 1 M _ (.ref p3) := GV.tup (n := 0) (xs := [.str "&", .str "a"]) t2 n3 (all_cons (GV.str (x := "&") (by decide +kernel)) (all_cons (GV.str (x := "a") (by decide +kernel)) all_nil)) (Nat.le_of_ble_eq_true rfl)
    have a3 := a2.trans s3
    have t3 := t2.same s3
    refine ⟨(by show 3 ≤ sizeLine; decide), fun p4 n4 => ?_⟩
    have s4 := same_upd (o := .tup [.str "|", .str "a", .str "z"]) n4
    have g4 : GV K 1 M _ (.ref p4) := GV.tup (n := 0) (xs := [.str "|", .str "a", .str "z"]) t3 n4 (all_cons (GV.str (x := "|") (by decide +kernel)) (all_cons (GV.str (x := "a") (by decide +kernel)) (all_cons (GV.str (x := "z") (by decide +kernel)) all_nil))) (Nat.le_of_ble_eq_true rfl)
    have a4 := a3.trans s4
    have t4 := t3.same s4
    refine ⟨(by show 3 ≤ sizeLine; decide), fun p5 n5 => ?_⟩
    have s5 := same_upd (o := .tup [.str "and", .str "a", .str "b"]) n5
    have g5 : GV K 1 M _ (.ref p5) := GV.tup (n := 0) (xs := [.str "and", .str "a", .str "b"]) t4 n5 (all_cons (GV.str (x := "and") (by decide +kernel)) (all_cons (GV.str (x := "a") (by decide +kernel)) (all_cons (GV.str (x := "b") (by decide +kernel)) all_nil))) (Nat.le_of_ble_eq_true rfl)
    have a5 := a4.trans s5
    have t5 := t4.same s5
    refine ⟨(by show 3 ≤ sizeLine; decide), fun p6 n6 => ?_⟩
    have s6 := same_upd (o := .lst [.str "&", .str "a", .str "b"]) n6
    have g6 : GV K 1 M _ (.ref p6) := GV.lst (n := 0) (xs := [.str "&", .str "a", .str "b"]) t5 n6 (all_cons (GV.str (x := "&") (by decide +kernel)) (all_cons (GV.str (x := "a") (by decide +kernel)) (all_cons (GV.str (x := "b") (by decide +kernel)) all_nil))) (Nat.le_of_ble_eq_true rfl)
    have a6 := a5.trans s6
    have t6 := t5.same s6
    refine ⟨(by show 12 ≤ sizeLine; decide), fun l1 nl1 => ?_⟩
    have s7 := same_upd (o := .lst [.non, .int 3, .str "", .str "i", .str "A", .str "ab", .ref p1, .ref p2, .ref p3, .ref p4, .ref p5, .ref p6]) nl1
    have a7 := a6.trans s7
    have t7 := t6.same s7
    refine ⟨_, rfl, ?_⟩
    refine ⟨(by show 3 ≤ sizeLine; decide), fun p8 n8 => ?_⟩
    have s8 := same_upd (o := .tup [.str "&", .str "a", .non]) n8
    have g8 : GV K 1 M _ (.ref p8) := GV.tup (n := 0) (xs := [.str "&", .str "a", .non]) t7 n8 (all_cons (GV.str (x := "&") (by decide +kernel)) (all_cons (GV.str (x := "a") (by decide +kernel)) (all_cons GV.non all_nil))) (Nat.le_of_ble_eq_true rfl)
    have a8 := a7.trans s8
    have t8 := t7.same s8
    refine ⟨_, rfl, ?_⟩
    refine ⟨(by show 2 ≤ sizeLine; decide), fun p9 n9 => ?_⟩
    have s9 := same_upd (o := .tup [.str "a", .str "b"]) n9
    have g9 : GV K 1 M _ (.ref p9) := GV.tup (n := 0) (xs := [.str "a", .str "b"]) t8 n9 (all_cons (GV.str (x := "a") (by decide +kernel)) (all_cons (GV.str (x := "b") (by decide +kernel)) all_nil)) (Nat.le_of_ble_eq_true rfl)
    have a9 := a8.trans s9
    have t9 := t8.same s9
    refine ⟨(by show 3 ≤ sizeLine; decide), fun p10 n10 => ?_⟩
    have s10 := same_upd (o := .tup [.str "&", v, .ref p9]) n10
    have g10 : GV K 6 M _ (.ref p10) := GV.tup (n := 5) (xs := [.str "&", v, .ref p9]) t9 n10 (all_cons (GV.str (x := "&") (by decide +kernel)) (all_cons (gw.same a9) (all_cons (g9.up (by decide)) all_nil))) (Nat.le_of_ble_eq_true rfl)
    have a10 := a9.trans s10
    have t10 := t9.same s10
    refine ⟨_, rfl, ?_⟩
    refine ⟨(by show 1 ≤ sizeLine; decide), fun p11 n11 => ?_⟩
    have s11 := same_upd (o := .tup [v]) n11
    have g11 : GV K 6 M _ (.ref p11) := GV.tup (n := 5) (xs := [v]) t10 n11 (all_cons (gw.same a10) all_nil) (Nat.le_of_ble_eq_true rfl)
    have a11 := a10.trans s11
    have t11 := t10.same s11
    refine ⟨(by show 2 ≤ sizeLine; decide), fun p12 n12 => ?_⟩
    have s12 := same_upd (o := .tup [.str "|", .str "b"]) n12
    have g12 : GV K 1 M _ (.ref p12) := GV.tup (n := 0) (xs := [.str "|", .str "b"]) t11 n12 (all_cons (GV.str (x := "|") (by decide +kernel)) (all_cons (GV.str (x := "b") (by decide +kernel)) all_nil)) (Nat.le_of_ble_eq_true rfl)
    have a12 := a11.trans s12
    have t12 := t11.same s12
    refine ⟨_, rfl, ?_⟩
    refine ⟨(by show 3 ≤ sizeLine; decide), fun p13 n13 => ?_⟩
    have s13 := same_upd (o := .tup [.str "&", .ref p12, v]) n13
    have g13 : GV K 6 M _ (.ref p13) := GV.tup (n := 5) (xs := [.str "&", .ref p12, v]) t12 n13 (all_cons (GV.str (x := "&") (by decide +kernel)) (all_cons (g12.up (by decide)) (all_cons (gw.same a12) all_nil))) (Nat.le_of_ble_eq_true rfl)
    have a13 := a12.trans s13
    have t13 := t12.same s13
    refine ⟨(by show 3 ≤ sizeLine; decide), fun p14 n14 => ?_⟩
    have s14 := same_upd (o := .tup [.bl true, .str "a", .str "b"]) n14
    have g14 : GV K 1 M _ (.ref p14) := GV.tup (n := 0) (xs := [.bl true, .str "a", .str "b"]) t13 n14 (all_cons (GV.bl _) (all_cons (GV.str (x := "a") (by decide +kernel)) (all_cons (GV.str (x := "b") (by decide +kernel)) all_nil))) (Nat.le_of_ble_eq_true rfl)
    have a14 := a13.trans s14
    have t14 := t13.same s14
    refine ⟨(by show 5 ≤ sizeLine; decide), fun m0 nm0 => ?_⟩
    have s15 := same_upd (o := .lst [.ref p8, .ref p10, .ref p11, .ref p13, .ref p14]) nm0
    have a15 := a14.trans s15
    have t15 := t14.same s15
    have hp0 : _ := (s8.trans (s9.trans (s10.trans (s11.trans (s12.trans (s13.trans (s14.trans s15))))))) _ _ (upd_same (o := .lst ([.non, .int 3, .str "", .str "i", .str "A", .str "ab", .ref p1, .ref p2, .ref p3, .ref p4, .ref p5, .ref p6])))
    refine ⟨l1, m0, _, _, rfl, rfl, hp0, upd_same, le1000 (Nat.le_of_ble_eq_true rfl), fun c0 nc0 => ?_⟩
    have s16 := same_upd (o := .lst ([.non, .int 3, .str "", .str "i", .str "A", .str "ab", .ref p1, .ref p2, .ref p3, .ref p4, .ref p5, .ref p6] ++ [.ref p8, .ref p10, .ref p11, .ref p13, .ref p14])) nc0
    have a16 := a15.trans s16
    have t16 := t15.same s16
    refine ⟨_, rfl, ?_⟩
    refine ⟨(by show 1 ≤ sizeLine; decide), fun p17 n17 => ?_⟩
    have s17 := same_upd (o := .lst [.str "a"]) n17
    have g17 : GV K 1 M _ (.ref p17) := GV.lst (n := 0) (xs := [.str "a"]) t16 n17 (all_cons (GV.str (x := "a") (by decide +kernel)) all_nil) (Nat.le_of_ble_eq_true rfl)
    have a17 := a16.trans s17
    have t17 := t16.same s17
    refine ⟨_, rfl, ?_⟩
    refine ⟨(by show 3 ≤ sizeLine; decide), fun p18 n18 => ?_⟩
    have s18 := same_upd (o := .tup [.str "|", .ref p17, v]) n18
    have g18 : GV K 6 M _ (.ref p18) := GV.tup (n := 5) (xs := [.str "|", .ref p17, v]) t17 n18 (all_cons (GV.str (x := "|") (by decide +kernel)) (all_cons (g17.up (by decide)) (all_cons (gw.same a17) all_nil))) (Nat.le_of_ble_eq_true rfl)
    have a18 := a17.trans s18
    have t18 := t17.same s18
    refine ⟨_, rfl, ?_⟩
    refine ⟨(by show 3 ≤ sizeLine; decide), fun p19 n19 => ?_⟩
    have s19 := same_upd (o := .tup [.str "&", v, .str ""]) n19
    have g19 : GV K 6 M _ (.ref p19) := GV.tup (n := 5) (xs := [.str "&", v, .str ""]) t18 n19 (all_cons (GV.str (x := "&") (by decide +kernel)) (all_cons (gw.same a18) (all_cons (GV.str (x := "") (by decide +kernel)) all_nil))) (Nat.le_of_ble_eq_true rfl)
    have a19 := a18.trans s19
    have t19 := t18.same s19
    refine ⟨_, rfl, ?_⟩
    refine ⟨_, rfl, ?_⟩
    refine ⟨(by show 3 ≤ sizeLine; decide), fun p20 n20 => ?_⟩
    have s20 := same_upd (o := .tup [.str "", v, v]) n20
    have g20 : GV K 6 M _ (.ref p20) := GV.tup (n := 5) (xs := [.str "", v, v]) t19 n20 (all_cons (GV.str (x := "") (by decide +kernel)) (all_cons (gw.same a19) (all_cons (gw.same a19) all_nil))) (Nat.le_of_ble_eq_true rfl)
    have a20 := a19.trans s20
    have t20 := t19.same s20
    refine ⟨(by show 3 ≤ sizeLine; decide), fun p21 n21 => ?_⟩
    have s21 := same_upd (o := .tup [.str "&", .str "a", .str "b"]) n21
    have g21 : GV K 1 M _ (.ref p21) := GV.tup (n := 0) (xs := [.str "&", .str "a", .str "b"]) t20 n21 (all_cons (GV.str (x := "&") (by decide +kernel)) (all_cons (GV.str (x := "a") (by decide +kernel)) (all_cons (GV.str (x := "b") (by decide +kernel)) all_nil))) (Nat.le_of_ble_eq_true rfl)
    have a21 := a20.trans s21
    have t21 := t20.same s21
    refine ⟨(by show 3 ≤ sizeLine; decide), fun p22 n22 => ?_⟩
    have s22 := same_upd (o := .tup [.ref p21, .str "a", .str "b"]) n22
    have g22 : GV K 2 M _ (.ref p22) := GV.tup (n := 1) (xs := [.ref p21, .str "a", .str "b"]) t21 n22 (all_cons g21 (all_cons (GV.str (x := "a") (by decide +kernel)) (all_cons (GV.str (x := "b") (by decide +kernel)) all_nil))) (Nat.le_of_ble_eq_true rfl)
    have a22 := a21.trans s22
    have t22 := t21.same s22
    refine ⟨10, M, rfl, by decide, t22, fun H23 p23 hd23 s23 => ?_⟩
    have a23 := a22.trans s23
    have t23 := t22.same s23
    have g23 : GV K 10 M H23 p23 := ⟨_, hd23, nest_gd 10⟩
    refine ⟨(by show 5 ≤ sizeLine; decide), fun m1 nm1 => ?_⟩
    have s24 := same_upd (o := .lst [.ref p18, .ref p19, .ref p20, .ref p22, p23]) nm1
    have a24 := a23.trans s24
    have t24 := t23.same s24
    have hp1 : _ := (s17.trans (s18.trans (s19.trans (s20.trans (s21.trans (s22.trans (s23.trans s24))))))) _ _ (upd_same (o := .lst ([.non, .int 3, .str "", .str "i", .str "A", .str "ab", .ref p1, .ref p2, .ref p3, .ref p4, .ref p5, .ref p6] ++ [.ref p8, .ref p10, .ref p11, .ref p13, .ref p14])))
    refine ⟨c0, m1, _, _, rfl, rfl, hp1, upd_same, le1000 (Nat.le_of_ble_eq_true rfl), fun c1 nc1 => ?_⟩
    have s25 := same_upd (o := .lst (([.non, .int 3, .str "", .str "i", .str "A", .str "ab", .ref p1, .ref p2, .ref p3, .ref p4, .ref p5, .ref p6] ++ [.ref p8, .ref p10, .ref p11, .ref p13, .ref p14]) ++ [.ref p18, .ref p19, .ref p20, .ref p22, p23])) nc1
    have a25 := a24.trans s25
    have t25 := t24.same s25
    have z24 := s25
    have z23 := s24.trans z24
    have z22 := s23.trans z23
    have z21 := s22.trans z22
    have z20 := s21.trans z21
    have z19 := s20.trans z20
    have z18 := s19.trans z19
    have z17 := s18.trans z18
    have z16 := s17.trans z17
    have z15 := s16.trans z16
    have z14 := s15.trans z15
    have z13 := s14.trans z14
    have z12 := s13.trans z13
    have z11 := s12.trans z12
    have z10 := s11.trans z11
    have z9 := s10.trans z10
    have z8 := s9.trans z9
    have z7 := s8.trans z8
    have z6 := s7.trans z7
    have z5 := s6.trans z6
    have z4 := s5.trans z5
    have z3 := s4.trans z4
    have z2 := s3.trans z3
    have z1 := s2.trans z2
    have ga1 : ∀ y ∈ ([.non, .int 3, .str "", .str "i", .str "A", .str "ab", .ref p1, .ref p2, .ref p3, .ref p4, .ref p5, .ref p6] : List V), GV K 12 M _ y := (all_cons GV.non (all_cons (GV.int _) (all_cons (GV.str (x := "") (by decide +kernel)) (all_cons (GV.str (x := "i") (by decide +kernel)) (all_cons (GV.str (x := "A") (by decide +kernel)) (all_cons (GV.str (x := "ab") (by decide +kernel)) (all_cons ((g1.same z1).up (by decide)) (all_cons ((g2.same z2).up (by decide)) (all_cons ((g3.same z3).up (by decide)) (all_cons ((g4.same z4).up (by decide)) (all_cons ((g5.same z5).up (by decide)) (all_cons ((g6.same z6).up (by decide)) all_nil))))))))))))
    have ga2 : ∀ y ∈ ([.ref p8, .ref p10, .ref p11, .ref p13, .ref p14] : List V), GV K 12 M _ y := (all_cons ((g8.same z8).up (by decide)) (all_cons ((g10.same z10).up (by decide)) (all_cons ((g11.same z11).up (by decide)) (all_cons ((g13.same z13).up (by decide)) (all_cons ((g14.same z14).up (by decide)) all_nil)))))
    have ga3 : ∀ y ∈ ([.ref p18, .ref p19, .ref p20, .ref p22, p23] : List V), GV K 12 M _ y := (all_cons ((g18.same z18).up (by decide)) (all_cons ((g19.same z19).up (by decide)) (all_cons ((g20.same z20).up (by decide)) (all_cons ((g22.same z22).up (by decide)) (all_cons ((g23.same z23).up (by decide)) all_nil)))))
    refine ⟨_, rfl, _, rfl, a, L, c1, ns, _, rfl, hs.same a25, (hs.ne (a24.free nc1)).symm, upd_same, Nat.le_of_ble_eq_true rfl, Nat.le_of_ble_eq_true rfl, fun H' y my hs' off' => ?_⟩
    have gy := all_app (all_app ga1 ga2) ga3 y my
    obtain ⟨d, h1, h2⟩ := gy
    refine q H' y ⟨d, dp_same (SmX.at off' aM).hid d y h1, h2⟩ hs' ((SmX.of_same a25).trans (SmX.at off' (List.mem_singleton.mpr rfl)))
end
-- top 24  slots: 0:_law_script 1:_law_source_here 2:_law_turn 3:_law_word 4:_law_deep 5:_law_most 6:_law_found 7:_law_due 8:_law_some
abbrev s_law : Stmt := topS 24
abbrev N_law : List Str := ["_law_script", "_law_source_here", "_law_turn", "_law_word", "_law_deep", "_law_most", "_law_found", "_law_due", "_law_some"]
theorem sc_law : FnScope N_law ["_law_script"] (defScope s_law) := ⟨rfl, rfl, rfl, by decide +kernel, rfl, by decide +kernel, by decide +kernel⟩

def spLaw (K : PySem.W.Frag) : Sp := fun vs H Q _ => ∃ (a : Addr) (ns : List Int), vs = [.ref a] ∧ SqL K H a (ns.map V.int) ∧ ns.length ≤ 63 ∧ ∀ H', Q (.bl true) H'
theorem gv_dp {K : PySem.W.Frag} {n : Nat} {M : List Addr} {H : Hp} {v : V} (g : GV K n M H v) : ∃ d, Dp K H v d ∧ gd n d = true := by
  obtain ⟨d, h1, h2⟩ := g
  exact ⟨d, dp_same hide_same d v h1, h2⟩
theorem GV.at {K : PySem.W.Frag} {n : Nat} {a : Addr} {H H' : Hp} {v : V} (g : GV K n [a] H v) (off : ∀ b, b ≠ a → H' b = H b) : GV K n [a] H' v := by
  obtain ⟨d, h1, h2⟩ := g
  exact ⟨d, dp_same (SmX.at off (List.mem_singleton.mpr rfl)).hid d v h1, h2⟩
theorem rep_all {P : V → Prop} {v : V} (h : P v) (n : Nat) : ∀ y ∈ (List.replicate n [v]).flatten, P y := fun y hy => by
  obtain ⟨l, hl, hyl⟩ := List.mem_flatten.mp hy
  rw [(List.mem_replicate.mp hl).2] at hyl
  rw [List.mem_singleton.mp hyl]
  exact h
theorem rep_len {v : V} : ∀ n : Nat, (List.replicate n [v]).flatten.length = n
  | 0 => rfl
  | n + 1 => by
    rw [List.replicate_succ, List.flatten_cons, List.length_append, rep_len n]
    show 1 + n = n + 1
    omega
theorem long_nest : (meas 9 (nestD 8) 24).isSome = true := by decide +kernel
section
variable {P : Program} {w : World} {K : PySem.W.Frag} {mg : Str → Option Value} {base : Heap}
theorem ok_law {f : Addr} {fd : FuncData} {k : Nat} (F : Fun K "law" "law" s_law f fd) (hk : 22 ≤ k) (m_range : mg "range" = none) (m_tuple : mg "tuple" = none)
    {t1 t2 t3 t4 t5 : Tok} (g_LETTERS : mg "LETTERS" = some (.str "abcdefgh" t1)) (g_MAX_DEPTH : mg "MAX_DEPTH" = some (.int 5 t2)) (g_MAX_SIZE : mg "MAX_SIZE" = some (.int 24 t3)) (g_LONG_DEPTH : mg "LONG_DEPTH" = some (.int 9 t4)) (g_LONG_SIZE : mg "LONG_SIZE" = some (.int 600 t5))
    (C_law_source : Own P w K mg base 1 "_law_source" ["_law_script"] (spSource K))
    (C_law_take : Own P w K mg base 1 "_law_take" ["_law_source_here", "_law_many"] spTake)
    (C_law_pick : Own P w K mg base 2 "_law_pick" ["_law_source_here", "_law_row"] spPick)
    (C_law_any_term : Own P w K mg base 8 "_law_any_term" ["_law_source_here"] (spAnyTerm K))
    (C_law_odd : Own P w K mg base 3 "_law_odd" ["_law_source_here", "_law_word"] (spOdd K))
    (C_law_nest : Own P w K mg base 1 "_law_nest" ["_law_many"] (spNest K))
    (C_law_measure : Own P w K mg base 20 "_law_measure" ["_law_word", "_law_deep"] (spMeasure K 20))
    (C_law_fits : Own P w K mg base 21 "_law_fits" ["_law_word"] (spFits K))
    (C_law_same : Own P w K mg base 3 "_law_same" ["_law_found", "_law_due"] (spSame K 3))
    (C_T0 : OwnD P w K mg base 22 "is_term" PsT [.int 5, .int 24] (spIsTerm K))
    (C_T1 : OwnK P w K mg base 22 "is_term" PsT 1 ["max_size", "max_depth"] (fun vs zs => vs ++ zs.reverse ++ []) (spIsTerm K))
    (C_T2 : OwnK P w K mg base 22 "is_term" PsT 0 ["value", "max_depth"] (fun vs zs => vs ++ zs ++ [V.int 24]) (spIsTerm K))
    (C_T3 : OwnK P w K mg base 22 "is_term" PsT 1 ["max_depth"] (fun vs zs => vs ++ zs ++ [V.int 24]) (spIsTerm K)) :
    FnOk P w K mg base CX0 (k + 1) f fd ["_law_script"] (spLaw K) := by
  refine F.ok sc_law (fun vs H Q E h => ?_) (fun cdv A outer s H vs Q E hr h => ?_)
  · obtain ⟨a, ns, rfl, _⟩ := h
    rfl
  · obtain ⟨sc, ns, rfl, hS, h63, q⟩ := h
    refine ⟨_, (pss_cons (ps_set (i := 1) sc_law.nd rfl (by first | exact .inl rfl | exact .inr rfl) (pe_own C_law_source (hr.mono (by omega)) (by rfl) (pa_cons (pv 0) pa_nil)))
      (pss_cons (ps_for PassesOwn.never rfl (pi_range1 (by rfl) m_range (pa_cons pe_int pa_nil)) (pg_name (i := 2) sc_law.nd rfl (by first | exact .inl rfl | exact .inr rfl))
        (pss_cons (ps_set (i := 3) sc_law.nd rfl (by first | exact .inl rfl | exact .inr rfl) (pe_own C_law_any_term (hr.mono (by omega)) (by rfl) (pa_cons (pv 1) pa_nil)))
        (C8.pss_cut (ps_if (pt_cmpR op_eq (pe_own C_law_take (hr.mono (by omega)) (by rfl) (pa_cons (pv 1) (pa_cons pe_int pa_nil))) pe_int (nomark _))
          (pss_one (ps_set (i := 3) sc_law.nd rfl (by first | exact .inl rfl | exact .inr rfl) (pe_own C_law_odd (hr.mono (by omega)) (by rfl) (pa_cons (pv 1) (pa_cons (pv 3) pa_nil)))))
          pss_nil)
        (C8.pss_cut (ps_if (pt_cmpR op_eq (pe_own C_law_take (hr.mono (by omega)) (by rfl) (pa_cons (pv 1) (pa_cons pe_int pa_nil))) pe_int (nomark _))
          (pss_one (ps_set (i := 3) sc_law.nd rfl (by first | exact .inl rfl | exact .inr rfl) (pe_callTy call_tuple_of (by rfl) m_tuple (by decide +kernel) (pa_cons (pe_op op_cat (pe_lst (pa_cons (pe_own C_law_pick (hr.mono (by omega)) (by rfl) (pa_cons (pv 1) (pa_cons (pe_lst (pa_cons pe_str (pa_cons pe_str pa_nil))) pa_nil))) pa_nil)) (pe_op op_rep (pe_lst (pa_cons (pv 3) pa_nil)) (pe_op op_add pe_int (pe_own C_law_take (hr.mono (by omega)) (by rfl) (pa_cons (pv 1) (pa_cons pe_int pa_nil)))))) pa_nil))))
          pss_nil)
        (pss_cons (ps_par (i := 4) (j := 5) (by rfl) sc_law.nd rfl rfl (by decide) rfl rfl (pa_cons (pe_own C_law_take (hr.mono (by omega)) (by rfl) (pa_cons (pv 1) (pa_cons pe_int pa_nil))) (pa_cons (pe_own C_law_take (hr.mono (by omega)) (by rfl) (pa_cons (pv 1) (pa_cons pe_int pa_nil))) pa_nil)) (by rfl))
        (pss_cons (ps_set (i := 6) sc_law.nd rfl (by first | exact .inl rfl | exact .inr rfl) (pe_lst (pa_cons (pe_ownD C_T0 (hr.mono (by omega)) (by rfl) (pa_cons (pv 3) pa_nil)) (pa_cons (pe_ownK C_T1 (hr.mono (by omega)) (by rfl) (pa_cons (pv 3) pa_nil) (pk_cons (pv 5) (pk_cons (pv 4) pk_nil))) (pa_cons (pe_ownK0 C_T2 (hr.mono (by omega)) (by rfl) (pk_cons (pv 3) (pk_cons pe_int pk_nil))) pa_nil)))))
        (pss_cons (ps_set (i := 7) sc_law.nd rfl (by first | exact .inl rfl | exact .inr rfl) (pe_lst (pa_cons (pe_own C_law_fits (hr.mono (by omega)) (by rfl) (pa_cons (pv 3) pa_nil)) (pa_cons (pe_chain op_le op_le pe_int (pe_own C_law_measure (hr.mono (by omega)) (by rfl) (pa_cons (pv 3) (pa_cons (pv 4) pa_nil))) (pv 5)) (pa_cons (pe_chain op_le op_le pe_int (pe_own C_law_measure (hr.mono (by omega)) (by rfl) (pa_cons (pv 3) (pa_cons pe_int pa_nil))) pe_int) pa_nil)))))
        (pss_one (ps_if (pt_not (pt_val (pe_own C_law_same (hr.mono (by omega)) (by rfl) (pa_cons (pv 6) (pa_cons (pv 7) pa_nil)))))
          (pss_one (ps_ret pe_bl))
          pss_nil)))))))))
      (pss_cons (ps_set (i := 8) sc_law.nd rfl (by first | exact .inl rfl | exact .inr rfl) (pe_lst (pa_cons (pe_glob (v := .str "abcdefgh") (by rfl) g_LETTERS (⟨_, rfl⟩)) (pa_cons (pe_glob (v := .int 5) (by rfl) g_MAX_DEPTH (⟨_, rfl⟩)) (pa_cons (pe_glob (v := .int 24) (by rfl) g_MAX_SIZE (⟨_, rfl⟩)) (pa_cons (pe_glob (v := .int 9) (by rfl) g_LONG_DEPTH (⟨_, rfl⟩)) (pa_cons (pe_glob (v := .int 600) (by rfl) g_LONG_SIZE (⟨_, rfl⟩)) pa_nil)))))))
      (pss_one (ps_ret (pe_and (pe_own C_law_same (hr.mono (by omega)) (by rfl) (pa_cons (pv 8) (pa_cons (pe_lst (pa_cons pe_str (pa_cons pe_int (pa_cons pe_int (pa_cons pe_int (pa_cons pe_int pa_nil)))))) pa_nil))) (pe_one (pe_cmpR op_isBl (pe_ownK C_T3 (hr.mono (by omega)) (by rfl) (pa_cons (pe_own C_law_nest (hr.mono (by omega)) (by rfl) (pa_cons pe_int pa_nil)) pa_nil) (pk_cons pe_int pk_nil)) pe_bl (nomark _))))))))), ?_⟩
    refine ⟨_, rfl, sc, ns, rfl, hS, h63, fun H0 a L s0 na nL hs0 => ?_⟩
    refine ⟨8, rfl, by decide, by decide, for_range (lo := 0) (n := (8 : Int).toNat) (fun i σ Hi => ∃ y2 y3 y4 y5 y6 y7 : Option V, σ = [some (.ref sc), some (.ref a), y2, y3, y4, y5, y6, y7, none] ∧ Src Hi a L ns) ?_ ?_ ?_⟩
    · exact ⟨none, none, none, none, none, none, rfl, hs0⟩
    · rintro i σ Hi hi ⟨y2, y3, y4, y5, y6, y7, rfl, hsi⟩
      refine ⟨_, rfl, a, L, ns, [a], rfl, hsi, List.mem_singleton.mpr rfl, hsi.trk, fun H1 v d n hd n1 n5 _ _ hg hs1 sm1 => ?_⟩
      have gv1 : GV K 5 [a] H1 v := ⟨d, hd, gd_le hg n5⟩
      refine ⟨fun σ' H' => ∃ (z : Option V) (v' : V), σ' = [some (.ref sc), some (.ref a), z, some v', y4, y5, y6, y7, none] ∧ GV K 12 [a] H' v' ∧ Src H' a L ns, ?_, ?_⟩
      · refine ⟨_, rfl, a, L, ns, 3, rfl, hs1, by decide, by decide, fun H2 t _ _ hs2 off2 => ⟨rfl, _, rfl, ?_⟩⟩
        refine ite2 (fun c => ?_) (fun c => ?_)
        · exact ⟨_, rfl, _, rfl, a, L, ns, v, [a], rfl, hs2, gv1.at off2, List.mem_singleton.mpr rfl, hs2.trk, fun H3 v' g3 hs3 sm3 => ⟨_, v', rfl, g3, hs3⟩⟩
        · exact ⟨_, v, rfl, (gv1.at off2).up (by decide), hs2⟩
      · rintro σ' H' ⟨z2, v2, rfl, gv2, hs2⟩
        refine ⟨fun σ' H' => ∃ (z : Option V) (v' : V), σ' = [some (.ref sc), some (.ref a), z, some v', y4, y5, y6, y7, none] ∧ GV K 13 [a] H' v' ∧ Src H' a L ns, ?_, ?_⟩
        · refine ⟨_, rfl, a, L, ns, 3, rfl, hs2, by decide, by decide, fun H3 t _ _ hs3 off3 => ⟨rfl, _, rfl, ?_⟩⟩
          have gv3 := gv2.at off3
          refine ite2 (fun c => ?_) (fun c => ⟨_, v2, rfl, gv3.up (by decide), hs3⟩)
          -- tuple([pick] + [word] * (2 + take))
          refine ⟨_, rfl, (by show 2 ≤ sizeLine; decide), fun l nl => ?_⟩
          have sl := same_upd (o := .lst [.str "&", .str "|"]) nl
          refine ⟨a, L, l, ns, _, rfl, hs3.same sl, (hs3.ne nl).symm, upd_same, by decide, by decide, fun H4 op mop hs4 off4 => ?_⟩
          have gop : ∀ Hx : Hp, GV K 12 [a] Hx op := fun Hx => by
            rcases List.mem_cons.mp mop with e | e
            · rw [e]; exact GV.str (by decide +kernel)
            · rw [List.mem_singleton.mp e]; exact GV.str (by decide +kernel)
          have gv4 := (gv3.same sl).at off4
          refine ⟨(by show 1 ≤ sizeLine; decide), fun o1 no1 => ?_⟩
          have so := same_upd (o := .lst [op]) no1
          refine ⟨_, rfl, (by show 1 ≤ sizeLine; decide), fun w1 nw1 => ?_⟩
          have sw := same_upd (o := .lst [v2]) nw1
          have hs5 := (hs4.same so).same sw
          have gv5 := (gv4.same so).same sw
          have ho1 : (upd (upd H4 o1 (.lst [op])) w1 (.lst [v2])) o1 = some (.lst [op]) := sw _ _ upd_same
          refine ⟨_, rfl, a, L, ns, 3, rfl, hs5, by decide, by decide, fun H6 t6 t60 t61 hs6 off6 => ⟨_, _, rfl, rfl, ?_⟩⟩
          have gv6 := gv5.at off6
          have w1a : w1 ≠ a := ((hs4.same so).ne nw1).symm
          have o1a : o1 ≠ a := (hs4.ne no1).symm
          have hw6 : H6 w1 = some (.lst [v2]) := (off6 w1 w1a).trans upd_same
          have ho6 : H6 o1 = some (.lst [op]) := (off6 o1 o1a).trans ho1
          refine ⟨w1, _, _, rfl, rfl, hw6, by omega, by omega, ?_, fun r nr => ?_⟩
          · exact le1000 (by show 1 * _ ≤ 1000; omega)
          have sr := same_upd (o := .lst (List.replicate (2 + t6).toNat [v2]).flatten) nr
          refine ⟨o1, r, _, _, rfl, rfl, sr _ _ ho6, upd_same, ?_, fun c1 nc1 => ?_⟩
          · rw [rep_len]
            exact le1000 (by show 1 + _ ≤ 1000; omega)
          have sc1 := same_upd (o := .lst ([op] ++ (List.replicate (2 + t6).toNat [v2]).flatten)) nc1
          refine ⟨c1, _, rfl, .inl ⟨SqL.of upd_same, fun p np => ?_⟩⟩
          have hs8 := (hs6.same sr).same sc1
          refine ⟨_, .ref p, rfl, GV.tup (n := 12) hs8.trk np ?_ ?_, hs8.new np⟩
          · exact all_app (all_cons (gop _) all_nil) (rep_all ((gv6.same sr).same sc1) _)
          · rw [List.length_append, rep_len]
            show 1 + _ ≤ 1000
            omega
        · rintro σ'' H'' ⟨z3, v3, rfl, gv3, hs3⟩
          -- deep, most
          refine ⟨_, rfl, a, L, ns, 9, rfl, hs3, by decide, by decide, fun H4 td td0 td1 hs4 off4 => ?_⟩
          refine ⟨_, rfl, a, L, ns, 50, rfl, hs4, by decide, by decide, fun H5 tm tm0 tm1 hs5 off5 => ?_⟩
          obtain ⟨d3, hd3, hg3⟩ := gv_dp ((gv3.at off4).at off5)
          have hg20 : gd 20 d3 = true := gd_le hg3 (by decide)
          have e1 := meas_some 5 d3 24
          have e2 := meas_some td.toNat d3 tm
          have e3 := meas_some 9 d3 24
          refine ⟨_, _, rfl, ?_⟩
          -- found
          refine ⟨_, rfl, v3, d3, 5, 24, rfl, hd3, hg20, by decide, by decide, fun H6 s6 => ?_⟩
          refine ⟨_, rfl, _, rfl, _, rfl, rfl, rfl, v3, d3, td, tm, rfl, dp_same s6 _ _ hd3, hg20, td0, by omega, fun H7 s7 => ?_⟩
          refine ⟨_, rfl, rfl, rfl, v3, d3, 9, 24, rfl, dp_same (s6.trans s7) _ _ hd3, hg20, by decide, by decide, fun H8 s8 => ?_⟩
          refine ⟨(by show 3 ≤ sizeLine; decide), fun pf npf => ?_⟩
          have sf := same_upd (o := .lst [.bl (meas (5 : Int).toNat d3 24).isSome, .bl (meas td.toNat d3 tm).isSome, .bl (meas (9 : Int).toNat d3 24).isSome]) npf
          have s68 := s6.trans (s7.trans (s8.trans sf))
          -- due
          refine ⟨_, rfl, v3, d3, rfl, dp_same s68 _ _ hd3, hg20, fun H9 s9 => ?_⟩
          refine ⟨_, rfl, _, rfl, v3, d3, td, rfl, dp_same (s68.trans s9) _ _ hd3, hg20, td0, by omega, fun H10 s10 => ?_⟩
          refine ⟨_, _, rfl, rfl, _, rfl, ?_⟩
          refine ite2 (fun c => ⟨_, rfl, _, _, rfl, rfl, ?_⟩) (fun c => ?_)
          rotate_left
          rw [show decide ((1 : Int) ≤ lmeas td.toNat d3) = false from Bool.eq_false_iff.mpr c, Bool.false_and] at e2
          rotate_left
          rw [show decide ((1 : Int) ≤ lmeas td.toNat d3) = true from c, Bool.true_and] at e2
          all_goals
            refine ⟨_, rfl, v3, d3, 9, rfl, dp_same (s68.trans (s9.trans s10)) _ _ hd3, hg20, by decide, by decide, fun H11 s11 => ⟨_, _, rfl, rfl, _, rfl, ?_⟩⟩
            refine ite2 (fun c9 => ⟨_, _, rfl, rfl, ?_⟩) (fun c9 => ?_)
            rotate_left
            rw [show decide ((1 : Int) ≤ lmeas 9 d3) = false from Bool.eq_false_iff.mpr c9, Bool.false_and] at e3
            rotate_left
            rw [show decide ((1 : Int) ≤ lmeas 9 d3) = true from c9, Bool.true_and] at e3
            all_goals
              refine ⟨(by show 3 ≤ sizeLine; decide), fun pd npd => ?_⟩
              have hpf := (s9.trans (s10.trans s11)) _ _ (upd_same (H := H8) (a := pf) (o := .lst [.bl (meas (5 : Int).toNat d3 24).isSome, .bl (meas td.toNat d3 tm).isSome, .bl (meas (9 : Int).toNat d3 24).isSome]))
              have hsE := ((((((hs5.same s6).same s7).same s8).same sf).same s9).same s10).same s11
              refine ⟨_, rfl, _, rfl, .ref pf, .ref pd, .list [.bool (meas 5 d3 24).isSome, .bool (meas td.toNat d3 tm).isSome, .bool (meas 9 d3 24).isSome], 1, rfl, .lst (SqL.of (same_upd npd _ _ hpf)) (.cons (.bl _) (.cons (.bl _) (.cons (.bl _) .nil))),
                .lst (SqL.of upd_same) (by rw [e1, e2, e3]; exact .cons (.bl _) (.cons (.bl _) (.cons (.bl _) .nil))), by decide, rfl, fun H12 s12 => ⟨_, rfl, iteF ?_⟩⟩
              exact ⟨_, _, _, _, _, _, rfl, (hsE.new npd).same s12⟩
    · rintro σ Hi ⟨y2, y3, y4, y5, y6, y7, rfl, hsi⟩
      refine ⟨(by show 5 ≤ sizeLine; decide), fun p np => ?_⟩
      refine ⟨_, rfl, (by show 5 ≤ sizeLine; decide), fun p2 np2 => ?_⟩
      have s2 := same_upd (o := .lst [.str "abcdefgh", .int 5, .int 24, .int 9, .int 600]) np2
      refine ⟨.ref p, .ref p2, .list [.str "abcdefgh", .int 5, .int 24, .int 9, .int 600], 1, rfl, .lst (SqL.of (s2 _ _ upd_same)) (.cons (.str _) (.cons (.int _) (.cons (.int _) (.cons (.int _) (.cons (.int _) .nil))))),
        .lst (SqL.of upd_same) (.cons (.str _) (.cons (.int _) (.cons (.int _) (.cons (.int _) (.cons (.int _) .nil))))), by decide, by decide +kernel, fun H3 s3 => ⟨_, rfl, iteT ?_⟩⟩
      refine ⟨8, [], rfl, by decide, (fun b h => nomatch h), fun H4 v hd s4 => ?_⟩
      refine ⟨rfl, rfl, v, nestD 8, 9, 24, rfl, dp_same hide_same _ _ hd, gd_le (nest_gd 8) (by decide), by decide, by decide, fun H5 s5 => ⟨_, _, rfl, rfl, ?_⟩⟩
      rw [show (meas (9 : Int).toNat (nestD 8) 24).isSome = true from long_nest, decide_eq_true rfl]
      exact q H5
end
theorem kw_all {K : PySem.W.Frag} {D : Addr} {kws : List (Str × V)} (h : ∀ q ∈ kws, ∃ u, PySem.W.nsIn K D q.1 = some (some u) ∧ RelV q.2 u) : ∀ q ∈ kws, ∃ u, PySem.W.nsIn K D q.1 = some (some u) ∧ RelV q.2 u := h
theorem all_mk {l : PySem.W.OpenLaw} {w : World} {K : PySem.W.Frag} {h : Heap} {mg : Str → Option Value} {fa : Addr} (X : K.In h) (G : h.Ns mainGlobals mg) (hfa : mg "law" = some (.ref fa))
    {f1 : Addr} {od1 an1 : Option Addr} {sl1 : Array (Option Value)} {oc1 dc1 pm1 cd1 ct1 : Value}
    {kV1 : Value}
    {f2 : Addr} {od2 an2 : Option Addr} {sl2 : Array (Option Value)} {oc2 dc2 pm2 cd2 ct2 : Value}
    {kV2 : Value}
    {f3 : Addr} {od3 an3 : Option Addr} {sl3 : Array (Option Value)} {oc3 dc3 pm3 cd3 ct3 : Value}
    {kV3 : Value}
    {f4 : Addr} {od4 an4 : Option Addr} {sl4 : Array (Option Value)} {oc4 dc4 pm4 cd4 ct4 : Value}
    {D4 : Addr} {w4_0 : Tok} {w4_1 : Tok}
    {f5 : Addr} {od5 an5 : Option Addr} {sl5 : Array (Option Value)} {oc5 dc5 pm5 cd5 ct5 : Value}
    {kV5 : Value}
    {f6 : Addr} {od6 an6 : Option Addr} {sl6 : Array (Option Value)} {oc6 dc6 pm6 cd6 ct6 : Value}
    {kV6 : Value}
    {f7 : Addr} {od7 an7 : Option Addr} {sl7 : Array (Option Value)} {oc7 dc7 pm7 cd7 ct7 : Value}
    {kV7 : Value}
    {f8 : Addr} {od8 an8 : Option Addr} {sl8 : Array (Option Value)} {oc8 dc8 pm8 cd8 ct8 : Value}
    {kV8 : Value}
    {f9 : Addr} {od9 an9 : Option Addr} {sl9 : Array (Option Value)} {oc9 dc9 pm9 cd9 ct9 : Value}
    {kV9 : Value}
    {f10 : Addr} {od10 an10 : Option Addr} {sl10 : Array (Option Value)} {oc10 dc10 pm10 cd10 ct10 : Value}
    {kV10 : Value}
    {f11 : Addr} {od11 an11 : Option Addr} {sl11 : Array (Option Value)} {oc11 dc11 pm11 cd11 ct11 : Value}
    {kV11 : Value}
    {f12 : Addr} {od12 an12 : Option Addr} {sl12 : Array (Option Value)} {oc12 dc12 pm12 cd12 ct12 : Value}
    {kV12 : Value}
    {f13 : Addr} {od13 an13 : Option Addr} {sl13 : Array (Option Value)} {oc13 dc13 pm13 cd13 ct13 : Value}
    {kV13 : Value}
    {f14 : Addr} {od14 an14 : Option Addr} {sl14 : Array (Option Value)} {oc14 dc14 pm14 cd14 ct14 : Value}
    {kV14 : Value}
    {f15 : Addr} {od15 an15 : Option Addr} {sl15 : Array (Option Value)} {oc15 dc15 pm15 cd15 ct15 : Value}
    {kV15 : Value}
    {f16 : Addr} {od16 an16 : Option Addr} {sl16 : Array (Option Value)} {oc16 dc16 pm16 cd16 ct16 : Value}
    {kV16 : Value}
    {f17 : Addr} {od17 an17 : Option Addr} {sl17 : Array (Option Value)} {oc17 dc17 pm17 cd17 ct17 : Value}
    {kV17 : Value}
    {ctLETTERS : Tok}
    {oA1 : Addr} {ob1 : Option Addr} {on1 : Nat} {os1 : Array (Option Value)} {ot1_0 : Tok} {ot1_1 : Tok}
    {ctMAX_DEPTH : Tok}
    {ctMAX_SIZE : Tok}
    {ctLONG_DEPTH : Tok}
    {ctLONG_SIZE : Tok}
    (a1 : PySem.W.nsIn K mainGlobals "is_letter" = some (some (.ref f1))) (l1 : K.lookup f1 = some ⟨oc1, od1, .func (PySem.W.fnOf "is_letter" "is_letter" (defArgs s_is_letter) (defBody s_is_letter) (defScope s_is_letter) .none kV1 dc1 pm1 an1 cd1 ct1), sl1⟩) (c1 : PySem.W.codeIn K cd1 "is_letter" = true) (k1 : PySem.W.keepIn K (.ref f1) = true)
    (a2 : PySem.W.nsIn K mainGlobals "is_compound" = some (some (.ref f2))) (l2 : K.lookup f2 = some ⟨oc2, od2, .func (PySem.W.fnOf "is_compound" "is_compound" (defArgs s_is_compound) (defBody s_is_compound) (defScope s_is_compound) .none kV2 dc2 pm2 an2 cd2 ct2), sl2⟩) (c2 : PySem.W.codeIn K cd2 "is_compound" = true) (k2 : PySem.W.keepIn K (.ref f2) = true)
    (a3 : PySem.W.nsIn K mainGlobals "measured" = some (some (.ref f3))) (l3 : K.lookup f3 = some ⟨oc3, od3, .func (PySem.W.fnOf "measured" "measured" (defArgs s_measured) (defBody s_measured) (defScope s_measured) .none kV3 dc3 pm3 an3 cd3 ct3), sl3⟩) (c3 : PySem.W.codeIn K cd3 "measured" = true) (k3 : PySem.W.keepIn K (.ref f3) = true)
    (a4 : PySem.W.nsIn K mainGlobals "is_term" = some (some (.ref f4))) (l4 : K.lookup f4 = some ⟨oc4, od4, .func (PySem.W.fnOf "is_term" "is_term" (defArgs s_is_term) (defBody s_is_term) (defScope s_is_term) .none (.ref D4) dc4 pm4 an4 cd4 ct4), sl4⟩) (c4 : PySem.W.codeIn K cd4 "is_term" = true) (k4 : PySem.W.keepIn K (.ref f4) = true)
    (x4_0 : PySem.W.nsIn K D4 "max_depth" = some (some (.int 5 w4_0)))
    (x4_1 : PySem.W.nsIn K D4 "max_size" = some (some (.int 24 w4_1)))
    (a5 : PySem.W.nsIn K mainGlobals "_law_source" = some (some (.ref f5))) (l5 : K.lookup f5 = some ⟨oc5, od5, .func (PySem.W.fnOf "_law_source" "_law_source" (defArgs s_law_source) (defBody s_law_source) (defScope s_law_source) .none kV5 dc5 pm5 an5 cd5 ct5), sl5⟩) (c5 : PySem.W.codeIn K cd5 "_law_source" = true) (k5 : PySem.W.keepIn K (.ref f5) = true)
    (a6 : PySem.W.nsIn K mainGlobals "_law_take" = some (some (.ref f6))) (l6 : K.lookup f6 = some ⟨oc6, od6, .func (PySem.W.fnOf "_law_take" "_law_take" (defArgs s_law_take) (defBody s_law_take) (defScope s_law_take) .none kV6 dc6 pm6 an6 cd6 ct6), sl6⟩) (c6 : PySem.W.codeIn K cd6 "_law_take" = true) (k6 : PySem.W.keepIn K (.ref f6) = true)
    (a7 : PySem.W.nsIn K mainGlobals "_law_pick" = some (some (.ref f7))) (l7 : K.lookup f7 = some ⟨oc7, od7, .func (PySem.W.fnOf "_law_pick" "_law_pick" (defArgs s_law_pick) (defBody s_law_pick) (defScope s_law_pick) .none kV7 dc7 pm7 an7 cd7 ct7), sl7⟩) (c7 : PySem.W.codeIn K cd7 "_law_pick" = true) (k7 : PySem.W.keepIn K (.ref f7) = true)
    (a8 : PySem.W.nsIn K mainGlobals "_law_mixed" = some (some (.ref f8))) (l8 : K.lookup f8 = some ⟨oc8, od8, .func (PySem.W.fnOf "_law_mixed" "_law_mixed" (defArgs s_law_mixed) (defBody s_law_mixed) (defScope s_law_mixed) .none kV8 dc8 pm8 an8 cd8 ct8), sl8⟩) (c8 : PySem.W.codeIn K cd8 "_law_mixed" = true) (k8 : PySem.W.keepIn K (.ref f8) = true)
    (a9 : PySem.W.nsIn K mainGlobals "_law_same" = some (some (.ref f9))) (l9 : K.lookup f9 = some ⟨oc9, od9, .func (PySem.W.fnOf "_law_same" "_law_same" (defArgs s_law_same) (defBody s_law_same) (defScope s_law_same) .none kV9 dc9 pm9 an9 cd9 ct9), sl9⟩) (c9 : PySem.W.codeIn K cd9 "_law_same" = true) (k9 : PySem.W.keepIn K (.ref f9) = true)
    (a10 : PySem.W.nsIn K mainGlobals "_law_term" = some (some (.ref f10))) (l10 : K.lookup f10 = some ⟨oc10, od10, .func (PySem.W.fnOf "_law_term" "_law_term" (defArgs s_law_term) (defBody s_law_term) (defScope s_law_term) .none kV10 dc10 pm10 an10 cd10 ct10), sl10⟩) (c10 : PySem.W.codeIn K cd10 "_law_term" = true) (k10 : PySem.W.keepIn K (.ref f10) = true)
    (a11 : PySem.W.nsIn K mainGlobals "_law_any_term" = some (some (.ref f11))) (l11 : K.lookup f11 = some ⟨oc11, od11, .func (PySem.W.fnOf "_law_any_term" "_law_any_term" (defArgs s_law_any_term) (defBody s_law_any_term) (defScope s_law_any_term) .none kV11 dc11 pm11 an11 cd11 ct11), sl11⟩) (c11 : PySem.W.codeIn K cd11 "_law_any_term" = true) (k11 : PySem.W.keepIn K (.ref f11) = true)
    (a12 : PySem.W.nsIn K mainGlobals "_law_signs" = some (some (.ref f12))) (l12 : K.lookup f12 = some ⟨oc12, od12, .func (PySem.W.fnOf "_law_signs" "_law_signs" (defArgs s_law_signs) (defBody s_law_signs) (defScope s_law_signs) .none kV12 dc12 pm12 an12 cd12 ct12), sl12⟩) (c12 : PySem.W.codeIn K cd12 "_law_signs" = true) (k12 : PySem.W.keepIn K (.ref f12) = true)
    (a13 : PySem.W.nsIn K mainGlobals "_law_measure" = some (some (.ref f13))) (l13 : K.lookup f13 = some ⟨oc13, od13, .func (PySem.W.fnOf "_law_measure" "_law_measure" (defArgs s_law_measure) (defBody s_law_measure) (defScope s_law_measure) .none kV13 dc13 pm13 an13 cd13 ct13), sl13⟩) (c13 : PySem.W.codeIn K cd13 "_law_measure" = true) (k13 : PySem.W.keepIn K (.ref f13) = true)
    (a14 : PySem.W.nsIn K mainGlobals "_law_fits" = some (some (.ref f14))) (l14 : K.lookup f14 = some ⟨oc14, od14, .func (PySem.W.fnOf "_law_fits" "_law_fits" (defArgs s_law_fits) (defBody s_law_fits) (defScope s_law_fits) .none kV14 dc14 pm14 an14 cd14 ct14), sl14⟩) (c14 : PySem.W.codeIn K cd14 "_law_fits" = true) (k14 : PySem.W.keepIn K (.ref f14) = true)
    (a15 : PySem.W.nsIn K mainGlobals "_law_odd" = some (some (.ref f15))) (l15 : K.lookup f15 = some ⟨oc15, od15, .func (PySem.W.fnOf "_law_odd" "_law_odd" (defArgs s_law_odd) (defBody s_law_odd) (defScope s_law_odd) .none kV15 dc15 pm15 an15 cd15 ct15), sl15⟩) (c15 : PySem.W.codeIn K cd15 "_law_odd" = true) (k15 : PySem.W.keepIn K (.ref f15) = true)
    (a16 : PySem.W.nsIn K mainGlobals "_law_nest" = some (some (.ref f16))) (l16 : K.lookup f16 = some ⟨oc16, od16, .func (PySem.W.fnOf "_law_nest" "_law_nest" (defArgs s_law_nest) (defBody s_law_nest) (defScope s_law_nest) .none kV16 dc16 pm16 an16 cd16 ct16), sl16⟩) (c16 : PySem.W.codeIn K cd16 "_law_nest" = true) (k16 : PySem.W.keepIn K (.ref f16) = true)
    (a17 : PySem.W.nsIn K mainGlobals "law" = some (some (.ref f17))) (l17 : K.lookup f17 = some ⟨oc17, od17, .func (PySem.W.fnOf "law" "law" (defArgs s_law) (defBody s_law) (defScope s_law) .none kV17 dc17 pm17 an17 cd17 ct17), sl17⟩) (c17 : PySem.W.codeIn K cd17 "law" = true) (k17 : PySem.W.keepIn K (.ref f17) = true)
    (y0 : PySem.W.nsIn K mainGlobals "LETTERS" = some (some (.str "abcdefgh" ctLETTERS)))
    (y1 : PySem.W.nsIn K mainGlobals "OPERATORS" = some (some (.ref oA1))) (yl1 : K.lookup oA1 = some ⟨.type "tuple", ob1, .seq #[.str "&" ot1_0, .str "|" ot1_1] on1, os1⟩)
    (y2 : PySem.W.nsIn K mainGlobals "MAX_DEPTH" = some (some (.int 5 ctMAX_DEPTH)))
    (y3 : PySem.W.nsIn K mainGlobals "MAX_SIZE" = some (some (.int 24 ctMAX_SIZE)))
    (y4 : PySem.W.nsIn K mainGlobals "LONG_DEPTH" = some (some (.int 9 ctLONG_DEPTH)))
    (y5 : PySem.W.nsIn K mainGlobals "LONG_SIZE" = some (some (.int 600 ctLONG_SIZE)))
    (z_len : PySem.W.nsIn K mainGlobals "len" = some none)
    (z_int : PySem.W.nsIn K mainGlobals "int" = some none)
    (z_list : PySem.W.nsIn K mainGlobals "list" = some none)
    (z_str : PySem.W.nsIn K mainGlobals "str" = some none)
    (z_tuple : PySem.W.nsIn K mainGlobals "tuple" = some none)
    (z_isinstance : PySem.W.nsIn K mainGlobals "isinstance" = some none)
    (z_bool : PySem.W.nsIn K mainGlobals "bool" = some none)
    (z_dict : PySem.W.nsIn K mainGlobals "dict" = some none)
    (z_all : PySem.W.nsIn K mainGlobals "all" = some none)
    (z_zip : PySem.W.nsIn K mainGlobals "zip" = some none)
    (z_sum : PySem.W.nsIn K mainGlobals "sum" = some none)
    (z_max : PySem.W.nsIn K mainGlobals "max" = some none)
    (z_range : PySem.W.nsIn K mainGlobals "range" = some none)
    : ∃ fd : FuncData, (∀ (s : Shared) (v : Value), BindsTo s fd ⟨[v], []⟩ [("_law_script", v)]) ∧ ∀ base : Heap, K.In base → base.Ns mainGlobals mg → FnOk l.prog w K mg base CX0 23 fa fd ["_law_script"] (spLaw K) := by
  have e := hfa.symm.trans (PySem.W.mg_of X G a17)
  cases e
  have F1 := fun_mk (st := s_is_letter) l1 c1 k1
  have g1 := PySem.W.mg_of X G a1
  have b1 := F1.binds (ps := ["value"]) fun _ _ _ _ _ _ us hl => match us, hl with | [_], _ => rfl
  have F2 := fun_mk (st := s_is_compound) l2 c2 k2
  have g2 := PySem.W.mg_of X G a2
  have b2 := F2.binds (ps := ["value"]) fun _ _ _ _ _ _ us hl => match us, hl with | [_], _ => rfl
  have F3 := fun_mk (st := s_measured) l3 c3 k3
  have g3 := PySem.W.mg_of X G a3
  have b3 := F3.binds (ps := ["value", "max_depth", "max_size"]) fun _ _ _ _ _ _ us hl => match us, hl with | [_, _, _], _ => rfl
  have F4 : FunD K "is_term" "is_term" (defArgs s_is_term) (defBody s_is_term) (defScope s_is_term) [] [("max_depth", .int 5), ("max_size", .int 24)] f4 _ := ⟨⟨_, _, _, _, _, _, _, _, _, _, rfl, l4, c4, .inl ⟨rfl, rfl⟩, .inr ⟨D4, rfl, kw_all (by
    simp only [List.mem_cons, List.not_mem_nil, or_false, forall_eq_or_imp, forall_eq]
    exact ⟨⟨_, x4_0, ⟨_, rfl⟩⟩, ⟨_, x4_1, ⟨_, rfl⟩⟩⟩)⟩⟩, k4⟩
  have g4 := PySem.W.mg_of X G a4
  have F5 := fun_mk (st := s_law_source) l5 c5 k5
  have g5 := PySem.W.mg_of X G a5
  have b5 := F5.binds (ps := ["_law_script"]) fun _ _ _ _ _ _ us hl => match us, hl with | [_], _ => rfl
  have F6 := fun_mk (st := s_law_take) l6 c6 k6
  have g6 := PySem.W.mg_of X G a6
  have b6 := F6.binds (ps := ["_law_source_here", "_law_many"]) fun _ _ _ _ _ _ us hl => match us, hl with | [_, _], _ => rfl
  have F7 := fun_mk (st := s_law_pick) l7 c7 k7
  have g7 := PySem.W.mg_of X G a7
  have b7 := F7.binds (ps := ["_law_source_here", "_law_row"]) fun _ _ _ _ _ _ us hl => match us, hl with | [_, _], _ => rfl
  have F8 := fun_mk (st := s_law_mixed) l8 c8 k8
  have g8 := PySem.W.mg_of X G a8
  have b8 := F8.binds (ps := ["_law_source_here", "_law_row"]) fun _ _ _ _ _ _ us hl => match us, hl with | [_, _], _ => rfl
  have F9 := fun_mk (st := s_law_same) l9 c9 k9
  have g9 := PySem.W.mg_of X G a9
  have b9 := F9.binds (ps := ["_law_found", "_law_due"]) fun _ _ _ _ _ _ us hl => match us, hl with | [_, _], _ => rfl
  have F10 := fun_mk (st := s_law_term) l10 c10 k10
  have g10 := PySem.W.mg_of X G a10
  have b10 := F10.binds (ps := ["_law_source_here", "_law_signs_here", "_law_deep", "_law_room"]) fun _ _ _ _ _ _ us hl => match us, hl with | [_, _, _, _], _ => rfl
  have F11 := fun_mk (st := s_law_any_term) l11 c11 k11
  have g11 := PySem.W.mg_of X G a11
  have b11 := F11.binds (ps := ["_law_source_here"]) fun _ _ _ _ _ _ us hl => match us, hl with | [_], _ => rfl
  have F12 := fun_mk (st := s_law_signs) l12 c12 k12
  have g12 := PySem.W.mg_of X G a12
  have b12 := F12.binds (ps := ["_law_source_here", "_law_most"]) fun _ _ _ _ _ _ us hl => match us, hl with | [_, _], _ => rfl
  have F13 := fun_mk (st := s_law_measure) l13 c13 k13
  have g13 := PySem.W.mg_of X G a13
  have b13 := F13.binds (ps := ["_law_word", "_law_deep"]) fun _ _ _ _ _ _ us hl => match us, hl with | [_, _], _ => rfl
  have F14 := fun_mk (st := s_law_fits) l14 c14 k14
  have g14 := PySem.W.mg_of X G a14
  have b14 := F14.binds (ps := ["_law_word"]) fun _ _ _ _ _ _ us hl => match us, hl with | [_], _ => rfl
  have F15 := fun_mk (st := s_law_odd) l15 c15 k15
  have g15 := PySem.W.mg_of X G a15
  have b15 := F15.binds (ps := ["_law_source_here", "_law_word"]) fun _ _ _ _ _ _ us hl => match us, hl with | [_, _], _ => rfl
  have F16 := fun_mk (st := s_law_nest) l16 c16 k16
  have g16 := PySem.W.mg_of X G a16
  have b16 := F16.binds (ps := ["_law_many"]) fun _ _ _ _ _ _ us hl => match us, hl with | [_], _ => rfl
  have F17 := fun_mk (st := s_law) l17 c17 k17
  have g17 := PySem.W.mg_of X G a17
  have g_LETTERS := PySem.W.mg_of X G y0
  have h_OPERATORS : ∀ H, SqT K H oA1 [.str "&", .str "|"] := fun H => .inr ⟨_, _, _, yl1, rfl, rfl, (Nat.le_of_ble_eq_true rfl), (.cons ⟨_, rfl⟩ (.cons ⟨_, rfl⟩ .nil))⟩
  have g_OPERATORS := PySem.W.mg_of X G y1
  have g_MAX_DEPTH := PySem.W.mg_of X G y2
  have g_MAX_SIZE := PySem.W.mg_of X G y3
  have g_LONG_DEPTH := PySem.W.mg_of X G y4
  have g_LONG_SIZE := PySem.W.mg_of X G y5
  have m_len := PySem.W.mg_none_of X G z_len
  have m_int := PySem.W.mg_none_of X G z_int
  have m_list := PySem.W.mg_none_of X G z_list
  have m_str := PySem.W.mg_none_of X G z_str
  have m_tuple := PySem.W.mg_none_of X G z_tuple
  have m_isinstance := PySem.W.mg_none_of X G z_isinstance
  have m_bool := PySem.W.mg_none_of X G z_bool
  have m_dict := PySem.W.mg_none_of X G z_dict
  have m_all := PySem.W.mg_none_of X G z_all
  have m_zip := PySem.W.mg_none_of X G z_zip
  have m_sum := PySem.W.mg_none_of X G z_sum
  have m_max := PySem.W.mg_none_of X G z_max
  have m_range := PySem.W.mg_none_of X G z_range
  refine ⟨PySem.W.fnOf "law" "law" (defArgs s_law) (defBody s_law) (defScope s_law) .none kV17 dc17 pm17 an17 cd17 ct17, fun s v => .of_eq rfl, fun base _ _ => ?_⟩
  have own : ∀ {k : Nat} {x : Str} {f : Addr} {fd : FuncData} {ps : List Str} {sp : Sp}, mg x = some (.ref f) → PySem.W.keepIn K (.ref f) = true → Binds K fd ps [] → FnOk l.prog w K mg base CX0 k f fd ps sp → Own l.prog w K mg base k x ps sp := fun a b c d => ⟨_, _, a, b, c, d⟩
  have Csource := own g5 k5 b5 (ok_source (k := 0) F5 m_list)
  have Ctake := own g6 k6 b6 (ok_take (k := 0) F6 m_len m_int)
  have Cpick := own g7 k7 b7 (ok_pick (k := 1) F7 m_len Ctake)
  have Cmixed := own g8 k8 b8 (ok_mixed (k := 1) F8 m_len Ctake)
  have Ctake2 : Own l.prog w K mg base 2 _ _ spTake := own g6 k6 b6 (ok_take (k := 1) F6 m_len m_int)
  have Csigns := own g12 k12 b12 (ok_signs (k := 2) F12 m_list Ctake2 Cmixed)
  have Tn : ∀ n : Nat, FnOk l.prog w K mg base CX0 (2 + n) f10 _ _ (spTerm K n) := fun n => by
    induction n with
    | zero => exact term_zero
    | succ n ih => exact ok_term F10 m_tuple m_range (Nat.le_add_right 2 n) Ctake Cpick (own g10 k10 b10 ih)
  have Cterm := own g10 k10 b10 (Tn 5)
  have Cany := own g11 k11 b11 (ok_any_term (k := 7) F11 (by decide) Ctake Cpick Csigns Cterm)
  have Cnest := own g16 k16 b16 (ok_nest (k := 0) F16 m_range m_int)
  have Codd := own g15 k15 b15 (ok_odd (k := 2) F15 (by decide) Cpick Cnest)
  have Mn : ∀ n : Nat, FnOk l.prog w K mg base CX0 n f13 _ _ (spMeasure K n) := fun n => by
    induction n with
    | zero => exact measure_zero
    | succ n ih => exact ok_measure F13 m_isinstance m_str m_tuple m_len m_int m_sum (own g13 k13 b13 ih)
  have Cmeasure := own g13 k13 b13 (Mn 20)
  have Cfits := own g14 k14 b14 (ok_fits (k := 20) F14 Cmeasure)
  have Sn : ∀ n : Nat, FnOk l.prog w K mg base CX0 n f9 _ _ (spSame K n) := fun n => by
    induction n with
    | zero => exact same_zero
    | succ n ih => exact ok_same F9 m_isinstance m_bool m_int m_str m_dict m_list m_tuple m_len m_all m_zip (own g9 k9 b9 ih)
  have Csame := own g9 k9 b9 (Sn 3)
  have Clet := own g1 k1 b1 (ok_is_letter (k := 0) F1 m_isinstance m_str m_len g_LETTERS)
  have Ccom := own g2 k2 b2 (ok_is_compound (k := 0) F2 m_isinstance m_tuple m_len g_OPERATORS h_OPERATORS)
  have Dn : ∀ n : Nat, FnOk l.prog w K mg base CX0 (1 + n) f3 _ _ (spMeas K n) := fun n => by
    induction n with
    | zero => exact meas_zero
    | succ n ih => exact ok_measured F3 m_max (Nat.le_add_right 1 n) Clet Ccom (own g3 k3 b3 ih)
  have Cmeasd := own g3 k3 b3 (Dn 20)
  have T := ok_is_term (P := l.prog) (w := w) (mg := mg) (base := base) (k := 21) F4 Cmeasd
  obtain ⟨ds0, vd0, bd0⟩ := binds_T F4
  obtain ⟨mv1, kb1⟩ := kbinds_T1 F4
  obtain ⟨mv2, kb2⟩ := kbinds_T2 F4
  obtain ⟨mv3, kb3⟩ := kbinds_T3 F4
  exact ok_law (k := 22) F17 (by decide) m_range m_tuple g_LETTERS g_MAX_DEPTH g_MAX_SIZE g_LONG_DEPTH g_LONG_SIZE Csource Ctake Cpick Cany Codd Cnest Cmeasure Cfits Csame
    ⟨_, _, _, g4, k4, bd0, vd0, T⟩ ⟨_, _, _, g4, k4, kb1, T⟩ ⟨_, _, _, g4, k4, kb2, T⟩ ⟨_, _, _, g4, k4, kb3, T⟩
theorem walk {l : PySem.W.OpenLaw} {q : Program} {loose : List Str} {XP : (Str → Option Value) → Heap → Prop} {YP : World → Heap → Prop} {d : DefRec} {K : Params → PySem.W.Frag} (hn : l.most = some 63) (hdf : d.params.defaults = [])
    (hY : ∀ (w : World) (h : Heap), YP w h → (K w.params).In h)
    (F : ∀ (w : World) (mg : Str → Option Value) (fa : Addr) (h : Heap), (K w.params).In h → h.Ns mainGlobals mg → mg d.name = some (.ref fa) →
      ∃ fd : FuncData, (∀ (s : Shared) (u : Value), BindsTo s fd ⟨[u], []⟩ [("_law_script", u)]) ∧ ∀ base : Heap, (K w.params).In base → base.Ns mainGlobals mg → FnOk l.prog w (K w.params) mg base CX0 23 fa fd ["_law_script"] (spLaw (K w.params))) :
    PySem.W.WalkO q loose XP YP l.row.toRowW d [] (fun f vs => PySem.call f vs) :=
  L2.walk_of (n := 63) (k := 23) (x := "_law_script") (CX := fun _ => CX0) (sp := fun w => spLaw (K w.params)) hn (by decide) hdf ⟨rfl, by decide, by decide⟩ hY F (fun _ _ a ns hl _ hS => ⟨a, ns, rfl, hS, hl, fun _ => rfl⟩) fun _ _ _ _ _ z => z
end Fv
open PySem PySem.W PyProof.Rows
set_option maxRecDepth 100000 in
set_option maxHeartbeats 0 in
theorem PySem.Challenge.cw_fivefault_k01_values_that_are_terms_holds : PySem.Challenge.rw_fivefault_k01_values_that_are_terms.Holds := by
  w_on; o_law; k_head; (case hw => w_witness2)
  k_fill
  refine Fv.walk (l := PySem.Challenge.rw_fivefault_k01_values_that_are_terms) rfl rfl (fun w h Y => PySem.W.kIn_of Y) ?F
  case F =>
    intro w mg fa h KX G hmg
    refine' Fv.all_mk KX G hmg ?a1 ?l1 ?c1 ?k1 ?a2 ?l2 ?c2 ?k2 ?a3 ?l3 ?c3 ?k3 ?a4 ?l4 ?c4 ?k4 ?x4_0 ?x4_1 ?a5 ?l5 ?c5 ?k5 ?a6 ?l6 ?c6 ?k6 ?a7 ?l7 ?c7 ?k7 ?a8 ?l8 ?c8 ?k8 ?a9 ?l9 ?c9 ?k9 ?a10 ?l10 ?c10 ?k10 ?a11 ?l11 ?c11 ?k11 ?a12 ?l12 ?c12 ?k12 ?a13 ?l13 ?c13 ?k13 ?a14 ?l14 ?c14 ?k14 ?a15 ?l15 ?c15 ?k15 ?a16 ?l16 ?c16 ?k16 ?a17 ?l17 ?c17 ?k17 ?y0 ?y1 ?yl1 ?y2 ?y3 ?y4 ?y5 ?z_len ?z_int ?z_list ?z_str ?z_tuple ?z_isinstance ?z_bool ?z_dict ?z_all ?z_zip ?z_sum ?z_max ?z_range
    (case a1 => k_is)
    (case l1 => k_is)
    (case c1 => k_is)
    (case k1 => k_is)
    (case a2 => k_is)
    (case l2 => k_is)
    (case c2 => k_is)
    (case k2 => k_is)
    (case a3 => k_is)
    (case l3 => k_is)
    (case c3 => k_is)
    (case k3 => k_is)
    (case a4 => k_is)
    (case l4 => k_is)
    (case c4 => k_is)
    (case k4 => k_is)
    (case x4_0 => k_is)
    (case x4_1 => k_is)
    (case a5 => k_is)
    (case l5 => k_is)
    (case c5 => k_is)
    (case k5 => k_is)
    (case a6 => k_is)
    (case l6 => k_is)
    (case c6 => k_is)
    (case k6 => k_is)
    (case a7 => k_is)
    (case l7 => k_is)
    (case c7 => k_is)
    (case k7 => k_is)
    (case a8 => k_is)
    (case l8 => k_is)
    (case c8 => k_is)
    (case k8 => k_is)
    (case a9 => k_is)
    (case l9 => k_is)
    (case c9 => k_is)
    (case k9 => k_is)
    (case a10 => k_is)
    (case l10 => k_is)
    (case c10 => k_is)
    (case k10 => k_is)
    (case a11 => k_is)
    (case l11 => k_is)
    (case c11 => k_is)
    (case k11 => k_is)
    (case a12 => k_is)
    (case l12 => k_is)
    (case c12 => k_is)
    (case k12 => k_is)
    (case a13 => k_is)
    (case l13 => k_is)
    (case c13 => k_is)
    (case k13 => k_is)
    (case a14 => k_is)
    (case l14 => k_is)
    (case c14 => k_is)
    (case k14 => k_is)
    (case a15 => k_is)
    (case l15 => k_is)
    (case c15 => k_is)
    (case k15 => k_is)
    (case a16 => k_is)
    (case l16 => k_is)
    (case c16 => k_is)
    (case k16 => k_is)
    (case a17 => k_is)
    (case l17 => k_is)
    (case c17 => k_is)
    (case k17 => k_is)
    (case y0 => k_is)
    (case y1 => k_is)
    (case yl1 => k_is)
    (case y2 => k_is)
    (case y3 => k_is)
    (case y4 => k_is)
    (case y5 => k_is)
    (case z_len => k_is)
    (case z_int => k_is)
    (case z_list => k_is)
    (case z_str => k_is)
    (case z_tuple => k_is)
    (case z_isinstance => k_is)
    (case z_bool => k_is)
    (case z_dict => k_is)
    (case z_all => k_is)
    (case z_zip => k_is)
    (case z_sum => k_is)
    (case z_max => k_is)
    (case z_range => k_is)
