import PyProof.Rows.All
import Wide.All
import OpenK.AllK
import Wide.FinOn
import HandS.Base
import HandS.Call
import HandS.List
import HandS.Comp
import HandS.Ends
import HandS.Iter
import HandS.Text
import HandS.Words
import HandS.WordsList
import HandS.More
import HandS.Codes
import HandS.IsInst
import HandS.Zip
import HandS.Walk
import HandS.Style
import HandS.Defaults
import HandS.MakeKwOnly
import KE.KExcSuper
import HandS.Exc
import HandS.ExcInit
import HandS.ExcField
import HandS.Lambda
import HandS.Star
import HandS.WordsExc
import HandS.FStr
import KE.KParD
import HandS.NoneIn
import HandS.EndTab
import PySem.Challenge.RW_fivefault_k04_turned_and_substituted_ter
set_option Elab.async false
set_option linter.all false
set_option maxRecDepth 100000

namespace Fv
open PySem PySem.Spec PyProof.Rows L2
/-! ### heaps -/
theorem same_upd {H : Hp} {p : Addr} {o : HO} (h : H p = none) : Same H (upd H p o) := fun b x e => by
  rw [upd_ne (ne_of_none e h)]
  exact e
/-- all but what stands at M is as it was -/
def SmX (M : List Addr) (H H' : Hp) : Prop := ∀ b o, b ∉ M → H b = some o → H' b = some o
theorem SmX.refl (M : List Addr) (H : Hp) : SmX M H H := fun _ _ _ h => h
theorem SmX.trans {M : List Addr} {H H1 H2 : Hp} (a : SmX M H H1) (b : SmX M H1 H2) : SmX M H H2 := fun c o m h => b c o m (a c o m h)
theorem SmX.of_same {M : List Addr} {H H1 : Hp} (a : Same H H1) : SmX M H H1 := fun c o _ h => a c o h
theorem SmX.new {M : List Addr} {H : Hp} {p : Addr} {o : HO} (h : H p = none) : SmX M H (upd H p o) := .of_same (same_upd h)
theorem SmX.sub {M M' : List Addr} {H H1 : Hp} (a : SmX M H H1) (h : ∀ b, b ∈ M → b ∈ M' ∨ H b = none) : SmX M' H H1 := fun c o m e => by
  refine a c o (fun hc => ?_) e
  rcases h c hc with q | q
  · exact m q
  · rw [q] at e; cases e
theorem SmX.at {M : List Addr} {H H1 : Hp} {a : Addr} (h : ∀ b, b ≠ a → H1 b = H b) (m : a ∈ M) : SmX M H H1 := fun c o n e => by
  rw [h c (fun z => n (z ▸ m))]; exact e
theorem SmX.put {M : List Addr} {H H1 : Hp} {p : Addr} {o : HO} (a : SmX M H H1) (m : p ∈ M) : SmX M H (L2.upd H1 p o) := fun c x n e => by
  have ne : c ≠ p := fun z => n (z ▸ m)
  rw [upd_ne ne]; exact a c x n e
/-- what does not stand at M -/
def hide (M : List Addr) (H : Hp) : Hp := fun b => if b ∈ M then none else H b
theorem hide_ne {M : List Addr} {H : Hp} {b : Addr} (h : b ∉ M) : hide M H b = H b := by unfold hide; rw [if_neg h]
theorem hide_some {M : List Addr} {H : Hp} {b : Addr} {o : HO} (h : hide M H b = some o) : b ∉ M ∧ H b = some o := by
  unfold hide at h
  by_cases m : b ∈ M
  · rw [if_pos m] at h; cases h
  · rw [if_neg m] at h; exact ⟨m, h⟩
theorem hide_same {M : List Addr} {H : Hp} : Same (hide M H) H := fun b o h => (hide_some h).2
theorem SmX.hid {M : List Addr} {H H' : Hp} (h : SmX M H H') : Same (hide M H) (hide M H') := fun b o e => by
  obtain ⟨m, e⟩ := hide_some e
  rw [hide_ne m]
  exact h b o m e
theorem hide_sub {M M' : List Addr} {H : Hp} (h : ∀ b, b ∈ M' → b ∈ M) : Same (hide M H) (hide M' H) := fun b o e => by
  obtain ⟨m, e⟩ := hide_some e
  rw [hide_ne (fun z => m (h b z))]
  exact e
theorem same_seqT {K : PySem.W.Frag} {H H' : Hp} {a : Addr} {xs : List V} (e : Same H H') (h : SqT K H a xs) : SqT K H' a xs := by
  rcases h with (h | ⟨o, h⟩) | h
  · exact .inl (.inl (e _ _ h))
  · exact .inl (.inr ⟨o, e _ _ h⟩)
  · exact .inr h
mutual
theorem dp_same {K : PySem.W.Frag} {H H' : Hp} (e : Same H H') : ∀ (d : PyData) (v : V), Dp K H v d → Dp K H' v d
  | .none, _, h => by cases h; exact .non
  | .bool b, _, h => by cases h; exact .bl b
  | .int i, _, h => by cases h; exact .int i
  | .str x, _, h => by cases h; exact .str x
  | .list ds, _, h => by cases h with | lst hs ha => exact .lst (e.seq hs) (dpAll_same e ds _ ha)
  | .tuple ds, _, h => by cases h with | tup hs ha => exact .tup (same_seqT e hs) (dpAll_same e ds _ ha)
  | .dict kvs, _, h => by cases h
theorem dpAll_same {K : PySem.W.Frag} {H H' : Hp} (e : Same H H') : ∀ (ds : List PyData) (vs : List V), DpAll K H vs ds → DpAll K H' vs ds
  | [], _, h => by cases h; exact .nil
  | d :: ds, _, h => by cases h with | cons h1 h2 => exact .cons (dp_same e d _ h1) (dpAll_same e ds _ h2)
end
theorem dpAll_len {K : PySem.W.Frag} {H : Hp} : ∀ {vs : List V} {ds : List PyData}, DpAll K H vs ds → vs.length = ds.length
  | _, _, .nil => rfl
  | _, _, .cons _ h => by rw [List.length_cons, List.length_cons, dpAll_len h]
theorem dpAll_get {K : PySem.W.Frag} {H : Hp} : ∀ {vs : List V} {ds : List PyData} {i : Nat} {v : V}, DpAll K H vs ds → vs[i]? = some v → ∃ d, ds[i]? = some d ∧ Dp K H v d
  | _, _, _, _, .nil, e => by simp at e
  | _, _, 0, _, .cons h _, e => by simp at e; subst e; exact ⟨_, rfl, h⟩
  | _ :: vs, _ :: ds, i + 1, _, .cons _ h, e => by
    have e' : vs[i]? = some _ := e
    exact dpAll_get (ds := ds) h e'
theorem dpAll_app {K : PySem.W.Frag} {H : Hp} : ∀ {vs ws : List V} {ds es : List PyData}, DpAll K H vs ds → DpAll K H ws es → DpAll K H (vs ++ ws) (ds ++ es)
  | _, _, _, _, .nil, h => h
  | _, _, _, _, .cons h1 h2, h => .cons h1 (dpAll_app h2 h)
theorem dpAll_drop {K : PySem.W.Frag} {H : Hp} : ∀ (n : Nat) {vs : List V} {ds : List PyData}, DpAll K H vs ds → DpAll K H (vs.drop n) (ds.drop n)
  | 0, _, _, h => h
  | n + 1, _, _, .nil => .nil
  | n + 1, _, _, .cons _ h => dpAll_drop n h
/-! ### data -/
mutual
/-- plain data, nested at most n deep -/
def gd : Nat → PyData → Bool
  | _, .none => true
  | _, .bool _ => true
  | _, .int _ => true
  | _, .str x => PyData.strOk x && decide (x.length ≤ 100000)
  | 0, _ => false
  | n + 1, .list ds => gdAll n ds && decide (ds.length ≤ 1000)
  | n + 1, .tuple ds => gdAll n ds && decide (ds.length ≤ 1000)
  | _, .dict _ => false
def gdAll : Nat → List PyData → Bool
  | _, [] => true
  | n, d :: ds => gd n d && gdAll n ds
end
theorem gdAll_iff {n : Nat} : ∀ {ds : List PyData}, gdAll n ds = true ↔ ∀ d ∈ ds, gd n d = true
  | [] => by simp [gdAll]
  | d :: ds => by simp [gdAll, gdAll_iff (n := n) (ds := ds)]
mutual
theorem gd_up : ∀ (n : Nat) (d : PyData), gd n d = true → gd (n + 1) d = true
  | _, .none, _ => rfl
  | _, .bool _, _ => rfl
  | _, .int _, _ => rfl
  | 0, .str x, h => h
  | n + 1, .str x, h => h
  | 0, .list _, h => by cases h
  | 0, .tuple _, h => by cases h
  | 0, .dict _, h => by cases h
  | n + 1, .list ds, h => by
    simp only [gd, Bool.and_eq_true] at h ⊢
    exact ⟨gdAll_up n ds h.1, h.2⟩
  | n + 1, .tuple ds, h => by
    simp only [gd, Bool.and_eq_true] at h ⊢
    exact ⟨gdAll_up n ds h.1, h.2⟩
  | n + 1, .dict _, h => by cases h
theorem gdAll_up : ∀ (n : Nat) (ds : List PyData), gdAll n ds = true → gdAll (n + 1) ds = true
  | _, [], _ => rfl
  | n, d :: ds, h => by
    simp only [gdAll, Bool.and_eq_true] at h ⊢
    exact ⟨gd_up n d h.1, gdAll_up n ds h.2⟩
end
theorem gd_le {n m : Nat} {d : PyData} (h : gd n d = true) (hm : n ≤ m) : gd m d = true := by
  induction hm with
  | refl => exact h
  | step _ ih => exact gd_up _ _ ih
mutual
theorem gd_lay : ∀ (n : Nat) (d : PyData), gd n d = true → d.canLay0 = true ∧ d.depth ≤ n
  | _, .none, _ => ⟨rfl, by simp [PyData.depth]⟩
  | _, .bool _, _ => ⟨rfl, by simp [PyData.depth]⟩
  | _, .int _, _ => ⟨rfl, by simp [PyData.depth]⟩
  | 0, .str x, h => ⟨by simp only [gd, Bool.and_eq_true] at h; simpa [PyData.canLay0] using h.1, by simp [PyData.depth]⟩
  | n + 1, .str x, h => ⟨by simp only [gd, Bool.and_eq_true] at h; simpa [PyData.canLay0] using h.1, by simp [PyData.depth]⟩
  | 0, .list _, h => by cases h
  | 0, .tuple _, h => by cases h
  | 0, .dict _, h => by cases h
  | n + 1, .list ds, h => by
    have q := gdAll_lay n ds (by simp only [gd, Bool.and_eq_true] at h; exact h.1)
    exact ⟨by simpa [PyData.canLay0] using q.1, by simp only [PyData.depth]; omega⟩
  | n + 1, .tuple ds, h => by
    have q := gdAll_lay n ds (by simp only [gd, Bool.and_eq_true] at h; exact h.1)
    exact ⟨by simpa [PyData.canLay0] using q.1, by simp only [PyData.depth]; omega⟩
  | n + 1, .dict _, h => by cases h
theorem gdAll_lay : ∀ (n : Nat) (ds : List PyData), gdAll n ds = true → PyData.canLayAll0 ds = true ∧ PyData.depthAll ds ≤ n
  | _, [], _ => ⟨rfl, by simp [PyData.depthAll]⟩
  | n, d :: ds, h => by
    simp only [gdAll, Bool.and_eq_true] at h
    have a := gd_lay n d h.1
    have b := gdAll_lay n ds h.2
    exact ⟨by simp [PyData.canLayAll0, a.1, b.1], by simp only [PyData.depthAll]; omega⟩
end
theorem gd_list {n : Nat} {ds : List PyData} (h : gd (n + 1) (.list ds) = true) : ds.length ≤ 1000 ∧ ∀ d ∈ ds, gd n d = true := by
  simp only [gd, Bool.and_eq_true, decide_eq_true_eq] at h
  exact ⟨h.2, gdAll_iff.mp h.1⟩
theorem gd_tuple {n : Nat} {ds : List PyData} (h : gd (n + 1) (.tuple ds) = true) : ds.length ≤ 1000 ∧ ∀ d ∈ ds, gd n d = true := by
  simp only [gd, Bool.and_eq_true, decide_eq_true_eq] at h
  exact ⟨h.2, gdAll_iff.mp h.1⟩
theorem gd_tup {n : Nat} {ds : List PyData} (h : ∀ d ∈ ds, gd n d = true) (hl : ds.length ≤ 1000) : gd (n + 1) (.tuple ds) = true := by
  simp only [gd, Bool.and_eq_true, decide_eq_true_eq]
  exact ⟨gdAll_iff.mpr h, hl⟩
theorem gd_lst {n : Nat} {ds : List PyData} (h : ∀ d ∈ ds, gd n d = true) (hl : ds.length ≤ 1000) : gd (n + 1) (.list ds) = true := by
  simp only [gd, Bool.and_eq_true, decide_eq_true_eq]
  exact ⟨gdAll_iff.mpr h, hl⟩
theorem gd_shaped {n : Nat} {d : PyData} (h : gd n d = true) (hn : n ≤ 64) : SeqAt.shaped d = true := by
  have q := gd_lay n d h
  show (d.canLay0 && decide (d.depth ≤ 64)) = true
  rw [q.1, decide_eq_true (Nat.le_trans q.2 hn)]
  rfl
end Fv


namespace Fv
open PySem PySem.Spec PyProof.Rows L2
/-! ### an own def as its callers see it -/
structure Own (P : Program) (w : World) (K : PySem.W.Frag) (mg : Str → Option Value) (base : Heap) (k : Nat) (x : Str) (ps : List Str) (sp : Sp) : Prop where
  ex : ∃ (f : Addr) (fd : FuncData), mg x = some (.ref f) ∧ PySem.W.keepIn K (.ref f) = true ∧ Binds K fd ps [] ∧ FnOk P w K mg base CX0 k f fd ps sp
section
variable {X : Cx} {k : Nat} {x : Str} {ps : List Str} {sp : Sp} {e : Expr} {es : List Expr} {t : TA} {p pos : Pos}
theorem pe_own (C : Own X.prog X.w X.K X.mg X.base k x ps sp) (hr : Room k X.A) (hg : Gl X x) (ha : PA X (e :: es) t) (hdb : (x == ("__debug__" : Str)) = false := by decide)
    (he : starEach (e :: es) X.env = (false, eval e X.env) :: starEach es X.env := by rfl) (hpl : (backTo pos (starEach es X.env)).any (·.1) = false := by rfl) : PE X (.Call (.Name x p) (e :: es) [] pos) (tCall sp [] E0 t) := by
  obtain ⟨f, fd, h1, h2, h3, h4⟩ := C.ex
  exact pe_call h4 hr hg h1 h2 h3 .nil pass0 ha hdb he hpl
end
/-! ### isinstance of data -/
def tyN : PyData → String
  | .none => "NoneType"
  | .bool _ => "bool"
  | .int _ => "int"
  | .str _ => "str"
  | .list _ => "list"
  | .tuple _ => "tuple"
  | .dict _ => "dict"
/-- isinstance of data, by the names of the types -/
def isB : String → String → Bool
  | a, b => a == b || (a == "bool" && b == "int")
def tyOk (T : String) : Bool := T == "str" || T == "int" || T == "bool" || T == "list" || T == "tuple" || T == "dict"
theorem kitB_all {d : PyData} {T : String} (h : tyOk T = true) : kitB (tyN d) T = some (isB (tyN d) T) := by
  simp only [tyOk, Bool.or_eq_true, beq_iff_eq] at h
  rcases h with ((((h | h) | h) | h) | h) | h <;> subst h <;> cases d <;> (simp only [tyN]; decide +kernel)
theorem dp_ty {K : PySem.W.Frag} {H : Hp} {v : V} {d : PyData} (h : Dp K H v d) : TyX K H v (.type (tyN d)) := by
  cases h with
  | non => exact .base .non
  | bl b => exact .base (.bl b)
  | int i => exact .base (.int i)
  | str x => exact .base (.str x)
  | lst hs ha =>
    rcases hs with (h | ⟨o, h⟩) | ⟨o, its, n, h1, h2, _⟩
    · exact .base (.lst h)
    · exact .base (.frz h)
    · exact .kList h1 h2
  | tup hs ha =>
    rcases hs with (h | ⟨o, h⟩) | ⟨o, its, n, h1, h2, _⟩
    · exact .base (.tup h)
    · exact .fTuple h
    · exact .kTuple h1 h2
def rIsD (K : PySem.W.Frag) : List V → Hp → VK → Prop := fun xs H Q => ∃ (x : V) (T : String) (d : PyData), xs = [x, .ty T] ∧ tyOk T = true ∧ Dp K H x d ∧ Q (.bl (isB (tyN d) T)) H
theorem call_isD {X : Cx} : CallR X (.builtin "isinstance") (rIsD X.K) := by
  intro pins s σ H xs us Q I r h
  obtain ⟨x, T, d, rfl, hT, hd, q⟩ := h
  exact call_isi pins s σ H _ us Q I r ⟨x, .ty T, _, _, _, rfl, .ty T, dp_ty hd, kit_ty (kitB_all hT), q⟩
section
variable {X : Cx} {e : Expr} {te : TE} {T : String} {y : Str} {p p2 pos : Pos}
theorem pe_isD (hg : Gl X "isinstance") (hm : X.mg "isinstance" = none) (hg2 : Gl X y) (hm2 : X.mg y = none) (ha : PE X e te)
    (hv : bootBuiltins y = some (.type T) := by decide +kernel) (hn : y ≠ "__name__" := by decide) (hd2 : (y == ("__debug__" : Str)) = false := by decide)
    (he : starEach (e :: [.Name y p2]) X.env = (false, eval e X.env) :: starEach [.Name y p2] X.env := by rfl) (hpl : (backTo pos (starEach [.Name y p2] X.env)).any (·.1) = false := by rfl) :
    PE X (.Call (.Name "isinstance" p) [e, .Name y p2] [] pos) (tCB (rIsD X.K) (tCons te (tCons (tC (.ty T)) tNil))) :=
  pe_callB (x := "isinstance") call_isD hg hm (by decide +kernel) (pa_cons ha (pa_cons (pe_bltn (v := .ty T) (pos := p2) hg2 hm2 hv rfl hn hd2) pa_nil) (hs := he)) (by decide) (by decide) he hpl
/-! ### in, not in: a tuple of data -/
def rInT (K : PySem.W.Frag) : R2 := fun x y H Q => ∃ d ds, Dp K H x d ∧ Dp K H y (.tuple ds) ∧ SeqAt.shaped d = true ∧ SeqAt.shaped (.tuple ds) = true ∧ Q (.bl (ds.any fun z => PyData.eqv z d)) H
def rNotInT (K : PySem.W.Frag) : R2 := fun x y H Q => ∃ d ds, Dp K H x d ∧ Dp K H y (.tuple ds) ∧ SeqAt.shaped d = true ∧ SeqAt.shaped (.tuple ds) = true ∧ Q (.bl (!ds.any fun z => PyData.eqv z d)) H
theorem room_shaped {n : Nat} {ds : List PyData} {d : PyData} (h : SeqAt.shaped d = true) (hu : n + 65 < cLine) : n + 1 + min (PyData.depthAll ds) d.depth < cLine := by
  have := SeqAt.depth_of_shaped h
  have := Nat.min_le_right (PyData.depthAll ds) d.depth
  omega
theorem op_inT (hu : X.A.units + 65 < cLine) : OpR X (compareOp .In) (rInT X.K) := by
  intro pins s σ H x y v u Q I rx ry h
  obtain ⟨d, ds, hd, he, sd, se, q⟩ := h
  obtain ⟨as, r1⟩ := Dp.reads I d x v hd rx
  obtain ⟨bs, r2⟩ := Dp.reads I (.tuple ds) y u he ry
  exact SeqAt.in_tuple_reads r2 r1 (SeqAt.canLay_of_shaped se) (SeqAt.canLay_of_shaped sd) (room_shaped sd hu) ⟨.bl _, H, I, rfl, q⟩
theorem op_notInT (hu : X.A.units + 65 < cLine) : OpR X (compareOp .NotIn) (rNotInT X.K) := by
  intro pins s σ H x y v u Q I rx ry h
  obtain ⟨d, ds, hd, he, sd, se, q⟩ := h
  obtain ⟨as, r1⟩ := Dp.reads I d x v hd rx
  obtain ⟨bs, r2⟩ := Dp.reads I (.tuple ds) y u he ry
  exact SeqAt.notIn_tuple_reads r2 r1 (SeqAt.canLay_of_shaped se) (SeqAt.canLay_of_shaped sd) (room_shaped sd hu) ⟨.bl _, H, I, rfl, q⟩
end
theorem hu65 {A : Around} {k : Nat} (hr : Room k A) : A.units + 65 < cLine := by have := hr.un; omega
/-! ### the source of draws -/
/-- the source at a: its script at L, ns -/
def Src (H : Hp) (a L : Addr) (ns : List Int) : Prop := ∃ i p st c : Int, H a = some (.lst [.ref L, .int i, .int p, .int st, .int c]) ∧ H L = some (.lst (ns.map V.int)) ∧ 0 ≤ i ∧ 0 ≤ st ∧ st < 2147483629
theorem Src.off {H H' : Hp} {a L b : Addr} {ns : List Int} (h : Src H a L ns) (hb : H b = none) (e : ∀ c, c ≠ b → H' c = H c) : Src H' a L ns := by
  obtain ⟨i, p, st, c, h1, h2, h3⟩ := h
  exact ⟨i, p, st, c, by rw [e a (ne_of_none h1 hb)]; exact h1, by rw [e L (ne_of_none h2 hb)]; exact h2, h3⟩
theorem Src.same {H H' : Hp} {a L : Addr} {ns : List Int} (h : Src H a L ns) (e : Same H H') : Src H' a L ns := by
  obtain ⟨i, p, st, c, h1, h2, h3⟩ := h
  exact ⟨i, p, st, c, e _ _ h1, e _ _ h2, h3⟩
def spSource (K : PySem.W.Frag) : Sp := fun vs H Q _ => ∃ (a : Addr) (ns : List Int), vs = [.ref a] ∧ SqL K H a (ns.map V.int) ∧ ns.length ≤ 63 ∧
  ∀ (H' : Hp) (p L : Addr), Same H H' → H p = none → H L = none → Src H' p L ns → Q (.ref p) H'
def spTake : Sp := fun vs H Q _ => ∃ (a L : Addr) (ns : List Int) (n : Int), vs = [.ref a, .int n] ∧ Src H a L ns ∧ 1 ≤ n ∧ n ≤ 1000000 ∧
  ∀ (H' : Hp) (d : Int), 0 ≤ d → d < n → Src H' a L ns → (∀ b, b ≠ a → H' b = H b) → Q (.int d) H'
def spPick : Sp := fun vs H Q _ => ∃ (a L r : Addr) (ns : List Int) (xs : List V), vs = [.ref a, .ref r] ∧ Src H a L ns ∧ r ≠ a ∧ H r = some (.lst xs) ∧ 0 < xs.length ∧ xs.length ≤ 1000 ∧
  ∀ (H' : Hp) (v : V), v ∈ xs → Src H' a L ns → (∀ b, b ≠ a → H' b = H b) → Q v H'
def spMixed : Sp := fun vs H Q _ => ∃ (a L r : Addr) (ns : List Int) (xs : List V), vs = [.ref a, .ref r] ∧ Src H a L ns ∧ r ≠ a ∧ H r = some (.lst xs) ∧ xs.length ≤ 1000 ∧
  ∀ (H' : Hp) (p : Addr) (ys : List V), ys.Perm xs → H p = none → H' p = some (.lst ys) → Src H' a L ns → (∀ b, b ≠ a → b ≠ p → H' b = H b) → Q (.ref p) H'
end Fv


namespace Fv
open PySem PySem.Spec PyProof.Rows L2
/-! ### list(text) -/
def signs (x : Str) : List V := x.cps.toList.map fun c => V.str ⟨#[c]⟩
theorem vals_signs {x : Str} {acc : Array Value} (h : ItemsOf (SignAt x) acc x.cps.size) : Vals (signs x) acc.toList := by
  have hs : acc.toList.length = x.cps.toList.length := by simpa using h.1
  have hi : ∀ (j : Nat) (v : Value), acc.toList[j]? = some v → ∃ c u, x.cps.toList[j]? = some c ∧ v = .str ⟨#[c]⟩ u := fun j v e => by
    obtain ⟨c, u, e1, e2⟩ := h.2 j v (by simpa using e)
    exact ⟨c, u, by simpa using e1, e2⟩
  unfold signs
  generalize acc.toList = us at hs hi
  generalize x.cps.toList = cs at hs hi
  induction cs generalizing us with
  | nil =>
    cases us with
    | nil => exact .nil
    | cons u us => simp at hs
  | cons c cs ih =>
    cases us with
    | nil => simp at hs
    | cons u us =>
      obtain ⟨c', t, e1, e2⟩ := hi 0 u rfl
      simp at e1
      subst e1
      refine .cons ⟨t, e2⟩ (ih us (by simpa using hs) fun j v e => ?_)
      obtain ⟨c', t, e1, e2⟩ := hi (j + 1) v (by simpa using e)
      exact ⟨c', t, by simpa using e1, e2⟩
section
variable {X : Cx}
theorem call_listStr (hh : X.A.handled = none) : CallR X (.type "list") (fun xs H Q => ∃ x : Str, xs = [.str x] ∧ x.cps.size ≤ sizeLine ∧ ∀ l, H l = none → Q (.ref l) (upd H l (.lst (signs x)))) := by
  intro pins s σ H xs us Q I r h
  obtain ⟨x, rfl, hz, q⟩ := h
  obtain ⟨u, rfl, rx⟩ := vals1 r
  obtain ⟨t, rfl⟩ := rx
  refine call_list_str hh x t (fun h' tk acc' c' kp e it => ?_) hz
  have rv := vals_signs it
  refine ⟨.ref s.heap.objs.size, _, I.laid (t' := tk) kp (Nat.le_refl _) (show ObjOk X.prog X.w _ h' _ (.lst (signs x)) from ⟨?_, acc'.toList, c', rv, ?_⟩), rfl, q _ (I.hok.fresh (Nat.le_refl _))⟩
  · unfold signs; rw [List.length_map, Array.length_toList]; exact hz
  · simpa using e
end
theorem atI_mem {xs : List V} {i : Int} (h0 : 0 ≤ i) (h : i < (xs.length : Nat)) : ∃ v, atI xs i = some v ∧ v ∈ xs := by
  have hk : i.toNat < xs.length := by omega
  have q : atI xs ((i.toNat : Nat) : Int) = some xs[i.toNat] := atI_nat (List.getElem?_eq_getElem hk)
  rw [show ((i.toNat : Nat) : Int) = i by omega] at q
  exact ⟨_, q, List.getElem_mem hk⟩
theorem le1000 {n : Nat} (h : n ≤ 1000) : n ≤ sizeLine := Nat.le_of_lt (small1000 h)
/-- the letters of a list of signs are texts of one sign of a to h -/
def lett (v : V) : Prop := v ∈ signs "abcdefgh"
theorem lett_data {v : V} (h : lett v) : ∃ x : Str, v = .str x ∧ x ∈ (["a", "b", "c", "d", "e", "f", "g", "h"] : List Str) := by
  have e : signs "abcdefgh" = (["a", "b", "c", "d", "e", "f", "g", "h"] : List Str).map V.str := by decide +kernel
  unfold lett at h
  rw [e] at h
  obtain ⟨x, hx, rfl⟩ := List.mem_map.mp h
  exact ⟨x, rfl, hx⟩
def spSigns : Sp := fun vs H Q _ => ∃ (a L : Addr) (ns : List Int) (n : Int), vs = [.ref a, .int n] ∧ Src H a L ns ∧ 1 ≤ n ∧ n ≤ 8 ∧
  ∀ (H' : Hp) (p : Addr) (ys : List V), 0 < ys.length → ys.length ≤ n → (∀ y ∈ ys, lett y) → ys.Nodup → H p = none → H' p = some (.lst ys) → Src H' a L ns → SmX [a] H H' → Q (.ref p) H'
theorem cut_take (xs : List V) {n : Int} (h : 0 ≤ n) : cutV xs none (some n) = xs.take n.toNat := by
  unfold cutV
  rw [HT.sIx_none, show HT.sIx xs.length xs.length (some n) = min n.toNat xs.length by
    have := HT.sIx_nat xs.length xs.length n.toNat
    rw [show ((n.toNat : Nat) : Int) = n by omega] at this
    exact this]
  rw [List.drop_zero, Nat.sub_zero]
  rcases Nat.le_total n.toNat xs.length with q | q
  · rw [Nat.min_eq_left q]
  · rw [Nat.min_eq_right q, List.take_of_length_le (Nat.le_refl _), List.take_of_length_le q]
theorem cut_drop1 (xs : List V) : cutV xs (some 1) none = xs.drop 1 := by
  unfold cutV
  rw [show HT.sIx xs.length 0 (some 1) = min 1 xs.length from HT.sIx_nat xs.length 0 1, HT.sIx_none]
  cases xs with
  | nil => rfl
  | cons x r =>
    rw [show min 1 (x :: r).length = 1 by
      rw [List.length_cons]
      omega]
    show (List.take ((x :: r).length - 1) r) = r
    rw [List.length_cons, Nat.add_sub_cancel]
    exact List.take_length
end Fv


namespace Fv
open PySem PySem.Spec PyProof.Rows L2
/-! ### measures of data -/
def isL (s : Str) : Bool := decide (V.int (s.length : Nat) = V.int 1) && !(Builtin.Str.occurrences "abcdefgh" s 0 (Str.length "abcdefgh") 1).isEmpty
def isLd : PyData → Bool
  | .str s => isL s
  | _ => false
def isOp (o : PyData) : Bool := ([PyData.str "&", .str "|"] : List PyData).any fun z => PyData.eqv z o
def isCd : PyData → Bool
  | .tuple (o :: ds) => decide (2 ≤ ds.length) && isOp o
  | _ => false
def parts : PyData → List PyData
  | .tuple (_ :: ds) => ds
  | _ => []
def measL (f : PyData → Int → Option (Int × Int)) : List PyData → Int → Int → Int → Option (Int × Int)
  | [], _, dp, tot => some (dp + 1, tot)
  | d :: ds, ms, dp, tot => match f d (ms - tot) with
    | none => none
    | some (a, b) => measL f ds ms (if a > dp then a else dp) (tot + b)
def meas : Nat → PyData → Int → Option (Int × Int)
  | 0, _, _ => none
  | n + 1, d, ms => if ms < 1 then none else if isLd d = true then some (1, 1) else if isCd d = true then measL (meas n) (parts d) ms 0 0 else none
def lmeas : Nat → PyData → Int
  | 0, _ => 0
  | n + 1, d => if isLd d = true then 1 else if isCd d = true then (if (0 : Int) ∈ (parts d).map (lmeas n) then 0 else ((parts d).map (lmeas n)).sum) else 0
theorem sum_nonneg : ∀ {l : List Int}, (∀ x ∈ l, 0 ≤ x) → 0 ≤ l.sum
  | [], _ => by simp
  | x :: l, h => by
    rw [List.sum_cons]
    have := h x (List.mem_cons_self ..)
    have := sum_nonneg (l := l) fun y hy => h y (List.mem_cons_of_mem _ hy)
    omega
theorem lmeas_nonneg : ∀ (n : Nat) (d : PyData), 0 ≤ lmeas n d
  | 0, _ => by simp [lmeas]
  | n + 1, d => by
    unfold lmeas
    split
    · decide
    · split
      · split
        · decide
        · exact sum_nonneg fun x hx => by
            obtain ⟨d', _, rfl⟩ := List.mem_map.mp hx
            exact lmeas_nonneg n d'
      · decide
theorem measL_iff {f : PyData → Int → Option (Int × Int)} {g : PyData → Int} (hg : ∀ d, 0 ≤ g d)
    (hf : ∀ d ms, (f d ms = none ∧ ¬ (1 ≤ g d ∧ g d ≤ ms)) ∨ (∃ dp, f d ms = some (dp, g d) ∧ 1 ≤ g d ∧ g d ≤ ms)) :
    ∀ (ds : List PyData) (ms dp tot : Int), tot ≤ ms →
      (measL f ds ms dp tot = none ∧ ¬ ((∀ d ∈ ds, 1 ≤ g d) ∧ tot + (ds.map g).sum ≤ ms)) ∨ (∃ dp', measL f ds ms dp tot = some (dp', tot + (ds.map g).sum) ∧ (∀ d ∈ ds, 1 ≤ g d) ∧ tot + (ds.map g).sum ≤ ms)
  | [], ms, dp, tot, h => by
    refine .inr ⟨dp + 1, ?_, by simp, by simpa using h⟩
    simp [measL]
  | d :: ds, ms, dp, tot, h => by
    have hs : 0 ≤ (ds.map g).sum := sum_nonneg fun x hx => by
      obtain ⟨d', _, rfl⟩ := List.mem_map.mp hx
      exact hg d'
    rw [List.map_cons, List.sum_cons]
    rcases hf d (ms - tot) with ⟨e, ne⟩ | ⟨a, e, e1, e2⟩
    · refine .inl ⟨by simp only [measL, e], fun ⟨q1, q2⟩ => ne ⟨q1 d (List.mem_cons_self ..), by omega⟩⟩
    · have st : measL f (d :: ds) ms dp tot = measL f ds ms (if a > dp then a else dp) (tot + g d) := by simp only [measL, e]
      rw [st]
      rcases measL_iff hg hf ds ms (if a > dp then a else dp) (tot + g d) (by omega) with ⟨e', ne⟩ | ⟨dp', e', q1, q2⟩
      · refine .inl ⟨e', fun ⟨q1, q2⟩ => ne ⟨fun x hx => q1 x (List.mem_cons_of_mem _ hx), by omega⟩⟩
      · refine .inr ⟨dp', by rw [e', Int.add_assoc], fun x hx => ?_, by omega⟩
        rcases List.mem_cons.mp hx with e | hx
        · rw [e]; exact e1
        · exact q1 x hx
theorem meas_iff : ∀ (n : Nat) (d : PyData) (ms : Int), (meas n d ms = none ∧ ¬ (1 ≤ lmeas n d ∧ lmeas n d ≤ ms)) ∨ (∃ dp, meas n d ms = some (dp, lmeas n d) ∧ 1 ≤ lmeas n d ∧ lmeas n d ≤ ms)
  | 0, d, ms => .inl ⟨rfl, fun h => by simp only [lmeas] at h; omega⟩
  | n + 1, d, ms => by
    have hn := lmeas_nonneg (n + 1) d
    unfold meas
    by_cases h1 : ms < 1
    · rw [if_pos h1]
      exact .inl ⟨rfl, fun h => by omega⟩
    · rw [if_neg h1]
      unfold lmeas
      by_cases h2 : isLd d = true
      · rw [if_pos h2, if_pos h2]
        exact .inr ⟨1, rfl, by decide, by omega⟩
      · rw [if_neg h2, if_neg h2]
        by_cases h3 : isCd d = true
        · rw [if_pos h3, if_pos h3]
          have q := measL_iff (g := lmeas n) (lmeas_nonneg n) (meas_iff n) (parts d) ms 0 0 (by omega)
          rw [Int.zero_add] at q
          by_cases h4 : (0 : Int) ∈ (parts d).map (lmeas n)
          · rw [if_pos h4]
            rcases q with ⟨e, _⟩ | ⟨dp, e, q1, _⟩
            · exact .inl ⟨e, fun h => by omega⟩
            · obtain ⟨x, hx, e0⟩ := List.mem_map.mp h4
              have := q1 x hx
              omega
          · rw [if_neg h4]
            have all1 : ∀ x ∈ parts d, 1 ≤ lmeas n x := fun x hx => by
              have z := lmeas_nonneg n x
              rcases Int.lt_or_eq_of_le z with z | z
              · omega
              · exact absurd (List.mem_map.mpr ⟨x, hx, z.symm⟩) h4
            rcases q with ⟨e, ne⟩ | ⟨dp, e, q1, q2⟩
            · exact .inl ⟨e, fun h => ne ⟨all1, h.2⟩⟩
            · refine .inr ⟨dp, e, ?_, q2⟩
              have hp : parts d ≠ [] := by
                cases d with
                | tuple ds =>
                  cases ds with
                  | nil => cases h3
                  | cons o ds =>
                    intro e0
                    simp only [parts] at e0
                    rw [e0] at h3
                    simp [isCd] at h3
                | _ => cases h3
              cases hd : parts d with
              | nil => exact absurd hd hp
              | cons x r =>
                rw [hd] at all1
                rw [List.map_cons, List.sum_cons]
                have := all1 x (List.mem_cons_self ..)
                have := sum_nonneg (l := r.map (lmeas n)) fun y hy => by
                  obtain ⟨d', _, rfl⟩ := List.mem_map.mp hy
                  exact lmeas_nonneg n d'
                omega
        · rw [if_neg h3, if_neg h3]
          exact .inl ⟨rfl, fun h => by omega⟩
/-- the two measures agree -/
theorem meas_some (n : Nat) (d : PyData) (ms : Int) : (meas n d ms).isSome = (decide (1 ≤ lmeas n d) && decide (lmeas n d ≤ ms)) := by
  rcases meas_iff n d ms with ⟨e, ne⟩ | ⟨dp, e, h1, h2⟩
  · rw [e]
    by_cases a : 1 ≤ lmeas n d
    · have b : ¬ lmeas n d ≤ ms := fun z => ne ⟨a, z⟩
      simp [b]
    · simp [a]
  · rw [e]; simp [h1, h2]
/-! ### contracts -/
/-- plain data at v: nested at most 20 deep -/
def spIsLetter (K : PySem.W.Frag) : Sp := fun vs H Q _ => ∃ (v : V) (d : PyData), vs = [v] ∧ Dp K H v d ∧ gd 20 d = true ∧ Q (.bl (isLd d)) H
def spIsCompound (K : PySem.W.Frag) : Sp := fun vs H Q _ => ∃ (v : V) (d : PyData), vs = [v] ∧ Dp K H v d ∧ gd 20 d = true ∧ Q (.bl (isCd d)) H
def spMeas (K : PySem.W.Frag) (n : Nat) : Sp := fun vs H Q _ => ∃ (v : V) (d : PyData) (md ms : Int), vs = [v, .int md, .int ms] ∧ Dp K H v d ∧ gd 20 d = true ∧ 0 ≤ md ∧ md < n ∧
  (meas md.toNat d ms = none → ∀ H', Same H H' → Q .non H') ∧ (∀ dp sz, meas md.toNat d ms = some (dp, sz) → ∀ (H' : Hp) (p : Addr), Same H H' → H' p = some (.tup [.int dp, .int sz]) → Q (.ref p) H')
def spIsTerm (K : PySem.W.Frag) : Sp := fun vs H Q _ => ∃ (v : V) (d : PyData) (md ms : Int), vs = [v, .int md, .int ms] ∧ Dp K H v d ∧ gd 20 d = true ∧ 0 ≤ md ∧ md < 20 ∧
  ∀ H', Same H H' → Q (.bl (meas md.toNat d ms).isSome) H'
def spMeasure (K : PySem.W.Frag) (n : Nat) : Sp := fun vs H Q _ => ∃ (v : V) (d : PyData) (md : Int), vs = [v, .int md] ∧ Dp K H v d ∧ gd 20 d = true ∧ 0 ≤ md ∧ md < n ∧
  ∀ H', Same H H' → Q (.int (lmeas md.toNat d)) H'
def spFits (K : PySem.W.Frag) : Sp := fun vs H Q _ => ∃ (v : V) (d : PyData), vs = [v] ∧ Dp K H v d ∧ gd 20 d = true ∧
  ∀ H', Same H H' → Q (.bl (decide (1 ≤ lmeas 5 d) && decide (lmeas 5 d ≤ 24))) H'
theorem gd_parts {n : Nat} {o : PyData} {ds : List PyData} (h : gd (n + 1) (.tuple (o :: ds)) = true) : gd n o = true ∧ ∀ d ∈ ds, gd n d = true := by
  have q := (gd_tuple h).2
  exact ⟨q o (List.mem_cons_self ..), fun d hd => q d (List.mem_cons_of_mem _ hd)⟩
theorem drop_cons_get {α : Type} {l : List α} {i : Nat} {x : α} (h : l[i]? = some x) : l.drop i = x :: l.drop (i + 1) := by
  obtain ⟨hi, e⟩ := List.getElem?_eq_some_iff.mp h
  rw [List.drop_eq_getElem_cons hi, e]
theorem dropHead {vs : List V} {ds : List PyData} {K : PySem.W.Frag} {H : Hp} (h : DpAll K H vs ds) : DpAll K H (vs.drop 1) (ds.drop 1) := dpAll_drop 1 h
theorem isOp_str : isOp (.str "&") = true ∧ isOp (.str "|") = true := by decide +kernel
end Fv


namespace Fv
open PySem PySem.Spec PyProof.Rows L2
/-! ### own defs with defaults, called with and without keywords -/
structure OwnD (P : Program) (w : World) (K : PySem.W.Frag) (mg : Str → Option Value) (base : Heap) (k : Nat) (x : Str) (ps : List Str) (dvs : List V) (sp : Sp) : Prop where
  ex : ∃ (f : Addr) (fd : FuncData) (ds : List Value), mg x = some (.ref f) ∧ PySem.W.keepIn K (.ref f) = true ∧ Binds K fd ps ds ∧ Vals dvs ds ∧ FnOk P w K mg base CX0 k f fd ps sp
structure OwnK (P : Program) (w : World) (K : PySem.W.Frag) (mg : Str → Option Value) (base : Heap) (k : Nat) (x : Str) (ps : List Str) (n : Nat) (ks : List Str) (gV : List V → List V → List V) (sp : Sp) : Prop where
  ex : ∃ (f : Addr) (fd : FuncData) (g : List Value → List Value → List Value), mg x = some (.ref f) ∧ PySem.W.keepIn K (.ref f) = true ∧ KBn K fd ps n ks g gV ∧ FnOk P w K mg base CX0 k f fd ps sp
section
variable {X : Cx} {k n : Nat} {x : Str} {ps ks : List Str} {dvs : List V} {gV : List V → List V → List V} {sp : Sp} {e : Expr} {es : List Expr} {t tk : TA} {p pos : Pos} {kws : List Keyword}
theorem pe_ownD (C : OwnD X.prog X.w X.K X.mg X.base k x ps dvs sp) (hr : Room k X.A) (hg : Gl X x) (ha : PA X (e :: es) t) (hdb : (x == ("__debug__" : Str)) = false := by decide)
    (he : starEach (e :: es) X.env = (false, eval e X.env) :: starEach es X.env := by rfl) (hpl : (backTo pos (starEach es X.env)).any (·.1) = false := by rfl) : PE X (.Call (.Name x p) (e :: es) [] pos) (tCall sp dvs E0 t) := by
  obtain ⟨f, fd, ds, h1, h2, h3, h4, h5⟩ := C.ex
  exact pe_call h5 hr hg h1 h2 h3 h4 pass0 ha hdb he hpl
theorem pe_ownK (C : OwnK X.prog X.w X.K X.mg X.base k x ps n ks gV sp) (hr : Room k X.A) (hg : Gl X x) (ha : PA X (e :: es) t) (hkw : PK X kws tk)
    (hall : (backToKw pos (keywordEach kws X.env)).all (·.1.isSome) = true := by rfl) (hks : (backToKw pos (keywordEach kws X.env)).filterMap (·.1) = ks := by rfl)
    (hdb : (x == ("__debug__" : Str)) = false := by decide) (he : starEach (e :: es) X.env = (false, eval e X.env) :: starEach es X.env := by rfl)
    (hpl : ((backTo pos (starEach (e :: es) X.env)).any (·.1) || (backToKw pos (keywordEach kws X.env)).any (·.1.isNone)) = false := by rfl) :
    PE X (.Call (.Name x p) (e :: es) kws pos) (tCallN n ks.length sp gV E0 t tk) := by
  obtain ⟨f, fd, g, h1, h2, h3, h4⟩ := C.ex
  exact pe_callN h4 hr hg h1 h2 h3 pass0 ha hkw hall hks hdb he hpl
/-- no positional value -/
theorem pe_ownK0 (C : OwnK X.prog X.w X.K X.mg X.base k x ps 0 ks gV sp) (hr : Room k X.A) (hg : Gl X x) (hkw : PK X kws tk)
    (hall : (backToKw pos (keywordEach kws X.env)).all (·.1.isSome) = true := by rfl) (hks : (backToKw pos (keywordEach kws X.env)).filterMap (·.1) = ks := by rfl)
    (hdb : (x == ("__debug__" : Str)) = false := by decide)
    (hpl : ((backTo pos (starEach [] X.env)).any (·.1) || (backToKw pos (keywordEach kws X.env)).any (·.1.isNone)) = false := by rfl) :
    PE X (.Call (.Name x p) [] kws pos) (tCallN 0 ks.length sp gV E0 tNil tk) := by
  obtain ⟨f, fd, g, h1, h2, h3, h4⟩ := C.ex
  refine ⟨fun pins s σ H Q I h => ?_⟩
  refine wpAny_Call_Name_kw (ld_glob I hg h1 ?_ hdb)
  refine PySem.W.callWith_KW0 (h₀ := X.base) I.ok.mod.kin h2 hall ?_ hpl
  refine thn (hkw.run pos pins s σ H _ I h) fun ws s2 ⟨zs, H2, I2, rz, l1, l2, q2⟩ => ⟨I2.kIn, ?_⟩
  rw [hks]
  exact run_fnN h4 hr h3 pass0 I2 .nil rz l1 l2 q2
end
end Fv


namespace Fv
open PySem PySem.Spec PyProof.Rows L2
/-! ### what is tracked; values that are plain data apart from M -/
def Trk (M : List Addr) (H : Hp) : Prop := ∀ b ∈ M, ∃ o, H b = some o
theorem Trk.same {M : List Addr} {H H' : Hp} (h : Trk M H) (s : Same H H') : Trk M H' := fun b hb => by
  obtain ⟨o, e⟩ := h b hb
  exact ⟨o, s _ _ e⟩
theorem Trk.smx {M N : List Addr} {H H' : Hp} (h : Trk M H) (s : SmX N H H') (hN : Trk N H') : Trk M H' := fun b hb => by
  by_cases m : b ∈ N
  · exact hN b m
  · obtain ⟨o, e⟩ := h b hb
    exact ⟨o, s _ _ m e⟩
theorem Trk.ne {M : List Addr} {H : Hp} (h : Trk M H) {p : Addr} (np : H p = none) : p ∉ M := fun hp => by
  obtain ⟨o, e⟩ := h p hp
  rw [np] at e
  cases e
theorem hid_new {M : List Addr} {H : Hp} {p : Addr} {o : HO} (np : H p = none) : Same (hide M H) (hide M (upd H p o)) := (SmX.new np).hid
theorem hid_at {M : List Addr} {H : Hp} (h : Trk M H) {p : Addr} {o : HO} (np : H p = none) : hide M (upd H p o) p = some o := by
  rw [hide_ne (h.ne np), upd_same]
def GV (K : PySem.W.Frag) (n : Nat) (M : List Addr) (H : Hp) (v : V) : Prop := ∃ d, Dp K (hide M H) v d ∧ gd n d = true
theorem GV.same {K : PySem.W.Frag} {n : Nat} {M : List Addr} {H H' : Hp} {v : V} (g : GV K n M H v) (s : Same H H') : GV K n M H' v := by
  obtain ⟨d, h1, h2⟩ := g
  exact ⟨d, dp_same (SmX.of_same s).hid d v h1, h2⟩
theorem GV.up {K : PySem.W.Frag} {n m : Nat} {M : List Addr} {H : Hp} {v : V} (g : GV K n M H v) (h : n ≤ m) : GV K m M H v := by
  obtain ⟨d, h1, h2⟩ := g
  exact ⟨d, h1, gd_le h2 h⟩
theorem GV.str {K : PySem.W.Frag} {n : Nat} {M : List Addr} {H : Hp} {x : Str} (h : gd 0 (.str x) = true) : GV K n M H (.str x) := ⟨_, .str x, gd_le h (Nat.zero_le _)⟩
theorem GV.int {K : PySem.W.Frag} {n : Nat} {M : List Addr} {H : Hp} (i : Int) : GV K n M H (.int i) := ⟨_, .int i, gd_le (n := 0) rfl (Nat.zero_le _)⟩
theorem GV.bl {K : PySem.W.Frag} {n : Nat} {M : List Addr} {H : Hp} (b : Bool) : GV K n M H (.bl b) := ⟨_, .bl b, gd_le (n := 0) rfl (Nat.zero_le _)⟩
theorem GV.non {K : PySem.W.Frag} {n : Nat} {M : List Addr} {H : Hp} : GV K n M H .non := ⟨_, .non, gd_le (n := 0) rfl (Nat.zero_le _)⟩
theorem gv_all {K : PySem.W.Frag} {n : Nat} {M : List Addr} {H : Hp} : ∀ {xs : List V}, (∀ x ∈ xs, GV K n M H x) → ∃ ds, DpAll K (hide M H) xs ds ∧ ∀ d ∈ ds, gd n d = true
  | [], _ => ⟨[], .nil, fun d h => nomatch h⟩
  | x :: xs, h => by
    obtain ⟨d, h1, h2⟩ := h x (List.mem_cons_self ..)
    obtain ⟨ds, h3, h4⟩ := gv_all (xs := xs) fun y hy => h y (List.mem_cons_of_mem _ hy)
    refine ⟨d :: ds, .cons h1 h3, fun e he => ?_⟩
    rcases List.mem_cons.mp he with z | z
    · rw [z]; exact h2
    · exact h4 e z
theorem GV.tup {K : PySem.W.Frag} {n : Nat} {M : List Addr} {H : Hp} {p : Addr} {xs : List V} (hM : Trk M H) (np : H p = none) (h : ∀ x ∈ xs, GV K n M H x) (hl : xs.length ≤ 1000 := by decide) : GV K (n + 1) M (upd H p (.tup xs)) (.ref p) := by
  obtain ⟨ds, h1, h2⟩ := gv_all h
  exact ⟨.tuple ds, .tup (SqT.of (hid_at hM np)) (dpAll_same (hid_new np) _ _ h1), gd_tup h2 (by rw [← dpAll_len h1]; exact hl)⟩
theorem GV.lst {K : PySem.W.Frag} {n : Nat} {M : List Addr} {H : Hp} {p : Addr} {xs : List V} (hM : Trk M H) (np : H p = none) (h : ∀ x ∈ xs, GV K n M H x) (hl : xs.length ≤ 1000 := by decide) : GV K (n + 1) M (upd H p (.lst xs)) (.ref p) := by
  obtain ⟨ds, h1, h2⟩ := gv_all h
  exact ⟨.list ds, .lst (SqL.of (hid_at hM np)) (dpAll_same (hid_new np) _ _ h1), gd_lst h2 (by rw [← dpAll_len h1]; exact hl)⟩
theorem Src.trk {H : Hp} {a L : Addr} {ns : List Int} (h : Src H a L ns) : Trk [a] H := fun b hb => by
  obtain ⟨_, _, _, _, e, _⟩ := h
  rw [List.mem_singleton.mp hb]
  exact ⟨_, e⟩
theorem Src.ne {H : Hp} {a L p : Addr} {ns : List Int} (h : Src H a L ns) (np : H p = none) : a ≠ p := by
  obtain ⟨_, _, _, _, e, _⟩ := h
  exact ne_of_none e np
theorem Src.put {H : Hp} {a L p : Addr} {ns : List Int} {o : HO} (h : Src H a L ns) (pa : p ≠ a) (pL : p ≠ L) : Src (upd H p o) a L ns := by
  obtain ⟨i, q, st, c, h1, h2, h3⟩ := h
  exact ⟨i, q, st, c, by rw [upd_ne pa.symm]; exact h1, by rw [upd_ne pL.symm]; exact h2, h3⟩
theorem Src.new {H : Hp} {a L p : Addr} {ns : List Int} {o : HO} (h : Src H a L ns) (np : H p = none) : Src (upd H p o) a L ns := h.same (same_upd np)
/-- the term that is drawn: its data d, its depth at most n, its size by the room that was used -/
def spTerm (K : PySem.W.Frag) (n : Nat) : Sp := fun vs H Q _ => ∃ (a L sg r : Addr) (ns : List Int) (deep m : Int) (ys : List V) (M : List Addr), vs = [.ref a, .ref sg, .int deep, .ref r] ∧ Src H a L ns ∧
  H sg = some (.lst ys) ∧ 0 < ys.length ∧ ys.length ≤ 8 ∧ (∀ y ∈ ys, lett y) ∧ H r = some (.lst [.int m]) ∧ sg ≠ a ∧ sg ≠ r ∧ r ≠ a ∧ r ≠ L ∧ 0 ≤ m ∧ m ≤ 1000 ∧ 1 ≤ deep ∧ deep ≤ n ∧ a ∈ M ∧ r ∈ M ∧ Trk M H ∧
  ∀ (H' : Hp) (v : V) (d : PyData) (m' : Int), Dp K (hide M H') v d → lmeas deep.toNat d = m - m' + 1 → 0 ≤ m' → m' ≤ m → gd deep.toNat d = true → Src H' a L ns → H' r = some (.lst [.int m']) → SmX [a, r] H H' → Q v H'
def spAnyTerm (K : PySem.W.Frag) : Sp := fun vs H Q _ => ∃ (a L : Addr) (ns : List Int) (M : List Addr), vs = [.ref a] ∧ Src H a L ns ∧ a ∈ M ∧ Trk M H ∧
  ∀ (H' : Hp) (v : V) (d : PyData) (n : Nat), Dp K (hide M H') v d → 1 ≤ n → n ≤ 5 → 1 ≤ lmeas n d → lmeas n d ≤ 24 → gd n d = true → Src H' a L ns → SmX [a] H H' → Q v H'
def nestD : Nat → PyData
  | 0 => .str "a"
  | n + 1 => .tuple [.str (if n % 2 = 0 then "&" else "|"), nestD n, .str "b"]
def spNest (K : PySem.W.Frag) : Sp := fun vs H Q _ => ∃ (n : Nat) (M : List Addr), vs = [.int (n : Nat)] ∧ n ≤ 12 ∧ Trk M H ∧
  ∀ (H' : Hp) (v : V), Dp K (hide M H') v (nestD n) → Same H H' → Q v H'
def spOdd (K : PySem.W.Frag) : Sp := fun vs H Q _ => ∃ (a L : Addr) (ns : List Int) (v : V) (M : List Addr), vs = [.ref a, v] ∧ Src H a L ns ∧ GV K 5 M H v ∧ a ∈ M ∧ Trk M H ∧
  ∀ (H' : Hp) (v' : V), GV K 12 M H' v' → Src H' a L ns → SmX [a] H H' → Q v' H'
theorem isL_lett {x : Str} (h : x ∈ (["a", "b", "c", "d", "e", "f", "g", "h"] : List Str)) : isL x = true ∧ gd 0 (.str x) = true := by
  have q : ∀ x ∈ (["a", "b", "c", "d", "e", "f", "g", "h"] : List Str), isL x = true ∧ gd 0 (.str x) = true := by decide +kernel
  exact q x h
theorem nest_gd : ∀ n : Nat, gd n (nestD n) = true
  | 0 => by decide +kernel
  | n + 1 => gd_tup (fun d hd => by
      rcases List.mem_cons.mp hd with e | hd
      · rw [e]
        refine gd_le (n := 0) ?_ (Nat.zero_le _)
        split <;> decide +kernel
      · rcases List.mem_cons.mp hd with e | hd
        · rw [e]; exact nest_gd n
        · rw [List.mem_singleton.mp hd]
          exact gd_le (n := 0) (by decide +kernel) (Nat.zero_le _)) (by show 3 ≤ 1000; decide)
/-- a term made of parts -/
theorem lmeas_tup {n : Nat} {op : Str} {ds : List PyData} {t : Int} (ho : isOp (.str op) = true) (h2 : 2 ≤ ds.length) (h1 : ∀ d ∈ ds, 1 ≤ lmeas n d) (hs : (ds.map (lmeas n)).sum = t) : lmeas (n + 1) (.tuple (.str op :: ds)) = t := by
  have e : lmeas (n + 1) (.tuple (.str op :: ds)) = if (decide (2 ≤ ds.length) && isOp (.str op)) = true then (if (0 : Int) ∈ ds.map (lmeas n) then 0 else (ds.map (lmeas n)).sum) else 0 := by
    show (if false = true then _ else _) = _
    rw [if_neg (fun z => by cases z)]
    rfl
  rw [e, ho, decide_eq_true h2, Bool.and_self, if_pos rfl, if_neg, hs]
  intro z
  obtain ⟨d, hd, e⟩ := List.mem_map.mp z
  have := h1 d hd
  omega
end Fv


set_option maxHeartbeats 2000000
namespace FvX
open PySem PySem.W PySem.Calls PyProof.Rows
/-! ### an own error whose __init__ says super().__init__(text) and self.code = text -/
abbrev errScope : Scope := { kind := .function, names := [("self", .local), ("__class__", .free), ("super", .globalImplicit)], isGenerator := false, isCoroutine := false, more := [] }
abbrev errParams (pp : Pos) : Arguments := { posonlyargs := [], args := [{ arg := "self", annotation := none, pos := pp : Arg }], vararg := none, kwonlyargs := [], kw_defaults := [], kwarg := none, defaults := [] }
/-- the places of such a body's parts -/
structure ErrPos where
  (p0 p1 p2 p3 p4 p5 p6 p7 p8 p9 pp : Pos)
abbrev errBody (q : ErrPos) (msg cod : Str) (j1 j2 : Nat) : List Stmt :=
  [.Expr (.Call (.Attribute (.Call (.Name "super" q.p0) [] [] q.p1) "__init__" q.p2) [.Constant (.str msg) j1 q.p3] [] q.p4) q.p5, .Assign [.Attribute (.Name "self" q.p6) "code" q.p7] (.Constant (.str cod) j2 q.p8) q.p9]
/-- the call stands on one line -/
def LineOk (q : ErrPos) (msg : Str) (j1 : Nat) : Prop := ∀ env : Env, ∃ pl : Sem Bool, eval (.Call (.Attribute (.Call (.Name "super" q.p0) [] [] q.p1) "__init__" q.p2) [.Constant (.str msg) j1 q.p3] [] q.p4) env = (do
  let ov ← attributeBase (.Call (.Name "super" q.p0) [] [] q.p1) "__init__" env (eval (.Call (.Name "super" q.p0) [] [] q.p1) env)
  standAt q.p2.atName
  let (f, first) ← holding [ov] (getMethod ov "__init__" pl)
  callWith q.p4 f first (backTo q.p4 (starEach [.Constant (.str msg) j1 q.p3] env)) [])
abbrev veTail4 : List Value := [.type "ValueError", .type "Exception", .type "BaseException", .type "object"]
/-- what the written part says of the class at C and of its __init__ at f -/
structure ErrC (file0 : Str) (K : Frag) (C f : Addr) (qual : Str) (q : ErrPos) (msg cod : Str) (j1 j2 : Nat) : Prop where
  oex : L2.OexC K C
  fn : ∃ (oc : Value) (od an : Option Addr) (osl : Array (Option Value)) (kV doc pm ct : Value) (cda cc : Addr) (ccl cl : Value) (cdd cld : Option Addr) (vs : Array Value) (ccs csl : Array (Option Value)) (file : Str) (tf : Tok),
    K.lookup f = some ⟨oc, od, .func (ksFn "__init__" qual (errParams q.pp) (errBody q msg cod j1 j2) errScope .none kV doc pm an (.ref cda) ct cc), osl⟩ ∧ codeIn K (.ref cda) qual = true ∧ K.lookup cda = some ⟨ccl, cdd, .fields vs, ccs⟩ ∧ vs[2]? = some (.str file tf) ∧
      (file0 == file) = true ∧ K.lookup cc = some ⟨cl, cld, .cell (some (.ref C)), csl⟩
  sup : ks_superIn K C C "__init__" = some (some (.builtin "ValueError.__init__"))
  self : mroIn K C (.ref C) = some true
  isV : subIn K (.ref C) (.type "ValueError") = some true
  init : excInitIn K C veTail4 "ValueError.__new__" = true
  third : nsIn K cStatics "thirdparty.any" = some none
  code : findIn K (.ref C) "code" = some none
  find : findIn K (.ref C) "__init__" = some (some (.ref f))
  typ : typeIn K (.ref f) = some (.type "function")
section
variable {prog : Program} {w : World} {A : Around} {K : Frag} {h : Heap} {g : Array GenState} {d : Drawn} {t : Nat} {os : OsState} {R : Result → Shared → Prop} {mg mb : Str → Option Value}
  {C f a t0 : Addr} {qual msg cod : Str} {q : ErrPos} {j1 j2 : Nat}
theorem init_run (T : ErrC prog.main.file K C f qual q msg cod j1 j2) (hline : LineOk q msg j1) (htop : (prog.main.scope.names.lookup ("super" : Str)).isSome = false)
    (X : K.In h) (hg : h.Ns mainGlobals mg) (hms : mg "super" = none) (hb : h.Ns builtinsNs mb) (hmb : mb "super" = some (.type "super")) (hlim : h.NoLimit) (hroom : A.depth < recursionLimit) (ha : h.get? a = some (excObj C t0 none .none)) (haK : K.lookup a = none)
    (hq : ∀ h' t1 tk' dx tk, (∀ b o, b ≠ a → h.get? b = some o → h'.get? b = some o) → h.objs.size ≤ dx → dx ≠ a → h'.get? a = some { cls := .ref C, dict := some dx, data := .fields #[.ref t1, .none, .none, .none, .bool false, .none] } →
      h'.Ns1 dx (fun y => if y = ("code" : Str) then some (.str cod tk) else none) → R (.ok (.ret .none)) ⟨h', g, d, tk', os⟩) :
    codeAny (model prog w) A (.call (.ref f) ⟨[.ref a], []⟩) R ⟨h, g, d, t, os⟩ := by
  obtain ⟨oc, od, an, osl, kV, doc, pm, ct, cda, cc, ccl, cl, cdd, cld, vs, ccs, csl, file, tf, hf, hcd, hcode, hvs, hfile, hcell⟩ := T.fn
  refine ks_codeAny_call_defAt (binds := [("self", .ref a)]) hroom (X _ _ hf) rfl hlim (codeRec_of X hcd) rfl (.of_eq rfl) (show ∀ x ∈ errScope.names, x.2 ≠ .cell by decide) (fun y hy => ?_) (fun h1 hns hk1 => ?_)
  · rw [List.mem_singleton.mp hy]; rfl
  have X1 : K.In h1 := fun b o e => hk1 b o (X b o e)
  have ha1 : h1.get? a = some (excObj C t0 none .none) := hk1 _ _ ha
  have haL : a ≠ h.objs.size := Nat.ne_of_lt (Heap.lt_size ha)
  obtain ⟨cd, hc⟩ : ∃ cd, clsIn K C = some cd := by
    have z := T.sup
    unfold ks_superIn at z
    cases hc : clsIn K C with
    | none => rw [hc] at z; cases z
    | some cd => exact ⟨cd, rfl⟩
  obtain ⟨oD, hD0, hD2⟩ : ∃ oD, K.lookup C = some oD ∧ oD.data = .cls cd := by
    unfold clsIn at hc
    split at hc
    · rename_i c d' cd' sl ho
      cases hc
      exact ⟨_, ho, rfl⟩
    · cases hc
  have hD1 := X1 _ _ hD0
  have hsup : alongIn K "__init__" ((cd.mro.dropWhile (· != .ref C)).drop 1) = some (some (.builtin "ValueError.__init__")) := by
    have z := T.sup
    unfold ks_superIn at z
    rw [hc] at z
    exact z
  have hv : (fun x => ([("self", Value.ref a)] : List (Str × Value)).reverse.lookup x) ("self" : Str) = some (.ref a) := rfl
  -- super().__init__(text)
  obtain ⟨pl, hline⟩ := hline (callEnv (ksFn "__init__" qual (errParams q.pp) (errBody q msg cod j1 j2) errScope .none kV doc pm an (.ref cda) ct cc) h.objs.size f)
  refine ks_wpAt_execs_cons (ks_wpAt_Expr_any (ks_wpAt_MethodCall ?_ hline))
  refine ks_wpAt_super_base rfl rfl (by decide) rfl (X1 _ _ hf) rfl rfl rfl (X1 _ _ hcode) rfl hvs hfile htop ?_
  refine ks_loadName_global rfl rfl (loadGlobal_builtin (hg.keeps hk1) hms (hb.keeps hk1) hmb ⟨rfl, ?_⟩)
  refine wpAny_loadName_free rfl rfl rfl ⟨_, X1 _ _ hcell, rfl⟩ ?_
  refine wpAny_loadName_local rfl rfl hns hv ?_
  refine ks_wpAny_isType_cls hD1 hD2 ⟨rfl, ?_⟩
  refine ks_wpAny_call_super hD1 hD2 ha1 rfl (fun c e => by cases e) (looks_mroIn X1 T.self) (fun h2 hso hk2 => ?_)
  have X2 : K.In h2 := fun b o e => hk2 b o (X1 b o e)
  have ha2 := hk2 _ _ ha1
  have haC : a ≠ C := fun e => by rw [e, hD0] at haK; cases haK
  have I2 : InstAt h2 a (excObj C t0 none .none) C none := ⟨ha2, rfl, rfl, trivial⟩
  refine kxs_getMethod kxs_ValueError hso (looks_opaque X2 T.third) (l₀ := cd.mro) (fun A Q E s k z => wpAny_bind ((looks_clsIn X2 hc) A _ E s k (wpAny_pure z))) rfl X2 hsup (I2.type.andThen (looks_subIn X2 T.isV)) haC (by decide) ?_
  have nsK : ∀ {h h' : Heap} {L : Addr} {m : Str → Option Value}, h.Ns L m → (∀ b o, h.get? b = some o → h'.get? b = some o) → h'.Ns L m := fun {h h' L m} ⟨o, es, ep, e, r⟩ k => ⟨o, es, ep, k _ _ e, r⟩
  have hns2 := nsK hns hk2
  have hk3 : ∀ b o, h2.get? b = some o → (h2.push (kxs_mw "ValueError.__init__" a)).get? b = some o := fun b o e => Heap.get?_push_of_some _ e
  have hLt : h.objs.size < h2.objs.size := by
    obtain ⟨o, _, _, e, _⟩ := hns2
    exact Heap.lt_size e
  have FR : Fr (hideAll h [a]) h.objs.size (h2.push (kxs_mw "ValueError.__init__" a)) (fun x => ([("self", Value.ref a)] : List (Str × Value)).reverse.lookup x) :=
    ⟨nsK hns2 hk3, fun b o e => hk3 _ _ (hk2 _ _ (hk1 _ _ (of_hideAll _ e))), Nat.le_of_eq (hideAll_size _ _)⟩
  have NW : News (hideAll h [a]) h.objs.size (h2.push (kxs_mw "ValueError.__init__" a)) [(h2.objs.size, kxs_mw "ValueError.__init__" a), (a, excObj C t0 none .none)] := fun p hp => by
    rcases List.mem_cons.mp hp with e | hp
    · subst e
      refine ⟨Heap.get?_push_size _ rfl, Nat.ne_of_gt hLt, ?_⟩
      cases z : (hideAll h [a]).get? h2.objs.size with
      | none => rfl
      | some o => exact absurd (Heap.lt_size (of_hideAll _ z)) (Nat.lt_asymm hLt)
    · rw [List.mem_singleton.mp hp]
      exact ⟨hk3 _ _ ha2, haL, hideAll_none _ (List.mem_singleton.mpr rfl)⟩
  have X0 : K.In (hideAll h [a]) := fun b o e => hideAll_get _ (X b o e) (fun z => by
    rw [List.mem_singleton.mp z, haK] at e
    cases e)
  refine kxs_callWith1 NW (List.mem_cons_self ..) ?_
  refine Calls.spliced_cons (wpAny_Constant_str (k := j1) (pos := q.p3) (Calls.spliced_nil ⟨kxs_at NW (List.mem_cons_self ..), ?_⟩))
  refine kxs_call FR X0 NW PySem.F.excBase_ValueError T.init (List.mem_cons_self ..) (.tail (Nat.ne_of_gt (Heap.lt_size ha2)) (.head fun p hp => nomatch hp)) (by show 1 ≤ sizeLine; decide) (fun t' h4 F4 N4 _ => ?_)
  have ha4 : h4.get? a = some (excObj C t' none .none) := (N4 (a, excObj C t' none .none) (List.mem_cons_of_mem _ (List.mem_cons_of_mem _ (List.mem_cons_self ..)))).1
  have X4 : K.In h4 := fun b o e => F4.keep b o (X0 b o e)
  obtain ⟨nm, qn, N, bs, bm, sn, sub, ab, col, dd, k0, k1, k2, k3, k5, hC, hbm⟩ := T.oex.cls
  have hcl : clsIn K C = some { name := nm, bases := bs, mro := .ref C :: bm, ns := N, qualname := qn, hasDict := true, slotNames := sn, subclasses := sub, abstract := ab, collection := col, hasDel := false } := by
    unfold clsIn
    rw [hC] <;> rfl
  -- self.code = text
  refine wpAt_of_wpAny (wpAny_execs_cons (plainObj_wpAny_Assign_Attribute (wpAny_Constant_str (k := j2) (pos := q.p8) (wpAny_Name (wpAny_loadName_local rfl rfl F4.ns hv ?_) (by decide))) rfl))
  refine set_plain X4 (ox := excObj C t' none .none) (od := none) ⟨ha4, rfl, rfl, trivial⟩ T.oex.sa ?_
  refine PySem.HandSPX.exc_osa X4 ha4 hcl (show PySem.HandSPX.refsVE (.ref C :: bm) = true from hbm) rfl T.code (fun h5 tk' dx hk5 dn dne hx hn => ?_)
  have hL4 : h.objs.size ≤ h4.objs.size := by
    obtain ⟨o, _, _, e, _⟩ := F4.ns
    exact Nat.le_of_lt (Heap.lt_size e)
  refine wpAny_execs_nil (hq h5 t' tk' dx _ (fun b o hb e => hk5 b o hb (F4.keep b o (hideAll_get _ e fun z => hb (List.mem_singleton.mp z)))) (Nat.le_trans hL4 dn) dne hx hn)
end
end FvX


set_option maxHeartbeats 2000000
namespace FvX
open PySem PySem.Spec PyProof.Rows L2
section
variable {X : Cx} {C f : Addr} {qual msg cod x : Str} {q : ErrPos} {j1 j2 k : Nat} {p pos : Pos}
/-- x(): the new error, its dict at d -/
def tErr0 (C : Addr) (cod : Str) : L2.St → Hp → XK → Prop := fun _ H Q => ∀ d, H d = none → Q (.ref C) (some d) (upd H d (.xd [("code", .str cod)]))
theorem pmk_err0 (T : ErrC X.prog.main.file X.K C f qual q msg cod j1 j2) (hline : LineOk q msg j1) (htop : (X.prog.main.scope.names.lookup ("super" : Str)).isSome = false) (hms : X.mg "super" = none) (hr : Room (k + 1) X.A) (hg : Gl X x) (hm : X.mg x = some (.ref C))
    (hdb : (x == ("__debug__" : Str)) = false := by decide) : PMk X (.Call (.Name x p) [] [] pos) (tErr0 C cod) := by
  intro pins s σ H Q I h
  obtain ⟨nm, qn, N, bs, bm, sn, sub, ab, col, dd, k0, k1, k2, k3, k5, hC, hbm⟩ := T.oex.cls
  refine wpAny_Call_Name_kw (ld_glob I hg hm ?_ hdb)
  refine PySem.W.callWith_K0 I.kIn T.oex.kC ?_
  show wpAny _ _ (call (.ref C) []) _ _ _
  obtain ⟨hp, g, dr, tk, os⟩ := s
  have nK : X.K.lookup (hp.objs.size + 1) = none := by
    cases e : X.K.lookup (hp.objs.size + 1) with
    | none => rfl
    | some o => exact absurd (Nat.lt_of_succ_lt (Heap.lt_size (I.kIn _ _ e))) (Nat.lt_irrefl _)
  have fresh : H (hp.objs.size + 1) = none := I.hok.fresh (Nat.le_succ _)
  have kk : ∀ b o, hp.get? b = some o → ((hp.push (PySem.W.kdv_tup [])).push (PySem.HandSPX.excO C hp.objs.size)).get? b = some o := fun b o e => Heap.get?_push_of_some _ (Heap.get?_push_of_some _ e)
  have at1 : ((hp.push (PySem.W.kdv_tup [])).push (PySem.HandSPX.excO C hp.objs.size)).get? (hp.objs.size + 1) = some (PySem.HandSPX.excO C hp.objs.size) := by heap_get
  have I2 := I.laid (t' := tk) (a := hp.objs.size + 1) (o := exo (hp.objs.size + 1) C none) (h' := (hp.push (PySem.W.kdv_tup [])).push (PySem.HandSPX.excO C hp.objs.size)) kk (Nat.le_succ _) (exo_ok at1)
  obtain ⟨mb, hb, hbb⟩ := I.mod.blt
  refine wpAny_call (PySem.HandSPX.call_own PySem.F.excBase_ValueError (fun Y => PySem.HandSPX.refsVE_contains Y bm hbm) (I.kIn _ _ hC) (PySem.W.looks_findIn I.kIn T.find) (fun self => PySem.W.bind_fn I.kIn self T.typ) (Nat.zero_le _) ?_)
  refine init_run (mg := X.mg) (mb := mb) (t0 := hp.objs.size) T hline htop (fun b o e => kk b o (I.kIn b o e)) ((I.mod.glob.keeps I.bk).keeps kk) hms ((hb.keeps I.bk).keeps kk) ((hbb _ (by decide)).trans (by decide +kernel)) ?lim (hr.make C [] []).depth at1 nK (fun h' t1 tk' dx tk0 hk dn dne hx hn => ?_)
  case lim => exact (I.mod.nolimit.keeps I.bk).keeps kk
  have nd : H dx = none := I.hok.fresh (Nat.le_trans (by simp; omega) dn)
  have na : ∀ {b : Addr} {u : Option HO}, upd H (hp.objs.size + 1) (exo (hp.objs.size + 1) C none) b = none → b ≠ hp.objs.size + 1 := fun {b u} e z => by
    rw [z, upd_same] at e
    cases e
  have lt2 : ∀ {b : Addr} {o : Obj}, ((hp.push (PySem.W.kdv_tup [])).push (PySem.HandSPX.excO C hp.objs.size)).get? b = some o → b ≠ dx := fun {b o} e => Nat.ne_of_lt (Nat.lt_of_lt_of_le (Heap.lt_size e) dn)
  have same : ∀ {b : Addr} {o : HO}, upd H (hp.objs.size + 1) (exo (hp.objs.size + 1) C none) b = some o → o ≠ exo (hp.objs.size + 1) C none → upd (upd H dx (exd dx [("code", .str cod)])) (hp.objs.size + 1) (exo (hp.objs.size + 1) C (some dx)) b = some o := fun {b o} e ne => by
    have b1 : b ≠ hp.objs.size + 1 := fun z => by
      rw [z, upd_same] at e
      exact ne (Option.some.inj e).symm
    rw [upd_ne b1] at e
    rw [upd_ne b1, upd_ne (ne_of_none e nd)]
    exact e
  have un : Un (frs X.stack) [] (upd H (hp.objs.size + 1) (exo (hp.objs.size + 1) C none)) (upd (upd H dx (exd dx [("code", .str cod)])) (hp.objs.size + 1) (exo (hp.objs.size + 1) C (some dx))) ((hp.push (PySem.W.kdv_tup [])).push (PySem.HandSPX.excO C hp.objs.size)) h' := by
    refine ⟨fun b o e n _ _ => hk b o (na (u := none) n) e, fun b o e n _ _ => ⟨o.slots, hk b o (na (u := none) n) e⟩, fun b o e n _ => ?_, fun b o e _ => ?_, fun b xs e => same e fun z => exo_tup z.symm, fun b o u e => same e fun z => exo_frz z.symm, fun b ps e => ⟨#[], ?_⟩⟩
    · have b1 := na (u := none) n
      rw [upd_ne b1, upd_ne (lt2 e)]
      rw [upd_ne b1] at n
      exact n
    · by_cases b1 : b = hp.objs.size + 1
      · exact ⟨_, by rw [b1]; exact hx⟩
      · exact ⟨o, hk b o b1 e⟩
    · rw [Array.append_empty]
      exact same e fun z => exo_tbl z.symm
  have hok : HOk X.prog X.w (upd (upd H dx (exd dx [("code", .str cod)])) (hp.objs.size + 1) (exo (hp.objs.size + 1) C (some dx))) h' := fun b o e => by
    by_cases b1 : b = hp.objs.size + 1
    · rw [b1, upd_same] at e
      cases e
      rw [b1]
      exact exo_ok hx
    · rw [upd_ne b1] at e
      by_cases b2 : b = dx
      · rw [b2, upd_same] at e
        cases e
        rw [b2]
        exact exd_ok hn (relO_put (fs := []) ⟨_, rfl⟩ fun g => True.intro)
      · rw [upd_ne b2] at e
        have e2 : upd H (hp.objs.size + 1) (exo (hp.objs.size + 1) C none) b = some o := by rw [upd_ne b1]; exact e
        refine (I2.hok b o e2).stay (fun c v hc z => hk c v (fun c1 => ?_) z) (fun c hc => same hc fun z => exo_own z.symm) (fun c xs hc => same hc fun z => exo_tup z.symm)
        rcases hc with hc | hc
        · exact b1 (hc.symm.trans c1)
        · rw [c1, upd_same] at hc
          exact exo_own (Option.some.inj hc)
  refine ⟨rfl, mk_end (a := hp.objs.size + 1) (C := C) (d := dx) (fs := [("code", .str cod)]) (raises_own T.oex.exC T.oex.tyC) I (Nat.le_succ _) kk un hok rfl I.bare upd_same ?_ nd ?_⟩
  · rw [upd_ne dne, upd_same]
  · have e : upd (del (upd (upd H dx (exd dx [("code", .str cod)])) (hp.objs.size + 1) (exo (hp.objs.size + 1) C (some dx))) (hp.objs.size + 1)) dx (.xd [("code", .str cod)]) = upd H dx (.xd [("code", .str cod)]) := by
      funext b
      by_cases b2 : b = dx
      · rw [b2, upd_same, upd_same]
      · rw [upd_ne b2, upd_ne b2]
        by_cases b1 : b = hp.objs.size + 1
        · rw [b1, del_same, fresh]
        · rw [del_ne b1, upd_ne b1, upd_ne b2]
    rw [e]
    exact h dx nd
end
end FvX


set_option maxHeartbeats 2000000
namespace FvX
open PySem PySem.Spec PyProof.Rows L2
/-! ### try: .. except x as n: .. except ..: ..; the first clause takes what comes -/
/-- what the first clause wishes -/
def wFst (K : PySem.W.Frag) (c : Value) (i : Nat) (ts : Addr → Value → Option Addr → TS) (D : Ends) : WX := fun cls dd σ H => PySem.W.exmOne K cls c = some true ∧
  ∀ a, H a = none → ts a cls dd { nx := fun σ' H' => D.nx (σ'.set i none) H', rt := D.rt, bk := fun σ' H' => D.bk (σ'.set i none) H', ct := fun σ' H' => D.ct (σ'.set i none) H' } (σ.set i (some (.ref a))) H
section
variable {X : Cx} {x n : Str} {c : Value} {i : Nat} {bd su : List Stmt} {b1 : Stmt} {np tp hp' : Pos} {more : List ExceptHandler} {tb : WX → TS} {ts : Addr → Value → Option Addr → TS}
theorem ps_try_first (hstk : X.stack = X.env :: X.outer) (hfrm : X.env.frame = some X.env.locals) (nd : X.N.Nodup) (hix : X.N[i]? = some n) (hlc : X.env.kindOf n = some .local) (hcl : Names X x c)
    (hbd : ∀ (W : WX) (pn : List (Addr × Obj)) (xe : Value → Shared → Prop), Takes (X.tr pn xe) W → PassesOwn (model X.prog X.w) X.A X.env xe → PSs (X.tr pn xe) bd (tb W))
    (hsu : ∀ (a : Addr) (oe : Obj) (cls : Value) (dd : Option Addr) (pn : List (Addr × Obj)), Zc cls dd oe → (∃ vs, oe.data = .fields vs) → PSs (X.suite a ((a, oe) :: pn)) (b1 :: su) (ts a cls dd)) :
    PS X (.Try bd (.ExceptHandler (some (.Name x np)) (some n) (b1 :: su) hp' :: more) [] [] tp) (fun D σ H => tb (wFst X.K c i ts D) D σ H) := by
  refine ⟨fun pins s σ H D I hW => wpAny_Try_except ?_⟩
  have fr : X.A.frames = some (X.env :: X.outer) := I.ok.frames.trans (congrArg some hstk)
  let land : Value → Shared → Prop := fun e s1 => wpAny (model X.prog X.w) X.A (noteFrame e X.env) (fun _ s2 => wpAny (model X.prog X.w) X.A (setFlight e none) (fun _ s3 => wpAny (model X.prog X.w) X.A (handleBy e X.env (.ExceptHandler (some (.Name x np)) (some n) (b1 :: su) hp' :: more)) (SP X pins D) X.xe s3) X.xe s2) X.xe s1
  have caught : Takes (X.tr (X.pn ++ pins) land) (wFst X.K c i ts D) := by
    rintro u s' ⟨a, B, sI, pins', σ', H', cls, dd, rfl, J', nb, up, sky, na, os, ag, hm, hyes⟩
    have J : Inv X pins σ' H' sI := J'.ofTry I.ok
    show wpAny (model X.prog X.w) X.A (noteFrame (.ref a) X.env) _ _ _
    refine Sky.land Zc.steady fr hfrm (show Sky B (X.env :: X.outer) a (Zc cls dd) X.env.locals s'.heap from hstk ▸ sky) fun h3 fl up3 => ?_
    have J3 : Inv X pins σ' H' { s' with heap := h3 } := J.landed nb fl.1 (up.trans up3) os ag
    obtain ⟨o3, v3, g3, z3, d3⟩ := fl.there
    have apart : a ∉ frs (X.env :: X.outer) := fun hin => by
      obtain ⟨_, o', g', no⟩ := fl.2.2.1.mem hin
      rw [g3] at g'
      cases g'
      exact no _ d3
    have aL : a ≠ X.env.locals := fun z => apart (List.mem_filterMap.mpr ⟨X.env, List.mem_cons_self, hfrm.trans (congrArg some z.symm)⟩)
    have aF : a ∉ X.fs := fun hin => by
      obtain ⟨e, he, z⟩ := List.mem_filterMap.mp hin
      exact apart (List.mem_filterMap.mpr ⟨e, List.mem_cons_of_mem _ he, z⟩)
    have S3 := J3.suite g3 d3 na aL aF
    have tyIs : PySem.W.Looks (model X.prog X.w) h3 (typeOf (.ref a)) cls := fun A Q E s k z => wpAny_typeOf_ref (k _ _ g3) (z3.1.symm ▸ z)
    have meets := PySem.W.exm_one (M := model X.prog X.w) J3.kIn tyIs hm
    refine wpAny_handleBy_cons (codeAny_handlers_test ?_) (fun z => by cases z)
    have ask : ∀ {Q : Value → Shared → Prop} {E : Value → Shared → Prop}, Q c { s' with heap := h3 } → wpAny (model X.prog X.w) (X.A.mark (some (.ref a))) (eval (.Name x np) X.env) Q E { s' with heap := h3 } := fun {Q E} z => by
      rcases hcl with ⟨gl, nd', m | ⟨m, bv, nn⟩⟩
      · exact ld_glob (X := X.suite a ((a, o3) :: (X.pn ++ pins))) S3 gl m z nd'
      · exact ld_blt (X := X.suite a ((a, o3) :: (X.pn ++ pins))) S3 gl m bv z nn nd'
    refine ask (meets.here (codeAny_handlers_suite_as (HandSPX.lands_againZ fl fun h4 fl4 up4 => ?_)))
    have J4 : Inv X pins σ' H' { s' with heap := h4 } := J.landed nb fl4.1 ((up.trans up3).trans up4) os ag
    obtain ⟨o4, v4, g4, z4, d4⟩ := fl4.there
    refine store_ok (X := X.suite a ((a, o4) :: (X.pn ++ pins))) (v := .ref a) (J4.suite g4 d4 na aL aF) nd hix (.inl hlc) rfl (fun s5 S5 => ?_) (.inr hlc)
    refine wpAny_mono ((hsu a o4 cls dd (X.pn ++ pins) z4 ⟨_, d4⟩).run [] s5 _ H' _ S5 (hyes a na)) (fun fl6 s6 q6 => ?_) (fun _ _ z => z.elim)
    have gone : ∀ {σ6 : L2.St} {H6 : Hp} {Q : Shared → Prop}, Inv (X.suite a ((a, o4) :: (X.pn ++ pins))) [] σ6 H6 s6 → (∀ s7, Inv X pins (σ6.set i none) H6 s7 → Q s7) →
        wpAny (model X.prog X.w) X.A (do bindName X.env n .none; unbindBehindTheSuite X.env n hp') (fun _ s7 => Q s7) X.xe s6 := fun {σ6 H6 Q} S6 z => gone_ok (S6.unsuite I.ok) nd hix hlc z
    cases fl6 with
    | ret u => obtain ⟨v6, σ6, H6, S6, r6, z6⟩ := q6; exact gone S6 fun s7 J7 => ⟨_, _, _, J7, r6, z6⟩
    | next => obtain ⟨σ6, H6, S6, z6⟩ := q6; exact gone S6 fun s7 J7 => ⟨_, _, J7, z6⟩
    | brk => obtain ⟨σ6, H6, S6, z6⟩ := q6; exact gone S6 fun s7 J7 => ⟨_, _, J7, z6⟩
    | cont => obtain ⟨σ6, H6, S6, z6⟩ := q6; exact gone S6 fun s7 J7 => ⟨_, _, J7, z6⟩
  refine wpAny_mono ((hbd (wFst X.K c i ts D) (X.pn ++ pins) land caught PassesOwn.looking).run [] s σ H D (I.toTry _) hW) (fun fl s1 z => ?_) (fun e s1 z => z)
  cases fl with
  | ret u => obtain ⟨v, σ', H', J', r, z⟩ := z; exact ⟨v, σ', H', J'.ofTry I.ok, r, z⟩
  | next => obtain ⟨σ', H', J', z⟩ := z; exact wpAny_execs_nil ⟨σ', H', J'.ofTry I.ok, z⟩
  | brk => obtain ⟨σ', H', J', z⟩ := z; exact ⟨σ', H', J'.ofTry I.ok, z⟩
  | cont => obtain ⟨σ', H', J', z⟩ := z; exact ⟨σ', H', J'.ofTry I.ok, z⟩
end
/-! ### e.f of the caught error -/
section
variable {X : Cx} {a : Addr} {oe : Obj} {cls : Value} {d : Option Addr} {pn : List (Addr × Obj)} {i : Nat} {n f : Str} {p pos : Pos}
theorem pe_errf (hz : Zc cls d oe) (hf : ∃ vs, oe.data = .fields vs) (hv : PE (X.suite a ((a, oe) :: pn)) (.Name n p) (tVar i)) (hb : attributeBase (.Name n p) f X.env (eval (.Name n p) X.env) = eval (.Name n p) X.env := by rfl) :
    PE (X.suite a ((a, oe) :: pn)) (.Attribute (.Name n p) f pos) (fun σ H Q => σ[i]? = some (some (.ref a)) ∧ ∃ (C dd : Addr) (fs : List (Str × V)) (v : V), cls = .ref C ∧ XfC X.K C ∧ PySem.W.findIn X.K (.ref C) f = some none ∧ d = some dd ∧ H dd = some (.xd fs) ∧ fs.lookup f = some v ∧ Q v H) := by
  refine ⟨fun pins s σ H Q I h => ?_⟩
  obtain ⟨h1, C, dd, fs, v, h2, T, h3, h4, h5, h6, q⟩ := h
  exact (pe_xf T h3 hz hf hv hb).run pins s σ H Q I ⟨_, h1, rfl, h2, dd, fs, v, h4, h5, h6, q⟩
end
end FvX


set_option maxHeartbeats 2000000
namespace FvX
open PySem PySem.Spec PyProof.Rows L2 LamX
/-! ### x(lambda: body), where x calls what it got within a try and goes on behind it -/
section
variable {X : Cx} {pins : List (Addr × Obj)} {σ : L2.St} {H : Hp} {s : Shared}
/-- the call of the lambda; what it raises is told of the very slots -/
theorem pe_actS {Eg : XK} {Ng : List Str} {qg : Str} {sg : Scope} {gf lf lc : Addr} {cdg pm ctv : Value} {pr : Arguments} {bd : Expr} {sc : Scope} {k i : Nat} {nm : Str} {pn : List (Addr × Obj)} {xe : Value → Shared → Prop} {W : WX} {E : XK} {tb : TE} {p1 p2 : Pos}
    (I : Inv X pins σ H s) (L : LamS X.env.scope sc) (hobj : s.heap.get? lf = some (PySem.W.kla_obj "<lambda>" (X.env.qual ++ "<lambda>") pr bd sc (cloFrom X.env.cells sc.names []) pm lc ctv)) (hn : H lf = none) (hnf : lf ∉ frs X.stack)
    (hbnd : bindArgs (PySem.W.kla_fn "<lambda>" (X.env.qual ++ "<lambda>") pr bd sc (cloFrom X.env.cells sc.names []) pm (.ref lc) ctv) ⟨[], []⟩ = pure [])
    (tk : Takes ((cxOf C8.CX0 X.prog X.w X.K X.mg X.base Ng qg sg gf cdg X.A X.stack s H Eg).tr pn xe) W) (hr : Room (k + 1) (X.A.deeper (envOfC qg sg s.heap.objs.size gf cdg)))
    (hbd : ∀ (A : Around) (outer : List Env) (s : Shared) (H : Hp), Room k (A.deeper (lamEnv X sc s.heap.objs.size lf lc)) → PE (lamCx X A outer s H E sc lf lc) bd tb)
    (hN : Ng[i]? = some nm) (hv : Vis sg nm) (hd : (nm == ("__debug__" : Str)) = false) (hcd : (nm == ("__classdict__" : Str)) = false) :
    PE ((cxOf C8.CX0 X.prog X.w X.K X.mg X.base Ng qg sg gf cdg X.A X.stack s H Eg).tr pn xe) (.Call (.Name nm p1) [] [] p2)
      (fun σZ HZ Q => σZ[i]? = some (some (.ref lf)) ∧ HZ lc = some (CodeO lc (X.env.qual ++ "<lambda>")) ∧ (∀ cls d H', E cls d H' → W cls d σZ H') ∧ tb σ HZ Q) := by
  refine ⟨fun pZ sZ σZ HZ Q IZ hh => ?_⟩
  obtain ⟨h1, h2, hW, h3⟩ := hh
  have var := (pe_var (X := (cxOf C8.CX0 X.prog X.w X.K X.mg X.base Ng qg sg gf cdg X.A X.stack s H Eg).tr pn xe) (pos := p1) (i := i) hN hv hd hcd).run pZ sZ σZ HZ (fun v H1 => v = .ref lf ∧ H1 = HZ) IZ ⟨.ref lf, h1, rfl, rfl⟩
  refine wpAny_Call_Name_kw (thn var fun u s1 z => ?_)
  obtain ⟨v, H1, I1, r1, e1, e2⟩ := z
  subst e1
  subst e2
  have eu : u = Value.ref lf := r1
  subst eu
  have here := I1.base.keep lf _ hobj hn hnf (fun z => nomatch (show lf ∈ ([] : List Addr) from z))
  have un : Un (frs X.stack) [] H H1 s.heap s1.heap := I1.base
  obtain ⟨⟨oc, vs, t, g1, g2, g3⟩, _, _⟩ := I1.hok lc _ h2
  have body : codeAny (model X.prog X.w) (X.A.deeper (envOfC qg sg s.heap.objs.size gf cdg)) (.call (.ref lf) ⟨[], []⟩) (CR (L2.CX X.prog X.w) (envOfC qg sg s.heap.objs.size gf cdg :: X.stack) X.prog X.w H1 s1 Q E) s1 := by
    refine PySem.W.kla_callFunE hr.depth here rfl L.co L.gen rfl ⟨lc, oc, vs, t, rfl, g1, g2, g3⟩ ?_
    rw [hbnd]
    refine wpAny_pure (wpAny_newFunctionEnv (fun y hy => (L.own y hy).2) (fun y hy => absurd hy List.not_mem_nil) (fun h₁ hns hsb => ⟨I1.nolimit.fresh _ hsb, ?_⟩) L.kind)
    show codeAny _ _ (.expr bd (lamEnv X sc s1.heap.objs.size lf lc)) _ _
    have kp : ∀ b o, s1.heap.get? b = some o → h₁.get? b = some o := fun b o e => hsb.extBut b o (Nat.ne_of_lt (Heap.lt_size e)) (Heap.get?_push_of_some _ e)
    have J := lam_start2 (A := X.A.deeper (envOfC qg sg s.heap.objs.size gf cdg)) (outer := envOfC qg sg s.heap.objs.size gf cdg :: X.stack) (E := E) (scope := sc) (f := lf) (c' := lc) (tk := s1.toks + ([] : List (Str × Value)).length) I L I1.env0 hr.hd un hns kp
    refine PySem.W.kla_codeExpr (wpAny_mono ((hbd _ _ s1 H1 (hr.deeper _)).run [] _ _ H1 Q J h3) (fun v s' z => ?_) fun e s' z => z)
    obtain ⟨v', H', J', rv, z⟩ := z
    exact ⟨v', H', J'.os, J'.bare, J'.base, J'.hok, rv, z⟩
  refine PySem.W.callWith_F0 ⟨_, _, _, _, here⟩ (wpAny_call (codeAny_mono body fun r s' z => ?_))
  cases r with
  | ok fl =>
    cases fl with
    | ret u => exact I1.after z
    | next => exact z.elim
    | brk => exact z.elim
    | cont => exact z.elim
  | error e => exact tk e s' (XE.of_call I1 (fun cls d H' hE => hW cls d H' hE) z)
end
/-- the def at gf, called with one value, makes of the lambda's reading what TT says -/
def GivesS (X : Cx) (Ng : List Str) (x : Str) (sg : Scope) (gf : Addr) (cdg : Value) (bg : List Stmt) (nm q : Str) (TT : (XK → Hp → VK → Prop) → Hp → VK → Prop) : Prop :=
  ∀ (lf lc : Addr) (s : Shared) (H : Hp) (Q : VK) (tl : XK → Hp → VK → Prop),
    (∀ (W : WX) (pn : List (Addr × Obj)) (xe : Value → Shared → Prop) (E : XK) (p1 p2 : Pos), Takes ((cxOf C8.CX0 X.prog X.w X.K X.mg X.base Ng x sg gf cdg X.A X.stack s H C8.E0).tr pn xe) W →
      PE ((cxOf C8.CX0 X.prog X.w X.K X.mg X.base Ng x sg gf cdg X.A X.stack s H C8.E0).tr pn xe) (.Call (.Name nm p1) [] [] p2)
        (fun σZ HZ Q => σZ[0]? = some (some (.ref lf)) ∧ HZ lc = some (CodeO lc q) ∧ (∀ cls d H', E cls d H' → W cls d σZ H') ∧ tl E HZ Q)) →
    H lc = some (CodeO lc q) → TT tl H Q →
    ∃ t, PSs (cxOf C8.CX0 X.prog X.w X.K X.mg X.base Ng x sg gf cdg X.A X.stack s H C8.E0).nox bg t ∧ t { nx := fun _ H' => Q .non H', rt := Q } (L2.start Ng [.ref lf]) H
section
variable {X : Cx}
theorem pe_lamS {T : List (Addr × Str)} {TT : (XK → Hp → VK → Prop) → Hp → VK → Prop} {x nm : Str} {gf c P : Addr} {k : Nat} {pg : Arguments} {bg : List Stmt} {sg : Scope} {dV kV doc pm cdv ct oc : Value} {an od : Option Addr} {osl : Array (Option Value)} {Ng : List Str}
    {pr : Arguments} {bd : Expr} {sc : Scope} {t : XK → TE} {p lpos pos : Pos} (hg : Gl X x) (hm : X.mg x = some (.ref gf)) (hk : PySem.W.keepIn X.K (.ref gf) = true)
    (lk : X.K.lookup gf = some ⟨oc, od, .func (PySem.W.fnOf x x pg bg sg dV kV doc pm an cdv ct), osl⟩) (hcg : PySem.W.codeIn X.K cdv x = true) (hb : L2.Binds X.K (PySem.W.fnOf x x pg bg sg dV kV doc pm an cdv ct) [nm] []) (Sg : FnScope Ng [nm] sg) (hNg : Ng[0]? = some nm) (hva : Vis sg nm)
    (hG : GivesS X Ng x sg gf cdv bg nm (X.env.qual ++ "<lambda>") TT)
    (TB : TabB X.base X.mg c P) (hcode : X.env.code = .ref c) (hmT : (P, X.env.qual ++ "<lambda>") ∈ T) (hu : ∀ p ∈ T, p.1 = P → p.2 = X.env.qual ++ "<lambda>") (hr : Room (k + 2) X.A) (L : LamS X.env.scope sc) (hdef : defaultsOf pr X.env = ([], []))
    (hbind : ∀ (q : Str) (cl : List (Str × Addr)) (pm cv ctv : Value), bindArgs (PySem.W.kla_fn "<lambda>" q pr bd sc cl pm cv ctv) ⟨[], []⟩ = pure [])
    (hbd : ∀ (A : Around) (outer : List Env) (s : Shared) (H : Hp) (E : XK) (lf lc : Addr), Room k (A.deeper (lamEnv X sc s.heap.objs.size lf lc)) → PE (lamCx X A outer s H E sc lf lc) bd (t E))
    (hdb : (x == ("__debug__" : Str)) = false := by decide) (hd : (nm == ("__debug__" : Str)) = false := by decide) (hcd : (nm == ("__classdict__" : Str)) = false := by decide) :
    PE X (.Call (.Name x p) [.Lambda pr bd sc lpos] [] pos) (tLam T TT t) := by
  refine ⟨fun pins s σ H Q I hh => wpAny_Call_Name_kw (ld_glob I hg hm (PySem.W.callWith_K (h₀ := X.base) I.ok.mod.kin hk ?_ (by rfl) (by rfl)) hdb)⟩
  show wpAny _ _ (spliced ((false, eval (.Lambda pr bd sc lpos) X.env) :: backTo pos (starEach [] X.env))) _ _ s
  refine Calls.spliced_cons (lam_make2 I TB hcode hmT hu hh.1 hdef (L.has I.ok) fun lf lc pm' ctv H1 s' I1 eN T1 g1 g2 g3 g4 => Calls.spliced_nil ⟨I1.kIn, ?_⟩)
  refine wpAny_call (codeAny_mono (R := CR C8.CX0 X.stack X.prog X.w H1 s' Q C8.E0) ?_ fun r s2 z => ?_)
  · refine run_ofS (N := Ng) (ps := [nm]) (us := [.ref lf]) (vs := [.ref lf]) lk hcg Sg hr I1.env0 (hb s' [.ref lf] I1.kIn rfl) (.cons rfl .nil) rfl fun hr' => ?_
    obtain ⟨t', q1, q2⟩ := hG lf lc s' H1 Q (fun E H' Q' => t E σ H' Q') (fun W pn xe E p1 p2 tk => pe_actS (i := 0) I1 L g1 g2 g3 (hbind _ _ _ _ _) tk hr' (fun A outer s H hr2 => hbd A outer s H E lf lc hr2) hNg hva hd hcd) g4 (hh.2 H1 eN T1)
    exact ⟨t', q1.nox, q2⟩
  · cases r with
    | error e => exact (show False from z).elim
    | ok fl =>
      cases fl with
      | ret u => exact I1.after z
      | next => exact z.elim
      | brk => exact z.elim
      | cont => exact z.elim
end
end FvX


namespace Fv
open PySem PySem.Spec PyProof.Rows L2 FvX
/-! ### own defs that may raise -/
structure OwnR (P : Program) (w : World) (K : PySem.W.Frag) (mg : Str → Option Value) (base : Heap) (k : Nat) (x : Str) (sp : Sp) : Prop where
  ex : ∃ f : Addr, mg x = some (.ref f) ∧ PySem.W.keepIn K (.ref f) = true ∧ FnR P w K mg base (L2.CX P w) k f sp
section
variable {X : Cx} {k : Nat} {x : Str} {sp : Sp} {E : XK} {e : Expr} {es : List Expr} {t : TA} {p pos : Pos}
theorem pe_ownR (C : OwnR X.prog X.w X.K X.mg X.base k x sp) (hr : Room k X.A) (hg : Gl X x) (hx : Passes (L2.CX X.prog X.w) X E) (ha : PA X (e :: es) t) (hdb : (x == ("__debug__" : Str)) = false := by decide)
    (he : starEach (e :: es) X.env = (false, eval e X.env) :: starEach es X.env := by rfl) (hpl : (backTo pos (starEach es X.env)).any (·.1) = false := by rfl) : PE X (.Call (.Name x p) (e :: es) [] pos) (fun σ H Q => t σ H fun vs H1 => sp vs H1 Q E) := by
  obtain ⟨f, h1, h2, h3⟩ := C.ex
  refine ⟨fun pins s σ H Q I h => wpAny_Call_Name_kw (ld_glob I hg h1 (PySem.W.callWith_K (h₀ := X.base) I.ok.mod.kin h2 (thn (ha.run pos pins s σ H _ I h) fun us s1 z => ?_) he hpl) hdb)⟩
  obtain ⟨vs, H1, I1, r, q⟩ := z
  exact ⟨I1.kIn, wpAny_call (run_fnR h3 hr hx I1 r q)⟩
theorem pe_ownR0 (C : OwnR X.prog X.w X.K X.mg X.base k x sp) (hr : Room k X.A) (hg : Gl X x) (hx : Passes (L2.CX X.prog X.w) X E) (hdb : (x == ("__debug__" : Str)) = false := by decide) : PE X (.Call (.Name x p) [] [] pos) (fun σ H Q => sp [] H Q E) := by
  obtain ⟨f, h1, h2, h3⟩ := C.ex
  exact ⟨fun pins s σ H Q I h => wpAny_Call_Name_kw (ld_glob I hg h1 (PySem.W.callWith_K0 I.kIn h2 (wpAny_call (run_fnR h3 hr hx I .nil h))) hdb)⟩
end
theorem passX {P : Program} {w : World} {K : PySem.W.Frag} {mg : Str → Option Value} {base : Heap} {N : List Str} {qual : Str} {scope : Scope} {f : Addr} {cd : Value} {A : Around} {outer : List Env} {s : Shared} {H : Hp} {E : XK} :
    Passes (L2.CX P w) (cxOf (L2.CX P w) P w K mg base N qual scope f cd A outer s H E) E := passes_call (takes_of rfl rfl rfl rfl) (fun _ _ _ _ h => h)
theorem passL {X : Cx} {A : Around} {outer : List Env} {s : Shared} {H : Hp} {E : XK} {sc : Scope} {lf lc : Addr} : Passes (L2.CX X.prog X.w) (LamX.lamCx X A outer s H E sc lf lc) E := passes_call (takes_of rfl rfl rfl rfl) (fun _ _ _ _ h => h)
/-- the error of the class at CT leaves, its code told -/
def errAt (CT : Addr) (cod : Str) (H : Hp) (E : XK) : Prop := ∀ (H' : Hp) (dd : Addr), Same H H' → H' dd = some (.xd [("code", .str cod)]) → E (.ref CT) (some dd) H'
theorem errAt.mono {CT : Addr} {cod : Str} {H H1 : Hp} {E : XK} (h : errAt CT cod H E) (s : Same H H1) : errAt CT cod H1 E := fun H' dd s' e => h H' dd (s.trans s') e
/-- a term by is_term's default bounds -/
def tmB (d : PyData) : Bool := (meas 5 d 24).isSome
def spChecked (K : PySem.W.Frag) (CT : Addr) : Sp := fun vs H Q E => ∃ (v : V) (d : PyData), vs = [v] ∧ Dp K H v d ∧ gd 20 d = true ∧ (tmB d = true → ∀ H', Same H H' → Q v H') ∧ (tmB d = false → errAt CT "InvalidTerm" H E)
/-- the term of an operator and its parts, or the only part -/
def madeD (op : Str) : List PyData → PyData
  | [d] => d
  | ds => .tuple (.str op :: ds)
def spJoined (K : PySem.W.Frag) (CT : Addr) : Sp := fun vs H Q E => ∃ (op : Str) (tp : Addr) (xs : List V) (ds : List PyData), vs = [.str op, .ref tp] ∧ SqT K H tp xs ∧ DpAll K H xs ds ∧ xs.length ≤ 100 ∧ gd 0 (.str op) = true ∧ (∀ d ∈ ds, gd 15 d = true) ∧
  (tmB (madeD op ds) = true → ∀ H' v, Same H H' → Dp K H' v (madeD op ds) → Q v H') ∧ (tmB (madeD op ds) = false → errAt CT "InvalidTerm" H E)
def spLower (K : PySem.W.Frag) (CT : Addr) (op : Str) : Sp := fun vs H Q E => ∃ (tp : Addr) (xs : List V) (ds : List PyData), vs = [.ref tp] ∧ SqT K H tp xs ∧ DpAll K H xs ds ∧ xs.length ≤ 100 ∧ (∀ d ∈ ds, gd 15 d = true) ∧
  (tmB (madeD op ds) = true → ∀ H' v, Same H H' → Dp K H' v (madeD op ds) → Q v H') ∧ (tmB (madeD op ds) = false → errAt CT "InvalidTerm" H E)
def spLowerR (K : PySem.W.Frag) (CT : Addr) (op : Str) : Sp := fun xs H Q E => ∃ ds : List PyData, DpAll K H xs ds ∧ xs.length ≤ 100 ∧ (∀ d ∈ ds, gd 15 d = true) ∧
  (tmB (madeD op ds) = true → ∀ H' v, Same H H' → Dp K H' v (madeD op ds) → Q v H') ∧ (tmB (madeD op ds) = false → errAt CT "InvalidTerm" H E)
theorem madeD_gd {op : Str} {ds : List PyData} (ho : gd 0 (.str op) = true) (h : ∀ d ∈ ds, gd 15 d = true) (hl : ds.length ≤ 100) : gd 20 (madeD op ds) = true := by
  have z : gd 16 (.tuple (.str op :: ds)) = true := gd_tup (fun d hd => by
    rcases List.mem_cons.mp hd with e | e
    · rw [e]; exact gd_le ho (by decide)
    · exact h d e) (by rw [List.length_cons]; omega)
  unfold madeD
  split
  · rename_i d
    exact gd_le (h d (List.mem_singleton.mpr rfl)) (by decide)
  · exact gd_le z (by decide)
theorem madeD_ne {op : Str} {ds : List PyData} (h : ds.length ≠ 1) : madeD op ds = .tuple (.str op :: ds) := by
  match ds, h with
  | [], _ => rfl
  | [d], h => exact absurd rfl h
  | a :: b :: r, _ => rfl
end Fv


namespace Fv
open PySem PySem.Spec PyProof.Rows L2 FvX
theorem lmeas_up : ∀ (n : Nat) (d : PyData), 1 ≤ lmeas n d → lmeas (n + 1) d = lmeas n d
  | 0, d, h => by simp only [lmeas] at h; omega
  | n + 1, d, h => by
    by_cases a : isLd d = true
    · unfold lmeas
      rw [if_pos a, if_pos a]
    · by_cases b : isCd d = true
      · have e : ∀ m, lmeas (m + 1) d = if (0 : Int) ∈ (parts d).map (lmeas m) then 0 else ((parts d).map (lmeas m)).sum := fun m => by
          show (if isLd d = true then (1 : Int) else if isCd d = true then _ else 0) = _
          rw [if_neg a, if_pos b]
        rw [e] at h
        by_cases c : (0 : Int) ∈ (parts d).map (lmeas n)
        · rw [if_pos c] at h; omega
        · have em : (parts d).map (lmeas (n + 1)) = (parts d).map (lmeas n) := List.map_congr_left fun x hx => lmeas_up n x (by
            have z := lmeas_nonneg n x
            rcases Int.lt_or_eq_of_le z with z | z
            · omega
            · exact absurd (List.mem_map.mpr ⟨x, hx, z.symm⟩) c)
          rw [e (n + 1), e n, em]
      · have e : ∀ m, lmeas (m + 1) d = 0 := fun m => by
          show (if isLd d = true then (1 : Int) else if isCd d = true then _ else 0) = _
          rw [if_neg a, if_neg b]
        rw [e] at h; omega
theorem mem_le_sum : ∀ {l : List Int} {x : Int}, (∀ y ∈ l, 0 ≤ y) → x ∈ l → x ≤ l.sum
  | y :: l, x, h, hx => by
    rw [List.sum_cons]
    have h0 := sum_nonneg (l := l) fun z hz => h z (List.mem_cons_of_mem _ hz)
    have h1 := h y (List.mem_cons_self ..)
    rcases List.mem_cons.mp hx with e | e
    · omega
    · have := mem_le_sum (l := l) (fun z hz => h z (List.mem_cons_of_mem _ hz)) e
      omega
theorem tmB_iff (d : PyData) : tmB d = true ↔ 1 ≤ lmeas 5 d ∧ lmeas 5 d ≤ 24 := by
  unfold tmB
  rw [meas_some, Bool.and_eq_true, decide_eq_true_eq, decide_eq_true_eq]
theorem tmB_fits (d : PyData) : (decide (1 ≤ lmeas 5 d) && decide (lmeas 5 d ≤ 24)) = tmB d := (meas_some 5 d 24).symm
/-- what makes a term is made of terms -/
theorem made_parts {op : Str} {ds : List PyData} (h : tmB (madeD op ds) = true) : ds ≠ [] ∧ ∀ d ∈ ds, tmB d = true := by
  match ds, h with
  | [], h => cases (show false = true from h)
  | [d], h => exact ⟨fun z => (by cases z), fun x hx => by rw [List.mem_singleton.mp hx]; exact h⟩
  | a :: b :: r, h =>
    refine ⟨fun z => (by cases z), fun x hx => ?_⟩
    obtain ⟨h1, h2⟩ := (tmB_iff _).mp h
    have e : lmeas 5 (madeD op (a :: b :: r)) = if isCd (.tuple (.str op :: a :: b :: r)) = true then (if (0 : Int) ∈ (a :: b :: r).map (lmeas 4) then 0 else ((a :: b :: r).map (lmeas 4)).sum) else 0 := rfl
    rw [e] at h1 h2
    by_cases c : isCd (.tuple (.str op :: a :: b :: r)) = true
    · rw [if_pos c] at h1 h2
      by_cases c0 : (0 : Int) ∈ (a :: b :: r).map (lmeas 4)
      · rw [if_pos c0] at h1; omega
      · rw [if_neg c0] at h1 h2
        have z := lmeas_nonneg 4 x
        have x1 : 1 ≤ lmeas 4 x := by
          rcases Int.lt_or_eq_of_le z with z | z
          · omega
          · exact absurd (List.mem_map.mpr ⟨x, hx, z.symm⟩) c0
        have xs : lmeas 4 x ≤ ((a :: b :: r).map (lmeas 4)).sum := mem_le_sum (fun y hy => by
          obtain ⟨d', _, rfl⟩ := List.mem_map.mp hy
          exact lmeas_nonneg 4 d') (List.mem_map.mpr ⟨x, hx, rfl⟩)
        exact (tmB_iff x).mpr (by rw [lmeas_up 4 x x1]; omega)
    · rw [if_neg c] at h1; omega
def badD : PyData := .tuple [.none, .str "InvalidTerm"]
def outD (op : Str) (ds : List PyData) : PyData := if tmB (madeD op ds) = true then .tuple [madeD op ds, .str ""] else badD
def opOf (low : Bool) : Str := if low = true then "&" else "|"
def spMade (K : PySem.W.Frag) (CT : Addr) : Sp := fun vs H Q E => ∃ (pl : Addr) (xs : List V) (ds : List PyData) (low : Bool), vs = [.ref pl, .bl low] ∧ H pl = some (.lst xs) ∧ DpAll K H xs ds ∧ xs.length ≤ 4 ∧ (∀ d ∈ ds, gd 13 d = true) ∧
  (tmB (madeD (opOf low) ds) = true → ∀ H' v, Same H H' → Dp K H' v (madeD (opOf low) ds) → Q v H') ∧ (tmB (madeD (opOf low) ds) = false → errAt CT "InvalidTerm" H E)
def spDue (K : PySem.W.Frag) : Sp := fun vs H Q _ => ∃ (pl : Addr) (xs : List V) (ds : List PyData) (low : Bool), vs = [.ref pl, .bl low] ∧ H pl = some (.lst xs) ∧ DpAll K H xs ds ∧ xs.length ≤ 4 ∧ (∀ d ∈ ds, gd 13 d = true) ∧
  ∀ H' v, Same H H' → Dp K H' v (outD (opOf low) ds) → Q v H'
theorem eqv_nil (ds : List PyData) : PyData.eqv (.list ds) (.list []) = decide (ds = []) := by
  cases ds with
  | nil => rfl
  | cons d ds => simp [PyData.eqv, PyData.eqvAll]
/-- what _law_call makes of the lambda's reading -/
def TCall (K : PySem.W.Frag) (CF : Addr) : (XK → Hp → VK → Prop) → Hp → VK → Prop := fun tl H Q => ∀ (R : VK) (E : XK),
  (∀ v H', (∀ p, H' p = none → Q (.ref p) (upd H' p (.tup [v, .str ""]))) → R v H') →
  (∀ (C dd : Addr) (H' : Hp) (fs : List (Str × V)) (v : V), PySem.W.exmOne K (.ref C) (.ref CF) = some true → XfC K C → PySem.W.findIn K (.ref C) "code" = some none → H' dd = some (.xd fs) → fs.lookup ("code" : Str) = some v →
      (∀ p, H' p = none → Q (.ref p) (upd H' p (.tup [.non, v]))) → E (.ref C) (some dd) H') → tl E H R
end Fv


namespace Fv
open PySem PySem.Spec PyProof.Rows L2 FvX
/-! ### what stays when a lambda is made -/
theorem sq_ext {K : PySem.W.Frag} {H H' : Hp} {a : Addr} {xs : List V} (e : LamX.ExtN H H') (h : SqL K H a xs) : SqL K H' a xs := by
  rcases h with (h | ⟨o, h⟩) | h
  · exact .inl (.inl (e _ _ h fun ps z => by cases z))
  · exact .inl (.inr ⟨o, e _ _ h fun ps z => by cases z⟩)
  · exact .inr h
theorem sqT_ext {K : PySem.W.Frag} {H H' : Hp} {a : Addr} {xs : List V} (e : LamX.ExtN H H') (h : SqT K H a xs) : SqT K H' a xs := by
  rcases h with (h | ⟨o, h⟩) | h
  · exact .inl (.inl (e _ _ h fun ps z => by cases z))
  · exact .inl (.inr ⟨o, e _ _ h fun ps z => by cases z⟩)
  · exact .inr h
mutual
theorem dp_ext {K : PySem.W.Frag} {H H' : Hp} (e : LamX.ExtN H H') : ∀ (d : PyData) (v : V), Dp K H v d → Dp K H' v d
  | .none, _, h => by cases h; exact .non
  | .bool b, _, h => by cases h; exact .bl b
  | .int i, _, h => by cases h; exact .int i
  | .str x, _, h => by cases h; exact .str x
  | .list ds, _, h => by cases h with | lst hs ha => exact .lst (sq_ext e hs) (dpAll_ext e ds _ ha)
  | .tuple ds, _, h => by cases h with | tup hs ha => exact .tup (sqT_ext e hs) (dpAll_ext e ds _ ha)
  | .dict kvs, _, h => by cases h
theorem dpAll_ext {K : PySem.W.Frag} {H H' : Hp} (e : LamX.ExtN H H') : ∀ (ds : List PyData) (vs : List V), DpAll K H vs ds → DpAll K H' vs ds
  | [], _, h => by cases h; exact .nil
  | d :: ds, _, h => by cases h with | cons h1 h2 => exact .cons (dp_ext e d _ h1) (dpAll_ext e ds _ h2)
end
theorem ext_hide {M : List Addr} {H H' : Hp} (e : LamX.ExtN H H') : LamX.ExtN (hide M H) (hide M H') := fun b o z n => by
  obtain ⟨m, z⟩ := hide_some z
  rw [hide_ne m]
  exact e b o z n
theorem Src.ext {H H' : Hp} {a L : Addr} {ns : List Int} (h : Src H a L ns) (e : LamX.ExtN H H') : Src H' a L ns := by
  obtain ⟨i, p, st, c, h1, h2, h3⟩ := h
  exact ⟨i, p, st, c, e _ _ h1 (fun ps z => by cases z), e _ _ h2 (fun ps z => by cases z), h3⟩
theorem GV.ext {K : PySem.W.Frag} {n : Nat} {M : List Addr} {H H' : Hp} {v : V} (g : GV K n M H v) (e : LamX.ExtN H H') : GV K n M H' v := by
  obtain ⟨d, h1, h2⟩ := g
  exact ⟨d, dp_ext (ext_hide e) d v h1, h2⟩
theorem GV.smx {K : PySem.W.Frag} {n : Nat} {M : List Addr} {H H' : Hp} {v : V} (g : GV K n M H v) (s : SmX M H H') : GV K n M H' v := by
  obtain ⟨d, h1, h2⟩ := g
  exact ⟨d, dp_same s.hid d v h1, h2⟩
/-- tables stay where lists alone are changed -/
theorem tabs_smx {T : List (Addr × Str)} {M : List Addr} {H H' : Hp} (t : LamX.Tabs T H) (s : SmX M H H') (hM : ∀ b ∈ M, ∃ xs, H b = some (.lst xs)) : LamX.Tabs T H' := fun p hp => by
  obtain ⟨ps, h1, h2, h3⟩ := t p hp
  have nm : ∀ {b : Addr} {o : HO}, H b = some o → (∀ xs, o ≠ .lst xs) → b ∉ M := fun {b o} e n hb => by
    obtain ⟨xs, e'⟩ := hM b hb
    rw [e] at e'
    exact n xs (Option.some.inj e')
  refine ⟨ps, s _ _ (nm h1 fun xs z => by cases z) h1, h2, fun pos cv hc => ?_⟩
  obtain ⟨c, e1, e2⟩ := h3 pos cv hc
  exact ⟨c, e1, s _ _ (nm e2 fun xs z => by unfold LamX.CodeO at z; cases z) e2⟩
theorem tabs_same {T : List (Addr × Str)} {H H' : Hp} (t : LamX.Tabs T H) (s : Same H H') : LamX.Tabs T H' := t.ext s
theorem Src.lst {H : Hp} {a L : Addr} {ns : List Int} (h : Src H a L ns) : ∀ b ∈ [a], ∃ xs, H b = some (.lst xs) := fun b hb => by
  obtain ⟨_, _, _, _, e, _⟩ := h
  rw [List.mem_singleton.mp hb]
  exact ⟨_, e⟩
/-- the table of the law's own code -/
def TT0 (Pt : Addr) : List (Addr × Str) := [(Pt, ("law" : Str) ++ ".<locals>." ++ "<lambda>")]
section
variable {P : Program} {w : World} {K : PySem.W.Frag} {mg : Str → Option Value} {base : Heap}
/-- a def whose code object is told -/
theorem okC {x qual : Str} {st : Stmt} {f c : Addr} {oc : Value} {od an : Option Addr} {osl : Array (Option Value)} {kV doc pm ct : Value} {N ps : List Str} {k : Nat} {sp : Sp} (lk : K.lookup f = some ⟨oc, od, .func (PySem.W.fnOf x qual (defArgs st) (defBody st) (defScope st) .none kV doc pm an (.ref c) ct), osl⟩)
    (hcd : PySem.W.codeIn K (.ref c) qual = true) (S : FnScope N ps (defScope st)) (len : ∀ vs H Q E, sp vs H Q E → vs.length = ps.length)
    (hbody : ∀ (A : Around) (outer : List Env) (s : Shared) (H : Hp) (vs : List V) (Q : VK) (E : XK), Room k (A.deeper (envOfC qual (defScope st) s.heap.objs.size f (.ref c))) → sp vs H Q E →
      ∃ t, PSs (cxOf CX0 P w K mg base N qual (defScope st) f (.ref c) A outer s H E).nox (defBody st) t ∧ t { nx := fun _ H' => Q .non H', rt := Q } (start N vs) H) :
    FnOk P w K mg base CX0 (k + 1) f (PySem.W.fnOf x qual (defArgs st) (defBody st) (defScope st) .none kV doc pm an (.ref c) ct) ps sp :=
  fn_of lk hcd S len fun A outer s H vs Q E hr h => by
    obtain ⟨t, h1, h2⟩ := hbody A outer s H vs Q E hr h
    exact ⟨t, h1.nox, h2⟩
end
def spLawT (K : PySem.W.Frag) (Pt : Addr) : Sp := fun vs H Q _ => ∃ (a : Addr) (ns : List Int), vs = [.ref a] ∧ SqL K H a (ns.map V.int) ∧ ns.length ≤ 63 ∧ H Pt = some (.tbl #[]) ∧ ∀ H', Q (.bl true) H'
theorem outD_gd {op : Str} {ds : List PyData} (h : gd 20 (madeD op ds) = true) : gd 21 (outD op ds) = true := by
  unfold outD
  split
  · refine gd_tup (fun d hd => ?_) (Nat.le_of_ble_eq_true rfl)
    rcases List.mem_cons.mp hd with e | e
    · rw [e]; exact h
    · rw [List.mem_singleton.mp e]; exact gd_le (n := 0) (by decide +kernel) (Nat.zero_le _)
  · exact gd_le (n := 1) (by decide +kernel) (by decide)
end Fv


set_option maxHeartbeats 4000000
namespace FvX
open PySem PySem.W PySem.Calls PyProof.Rows
/-! ### an own error with one field: super().__init__(f".."), self.code = text, self.f = f -/
def flds : List Str := ["index", "letter", "name", "count", "place", "limit", "line", "word"]
abbrev errScope1 (fl : Str) : Scope := { kind := .function, names := [("self", .local), (fl, .local), ("__class__", .free), ("super", .globalImplicit)], isGenerator := false, isCoroutine := false, more := [] }
abbrev errParams1 (fl : Str) (pp pp2 : Pos) : Arguments := { posonlyargs := [], args := [{ arg := "self", annotation := none, pos := pp : Arg }, { arg := fl, annotation := none, pos := pp2 : Arg }], vararg := none, kwonlyargs := [], kw_defaults := [], kwarg := none, defaults := [] }
structure ErrPos1 where
  (p0 p1 p2 p4 p5 p6 p7 p8 p9 p10 p11 p12 p13 pp pp2 : Pos)
abbrev errBody1 (q : ErrPos1) (me : Expr) (cod fl : Str) (j2 : Nat) : List Stmt :=
  [.Expr (.Call (.Attribute (.Call (.Name "super" q.p0) [] [] q.p1) "__init__" q.p2) [me] [] q.p4) q.p5, .Assign [.Attribute (.Name "self" q.p6) "code" q.p7] (.Constant (.str cod) j2 q.p8) q.p9, .Assign [.Attribute (.Name "self" q.p10) fl q.p11] (.Name fl q.p12) q.p13]
def LineOk1 (q : ErrPos1) (me : Expr) : Prop := ∀ env : Env, ∃ pl : Sem Bool, eval (.Call (.Attribute (.Call (.Name "super" q.p0) [] [] q.p1) "__init__" q.p2) [me] [] q.p4) env = (do
  let ov ← attributeBase (.Call (.Name "super" q.p0) [] [] q.p1) "__init__" env (eval (.Call (.Name "super" q.p0) [] [] q.p1) env)
  standAt q.p2.atName
  let (f, first) ← holding [ov] (getMethod ov "__init__" pl)
  callWith q.p4 f first (backTo q.p4 (starEach [me] env)) [])
/-- the message is some text; nothing else is changed -/
def MsgOk (me : Expr) (fl : Str) (u : Value) : Prop := ∀ {prog : Program} {w : World} {A : Around} {env : Env} {E : Value → Shared → Prop} {Q : Value → Shared → Prop} {h : Heap} {g : Array GenState} {d : Drawn} {t : Nat} {os : OsState},
  (∀ (p : Pos) (tk : Nat) (Q' : Value → Shared → Prop), Q' u ⟨h, g, d, tk, os⟩ → wpAny (model prog w) A (eval (.Name fl p) env) Q' E ⟨h, g, d, tk, os⟩) → (∀ y t' tk, Q (.str y t') ⟨h, g, d, tk, os⟩) → wpAny (model prog w) A (eval me env) Q E ⟨h, g, d, t, os⟩
/-- the shape of the message: one call's arguments are evaluated from the left -/
def ArgsOk (me : Expr) : Prop := ∀ env : Env, starEach [me] env = (false, eval me env) :: starEach [] env
theorem nocell (fl : Str) : ∀ x ∈ (errScope1 fl).names, x.2 ≠ .cell := by
  intro x hx
  simp only [List.mem_cons, List.not_mem_nil, or_false] at hx
  rcases hx with rfl | rfl | rfl | rfl <;> (intro z; cases z)
structure ErrC1 (file0 : Str) (K : Frag) (C f : Addr) (qual : Str) (q : ErrPos1) (me : Expr) (cod fl : Str) (j2 : Nat) : Prop where
  oex : L2.OexC K C
  fn : ∃ (oc : Value) (od an : Option Addr) (osl : Array (Option Value)) (kV doc pm ct : Value) (cda cc : Addr) (ccl cl : Value) (cdd cld : Option Addr) (vs : Array Value) (ccs csl : Array (Option Value)) (file : Str) (tf : Tok),
    K.lookup f = some ⟨oc, od, .func (ksFn "__init__" qual (errParams1 fl q.pp q.pp2) (errBody1 q me cod fl j2) (errScope1 fl) .none kV doc pm an (.ref cda) ct cc), osl⟩ ∧ codeIn K (.ref cda) qual = true ∧ K.lookup cda = some ⟨ccl, cdd, .fields vs, ccs⟩ ∧ vs[2]? = some (.str file tf) ∧
      (file0 == file) = true ∧ K.lookup cc = some ⟨cl, cld, .cell (some (.ref C)), csl⟩
  sup : ks_superIn K C C "__init__" = some (some (.builtin "ValueError.__init__"))
  self : mroIn K C (.ref C) = some true
  isV : subIn K (.ref C) (.type "ValueError") = some true
  init : excInitIn K C veTail4 "ValueError.__new__" = true
  third : nsIn K cStatics "thirdparty.any" = some none
  code : findIn K (.ref C) "code" = some none
  fld : findIn K (.ref C) fl = some none
  find : findIn K (.ref C) "__init__" = some (some (.ref f))
  typ : typeIn K (.ref f) = some (.type "function")
section
variable {prog : Program} {w : World} {A : Around} {K : Frag} {h : Heap} {g : Array GenState} {d : Drawn} {t : Nat} {os : OsState} {R : Result → Shared → Prop} {mg mb : Str → Option Value}
  {C f a t0 : Addr} {qual cod fl : Str} {q : ErrPos1} {me : Expr} {j2 : Nat} {u : Value}
theorem init_run1 (hfl : fl ∈ flds) (T : ErrC1 prog.main.file K C f qual q me cod fl j2) (hline : LineOk1 q me) (hargs : ArgsOk me) (hmsg : MsgOk me fl u) (htop : (prog.main.scope.names.lookup ("super" : Str)).isSome = false)
    (X : K.In h) (hg : h.Ns mainGlobals mg) (hms : mg "super" = none) (hb : h.Ns builtinsNs mb) (hmb : mb "super" = some (.type "super")) (hlim : h.NoLimit) (hroom : A.depth < recursionLimit) (ha : h.get? a = some (excObj C t0 none .none)) (haK : K.lookup a = none)
    (hq : ∀ h' t1 tk' dx tk, (∀ b o, b ≠ a → h.get? b = some o → h'.get? b = some o) → h.objs.size ≤ dx → dx ≠ a → h'.get? a = some { cls := .ref C, dict := some dx, data := .fields #[.ref t1, .none, .none, .none, .bool false, .none] } →
      h'.Ns1 dx (fun y => if y = fl then some u else if y = ("code" : Str) then some (.str cod tk) else none) → R (.ok (.ret .none)) ⟨h', g, d, tk', os⟩) :
    codeAny (model prog w) A (.call (.ref f) ⟨[.ref a, u], []⟩) R ⟨h, g, d, t, os⟩ := by
  simp only [flds, List.mem_cons, List.not_mem_nil, or_false] at hfl
  obtain ⟨oc, od, an, osl, kV, doc, pm, ct, cda, cc, ccl, cl, cdd, cld, vs, ccs, csl, file, tf, hf, hcd, hcode, hvs, hfile, hcell⟩ := T.fn
  rcases hfl with rfl | rfl | rfl | rfl | rfl | rfl | rfl | rfl
  all_goals
    refine ks_codeAny_call_defAt (binds := [("self", .ref a), (_, u)]) hroom (X _ _ hf) rfl hlim (codeRec_of X hcd) rfl (.of_eq rfl) (nocell _) (fun y hy => ?_) (fun h1 hns hk1 => ?_)
    · rcases List.mem_cons.mp hy with e | e
      · rw [e]; rfl
      · rw [List.mem_singleton.mp e]; rfl
    have X1 : K.In h1 := fun b o e => hk1 b o (X b o e)
    have ha1 : h1.get? a = some (excObj C t0 none .none) := hk1 _ _ ha
    have haL : a ≠ h.objs.size := Nat.ne_of_lt (Heap.lt_size ha)
    obtain ⟨cd, hc⟩ : ∃ cd, clsIn K C = some cd := by
      have z := T.sup
      unfold ks_superIn at z
      cases hc : clsIn K C with
      | none => rw [hc] at z; cases z
      | some cd => exact ⟨cd, rfl⟩
    obtain ⟨oD, hD0, hD2⟩ : ∃ oD, K.lookup C = some oD ∧ oD.data = .cls cd := by
      unfold clsIn at hc
      split at hc
      · rename_i c d' cd' sl ho
        cases hc
        exact ⟨_, ho, rfl⟩
      · cases hc
    have hD1 := X1 _ _ hD0
    have hsup : alongIn K "__init__" ((cd.mro.dropWhile (· != .ref C)).drop 1) = some (some (.builtin "ValueError.__init__")) := by
      have z := T.sup
      unfold ks_superIn at z
      rw [hc] at z
      exact z
    obtain ⟨pl, hline⟩ := hline (callEnv (ksFn "__init__" qual (errParams1 _ q.pp q.pp2) (errBody1 q me cod _ j2) (errScope1 _) .none kV doc pm an (.ref cda) ct cc) h.objs.size f)
    refine ks_wpAt_execs_cons (ks_wpAt_Expr_any (ks_wpAt_MethodCall ?_ hline))
    refine ks_wpAt_super_base rfl rfl (by decide) rfl (X1 _ _ hf) rfl rfl rfl (X1 _ _ hcode) rfl hvs hfile htop ?_
    refine ks_loadName_global rfl rfl (loadGlobal_builtin (hg.keeps hk1) hms (hb.keeps hk1) hmb ⟨rfl, ?_⟩)
    refine wpAny_loadName_free rfl rfl rfl ⟨_, X1 _ _ hcell, rfl⟩ ?_
    refine wpAny_loadName_local rfl rfl hns (show _ = some (Value.ref a) from rfl) ?_
    refine ks_wpAny_isType_cls hD1 hD2 ⟨rfl, ?_⟩
    refine ks_wpAny_call_super hD1 hD2 ha1 rfl (fun c e => by cases e) (looks_mroIn X1 T.self) (fun h2 hso hk2 => ?_)
    have X2 : K.In h2 := fun b o e => hk2 b o (X1 b o e)
    have ha2 := hk2 _ _ ha1
    have haC : a ≠ C := fun e => by rw [e, hD0] at haK; cases haK
    have I2 : InstAt h2 a (excObj C t0 none .none) C none := ⟨ha2, rfl, rfl, trivial⟩
    refine kxs_getMethod kxs_ValueError hso (looks_opaque X2 T.third) (l₀ := cd.mro) (fun A Q E s k z => wpAny_bind ((looks_clsIn X2 hc) A _ E s k (wpAny_pure z))) rfl X2 hsup (I2.type.andThen (looks_subIn X2 T.isV)) haC (by decide) ?_
    have nsK : ∀ {h h' : Heap} {L : Addr} {m : Str → Option Value}, h.Ns L m → (∀ b o, h.get? b = some o → h'.get? b = some o) → h'.Ns L m := fun {h h' L m} ⟨o, es, ep, e, r⟩ k => ⟨o, es, ep, k _ _ e, r⟩
    have hns2 := nsK hns hk2
    have hk3 : ∀ b o, h2.get? b = some o → (h2.push (kxs_mw "ValueError.__init__" a)).get? b = some o := fun b o e => Heap.get?_push_of_some _ e
    have hLt : h.objs.size < h2.objs.size := by
      obtain ⟨o, _, _, e, _⟩ := hns2
      exact Heap.lt_size e
    have FR := (⟨nsK hns2 hk3, fun b o e => hk3 _ _ (hk2 _ _ (hk1 _ _ (of_hideAll _ e))), Nat.le_of_eq (hideAll_size _ _)⟩ : Fr (hideAll h [a]) h.objs.size (h2.push (kxs_mw "ValueError.__init__" a)) _)
    have NW : News (hideAll h [a]) h.objs.size (h2.push (kxs_mw "ValueError.__init__" a)) [(h2.objs.size, kxs_mw "ValueError.__init__" a), (a, excObj C t0 none .none)] := fun p hp => by
      rcases List.mem_cons.mp hp with e | hp
      · subst e
        refine ⟨Heap.get?_push_size _ rfl, Nat.ne_of_gt hLt, ?_⟩
        cases z : (hideAll h [a]).get? h2.objs.size with
        | none => rfl
        | some o => exact absurd (Heap.lt_size (of_hideAll _ z)) (Nat.lt_asymm hLt)
      · rw [List.mem_singleton.mp hp]
        exact ⟨hk3 _ _ ha2, haL, hideAll_none _ (List.mem_singleton.mpr rfl)⟩
    have X0 : K.In (hideAll h [a]) := fun b o e => hideAll_get _ (X b o e) (fun z => by
      rw [List.mem_singleton.mp z, haK] at e
      cases e)
    refine kxs_callWith1 NW (List.mem_cons_self ..) ?_ (he := hargs _)
    rw [hargs]
    refine Calls.spliced_cons (hmsg ?_ ?_)
    · intro p tk Q' z
      exact wpAny_Name (wpAny_loadName_local rfl rfl FR.ns (show _ = some u from rfl) z) (by decide)
    intro y t' tk
    refine Calls.spliced_nil ⟨kxs_at NW (List.mem_cons_self ..), ?_⟩
    refine kxs_call FR X0 NW PySem.F.excBase_ValueError T.init (List.mem_cons_self ..) (.tail (Nat.ne_of_gt (Heap.lt_size ha2)) (.head fun p hp => nomatch hp)) (by show 1 ≤ sizeLine; decide) (fun t' h4 F4 N4 _ => ?_)
    have ha4 : h4.get? a = some (excObj C t' none .none) := (N4 (a, excObj C t' none .none) (List.mem_cons_of_mem _ (List.mem_cons_of_mem _ (List.mem_cons_self ..)))).1
    have X4 : K.In h4 := fun b o e => F4.keep b o (X0 b o e)
    obtain ⟨nm, qn, N, bs, bm, sn, sub, ab, col, dd, k0, k1, k2, k3, k5, hC, hbm⟩ := T.oex.cls
    have hcl : clsIn K C = some { name := nm, bases := bs, mro := .ref C :: bm, ns := N, qualname := qn, hasDict := true, slotNames := sn, subclasses := sub, abstract := ab, collection := col, hasDel := false } := by
      unfold clsIn
      rw [hC] <;> rfl
    -- self.code = text
    refine wpAt_of_wpAny (wpAny_execs_cons (plainObj_wpAny_Assign_Attribute (wpAny_Constant_str (k := j2) (pos := q.p8) (wpAny_Name (wpAny_loadName_local rfl rfl F4.ns (show _ = some (Value.ref a) from rfl) ?_) (by decide))) rfl))
    refine set_plain X4 (ox := excObj C t' none .none) (od := none) ⟨ha4, rfl, rfl, trivial⟩ T.oex.sa ?_
    refine PySem.HandSPX.exc_osa X4 ha4 hcl (show PySem.HandSPX.refsVE (.ref C :: bm) = true from hbm) rfl T.code (fun h5 tk' dx hk5 dn dne hx hn => ?_)
    have hL4 : h.objs.size ≤ h4.objs.size := by
      obtain ⟨o, _, _, e, _⟩ := F4.ns
      exact Nat.le_of_lt (Heap.lt_size e)
    -- self.f = f
    have nsB : ∀ {h h' : Heap} {L : Addr} {m : Str → Option Value}, h.Ns L m → (∀ b o, b ≠ a → h.get? b = some o → h'.get? b = some o) → L ≠ a → h'.Ns L m := fun {h h' L m} ⟨o, es, ep, e, r⟩ k n => ⟨o, es, ep, k _ _ n e, r⟩
    have ns5 := nsB F4.ns hk5 haL.symm
    have X5 : K.In h5 := fun b o e => hk5 b o (fun z => by rw [z, haK] at e; cases e) (X4 b o e)
    have hw : ∀ {v : Value}, Within (fun y => if y = ("code" : Str) then some v else none) [("code" : Str)] := fun {v} y hy => by
      by_cases e : y = "code"
      · rw [e]; exact List.mem_singleton.mpr rfl
      · exact absurd (if_neg e) hy
    obtain ⟨oX, _, _, hoX, _, _⟩ := hn.count hw
    refine wpAny_execs_cons (plainObj_wpAny_Assign_Attribute (wpAny_Name (wpAny_loadName_local rfl rfl ns5 (show _ = some u from rfl) (wpAny_Name (wpAny_loadName_local rfl rfl ns5 (show _ = some (Value.ref a) from rfl) ?_) (by decide))) (by decide)) rfl)
    refine set_plain X5 (ox := { cls := .ref C, dict := some dx, data := .fields #[.ref t', .none, .none, .none, .bool false, .none] }) (od := some oX) ⟨hx, rfl, rfl, hoX⟩ T.oex.sa ?_
    refine PySem.OEX.osa_old X5 hx hn hw (by decide) hcl (show PySem.HandSPX.refsVE (.ref C :: bm) = true from hbm) rfl T.fld (fun h6 tk6 hk6 hn6 => ?_)
    refine wpAny_execs_nil (hq h6 t' tk6 dx _ (fun b o hb e => ?_) (Nat.le_trans hL4 dn) dne ?_ hn6)
    · exact hk6 b o (fun z => by
        have := Heap.lt_size e
        have hh := Nat.le_trans hL4 dn
        rw [z] at this
        exact absurd (Nat.lt_of_lt_of_le this hh) (Nat.lt_irrefl _)) (hk5 b o hb (F4.keep b o (hideAll_get _ e fun z => hb (List.mem_singleton.mp z))))
    · exact hk6 a _ dne.symm hx
end
end FvX


set_option maxHeartbeats 2000000
namespace FvX
open PySem PySem.Spec PyProof.Rows L2
/-! ### the messages -/
def MsgV (u : Value) : Prop := (∃ y t, u = .str y t ∧ (reprText y).length ≤ 100000) ∨ ∃ i t, u = .int i t ∧ i.natAbs.log2 < 1920
def MsgW (v : V) : Prop := (∃ y, v = .str y ∧ (reprText y).length ≤ 100000) ∨ ∃ i, v = .int i ∧ i.natAbs.log2 < 1920
theorem MsgW.val {v : V} {u : Value} (h : MsgW v) (r : RelV v u) : MsgV u := by
  rcases h with ⟨y, rfl, hy⟩ | ⟨i, rfl, hi⟩
  · obtain ⟨t, rfl⟩ := r
    exact .inl ⟨y, t, rfl, hy⟩
  · obtain ⟨t, rfl⟩ := r
    exact .inr ⟨i, t, rfl, hi⟩
theorem emp_len (x : Str) : (Str.empty ++ x).length = x.length := by
  rw [TL.len_tl, TL.tl_append, List.length_append, ← TL.len_tl x]
  show 0 + _ = _
  omega
theorem app_len (x y : Str) : (x ++ y).length = x.length + y.length := by
  rw [TL.len_tl, TL.tl_append, List.length_append, ← TL.len_tl, ← TL.len_tl]
theorem fmt_msg {prog : Program} {w : World} {A : Around} {env : Env} {E : Value → Shared → Prop} {Q : Value → Shared → Prop} {fl : Str} {u : Value} {h : Heap} {g : Array GenState} {d : Drawn} {t : Nat} {os : OsState} {p p2 : Pos} (hu : MsgV u)
    (hn : ∀ (p : Pos) (tk : Nat) (Q' : Value → Shared → Prop), Q' u ⟨h, g, d, tk, os⟩ → wpAny (model prog w) A (eval (.Name fl p) env) Q' E ⟨h, g, d, tk, os⟩)
    (hq : ∀ y t' tk, y.length ≤ 100000 → Q (.str y t') ⟨h, g, d, tk, os⟩) : wpAny (model prog w) A (eval (.FormattedValue (.Name fl p) 114 none p2) env) Q E ⟨h, g, d, t, os⟩ := by
  refine wpAny_FormattedValue_repr (hn p t _ ?_)
  have big : ∀ n : Nat, n ≤ 100000 → n ≤ sizeLine := fun n h => Nat.le_trans h (by decide)
  rcases hu with ⟨y, t', rfl, hy⟩ | ⟨i, t', rfl, hi⟩
  · exact pyReprObj_str (wpAny_formatField_str (hq _ _ _ hy) (hq _ _ _ hy) (big _ hy)) (big _ hy)
  · have e := int_text_length_le (k := 1920) (by decide) hi
    have hy : (Str.ofString (toString i)).length ≤ 100000 := by rw [PySem.ofString_length]; omega
    exact pyReprObj_int hi (wpAny_formatField_str (hq _ _ _ hy) (hq _ _ _ hy) (big _ hy))
theorem msg2 {pre fl : Str} {u : Value} {k : Nat} {p1 p2 p3 p4 : Pos} (hp : pre.length ≤ 1000) (hu : MsgV u) : MsgOk (.JoinedStr [.Constant (.str pre) k p1, .FormattedValue (.Name fl p2) 114 none p3] p4) fl u := by
  intro prog w A env E Q h g d t os hn hq
  have big : ∀ n : Nat, n ≤ 102000 → n ≤ sizeLine := fun n h => Nat.le_trans h (by decide)
  refine wpAny_JoinedStr ?_
  show wpAny _ _ (eval (.Constant (.str pre) k p1) env) (fun v s₁ => ∃ y t, v = .str y t ∧ (Str.empty ++ y).length ≤ sizeLine ∧ wpAny _ _ (eval (.FormattedValue (.Name fl p2) 114 none p3) env) (fun v s₁ => ∃ y' t, v = .str y' t ∧ ((Str.empty ++ y) ++ y').length ≤ sizeLine ∧ _) _ s₁) _ _
  refine wpAny_Constant_str ⟨_, _, rfl, by rw [emp_len]; exact big _ (by omega), fmt_msg hu hn fun y t' tk hy => ⟨_, _, rfl, ?_, ?_, hq _ _ _⟩⟩
  · rw [app_len, emp_len]; exact big _ (by omega)
  · rw [app_len, emp_len]; exact big _ (by omega)
theorem msg3 {pre post fl : Str} {u : Value} {k k2 : Nat} {p1 p2 p3 p4 p5 : Pos} (hp : pre.length ≤ 1000) (hp2 : post.length ≤ 1000) (hu : MsgV u) : MsgOk (.JoinedStr [.Constant (.str pre) k p1, .FormattedValue (.Name fl p2) 114 none p3, .Constant (.str post) k2 p5] p4) fl u := by
  intro prog w A env E Q h g d t os hn hq
  have big : ∀ n : Nat, n ≤ 103000 → n ≤ sizeLine := fun n h => Nat.le_trans h (by decide)
  refine wpAny_JoinedStr ?_
  show wpAny _ _ (eval (.Constant (.str pre) k p1) env) (fun v s₁ => ∃ y t, v = .str y t ∧ (Str.empty ++ y).length ≤ sizeLine ∧ wpAny _ _ (eval (.FormattedValue (.Name fl p2) 114 none p3) env) (fun v s₁ => ∃ y' t, v = .str y' t ∧ ((Str.empty ++ y) ++ y').length ≤ sizeLine ∧ wpAny _ _ (eval (.Constant (.str post) k2 p5) env) (fun v s₁ => ∃ y'' t, v = .str y'' t ∧ (((Str.empty ++ y) ++ y') ++ y'').length ≤ sizeLine ∧ _) _ s₁) _ s₁) _ _
  refine wpAny_Constant_str ⟨_, _, rfl, by rw [emp_len]; exact big _ (by omega), fmt_msg hu hn fun y t' tk hy => ⟨_, _, rfl, ?_, wpAny_Constant_str ⟨_, _, rfl, ?_, ?_, hq _ _ _⟩⟩⟩
  · rw [app_len, emp_len]; exact big _ (by omega)
  · rw [app_len, app_len, emp_len]; exact big _ (by omega)
  · rw [app_len, app_len, emp_len]; exact big _ (by omega)
section
variable {X : Cx} {C f : Addr} {qual cod fl x : Str} {q : ErrPos1} {me : Expr} {j2 k : Nat} {p pos : Pos} {e : Expr} {ta : TA}
/-- x(e): the new error, its dict at d -/
def tErr1 (C : Addr) (cod fl : Str) (ta : TA) : L2.St → Hp → XK → Prop := fun σ H Q => ta σ H fun vs H1 => ∃ v, vs = [v] ∧ MsgW v ∧ ∀ d, H1 d = none → Q (.ref C) (some d) (upd H1 d (.xd [(fl, v), ("code", .str cod)]))
theorem pmk_err1 (hfl : fl ∈ flds) (T : ErrC1 X.prog.main.file X.K C f qual q me cod fl j2) (hline : LineOk1 q me) (hargs : ArgsOk me) (hme : ∀ u, MsgV u → MsgOk me fl u) (htop : (X.prog.main.scope.names.lookup ("super" : Str)).isSome = false) (hms : X.mg "super" = none) (hr : Room (k + 1) X.A) (hg : Gl X x) (hm : X.mg x = some (.ref C)) (ha : PA X [e] ta)
    (hdb : (x == ("__debug__" : Str)) = false := by decide) (he : starEach [e] X.env = (false, eval e X.env) :: starEach [] X.env := by rfl) (hpl : (backTo pos (starEach [] X.env)).any (·.1) = false := by rfl) : PMk X (.Call (.Name x p) [e] [] pos) (tErr1 C cod fl ta) := by
  intro pins s σ H Q I h
  obtain ⟨nm, qn, N, bs, bm, sn, sub, ab, col, dd, k0, k1, k2, k3, k5, hC, hbm⟩ := T.oex.cls
  refine wpAny_Call_Name_kw (ld_glob I hg hm (PySem.W.callWith_K (h₀ := X.base) I.ok.mod.kin T.oex.kC (thn (ha.run pos pins s σ H _ I h) fun us s1 z => ?_) he hpl) hdb)
  obtain ⟨vs, H1, I1, r, v, rfl, hv, h⟩ := z
  obtain ⟨u, rfl, ru⟩ := vals1 r
  clear I
  rename Inv X pins σ H1 s1 => I
  refine ⟨I.kIn, ?_⟩
  show wpAny _ _ (call (.ref C) [u]) _ _ _
  obtain ⟨hp, g, dr, tk, os⟩ := s1
  have nK : X.K.lookup (hp.objs.size + 1) = none := by
    cases e : X.K.lookup (hp.objs.size + 1) with
    | none => rfl
    | some o => exact absurd (Nat.lt_of_succ_lt (Heap.lt_size (I.kIn _ _ e))) (Nat.lt_irrefl _)
  have fresh : H1 (hp.objs.size + 1) = none := I.hok.fresh (Nat.le_succ _)
  have kk : ∀ b o, hp.get? b = some o → ((hp.push (PySem.W.kdv_tup [u])).push (PySem.HandSPX.excO C hp.objs.size)).get? b = some o := fun b o e => Heap.get?_push_of_some _ (Heap.get?_push_of_some _ e)
  have at1 : ((hp.push (PySem.W.kdv_tup [u])).push (PySem.HandSPX.excO C hp.objs.size)).get? (hp.objs.size + 1) = some (PySem.HandSPX.excO C hp.objs.size) := by heap_get
  have I2 := I.laid (t' := tk) (a := hp.objs.size + 1) (o := exo (hp.objs.size + 1) C none) (h' := (hp.push (PySem.W.kdv_tup [u])).push (PySem.HandSPX.excO C hp.objs.size)) kk (Nat.le_succ _) (exo_ok at1)
  obtain ⟨mb, hb, hbb⟩ := I.mod.blt
  refine wpAny_call (PySem.HandSPX.call_own PySem.F.excBase_ValueError (fun Y => PySem.HandSPX.refsVE_contains Y bm hbm) (I.kIn _ _ hC) (PySem.W.looks_findIn I.kIn T.find) (fun self => PySem.W.bind_fn I.kIn self T.typ) (by show 1 ≤ sizeLine; decide) ?_)
  refine init_run1 (mg := X.mg) (mb := mb) (t0 := hp.objs.size) hfl T hline hargs (hme u (hv.val ru)) htop (fun b o e => kk b o (I.kIn b o e)) ((I.mod.glob.keeps I.bk).keeps kk) hms ((hb.keeps I.bk).keeps kk) ((hbb _ (by decide)).trans (by decide +kernel)) ?lim (hr.make C [u] []).depth at1 nK (fun h' t1 tk' dx tk0 hk dn dne hx hn => ?_)
  case lim => exact (I.mod.nolimit.keeps I.bk).keeps kk
  have nd : H1 dx = none := I.hok.fresh (Nat.le_trans (by simp; omega) dn)
  have na : ∀ {b : Addr} {u : Option HO}, upd H1 (hp.objs.size + 1) (exo (hp.objs.size + 1) C none) b = none → b ≠ hp.objs.size + 1 := fun {b u} e z => by
    rw [z, upd_same] at e
    cases e
  have lt2 : ∀ {b : Addr} {o : Obj}, ((hp.push (PySem.W.kdv_tup [u])).push (PySem.HandSPX.excO C hp.objs.size)).get? b = some o → b ≠ dx := fun {b o} e => Nat.ne_of_lt (Nat.lt_of_lt_of_le (Heap.lt_size e) dn)
  have same : ∀ {b : Addr} {o : HO}, upd H1 (hp.objs.size + 1) (exo (hp.objs.size + 1) C none) b = some o → o ≠ exo (hp.objs.size + 1) C none → upd (upd H1 dx (exd dx [(fl, v), ("code", .str cod)])) (hp.objs.size + 1) (exo (hp.objs.size + 1) C (some dx)) b = some o := fun {b o} e ne => by
    have b1 : b ≠ hp.objs.size + 1 := fun z => by
      rw [z, upd_same] at e
      exact ne (Option.some.inj e).symm
    rw [upd_ne b1] at e
    rw [upd_ne b1, upd_ne (ne_of_none e nd)]
    exact e
  have un : Un (frs X.stack) [] (upd H1 (hp.objs.size + 1) (exo (hp.objs.size + 1) C none)) (upd (upd H1 dx (exd dx [(fl, v), ("code", .str cod)])) (hp.objs.size + 1) (exo (hp.objs.size + 1) C (some dx))) ((hp.push (PySem.W.kdv_tup [u])).push (PySem.HandSPX.excO C hp.objs.size)) h' := by
    refine ⟨fun b o e n _ _ => hk b o (na (u := none) n) e, fun b o e n _ _ => ⟨o.slots, hk b o (na (u := none) n) e⟩, fun b o e n _ => ?_, fun b o e _ => ?_, fun b xs e => same e fun z => exo_tup z.symm, fun b o u e => same e fun z => exo_frz z.symm, fun b ps e => ⟨#[], ?_⟩⟩
    · have b1 := na (u := none) n
      rw [upd_ne b1, upd_ne (lt2 e)]
      rw [upd_ne b1] at n
      exact n
    · by_cases b1 : b = hp.objs.size + 1
      · exact ⟨_, by rw [b1]; exact hx⟩
      · exact ⟨o, hk b o b1 e⟩
    · rw [Array.append_empty]
      exact same e fun z => exo_tbl z.symm
  have hok : HOk X.prog X.w (upd (upd H1 dx (exd dx [(fl, v), ("code", .str cod)])) (hp.objs.size + 1) (exo (hp.objs.size + 1) C (some dx))) h' := fun b o e => by
    by_cases b1 : b = hp.objs.size + 1
    · rw [b1, upd_same] at e
      cases e
      rw [b1]
      exact exo_ok hx
    · rw [upd_ne b1] at e
      by_cases b2 : b = dx
      · rw [b2, upd_same] at e
        cases e
        rw [b2]
        exact exd_ok hn (relO_put ru (relO_put (fs := []) ⟨_, rfl⟩ fun g => True.intro))
      · rw [upd_ne b2] at e
        have e2 : upd H1 (hp.objs.size + 1) (exo (hp.objs.size + 1) C none) b = some o := by rw [upd_ne b1]; exact e
        refine (I2.hok b o e2).stay (fun c v hc z => hk c v (fun c1 => ?_) z) (fun c hc => same hc fun z => exo_own z.symm) (fun c xs hc => same hc fun z => exo_tup z.symm)
        rcases hc with hc | hc
        · exact b1 (hc.symm.trans c1)
        · rw [c1, upd_same] at hc
          exact exo_own (Option.some.inj hc)
  refine ⟨rfl, mk_end (a := hp.objs.size + 1) (C := C) (d := dx) (fs := [(fl, v), ("code", .str cod)]) (raises_own T.oex.exC T.oex.tyC) I (Nat.le_succ _) kk un hok rfl I.bare upd_same ?_ nd ?_⟩
  · rw [upd_ne dne, upd_same]
  · have e : upd (del (upd (upd H1 dx (exd dx [(fl, v), ("code", .str cod)])) (hp.objs.size + 1) (exo (hp.objs.size + 1) C (some dx))) (hp.objs.size + 1)) dx (.xd [(fl, v), ("code", .str cod)]) = upd H1 dx (.xd [(fl, v), ("code", .str cod)]) := by
      funext b
      by_cases b2 : b = dx
      · rw [b2, upd_same, upd_same]
      · rw [upd_ne b2, upd_ne b2]
        by_cases b1 : b = hp.objs.size + 1
        · rw [b1, del_same, fresh]
        · rw [del_ne b1, upd_ne b1, upd_ne b2]
    rw [e]
    exact h dx nd
end
end FvX


set_option maxHeartbeats 2000000
namespace FvX
open PySem PySem.Spec PyProof.Rows L2 StX
/-! ### defs with **more, called with keywords -/
/-- s2 is s with one dict more, at d, and further tokens -/
structure LaidD (s : Shared) (d : Addr) (es : List DictEntry) (s2 : Shared) : Prop where
  kp : ∀ b o, s.heap.get? b = some o → s2.heap.get? b = some o
  dd : ∃ n, s2.heap.get? d = some (PySem.W.dictOf es n)
  os : s2.os = s.os
  gn : s2.gens = s.gens
  sz : s.heap.objs.size ≤ s2.heap.objs.size
/-- an entry under a text that no other entry has -/
def Apart (es : List DictEntry) (y : Str) : Prop := ∀ e ∈ es, e.key.isStr y = false ∧ e.refKey = false
theorem any_no {es : List DictEntry} {p : DictEntry → Bool} (h : ∀ e ∈ es, p e = false) : es.any p = false := by
  rw [List.any_eq_false]
  exact fun e he => by rw [h e he]; exact Bool.false_ne_true
theorem set_one {P : Program} {w : World} {A : Around} {Ex : Value → Shared → Prop} {s s1 : Shared} {d : Addr} {es : List DictEntry} {y : Str} {u : Value} {Q : Unit → Shared → Prop} (hn : s.heap.get? d = none) (L : LaidD s d es s1) (ha : Apart es y)
    (hq : ∀ s2, s2.toks = s1.toks + 1 → LaidD s d (es ++ [⟨PyData.keyHash w.params y, .str y s1.toks, u⟩]) s2 → Q () s2) : wpAny (model P w) A (nsSet d y u) Q Ex s1 := by
  obtain ⟨n, hd⟩ := L.dd
  have no1 := any_no fun e he => (ha e he).1
  have no2 := any_no fun e he => (ha e he).2
  have hput : Obj.putName y (PyData.keyHash w.params y) (.str y s1.toks) u (PySem.W.dictOf es n) = PySem.W.dictOf (es ++ [⟨PyData.keyHash w.params y, .str y s1.toks, u⟩]) (PySem.W.putN y es n) := by
    rw [PySem.W.putName_dict, PySem.W.putL_new fun e he => (ha e he).1]
  have hno : aRefKeyMayBeTheName y es.toArray = false := by
    rw [PySem.aRefKeyMayBeTheName_at, ← Array.any_toList, ← Array.any_toList]
    show (!es.any _ && es.any _) = false
    rw [no2]
    exact Bool.and_false _
  unfold nsSet
  refine wpAny_bind (wpAny_bind (wpAny_askSetting (wpAny_pure (wpAny_bind (wpAny_mkText (wpAny_bind (wpAny_loadPart hd ?_)))))))
  dsimp only
  rw [hno]
  rw [if_neg Bool.false_ne_true]
  refine wpAny_updatePart hd (hq _ rfl ⟨fun b o e => ?_, ⟨PySem.W.putN y es n, ?_⟩, L.os, L.gn, ?_⟩)
  · refine (Heap.get?_update_ne _ _ _ _ fun z => ?_).trans (L.kp b o e)
    rw [z, hn] at e
    cases e
  · rw [← hput]
    have hfr : (Obj.putName y (PyData.keyHash w.params y) (.str y s1.toks) u (PySem.W.dictOf es n)).isFreed = false := by
      rw [hput]
      rfl
    exact Heap.get?_update_self _ hd hfr
  · show _ ≤ (s1.heap.update d _).objs.size
    rw [Heap.size_update]
    exact L.sz
theorem set_all {P : Program} {w : World} {A : Around} {Ex : Value → Shared → Prop} {s : Shared} {d : Addr} {Q : PUnit → Shared → Prop} (hn : s.heap.get? d = none) :
    ∀ (ex : List (Str × Value)) (s1 : Shared) (es : List DictEntry), LaidD s d es s1 → (∀ x ∈ ex, Apart es x.1) → (ex.map (·.1)).Nodup → (∀ s2, LaidD s d (es ++ PySem.W.kwEs w.params s1.toks ex) s2 → Q ⟨⟩ s2) →
      wpAny (model P w) A (forIn ex PUnit.unit fun x _ => nsSet d x.1 x.2 >>= fun _ => pure (.yield PUnit.unit)) Q Ex s1
  | [], s1, es, L, _, _, hq => by
    rw [List.forIn_nil]
    exact wpAny_pure (hq s1 (by show LaidD s d (es ++ []) s1; rw [List.append_nil]; exact L))
  | x :: ex, s1, es, L, ha, nd, hq => by
    obtain ⟨nd1, nd2⟩ := List.nodup_cons.mp (show (x.1 :: ex.map (·.1)).Nodup from nd)
    rw [List.forIn_cons]
    refine wpAny_bind (wpAny_bind (set_one hn L (ha x (List.mem_cons_self ..)) fun s2 ht L2 => wpAny_pure ?_))
    refine set_all hn ex s2 _ L2 (fun y hy e he => ?_) nd2 fun s3 L3 => hq s3 ?_
    · rcases List.mem_append.mp he with he | he
      · exact ha y (List.mem_cons_of_mem _ hy) e he
      · obtain rfl := List.mem_singleton.mp he
        refine ⟨beq_eq_false_iff_ne.mpr fun z => nd1 ?_, rfl⟩
        rw [z]
        exact List.mem_map_of_mem hy
    · rw [ht, List.append_assoc] at L3
      exact L3
/-- the pairs as the rules tell them -/
def kwKV (ks : List Str) (zs : List V) : List (Key × V) := (ks.zip zs).map fun x => (.inr x.1, x.2)
theorem kw_rel : ∀ {ks : List Str} {zs : List V} {ws : List Value}, Vals zs ws → KV (kwKV ks zs) ((ks.zip ws).map fun x => ((Sum.inr x.1 : Key), x.2))
  | [], _, _, _ => .nil
  | _ :: _, _, _, .nil => .nil
  | k :: ks, _, _, .cons a r => .cons ⟨rfl, a⟩ (kw_rel (ks := ks) r)
theorem kw_pairs {P : Program} {w : World} : ∀ (ex : List (Str × Value)) (t : Tok), Pairs (mixKind P w) (PySem.W.kwEs w.params t ex) (ex.map fun x => ((Sum.inr x.1 : Key), x.2))
  | [], _ => .nil
  | x :: ex, t => .cons (mixKind_str P w x.1 t) rfl (kw_pairs ex (t + 1))
theorem kw_dict {P : Program} {w : World} {s s2 : Shared} {d : Addr} {ex : List (Str × Value)} {t : Tok} (nd : (ex.map (·.1)).Nodup) (L : LaidD s d (PySem.W.kwEs w.params t ex) s2) :
    s2.heap.DictOf (mixKind P w) d (ex.map fun x => ((Sum.inr x.1 : Key), x.2)) := by
  obtain ⟨n, hd⟩ := L.dd
  refine ⟨_, _, n, hd, ⟨rfl, rfl, rfl⟩, rfl, fun e he => ?_, kw_pairs ex t, ?_⟩
  · obtain ⟨k, u, hk, hh⟩ := PySem.W.kwEs_key ex t e (List.mem_toArray.mp he)
    exact ⟨.inr k, by rw [hk]; exact mixKind_str P w k u, hh⟩
  · rw [List.map_map]
    have e : ((fun x : Key × Value => x.1) ∘ fun x : Str × Value => ((Sum.inr x.1 : Key), x.2)) = Sum.inr ∘ fun x : Str × Value => x.1 := rfl
    rw [e, ← List.map_map]
    exact nd.map _ fun a b hab z => hab (Sum.inr.inj z)
section
variable {P : Program} {w : World} {K : PySem.W.Frag} {mg : Str → Option Value} {base : Heap} {A : Around} {outer : List Env} {s s2 : Shared} {H : Hp} {u : HO} {es : List DictEntry}
theorem env0_laidD (e0 : Env0 P w K mg base A outer s H) (L : LaidD s s.heap.objs.size es s2) (new : ObjOk P w (upd H s.heap.objs.size u) s2.heap s.heap.objs.size u) : Env0 P w K mg base A outer s2 (upd H s.heap.objs.size u) := by
  refine ⟨e0.frames, e0.mod, fun b x e => ⟨L.kp b x (e0.bs b x e).1, ?_⟩, Nat.le_trans e0.bsz L.sz, Heap.FunFrames.of_keeps (fun b x e _ => ⟨x, L.kp b x e, rfl⟩) e0.funs, fun b hb => ?_, e0.hok.laid L.kp (Nat.le_refl _) new, ?_⟩
  · rw [upd_ne (Nat.ne_of_lt (Heap.lt_size (e0.bs b x e).1))]
    exact (e0.bs b x e).2
  · obtain ⟨_, x, hx, _⟩ := e0.funs.mem hb
    rw [upd_ne (Nat.ne_of_lt (Heap.lt_size hx))]
    exact e0.frf b hb
  · rw [L.gn]
    exact e0.bare
end
/-- a def with n parameters and **more, called with keywords named ks (none of them a parameter's name) -/
def FnW (P : Program) (w : World) (K : PySem.W.Frag) (mg : Str → Option Value) (base : Heap) (CX : CXT) (k : Nat) (f : Addr) (n : Nat) (ks : List Str) (sp : Sp) : Prop :=
  ∀ (A : Around) (outer : List Env) (s : Shared) (H : Hp) (us ws : List Value) (vs zs : List V) (Q : VK) (E : XK), Room k A → Env0 P w K mg base A outer s H → Vals vs us → Vals zs ws → vs.length = n → zs.length = ks.length →
    (∀ d, H d = none → sp (vs ++ [V.ref d]) (upd H d (.dK (kwKV ks zs))) Q E) → codeAny (model P w) A (.call (.ref f) ⟨us, ks.zip ws⟩) (CR CX outer P w H s Q E) s
section
variable {CX : CXT} {P : Program} {w : World} {K : PySem.W.Frag} {mg : Str → Option Value} {base : Heap} {k : Nat} {f : Addr} {name qual pd : Str} {params : Arguments} {body : List Stmt} {scope : Scope} {dV kV doc pm cdv ct oc : Value} {an od : Option Addr}
  {osl : Array (Option Value)} {N ps ks : List Str} {sp : Sp}
theorem fn_kw (lk : K.lookup f = some ⟨oc, od, .func (PySem.W.fnOf name qual params body scope dV kV doc pm an cdv ct), osl⟩) (hcd : PySem.W.codeIn K cdv qual = true) (S : FnScope N (ps ++ [pd]) scope) (hCX : CXUp CX) (nd : ks.Nodup) (hs : ks.length ≤ 100)
    (hb : ∀ us ws : List Value, us.length = ps.length → ws.length = ks.length → bindArgs (PySem.W.fnOf name qual params body scope dV kV doc pm an cdv ct) ⟨us, ks.zip ws⟩ =
      ((alloc ({ cls := .type "dict", data := .dict #[] } : Obj) : Sem Addr) >>= fun d => forIn (ks.zip ws) PUnit.unit (fun x _ => nsSet d x.1 x.2 >>= fun _ => pure (.yield PUnit.unit)) >>= fun _ => pure (ps.zip us ++ [(pd, Value.ref d)])))
    (hbody : ∀ (A : Around) (outer : List Env) (s : Shared) (H : Hp) (vs : List V) (Q : VK) (E : XK), Room k (A.deeper (envOfC qual scope s.heap.objs.size f cdv)) → sp vs H Q E →
      ∃ t, PSs (cxOf CX P w K mg base N qual scope f cdv A outer s H E) body t ∧ t { nx := fun _ H' => Q .non H', rt := Q } (start N vs) H) : FnW P w K mg base CX (k + 1) f ps.length ks sp := by
  intro A outer s H us ws vs zs Q E hr e0 r rz hl hz hsp
  have hn : H s.heap.objs.size = none := e0.hok.fresh (Nat.le_refl _)
  have hg : s.heap.get? s.heap.objs.size = none := by
    cases q : s.heap.get? s.heap.objs.size with
    | none => rfl
    | some o => exact absurd (Heap.lt_size q) (Nat.lt_irrefl _)
  have lu : us.length = ps.length := r.length.symm.trans hl
  have lw : ws.length = ks.length := rz.length.symm.trans hz
  have hnd : ((ks.zip ws).map (·.1)).Nodup := by
    rw [List.map_fst_zip (Nat.le_of_eq lw.symm)]
    exact nd
  refine run_bnd lk hcd S hr e0 (G := fun xs H2 => ∃ d, H d = none ∧ xs = vs ++ [V.ref d] ∧ H2 = upd H d (.dK (kwKV ks zs))) (fun A' Ex Q' h => ?_) fun s2 H2 xs ⟨d, hd, ex, eH⟩ hr' => ?_
  · rw [hb us ws lu lw]
    refine wpAny_bind (wpAny_alloc (wpAny_bind ?_))
    have L0 : LaidD s s.heap.objs.size [] { s with heap := s.heap.push ({ cls := .type "dict", data := .dict #[] } : Obj) } :=
      ⟨fun b o e => Heap.get?_push_of_some _ e, ⟨0, Heap.get?_push_size _ rfl⟩, rfl, rfl, by show _ ≤ (s.heap.push _).objs.size; rw [Heap.size_push]; exact Nat.le_succ _⟩
    refine set_all hg (ks.zip ws) _ [] L0 (fun x _ e he => nomatch he) hnd fun s2 L => wpAny_pure ?_
    have lk15 : (kwKV ks zs).length ≤ sizeLine := by
      unfold kwKV
      rw [List.length_map, List.length_zip, sizeLine_eq]
      omega
    have new : ObjOk P w (upd H s.heap.objs.size (.dK (kwKV ks zs))) s2.heap s.heap.objs.size (.dK (kwKV ks zs)) :=
      ⟨lk15, beq_eq_false_iff_ne.mpr (Ne.symm (Nat.ne_of_lt (env0_big e0))), _, kw_rel rz, kw_dict hnd L⟩
    have un : Un (frs outer) [] H (upd H s.heap.objs.size (.dK (kwKV ks zs))) s.heap s2.heap := Un.laid L.kp (Nat.le_refl _) hn
    have z := h s2 _ (vs ++ [V.ref s.heap.objs.size]) (us ++ [Value.ref s.heap.objs.size]) (env0_laidD e0 L new) un L.os (fun e s' => hCX outer s H _ _ E e s' un L.kp L.os) (r.append (.cons rfl .nil))
      (by rw [List.length_append, List.length_append, hl] <;> rfl) ⟨_, hn, rfl, rfl⟩
    rw [List.zip_append lu.symm] at z
    exact z
  · subst ex eH
    exact hbody A outer s2 _ _ Q E hr' (hsp d hd)
end
/-! ### the call -/
def tCallW (n : Nat) (ks : List Str) (sp : Sp) (E : XK) (t tk : TA) : TE := fun σ H Q => t σ H fun vs H1 => tk σ H1 fun zs H2 => vs.length = n ∧ zs.length = ks.length ∧ ∀ d, H2 d = none → sp (vs ++ [V.ref d]) (upd H2 d (.dK (kwKV ks zs))) Q E
section
variable {X : Cx} {CX : CXT} {k n : Nat} {f : Addr} {ks : List Str} {sp : Sp} {E : XK} {x : Str} {p pos : Pos} {e : Expr} {es : List Expr} {kws : List Keyword} {t tk : TA}
theorem pe_callW (F : FnW X.prog X.w X.K X.mg X.base CX k f n ks sp) (hr : Room k X.A) (hg : Gl X x) (hm : X.mg x = some (.ref f)) (hk : PySem.W.keepIn X.K (.ref f) = true) (hx : Passes CX X E) (ha : PA X (e :: es) t) (hkw : PK X kws tk)
    (hall : (backToKw pos (keywordEach kws X.env)).all (·.1.isSome) = true := by rfl) (hks : (backToKw pos (keywordEach kws X.env)).filterMap (·.1) = ks := by rfl) (hdb : (x == ("__debug__" : Str)) = false := by decide)
    (he : starEach (e :: es) X.env = (false, eval e X.env) :: starEach es X.env := by rfl) (hpl : ((backTo pos (starEach (e :: es) X.env)).any (·.1) || (backToKw pos (keywordEach kws X.env)).any (·.1.isNone)) = false := by rfl) :
    PE X (.Call (.Name x p) (e :: es) kws pos) (tCallW n ks sp E t tk) := by
  refine ⟨fun pins s σ H Q I h => wpAny_Call_Name_kw (ld_glob I hg hm ?_ hdb)⟩
  refine PySem.W.callWith_KW (h₀ := X.base) I.ok.mod.kin hk hall (thn (ha.run pos pins s σ H _ I h) fun us s1 ⟨vs, H1, I1, r, q⟩ => ?_) hpl he
  refine thn (hkw.run pos pins s1 σ H1 _ I1 q) fun ws s2 ⟨zs, H2, I2, rz, l1, l2, q2⟩ => ⟨I2.kIn, ?_⟩
  rw [hks]
  refine wpAny_call (codeAny_mono (F X.A X.stack s2 H2 us ws vs zs Q E hr I2.env0 r rz l1 l2 q2) fun r s' hq => ?_)
  cases r with
  | error e => exact hx pins σ H2 s2 e s' I2 hq
  | ok fl =>
    cases fl with
    | ret u => exact I2.after hq
    | next => exact hq.elim
    | brk => exact hq.elim
    | cont => exact hq.elim
end
end FvX


namespace Fv
open PySem PySem.Spec PyProof.Rows L2
def topS (i : Nat) : Stmt := PySem.Challenge.pw_fivefault_k04_turned_and_substituted_ter.main.body.getD i (.Pass ⟨0, 0, 0, 0⟩)
-- top 25  slots: 0:_law_source_here 1:_law_many 2:_law_cell 3:_law_digit 4:_law_mixed_here
abbrev s_law_take : Stmt := topS 25
abbrev N_law_take : List Str := ["_law_source_here", "_law_many", "_law_cell", "_law_digit", "_law_mixed_here"]
theorem sc_law_take : FnScope N_law_take ["_law_source_here", "_law_many"] (defScope s_law_take) := ⟨rfl, rfl, rfl, by decide +kernel, rfl, by decide +kernel, by decide +kernel⟩

theorem at_int {ns : List Int} {i : Int} (h0 : 0 ≤ i) (h : i < ((ns.map V.int).length : Nat)) : ∃ v : Int, atI (ns.map V.int) i = some (.int v) := by
  rw [List.length_map] at h
  have hk : i.toNat < ns.length := by omega
  have q : atI (ns.map V.int) ((i.toNat : Nat) : Int) = some (.int ns[i.toNat]) := atI_nat (by rw [List.getElem?_map, List.getElem?_eq_getElem hk] <;> rfl)
  rw [show ((i.toNat : Nat) : Int) = i by omega] at q
  exact ⟨_, q⟩
def zz (st c : Int) : Int := (((st * st) % 2147483629 + 40507 * (c + 1)) * 48271 + st + 17) % 2147483629
theorem pos1 : (0 : Int) < 2147483587 := by decide
theorem pos2 : (0 : Int) < 2147483629 := by decide
theorem pos3 : (0 : Int) < 8191 := by decide
section
variable {P : Program} {w : World} {K : PySem.W.Frag} {mg : Str → Option Value} {base : Heap}
theorem ok_take {f : Addr} {fd : FuncData} {k : Nat} (F : Fun K "_law_take" "_law_take" s_law_take f fd) (m_len : mg "len" = none) (m_int : mg "int" = none) :
    FnOk P w K mg base CX0 (k + 1) f fd ["_law_source_here", "_law_many"] spTake := by
  refine F.ok sc_law_take (fun vs H Q E h => ?_) (fun cdv A outer s H vs Q E hr h => ?_)
  · obtain ⟨a, L, ns, n, rfl, _⟩ := h
    rfl
  · obtain ⟨a, L, ns, n, rfl, ⟨i, p, st, c, hA, hL, h0, h1, h2⟩, n1, n2, q⟩ := h
    have aL : L ≠ a := fun e => by
      rw [e, hA] at hL
      cases ns with
      | nil => cases hL
      | cons x r => cases hL
    refine ⟨_, (C8.pss_cut (ps_if (PW.pt (pw_and (pt_cmpR op_eq (pe_ix ix_list (pv 0) pe_int (fun _ _ => rfl)) pe_int (nomark _)) (pw_and1 (pt_cmpR op_lt (pe_ix ix_list (pv 0) pe_int (fun _ _ => rfl)) (pe_callB call_len_seq (by rfl) m_len (by decide +kernel) (pa_cons (pe_ix ix_list (pv 0) pe_int (fun _ _ => rfl)) pa_nil)) (nomark _)))))
        (pss_cons (ps_set (i := 2) sc_law_take.nd rfl (by first | exact .inl rfl | exact .inr rfl) (pe_ix ix_list (pe_ix ix_list (pv 0) pe_int (fun _ _ => rfl)) (pe_ix ix_list (pv 0) pe_int (fun _ _ => rfl)) (fun _ _ => rfl)))
        (pss_cons (ps_asg (pe_op op_add (pe_ix ix_list (pv 0) pe_int (fun _ _ => rfl)) pe_int) (pg_sub (pv 0) pe_int set_list))
        (pss_one (ps_if (pt_cmpR op_ge (pv 2) (pe_op op_pow pe_int pe_int) (nomark _))
          (pss_one (ps_asg (pv 2) (pg_sub (pv 0) pe_int set_list)))
          (pss_one (ps_asg (pe_op op_mod (pe_callTy call_int1 (by rfl) m_int (by decide +kernel) (pa_cons (pe_op op_add (pe_op op_add (pe_op op_mul (pe_ix ix_list (pv 0) pe_int (fun _ _ => rfl)) pe_int) (pe_op op_mul (pe_op op_mod (pe_callTy call_int1 (by rfl) m_int (by decide +kernel) (pa_cons (pv 2) pa_nil)) pe_int) pe_int)) pe_int) pa_nil)) pe_int) (pg_sub (pv 0) pe_int set_list)))))))
        pss_nil)
      (pss_cons (ps_if (pt_cmpR op_gt (pe_ix ix_list (pv 0) pe_int (fun _ _ => rfl)) pe_int (nomark _))
        (pss_cons (ps_set (i := 3) sc_law_take.nd rfl (by first | exact .inl rfl | exact .inr rfl) (pe_op op_mod (pe_callTy call_int1 (by rfl) m_int (by decide +kernel) (pa_cons (pe_ix ix_list (pv 0) pe_int (fun _ _ => rfl)) pa_nil)) (pv 1)))
        (pss_cons (ps_asg (pe_op op_fdiv (pe_ix ix_list (pv 0) pe_int (fun _ _ => rfl)) (pv 1)) (pg_sub (pv 0) pe_int set_list))
        (pss_one (ps_ret (pv 3)))))
        pss_nil)
      (pss_cons (ps_asg (pe_op op_add (pe_ix ix_list (pv 0) pe_int (fun _ _ => rfl)) pe_int) (pg_sub (pv 0) pe_int set_list))
      (pss_cons (ps_set (i := 4) sc_law_take.nd rfl (by first | exact .inl rfl | exact .inr rfl) (pe_op op_add (pe_op op_mod (pe_callTy call_int1 (by rfl) m_int (by decide +kernel) (pa_cons (pe_op op_mul (pe_ix ix_list (pv 0) pe_int (fun _ _ => rfl)) (pe_ix ix_list (pv 0) pe_int (fun _ _ => rfl))) pa_nil)) pe_int) (pe_op op_mul pe_int (pe_ix ix_list (pv 0) pe_int (fun _ _ => rfl)))))
      (pss_cons (ps_asg (pe_op op_mod (pe_callTy call_int1 (by rfl) m_int (by decide +kernel) (pa_cons (pe_op op_add (pe_op op_add (pe_op op_mul (pv 4) pe_int) (pe_ix ix_list (pv 0) pe_int (fun _ _ => rfl))) pe_int) pa_nil)) pe_int) (pg_sub (pv 0) pe_int set_list))
      (pss_one (ps_ret (pe_op op_mod (pe_callTy call_int1 (by rfl) m_int (by decide +kernel) (pa_cons (pe_op op_add (pe_op op_fdiv (pe_ix ix_list (pv 0) pe_int (fun _ _ => rfl)) pe_int) (pe_op op_mul (pe_op op_mod (pe_callTy call_int1 (by rfl) m_int (by decide +kernel) (pa_cons (pe_ix ix_list (pv 0) pe_int (fun _ _ => rfl)) pa_nil)) pe_int) pe_int)) pa_nil)) (pv 1))))))))), ?_⟩
    refine ⟨fun σ' H' => ∃ (y2 : Option V) (i p st c : Int), σ' = [some (.ref a), some (.int n), y2, none, none] ∧ H' a = some (.lst [.ref L, .int i, .int p, .int st, .int c]) ∧ H' L = some (.lst (ns.map V.int)) ∧ 0 ≤ i ∧ 0 ≤ st ∧ st < 2147483629 ∧ (∀ b, b ≠ a → H' b = H b), ?_, ?_⟩
    · -- the first if
      refine ⟨_, rfl, a, _, _, _, rfl, rfl, SqL.of hA, rfl, rfl, _, rfl, ?_⟩
      refine ite2 (fun c0 => ?_) (fun c0 => ?_)
      · refine ⟨_, rfl, a, _, _, _, rfl, rfl, SqL.of hA, rfl, _, rfl, a, _, _, _, rfl, rfl, SqL.of hA, rfl, L, _, rfl, .inl (SqL.of hL), _, _, rfl, rfl, _, rfl, ?_⟩
        refine ite2 (fun c1 => ?_) (fun c1 => ?_)
        · obtain ⟨v, hv⟩ := at_int h0 (of_decide_eq_true c1)
          refine ⟨_, rfl, a, _, _, _, rfl, rfl, SqL.of hA, rfl, _, rfl, a, _, _, _, rfl, rfl, SqL.of hA, rfl, L, _, _, _, rfl, rfl, SqL.of hL, hv, ?_⟩
          refine ⟨_, rfl, a, _, _, _, rfl, rfl, SqL.of hA, rfl, _, _, rfl, rfl, _, rfl, a, _, _, _, rfl, rfl, hA, rfl, ?_⟩
          have hA2 : (upd H a (.lst [.ref L, .int (i + 1), .int p, .int st, .int c])) a = some (.lst [.ref L, .int (i + 1), .int p, .int st, .int c]) := upd_same
          refine ⟨_, rfl, _, _, rfl, rfl, ⟨by decide, by decide, by decide⟩, _, _, rfl, rfl, _, rfl, ?_⟩
          refine ite2 (fun c2 => ?_) (fun c2 => ?_)
          · refine ⟨_, rfl, _, rfl, a, _, _, _, rfl, rfl, hA2, rfl, ?_⟩
            refine ⟨some (.int v), i + 1, v, st, c, rfl, upd_same, ?_, by omega, h1, h2, fun b nb => ?_⟩
            · rw [upd_ne aL, upd_ne aL]; exact hL
            · rw [upd_ne nb, upd_ne nb]
          · refine ⟨_, rfl, a, _, _, _, rfl, rfl, SqL.of hA2, rfl, _, _, rfl, rfl, .inr ⟨by decide, by decide⟩, _, rfl, .inl ⟨_, rfl, _, _, rfl, rfl, pos1, _, _, rfl, rfl, .inr ⟨by decide, by decide⟩, _, _, rfl, rfl, _, _, rfl, rfl, .inl ⟨_, rfl, _, _, rfl, rfl, pos2, ?_⟩⟩⟩
            refine ⟨_, rfl, a, _, _, _, rfl, rfl, hA2, rfl, ?_⟩
            refine ⟨some (.int v), i + 1, p, _, c, rfl, upd_same, ?_, by omega, ?_, ?_, fun b nb => ?_⟩
            · rw [upd_ne aL, upd_ne aL]; exact hL
            · exact Int.emod_nonneg _ (by decide)
            · exact Int.emod_lt_of_pos _ (by decide)
            · rw [upd_ne nb, upd_ne nb]
        · exact ⟨none, i, p, st, c, rfl, hA, hL, h0, h1, h2, fun b nb => rfl⟩
      · exact iteF ⟨none, i, p, st, c, rfl, hA, hL, h0, h1, h2, fun b nb => rfl⟩
    · rintro σ' H' ⟨y2, i, p, st, c, rfl, hA, hL, h0, h1, h2, off⟩
      refine ⟨_, rfl, a, _, _, _, rfl, rfl, SqL.of hA, rfl, _, _, rfl, rfl, _, rfl, ?_⟩
      refine ite2 (fun c0 => ?_) (fun c0 => ?_)
      · have cp : p > 0 := of_decide_eq_true c0
        refine ⟨_, rfl, a, _, _, _, rfl, rfl, SqL.of hA, rfl, .inl ⟨_, rfl, _, rfl, _, _, rfl, rfl, by omega, ?_⟩⟩
        refine ⟨_, rfl, a, _, _, _, rfl, rfl, SqL.of hA, rfl, _, rfl, _, _, rfl, rfl, ⟨by omega, by omega⟩, _, rfl, a, _, _, _, rfl, rfl, hA, rfl, ?_⟩
        refine ⟨_, rfl, q _ _ (Int.emod_nonneg _ (by omega)) (Int.emod_lt_of_pos _ (by omega)) ⟨i, _, st, c, upd_same, ?_, h0, h1, h2⟩ fun b nb => ?_⟩
        · rw [upd_ne aL]; exact hL
        · rw [upd_ne nb]; exact off b nb
      · refine ⟨_, rfl, a, _, _, _, rfl, rfl, SqL.of hA, rfl, _, _, rfl, rfl, _, rfl, a, _, _, _, rfl, rfl, hA, rfl, ?_⟩
        have hA2 : (upd H' a (.lst [.ref L, .int i, .int p, .int st, .int (c + 1)])) a = some (.lst [.ref L, .int i, .int p, .int st, .int (c + 1)]) := upd_same
        refine ⟨_, rfl, a, _, _, _, rfl, rfl, SqL.of hA2, rfl, _, rfl, a, _, _, _, rfl, rfl, SqL.of hA2, rfl, _, _, rfl, rfl, .inl ⟨by omega, by omega⟩, .inl ⟨_, rfl, _, _, rfl, rfl, pos2, ?_⟩⟩
        refine ⟨_, rfl, a, _, _, _, rfl, rfl, SqL.of hA2, rfl, _, _, rfl, rfl, .inl ⟨by decide, by decide⟩, _, _, rfl, rfl, ?_⟩
        refine ⟨_, rfl, _, _, rfl, rfl, .inr ⟨by decide, by decide⟩, _, rfl, a, _, _, _, rfl, rfl, SqL.of hA2, rfl, _, _, rfl, rfl, _, _, rfl, rfl, .inl ⟨_, rfl, _, _, rfl, rfl, pos2, ?_⟩⟩
        refine ⟨_, rfl, a, _, _, _, rfl, rfl, hA2, rfl, ?_⟩
        have z0 : 0 ≤ zz st c := Int.emod_nonneg _ (by decide)
        have z1 : zz st c < 2147483629 := Int.emod_lt_of_pos _ (by decide)
        have hA3 : (upd (upd H' a (.lst [.ref L, .int i, .int p, .int st, .int (c + 1)])) a (.lst [.ref L, .int i, .int p, .int (zz st c), .int (c + 1)])) a = some (.lst [.ref L, .int i, .int p, .int (zz st c), .int (c + 1)]) := upd_same
        refine ⟨_, rfl, a, _, _, _, rfl, rfl, SqL.of hA3, rfl, _, _, rfl, rfl, ⟨by decide, by decide⟩, ?_⟩
        refine ⟨_, rfl, a, _, _, _, rfl, rfl, SqL.of hA3, rfl, .inl ⟨_, rfl, _, _, rfl, rfl, pos3, _, _, rfl, rfl, .inr ⟨by decide, by decide⟩, _, _, rfl, rfl, .inl ⟨_, rfl, _, rfl, _, _, rfl, rfl, by omega, ?_⟩⟩⟩
        refine q _ _ (Int.emod_nonneg _ (by omega)) (Int.emod_lt_of_pos _ (by omega)) ⟨i, p, zz st c, c + 1, upd_same, ?_, h0, z0, z1⟩ fun b nb => ?_
        · rw [upd_ne aL, upd_ne aL]; exact hL
        · rw [upd_ne nb, upd_ne nb]; exact off b nb
end
end Fv


namespace Fv
open PySem PySem.Spec PyProof.Rows L2
-- top 24  slots: 0:_law_script
abbrev s_law_source : Stmt := topS 24
abbrev N_law_source : List Str := ["_law_script"]
theorem sc_law_source : FnScope N_law_source ["_law_script"] (defScope s_law_source) := ⟨rfl, rfl, rfl, by decide +kernel, rfl, by decide +kernel, by decide +kernel⟩

-- top 26  slots: 0:_law_source_here 1:_law_row
abbrev s_law_pick : Stmt := topS 26
abbrev N_law_pick : List Str := ["_law_source_here", "_law_row"]
theorem sc_law_pick : FnScope N_law_pick ["_law_source_here", "_law_row"] (defScope s_law_pick) := ⟨rfl, rfl, rfl, by decide +kernel, rfl, by decide +kernel, by decide +kernel⟩

-- top 27  slots: 0:_law_source_here 1:_law_row 2:_law_found 3:_law_one
abbrev s_law_mixed : Stmt := topS 27
abbrev N_law_mixed : List Str := ["_law_source_here", "_law_row", "_law_found", "_law_one"]
theorem sc_law_mixed : FnScope N_law_mixed ["_law_source_here", "_law_row"] (defScope s_law_mixed) := ⟨rfl, rfl, rfl, by decide +kernel, rfl, by decide +kernel, by decide +kernel⟩

-- top 34  slots: 0:_law_source_here 1:_law_most 2:_law_every
abbrev s_law_signs : Stmt := topS 34
abbrev N_law_signs : List Str := ["_law_source_here", "_law_most", "_law_every"]
theorem sc_law_signs : FnScope N_law_signs ["_law_source_here", "_law_most"] (defScope s_law_signs) := ⟨rfl, rfl, rfl, by decide +kernel, rfl, by decide +kernel, by decide +kernel⟩

section
variable {P : Program} {w : World} {K : PySem.W.Frag} {mg : Str → Option Value} {base : Heap}
theorem ok_source {f : Addr} {fd : FuncData} {k : Nat} (F : Fun K "_law_source" "_law_source" s_law_source f fd) (m_list : mg "list" = none) :
    FnOk P w K mg base CX0 (k + 1) f fd ["_law_script"] (spSource K) := by
  refine F.ok sc_law_source (fun vs H Q E h => ?_) (fun cdv A outer s H vs Q E hr h => ?_)
  · obtain ⟨a, ns, rfl, _⟩ := h
    rfl
  · obtain ⟨a, ns, rfl, hS, hl, q⟩ := h
    refine ⟨_, (pss_one (ps_ret (pe_lst (pa_cons (pe_callTy call_list_of (by rfl) m_list (by decide +kernel) (pa_cons (pe_slice sl_list (pv 0) po_none (po_some pe_int)) pa_nil)) (pa_cons pe_int (pa_cons pe_int (pa_cons pe_int (pa_cons pe_int pa_nil)))))))), ?_⟩
    refine ⟨_, rfl, _, rfl, a, _, rfl, hS, fun c nc => ?_⟩
    have e1 : cutV (ns.map V.int) none (some 63) = ns.map V.int := by
      rw [cut_take _ (by decide)]
      exact List.take_of_length_le (by rw [List.length_map]; exact hl)
    refine ⟨c, _, rfl, .inl (SqL.of upd_same), fun L nL => ?_⟩
    refine ⟨(by show 5 ≤ sizeLine; decide), fun p np => ?_⟩
    have s1 := same_upd (o := .lst (cutV (ns.map V.int) none (some 63))) nc
    have s2 := same_upd (o := .lst (cutV (ns.map V.int) none (some 63))) nL
    have s3 := same_upd (o := .lst [.ref L, .int 0, .int 0, .int 3818, .int 0]) np
    refine q _ p L (s1.trans (s2.trans s3)) (s1.free (s2.free np)) (s1.free nL) ⟨0, 0, 3818, 0, upd_same, ?_, by decide, by decide, by decide⟩
    refine s3 _ _ ?_
    rw [upd_same, e1]
theorem ok_pick {f : Addr} {fd : FuncData} {k : Nat} (F : Fun K "_law_pick" "_law_pick" s_law_pick f fd) (m_len : mg "len" = none)
    (C_law_take : Own P w K mg base k "_law_take" ["_law_source_here", "_law_many"] spTake) :
    FnOk P w K mg base CX0 (k + 1) f fd ["_law_source_here", "_law_row"] spPick := by
  refine F.ok sc_law_pick (fun vs H Q E h => ?_) (fun cdv A outer s H vs Q E hr h => ?_)
  · obtain ⟨a, L, r, ns, xs, rfl, _⟩ := h
    rfl
  · obtain ⟨a, L, r, ns, xs, rfl, hs, ra, hr', hp, hl, q⟩ := h
    refine ⟨_, (pss_one (ps_ret (pe_ix ix_list (pv 1) (pe_own C_law_take (hr.mono (by omega)) (by rfl) (pa_cons (pv 0) (pa_cons (pe_callB call_len_seq (by rfl) m_len (by decide +kernel) (pa_cons (pv 1) pa_nil)) pa_nil))) (fun _ _ => rfl)))), ?_⟩
    refine ⟨_, rfl, _, rfl, _, rfl, r, _, rfl, .inl (SqL.of hr'), a, L, ns, _, rfl, hs, by omega, by omega, fun H' d d0 d1 hs' off => ?_⟩
    obtain ⟨v, hv, mv⟩ := atI_mem d0 d1
    exact ⟨r, _, _, _, rfl, rfl, SqL.of ((off r ra).trans hr'), hv, q H' v mv hs' off⟩
theorem ok_mixed {f : Addr} {fd : FuncData} {k : Nat} (F : Fun K "_law_mixed" "_law_mixed" s_law_mixed f fd) (m_len : mg "len" = none)
    (C_law_take : Own P w K mg base k "_law_take" ["_law_source_here", "_law_many"] spTake) :
    FnOk P w K mg base CX0 (k + 1) f fd ["_law_source_here", "_law_row"] spMixed := by
  refine F.ok sc_law_mixed (fun vs H Q E h => ?_) (fun cdv A outer s H vs Q E hr h => ?_)
  · obtain ⟨a, L, r, ns, xs, rfl, _⟩ := h
    rfl
  · obtain ⟨a, L, r, ns, xs, rfl, hs, ra, hR, hl, q⟩ := h
    refine ⟨_, (pss_cons (ps_set (i := 2) sc_law_mixed.nd rfl (by first | exact .inl rfl | exact .inr rfl) (pe_lst pa_nil))
      (pss_cons (ps_for PassesOwn.never rfl (pi_list (pv 1)) (pg_name (i := 3) sc_law_mixed.nd rfl (by first | exact .inl rfl | exact .inr rfl))
        (pss_one (ps_expr (pe_bm PySem.F.plainAttrs_list PySem.F.slot_list_insert PySem.F.type_list_insert mt_insert (pv 2) (pa_cons (pe_own C_law_take (hr.mono (by omega)) (by rfl) (pa_cons (pv 0) (pa_cons (pe_op op_add (pe_callB call_len_seq (by rfl) m_len (by decide +kernel) (pa_cons (pv 2) pa_nil)) pe_int) pa_nil))) (pa_cons (pv 3) pa_nil))))))
      (pss_one (ps_ret (pv 2))))), ?_⟩
    refine ⟨Nat.zero_le _, fun p np => ?_⟩
    have ap : a ≠ p := by
      obtain ⟨_, _, _, _, e, _⟩ := hs
      exact ne_of_none e np
    have rp : r ≠ p := ne_of_none hR np
    refine ⟨_, rfl, r, rfl, ⟨_, SqL.of (by rw [upd_ne rp]; exact hR)⟩, for_list (xs := xs) (fun i σ H1 => ∃ (y : Option V) (ys : List V), σ = [some (.ref a), some (.ref r), some (.ref p), y] ∧ ys.Perm (xs.take i) ∧ H1 p = some (.lst ys) ∧ Src H1 a L ns ∧ (∀ b, b ≠ a → b ≠ p → H1 b = H b)) ?_ ?_ ?_ ?_⟩
    · exact ⟨none, [], rfl, .nil, upd_same, hs.off np fun c hc => upd_ne hc, fun b _ hb => upd_ne hb⟩
    · rintro i σ H1 hi ⟨y, ys, rfl, pm, hp, hs1, off⟩
      exact SqL.of ((off r ra rp).trans hR)
    · rintro i x σ H1 hx ⟨y, ys, rfl, pm, hp, hs1, off⟩
      obtain ⟨hi, hxi⟩ := List.getElem?_eq_some_iff.mp hx
      have ly : ys.length = i := by
        rw [pm.length_eq, List.length_take]
        omega
      refine ⟨_, rfl, .inl ⟨rfl, _, SqL.of hp⟩, _, rfl, _, rfl, p, _, rfl, .inl (SqL.of hp), _, _, rfl, rfl, a, L, ns, _, rfl, hs1, by omega, by omega, fun H' d d0 d1 hs' off' => ?_⟩
      have hp' : H' p = some (.lst ys) := (off' p ap.symm).trans hp
      refine ⟨_, rfl, p, _, _, _, rfl, rfl, hp', small1000 (by omega), d0, by omega, ?_⟩
      refine ⟨_, _, rfl, ?_, upd_same, ?_, fun b ba bp => ?_⟩
      · rw [List.take_add_one, hx]
        refine List.Perm.trans ?_ (List.Perm.append_right _ pm)
        show (ys.take d.toNat ++ [x] ++ ys.drop d.toNat).Perm (ys ++ [x])
        refine List.Perm.trans (?_ : List.Perm _ (ys.take d.toNat ++ (ys.drop d.toNat ++ [x]))) ?_
        · rw [List.append_assoc]
          exact List.Perm.append_left _ List.perm_append_comm
        · rw [← List.append_assoc, List.take_append_drop]
      · obtain ⟨i', p', st, c, h1, h2, h3⟩ := hs'
        have Lp : L ≠ p := fun e => by
          obtain ⟨_, _, _, _, _, e2, _⟩ := hs
          rw [e, np] at e2
          cases e2
        exact ⟨i', p', st, c, by rw [upd_ne ap]; exact h1, by rw [upd_ne Lp]; exact h2, h3⟩
      · rw [upd_ne bp, off' b ba]
        exact off b ba bp
    · rintro σ H1 ⟨y, ys, rfl, pm, hp, hs1, off⟩
      rw [List.take_length] at pm
      exact ⟨_, rfl, q H1 p ys pm np hp hs1 off⟩
theorem ok_signs {f : Addr} {fd : FuncData} {k : Nat} (F : Fun K "_law_signs" "_law_signs" s_law_signs f fd) (m_list : mg "list" = none)
    (C_law_take : Own P w K mg base k "_law_take" ["_law_source_here", "_law_many"] spTake)
    (C_law_mixed : Own P w K mg base k "_law_mixed" ["_law_source_here", "_law_row"] spMixed) :
    FnOk P w K mg base CX0 (k + 1) f fd ["_law_source_here", "_law_most"] spSigns := by
  refine F.ok sc_law_signs (fun vs H Q E h => ?_) (fun cdv A outer s H vs Q E hr h => ?_)
  · obtain ⟨a, L, ns, n, rfl, _⟩ := h
    rfl
  · obtain ⟨a, L, ns, n, rfl, hs, n1, n8, q⟩ := h
    refine ⟨_, (pss_cons (ps_set (i := 2) sc_law_signs.nd rfl (by first | exact .inl rfl | exact .inr rfl) (pe_own C_law_mixed (hr.mono (by omega)) (by rfl) (pa_cons (pv 0) (pa_cons (pe_callTy (call_listStr hr.hd) (by rfl) m_list (by decide +kernel) (pa_cons pe_str pa_nil)) pa_nil))))
      (pss_one (ps_ret (pe_slice sl_list (pv 2) po_none (po_some (pe_op op_add pe_int (pe_own C_law_take (hr.mono (by omega)) (by rfl) (pa_cons (pv 0) (pa_cons (pv 1) pa_nil))))))))), ?_⟩
    refine ⟨_, rfl, _, rfl, by decide +kernel, fun r nr => ?_⟩
    have ar : a ≠ r := by
      obtain ⟨_, _, _, _, e, _⟩ := hs
      exact ne_of_none e nr
    refine ⟨a, L, r, ns, _, rfl, hs.off nr fun c hc => upd_ne hc, ar.symm, upd_same, by decide +kernel, fun H1 p ys pm np hp hs1 off1 => ?_⟩
    have s1 := same_upd (o := .lst (signs "abcdefgh")) nr
    have ap : a ≠ p := by
      obtain ⟨_, _, _, _, e, _⟩ := hs
      exact ne_of_none e (s1.free np)
    refine ⟨_, rfl, _, rfl, _, rfl, a, L, ns, n, rfl, hs1, n1, by omega, fun H2 d d0 d1 hs2 off2 => ?_⟩
    have hp2 : H2 p = some (.lst ys) := (off2 p ap.symm).trans hp
    refine ⟨_, _, rfl, rfl, _, rfl, p, ys, rfl, SqL.of hp2, fun z nz => ?_⟩
    have ly : ys.length = 8 := by
      rw [pm.length_eq]
      decide +kernel
    have ez : cutV ys none (some (1 + d)) = ys.take (1 + d).toNat := cut_take ys (by omega)
    have zn : H z = none := by
      have ap1 : H1 z = none := by
        by_cases e : z = a
        · rw [e] at nz
          obtain ⟨_, _, _, _, e', _⟩ := hs2
          rw [e'] at nz
          cases nz
        · rw [← off2 z e]; exact nz
      have ap2 : (upd H r (.lst (signs "abcdefgh"))) z = none := by
        by_cases e : z = a
        · rw [e] at ap1
          obtain ⟨_, _, _, _, e', _⟩ := hs1
          rw [e'] at ap1
          cases ap1
        · by_cases e2 : z = p
          · rw [e2] at ap1
            rw [hp] at ap1
            cases ap1
          · rw [← off1 z e e2]; exact ap1
      exact s1.free ap2
    refine q _ z _ ?_ ?_ ?_ ?_ zn upd_same (hs2.off nz fun c hc => upd_ne hc) ?_
    · rw [ez, List.length_take]; omega
    · rw [ez, List.length_take]; omega
    · intro y hy
      rw [ez] at hy
      exact pm.mem_iff.mp (List.mem_of_mem_take hy)
    · rw [ez]
      refine List.Sublist.nodup (List.take_sublist _ _) ?_
      exact pm.nodup_iff.mpr (by decide +kernel)
    · intro b o hb e
      have ba : b ≠ a := fun z => hb (by rw [z]; exact List.mem_singleton.mpr rfl)
      have bz : b ≠ z := ne_of_none e zn
      rw [upd_ne bz, off2 b ba, off1 b ba (ne_of_none e (s1.free np))]
      exact s1 b o e
end
end Fv


namespace Fv
open PySem PySem.Spec PyProof.Rows L2
-- top 13  slots: 0:value
abbrev s_is_letter : Stmt := topS 13
abbrev N_is_letter : List Str := ["value"]
theorem sc_is_letter : FnScope N_is_letter ["value"] (defScope s_is_letter) := ⟨rfl, rfl, rfl, by decide +kernel, rfl, by decide +kernel, by decide +kernel⟩

-- top 14  slots: 0:value
abbrev s_is_compound : Stmt := topS 14
abbrev N_is_compound : List Str := ["value"]
theorem sc_is_compound : FnScope N_is_compound ["value"] (defScope s_is_compound) := ⟨rfl, rfl, rfl, by decide +kernel, rfl, by decide +kernel, by decide +kernel⟩

-- top 15  slots: 0:value 1:max_depth 2:max_size 3:deepest 4:total 5:part 6:found
abbrev s_measured : Stmt := topS 15
abbrev N_measured : List Str := ["value", "max_depth", "max_size", "deepest", "total", "part", "found"]
theorem sc_measured : FnScope N_measured ["value", "max_depth", "max_size"] (defScope s_measured) := ⟨rfl, rfl, rfl, by decide +kernel, rfl, by decide +kernel, by decide +kernel⟩

-- top 16  slots: 0:value 1:max_depth 2:max_size
abbrev s_is_term : Stmt := topS 16
abbrev N_is_term : List Str := ["value", "max_depth", "max_size"]
theorem sc_is_term : FnScope N_is_term ["value", "max_depth", "max_size"] (defScope s_is_term) := ⟨rfl, rfl, rfl, by decide +kernel, rfl, by decide +kernel, by decide +kernel⟩

section
variable {P : Program} {w : World} {K : PySem.W.Frag} {mg : Str → Option Value} {base : Heap}
theorem at0 {x : V} {xs : List V} : atI (x :: xs) 0 = some x := atI_nat (xs := x :: xs) (rfl : (x :: xs)[0]? = some x)
theorem len_ok {n : Nat} {s : Str} (h : gd n (.str s) = true) : s.length ≤ sizeLine := by
  have q : s.length ≤ 100000 := by
    cases n <;> (simp only [gd, Bool.and_eq_true, decide_eq_true_eq] at h; exact h.2)
  exact Nat.le_trans q (by decide)
theorem ok_is_letter {f : Addr} {fd : FuncData} {k : Nat} (F : Fun K "is_letter" "is_letter" s_is_letter f fd) (m_isinstance : mg "isinstance" = none) (m_str : mg "str" = none) (m_len : mg "len" = none)
    {t : Tok} (g_LETTERS : mg "LETTERS" = some (.str "abcdefgh" t)) :
    FnOk P w K mg base CX0 (k + 1) f fd ["value"] (spIsLetter K) := by
  refine F.ok sc_is_letter (fun vs H Q E h => ?_) (fun cdv A outer s H vs Q E hr h => ?_)
  · obtain ⟨v, d, rfl, _⟩ := h
    rfl
  · obtain ⟨v, d, rfl, hd, hg, q⟩ := h
    refine ⟨_, (pss_one (ps_ret (pe_and (pe_isD (T := "str") (by rfl) m_isinstance (by rfl) m_str (pv 0)) (pe_and (pe_cmpR op_eq (pe_callB call_len_str (by rfl) m_len (by decide +kernel) (pa_cons (pv 0) pa_nil)) pe_int (nomark _)) (pe_one (pe_cmpR op_in_str (pv 0) (pe_glob (v := .str "abcdefgh") (by rfl) g_LETTERS (⟨_, rfl⟩)) (by rfl))))))), ?_⟩
    refine ⟨_, rfl, _, _, d, rfl, by decide, hd, _, rfl, ?_⟩
    cases d with
    | str z =>
      cases hd
      refine iteT ⟨_, rfl, z, rfl, len_ok hg, rfl, _, rfl, ?_⟩
      have e : isLd (.str z) = isL z := rfl
      rw [e] at q
      unfold isL at q
      refine ite2 (fun c => ?_) (fun c => ?_)
      · refine ⟨_, rfl, z, _, rfl, rfl, ?_⟩
        rw [c, Bool.true_and] at q
        exact q
      · rw [Bool.eq_false_iff.mpr c, Bool.false_and] at q
        exact q
    | _ => exact iteF q
theorem ok_is_compound {f : Addr} {fd : FuncData} {k : Nat} (F : Fun K "is_compound" "is_compound" s_is_compound f fd) (m_isinstance : mg "isinstance" = none) (m_tuple : mg "tuple" = none) (m_len : mg "len" = none)
    {oA : Addr} (g_OPERATORS : mg "OPERATORS" = some (.ref oA)) (hO : ∀ H, SqT K H oA [.str "&", .str "|"]) :
    FnOk P w K mg base CX0 (k + 1) f fd ["value"] (spIsCompound K) := by
  refine F.ok sc_is_compound (fun vs H Q E h => ?_) (fun cdv A outer s H vs Q E hr h => ?_)
  · obtain ⟨v, d, rfl, _⟩ := h
    rfl
  · obtain ⟨v, d, rfl, hd, hg, q⟩ := h
    refine ⟨_, (pss_one (ps_ret (pe_and (pe_isD (T := "tuple") (by rfl) m_isinstance (by rfl) m_tuple (pv 0)) (pe_and (pe_cmpR op_ge (pe_callB call_len_seq (by rfl) m_len (by decide +kernel) (pa_cons (pv 0) pa_nil)) pe_int (nomark _)) (pe_one (pe_cmpR (op_inT (hu65 hr)) (pe_ix ix_tup (pv 0) pe_int (fun _ _ => rfl)) (pe_glob (v := .ref oA) (by rfl) g_OPERATORS (rfl)) (by rfl))))))), ?_⟩
    refine ⟨_, rfl, _, _, d, rfl, by decide, hd, _, rfl, ?_⟩
    cases d with
    | tuple ds =>
      cases hd with
      | @tup a xs _ hs ha =>
        refine iteT ⟨_, rfl, a, xs, rfl, .inr hs, _, _, rfl, rfl, _, rfl, ?_⟩
        have hl := dpAll_len ha
        cases ds with
        | nil =>
          rw [hl]
          exact iteF q
        | cons o ds =>
          cases ha with
          | @cons x0 xr _ _ h1 h2 =>
            have hl' := dpAll_len h2
            have e : isCd (.tuple (o :: ds)) = (decide (2 ≤ ds.length) && isOp o) := rfl
            rw [e] at q
            refine ite2 (fun c => ?_) (fun c => ?_)
            · have c' : (3 : Int) ≤ (((x0 :: xr).length : Nat) : Int) := of_decide_eq_true c
              rw [List.length_cons] at c'
              refine ⟨_, rfl, a, _, _, x0, rfl, rfl, hs, at0, o, [.str "&", .str "|"], h1, .tup (hO _) (.cons (.str _) (.cons (.str _) .nil)), gd_shaped (gd_parts hg).1 (by decide), by decide +kernel, ?_⟩
              rw [decide_eq_true (by omega), Bool.true_and] at q
              exact q
            · have c' : ¬ (3 : Int) ≤ (((x0 :: xr).length : Nat) : Int) := of_decide_eq_false (Bool.eq_false_iff.mpr c)
              rw [List.length_cons] at c'
              rw [decide_eq_false (by omega), Bool.false_and] at q
              exact q
    | _ => exact iteF q
theorem ok_measured {f : Addr} {fd : FuncData} {k n : Nat} (F : Fun K "measured" "measured" s_measured f fd) (m_max : mg "max" = none) (hk : 1 ≤ k)
    (C_is_letter : Own P w K mg base 1 "is_letter" ["value"] (spIsLetter K)) (C_is_compound : Own P w K mg base 1 "is_compound" ["value"] (spIsCompound K))
    (C_measured : Own P w K mg base k "measured" ["value", "max_depth", "max_size"] (spMeas K n)) :
    FnOk P w K mg base CX0 (k + 1) f fd ["value", "max_depth", "max_size"] (spMeas K (n + 1)) := by
  refine F.ok sc_measured (fun vs H Q E h => ?_) (fun cdv A outer s H vs Q E hr h => ?_)
  · obtain ⟨v, d, md, ms, rfl, _⟩ := h
    rfl
  · obtain ⟨v, d, md, ms, rfl, hd, hg, m0, m1, q1, q2⟩ := h
    refine ⟨_, (pss_cons (ps_if (PW.pt (pw_or (pt_cmpR op_lt (pv 1) pe_int (nomark _)) (pw_or1 (pt_cmpR op_lt (pv 2) pe_int (nomark _)))))
        (pss_one (ps_ret pe_non))
        pss_nil)
      (pss_cons (ps_if (pt_val (pe_own C_is_letter (hr.mono (by omega)) (by rfl) (pa_cons (pv 0) pa_nil)))
        (pss_one (ps_ret (pe_tup (pa_cons pe_int (pa_cons pe_int pa_nil)))))
        pss_nil)
      (pss_cons (ps_if (pt_not (pt_val (pe_own C_is_compound (hr.mono (by omega)) (by rfl) (pa_cons (pv 0) pa_nil))))
        (pss_one (ps_ret pe_non))
        pss_nil)
      (pss_cons (ps_set (i := 3) sc_measured.nd rfl (by first | exact .inl rfl | exact .inr rfl) pe_int)
      (pss_cons (ps_set (i := 4) sc_measured.nd rfl (by first | exact .inl rfl | exact .inr rfl) pe_int)
      (pss_cons (ps_for PassesOwn.never rfl (pi_tup (pe_slice sl_tup (pv 0) (po_some pe_int) po_none)) (pg_name (i := 5) sc_measured.nd rfl (by first | exact .inl rfl | exact .inr rfl))
        (pss_cons (ps_set (i := 6) sc_measured.nd rfl (by first | exact .inl rfl | exact .inr rfl) (pe_own C_measured (hr.mono (by omega)) (by rfl) (pa_cons (pv 5) (pa_cons (pe_op op_sub (pv 1) pe_int) (pa_cons (pe_op op_sub (pv 2) (pv 4)) pa_nil)))))
        (pss_cons (ps_if (pt_cmpR op_isN (pv 6) pe_non (nomark _))
          (pss_one (ps_ret pe_non))
          pss_nil)
        (pss_cons (ps_set (i := 3) sc_measured.nd rfl (by first | exact .inl rfl | exact .inr rfl) (pe_callB (call_max2 rfl) (by rfl) m_max (by decide +kernel) (pa_cons (pv 3) (pa_cons (pe_ix ix_tup (pv 6) pe_int (fun _ _ => rfl)) pa_nil))))
        (pss_one (ps_set (i := 4) sc_measured.nd rfl (by first | exact .inl rfl | exact .inr rfl) (pe_op op_add (pv 4) (pe_ix ix_tup (pv 6) pe_int (fun _ _ => rfl)))))))))
      (pss_one (ps_ret (pe_tup (pa_cons (pe_op op_add (pv 3) pe_int) (pa_cons (pv 4) pa_nil))))))))))), ?_⟩
    refine ⟨_, rfl, _, _, rfl, rfl, _, rfl, ?_⟩
    have fin0 : ¬ 1 ≤ md ∨ ms < 1 → Q .non H := fun c => by
      refine q1 ?_ H (Same.refl H)
      rcases c with c | c
      · rw [show md.toNat = 0 by omega]; rfl
      · cases md.toNat with
        | zero => rfl
        | succ m => unfold meas; rw [if_pos c]
    refine ite2 (fun c => iteT (fin0 (.inl (by have := of_decide_eq_true c; omega)))) (fun c => ?_)
    have c1 : ¬ md < 1 := of_decide_eq_false (Bool.eq_false_iff.mpr c)
    refine ⟨_, rfl, _, _, rfl, rfl, _, rfl, ?_⟩
    refine ite2 (fun c => fin0 (.inr (of_decide_eq_true c))) (fun c => ?_)
    have c2 : ¬ ms < 1 := of_decide_eq_false (Bool.eq_false_iff.mpr c)
    obtain ⟨m, em⟩ : ∃ m, md.toNat = m + 1 := ⟨md.toNat - 1, by omega⟩
    have em' : (md - 1).toNat = m := by omega
    rw [em] at q1 q2
    unfold meas at q1 q2
    rw [if_neg c2] at q1 q2
    refine ⟨_, rfl, v, d, rfl, hd, hg, _, rfl, ?_⟩
    refine ite2 (fun c => ?_) (fun c => ?_)
    · refine ⟨(by show 2 ≤ sizeLine; decide), fun p np => ?_⟩
      rw [if_pos c] at q2
      exact q2 1 1 rfl _ p (same_upd np) upd_same
    · rw [if_neg c] at q1 q2
      refine ⟨_, rfl, v, d, rfl, hd, hg, _, rfl, ?_⟩
      cases hc : isCd d with
      | false =>
        rw [if_neg (by rw [hc]; decide)] at q1
        exact iteT (q1 rfl H (Same.refl H))
      | true =>
        rw [if_pos hc] at q1 q2
        refine iteF ?_
        cases d with
        | tuple ds =>
          cases ds with
          | nil => cases hc
          | cons o ds =>
            cases hd with
            | @tup a xs _ hs ha =>
              cases ha with
              | @cons x0 xr _ _ h1 h2 =>
                have hl := dpAll_len h2
                have h2l : 2 ≤ ds.length := by
                  have e : isCd (.tuple (o :: ds)) = (decide (2 ≤ ds.length) && isOp o) := rfl
                  rw [e, Bool.and_eq_true] at hc
                  exact of_decide_eq_true hc.1
                have ep : parts (.tuple (o :: ds)) = ds := rfl
                rw [ep] at q1 q2
                have gp := (gd_parts hg).2
                refine ⟨_, rfl, 1, rfl, a, x0 :: xr, rfl, hs, ?_, fun p np => ?_⟩
                · rw [show HT.sIx (x0 :: xr).length 0 (some 1) = min 1 (x0 :: xr).length from HT.sIx_nat _ 0 1, List.length_cons]
                  omega
                have ec : cutV (x0 :: xr) (some 1) none = xr := by rw [cut_drop1]; rfl
                rw [ec]
                have s0 : Same H (upd H p (.tup xr)) := same_upd np
                refine ⟨p, rfl, ⟨_, SqT.of upd_same⟩, for_tup (xs := xr) (fun i σ H1 => ∃ (dp tot : Int) (y5 y6 : Option V), σ = [some (.ref a), some (.int md), some (.int ms), some (.int dp), some (.int tot), y5, y6] ∧
                  Same (upd H p (.tup xr)) H1 ∧ measL (meas m) (ds.drop i) ms dp tot = measL (meas m) ds ms 0 0) ?_ ?_ ?_ ?_⟩
                · exact ⟨0, 0, none, none, rfl, Same.refl _, rfl⟩
                · rintro i σ H1 hi ⟨dp, tot, y5, y6, rfl, sm, e⟩
                  exact SqT.of (sm _ _ upd_same)
                · rintro i x σ H1 hx ⟨dp, tot, y5, y6, rfl, sm, e⟩
                  obtain ⟨d', hd', hD'⟩ := dpAll_get h2 hx
                  have hDs : Dp K H1 x d' := dp_same (s0.trans sm) d' x hD'
                  rw [drop_cons_get hd'] at e
                  refine ⟨_, rfl, _, rfl, _, _, rfl, rfl, _, rfl, _, rfl, _, _, rfl, rfl, x, d', md - 1, ms - tot, rfl, hDs, gd_le (gp d' (List.mem_of_getElem? hd')) (by decide), by omega, by omega, fun en H2 s2 => ?_, fun dp' sz es H2 p2 s2 hp2 => ?_⟩
                  · refine ⟨_, rfl, rfl, _, rfl, iteT ?_⟩
                    refine q1 ?_ H2 (s0.trans (sm.trans s2))
                    rw [em'] at en
                    rw [← e]
                    simp only [measL, en]
                  · refine ⟨_, rfl, rfl, _, rfl, iteF ?_⟩
                    refine ⟨_, rfl, _, rfl, p2, _, _, _, rfl, rfl, SqT.of hp2, rfl, _, _, rfl, ?_⟩
                    refine ⟨_, rfl, _, rfl, p2, _, _, _, rfl, rfl, SqT.of hp2, rfl, _, _, rfl, rfl, ?_⟩
                    refine ⟨_, _, _, _, rfl, sm.trans s2, ?_⟩
                    rw [← e, em'] at *
                    simp only [measL, es]
                · rintro σ H1 ⟨dp, tot, y5, y6, rfl, sm, e⟩
                  refine ⟨_, rfl, _, _, rfl, rfl, _, rfl, (by show 2 ≤ sizeLine; decide), fun p3 np3 => ?_⟩
                  refine q2 (dp + 1) tot ?_ _ p3 (s0.trans (sm.trans (same_upd np3))) upd_same
                  rw [← e, List.drop_eq_nil_of_le (by omega)]
                  rfl
        | _ => cases hc
theorem meas_zero {f : Addr} {fd : FuncData} {k : Nat} : FnOk P w K mg base CX0 k f fd ["value", "max_depth", "max_size"] (spMeas K 0) := by
  have no : ∀ vs H Q E, ¬ spMeas K 0 vs H Q E := fun vs H Q E h => by
    obtain ⟨v, d, md, ms, _, _, _, m0, m1, _⟩ := h
    omega
  exact ⟨fun vs H Q E h => absurd h (no vs H Q E), fun A outer s H args us vs Q E _ _ _ _ h => absurd h (no vs H Q E)⟩
end
end Fv


namespace Fv
open PySem PySem.Spec PyProof.Rows L2
abbrev PsT : List Str := ["value", "max_depth", "max_size"]
abbrev KwT : List (Str × V) := [("max_depth", .int 5), ("max_size", .int 24)]
abbrev FunT (K : PySem.W.Frag) (f : Addr) (fd : FuncData) : Prop := FunD K "is_term" "is_term" (defArgs s_is_term) (defBody s_is_term) (defScope s_is_term) [] KwT f fd
section
variable {P : Program} {w : World} {K : PySem.W.Frag} {mg : Str → Option Value} {base : Heap}
theorem ok_is_term {f : Addr} {fd : FuncData} {k : Nat} (F : FunT K f fd)
    (C_measured : Own P w K mg base k "measured" ["value", "max_depth", "max_size"] (spMeas K 20)) :
    FnOk P w K mg base CX0 (k + 1) f fd PsT (spIsTerm K) := by
  refine F.ok sc_is_term (fun vs H Q E h => ?_) (fun cdv A outer s H vs Q E hr h => ?_)
  · obtain ⟨v, d, md, ms, rfl, _⟩ := h
    rfl
  · obtain ⟨v, d, md, ms, rfl, hd, hg, m0, m1, q⟩ := h
    refine ⟨_, (pss_one (ps_ret (pe_cmpR op_notN (pe_own C_measured (hr.mono (by omega)) (by rfl) (pa_cons (pv 0) (pa_cons (pv 1) (pa_cons (pv 2) pa_nil)))) pe_non (nomark _)))), ?_⟩
    refine ⟨_, rfl, _, rfl, _, rfl, v, d, md, ms, rfl, hd, hg, m0, m1, fun e H' s' => ⟨rfl, ?_⟩, fun dp sz e H' p s' hp => ⟨rfl, ?_⟩⟩
    · have z := q H' s'
      rw [e] at z
      exact z
    · have z := q H' s'
      rw [e] at z
      exact z
theorem binds_T {f : Addr} {fd : FuncData} (F : FunT K f fd) : ∃ ds, Vals [V.int 5, V.int 24] ds ∧ Binds K fd PsT ds :=
  F.binds0 1 (by decide) rfl fun D doc pm an cdv ct us ks h1 h2 => match us, ks, h1, h2 with
    | [u], [k1, k2], _, _ => ⟨_, _, _, _, _, _, rfl, rfl, _, _, _, _, _, _, rfl, rfl, rfl⟩
theorem kbinds_T1 {f : Addr} {fd : FuncData} (F : FunT K f fd) : ∃ mv : List Value, KBn K fd PsT 1 ["max_size", "max_depth"] (fun us ws => us ++ ws.reverse ++ mv) (fun vs zs => vs ++ zs.reverse ++ []) :=
  F.kbinds0 1 ["max_size", "max_depth"] [] (fun us mv ws => us ++ ws.reverse ++ mv) (by decide) (fun q h => nomatch h) (fun a b c => (a.append c.reverse).append b)
    fun D doc pm an cdv ct us mv ws h1 h2 h3 => match us, mv, ws, h1, h2, h3 with
    | [u], [], [w1, w2], _, _, _ => rfl
theorem kbinds_T2 {f : Addr} {fd : FuncData} (F : FunT K f fd) : ∃ mv : List Value, KBn K fd PsT 0 ["value", "max_depth"] (fun us ws => us ++ ws ++ mv) (fun vs zs => vs ++ zs ++ [V.int 24]) :=
  F.kbinds0 0 ["value", "max_depth"] [("max_size", .int 24)] (fun us mv ws => us ++ ws ++ mv) (by decide) (fun q h => List.mem_cons_of_mem _ h) (fun a b c => (a.append c).append b)
    fun D doc pm an cdv ct us mv ws h1 h2 h3 => match us, mv, ws, h1, h2, h3 with
    | [], [m], [w1, w2], _, _, _ => ⟨_, _, _, _, _, _, rfl, rfl, rfl⟩
theorem kbinds_T3 {f : Addr} {fd : FuncData} (F : FunT K f fd) : ∃ mv : List Value, KBn K fd PsT 1 ["max_depth"] (fun us ws => us ++ ws ++ mv) (fun vs zs => vs ++ zs ++ [V.int 24]) :=
  F.kbinds0 1 ["max_depth"] [("max_size", .int 24)] (fun us mv ws => us ++ ws ++ mv) (by decide) (fun q h => List.mem_cons_of_mem _ h) (fun a b c => (a.append c).append b)
    fun D doc pm an cdv ct us mv ws h1 h2 h3 => match us, mv, ws, h1, h2, h3 with
    | [u], [m], [w1], _, _, _ => ⟨_, _, _, _, _, _, rfl, rfl, rfl⟩
end
end Fv


namespace Fv
open PySem PySem.Spec PyProof.Rows L2
-- top 28  slots: 0:_law_found 1:_law_due 2:_law_key 3:_law_one 4:_law_other
abbrev s_law_same : Stmt := topS 28
abbrev N_law_same : List Str := ["_law_found", "_law_due", "_law_key", "_law_one", "_law_other"]
theorem sc_law_same : FnScope N_law_same ["_law_found", "_law_due"] (defScope s_law_same) := ⟨rfl, rfl, rfl, by decide +kernel, rfl, by decide +kernel, by decide +kernel⟩

-- top 35  slots: 0:_law_word 1:_law_deep 2:_law_sizes 3:_law_one
abbrev s_law_measure : Stmt := topS 35
abbrev N_law_measure : List Str := ["_law_word", "_law_deep", "_law_sizes", "_law_one"]
theorem sc_law_measure : FnScope N_law_measure ["_law_word", "_law_deep"] (defScope s_law_measure) := ⟨rfl, rfl, rfl, by decide +kernel, rfl, by decide +kernel, by decide +kernel⟩

-- top 36  slots: 0:_law_word
abbrev s_law_fits : Stmt := topS 36
abbrev N_law_fits : List Str := ["_law_word"]
theorem sc_law_fits : FnScope N_law_fits ["_law_word"] (defScope s_law_fits) := ⟨rfl, rfl, rfl, by decide +kernel, rfl, by decide +kernel, by decide +kernel⟩

theorem walk_zipT {K : PySem.W.Frag} {a b : Addr} {xs ys : List V} {n : Nat} (hn : n = min xs.length ys.length) : Walk (RZ.ItzT K a b) n (fun H => SqT K H a xs ∧ SqT K H b ys) (YPair (fun i => xs[i]?) (fun i => ys[i]?)) := by
  subst hn
  refine ⟨fun i _ hi q => ?_, fun _ q => ⟨xs, ys, q.1, q.2, by omega⟩, fun i H v H' _ q y => ?_⟩
  · have h1 : i < xs.length := by omega
    have h2 : i < ys.length := by omega
    exact ⟨xs, ys, xs[i], ys[i], q.1, q.2, by simp [h1], by simp [h2]⟩
  · obtain ⟨T, x, z, h1, h2, h3, h4, h5⟩ := y
    exact ⟨T, x, z, h1, h2, h3, h4 xs q.1, h5 ys q.2⟩
def spSame (K : PySem.W.Frag) (n : Nat) : Sp := fun vs H Q _ => ∃ (v v' : V) (d : PyData) (m : Nat), vs = [v, v'] ∧ Dp K H v d ∧ Dp K H v' d ∧ m < n ∧ gd m d = true ∧ ∀ H', Same H H' → Q (.bl true) H'
theorem in_ints (ns : List Int) : inV (.int 0) (ns.map V.int) = decide ((0 : Int) ∈ ns) := by
  unfold inV
  induction ns with
  | nil => rfl
  | cons n ns ih =>
    rw [List.map_cons, List.any_cons, ih]
    show ((n == 0) || decide ((0 : Int) ∈ ns)) = decide ((0 : Int) ∈ n :: ns)
    by_cases e : n = 0
    · subst e; simp
    · have e1 : (n == 0) = false := beq_eq_false_iff_ne.mpr e
      rw [e1, Bool.false_or]
      simp [List.mem_cons, show ¬ (0 : Int) = n from fun z => e z.symm]
theorem flat_ints (ns : List Int) : (ns.map V.int).all flatV = true := by
  rw [List.all_map]
  exact List.all_eq_true.mpr fun _ _ => rfl
section
variable {P : Program} {w : World} {K : PySem.W.Frag} {mg : Str → Option Value} {base : Heap}
theorem ok_measure {f : Addr} {fd : FuncData} {k n : Nat} (F : Fun K "_law_measure" "_law_measure" s_law_measure f fd) (m_isinstance : mg "isinstance" = none) (m_str : mg "str" = none) (m_tuple : mg "tuple" = none) (m_len : mg "len" = none) (m_int : mg "int" = none) (m_sum : mg "sum" = none)
    (C_law_measure : Own P w K mg base k "_law_measure" ["_law_word", "_law_deep"] (spMeasure K n)) :
    FnOk P w K mg base CX0 (k + 1) f fd ["_law_word", "_law_deep"] (spMeasure K (n + 1)) := by
  refine F.ok sc_law_measure (fun vs H Q E h => ?_) (fun cdv A outer s H vs Q E hr h => ?_)
  · obtain ⟨v, d, md, rfl, _⟩ := h
    rfl
  · obtain ⟨v, d, md, rfl, hd, hg, m0, m1, q⟩ := h
    refine ⟨_, (pss_cons (ps_if (pt_val (pe_isD (T := "str") (by rfl) m_isinstance (by rfl) m_str (pv 0)))
        (pss_one (ps_ret (pe_callTy call_int1 (by rfl) m_int (by decide +kernel) (pa_cons (pe_and (pe_cmpR op_eq (pe_callB call_len (by rfl) m_len (by decide +kernel) (pa_cons (pv 0) pa_nil)) pe_int (nomark _)) (pe_and (pe_cmpR op_in_str (pv 0) pe_str (by rfl)) (pe_one (pe_cmpR op_gt (pv 1) pe_int (nomark _))))) pa_nil))))
        pss_nil)
      (pss_cons (ps_if (PW.pt (pw_or (pt_cmpR op_lt (pv 1) pe_int (nomark _)) (pw_or (pt_not (pt_val (pe_isD (T := "tuple") (by rfl) m_isinstance (by rfl) m_tuple (pv 0)))) (pw_or (pt_cmpR op_lt (pe_callB call_len (by rfl) m_len (by decide +kernel) (pa_cons (pv 0) pa_nil)) pe_int (nomark _)) (pw_or1 (pt_cmpR (op_notInT (hu65 hr)) (pe_ix ix_tup (pv 0) pe_int (fun _ _ => rfl)) (pe_tup (pa_cons pe_str (pa_cons pe_str pa_nil))) (by rfl)))))))
        (pss_one (ps_ret pe_int))
        pss_nil)
      (pss_cons (ps_setLc (i := 2) (own := [("_law_one", 3)]) (g := gName 3) (by rfl) sc_law_measure.nd rfl rfl (sw_true rfl rfl rfl (by decide +kernel)) (pi_tup (pe_slice sl_tup (pv 0) (po_some pe_int) po_none)) (blkOk_by (own := [("_law_one", 3)]) (N := N_law_measure) (sc := defScope s_law_measure) (by decide +kernel)) (fun _ _ _ _ _ => pg_name (i := 3) sc_law_measure.nd rfl (Or.inl rfl)) (fun _ _ _ _ _ => pts_nil) (fun _ _ _ _ _ => (pe_own C_law_measure (hr.mono (by omega)) (by rfl) (pa_cons (pv 3) (pa_cons (pe_op op_sub (pv 1) pe_int) pa_nil)))))
      (pss_one (ps_ret (pe_ifExp (pt_cmpR op_in_seq pe_int (pv 2) (by rfl)) pe_int (pe_callB (cr_sum rfl) (by rfl) m_sum (by decide +kernel) (pa_cons (pv 2) pa_nil)))))))), ?_⟩
    refine ⟨_, rfl, _, _, d, rfl, by decide, hd, _, rfl, ?_⟩
    have z0 : ∀ d', md.toNat = 0 → lmeas md.toNat d' = 0 := fun d' e => by rw [e]; rfl
    have fin1 : isLd d = false → isCd d = false → Q (.int 0) H := fun a b => by
      have q' := q H (Same.refl H)
      have e : lmeas md.toNat d = 0 := by
        cases md.toNat with
        | zero => rfl
        | succ m => unfold lmeas; rw [a, b]; rfl
      rw [e] at q'
      exact q'
    cases d with
    | str z =>
      cases hd
      refine iteT ⟨_, rfl, _, _, rfl, ⟨len_ok hg, rfl⟩, rfl, _, rfl, ?_⟩
      have es : lmeas (md.toNat) (.str z) = if (isL z && decide (0 < md)) = true then 1 else 0 := by
        cases hm : md.toNat with
        | zero =>
          rw [decide_eq_false (by omega), Bool.and_false]
          rfl
        | succ m =>
          rw [decide_eq_true (by omega), Bool.and_true]
          show (if isL z = true then (1 : Int) else _) = _
          by_cases c : isL z = true
          · rw [if_pos c, if_pos c]
          · rw [if_neg c, if_neg c, if_neg (fun z => by cases z)]
      have q' := q H (Same.refl H)
      rw [es] at q'
      unfold isL at q'
      refine ite2 (fun c => ?_) (fun c => ?_)
      · refine ⟨_, rfl, _, _, rfl, rfl, _, rfl, ?_⟩
        rw [c, Bool.true_and] at q'
        refine ite2 (fun c2 => ?_) (fun c2 => ?_)
        · rw [c2, Bool.true_and] at q'
          exact ⟨_, rfl, _, _, rfl, rfl, .inr ⟨_, rfl, q'⟩⟩
        · rw [Bool.eq_false_iff.mpr c2, Bool.false_and] at q'
          exact .inr ⟨_, rfl, q'⟩
      · rw [Bool.eq_false_iff.mpr c, Bool.false_and] at q'
        exact .inr ⟨_, rfl, q'⟩
    | tuple ds =>
      refine iteF ⟨_, rfl, _, _, rfl, rfl, _, rfl, ?_⟩
      have fin0 : lmeas md.toNat (.tuple ds) = 0 → Q (.int 0) H := fun e => by
        have q' := q H (Same.refl H)
        rw [e] at q'
        exact q'
      cases hd with
      | @tup a xs _ hs ha =>
        have hl := dpAll_len ha
        refine ite2 (fun c => iteT (fin0 ?_)) (fun c => ?_)
        · have c' : md < 2 := of_decide_eq_true c
          cases hm : md.toNat with
          | zero => rfl
          | succ m =>
            have : m = 0 := by omega
            subst this
            unfold lmeas
            rw [if_neg (fun z => by cases z)]
            split
            · rename_i hc
              rw [if_pos]
              cases ds with
              | nil => cases hc
              | cons o ds =>
                cases ds with
                | nil => simp [isCd] at hc
                | cons d1 ds => exact List.mem_map.mpr ⟨d1, List.mem_cons_self .., rfl⟩
            · rfl
        · have c1 : ¬ md < 2 := of_decide_eq_false (Bool.eq_false_iff.mpr c)
          obtain ⟨m, em⟩ : ∃ m, md.toNat = m + 1 := ⟨md.toNat - 1, by omega⟩
          have em' : (md - 1).toNat = m := by omega
          refine ⟨_, rfl, _, _, .tuple ds, rfl, by decide, .tup hs ha, _, rfl, ?_⟩
          refine iteF ⟨_, rfl, _, _, rfl, .inr ⟨xs, hs, rfl⟩, _, _, rfl, rfl, _, rfl, ?_⟩
          have e0 : lmeas (m + 1) (.tuple ds) = if isCd (.tuple ds) = true then (if (0 : Int) ∈ (parts (.tuple ds)).map (lmeas m) then 0 else ((parts (.tuple ds)).map (lmeas m)).sum) else 0 := by
            show (if false = true then _ else _) = _
            rw [if_neg (fun z => by cases z)]
          rw [em, e0] at fin0
          rw [em, e0] at q
          cases ds with
          | nil =>
            cases ha
            exact iteT (iteT (fin0 rfl))
          | cons o ds =>
            cases ha with
            | @cons x0 xr _ _ h1 h2 =>
              have hl' := dpAll_len h2
              have ec : isCd (.tuple (o :: ds)) = (decide (2 ≤ ds.length) && isOp o) := rfl
              refine ite2 (fun c => iteT (fin0 ?_)) (fun c => ?_)
              · have c' : (((x0 :: xr).length : Nat) : Int) < 3 := of_decide_eq_true c
                rw [List.length_cons] at c'
                rw [ec, decide_eq_false (by omega), Bool.false_and, if_neg (fun z => by cases z)]
              · have c' : ¬ (((x0 :: xr).length : Nat) : Int) < 3 := of_decide_eq_false (Bool.eq_false_iff.mpr c)
                rw [List.length_cons] at c'
                rw [ec, decide_eq_true (by omega), Bool.true_and] at q fin0
                refine ⟨_, rfl, a, _, _, x0, rfl, rfl, hs, at0, (by show 2 ≤ sizeLine; decide), fun t nt => ?_⟩
                have st : Same H (upd H t (.tup [.str "&", .str "|"])) := same_upd nt
                refine ⟨o, [.str "&", .str "|"], dp_same st o x0 h1, .tup (SqT.of upd_same) (.cons (.str _) (.cons (.str _) .nil)), gd_shaped (gd_parts hg).1 (by decide), by decide +kernel, _, rfl, ?_⟩
                show if (!isOp o) = true then _ else _
                cases ho : isOp o with
                | false =>
                  refine iteT ?_
                  rw [ho] at fin0
                  have q' := q _ st
                  rw [ho, if_neg (fun z => by cases z)] at q'
                  exact q'
                | true =>
                  rw [ho, if_pos rfl] at q
                  refine iteF ⟨_, rfl, 1, rfl, a, x0 :: xr, rfl, same_seqT st hs, ?_, fun p np => ?_⟩
                  · rw [show HT.sIx (x0 :: xr).length 0 (some 1) = min 1 (x0 :: xr).length from HT.sIx_nat _ 0 1, List.length_cons]
                    omega
                  have ex : cutV (x0 :: xr) (some 1) none = xr := by rw [cut_drop1]; rfl
                  rw [ex]
                  have sp := same_upd (o := .tup xr) np
                  have gp := (gd_parts hg).2
                  refine ⟨p, rfl, ⟨_, SqT.of upd_same⟩, fun D nD => lc_tup (xs := xr) (fun i H1 => Same (upd (upd H t (.tup [.str "&", .str "|"])) p (.tup xr)) H1 ∧ H1 D = some (.lst (((ds.take i).map (lmeas m)).map V.int))) ?_ ?_ ?_ ?_⟩
                  · exact ⟨same_upd nD, by rw [upd_same]; rfl⟩
                  · rintro i H1 hi ⟨sm, e⟩
                    exact SqT.of (sm _ _ upd_same)
                  · rintro i x H1 hx ⟨sm, e⟩
                    obtain ⟨d', hd', hD'⟩ := dpAll_get h2 hx
                    have hDs : Dp K H1 x d' := dp_same (st.trans (sp.trans sm)) d' x hD'
                    refine ⟨rfl, ?_⟩
                    dsimp only [tYes]
                    rw [if_pos rfl]
                    refine ⟨_, rfl, _, rfl, _, _, rfl, rfl, x, d', md - 1, rfl, hDs, gd_le (gp d' (List.mem_of_getElem? hd')) (by decide), by omega, by omega, fun H2 s2 => ?_⟩
                    refine ⟨_, s2 _ _ e, ?_, ?_, ?_⟩
                    · rw [List.length_map, List.length_map, List.length_take]
                      have lds := (gd_tuple hg).1
                      rw [List.length_cons] at lds
                      exact small1000 (by omega)
                    · intro b o' eb
                      have bD : b ≠ D := ne_of_none eb nD
                      rw [upd_ne bD]
                      exact s2 _ _ (sm _ _ eb)
                    · rw [upd_same, List.take_add_one, hd', em']
                      simp
                  · rintro H1 ⟨sm, e⟩
                    have et : ds.take xr.length = ds := List.take_of_length_le (by omega)
                    rw [et] at e
                    have ep : parts (.tuple (o :: ds)) = ds := rfl
                    have q' := q H1 (st.trans (sp.trans sm))
                    rw [ep] at q'
                    refine ⟨_, rfl, D, _, rfl, .inl (SqL.of e), rfl, flat_ints _, _, rfl, ?_⟩
                    show if inV (.int 0) ((ds.map (lmeas m)).map V.int) = true then _ else _
                    rw [in_ints]
                    refine ite2 (fun c => ?_) (fun c => ?_)
                    · rw [if_pos (of_decide_eq_true c)] at q'
                      exact q'
                    · rw [if_neg (of_decide_eq_false (Bool.eq_false_iff.mpr c))] at q'
                      exact ⟨_, rfl, D, _, rfl, SqL.of e, q'⟩
    | none => exact iteF ⟨_, rfl, _, _, rfl, rfl, _, rfl, ite2 (fun c => iteT (fin1 rfl rfl)) fun c => ⟨_, rfl, _, _, _, rfl, by decide, hd, _, rfl, iteT (iteT (fin1 rfl rfl))⟩⟩
    | bool b => exact iteF ⟨_, rfl, _, _, rfl, rfl, _, rfl, ite2 (fun c => iteT (fin1 rfl rfl)) fun c => ⟨_, rfl, _, _, _, rfl, by decide, hd, _, rfl, iteT (iteT (fin1 rfl rfl))⟩⟩
    | int i => exact iteF ⟨_, rfl, _, _, rfl, rfl, _, rfl, ite2 (fun c => iteT (fin1 rfl rfl)) fun c => ⟨_, rfl, _, _, _, rfl, by decide, hd, _, rfl, iteT (iteT (fin1 rfl rfl))⟩⟩
    | list ds => exact iteF ⟨_, rfl, _, _, rfl, rfl, _, rfl, ite2 (fun c => iteT (fin1 rfl rfl)) fun c => ⟨_, rfl, _, _, _, rfl, by decide, hd, _, rfl, iteT (iteT (fin1 rfl rfl))⟩⟩
    | dict ds => cases hd
end
end Fv


namespace Fv
open PySem PySem.Spec PyProof.Rows L2
section
variable {P : Program} {w : World} {K : PySem.W.Frag} {mg : Str → Option Value} {base : Heap}
theorem measure_zero {f : Addr} {fd : FuncData} {k : Nat} : FnOk P w K mg base CX0 k f fd ["_law_word", "_law_deep"] (spMeasure K 0) := by
  have no : ∀ vs H Q E, ¬ spMeasure K 0 vs H Q E := fun vs H Q E h => by
    obtain ⟨v, d, md, _, _, _, m0, m1, _⟩ := h
    omega
  exact ⟨fun vs H Q E h => absurd h (no vs H Q E), fun A outer s H args us vs Q E _ _ _ _ h => absurd h (no vs H Q E)⟩
theorem same_zero {f : Addr} {fd : FuncData} {k : Nat} : FnOk P w K mg base CX0 k f fd ["_law_found", "_law_due"] (spSame K 0) := by
  have no : ∀ vs H Q E, ¬ spSame K 0 vs H Q E := fun vs H Q E h => by
    obtain ⟨v, v', d, m, _, _, _, m1, _⟩ := h
    omega
  exact ⟨fun vs H Q E h => absurd h (no vs H Q E), fun A outer s H args us vs Q E _ _ _ _ h => absurd h (no vs H Q E)⟩
theorem ok_fits {f : Addr} {fd : FuncData} {k : Nat} (F : Fun K "_law_fits" "_law_fits" s_law_fits f fd)
    (C_law_measure : Own P w K mg base k "_law_measure" ["_law_word", "_law_deep"] (spMeasure K 20)) :
    FnOk P w K mg base CX0 (k + 1) f fd ["_law_word"] (spFits K) := by
  refine F.ok sc_law_fits (fun vs H Q E h => ?_) (fun cdv A outer s H vs Q E hr h => ?_)
  · obtain ⟨v, d, rfl, _⟩ := h
    rfl
  · obtain ⟨v, d, rfl, hd, hg, q⟩ := h
    refine ⟨_, (pss_one (ps_ret (pe_chain op_le op_le pe_int (pe_own C_law_measure (hr.mono (by omega)) (by rfl) (pa_cons (pv 0) (pa_cons pe_int pa_nil))) pe_int))), ?_⟩
    refine ⟨_, rfl, v, d, 5, rfl, hd, hg, by decide, by decide, fun H' s' => ?_⟩
    have q' := q H' s'
    refine ⟨_, _, rfl, rfl, _, rfl, ?_⟩
    refine ite2 (fun c => ?_) (fun c => ?_)
    · refine ⟨_, _, rfl, rfl, ?_⟩
      rw [show decide ((1 : Int) ≤ lmeas 5 d) = true from c, Bool.true_and] at q'
      exact q'
    · rw [show decide ((1 : Int) ≤ lmeas 5 d) = false from Bool.eq_false_iff.mpr c, Bool.false_and] at q'
      exact q'
theorem ok_same {f : Addr} {fd : FuncData} {k n : Nat} (F : Fun K "_law_same" "_law_same" s_law_same f fd) (m_isinstance : mg "isinstance" = none) (m_bool : mg "bool" = none) (m_int : mg "int" = none) (m_str : mg "str" = none) (m_dict : mg "dict" = none)
    (m_list : mg "list" = none) (m_tuple : mg "tuple" = none) (m_len : mg "len" = none) (m_all : mg "all" = none) (m_zip : mg "zip" = none)
    (C_law_same : Own P w K mg base k "_law_same" ["_law_found", "_law_due"] (spSame K n)) :
    FnOk P w K mg base CX0 (k + 1) f fd ["_law_found", "_law_due"] (spSame K (n + 1)) := by
  refine F.ok sc_law_same (fun vs H Q E h => ?_) (fun cdv A outer s H vs Q E hr h => ?_)
  · obtain ⟨v, v', d, m, rfl, _⟩ := h
    rfl
  · obtain ⟨v, v', d, m, rfl, hd, hd', hm, hg, q⟩ := h
    refine ⟨_, (pss_cons (ps_if (PW.pt (pw_or (pt_cmpR op_isN (pv 1) pe_non (nomark _)) (pw_or1 (pt_cmpR op_isN (pv 0) pe_non (nomark _)))))
        (pss_one (ps_ret (pe_and (pe_cmpR op_isN (pv 1) pe_non (nomark _)) (pe_one (pe_cmpR op_isN (pv 0) pe_non (nomark _))))))
        pss_nil)
      (pss_cons (ps_if (PW.pt (pw_or (pt_val (pe_isD (T := "bool") (by rfl) m_isinstance (by rfl) m_bool (pv 1))) (pw_or1 (pt_val (pe_isD (T := "bool") (by rfl) m_isinstance (by rfl) m_bool (pv 0))))))
        (pss_one (ps_ret (pe_and (pe_isD (T := "bool") (by rfl) m_isinstance (by rfl) m_bool (pv 1)) (pe_and (pe_isD (T := "bool") (by rfl) m_isinstance (by rfl) m_bool (pv 0)) (pe_one (pe_cmpR op_eq (pv 0) (pv 1) (nomark _)))))))
        pss_nil)
      (pss_cons (ps_if (PW.pt (pw_or (pt_val (pe_isD (T := "int") (by rfl) m_isinstance (by rfl) m_int (pv 1))) (pw_or1 (pt_val (pe_isD (T := "str") (by rfl) m_isinstance (by rfl) m_str (pv 1))))))
        (pss_one (ps_ret (pe_and (pe_cmpR op_eq (pe_isD (T := "int") (by rfl) m_isinstance (by rfl) m_int (pv 0)) (pe_isD (T := "int") (by rfl) m_isinstance (by rfl) m_int (pv 1)) (nomark _)) (pe_one (pe_cmpR op_eq (pv 0) (pv 1) (nomark _))))))
        pss_nil)
      (pss_cons (ps_if (pt_val (pe_isD (T := "dict") (by rfl) m_isinstance (by rfl) m_dict (pv 1)))
        pss_never
        pss_nil)
      (pss_cons (ps_if (PW.pt (pw_or (pt_cmpR op_ne (pe_isD (T := "list") (by rfl) m_isinstance (by rfl) m_list (pv 0)) (pe_isD (T := "list") (by rfl) m_isinstance (by rfl) m_list (pv 1)) (nomark _)) (pw_or1 (pt_cmpR op_ne (pe_isD (T := "tuple") (by rfl) m_isinstance (by rfl) m_tuple (pv 0)) (pe_isD (T := "tuple") (by rfl) m_isinstance (by rfl) m_tuple (pv 1)) (nomark _)))))
        (pss_one (ps_ret pe_bl))
        pss_nil)
      (pss_one (ps_ret (pe_and (pe_cmpR op_eq (pe_callB call_len_seq (by rfl) m_len (by decide +kernel) (pa_cons (pv 0) pa_nil)) (pe_callB call_len_seq (by rfl) m_len (by decide +kernel) (pa_cons (pv 1) pa_nil)) (nomark _)) (pe_one (pe_callB (cr_all rfl) (by rfl) m_all (by decide +kernel) (pa_cons (pe_lc (own := [("_law_one", 3), ("_law_other", 4)]) (g := gTup K 2 (gCons (gName 3) (gCons (gName 4) gNil))) (by rfl) sc_law_same.nd (RZ.pi_zipA (by rfl) m_zip (pa_cons (pv 0) (pa_cons (pv 1) pa_nil))) (blkOk_by (own := [("_law_one", 3), ("_law_other", 4)]) (N := N_law_same) (sc := defScope s_law_same) (by decide +kernel)) (fun _ _ _ _ _ => (pg_tup rfl (pgs_cons (pg_name (i := 3) sc_law_same.nd rfl (Or.inl rfl) (hf := Or.inr rfl)) (pgs_cons (pg_name (i := 4) sc_law_same.nd rfl (Or.inl rfl) (hf := Or.inr rfl)) pgs_nil)))) (fun _ _ _ _ _ => pts_nil) (fun _ _ _ _ _ => (pe_own C_law_same (hr.mono (by omega)) (by rfl) (pa_cons (pv 3) (pa_cons (pv 4) pa_nil))))) pa_nil))))))))))), ?_⟩
    have q0 := q H (Same.refl H)
    cases d with
    | none =>
      cases hd
      cases hd'
      exact ⟨_, rfl, rfl, _, rfl, iteT (iteT ⟨_, rfl, rfl, _, rfl, iteT ⟨_, rfl, rfl, q0⟩⟩)⟩
    | bool b =>
      refine ⟨_, rfl, rfl, _, rfl, ?_⟩
      cases hd
      cases hd'
      refine iteF ⟨_, rfl, rfl, _, rfl, iteF ?_⟩
      refine ⟨_, rfl, _, _, _, rfl, by decide, .bl b, _, rfl, iteT (iteT ⟨_, rfl, _, _, _, rfl, by decide, .bl b, _, rfl, iteT ⟨_, rfl, _, _, _, rfl, by decide, .bl b, _, rfl, iteT ⟨_, rfl, _, rfl, rfl, ?_⟩⟩⟩)⟩
      rw [decide_eq_true rfl]
      exact q0
    | int i =>
      refine ⟨_, rfl, rfl, _, rfl, ?_⟩
      cases hd
      cases hd'
      refine iteF ⟨_, rfl, rfl, _, rfl, iteF ?_⟩
      refine ⟨_, rfl, _, _, _, rfl, by decide, .int i, _, rfl, iteF ⟨_, rfl, _, _, _, rfl, by decide, .int i, _, rfl, iteF ?_⟩⟩
      refine ⟨_, rfl, _, _, _, rfl, by decide, .int i, _, rfl, iteT (iteT ⟨_, rfl, _, _, _, rfl, by decide, .int i, _, rfl, _, _, _, rfl, by decide, .int i, rfl, _, rfl, iteT ⟨_, rfl, _, rfl, rfl, ?_⟩⟩)⟩
      rw [decide_eq_true rfl]
      exact q0
    | str x =>
      refine ⟨_, rfl, rfl, _, rfl, ?_⟩
      cases hd
      cases hd'
      refine iteF ⟨_, rfl, rfl, _, rfl, iteF ?_⟩
      refine ⟨_, rfl, _, _, _, rfl, by decide, .str x, _, rfl, iteF ⟨_, rfl, _, _, _, rfl, by decide, .str x, _, rfl, iteF ?_⟩⟩
      refine ⟨_, rfl, _, _, _, rfl, by decide, .str x, _, rfl, iteF ⟨_, rfl, _, _, _, rfl, by decide, .str x, _, rfl, iteT ⟨_, rfl, _, _, _, rfl, by decide, .str x, _, rfl, _, _, _, rfl, by decide, .str x, rfl, _, rfl, iteT ⟨_, rfl, _, rfl, rfl, ?_⟩⟩⟩⟩
      rw [decide_eq_true rfl]
      exact q0
    | dict kvs => cases hd
    | list ds =>
      obtain ⟨a, xs, hs, ha, rfl⟩ : ∃ a xs, SqL K H a xs ∧ DpAll K H xs ds ∧ v = .ref a := by
        cases hd with | lst hs ha => exact ⟨_, _, hs, ha, rfl⟩
      obtain ⟨b, ys, hs', ha', rfl⟩ : ∃ b ys, SqL K H b ys ∧ DpAll K H ys ds ∧ v' = .ref b := by
        cases hd' with | lst hs ha => exact ⟨_, _, hs, ha, rfl⟩
      have D1 : Dp K H (.ref a) (.list ds) := .lst hs ha
      have D2 : Dp K H (.ref b) (.list ds) := .lst hs' ha'
      cases m with
      | zero => cases hg
      | succ m =>
      obtain ⟨lds, gds⟩ := gd_list hg
      have lx := dpAll_len ha
      have ly := dpAll_len ha'
      refine ⟨_, rfl, rfl, _, rfl, iteF ⟨_, rfl, rfl, _, rfl, iteF ?_⟩⟩
      refine ⟨_, rfl, _, _, _, rfl, by decide, D2, _, rfl, iteF ⟨_, rfl, _, _, _, rfl, by decide, D1, _, rfl, iteF ?_⟩⟩
      refine ⟨_, rfl, _, _, _, rfl, by decide, D2, _, rfl, iteF ⟨_, rfl, _, _, _, rfl, by decide, D2, _, rfl, iteF ?_⟩⟩
      refine ⟨_, rfl, _, _, _, rfl, by decide, D2, _, rfl, iteF ?_⟩
      refine ⟨_, rfl, _, _, _, rfl, by decide, D1, _, rfl, _, _, _, rfl, by decide, D2, rfl, _, rfl, iteF ⟨_, rfl, _, _, _, rfl, by decide, D1, _, rfl, _, _, _, rfl, by decide, D2, rfl, _, rfl, iteF ?_⟩⟩
      refine ⟨_, rfl, a, xs, rfl, .inl hs, _, rfl, b, ys, rfl, .inl hs', rfl, _, rfl, ?_⟩
      rw [lx, ly, decide_eq_true rfl]
      refine iteT ⟨_, rfl, _, rfl, a, b, xs, ys, rfl, .inl ⟨hs, hs', fun D nD => ?_⟩⟩
      refine lc_it (walk_zip (xs := xs) (ys := ys) (n := ds.length) (by omega)) (fun i H1 => Same H H1 ∧ H1 D = some (.lst ((List.replicate i true).map V.bl))) ⟨same_upd nD, upd_same⟩ (fun i H1 _ p => ⟨p.1.seq hs, p.1.seq hs'⟩) ?_ ?_
      · rintro i x H1 H2 hi ⟨sm, e⟩ ⟨T, x1, y1, rfl, nT, rfl, e1, e2⟩
        have sT : Same H1 (upd H1 T (.tup [x1, y1])) := same_upd nT
        obtain ⟨d1, g1, h1⟩ := dpAll_get ha e1
        obtain ⟨d2, g2, h2⟩ := dpAll_get ha' e2
        have ed : d2 = d1 := Option.some.inj (g2.symm.trans g1)
        subst ed
        refine ⟨T, [x1, y1], rfl, .inl (.inl upd_same), rfl, x1, [y1], rfl, y1, [], rfl, rfl, rfl, ?_⟩
        dsimp only [tYes]
        rw [if_pos rfl]
        refine ⟨_, rfl, _, rfl, x1, y1, d2, m, rfl, dp_same (sm.trans sT) _ _ h1, dp_same (sm.trans sT) _ _ h2, by omega, gds _ (List.mem_of_getElem? g1), fun H3 s3 => ?_⟩
        have e3 : H3 D = some (.lst ((List.replicate i true).map V.bl)) := s3 _ _ (sT _ _ e)
        refine ⟨_, e3, ?_, fun b' o' eb => ?_, ?_⟩
        · rw [List.length_map, List.length_replicate]
          exact small1000 (by omega)
        · rw [upd_ne (ne_of_none eb nD)]
          exact s3 _ _ (sT _ _ (sm _ _ eb))
        · rw [upd_same, List.replicate_succ']
          simp
      · rintro H1 ⟨sm, e⟩
        refine ⟨D, _, rfl, SqL.of e, ?_⟩
        rw [show (List.replicate ds.length true).all id = true by simp]
        exact q H1 sm
    | tuple ds =>
      obtain ⟨a, xs, hs, ha, rfl⟩ : ∃ a xs, SqT K H a xs ∧ DpAll K H xs ds ∧ v = .ref a := by
        cases hd with | tup hs ha => exact ⟨_, _, hs, ha, rfl⟩
      obtain ⟨b, ys, hs', ha', rfl⟩ : ∃ b ys, SqT K H b ys ∧ DpAll K H ys ds ∧ v' = .ref b := by
        cases hd' with | tup hs ha => exact ⟨_, _, hs, ha, rfl⟩
      have D1 : Dp K H (.ref a) (.tuple ds) := .tup hs ha
      have D2 : Dp K H (.ref b) (.tuple ds) := .tup hs' ha'
      cases m with
      | zero => cases hg
      | succ m =>
      obtain ⟨lds, gds⟩ := gd_tuple hg
      have lx := dpAll_len ha
      have ly := dpAll_len ha'
      refine ⟨_, rfl, rfl, _, rfl, iteF ⟨_, rfl, rfl, _, rfl, iteF ?_⟩⟩
      refine ⟨_, rfl, _, _, _, rfl, by decide, D2, _, rfl, iteF ⟨_, rfl, _, _, _, rfl, by decide, D1, _, rfl, iteF ?_⟩⟩
      refine ⟨_, rfl, _, _, _, rfl, by decide, D2, _, rfl, iteF ⟨_, rfl, _, _, _, rfl, by decide, D2, _, rfl, iteF ?_⟩⟩
      refine ⟨_, rfl, _, _, _, rfl, by decide, D2, _, rfl, iteF ?_⟩
      refine ⟨_, rfl, _, _, _, rfl, by decide, D1, _, rfl, _, _, _, rfl, by decide, D2, rfl, _, rfl, iteF ⟨_, rfl, _, _, _, rfl, by decide, D1, _, rfl, _, _, _, rfl, by decide, D2, rfl, _, rfl, iteF ?_⟩⟩
      refine ⟨_, rfl, a, xs, rfl, .inr hs, _, rfl, b, ys, rfl, .inr hs', rfl, _, rfl, ?_⟩
      rw [lx, ly, decide_eq_true rfl]
      refine iteT ⟨_, rfl, _, rfl, a, b, xs, ys, rfl, .inr ⟨hs, hs', fun D nD => ?_⟩⟩
      refine lc_it (walk_zipT (xs := xs) (ys := ys) (n := ds.length) (by omega)) (fun i H1 => Same H H1 ∧ H1 D = some (.lst ((List.replicate i true).map V.bl))) ⟨same_upd nD, upd_same⟩ (fun i H1 _ p => ⟨same_seqT p.1 hs, same_seqT p.1 hs'⟩) ?_ ?_
      · rintro i x H1 H2 hi ⟨sm, e⟩ ⟨T, x1, y1, rfl, nT, rfl, e1, e2⟩
        have sT : Same H1 (upd H1 T (.tup [x1, y1])) := same_upd nT
        obtain ⟨d1, g1, h1⟩ := dpAll_get ha e1
        obtain ⟨d2, g2, h2⟩ := dpAll_get ha' e2
        have ed : d2 = d1 := Option.some.inj (g2.symm.trans g1)
        subst ed
        refine ⟨T, [x1, y1], rfl, .inl (.inl upd_same), rfl, x1, [y1], rfl, y1, [], rfl, rfl, rfl, ?_⟩
        dsimp only [tYes]
        rw [if_pos rfl]
        refine ⟨_, rfl, _, rfl, x1, y1, d2, m, rfl, dp_same (sm.trans sT) _ _ h1, dp_same (sm.trans sT) _ _ h2, by omega, gds _ (List.mem_of_getElem? g1), fun H3 s3 => ?_⟩
        have e3 : H3 D = some (.lst ((List.replicate i true).map V.bl)) := s3 _ _ (sT _ _ e)
        refine ⟨_, e3, ?_, fun b' o' eb => ?_, ?_⟩
        · rw [List.length_map, List.length_replicate]
          exact small1000 (by omega)
        · rw [upd_ne (ne_of_none eb nD)]
          exact s3 _ _ (sT _ _ (sm _ _ eb))
        · rw [upd_same, List.replicate_succ']
          simp
      · rintro H1 ⟨sm, e⟩
        refine ⟨D, _, rfl, SqL.of e, ?_⟩
        rw [show (List.replicate ds.length true).all id = true by simp]
        exact q H1 sm
end
end Fv


namespace Fv
open PySem PySem.Spec PyProof.Rows L2
-- top 32  slots: 0:_law_source_here 1:_law_signs_here 2:_law_deep 3:_law_room 4:_law_many 5:_law_operator 6:_law_k
abbrev s_law_term : Stmt := topS 32
abbrev N_law_term : List Str := ["_law_source_here", "_law_signs_here", "_law_deep", "_law_room", "_law_many", "_law_operator", "_law_k"]
theorem sc_law_term : FnScope N_law_term ["_law_source_here", "_law_signs_here", "_law_deep", "_law_room"] (defScope s_law_term) := ⟨rfl, rfl, rfl, by decide +kernel, rfl, by decide +kernel, by decide +kernel⟩

-- top 33  slots: 0:_law_source_here 1:_law_signs_here
abbrev s_law_any_term : Stmt := topS 33
abbrev N_law_any_term : List Str := ["_law_source_here", "_law_signs_here"]
theorem sc_law_any_term : FnScope N_law_any_term ["_law_source_here"] (defScope s_law_any_term) := ⟨rfl, rfl, rfl, by decide +kernel, rfl, by decide +kernel, by decide +kernel⟩

section
variable {P : Program} {w : World} {K : PySem.W.Frag} {mg : Str → Option Value} {base : Heap}
theorem term_zero {f : Addr} {fd : FuncData} {k : Nat} : FnOk P w K mg base CX0 k f fd ["_law_source_here", "_law_signs_here", "_law_deep", "_law_room"] (spTerm K 0) := by
  have no : ∀ vs H Q E, ¬ spTerm K 0 vs H Q E := fun vs H Q E h => by
    obtain ⟨a, L, sg, r, ns, deep, m, ys, M, _, _, _, _, _, _, _, _, _, _, _, _, _, d1, d2, _⟩ := h
    omega
  exact ⟨fun vs H Q E h => absurd h (no vs H Q E), fun A outer s H args us vs Q E _ _ _ _ h => absurd h (no vs H Q E)⟩
theorem ok_term {f : Addr} {fd : FuncData} {k n : Nat} (F : Fun K "_law_term" "_law_term" s_law_term f fd) (m_tuple : mg "tuple" = none) (m_range : mg "range" = none) (hk : 2 ≤ k)
    (C_law_take : Own P w K mg base 1 "_law_take" ["_law_source_here", "_law_many"] spTake)
    (C_law_pick : Own P w K mg base 2 "_law_pick" ["_law_source_here", "_law_row"] spPick)
    (C_law_term : Own P w K mg base k "_law_term" ["_law_source_here", "_law_signs_here", "_law_deep", "_law_room"] (spTerm K n)) :
    FnOk P w K mg base CX0 (k + 1) f fd ["_law_source_here", "_law_signs_here", "_law_deep", "_law_room"] (spTerm K (n + 1)) := by
  refine F.ok sc_law_term (fun vs H Q E h => ?_) (fun cdv A outer s H vs Q E hr h => ?_)
  · obtain ⟨a, L, sg, r, ns, deep, m, ys, M, rfl, _⟩ := h
    rfl
  · obtain ⟨a, L, sg, r, ns, deep, m, ys, M, rfl, hs, hsg, y0, y8, hy, hR, sga, sgr, ra, rL, m0, m1, d1, d2, aM, rM, tM, q⟩ := h
    refine ⟨_, (pss_cons (ps_set (i := 4) sc_law_term.nd rfl (by first | exact .inl rfl | exact .inr rfl) (pe_op op_add pe_int (pe_op op_fdiv (pe_own C_law_take (hr.mono (by omega)) (by rfl) (pa_cons (pv 0) (pa_cons pe_int pa_nil))) pe_int)))
      (pss_cons (ps_if (PW.pt (pw_or (pt_cmpR op_lt (pv 2) pe_int (nomark _)) (pw_or (pt_cmpR op_lt (pe_ix ix_list (pv 3) pe_int (fun _ _ => rfl)) (pe_op op_sub (pv 4) pe_int) (nomark _)) (pw_or1 (pt_cmpR op_eq (pe_own C_law_take (hr.mono (by omega)) (by rfl) (pa_cons (pv 0) (pa_cons pe_int pa_nil))) pe_int (nomark _))))))
        (pss_one (ps_ret (pe_own C_law_pick (hr.mono (by omega)) (by rfl) (pa_cons (pv 0) (pa_cons (pv 1) pa_nil)))))
        pss_nil)
      (pss_cons (ps_asg (pe_op op_add (pe_op op_sub (pe_ix ix_list (pv 3) pe_int (fun _ _ => rfl)) (pv 4)) pe_int) (pg_sub (pv 3) pe_int set_list))
      (pss_cons (ps_set (i := 5) sc_law_term.nd rfl (by first | exact .inl rfl | exact .inr rfl) (pe_own C_law_pick (hr.mono (by omega)) (by rfl) (pa_cons (pv 0) (pa_cons (pe_lst (pa_cons pe_str (pa_cons pe_str pa_nil))) pa_nil))))
      (pss_one (ps_ret (pe_callTy call_tuple_of (by rfl) m_tuple (by decide +kernel) (pa_cons (pe_op op_cat (pe_lst (pa_cons (pv 5) pa_nil)) (pe_lc (own := [("_law_k", 6)]) (g := gName 6) (by rfl) sc_law_term.nd (pi_range1 (by rfl) m_range (pa_cons (pv 4) pa_nil)) (blkOk_by (own := [("_law_k", 6)]) (N := N_law_term) (sc := defScope s_law_term) (by decide +kernel)) (fun _ _ _ _ _ => pg_name (i := 6) sc_law_term.nd rfl (Or.inl rfl)) (fun _ _ _ _ _ => pts_nil) (fun _ _ _ _ _ => (pe_own C_law_term (hr.mono (by omega)) (by rfl) (pa_cons (pv 0) (pa_cons (pv 1) (pa_cons (pe_op op_sub (pv 2) pe_int) (pa_cons (pv 3) pa_nil)))))))) pa_nil)))))))), ?_⟩
    have fin : ∀ Hx, Src Hx a L ns → (∀ b, b ≠ a → Hx b = H b) → spPick [.ref a, .ref sg] Hx Q E0 := fun Hx hsx offx => by
      refine ⟨a, L, sg, ns, ys, rfl, hsx, sga, (offx sg sga).trans hsg, y0, by omega, fun H' v mv hs' off' => ?_⟩
      obtain ⟨x, rfl, hx⟩ := lett_data (hy v mv)
      obtain ⟨l1, l2⟩ := isL_lett hx
      refine q H' _ (.str x) m (.str x) ?_ m0 (Int.le_refl _) (gd_le l2 (Nat.zero_le _)) hs' (((off' r ra).trans (offx r ra)).trans hR) fun b o hb e => ?_
      · obtain ⟨j, ej⟩ : ∃ j, deep.toNat = j + 1 := ⟨deep.toNat - 1, by omega⟩
        rw [ej]
        show (if isL x = true then (1 : Int) else _) = _
        rw [if_pos l1]
        omega
      · have ba : b ≠ a := fun z => hb (by rw [z]; exact List.mem_cons_self ..)
        rw [off' b ba, offx b ba]
        exact e
    refine ⟨_, rfl, a, L, ns, 5, rfl, hs, by decide, by decide, fun H1 t t0 t1 hs1 off1 => ⟨_, _, rfl, rfl, ⟨by decide, by decide⟩, _, _, rfl, rfl, ?_⟩⟩
    have hR1 : H1 r = some (.lst [.int m]) := (off1 r ra).trans hR
    refine ⟨_, rfl, _, _, rfl, rfl, _, rfl, ?_⟩
    refine ite2 (fun c => iteT ⟨_, rfl, _, rfl, fin H1 hs1 off1⟩) (fun c => ?_)
    have cd : ¬ deep < 2 := of_decide_eq_false (Bool.eq_false_iff.mpr c)
    refine ⟨_, rfl, r, _, _, _, rfl, rfl, SqL.of hR1, rfl, _, rfl, _, _, rfl, rfl, _, _, rfl, rfl, _, rfl, ?_⟩
    refine ite2 (fun c => iteT ⟨_, rfl, _, rfl, fin H1 hs1 off1⟩) (fun c => ?_)
    have cm : ¬ m < 2 + t / 2 - 1 := of_decide_eq_false (Bool.eq_false_iff.mpr c)
    refine ⟨_, rfl, a, L, ns, 4, rfl, hs1, by decide, by decide, fun H2 t2 _ _ hs2 off2 => ⟨rfl, _, rfl, ?_⟩⟩
    have off12 : ∀ b, b ≠ a → H2 b = H b := fun b hb => (off2 b hb).trans (off1 b hb)
    refine ite2 (fun c => ⟨_, rfl, _, rfl, fin H2 hs2 off12⟩) (fun _ => ?_)
    have hR2 : H2 r = some (.lst [.int m]) := (off12 r ra).trans hR
    -- room[0] = room[0] - many + 1
    refine ⟨_, rfl, r, _, _, _, rfl, rfl, SqL.of hR2, rfl, _, rfl, _, _, rfl, rfl, _, _, rfl, rfl, _, rfl, r, _, _, _, rfl, rfl, hR2, rfl, ?_⟩
    have hs3 : Src (upd H2 r (.lst [.int (m - (2 + t / 2) + 1)])) a L ns := hs2.put ra rL
    have tM2 : Trk M (upd H2 r (.lst [.int (m - (2 + t / 2) + 1)])) := fun b hb => by
      by_cases br : b = r
      · rw [br]; exact ⟨_, upd_same⟩
      · rw [upd_ne br]
        by_cases ba : b = a
        · rw [ba]
          obtain ⟨_, _, _, _, e, _⟩ := hs2
          exact ⟨_, e⟩
        · rw [off12 b ba]; exact tM b hb
    -- operator
    refine ⟨_, rfl, (by show 2 ≤ sizeLine; decide), fun l nl => ?_⟩
    have sl := same_upd (o := .lst [.str "&", .str "|"]) nl
    have la : l ≠ a := (hs3.ne nl).symm
    refine ⟨a, L, l, ns, _, rfl, hs3.same sl, la, upd_same, by decide, by decide, fun H4 op mop hs4 off4 => ?_⟩
    obtain ⟨os, rfl, ho, go⟩ : ∃ os : Str, op = .str os ∧ isOp (.str os) = true ∧ gd 0 (.str os) = true := by
      rcases List.mem_cons.mp mop with e | e
      · exact ⟨_, e, isOp_str.1, by decide +kernel⟩
      · exact ⟨_, List.mem_singleton.mp e, isOp_str.2, by decide +kernel⟩
    -- what stands at H4
    have rl : r ≠ l := ne_of_none (H := upd H2 r (.lst [.int (m - (2 + t / 2) + 1)])) upd_same nl
    have hR4 : H4 r = some (.lst [.int (m - (2 + t / 2) + 1)]) := (off4 r ra).trans ((upd_ne rl).trans upd_same)
    have sm4 : SmX [a, r] H H4 := fun b o hb e => by
      have ba : b ≠ a := fun z => hb (by rw [z]; exact List.mem_cons_self ..)
      have br : b ≠ r := fun z => hb (by rw [z]; exact List.mem_cons_of_mem _ (List.mem_singleton.mpr rfl))
      rw [off4 b ba]
      exact sl b o ((upd_ne br).trans ((off12 b ba).trans e))
    have tM4 : Trk M H4 := fun b hb => by
      by_cases ba : b = a
      · rw [ba]
        obtain ⟨_, _, _, _, e, _⟩ := hs4
        exact ⟨_, e⟩
      · rw [off4 b ba]; exact (tM2.same sl) b hb
    have hsg4 : H4 sg = some (.lst ys) := sm4 _ _ (fun z => by
      rcases List.mem_cons.mp z with z | z
      · exact sga z
      · exact sgr (List.mem_singleton.mp z)) hsg
    -- [operator] + [..]
    refine ⟨_, rfl, (by show 1 ≤ sizeLine; decide), fun o1 no1 => ?_⟩
    have so := same_upd (o := .lst [.str os]) no1
    refine ⟨_, rfl, (2 + t / 2), rfl, by omega, by omega, fun D nD => ?_⟩
    have tMo : Trk M (upd H4 o1 (.lst [.str os])) := tM4.same so
    have DM : D ∉ M := tMo.ne nD
    have Da : D ≠ a := fun e => DM (e ▸ aM)
    have Dr : D ≠ r := fun e => DM (e ▸ rM)
    have sD := same_upd (o := .lst []) nD
    refine lc_range (lo := 0) (n := (2 + t / 2).toNat) (fun i Hi => ∃ (mi : Int) (acc : List V) (ds : List PyData), Src Hi a L ns ∧ Hi r = some (.lst [.int mi]) ∧ Hi D = some (.lst acc) ∧ acc.length = i ∧ DpAll K (hide (D :: M) Hi) acc ds ∧
      (∀ d ∈ ds, 1 ≤ lmeas (deep.toNat - 1) d ∧ gd (deep.toNat - 1) d = true) ∧ (ds.map (lmeas (deep.toNat - 1))).sum = (m - (2 + t / 2) + 1) - mi + i ∧ 0 ≤ mi ∧ mi ≤ m - (2 + t / 2) + 1 ∧ SmX [a, r] (upd H4 o1 (.lst [.str os])) Hi) ?_ ?_ ?_
    · refine ⟨_, [], [], (hs4.same so).same sD, sD _ _ (so _ _ hR4), upd_same, rfl, .nil, (fun d h => nomatch h), ?_, by omega, Int.le_refl _, .of_same sD⟩
      simp
    · rintro i Hi hi ⟨mi, acc, ds, hsi, hri, hDi, li, hda, hds, hsum, mi0, mi1, smi⟩
      refine ⟨rfl, ?_⟩
      dsimp only [tYes]
      rw [if_pos rfl]
      have tMi : Trk M Hi := tMo.smx smi fun b hb => by
        rcases List.mem_cons.mp hb with z | z
        · rw [z]
          obtain ⟨_, _, _, _, e, _⟩ := hsi
          exact ⟨_, e⟩
        · rw [List.mem_singleton.mp z]; exact ⟨_, hri⟩
      have hsgi : Hi sg = some (.lst ys) := smi _ _ (fun z => by
        rcases List.mem_cons.mp z with z | z
        · exact sga z
        · exact sgr (List.mem_singleton.mp z)) (so _ _ hsg4)
      refine ⟨_, rfl, _, rfl, _, rfl, _, _, rfl, rfl, _, rfl, a, L, sg, r, ns, deep - 1, mi, ys, D :: M, rfl, hsi, hsgi, y0, y8, hy, hri, sga, sgr, ra, rL, mi0, by omega, by omega, by omega, List.mem_cons_of_mem _ aM, List.mem_cons_of_mem _ rM, fun b hb => ?_, fun H5 v d m5 hd5 hl5 m50 m51 hg5 hs5 hr5 sm5 => ?_⟩
      · rcases List.mem_cons.mp hb with z | z
        · rw [z]; exact ⟨_, hDi⟩
        · exact tMi b z
      · have hD5 : H5 D = some (.lst acc) := sm5 _ _ (fun z => by
          rcases List.mem_cons.mp z with z | z
          · exact Da z
          · exact Dr (List.mem_singleton.mp z)) hDi
        have ed : (deep - 1).toNat = deep.toNat - 1 := by omega
        rw [ed] at hl5 hg5
        have hid : Same (hide (D :: M) Hi) (hide (D :: M) (upd H5 D (.lst (acc ++ [v])))) := (SmX.put (sm5.sub (M' := D :: M) fun b hb => by
          rcases List.mem_cons.mp hb with z | z
          · rw [z]; exact .inl (List.mem_cons_of_mem _ aM)
          · rw [List.mem_singleton.mp z]; exact .inl (List.mem_cons_of_mem _ rM)) (List.mem_cons_self ..)).hid
        have hid5 : Same (hide (D :: M) H5) (hide (D :: M) (upd H5 D (.lst (acc ++ [v])))) := (SmX.put (SmX.refl _ _) (List.mem_cons_self ..)).hid
        have Lr : r ≠ L := rL
        refine ⟨acc, hD5, ?_, m5, acc ++ [v], ds ++ [d], ?_, ?_, upd_same, ?_, ?_, ?_, ?_, m50, by omega, ?_⟩
        · exact small1000 (by omega)
        · refine hs5.put Da fun e => ?_
          obtain ⟨_, _, _, _, _, e2, _⟩ := hs
          have eL : (upd H4 o1 (.lst [.str os])) L = none := e ▸ nD
          obtain ⟨_, _, _, _, _, e3, _⟩ := hs4.same so
          rw [eL] at e3
          cases e3
        · rw [upd_ne Dr.symm]; exact hr5
        · rw [List.length_append, li]; rfl
        · exact dpAll_app (dpAll_same hid _ _ hda) (.cons (dp_same hid5 _ _ hd5) .nil)
        · intro d' hd'
          rcases List.mem_append.mp hd' with z | z
          · exact hds d' z
          · rw [List.mem_singleton.mp z]
            exact ⟨by omega, hg5⟩
        · rw [List.map_append, List.sum_append, hsum]
          simp only [List.map_cons, List.map_nil, List.sum_cons, List.sum_nil]
          omega
        · intro b o hb e
          rw [upd_ne (ne_of_none e nD)]
          exact sm5 b o hb (smi b o hb e)
    · rintro Hi ⟨mi, acc, ds, hsi, hri, hDi, li, hda, hds, hsum, mi0, mi1, smi⟩
      have o1a : o1 ≠ a := fun e => by
        obtain ⟨_, _, _, _, e', _⟩ := hs4
        rw [e, e'] at no1
        cases no1
      have o1r : o1 ≠ r := fun e => by
        rw [e, hR4] at no1
        cases no1
      have ho1 : Hi o1 = some (.lst [.str os]) := smi _ _ (fun z => by
        rcases List.mem_cons.mp z with z | z
        · exact o1a z
        · exact o1r (List.mem_singleton.mp z)) upd_same
      have tMi : Trk M Hi := tMo.smx smi fun b hb => by
        rcases List.mem_cons.mp hb with z | z
        · rw [z]
          obtain ⟨_, _, _, _, e, _⟩ := hsi
          exact ⟨_, e⟩
        · rw [List.mem_singleton.mp z]; exact ⟨_, hri⟩
      refine ⟨o1, D, _, _, rfl, rfl, ho1, hDi, ?_, fun cc ncc => ?_⟩
      · rw [li]
        exact le1000 (by show 1 + _ ≤ 1000; omega)
      have sc := same_upd (o := .lst ([.str os] ++ acc)) ncc
      refine ⟨cc, _, rfl, .inl ⟨SqL.of upd_same, fun p np => ?_⟩⟩
      have sp := same_upd (o := .tup ([.str os] ++ acc)) np
      have tMc : Trk M (upd Hi cc (.lst ([.str os] ++ acc))) := tMi.same sc
      have lds := dpAll_len hda
      obtain ⟨j, ej⟩ : ∃ j, deep.toNat = j + 1 := ⟨deep.toNat - 1, by omega⟩
      have ej1 : deep.toNat - 1 = j := by omega
      rw [ej1] at hds hsum
      have hidA : Same (hide (D :: M) Hi) (hide M (upd (upd Hi cc (.lst ([.str os] ++ acc))) p (.tup ([.str os] ++ acc)))) :=
        (hide_sub fun b hb => List.mem_cons_of_mem _ hb).trans (SmX.of_same (sc.trans sp)).hid
      refine q _ (.ref p) (.tuple (.str os :: ds)) mi (.tup (SqT.of (hid_at tMc np)) (.cons (.str os) (dpAll_same hidA _ _ hda))) ?_ mi0 (by omega) ?_ ((hsi.same sc).same sp) (sp _ _ (sc _ _ hri)) (sm4.trans ((SmX.of_same so).trans (smi.trans (.of_same (sc.trans sp)))))
      · rw [ej]
        refine lmeas_tup ho (by omega) (fun d hd => (hds d hd).1) ?_
        rw [hsum]
        omega
      · rw [ej]
        refine gd_tup (fun d hd => ?_) (by rw [List.length_cons]; omega)
        rcases List.mem_cons.mp hd with z | z
        · rw [z]; exact gd_le go (Nat.zero_le _)
        · exact (hds d z).2
end
end Fv


namespace Fv
open PySem PySem.Spec PyProof.Rows L2
-- top 38  slots: 0:_law_many 1:_law_word 2:_law_k
abbrev s_law_nest : Stmt := topS 38
abbrev N_law_nest : List Str := ["_law_many", "_law_word", "_law_k"]
theorem sc_law_nest : FnScope N_law_nest ["_law_many"] (defScope s_law_nest) := ⟨rfl, rfl, rfl, by decide +kernel, rfl, by decide +kernel, by decide +kernel⟩

-- top 37  slots: 0:_law_source_here 1:_law_word 2:_law_some
abbrev s_law_odd : Stmt := topS 37
abbrev N_law_odd : List Str := ["_law_source_here", "_law_word", "_law_some"]
theorem sc_law_odd : FnScope N_law_odd ["_law_source_here", "_law_word"] (defScope s_law_odd) := ⟨rfl, rfl, rfl, by decide +kernel, rfl, by decide +kernel, by decide +kernel⟩

theorem pos22 : (0 : Int) < 2 := by decide
section
variable {P : Program} {w : World} {K : PySem.W.Frag} {mg : Str → Option Value} {base : Heap}
theorem ok_any_term {f : Addr} {fd : FuncData} {k : Nat} (F : Fun K "_law_any_term" "_law_any_term" s_law_any_term f fd) (hk : 3 ≤ k)
    (C_law_take : Own P w K mg base 1 "_law_take" ["_law_source_here", "_law_many"] spTake)
    (C_law_pick : Own P w K mg base 2 "_law_pick" ["_law_source_here", "_law_row"] spPick)
    (C_law_signs : Own P w K mg base 3 "_law_signs" ["_law_source_here", "_law_most"] spSigns)
    (C_law_term : Own P w K mg base k "_law_term" ["_law_source_here", "_law_signs_here", "_law_deep", "_law_room"] (spTerm K 5)) :
    FnOk P w K mg base CX0 (k + 1) f fd ["_law_source_here"] (spAnyTerm K) := by
  refine F.ok sc_law_any_term (fun vs H Q E h => ?_) (fun cdv A outer s H vs Q E hr h => ?_)
  · obtain ⟨a, L, ns, M, rfl, _⟩ := h
    rfl
  · obtain ⟨a, L, ns, M, rfl, hs, aM, tM, q⟩ := h
    refine ⟨_, (pss_cons (ps_set (i := 1) sc_law_any_term.nd rfl (by first | exact .inl rfl | exact .inr rfl) (pe_own C_law_signs (hr.mono (by omega)) (by rfl) (pa_cons (pv 0) (pa_cons pe_int pa_nil))))
      (pss_one (ps_ret (pe_own C_law_term (hr.mono (by omega)) (by rfl) (pa_cons (pv 0) (pa_cons (pv 1) (pa_cons (pe_op op_add pe_int (pe_own C_law_take (hr.mono (by omega)) (by rfl) (pa_cons (pv 0) (pa_cons pe_int pa_nil)))) (pa_cons (pe_lst (pa_cons (pe_own C_law_pick (hr.mono (by omega)) (by rfl) (pa_cons (pv 0) (pa_cons (pe_lst (pa_cons pe_int (pa_cons pe_int (pa_cons pe_int pa_nil)))) pa_nil))) pa_nil)) pa_nil)))))))), ?_⟩
    refine ⟨_, rfl, a, L, ns, 8, rfl, hs, by decide, by decide, fun H1 sg ys y0 y8 hy _ nsg hsg hs1 sm1 => ?_⟩
    have sga : sg ≠ a := (hs.ne nsg).symm
    refine ⟨_, rfl, _, rfl, _, rfl, a, L, ns, 5, rfl, hs1, by decide, by decide, fun H2 t t0 t1 hs2 off2 => ⟨_, _, rfl, rfl, ?_⟩⟩
    refine ⟨_, rfl, (by show 3 ≤ sizeLine; decide), fun l nl => ?_⟩
    have sl := same_upd (o := .lst [.int 2, .int 7, .int 23]) nl
    refine ⟨a, L, l, ns, _, rfl, hs2.same sl, (hs2.ne nl).symm, upd_same, by decide, by decide, fun H3 v mv hs3 off3 => ?_⟩
    obtain ⟨m, rfl, m0, m23⟩ : ∃ m : Int, v = .int m ∧ 0 ≤ m ∧ m ≤ 23 := by
      simp only [List.mem_cons, List.not_mem_nil, or_false] at mv
      rcases mv with e | e | e
      · exact ⟨2, e, by decide, by decide⟩
      · exact ⟨7, e, by decide, by decide⟩
      · exact ⟨23, e, by decide, by decide⟩
    refine ⟨(by show 1 ≤ sizeLine; decide), fun r nr => ?_⟩
    have sr := same_upd (o := .lst [.int m]) nr
    have smA : SmX [a] H H3 := sm1.trans ((SmX.at off2 (List.mem_singleton.mpr rfl)).trans ((SmX.of_same sl).trans (SmX.at off3 (List.mem_singleton.mpr rfl))))
    have tM3 : Trk M H3 := tM.smx smA hs3.trk
    have hsg3 : H3 sg = some (.lst ys) := (off3 sg sga).trans (sl _ _ ((off2 sg sga).trans hsg))
    have rL : r ≠ L := fun e => by
      obtain ⟨_, _, _, _, _, e2, _⟩ := hs3
      rw [← e, nr] at e2
      cases e2
    have rn : H r = none := by
      by_cases e : r = a
      · exact absurd e (hs3.ne nr).symm
      · cases eh : H r with
        | none => rfl
        | some o =>
          have := smA r o (fun z => e (List.mem_singleton.mp z)) eh
          rw [nr] at this
          cases this
    refine ⟨a, L, sg, r, ns, 1 + t, m, ys, r :: M, rfl, hs3.same sr, sr _ _ hsg3, y0, by omega, hy, upd_same, sga, ne_of_none hsg3 nr, (hs3.ne nr).symm, rL, m0, by omega, by omega, by omega, List.mem_cons_of_mem _ aM, List.mem_cons_self .., fun b hb => ?_, fun H5 v5 d m5 hd hl m50 m51 hg hs5 hr5 sm5 => ?_⟩
    · rcases List.mem_cons.mp hb with z | z
      · rw [z]; exact ⟨_, upd_same⟩
      · exact (tM3.same sr) b z
    · refine q H5 v5 d (1 + t).toNat (dp_same (hide_sub fun b hb => List.mem_cons_of_mem _ hb) d v5 hd) (by omega) (by omega) (by omega) (by omega) hg hs5 ?_
      intro b o hb e
      have br : b ≠ r := ne_of_none e rn
      refine sm5 b o (fun z => ?_) (sr _ _ (smA b o hb e))
      rcases List.mem_cons.mp z with z | z
      · exact hb (by rw [z]; exact List.mem_singleton.mpr rfl)
      · exact br (List.mem_singleton.mp z)
theorem ok_nest {f : Addr} {fd : FuncData} {k : Nat} (F : Fun K "_law_nest" "_law_nest" s_law_nest f fd) (m_range : mg "range" = none) (m_int : mg "int" = none) :
    FnOk P w K mg base CX0 (k + 1) f fd ["_law_many"] (spNest K) := by
  refine F.ok sc_law_nest (fun vs H Q E h => ?_) (fun cdv A outer s H vs Q E hr h => ?_)
  · obtain ⟨n, M, rfl, _⟩ := h
    rfl
  · obtain ⟨n, M, rfl, hn, tM, q⟩ := h
    refine ⟨_, (pss_cons (ps_set (i := 1) sc_law_nest.nd rfl (by first | exact .inl rfl | exact .inr rfl) pe_str)
      (pss_cons (ps_for PassesOwn.never rfl (pi_range1 (by rfl) m_range (pa_cons (pv 0) pa_nil)) (pg_name (i := 2) sc_law_nest.nd rfl (by first | exact .inl rfl | exact .inr rfl))
        (pss_one (ps_set (i := 1) sc_law_nest.nd rfl (by first | exact .inl rfl | exact .inr rfl) (pe_tup (pa_cons (pe_ix ix_list (pe_lst (pa_cons pe_str (pa_cons pe_str pa_nil))) (pe_op op_mod (pe_callTy call_int1 (by rfl) m_int (by decide +kernel) (pa_cons (pv 2) pa_nil)) pe_int) (fun _ _ => rfl)) (pa_cons (pv 1) (pa_cons pe_str pa_nil)))))))
      (pss_one (ps_ret (pv 1))))), ?_⟩
    refine ⟨_, rfl, (n : Int), rfl, by omega, by omega, for_range (lo := 0) (n := (n : Int).toNat) (fun i σ Hi => ∃ (v : V) (y : Option V), σ = [some (.int (n : Nat)), some v, y] ∧ Dp K (hide M Hi) v (nestD i) ∧ Same H Hi) ?_ ?_ ?_⟩
    · exact ⟨_, none, rfl, .str _, Same.refl _⟩
    · rintro i σ Hi hi ⟨v, y, rfl, hd, sm⟩
      refine ⟨(by show 2 ≤ sizeLine; decide), fun l nl => ?_⟩
      have sl := same_upd (o := .lst [.str "&", .str "|"]) nl
      refine ⟨_, rfl, .inl ⟨_, rfl, _, _, rfl, rfl, pos22, ?_⟩⟩
      have hx : atI [V.str "&", V.str "|"] ((0 + (i : Int)) % 2) = some (.str (if i % 2 = 0 then "&" else "|")) := by
        rcases Nat.mod_two_eq_zero_or_one i with e | e
        · rw [show (0 + (i : Int)) % 2 = 0 by omega, if_pos e]; rfl
        · rw [show (0 + (i : Int)) % 2 = 1 by omega, if_neg (by omega)]; rfl
      refine ⟨l, _, _, _, rfl, rfl, SqL.of upd_same, hx, _, rfl, (by show 3 ≤ sizeLine; decide), fun p np => ?_⟩
      have sp := same_upd (o := .tup [.str (if i % 2 = 0 then "&" else "|"), v, .str "b"]) np
      refine ⟨_, _, rfl, ?_, sm.trans (sl.trans sp)⟩
      have tMi : Trk M (upd Hi l (.lst [.str "&", .str "|"])) := (tM.same sm).same sl
      exact .tup (SqT.of (hid_at tMi np)) (.cons (.str _) (.cons (dp_same (SmX.of_same (sl.trans sp)).hid _ _ hd) (.cons (.str _) .nil)))
    · rintro σ Hi ⟨v, y, rfl, hd, sm⟩
      rw [Int.toNat_natCast] at hd
      exact ⟨_, rfl, q Hi v hd sm⟩
end
end Fv


namespace Fv
open PySem PySem.Spec PyProof.Rows L2
theorem all_nil {P : V → Prop} : ∀ y ∈ ([] : List V), P y := fun y h => nomatch h
theorem all_cons {P : V → Prop} {x : V} {xs : List V} (h : P x) (t : ∀ y ∈ xs, P y) : ∀ y ∈ x :: xs, P y := fun y hy => by
  rcases List.mem_cons.mp hy with e | e
  · rw [e]; exact h
  · exact t y e
theorem all_app {P : V → Prop} {xs ys : List V} (h : ∀ y ∈ xs, P y) (t : ∀ y ∈ ys, P y) : ∀ y ∈ xs ++ ys, P y := fun y hy => by
  rcases List.mem_append.mp hy with e | e
  · exact h y e
  · exact t y e
section
variable {P : Program} {w : World} {K : PySem.W.Frag} {mg : Str → Option Value} {base : Heap}
theorem ok_odd {f : Addr} {fd : FuncData} {k : Nat} (F : Fun K "_law_odd" "_law_odd" s_law_odd f fd) (hk : 2 ≤ k)
    (C_law_pick : Own P w K mg base 2 "_law_pick" ["_law_source_here", "_law_row"] spPick)
    (C_law_nest : Own P w K mg base 1 "_law_nest" ["_law_many"] (spNest K)) :
    FnOk P w K mg base CX0 (k + 1) f fd ["_law_source_here", "_law_word"] (spOdd K) := by
  refine F.ok sc_law_odd (fun vs H Q E h => ?_) (fun cdv A outer s H vs Q E hr h => ?_)
  · obtain ⟨a, L, ns, v, M, rfl, _⟩ := h
    rfl
  · obtain ⟨a, L, ns, v, M, rfl, hs, gw, aM, t0, q⟩ := h
    have a0 : Same H H := Same.refl H
    refine ⟨_, (pss_cons (ps_set (i := 2) sc_law_odd.nd rfl (by first | exact .inl rfl | exact .inr rfl) (pe_lst (pa_cons pe_non (pa_cons pe_int (pa_cons pe_str (pa_cons pe_str (pa_cons pe_str (pa_cons pe_str (pa_cons (pe_tup pa_nil) (pa_cons (pe_tup (pa_cons pe_str pa_nil)) (pa_cons (pe_tup (pa_cons pe_str (pa_cons pe_str pa_nil))) (pa_cons (pe_tup (pa_cons pe_str (pa_cons pe_str (pa_cons pe_str pa_nil)))) (pa_cons (pe_tup (pa_cons pe_str (pa_cons pe_str (pa_cons pe_str pa_nil)))) (pa_cons (pe_lst (pa_cons pe_str (pa_cons pe_str (pa_cons pe_str pa_nil)))) pa_nil))))))))))))))
      (pss_cons (ps_set (i := 2) sc_law_odd.nd rfl (by first | exact .inl rfl | exact .inr rfl) (pe_op op_cat (pv 2) (pe_lst (pa_cons (pe_tup (pa_cons pe_str (pa_cons pe_str (pa_cons pe_non pa_nil)))) (pa_cons (pe_tup (pa_cons pe_str (pa_cons (pv 1) (pa_cons (pe_tup (pa_cons pe_str (pa_cons pe_str pa_nil))) pa_nil)))) (pa_cons (pe_tup (pa_cons (pv 1) pa_nil)) (pa_cons (pe_tup (pa_cons pe_str (pa_cons (pe_tup (pa_cons pe_str (pa_cons pe_str pa_nil))) (pa_cons (pv 1) pa_nil)))) (pa_cons (pe_tup (pa_cons pe_bl (pa_cons pe_str (pa_cons pe_str pa_nil)))) pa_nil))))))))
      (pss_cons (ps_set (i := 2) sc_law_odd.nd rfl (by first | exact .inl rfl | exact .inr rfl) (pe_op op_cat (pv 2) (pe_lst (pa_cons (pe_tup (pa_cons pe_str (pa_cons (pe_lst (pa_cons pe_str pa_nil)) (pa_cons (pv 1) pa_nil)))) (pa_cons (pe_tup (pa_cons pe_str (pa_cons (pv 1) (pa_cons pe_str pa_nil)))) (pa_cons (pe_tup (pa_cons pe_str (pa_cons (pv 1) (pa_cons (pv 1) pa_nil)))) (pa_cons (pe_tup (pa_cons (pe_tup (pa_cons pe_str (pa_cons pe_str (pa_cons pe_str pa_nil)))) (pa_cons pe_str (pa_cons pe_str pa_nil)))) (pa_cons (pe_own C_law_nest (hr.mono (by omega)) (by rfl) (pa_cons pe_int pa_nil)) pa_nil))))))))
      (pss_one (ps_ret (pe_own C_law_pick (hr.mono (by omega)) (by rfl) (pa_cons (pv 0) (pa_cons (pv 2) pa_nil)))))))), ?_⟩
    refine ⟨(by show 0 ≤ sizeLine; decide), fun p1 n1 => ?_⟩
    have s1 := same_upd (o := .tup []) n1
    have g1 : GV K 1 M _ (.ref p1) := GV.tup (n := 0) (xs := []) t0 n1 all_nil (Nat.le_of_ble_eq_true rfl)
    have a1 := a0.trans s1
    have t1 := t0.same s1
    refine ⟨(by show 1 ≤ sizeLine; decide), fun p2 n2 => ?_⟩
    have s2 := same_upd (o := .tup [.str "&"]) n2
    have g2 : GV K 1 M _ (.ref p2) := GV.tup (n := 0) (xs := [.str "&"]) t1 n2 (all_cons (GV.str (x := "&") (by decide +kernel)) all_nil) (Nat.le_of_ble_eq_true rfl)
    have a2 := a1.trans s2
    have t2 := t1.same s2
    refine ⟨(by show 2 ≤ sizeLine; decide), fun p3 n3 => ?_⟩
    have s3 := same_upd (o := .tup [.str "&", .str "a"]) n3
    have g3 : GV K 1 M _ (.ref p3) := GV.tup (n := 0) (xs := [.str "&", .str "a"]) t2 n3 (all_cons (GV.str (x := "&") (by decide +kernel)) (all_cons (GV.str (x := "a") (by decide +kernel)) all_nil)) (Nat.le_of_ble_eq_true rfl)
    have a3 := a2.trans s3
    have t3 := t2.same s3
    refine ⟨(by show 3 ≤ sizeLine; decide), fun p4 n4 => ?_⟩
    have s4 := same_upd (o := .tup [.str "|", .str "a", .str "z"]) n4
    have g4 : GV K 1 M _ (.ref p4) := GV.tup (n := 0) (xs := [.str "|", .str "a", .str "z"]) t3 n4 (all_cons (GV.str (x := "|") (by decide +kernel)) (all_cons (GV.str (x := "a") (by decide +kernel)) (all_cons (GV.str (x := "z") (by decide +kernel)) all_nil))) (Nat.le_of_ble_eq_true rfl)
    have a4 := a3.trans s4
    have t4 := t3.same s4
    refine ⟨(by show 3 ≤ sizeLine; decide), fun p5 n5 => ?_⟩
    have s5 := same_upd (o := .tup [.str "and", .str "a", .str "b"]) n5
    have g5 : GV K 1 M _ (.ref p5) := GV.tup (n := 0) (xs := [.str "and", .str "a", .str "b"]) t4 n5 (all_cons (GV.str (x := "and") (by decide +kernel)) (all_cons (GV.str (x := "a") (by decide +kernel)) (all_cons (GV.str (x := "b") (by decide +kernel)) all_nil))) (Nat.le_of_ble_eq_true rfl)
    have a5 := a4.trans s5
    have t5 := t4.same s5
    refine ⟨(by show 3 ≤ sizeLine; decide), fun p6 n6 => ?_⟩
    have s6 := same_upd (o := .lst [.str "&", .str "a", .str "b"]) n6
    have g6 : GV K 1 M _ (.ref p6) := GV.lst (n := 0) (xs := [.str "&", .str "a", .str "b"]) t5 n6 (all_cons (GV.str (x := "&") (by decide +kernel)) (all_cons (GV.str (x := "a") (by decide +kernel)) (all_cons (GV.str (x := "b") (by decide +kernel)) all_nil))) (Nat.le_of_ble_eq_true rfl)
    have a6 := a5.trans s6
    have t6 := t5.same s6
    refine ⟨(by show 12 ≤ sizeLine; decide), fun l1 nl1 => ?_⟩
    have s7 := same_upd (o := .lst [.non, .int 3, .str "", .str "i", .str "A", .str "ab", .ref p1, .ref p2, .ref p3, .ref p4, .ref p5, .ref p6]) nl1
    have a7 := a6.trans s7
    have t7 := t6.same s7
    refine ⟨_, rfl, ?_⟩
    refine ⟨(by show 3 ≤ sizeLine; decide), fun p8 n8 => ?_⟩
    have s8 := same_upd (o := .tup [.str "&", .str "a", .non]) n8
    have g8 : GV K 1 M _ (.ref p8) := GV.tup (n := 0) (xs := [.str "&", .str "a", .non]) t7 n8 (all_cons (GV.str (x := "&") (by decide +kernel)) (all_cons (GV.str (x := "a") (by decide +kernel)) (all_cons GV.non all_nil))) (Nat.le_of_ble_eq_true rfl)
    have a8 := a7.trans s8
    have t8 := t7.same s8
    refine ⟨_, rfl, ?_⟩
    refine ⟨(by show 2 ≤ sizeLine; decide), fun p9 n9 => ?_⟩
    have s9 := same_upd (o := .tup [.str "a", .str "b"]) n9
    have g9 : GV K 1 M _ (.ref p9) := GV.tup (n := 0) (xs := [.str "a", .str "b"]) t8 n9 (all_cons (GV.str (x := "a") (by decide +kernel)) (all_cons (GV.str (x := "b") (by decide +kernel)) all_nil)) (Nat.le_of_ble_eq_true rfl)
    have a9 := a8.trans s9
    have t9 := t8.same s9
    refine ⟨(by show 3 ≤ sizeLine; decide), fun p10 n10 => ?_⟩
    have s10 := same_upd (o := .tup [.str "&", v, .ref p9]) n10
    have g10 : GV K 6 M _ (.ref p10) := GV.tup (n := 5) (xs := [.str "&", v, .ref p9]) t9 n10 (all_cons (GV.str (x := "&") (by decide +kernel)) (all_cons (gw.same a9) (all_cons (g9.up (by decide)) all_nil))) (Nat.le_of_ble_eq_true rfl)
    have a10 := a9.trans s10
    have t10 := t9.same s10
    refine ⟨_, rfl, ?_⟩
    refine ⟨(by show 1 ≤ sizeLine; decide), fun p11 n11 => ?_⟩
    have s11 := same_upd (o := .tup [v]) n11
    have g11 : GV K 6 M _ (.ref p11) := GV.tup (n := 5) (xs := [v]) t10 n11 (all_cons (gw.same a10) all_nil) (Nat.le_of_ble_eq_true rfl)
    have a11 := a10.trans s11
    have t11 := t10.same s11
    refine ⟨(by show 2 ≤ sizeLine; decide), fun p12 n12 => ?_⟩
    have s12 := same_upd (o := .tup [.str "|", .str "b"]) n12
    have g12 : GV K 1 M _ (.ref p12) := GV.tup (n := 0) (xs := [.str "|", .str "b"]) t11 n12 (all_cons (GV.str (x := "|") (by decide +kernel)) (all_cons (GV.str (x := "b") (by decide +kernel)) all_nil)) (Nat.le_of_ble_eq_true rfl)
    have a12 := a11.trans s12
    have t12 := t11.same s12
    refine ⟨_, rfl, ?_⟩
    refine ⟨(by show 3 ≤ sizeLine; decide), fun p13 n13 => ?_⟩
    have s13 := same_upd (o := .tup [.str "&", .ref p12, v]) n13
    have g13 : GV K 6 M _ (.ref p13) := GV.tup (n := 5) (xs := [.str "&", .ref p12, v]) t12 n13 (all_cons (GV.str (x := "&") (by decide +kernel)) (all_cons (g12.up (by decide)) (all_cons (gw.same a12) all_nil))) (Nat.le_of_ble_eq_true rfl)
    have a13 := a12.trans s13
    have t13 := t12.same s13
    refine ⟨(by show 3 ≤ sizeLine; decide), fun p14 n14 => ?_⟩
    have s14 := same_upd (o := .tup [.bl true, .str "a", .str "b"]) n14
    have g14 : GV K 1 M _ (.ref p14) := GV.tup (n := 0) (xs := [.bl true, .str "a", .str "b"]) t13 n14 (all_cons (GV.bl _) (all_cons (GV.str (x := "a") (by decide +kernel)) (all_cons (GV.str (x := "b") (by decide +kernel)) all_nil))) (Nat.le_of_ble_eq_true rfl)
    have a14 := a13.trans s14
    have t14 := t13.same s14
    refine ⟨(by show 5 ≤ sizeLine; decide), fun m0 nm0 => ?_⟩
    have s15 := same_upd (o := .lst [.ref p8, .ref p10, .ref p11, .ref p13, .ref p14]) nm0
    have a15 := a14.trans s15
    have t15 := t14.same s15
    have hp0 : _ := (s8.trans (s9.trans (s10.trans (s11.trans (s12.trans (s13.trans (s14.trans s15))))))) _ _ (upd_same (o := .lst ([.non, .int 3, .str "", .str "i", .str "A", .str "ab", .ref p1, .ref p2, .ref p3, .ref p4, .ref p5, .ref p6])))
    refine ⟨l1, m0, _, _, rfl, rfl, hp0, upd_same, le1000 (Nat.le_of_ble_eq_true rfl), fun c0 nc0 => ?_⟩
    have s16 := same_upd (o := .lst ([.non, .int 3, .str "", .str "i", .str "A", .str "ab", .ref p1, .ref p2, .ref p3, .ref p4, .ref p5, .ref p6] ++ [.ref p8, .ref p10, .ref p11, .ref p13, .ref p14])) nc0
    have a16 := a15.trans s16
    have t16 := t15.same s16
    refine ⟨_, rfl, ?_⟩
    refine ⟨(by show 1 ≤ sizeLine; decide), fun p17 n17 => ?_⟩
    have s17 := same_upd (o := .lst [.str "a"]) n17
    have g17 : GV K 1 M _ (.ref p17) := GV.lst (n := 0) (xs := [.str "a"]) t16 n17 (all_cons (GV.str (x := "a") (by decide +kernel)) all_nil) (Nat.le_of_ble_eq_true rfl)
    have a17 := a16.trans s17
    have t17 := t16.same s17
    refine ⟨_, rfl, ?_⟩
    refine ⟨(by show 3 ≤ sizeLine; decide), fun p18 n18 => ?_⟩
    have s18 := same_upd (o := .tup [.str "|", .ref p17, v]) n18
    have g18 : GV K 6 M _ (.ref p18) := GV.tup (n := 5) (xs := [.str "|", .ref p17, v]) t17 n18 (all_cons (GV.str (x := "|") (by decide +kernel)) (all_cons (g17.up (by decide)) (all_cons (gw.same a17) all_nil))) (Nat.le_of_ble_eq_true rfl)
    have a18 := a17.trans s18
    have t18 := t17.same s18
    refine ⟨_, rfl, ?_⟩
    refine ⟨(by show 3 ≤ sizeLine; decide), fun p19 n19 => ?_⟩
    have s19 := same_upd (o := .tup [.str "&", v, .str ""]) n19
    have g19 : GV K 6 M _ (.ref p19) := GV.tup (n := 5) (xs := [.str "&", v, .str ""]) t18 n19 (all_cons (GV.str (x := "&") (by decide +kernel)) (all_cons (gw.same a18) (all_cons (GV.str (x := "") (by decide +kernel)) all_nil))) (Nat.le_of_ble_eq_true rfl)
    have a19 := a18.trans s19
    have t19 := t18.same s19
    refine ⟨_, rfl, ?_⟩
    refine ⟨_, rfl, ?_⟩
    refine ⟨(by show 3 ≤ sizeLine; decide), fun p20 n20 => ?_⟩
    have s20 := same_upd (o := .tup [.str "", v, v]) n20
    have g20 : GV K 6 M _ (.ref p20) := GV.tup (n := 5) (xs := [.str "", v, v]) t19 n20 (all_cons (GV.str (x := "") (by decide +kernel)) (all_cons (gw.same a19) (all_cons (gw.same a19) all_nil))) (Nat.le_of_ble_eq_true rfl)
    have a20 := a19.trans s20
    have t20 := t19.same s20
    refine ⟨(by show 3 ≤ sizeLine; decide), fun p21 n21 => ?_⟩
    have s21 := same_upd (o := .tup [.str "&", .str "a", .str "b"]) n21
    have g21 : GV K 1 M _ (.ref p21) := GV.tup (n := 0) (xs := [.str "&", .str "a", .str "b"]) t20 n21 (all_cons (GV.str (x := "&") (by decide +kernel)) (all_cons (GV.str (x := "a") (by decide +kernel)) (all_cons (GV.str (x := "b") (by decide +kernel)) all_nil))) (Nat.le_of_ble_eq_true rfl)
    have a21 := a20.trans s21
    have t21 := t20.same s21
    refine ⟨(by show 3 ≤ sizeLine; decide), fun p22 n22 => ?_⟩
    have s22 := same_upd (o := .tup [.ref p21, .str "a", .str "b"]) n22
    have g22 : GV K 2 M _ (.ref p22) := GV.tup (n := 1) (xs := [.ref p21, .str "a", .str "b"]) t21 n22 (all_cons g21 (all_cons (GV.str (x := "a") (by decide +kernel)) (all_cons (GV.str (x := "b") (by decide +kernel)) all_nil))) (Nat.le_of_ble_eq_true rfl)
    have a22 := a21.trans s22
    have t22 := t21.same s22
    refine ⟨10, M, rfl, by decide, t22, fun H23 p23 hd23 s23 => ?_⟩
    have a23 := a22.trans s23
    have t23 := t22.same s23
    have g23 : GV K 10 M H23 p23 := ⟨_, hd23, nest_gd 10⟩
    refine ⟨(by show 5 ≤ sizeLine; decide), fun m1 nm1 => ?_⟩
    have s24 := same_upd (o := .lst [.ref p18, .ref p19, .ref p20, .ref p22, p23]) nm1
    have a24 := a23.trans s24
    have t24 := t23.same s24
    have hp1 : _ := (s17.trans (s18.trans (s19.trans (s20.trans (s21.trans (s22.trans (s23.trans s24))))))) _ _ (upd_same (o := .lst ([.non, .int 3, .str "", .str "i", .str "A", .str "ab", .ref p1, .ref p2, .ref p3, .ref p4, .ref p5, .ref p6] ++ [.ref p8, .ref p10, .ref p11, .ref p13, .ref p14])))
    refine ⟨c0, m1, _, _, rfl, rfl, hp1, upd_same, le1000 (Nat.le_of_ble_eq_true rfl), fun c1 nc1 => ?_⟩
    have s25 := same_upd (o := .lst (([.non, .int 3, .str "", .str "i", .str "A", .str "ab", .ref p1, .ref p2, .ref p3, .ref p4, .ref p5, .ref p6] ++ [.ref p8, .ref p10, .ref p11, .ref p13, .ref p14]) ++ [.ref p18, .ref p19, .ref p20, .ref p22, p23])) nc1
    have a25 := a24.trans s25
    have t25 := t24.same s25
    have z24 := s25
    have z23 := s24.trans z24
    have z22 := s23.trans z23
    have z21 := s22.trans z22
    have z20 := s21.trans z21
    have z19 := s20.trans z20
    have z18 := s19.trans z19
    have z17 := s18.trans z18
    have z16 := s17.trans z17
    have z15 := s16.trans z16
    have z14 := s15.trans z15
    have z13 := s14.trans z14
    have z12 := s13.trans z13
    have z11 := s12.trans z12
    have z10 := s11.trans z11
    have z9 := s10.trans z10
    have z8 := s9.trans z9
    have z7 := s8.trans z8
    have z6 := s7.trans z7
    have z5 := s6.trans z6
    have z4 := s5.trans z5
    have z3 := s4.trans z4
    have z2 := s3.trans z3
    have z1 := s2.trans z2
    have ga1 : ∀ y ∈ ([.non, .int 3, .str "", .str "i", .str "A", .str "ab", .ref p1, .ref p2, .ref p3, .ref p4, .ref p5, .ref p6] : List V), GV K 12 M _ y := (all_cons GV.non (all_cons (GV.int _) (all_cons (GV.str (x := "") (by decide +kernel)) (all_cons (GV.str (x := "i") (by decide +kernel)) (all_cons (GV.str (x := "A") (by decide +kernel)) (all_cons (GV.str (x := "ab") (by decide +kernel)) (all_cons ((g1.same z1).up (by decide)) (all_cons ((g2.same z2).up (by decide)) (all_cons ((g3.same z3).up (by decide)) (all_cons ((g4.same z4).up (by decide)) (all_cons ((g5.same z5).up (by decide)) (all_cons ((g6.same z6).up (by decide)) all_nil))))))))))))
    have ga2 : ∀ y ∈ ([.ref p8, .ref p10, .ref p11, .ref p13, .ref p14] : List V), GV K 12 M _ y := (all_cons ((g8.same z8).up (by decide)) (all_cons ((g10.same z10).up (by decide)) (all_cons ((g11.same z11).up (by decide)) (all_cons ((g13.same z13).up (by decide)) (all_cons ((g14.same z14).up (by decide)) all_nil)))))
    have ga3 : ∀ y ∈ ([.ref p18, .ref p19, .ref p20, .ref p22, p23] : List V), GV K 12 M _ y := (all_cons ((g18.same z18).up (by decide)) (all_cons ((g19.same z19).up (by decide)) (all_cons ((g20.same z20).up (by decide)) (all_cons ((g22.same z22).up (by decide)) (all_cons ((g23.same z23).up (by decide)) all_nil)))))
    refine ⟨_, rfl, _, rfl, a, L, c1, ns, _, rfl, hs.same a25, (hs.ne (a24.free nc1)).symm, upd_same, Nat.le_of_ble_eq_true rfl, Nat.le_of_ble_eq_true rfl, fun H' y my hs' off' => ?_⟩
    have gy := all_app (all_app ga1 ga2) ga3 y my
    obtain ⟨d, h1, h2⟩ := gy
    refine q H' y ⟨d, dp_same (SmX.at off' aM).hid d y h1, h2⟩ hs' ((SmX.of_same a25).trans (SmX.at off' (List.mem_singleton.mpr rfl)))
end
end Fv


namespace Fv
open PySem PySem.Spec PyProof.Rows L2 FvX TL
/-! ### the text of a term -/
def opS : PyData → Str
  | .str s => s
  | _ => ""
mutual
def txt : PyData → Str
  | .str s => s
  | .tuple (o :: ds) => Txt.join (" " ++ opS o ++ " ") (ptxAll ds)
  | _ => ""
def ptxAll : List PyData → List Str
  | [] => []
  | d :: ds => (if isLd d = true then txt d else "(" ++ txt d ++ ")") :: ptxAll ds
end
def ptx (d : PyData) : Str := if isLd d = true then txt d else "(" ++ txt d ++ ")"
theorem ptxAll_map : ∀ ds : List PyData, ptxAll ds = ds.map ptx
  | [] => by simp [ptxAll]
  | d :: ds => by rw [List.map_cons, ← ptxAll_map ds]; simp only [ptxAll, ptx]
theorem txt_str (s : Str) : txt (.str s) = s := by simp only [txt]
theorem txt_tup (o : Str) (ds : List PyData) : txt (.tuple (.str o :: ds)) = Txt.join (" " ++ o ++ " ") (ds.map ptx) := by
  simp only [txt, ptxAll_map, opS]
theorem isOp_inv {o : PyData} (h : isOp o = true) : o = .str "&" ∨ o = .str "|" := by
  unfold isOp at h
  simp only [List.any_cons, List.any_nil, Bool.or_false, Bool.or_eq_true] at h
  cases o with
  | str x =>
    rcases h with h | h <;> simp [PyData.eqv] at h
    · exact .inl (by rw [h])
    · exact .inr (by rw [h])
  | _ => rcases h with h | h <;> simp [PyData.eqv] at h
theorem lmeas_inv {n : Nat} {d : PyData} (h : 1 ≤ lmeas (n + 1) d) : (∃ x, d = .str x ∧ isL x = true) ∨
    (∃ o ds, d = .tuple (.str o :: ds) ∧ isLd d = false ∧ (o = "&" ∨ o = "|") ∧ 2 ≤ ds.length ∧ (∀ x ∈ ds, 1 ≤ lmeas n x) ∧ lmeas (n + 1) d = (ds.map (lmeas n)).sum) := by
  by_cases a : isLd d = true
  · left
    cases d with
    | str x => exact ⟨x, rfl, a⟩
    | _ => cases a
  · right
    have e : lmeas (n + 1) d = if isCd d = true then (if (0 : Int) ∈ (parts d).map (lmeas n) then 0 else ((parts d).map (lmeas n)).sum) else 0 := by
      show (if isLd d = true then (1 : Int) else _) = _
      rw [if_neg a]
    rw [e] at h
    by_cases b : isCd d = true
    · rw [if_pos b] at h
      by_cases c : (0 : Int) ∈ (parts d).map (lmeas n)
      · rw [if_pos c] at h; omega
      · cases d with
        | tuple ds =>
          cases ds with
          | nil => cases b
          | cons o ds =>
            have b' : (decide (2 ≤ ds.length) && isOp o) = true := b
            rw [Bool.and_eq_true, decide_eq_true_eq] at b'
            have all1 : ∀ x ∈ ds, 1 ≤ lmeas n x := fun x hx => by
              have z := lmeas_nonneg n x
              rcases Int.lt_or_eq_of_le z with z | z
              · omega
              · exact absurd (List.mem_map.mpr ⟨x, hx, z.symm⟩) c
            have e' : lmeas (n + 1) (.tuple (o :: ds)) = (ds.map (lmeas n)).sum := by
              rw [e, if_pos b, if_neg c]; rfl
            rcases isOp_inv b'.2 with ho | ho <;> subst ho
            · exact ⟨_, ds, rfl, rfl, .inl rfl, b'.1, all1, e'⟩
            · exact ⟨_, ds, rfl, rfl, .inr rfl, b'.1, all1, e'⟩
        | _ => cases b
    · rw [if_neg b] at h; omega
theorem isL_len {x : Str} (h : isL x = true) : x.length = 1 := by
  unfold isL at h
  rw [Bool.and_eq_true, decide_eq_true_eq] at h
  have := h.1
  injection this with e
  omega
theorem len_app (x y : Str) : (x ++ y).length = x.length + y.length := by
  rw [len_tl, tl_append, List.length_append, ← len_tl, ← len_tl]
theorem joinL_len (S : List Nat) : ∀ (p : List Nat) (ps : List (List Nat)), (joinL S (p :: ps)).length = p.length + (ps.map (·.length)).sum + S.length * ps.length
  | p, [] => by simp [joinL]
  | p, q :: ps => by
    have e : joinL S (p :: q :: ps) = p ++ (S ++ joinL S (q :: ps)) := rfl
    rw [e, List.length_append, List.length_append, joinL_len S q ps, List.map_cons, List.sum_cons, List.length_cons, Nat.mul_add]
    omega
theorem sum_le {α : Type} {f g : α → Int} : ∀ {l : List α}, (∀ x ∈ l, f x ≤ g x) → (l.map f).sum ≤ (l.map g).sum
  | [], _ => by simp
  | x :: l, h => by
    rw [List.map_cons, List.map_cons, List.sum_cons, List.sum_cons]
    have := h x (List.mem_cons_self ..)
    have := sum_le (l := l) fun y hy => h y (List.mem_cons_of_mem _ hy)
    omega
theorem sum_lin {α : Type} {f : α → Int} : ∀ {l : List α}, (l.map fun x => 8 * f x - 5).sum = 8 * (l.map f).sum - 5 * l.length
  | [] => by simp
  | x :: l => by
    rw [List.map_cons, List.map_cons, List.sum_cons, List.sum_cons, sum_lin (l := l), List.length_cons]
    omega
theorem sum_cast {α : Type} {f : α → Nat} : ∀ {l : List α}, (((l.map f).sum : Nat) : Int) = (l.map fun x => ((f x : Nat) : Int)).sum
  | [] => by simp
  | x :: l => by
    rw [List.map_cons, List.map_cons, List.sum_cons, List.sum_cons, ← sum_cast (l := l)]
    omega
theorem sep_len {o : Str} (h : o = "&" ∨ o = "|") : ((" " : Str) ++ o ++ " ").length = 3 := by
  rcases h with h | h <;> subst h <;> decide +kernel
theorem par_len (x : Str) : (("(" : Str) ++ x ++ ")").length = x.length + 2 := by
  rw [len_app, len_app]
  have e1 : ("(" : Str).length = 1 := by decide +kernel
  have e2 : (")" : Str).length = 1 := by decide +kernel
  omega
theorem txt_len : ∀ (n : Nat) (d : PyData), 1 ≤ lmeas n d → ((txt d).length : Int) + 7 ≤ 8 * lmeas n d
  | 0, d, h => by simp only [lmeas] at h; omega
  | n + 1, d, h => by
    rcases lmeas_inv h with ⟨x, rfl, hx⟩ | ⟨o, ds, rfl, _, ho, h2, all1, e⟩
    · rw [txt_str, isL_len hx]
      omega
    · rw [txt_tup, join_eq, len_tl, tl_join, e]
      have hp : (((((ds.map ptx).map tl).map (·.length)).sum : Nat) : Int) ≤ 8 * (ds.map (lmeas n)).sum - 5 * ds.length := by
        rw [← sum_lin, List.map_map, List.map_map, sum_cast]
        refine sum_le fun x hx => ?_
        have := txt_len n x (all1 x hx)
        show (((tl (ptx x)).length : Nat) : Int) ≤ _
        rw [← len_tl]
        unfold ptx
        split
        · omega
        · rw [par_len]; omega
      cases ds with
      | nil => simp at h2
      | cons x r =>
        rw [List.map_cons, List.map_cons] at hp ⊢
        rw [joinL_len, ← len_tl (" " ++ o ++ " "), sep_len ho, List.length_map, List.length_map]
        rw [List.map_cons, List.sum_cons] at hp
        rw [List.length_cons] at h2 hp
        omega
theorem ptx_len {n : Nat} {d : PyData} (h : 1 ≤ lmeas n d) : ((ptx d).length : Int) + 5 ≤ 8 * lmeas n d := by
  have := txt_len n d h
  unfold ptx
  split
  · omega
  · rw [par_len]; omega
def spText (K : PySem.W.Frag) (n : Nat) : Sp := fun vs H Q _ => ∃ (v : V) (d : PyData) (m : Nat), vs = [v] ∧ Dp K H v d ∧ gd 20 d = true ∧ m < n ∧ 1 ≤ lmeas m d ∧ lmeas m d ≤ 1000 ∧ ∀ H', Same H H' → Q (.str (txt d)) H'
def spPart (K : PySem.W.Frag) (n : Nat) : Sp := fun vs H Q _ => ∃ (v : V) (d : PyData) (m : Nat), vs = [v] ∧ Dp K H v d ∧ gd 20 d = true ∧ m < n ∧ 1 ≤ lmeas m d ∧ lmeas m d ≤ 1000 ∧ ∀ H', Same H H' → Q (.str (ptx d)) H'
end Fv


namespace Fv
open PySem PySem.Spec PyProof.Rows L2 FvX TL



theorem pe_isDc {X : Cx} {K : PySem.W.Frag} {e : Expr} {te : TE} {T : String} {y : Str} {p p2 pos : Pos} (hK : X.K = K) (hg : Gl X "isinstance") (hm : X.mg "isinstance" = none) (hg2 : Gl X y) (hm2 : X.mg y = none) (ha : PE X e te)
    (hv : bootBuiltins y = some (.type T) := by decide +kernel) (hn : y ≠ "__name__" := by decide) (hd2 : (y == ("__debug__" : Str)) = false := by decide)
    (he : starEach (e :: [.Name y p2]) X.env = (false, eval e X.env) :: starEach [.Name y p2] X.env := by rfl) (hpl : (backTo pos (starEach [.Name y p2] X.env)).any (·.1) = false := by rfl) :
    PE X (.Call (.Name "isinstance" p) [e, .Name y p2] [] pos) (tCB (rIsD K) (tCons te (tCons (tC (.ty T)) tNil))) := by
  subst hK
  exact pe_isD hg hm hg2 hm2 ha hv hn hd2 he hpl
theorem one_len : (" " : Str).length = 1 := by decide +kernel
theorem op_len {o : Str} (h : o = "&" ∨ o = "|") : o.length = 1 := by rcases h with h | h <;> subst h <;> decide +kernel
theorem small_len {x : Str} {n : Nat} (h : x.length ≤ n) (hn : n ≤ 100000) : x.length ≤ sizeLine := Nat.le_trans h (Nat.le_trans hn (by decide))
theorem emp_app (x : Str) : Str.empty ++ x = x := ext_tl (by rw [tl_append]; rfl)
theorem sum_ptx {m : Nat} {ds : List PyData} (all1 : ∀ x ∈ ds, 1 ≤ lmeas m x) (h : (ds.map (lmeas m)).sum ≤ 1000) : ((ds.map ptx).map (·.length)).sum ≤ 8000 := by
  have hp : ((((ds.map ptx).map (·.length)).sum : Nat) : Int) ≤ 8 * (ds.map (lmeas m)).sum - 5 * ds.length := by
    rw [← sum_lin, List.map_map, sum_cast]
    refine sum_le fun x hx => ?_
    have := ptx_len (all1 x hx)
    show (((ptx x).length : Nat) : Int) ≤ _
    omega
  omega
theorem part_le {m : Nat} {ds : List PyData} {x : PyData} (hx : x ∈ ds) (h : (ds.map (lmeas m)).sum ≤ 1000) : lmeas m x ≤ 1000 := by
  have := mem_le_sum (l := ds.map (lmeas m)) (x := lmeas m x) (fun y hy => by
    obtain ⟨d', _, rfl⟩ := List.mem_map.mp hy
    exact lmeas_nonneg m d') (List.mem_map.mpr ⟨x, hx, rfl⟩)
  omega
section
variable {P : Program} {w : World} {K : PySem.W.Frag} {mg : Str → Option Value} {base : Heap}
theorem text_zero {f : Addr} {fd : FuncData} {k : Nat} {ps : List Str} : FnOk P w K mg base CX0 k f fd ps (spText K 0) := by
  have no : ∀ vs H Q E, ¬ spText K 0 vs H Q E := fun vs H Q E h => by
    obtain ⟨v, d, m, _, _, _, m1, _⟩ := h
    omega
  exact ⟨fun vs H Q E h => absurd h (no vs H Q E), fun A outer s H args us vs Q E _ _ _ _ h => absurd h (no vs H Q E)⟩
theorem part_zero {f : Addr} {fd : FuncData} {k : Nat} {ps : List Str} : FnOk P w K mg base CX0 k f fd ps (spPart K 0) := by
  have no : ∀ vs H Q E, ¬ spPart K 0 vs H Q E := fun vs H Q E h => by
    obtain ⟨v, d, m, _, _, _, m1, _⟩ := h
    omega
  exact ⟨fun vs H Q E h => absurd h (no vs H Q E), fun A outer s H args us vs Q E _ _ _ _ h => absurd h (no vs H Q E)⟩
theorem isLd_str {m : Nat} {x : Str} (h : 1 ≤ lmeas m (.str x)) : isL x = true := by
  cases m with
  | zero => simp only [lmeas] at h; omega
  | succ m =>
    rcases lmeas_inv h with ⟨y, e, hy⟩ | ⟨o, ds, e, _⟩
    · cases e; exact hy
    · cases e
end
end Fv


namespace Fv
open PySem PySem.Spec PyProof.Rows L2 FvX TL
/-! ### reading, as the program reads: a mirror over code points -/
/-- k signs from at on -/
def sub (T : List Nat) (at' k : Nat) : Str := ⟨((T.drop at').take k).toArray⟩
theorem tl_sub (T : List Nat) (a k : Nat) : tl (sub T a k) = (T.drop a).take k := rfl
theorem cut_sub (z : Str) (a k : Nat) : cutS z (some (a : Int)) (some ((a : Int) + (k : Nat))) = sub (tl z) a k := by
  refine ext_tl ?_
  have e : ((a : Int) + (k : Nat)) = ((a + k : Nat) : Int) := by omega
  rw [tl_sub, e]
  show ((z.cps.toList.drop (HT.sIx z.length 0 (some (a : Int)))).take (HT.sIx z.length z.length (some ((a + k : Nat) : Int)) - HT.sIx z.length 0 (some (a : Int)))) = _
  rw [HT.sIx_nat, HT.sIx_nat]
  have hl : z.length = (tl z).length := len_tl z
  have hl2 : z.length = z.cps.toList.length := len_tl z
  by_cases h : a ≤ z.length
  · rw [Nat.min_eq_left h]
    by_cases h2 : a + k ≤ z.length
    · rw [Nat.min_eq_left h2, Nat.add_sub_cancel_left]
    · rw [Nat.min_eq_right (by omega), List.take_of_length_le (by rw [List.length_drop]; omega), List.take_of_length_le (by rw [List.length_drop]; omega)]
  · rw [Nat.min_eq_right (by omega : z.length ≤ a), List.drop_of_length_le (by omega), List.drop_of_length_le (by omega), List.take_nil, List.take_nil]
theorem sub_len (T : List Nat) (a k : Nat) : (sub T a k).length ≤ k := by
  rw [len_tl, tl_sub, List.length_take]; omega
theorem sub_in {T : List Nat} {a k n : Nat} (h : (sub T a k).length = n) (hn : 0 < n) : a + n ≤ T.length := by
  rw [len_tl, tl_sub, List.length_take, List.length_drop] at h
  omega
def rdL (P : Nat → Option (PyData × Nat)) (T : List Nat) (sg : Str) : Nat → Nat → List PyData → Option (List PyData × Nat)
  | 0, _, _ => none
  | f + 1, a, acc => if sub T a 3 = sg then (match P (a + 3) with
    | none => none
    | some (d, e) => rdL P T sg f e (acc ++ [d])) else some (acc, a)
def sgn (s : Str) : Str := if s = " & " then "&" else "|"
def isSg (s : Str) : Prop := s = " & " ∨ s = " | "
instance (s : Str) : Decidable (isSg s) := inferInstanceAs (Decidable (_ ∨ _))
def rdT (P : Nat → Option (PyData × Nat)) (T : List Nat) (a : Nat) : Option (PyData × Nat) := match P a with
  | none => none
  | some (d, e) => if isSg (sub T e 3) then (match rdL P T (sub T e 3) (T.length + 1 - e) e [d] with
      | none => none
      | some (ds, e') => some (.tuple (.str (sgn (sub T e 3)) :: ds), e')) else if isLd d = true then some (d, e) else none
def rdP (T : List Nat) : Nat → Nat → Option (PyData × Nat)
  | 0 => fun a => if isL (sub T a 1) = true then some (.str (sub T a 1), a + 1) else none
  | n + 1 => fun a => if isL (sub T a 1) = true then some (.str (sub T a 1), a + 1) else if sub T a 1 = "(" then (match rdT (rdP T n) T (a + 1) with
      | none => none
      | some (d, e) => if isLd d = true ∨ sub T e 1 ≠ ")" then none else some (d, e + 1)) else none
theorem isL_one {x : Str} (h : isL x = true) : x ∈ (["a", "b", "c", "d", "e", "f", "g", "h"] : List Str) := by
  have hl := isL_len h
  rw [len_tl] at hl
  obtain ⟨c, ec⟩ : ∃ c, tl x = [c] := by
    match tl x, hl with
    | [c], _ => exact ⟨c, rfl⟩
  have ex : x = ⟨#[c]⟩ := ext_tl (by rw [ec])
  subst ex
  unfold isL at h
  rw [Bool.and_eq_true] at h
  have h2 := h.2
  rw [PySem.StrLaws.found_one, decide_eq_true_eq] at h2
  have e : ("abcdefgh" : Str).cps.toList = [97, 98, 99, 100, 101, 102, 103, 104] := by decide +kernel
  rw [e] at h2
  have all : ∀ c ∈ ([97, 98, 99, 100, 101, 102, 103, 104] : List Nat), (⟨#[c]⟩ : Str) ∈ (["a", "b", "c", "d", "e", "f", "g", "h"] : List Str) := by decide +kernel
  exact all c h2
theorem isL_gd {x : Str} (h : isL x = true) (n : Nat) : gd n (.str x) = true := gd_le (isL_lett (isL_one h)).2 (Nat.zero_le _)
theorem sg_len {s : Str} (h : isSg s) : s.length = 3 := by rcases h with h | h <;> rw [h] <;> decide +kernel
/-- what a reading of parts promises -/
def PFine (T : List Nat) (n : Nat) (P : Nat → Option (PyData × Nat)) : Prop := ∀ a d e, P a = some (d, e) → a < e ∧ e ≤ T.length ∧ gd n d = true
theorem rdL_fine {T : List Nat} {n : Nat} {P : Nat → Option (PyData × Nat)} (hP : PFine T n P) {sg : Str} (hs : sg.length = 3) : ∀ (f a : Nat) (acc ds : List PyData) (e : Nat), rdL P T sg f a acc = some (ds, e) →
    (∀ d ∈ acc, gd n d = true) → 4 * acc.length ≤ a + 3 → a ≤ T.length → (∀ d ∈ ds, gd n d = true) ∧ 4 * ds.length ≤ e + 3 ∧ a ≤ e ∧ e ≤ T.length
  | 0, a, acc, ds, e, h, _, _, _ => by cases h
  | f + 1, a, acc, ds, e, h, hg, hl, ha => by
    unfold rdL at h
    by_cases c : sub T a 3 = sg
    · rw [if_pos c] at h
      cases hp : P (a + 3) with
      | none => rw [hp] at h; cases h
      | some r =>
        obtain ⟨d, e1⟩ := r
        rw [hp] at h
        obtain ⟨h1, h2, h3⟩ := hP _ _ _ hp
        have z := rdL_fine hP hs f e1 (acc ++ [d]) ds e h (fun x hx => by
          rcases List.mem_append.mp hx with q | q
          · exact hg x q
          · rw [List.mem_singleton.mp q]; exact h3) (by rw [List.length_append, List.length_singleton]; omega) h2
        exact ⟨z.1, z.2.1, by omega, z.2.2.2⟩
    · rw [if_neg c] at h
      cases h
      exact ⟨hg, hl, Nat.le_refl _, ha⟩
theorem rdT_fine {T : List Nat} {n : Nat} {P : Nat → Option (PyData × Nat)} (hT : T.length ≤ 2900) (hP : PFine T n P) : PFine T (n + 1) (rdT P T) := by
  intro a d e h
  unfold rdT at h
  cases hp : P a with
  | none => rw [hp] at h; cases h
  | some r =>
    obtain ⟨d1, e1⟩ := r
    rw [hp] at h
    obtain ⟨h1, h2, h3⟩ := hP _ _ _ hp
    dsimp only at h
    by_cases c : isSg (sub T e1 3)
    · rw [if_pos c] at h
      cases hr : rdL P T (sub T e1 3) (T.length + 1 - e1) e1 [d1] with
      | none => rw [hr] at h; cases h
      | some r =>
        obtain ⟨ds, e2⟩ := r
        rw [hr] at h
        cases h
        obtain ⟨z1, z2, z3, z4⟩ := rdL_fine hP (sg_len c) _ _ _ _ _ hr (fun x hx => by rw [List.mem_singleton.mp hx]; exact h3) (by rw [List.length_singleton]; omega) h2
        refine ⟨by omega, z4, gd_tup (fun x hx => ?_) (by rw [List.length_cons]; omega)⟩
        rcases List.mem_cons.mp hx with q | q
        · rw [q]
          refine gd_le (n := 0) ?_ (Nat.zero_le _)
          unfold sgn
          split <;> decide +kernel
        · exact z1 x q
    · rw [if_neg c] at h
      by_cases c2 : isLd d1 = true
      · rw [if_pos c2] at h
        cases h
        exact ⟨h1, h2, gd_up _ _ h3⟩
      · rw [if_neg c2] at h; cases h
theorem rdP_fine {T : List Nat} (hT : T.length ≤ 2900) : ∀ n : Nat, PFine T n (rdP T n)
  | 0 => fun a d e h => by
    unfold rdP at h
    by_cases c : isL (sub T a 1) = true
    · rw [if_pos c] at h
      cases h
      exact ⟨by omega, sub_in (isL_len c) (by decide), isL_gd c _⟩
    · rw [if_neg c] at h; cases h
  | n + 1 => fun a d e h => by
    unfold rdP at h
    by_cases c : isL (sub T a 1) = true
    · rw [if_pos c] at h
      cases h
      exact ⟨by omega, sub_in (isL_len c) (by decide), isL_gd c _⟩
    · rw [if_neg c] at h
      by_cases c2 : sub T a 1 = "("
      · rw [if_pos c2] at h
        cases hr : rdT (rdP T n) T (a + 1) with
        | none => rw [hr] at h; cases h
        | some r =>
          obtain ⟨d1, e1⟩ := r
          rw [hr] at h
          dsimp only at h
          obtain ⟨h1, h2, h3⟩ := rdT_fine hT (rdP_fine hT n) _ _ _ hr
          by_cases c3 : isLd d1 = true ∨ sub T e1 1 ≠ ")"
          · rw [if_pos c3] at h; cases h
          · rw [if_neg c3] at h
            cases h
            have c4 : sub T e1 1 = ")" := Classical.not_not.mp fun z => c3 (.inr z)
            exact ⟨by omega, sub_in (by rw [c4]; decide +kernel) (by decide), h3⟩
      · rw [if_neg c2] at h; cases h
theorem sub_ok {x : Str} (h : PyData.strOk x = true) (a k : Nat) : PyData.strOk (sub (tl x) a k) = true := by
  unfold PyData.strOk at h ⊢
  rw [← Array.all_toList, List.all_eq_true] at h ⊢
  intro c hc
  exact h c (List.mem_of_mem_drop (List.mem_of_mem_take hc))
theorem sub_gd {x : Str} (h : PyData.strOk x = true) (a k : Nat) (hk : k ≤ 3) (n : Nat) : gd n (.str (sub (tl x) a k)) = true := by
  refine gd_le (n := 0) ?_ (Nat.zero_le _)
  have := sub_len (tl x) a k
  show (PyData.strOk (sub (tl x) a k) && decide ((sub (tl x) a k).length ≤ 100000)) = true
  rw [sub_ok h, decide_eq_true (by omega)]
  rfl
theorem cut1 (z : Str) (a : Nat) : cutS z (some (a : Int)) (some ((a : Int) + 1)) = sub (tl z) a 1 := cut_sub z a 1
theorem cut3 (z : Str) (a : Nat) : cutS z (some (a : Int)) (some ((a : Int) + 3)) = sub (tl z) a 3 := cut_sub z a 3
theorem sub_one {T : List Nat} {a : Nat} (h : (sub T a 1).length = 1) : ∃ c, T[a]? = some c ∧ sub T a 1 = ⟨#[c]⟩ := by
  have hl := sub_in h (by decide)
  refine ⟨T[a], List.getElem?_eq_getElem (by omega), ext_tl ?_⟩
  rw [tl_sub, List.drop_eq_getElem_cons (by omega)]
  rfl
def outR (K : PySem.W.Frag) (CT : Addr) (M : List Addr) (r : Option (PyData × Nat)) (H : Hp) (Q : VK) (E : XK) : Prop :=
  (∀ d e, r = some (d, e) → ∀ (H' : Hp) (p : Addr) (v : V), Same H H' → H' p = some (.tup [v, .int (e : Nat)]) → Dp K (hide M H') v d → Q (.ref p) H') ∧ (r = none → errAt CT "InvalidText" H E)
def spRdP (K : PySem.W.Frag) (CT : Addr) (n : Nat) : Sp := fun vs H Q E => ∃ (x : Str) (a m : Nat) (M : List Addr), vs = [.str x, .int (a : Nat), .int (m : Nat)] ∧ x.length ≤ 2900 ∧ PyData.strOk x = true ∧ m < n ∧ Trk M H ∧ outR K CT M (rdP (tl x) m a) H Q E
def spRdT (K : PySem.W.Frag) (CT : Addr) (n : Nat) : Sp := fun vs H Q E => ∃ (x : Str) (a m : Nat) (M : List Addr), vs = [.str x, .int (a : Nat), .int (m : Nat)] ∧ x.length ≤ 2900 ∧ PyData.strOk x = true ∧ m < n ∧ Trk M H ∧ outR K CT M (rdT (rdP (tl x) m) (tl x) a) H Q E
theorem vs3 {x : Str} {i j : Int} {a m : Nat} (h : i = (a : Nat)) (g : j = (m : Nat)) : [V.str x, V.int i, V.int j] = [.str x, .int (a : Nat), .int (m : Nat)] := by rw [h, g]
end Fv


namespace Fv
open PySem PySem.Spec PyProof.Rows L2 FvX TL

section
variable {P : Program} {w : World} {K : PySem.W.Frag} {mg : Str → Option Value} {base : Heap} {CT fI oS : Addr} {qual msg : Str} {q : ErrPos} {j1 j2 : Nat}
theorem fit900 {x : Str} (h : x.length ≤ 2900) : x.length ≤ sizeLine := Nat.le_trans h (by decide)
theorem rdT_zero {f : Addr} {fd : FuncData} {k : Nat} {ps : List Str} : FnOk P w K mg base (L2.CX P w) k f fd ps (spRdT K CT 0) := by
  have no : ∀ vs H Q E, ¬ spRdT K CT 0 vs H Q E := fun vs H Q E h => by
    obtain ⟨x, a, m, M, _, _, _, h, _⟩ := h
    omega
  exact ⟨fun vs H Q E h => absurd h (no vs H Q E), fun A outer s H args us vs Q E _ _ _ _ h => absurd h (no vs H Q E)⟩
end
end Fv


namespace Fv
open PySem PySem.Spec PyProof.Rows L2 FvX TL

def WR (K : PySem.W.Frag) (x : Str) (m : Nat) (v : V) (sg : Str) (L : Addr) (M : List Addr) (H : Hp) (R : Option (List PyData × Nat)) : Nat → L2.St → Hp → Prop := fun f σ H1 => ∃ (a : Nat) (acc : List PyData) (vs : List V) (y6 : Option V),
  σ = [some (.str x), some (.int (a : Nat)), some (.int (m : Nat)), some v, some (.str sg), some (.ref L), y6] ∧ H1 L = some (.lst vs) ∧ DpAll K (hide (L :: M) H1) vs acc ∧ 4 * acc.length ≤ a + 3 ∧ a ≤ x.length ∧ x.length + 1 - a ≤ f ∧
  rdL (rdP (tl x) m) (tl x) sg f a acc = R ∧ Same H H1
theorem in_sg (s : Str) : (!([PyData.str " & ", .str " | "] : List PyData).any fun z => PyData.eqv z (.str s)) = !decide (isSg s) := by
  congr 1
  simp only [List.any_cons, List.any_nil, Bool.or_false, PyData.eqv]
  rw [Bool.eq_iff_iff, decide_eq_true_eq, Bool.or_eq_true, beq_iff_eq, beq_iff_eq]
  exact ⟨fun h => h.imp Eq.symm Eq.symm, fun h => h.imp Eq.symm Eq.symm⟩
theorem sg_at {s : Str} (h : isSg s) : ∃ c, (tl s)[1]? = some c ∧ (⟨#[c]⟩ : Str) = sgn s := by
  rcases h with h | h <;> subst h
  · exact ⟨38, by decide +kernel, by decide +kernel⟩
  · exact ⟨124, by decide +kernel, by decide +kernel⟩
section
variable {P : Program} {w : World} {K : PySem.W.Frag} {mg : Str → Option Value} {base : Heap} {CT fI oS : Addr} {qual msg : Str} {q : ErrPos} {j1 j2 : Nat}
end
end Fv


namespace Fv
open PySem PySem.Spec PyProof.Rows L2 FvX TL

-- top 18  slots: 0:value 1:found
abbrev s_measured_long : Stmt := topS 18
abbrev N_measured_long : List Str := ["value", "found"]
theorem sc_measured_long : FnScope N_measured_long ["value"] (defScope s_measured_long) := ⟨rfl, rfl, rfl, by decide +kernel, rfl, by decide +kernel, by decide +kernel⟩


/-- what parse_term makes of a text -/
def prs (x : Str) : Option PyData := match rdT (rdP (tl x) 5) (tl x) 0 with
  | none => none
  | some (d, e) => if e < x.length ∨ tmB d = false then none else some d
def spParse (K : PySem.W.Frag) (CT : Addr) : Sp := fun vs H Q E => ∃ (x : Str) (M : List Addr), vs = [.str x] ∧ x.length ≤ 2900 ∧ PyData.strOk x = true ∧ Trk M H ∧
  (∀ d, prs x = some d → ∀ (H' : Hp) (v : V), Same H H' → Dp K (hide M H') v d → Q v H') ∧ (prs x = none → errAt CT "InvalidText" H E)
def spLong (K : PySem.W.Frag) (CT : Addr) : Sp := fun vs H Q E => ∃ (v : V) (d : PyData), vs = [v] ∧ Dp K H v d ∧ gd 20 d = true ∧
  (∀ dp sz, meas 9 d 600 = some (dp, sz) → ∀ (H' : Hp) (p : Addr), Same H H' → H' p = some (.tup [.int dp, .int sz]) → Q (.ref p) H') ∧ (meas 9 d 600 = none → errAt CT "InvalidTerm" H E)
def spFormat (K : PySem.W.Frag) (CT : Addr) : Sp := fun vs H Q E => ∃ (v : V) (d : PyData), vs = [v] ∧ Dp K H v d ∧ gd 20 d = true ∧
  ((meas 9 d 600).isSome = true → ∀ H', Same H H' → Q (.str (txt d)) H') ∧ (meas 9 d 600 = none → errAt CT "InvalidTerm" H E)
section
variable {P : Program} {w : World} {K : PySem.W.Frag} {mg : Str → Option Value} {base : Heap} {CT fI oS : Addr} {qual msg : Str} {q : ErrPos} {j1 j2 : Nat}
theorem ok_measured_long {f : Addr} {fd : FuncData} {k : Nat} (F : Fun K "measured_long" "measured_long" s_measured_long f fd) {t9 t6 : Tok} (g_LONG_DEPTH : mg "LONG_DEPTH" = some (.int 9 t9)) (g_LONG_SIZE : mg "LONG_SIZE" = some (.int 600 t6)) (hk : 1 ≤ k) (T_IT : ErrC P.main.file K CT fI qual q msg "InvalidTerm" j1 j2) (hline : LineOk q msg j1) (htop : (P.main.scope.names.lookup ("super" : Str)).isSome = false) (m_super : mg "super" = none) (g_IT : mg "InvalidTerm" = some (.ref CT))
    (C_measured : Own P w K mg base k "measured" ["value", "max_depth", "max_size"] (spMeas K 20)) :
    FnOk P w K mg base (L2.CX P w) (k + 1) f fd ["value"] (spLong K CT) := by
  refine F.okX sc_measured_long (fun vs H Q E h => ?_) (fun cdv A outer s H vs Q E hr h => ?_)
  · obtain ⟨v, d, rfl, _⟩ := h
    rfl
  · obtain ⟨v, d, rfl, hd, hg, o1, o2⟩ := h
    refine ⟨_, (pss_cons (ps_set (i := 1) sc_measured_long.nd rfl (by first | exact .inl rfl | exact .inr rfl) (pe_own C_measured (hr.mono (by omega)) (by rfl) (pa_cons (pv 0) (pa_cons (pe_glob (v := .int 9) (by rfl) g_LONG_DEPTH (⟨_, rfl⟩)) (pa_cons (pe_glob (v := .int 600) (by rfl) g_LONG_SIZE (⟨_, rfl⟩)) pa_nil)))))
      (pss_cons (ps_if (pt_cmpR op_isN (pv 1) pe_non (nomark _))
        (pss_one (ps_raise rfl (takes_of rfl rfl rfl rfl) (pmk_err0 (k := 0) T_IT hline htop m_super (hr.mono (by omega)) (by rfl) g_IT)))
        pss_nil)
      (pss_one (ps_ret (pv 1))))), ?_⟩
    refine ⟨_, rfl, v, d, 9, 600, rfl, hd, hg, by decide, by decide, fun e H' s' => ?_, fun dp sz e H' p s' hp => ?_⟩
    · refine ⟨_, rfl, rfl, _, rfl, iteT fun dd nd => ?_⟩
      exact o2 e _ dd (s'.trans (same_upd nd)) upd_same
    · exact ⟨_, rfl, rfl, _, rfl, iteF ⟨_, rfl, o1 dp sz e H' p s' hp⟩⟩
end
end Fv


namespace Fv
open PySem PySem.Spec PyProof.Rows L2 FvX TL
/-! ### values with their data; odd values -/
def GE (K : PySem.W.Frag) (n : Nat) (M : List Addr) (H : Hp) (v : V) (d : PyData) : Prop := Dp K (hide M H) v d ∧ gd n d = true
def GVN (K : PySem.W.Frag) (M : List Addr) (H : Hp) (v : V) : Prop := ∃ d, Dp K (hide M H) v d ∧ gd 12 d = true ∧ lmeas 9 d = 0
inductive GEs (K : PySem.W.Frag) (n : Nat) (M : List Addr) (H : Hp) : List V → List PyData → Prop where
  | nil : GEs K n M H [] []
  | cons {v d vs ds} (h : GE K n M H v d) (t : GEs K n M H vs ds) : GEs K n M H (v :: vs) (d :: ds)
section
variable {K : PySem.W.Frag} {n m : Nat} {M : List Addr} {H H' : Hp} {v : V} {d : PyData}
theorem GE.same (g : GE K n M H v d) (s : Same H H') : GE K n M H' v d := ⟨dp_same (SmX.of_same s).hid d v g.1, g.2⟩
theorem GE.up (g : GE K n M H v d) (h : n ≤ m) : GE K m M H v d := ⟨g.1, gd_le g.2 h⟩
theorem GE.str {x : Str} (h : gd 0 (.str x) = true) : GE K n M H (.str x) (.str x) := ⟨.str x, gd_le h (Nat.zero_le _)⟩
theorem GE.int (i : Int) : GE K n M H (.int i) (.int i) := ⟨.int i, gd_le (n := 0) rfl (Nat.zero_le _)⟩
theorem GE.bl (b : Bool) : GE K n M H (.bl b) (.bool b) := ⟨.bl b, gd_le (n := 0) rfl (Nat.zero_le _)⟩
theorem GE.non : GE K n M H .non .none := ⟨.non, gd_le (n := 0) rfl (Nat.zero_le _)⟩
theorem ges_all : ∀ {xs : List V} {ds : List PyData}, GEs K n M H xs ds → DpAll K (hide M H) xs ds ∧ ∀ d ∈ ds, gd n d = true
  | _, _, .nil => ⟨.nil, fun d h => nomatch h⟩
  | _, _, .cons h t => by
    obtain ⟨h1, h2⟩ := ges_all t
    refine ⟨.cons h.1 h1, fun e he => ?_⟩
    rcases List.mem_cons.mp he with z | z
    · rw [z]; exact h.2
    · exact h2 e z
theorem GE.tup {p : Addr} {xs : List V} {ds : List PyData} (hM : Trk M H) (np : H p = none) (h : GEs K n M H xs ds) (hl : xs.length ≤ 1000) : GE K (n + 1) M (upd H p (.tup xs)) (.ref p) (.tuple ds) := by
  obtain ⟨h1, h2⟩ := ges_all h
  exact ⟨.tup (SqT.of (hid_at hM np)) (dpAll_same (hid_new np) _ _ h1), gd_tup h2 (by rw [← dpAll_len h1]; exact hl)⟩
theorem GE.lst {p : Addr} {xs : List V} {ds : List PyData} (hM : Trk M H) (np : H p = none) (h : GEs K n M H xs ds) (hl : xs.length ≤ 1000) : GE K (n + 1) M (upd H p (.lst xs)) (.ref p) (.list ds) := by
  obtain ⟨h1, h2⟩ := ges_all h
  exact ⟨.lst (SqL.of (hid_at hM np)) (dpAll_same (hid_new np) _ _ h1), gd_lst h2 (by rw [← dpAll_len h1]; exact hl)⟩
theorem GVN.of (g : GE K n M H v d) (h : n ≤ 12) (z : lmeas 9 d = 0) : GVN K M H v := ⟨d, g.1, gd_le g.2 h, z⟩
end
theorem zp {o x : PyData} {ds : List PyData} (hx : x ∈ ds) (h : lmeas 8 x = 0) : lmeas 9 (.tuple (o :: ds)) = 0 := by
  have e : lmeas 9 (.tuple (o :: ds)) = if isCd (.tuple (o :: ds)) = true then (if (0 : Int) ∈ ds.map (lmeas 8) then 0 else (ds.map (lmeas 8)).sum) else 0 := by
    show (if isLd (.tuple (o :: ds)) = true then (1 : Int) else _) = _
    rw [if_neg (fun z => by cases z)]
    rfl
  rw [e, if_pos (List.mem_map.mpr ⟨x, hx, h⟩)]
  split <;> rfl
theorem zo {o : PyData} {ds : List PyData} (h : isOp o = false) : lmeas 9 (.tuple (o :: ds)) = 0 := by
  have e : lmeas 9 (.tuple (o :: ds)) = if isCd (.tuple (o :: ds)) = true then (if (0 : Int) ∈ ds.map (lmeas 8) then 0 else (ds.map (lmeas 8)).sum) else 0 := by
    show (if isLd (.tuple (o :: ds)) = true then (1 : Int) else _) = _
    rw [if_neg (fun z => by cases z)]
    rfl
  have e2 : isCd (.tuple (o :: ds)) = (decide (2 ≤ ds.length) && isOp o) := rfl
  rw [e, e2, h, Bool.and_false, if_neg (fun z => by cases z)]
def spOddN (K : PySem.W.Frag) : Sp := fun vs H Q _ => ∃ (a L : Addr) (ns : List Int) (v : V) (M : List Addr), vs = [.ref a, v] ∧ Src H a L ns ∧ GV K 9 M H v ∧ a ∈ M ∧ Trk M H ∧
  ∀ (H' : Hp) (v' : V), GVN K M H' v' → Src H' a L ns → SmX [a] H H' → Q v' H'
end Fv


namespace Fv
open PySem PySem.Spec PyProof.Rows L2 FvX TL
section
variable {P : Program} {w : World} {K : PySem.W.Frag} {mg : Str → Option Value} {base : Heap}
theorem ok_oddN {f : Addr} {fd : FuncData} {k : Nat} (F : Fun K "_law_odd" "_law_odd" s_law_odd f fd) (hk : 2 ≤ k)
    (C_law_pick : Own P w K mg base 2 "_law_pick" ["_law_source_here", "_law_row"] spPick)
    (C_law_nest : Own P w K mg base 1 "_law_nest" ["_law_many"] (spNest K)) :
    FnOk P w K mg base CX0 (k + 1) f fd ["_law_source_here", "_law_word"] (spOddN K) := by
  refine F.ok sc_law_odd (fun vs H Q E h => ?_) (fun cdv A outer s H vs Q E hr h => ?_)
  · obtain ⟨a, L, ns, v, M, rfl, _⟩ := h
    rfl
  · obtain ⟨a, L, ns, v, M, rfl, hs, gw, aM, t0, q⟩ := h
    obtain ⟨dw, hw1, hw2⟩ := gw
    have gw : GE K 9 M H v dw := ⟨hw1, hw2⟩
    have a0 : Same H H := Same.refl H
    refine ⟨_, (pss_cons (ps_set (i := 2) sc_law_odd.nd rfl (by first | exact .inl rfl | exact .inr rfl) (pe_lst (pa_cons pe_non (pa_cons pe_int (pa_cons pe_str (pa_cons pe_str (pa_cons pe_str (pa_cons pe_str (pa_cons (pe_tup pa_nil) (pa_cons (pe_tup (pa_cons pe_str pa_nil)) (pa_cons (pe_tup (pa_cons pe_str (pa_cons pe_str pa_nil))) (pa_cons (pe_tup (pa_cons pe_str (pa_cons pe_str (pa_cons pe_str pa_nil)))) (pa_cons (pe_tup (pa_cons pe_str (pa_cons pe_str (pa_cons pe_str pa_nil)))) (pa_cons (pe_lst (pa_cons pe_str (pa_cons pe_str (pa_cons pe_str pa_nil)))) pa_nil))))))))))))))
      (pss_cons (ps_set (i := 2) sc_law_odd.nd rfl (by first | exact .inl rfl | exact .inr rfl) (pe_op op_cat (pv 2) (pe_lst (pa_cons (pe_tup (pa_cons pe_str (pa_cons pe_str (pa_cons pe_non pa_nil)))) (pa_cons (pe_tup (pa_cons pe_str (pa_cons (pv 1) (pa_cons (pe_tup (pa_cons pe_str (pa_cons pe_str pa_nil))) pa_nil)))) (pa_cons (pe_tup (pa_cons (pv 1) pa_nil)) (pa_cons (pe_tup (pa_cons pe_str (pa_cons (pe_tup (pa_cons pe_str (pa_cons pe_str pa_nil))) (pa_cons (pv 1) pa_nil)))) (pa_cons (pe_tup (pa_cons pe_bl (pa_cons pe_str (pa_cons pe_str pa_nil)))) pa_nil))))))))
      (pss_cons (ps_set (i := 2) sc_law_odd.nd rfl (by first | exact .inl rfl | exact .inr rfl) (pe_op op_cat (pv 2) (pe_lst (pa_cons (pe_tup (pa_cons pe_str (pa_cons (pe_lst (pa_cons pe_str pa_nil)) (pa_cons (pv 1) pa_nil)))) (pa_cons (pe_tup (pa_cons pe_str (pa_cons (pv 1) (pa_cons pe_str pa_nil)))) (pa_cons (pe_tup (pa_cons pe_str (pa_cons (pv 1) (pa_cons (pv 1) pa_nil)))) (pa_cons (pe_tup (pa_cons (pe_tup (pa_cons pe_str (pa_cons pe_str (pa_cons pe_str pa_nil)))) (pa_cons pe_str (pa_cons pe_str pa_nil)))) (pa_cons (pe_own C_law_nest (hr.mono (by omega)) (by rfl) (pa_cons pe_int pa_nil)) pa_nil))))))))
      (pss_one (ps_ret (pe_own C_law_pick (hr.mono (by omega)) (by rfl) (pa_cons (pv 0) (pa_cons (pv 2) pa_nil)))))))), ?_⟩
    refine ⟨(by show 0 ≤ sizeLine; decide), fun p1 n1 => ?_⟩
    have s1 := same_upd (o := .tup []) n1
    have g1 : GE K 1 M _ (.ref p1) _ := GE.tup (n := 0) (xs := []) t0 n1 GEs.nil (Nat.le_of_ble_eq_true rfl)
    have a1 := a0.trans s1
    have t1 := t0.same s1
    refine ⟨(by show 1 ≤ sizeLine; decide), fun p2 n2 => ?_⟩
    have s2 := same_upd (o := .tup [.str "&"]) n2
    have g2 : GE K 1 M _ (.ref p2) _ := GE.tup (n := 0) (xs := [.str "&"]) t1 n2 (GEs.cons (GE.str (x := "&") (by decide +kernel)) GEs.nil) (Nat.le_of_ble_eq_true rfl)
    have a2 := a1.trans s2
    have t2 := t1.same s2
    refine ⟨(by show 2 ≤ sizeLine; decide), fun p3 n3 => ?_⟩
    have s3 := same_upd (o := .tup [.str "&", .str "a"]) n3
    have g3 : GE K 1 M _ (.ref p3) _ := GE.tup (n := 0) (xs := [.str "&", .str "a"]) t2 n3 (GEs.cons (GE.str (x := "&") (by decide +kernel)) (GEs.cons (GE.str (x := "a") (by decide +kernel)) GEs.nil)) (Nat.le_of_ble_eq_true rfl)
    have a3 := a2.trans s3
    have t3 := t2.same s3
    refine ⟨(by show 3 ≤ sizeLine; decide), fun p4 n4 => ?_⟩
    have s4 := same_upd (o := .tup [.str "|", .str "a", .str "z"]) n4
    have g4 : GE K 1 M _ (.ref p4) _ := GE.tup (n := 0) (xs := [.str "|", .str "a", .str "z"]) t3 n4 (GEs.cons (GE.str (x := "|") (by decide +kernel)) (GEs.cons (GE.str (x := "a") (by decide +kernel)) (GEs.cons (GE.str (x := "z") (by decide +kernel)) GEs.nil))) (Nat.le_of_ble_eq_true rfl)
    have a4 := a3.trans s4
    have t4 := t3.same s4
    refine ⟨(by show 3 ≤ sizeLine; decide), fun p5 n5 => ?_⟩
    have s5 := same_upd (o := .tup [.str "and", .str "a", .str "b"]) n5
    have g5 : GE K 1 M _ (.ref p5) _ := GE.tup (n := 0) (xs := [.str "and", .str "a", .str "b"]) t4 n5 (GEs.cons (GE.str (x := "and") (by decide +kernel)) (GEs.cons (GE.str (x := "a") (by decide +kernel)) (GEs.cons (GE.str (x := "b") (by decide +kernel)) GEs.nil))) (Nat.le_of_ble_eq_true rfl)
    have a5 := a4.trans s5
    have t5 := t4.same s5
    refine ⟨(by show 3 ≤ sizeLine; decide), fun p6 n6 => ?_⟩
    have s6 := same_upd (o := .lst [.str "&", .str "a", .str "b"]) n6
    have g6 : GE K 1 M _ (.ref p6) _ := GE.lst (n := 0) (xs := [.str "&", .str "a", .str "b"]) t5 n6 (GEs.cons (GE.str (x := "&") (by decide +kernel)) (GEs.cons (GE.str (x := "a") (by decide +kernel)) (GEs.cons (GE.str (x := "b") (by decide +kernel)) GEs.nil))) (Nat.le_of_ble_eq_true rfl)
    have a6 := a5.trans s6
    have t6 := t5.same s6
    refine ⟨(by show 12 ≤ sizeLine; decide), fun l1 nl1 => ?_⟩
    have s7 := same_upd (o := .lst [.non, .int 3, .str "", .str "i", .str "A", .str "ab", .ref p1, .ref p2, .ref p3, .ref p4, .ref p5, .ref p6]) nl1
    have a7 := a6.trans s7
    have t7 := t6.same s7
    refine ⟨_, rfl, ?_⟩
    refine ⟨(by show 3 ≤ sizeLine; decide), fun p8 n8 => ?_⟩
    have s8 := same_upd (o := .tup [.str "&", .str "a", .non]) n8
    have g8 : GE K 1 M _ (.ref p8) _ := GE.tup (n := 0) (xs := [.str "&", .str "a", .non]) t7 n8 (GEs.cons (GE.str (x := "&") (by decide +kernel)) (GEs.cons (GE.str (x := "a") (by decide +kernel)) (GEs.cons GE.non GEs.nil))) (Nat.le_of_ble_eq_true rfl)
    have a8 := a7.trans s8
    have t8 := t7.same s8
    refine ⟨_, rfl, ?_⟩
    refine ⟨(by show 2 ≤ sizeLine; decide), fun p9 n9 => ?_⟩
    have s9 := same_upd (o := .tup [.str "a", .str "b"]) n9
    have g9 : GE K 1 M _ (.ref p9) _ := GE.tup (n := 0) (xs := [.str "a", .str "b"]) t8 n9 (GEs.cons (GE.str (x := "a") (by decide +kernel)) (GEs.cons (GE.str (x := "b") (by decide +kernel)) GEs.nil)) (Nat.le_of_ble_eq_true rfl)
    have a9 := a8.trans s9
    have t9 := t8.same s9
    refine ⟨(by show 3 ≤ sizeLine; decide), fun p10 n10 => ?_⟩
    have s10 := same_upd (o := .tup [.str "&", v, .ref p9]) n10
    have g10 : GE K 10 M _ (.ref p10) _ := GE.tup (n := 9) (xs := [.str "&", v, .ref p9]) t9 n10 (GEs.cons (GE.str (x := "&") (by decide +kernel)) (GEs.cons (gw.same a9) (GEs.cons (g9.up (by decide)) GEs.nil))) (Nat.le_of_ble_eq_true rfl)
    have a10 := a9.trans s10
    have t10 := t9.same s10
    refine ⟨_, rfl, ?_⟩
    refine ⟨(by show 1 ≤ sizeLine; decide), fun p11 n11 => ?_⟩
    have s11 := same_upd (o := .tup [v]) n11
    have g11 : GE K 10 M _ (.ref p11) _ := GE.tup (n := 9) (xs := [v]) t10 n11 (GEs.cons (gw.same a10) GEs.nil) (Nat.le_of_ble_eq_true rfl)
    have a11 := a10.trans s11
    have t11 := t10.same s11
    refine ⟨(by show 2 ≤ sizeLine; decide), fun p12 n12 => ?_⟩
    have s12 := same_upd (o := .tup [.str "|", .str "b"]) n12
    have g12 : GE K 1 M _ (.ref p12) _ := GE.tup (n := 0) (xs := [.str "|", .str "b"]) t11 n12 (GEs.cons (GE.str (x := "|") (by decide +kernel)) (GEs.cons (GE.str (x := "b") (by decide +kernel)) GEs.nil)) (Nat.le_of_ble_eq_true rfl)
    have a12 := a11.trans s12
    have t12 := t11.same s12
    refine ⟨_, rfl, ?_⟩
    refine ⟨(by show 3 ≤ sizeLine; decide), fun p13 n13 => ?_⟩
    have s13 := same_upd (o := .tup [.str "&", .ref p12, v]) n13
    have g13 : GE K 10 M _ (.ref p13) _ := GE.tup (n := 9) (xs := [.str "&", .ref p12, v]) t12 n13 (GEs.cons (GE.str (x := "&") (by decide +kernel)) (GEs.cons (g12.up (by decide)) (GEs.cons (gw.same a12) GEs.nil))) (Nat.le_of_ble_eq_true rfl)
    have a13 := a12.trans s13
    have t13 := t12.same s13
    refine ⟨(by show 3 ≤ sizeLine; decide), fun p14 n14 => ?_⟩
    have s14 := same_upd (o := .tup [.bl true, .str "a", .str "b"]) n14
    have g14 : GE K 1 M _ (.ref p14) _ := GE.tup (n := 0) (xs := [.bl true, .str "a", .str "b"]) t13 n14 (GEs.cons (GE.bl _) (GEs.cons (GE.str (x := "a") (by decide +kernel)) (GEs.cons (GE.str (x := "b") (by decide +kernel)) GEs.nil))) (Nat.le_of_ble_eq_true rfl)
    have a14 := a13.trans s14
    have t14 := t13.same s14
    refine ⟨(by show 5 ≤ sizeLine; decide), fun m0 nm0 => ?_⟩
    have s15 := same_upd (o := .lst [.ref p8, .ref p10, .ref p11, .ref p13, .ref p14]) nm0
    have a15 := a14.trans s15
    have t15 := t14.same s15
    have hp0 : _ := (s8.trans (s9.trans (s10.trans (s11.trans (s12.trans (s13.trans (s14.trans s15))))))) _ _ (upd_same (o := .lst ([.non, .int 3, .str "", .str "i", .str "A", .str "ab", .ref p1, .ref p2, .ref p3, .ref p4, .ref p5, .ref p6])))
    refine ⟨l1, m0, _, _, rfl, rfl, hp0, upd_same, le1000 (Nat.le_of_ble_eq_true rfl), fun c0 nc0 => ?_⟩
    have s16 := same_upd (o := .lst ([.non, .int 3, .str "", .str "i", .str "A", .str "ab", .ref p1, .ref p2, .ref p3, .ref p4, .ref p5, .ref p6] ++ [.ref p8, .ref p10, .ref p11, .ref p13, .ref p14])) nc0
    have a16 := a15.trans s16
    have t16 := t15.same s16
    refine ⟨_, rfl, ?_⟩
    refine ⟨(by show 1 ≤ sizeLine; decide), fun p17 n17 => ?_⟩
    have s17 := same_upd (o := .lst [.str "a"]) n17
    have g17 : GE K 1 M _ (.ref p17) _ := GE.lst (n := 0) (xs := [.str "a"]) t16 n17 (GEs.cons (GE.str (x := "a") (by decide +kernel)) GEs.nil) (Nat.le_of_ble_eq_true rfl)
    have a17 := a16.trans s17
    have t17 := t16.same s17
    refine ⟨_, rfl, ?_⟩
    refine ⟨(by show 3 ≤ sizeLine; decide), fun p18 n18 => ?_⟩
    have s18 := same_upd (o := .tup [.str "|", .ref p17, v]) n18
    have g18 : GE K 10 M _ (.ref p18) _ := GE.tup (n := 9) (xs := [.str "|", .ref p17, v]) t17 n18 (GEs.cons (GE.str (x := "|") (by decide +kernel)) (GEs.cons (g17.up (by decide)) (GEs.cons (gw.same a17) GEs.nil))) (Nat.le_of_ble_eq_true rfl)
    have a18 := a17.trans s18
    have t18 := t17.same s18
    refine ⟨_, rfl, ?_⟩
    refine ⟨(by show 3 ≤ sizeLine; decide), fun p19 n19 => ?_⟩
    have s19 := same_upd (o := .tup [.str "&", v, .str ""]) n19
    have g19 : GE K 10 M _ (.ref p19) _ := GE.tup (n := 9) (xs := [.str "&", v, .str ""]) t18 n19 (GEs.cons (GE.str (x := "&") (by decide +kernel)) (GEs.cons (gw.same a18) (GEs.cons (GE.str (x := "") (by decide +kernel)) GEs.nil))) (Nat.le_of_ble_eq_true rfl)
    have a19 := a18.trans s19
    have t19 := t18.same s19
    refine ⟨_, rfl, ?_⟩
    refine ⟨_, rfl, ?_⟩
    refine ⟨(by show 3 ≤ sizeLine; decide), fun p20 n20 => ?_⟩
    have s20 := same_upd (o := .tup [.str "", v, v]) n20
    have g20 : GE K 10 M _ (.ref p20) _ := GE.tup (n := 9) (xs := [.str "", v, v]) t19 n20 (GEs.cons (GE.str (x := "") (by decide +kernel)) (GEs.cons (gw.same a19) (GEs.cons (gw.same a19) GEs.nil))) (Nat.le_of_ble_eq_true rfl)
    have a20 := a19.trans s20
    have t20 := t19.same s20
    refine ⟨(by show 3 ≤ sizeLine; decide), fun p21 n21 => ?_⟩
    have s21 := same_upd (o := .tup [.str "&", .str "a", .str "b"]) n21
    have g21 : GE K 1 M _ (.ref p21) _ := GE.tup (n := 0) (xs := [.str "&", .str "a", .str "b"]) t20 n21 (GEs.cons (GE.str (x := "&") (by decide +kernel)) (GEs.cons (GE.str (x := "a") (by decide +kernel)) (GEs.cons (GE.str (x := "b") (by decide +kernel)) GEs.nil))) (Nat.le_of_ble_eq_true rfl)
    have a21 := a20.trans s21
    have t21 := t20.same s21
    refine ⟨(by show 3 ≤ sizeLine; decide), fun p22 n22 => ?_⟩
    have s22 := same_upd (o := .tup [.ref p21, .str "a", .str "b"]) n22
    have g22 : GE K 2 M _ (.ref p22) _ := GE.tup (n := 1) (xs := [.ref p21, .str "a", .str "b"]) t21 n22 (GEs.cons g21 (GEs.cons (GE.str (x := "a") (by decide +kernel)) (GEs.cons (GE.str (x := "b") (by decide +kernel)) GEs.nil))) (Nat.le_of_ble_eq_true rfl)
    have a22 := a21.trans s22
    have t22 := t21.same s22
    refine ⟨10, M, rfl, by decide, t22, fun H23 p23 hd23 s23 => ?_⟩
    have a23 := a22.trans s23
    have t23 := t22.same s23
    have g23 : GE K 10 M H23 p23 (nestD 10) := ⟨hd23, nest_gd 10⟩
    refine ⟨(by show 5 ≤ sizeLine; decide), fun m1 nm1 => ?_⟩
    have s24 := same_upd (o := .lst [.ref p18, .ref p19, .ref p20, .ref p22, p23]) nm1
    have a24 := a23.trans s24
    have t24 := t23.same s24
    have hp1 : _ := (s17.trans (s18.trans (s19.trans (s20.trans (s21.trans (s22.trans (s23.trans s24))))))) _ _ (upd_same (o := .lst ([.non, .int 3, .str "", .str "i", .str "A", .str "ab", .ref p1, .ref p2, .ref p3, .ref p4, .ref p5, .ref p6] ++ [.ref p8, .ref p10, .ref p11, .ref p13, .ref p14])))
    refine ⟨c0, m1, _, _, rfl, rfl, hp1, upd_same, le1000 (Nat.le_of_ble_eq_true rfl), fun c1 nc1 => ?_⟩
    have s25 := same_upd (o := .lst (([.non, .int 3, .str "", .str "i", .str "A", .str "ab", .ref p1, .ref p2, .ref p3, .ref p4, .ref p5, .ref p6] ++ [.ref p8, .ref p10, .ref p11, .ref p13, .ref p14]) ++ [.ref p18, .ref p19, .ref p20, .ref p22, p23])) nc1
    have a25 := a24.trans s25
    have t25 := t24.same s25
    have z24 := s25
    have z23 := s24.trans z24
    have z22 := s23.trans z23
    have z21 := s22.trans z22
    have z20 := s21.trans z21
    have z19 := s20.trans z20
    have z18 := s19.trans z19
    have z17 := s18.trans z18
    have z16 := s17.trans z17
    have z15 := s16.trans z16
    have z14 := s15.trans z15
    have z13 := s14.trans z14
    have z12 := s13.trans z13
    have z11 := s12.trans z12
    have z10 := s11.trans z11
    have z9 := s10.trans z10
    have z8 := s9.trans z9
    have z7 := s8.trans z8
    have z6 := s7.trans z7
    have z5 := s6.trans z6
    have z4 := s5.trans z5
    have z3 := s4.trans z4
    have z2 := s3.trans z3
    have z1 := s2.trans z2
    have ga1 : ∀ y ∈ ([.non, .int 3, .str "", .str "i", .str "A", .str "ab", .ref p1, .ref p2, .ref p3, .ref p4, .ref p5, .ref p6] : List V), GVN K M _ y := (all_cons (GVN.of (n := 0) (GE.non) (by decide) (by decide +kernel)) (all_cons (GVN.of (n := 0) (GE.int _) (by decide) (by decide +kernel)) (all_cons (GVN.of (n := 0) (GE.str (x := "") (by decide +kernel)) (by decide) (by decide +kernel)) (all_cons (GVN.of (n := 0) (GE.str (x := "i") (by decide +kernel)) (by decide) (by decide +kernel)) (all_cons (GVN.of (n := 0) (GE.str (x := "A") (by decide +kernel)) (by decide) (by decide +kernel)) (all_cons (GVN.of (n := 0) (GE.str (x := "ab") (by decide +kernel)) (by decide) (by decide +kernel)) (all_cons (GVN.of (g1.same z1) (by decide) (by decide +kernel)) (all_cons (GVN.of (g2.same z2) (by decide) (by decide +kernel)) (all_cons (GVN.of (g3.same z3) (by decide) (by decide +kernel)) (all_cons (GVN.of (g4.same z4) (by decide) (by decide +kernel)) (all_cons (GVN.of (g5.same z5) (by decide) (by decide +kernel)) (all_cons (GVN.of (g6.same z6) (by decide) (by decide +kernel)) all_nil))))))))))))
    have ga2 : ∀ y ∈ ([.ref p8, .ref p10, .ref p11, .ref p13, .ref p14] : List V), GVN K M _ y := (all_cons (GVN.of (g8.same z8) (by decide) (by decide +kernel)) (all_cons (GVN.of (g10.same z10) (by decide) (zp (x := .tuple [.str "a", .str "b"]) (by simp) (by decide +kernel))) (all_cons (GVN.of (g11.same z11) (by decide) rfl) (all_cons (GVN.of (g13.same z13) (by decide) (zp (x := .tuple [.str "|", .str "b"]) (by simp) (by decide +kernel))) (all_cons (GVN.of (g14.same z14) (by decide) (by decide +kernel)) all_nil)))))
    have ga3 : ∀ y ∈ ([.ref p18, .ref p19, .ref p20, .ref p22, p23] : List V), GVN K M _ y := (all_cons (GVN.of (g18.same z18) (by decide) (zp (x := .list [.str "a"]) (by simp) (by decide +kernel))) (all_cons (GVN.of (g19.same z19) (by decide) (zp (x := .str "") (by simp) (by decide +kernel))) (all_cons (GVN.of (g20.same z20) (by decide) (zo (by decide +kernel))) (all_cons (GVN.of (g22.same z22) (by decide) (by decide +kernel)) (all_cons (GVN.of (g23.same z23) (by decide) (by decide +kernel)) all_nil)))))
    refine ⟨_, rfl, _, rfl, a, L, c1, ns, _, rfl, hs.same a25, (hs.ne (a24.free nc1)).symm, upd_same, Nat.le_of_ble_eq_true rfl, Nat.le_of_ble_eq_true rfl, fun H' y my hs' off' => ?_⟩
    have gy := all_app (all_app ga1 ga2) ga3 y my
    obtain ⟨d, h1, h2, h3⟩ := gy
    refine q H' y ⟨d, dp_same (SmX.at off' aM).hid d y h1, h2, h3⟩ hs' ((SmX.of_same a25).trans (SmX.at off' (List.mem_singleton.mpr rfl)))
end
end Fv


namespace Fv
open PySem PySem.Spec PyProof.Rows L2 FvX
-- top 29  slots: 0:_law_ask 1:_law_told 2:_law_word 3:e
abbrev s_law_call : Stmt := topS 29
abbrev N_law_call : List Str := ["_law_ask", "_law_told", "_law_word", "e"]
theorem sc_law_call : FnScope N_law_call ["_law_ask"] (defScope s_law_call) := ⟨rfl, rfl, rfl, by decide +kernel, rfl, by decide +kernel, by decide +kernel⟩

section
variable {X : Cx} {gf CF : Addr} {cdg : Value} {q : Str}
/-- _law_call: what the lambda gives, or the error's code -/
theorem call_gives (hF : X.mg "FaultError" = some (.ref CF)) : GivesS X N_law_call "_law_call" (defScope s_law_call) gf cdg (defBody s_law_call) "_law_ask" q (TCall X.K CF) := by
  intro lf lc s H Q tl act hc h
  refine ⟨_, pss_cons (ps_set (i := 1) sc_law_call.nd rfl (.inl rfl) pe_non) (pss_cons (ps_set (i := 2) sc_law_call.nd rfl (.inl rfl) pe_str)
    (pss_cons (ps_try_first (X := (cxOf C8.CX0 X.prog X.w X.K X.mg X.base N_law_call "_law_call" (defScope s_law_call) gf cdg X.A X.stack s H C8.E0).nox) (i := 3) (c := .ref CF)
      (tb := fun W D σ H => ∃ E : XK, (∀ cls d H', E cls d H' → W cls d σ H') ∧ σ[0]? = some (some (.ref lf)) ∧ H lc = some (LamX.CodeO lc q) ∧ tl E H (fun v H' => D.nx (σ.set 1 (some v)) H'))
      rfl rfl sc_law_call.nd rfl rfl ⟨rfl, by decide, .inl hF⟩ (fun W pn xe tk _ => ?_)
      (fun a oe cls d pn hz hf => pss_one (ps_set (i := 2) sc_law_call.nd rfl (.inl rfl) (pe_errf (i := 3) hz hf (pv 3)))))
    (pss_one (ps_ret (pe_tup (pa_cons (pv 1) (pa_cons (pv 2) pa_nil))))))), ?_⟩
  · refine ⟨fun pins s' σ H' D I hh => ?_⟩
    obtain ⟨E, hW, h1, h2, h3⟩ := hh
    exact (pss_one (ps_set (i := 1) sc_law_call.nd rfl (.inl rfl) (act W pn xe E _ _ tk))).run pins s' σ H' D I ⟨h1, h2, hW, h3⟩
  · refine ⟨fun cls d H' => ∃ (C dd : Addr) (fs : List (Str × V)) (v : V), cls = .ref C ∧ PySem.W.exmOne X.K cls (.ref CF) = some true ∧ XfC X.K C ∧ PySem.W.findIn X.K (.ref C) "code" = some none ∧ d = some dd ∧ H' dd = some (.xd fs) ∧ fs.lookup ("code" : Str) = some v ∧
      ∀ p, H' p = none → Q (.ref p) (upd H' p (.tup [.non, v])), fun cls d H' z => ?_, rfl, hc, h _ _ (fun v H' z => ?_) (fun C dd H' fs v h2 h3 h4 h6 h7 h8 => ⟨C, dd, fs, v, rfl, h2, h3, h4, rfl, h6, h7, h8⟩)⟩
    · obtain ⟨C, dd, fs, v, h1, h2, h3, h4, h5, h6, h7, h8⟩ := z
      refine ⟨h2, fun a na => ⟨rfl, C, dd, fs, v, h1, h3, h4, h5, h6, h7, ?_⟩⟩
      exact ⟨_, rfl, _, rfl, (by show 2 ≤ sizeLine; decide), h8⟩
    · exact ⟨_, rfl, _, rfl, (by show 2 ≤ sizeLine; decide), z⟩
end
end Fv


namespace Fv
open PySem PySem.Spec PyProof.Rows L2 FvX
/-! ### calls that never raise; calls by keywords of defs that may raise -/
theorem passE0 {P : Program} {w : World} {X : Cx} : Passes (L2.CX P w) X E0 := fun _ _ _ _ _ _ _ h => by
  obtain ⟨_, _, _, _, _, _, _, _, _, _, _, _, z⟩ := h
  exact z.elim
structure OwnKR (P : Program) (w : World) (K : PySem.W.Frag) (mg : Str → Option Value) (base : Heap) (k : Nat) (x : Str) (ps ks : List Str) (gV : List V → List V → List V) (sp : Sp) : Prop where
  ex : ∃ (f : Addr) (fd : FuncData) (g : List Value → List Value → List Value), mg x = some (.ref f) ∧ PySem.W.keepIn K (.ref f) = true ∧ KBn K fd ps 0 ks g gV ∧ FnOk P w K mg base (L2.CX P w) k f fd ps sp
theorem pe_ownKR0 {X : Cx} {k : Nat} {x : Str} {ps ks : List Str} {gV : List V → List V → List V} {sp : Sp} {E : XK} {tk : TA} {p pos : Pos} {kws : List Keyword} (C : OwnKR X.prog X.w X.K X.mg X.base k x ps ks gV sp) (hr : Room k X.A) (hg : Gl X x) (hx : Passes (L2.CX X.prog X.w) X E) (hkw : PK X kws tk)
    (hall : (backToKw pos (keywordEach kws X.env)).all (·.1.isSome) = true := by rfl) (hks : (backToKw pos (keywordEach kws X.env)).filterMap (·.1) = ks := by rfl)
    (hdb : (x == ("__debug__" : Str)) = false := by decide)
    (hpl : ((backTo pos (starEach [] X.env)).any (·.1) || (backToKw pos (keywordEach kws X.env)).any (·.1.isNone)) = false := by rfl) :
    PE X (.Call (.Name x p) [] kws pos) (tCallN 0 ks.length sp gV E tNil tk) := by
  obtain ⟨f, fd, g, h1, h2, h3, h4⟩ := C.ex
  refine ⟨fun pins s σ H Q I h => ?_⟩
  refine wpAny_Call_Name_kw (ld_glob I hg h1 ?_ hdb)
  refine PySem.W.callWith_KW0 (h₀ := X.base) I.ok.mod.kin h2 hall ?_ hpl
  refine thn (hkw.run pos pins s σ H _ I h) fun ws s2 ⟨zs, H2, I2, rz, l1, l2, q2⟩ => ⟨I2.kIn, ?_⟩
  rw [hks]
  exact run_fnN h4 hr h3 hx I2 .nil rz l1 l2 q2
/-! ### rules in the element of a comprehension: the written part is told -/
theorem op_in_seqK {X : Cx} {K : PySem.W.Frag} (hK : X.K = K) : OpR X (compareOp .In) (rIn K false) := by
  subst hK
  exact op_in_seq
theorem ix_listK {X : Cx} {K : PySem.W.Frag} (hK : X.K = K) : IxR X (rIxL K) := by
  subst hK
  exact ix_list
end Fv


namespace Fv
open PySem PySem.Spec PyProof.Rows L2 FvX TL
-- top 20  slots: 0:term 1:operator 2:parts 3:part
abbrev s_with_turned_operators : Stmt := topS 20
abbrev N_with_turned_operators : List Str := ["term", "operator", "parts", "part"]
theorem sc_with_turned_operators : FnScope N_with_turned_operators ["term"] (defScope s_with_turned_operators) := ⟨rfl, rfl, rfl, by decide +kernel, rfl, by decide +kernel, by decide +kernel⟩

-- top 22  slots: 0:term 1:replacements 2:parts 3:part
abbrev s_with_replaced_letters : Stmt := topS 22
abbrev N_with_replaced_letters : List Str := ["term", "replacements", "parts", "part"]
theorem sc_with_replaced_letters : FnScope N_with_replaced_letters ["term", "replacements"] (defScope s_with_replaced_letters) := ⟨rfl, rfl, rfl, by decide +kernel, rfl, by decide +kernel, by decide +kernel⟩

-- top 30  slots: 0:_law_word 1:_law_one
abbrev s_law_turned : Stmt := topS 30
abbrev N_law_turned : List Str := ["_law_word", "_law_one"]
theorem sc_law_turned : FnScope N_law_turned ["_law_word"] (defScope s_law_turned) := ⟨rfl, rfl, rfl, by decide +kernel, rfl, by decide +kernel, by decide +kernel⟩

-- top 31  slots: 0:_law_word 1:_law_table 2:_law_one
abbrev s_law_swap : Stmt := topS 31
abbrev N_law_swap : List Str := ["_law_word", "_law_table", "_law_one"]
theorem sc_law_swap : FnScope N_law_swap ["_law_word", "_law_table"] (defScope s_law_swap) := ⟨rfl, rfl, rfl, by decide +kernel, rfl, by decide +kernel, by decide +kernel⟩

/-! ### turned terms, terms with letters replaced -/
def opT (o : Str) : Str := if o = "&" then "|" else "&"
def tnd : Nat → PyData → PyData
  | 0, d => d
  | m + 1, .tuple (.str o :: ds) => .tuple (.str (opT o) :: ds.map (tnd m))
  | _ + 1, d => d
def swp (f : Str → Option PyData) : Nat → PyData → PyData
  | 0, d => d
  | _ + 1, .str x => (f x).getD (.str x)
  | m + 1, .tuple (.str o :: ds) => .tuple (.str o :: ds.map (swp f m))
  | _ + 1, d => d
/-- the table at kvs: f -/
def tabOf (K : PySem.W.Frag) (H : Hp) (kvs : List (Key × V)) (f : Str → Option PyData) : Prop := ∀ x, (f x = none ∧ valV kvs (.inr x) = none) ∨ ∃ e u, f x = some e ∧ valV kvs (.inr x) = some u ∧ Dp K H u e
theorem tabOf.same {K : PySem.W.Frag} {H H' : Hp} {kvs : List (Key × V)} {f : Str → Option PyData} (h : tabOf K H kvs f) (s : Same H H') : tabOf K H' kvs f := fun x => by
  rcases h x with z | ⟨e, u, h1, h2, h3⟩
  · exact .inl z
  · exact .inr ⟨e, u, h1, h2, dp_same s _ _ h3⟩
def spTnd (K : PySem.W.Frag) (n : Nat) : Sp := fun vs H Q _ => ∃ (v : V) (d : PyData) (m : Nat) (M : List Addr), vs = [v] ∧ Dp K H v d ∧ gd 20 d = true ∧ m < n ∧ 1 ≤ lmeas m d ∧ Trk M H ∧
  ∀ H' v', Same H H' → Dp K (hide M H') v' (tnd m d) → Q v' H'
def spSwp (K : PySem.W.Frag) (n : Nat) : Sp := fun vs H Q _ => ∃ (v : V) (c : Addr) (d : PyData) (m : Nat) (M : List Addr) (kvs : List (Key × V)) (f : Str → Option PyData), vs = [v, .ref c] ∧ Dp K H v d ∧ gd 20 d = true ∧ m < n ∧ 1 ≤ lmeas m d ∧ Trk M H ∧
  H c = some (.dK kvs) ∧ tabOf K (hide M H) kvs f ∧ ∀ H' v', Same H H' → Dp K (hide M H') v' (swp f m d) → Q v' H'
theorem hid_more {M : List Addr} {H H1 : Hp} {D : Addr} (nD : H D = none) (s : Same H H1) : Same (hide M H) (hide (D :: M) H1) := fun b o e => by
  obtain ⟨nb, e⟩ := hide_some e
  have bD : b ≠ D := ne_of_none e nD
  rw [hide_ne (fun z => by
    rcases List.mem_cons.mp z with z | z
    · exact bD z
    · exact nb z)]
  exact s _ _ e
theorem hid_less {M : List Addr} {H H1 : Hp} {D : Addr} (s : Same H H1) : Same (hide (D :: M) H) (hide M H1) := (hide_sub fun b hb => List.mem_cons_of_mem _ hb).trans (SmX.of_same s).hid
theorem trk_cons {M : List Addr} {H H1 : Hp} {D : Addr} {o : HO} (t : Trk M H) (s : Same H H1) (e : H1 D = some o) : Trk (D :: M) H1 := fun b hb => by
  rcases List.mem_cons.mp hb with z | z
  · rw [z]; exact ⟨_, e⟩
  · exact t.same s b z
theorem amp_dec (o : Str) : decide (V.str o = V.str "&") = decide (o = "&") := by
  rw [Bool.eq_iff_iff, decide_eq_true_eq, decide_eq_true_eq]
  exact ⟨V.str.inj, congrArg V.str⟩
theorem ifC {b : Bool} {x y : Str} {σ : L2.St} {H : Hp} {Q : VK} (h : Q (.str (if b = true then x else y)) H) : if b = true then tC (.str x) σ H Q else tC (.str y) σ H Q := by
  cases b <;> exact h
theorem opT_eq (o : Str) : (if decide (o = "&") = true then ("|" : Str) else "&") = opT o := by
  unfold opT
  by_cases e : o = "&"
  · rw [if_pos e, if_pos (decide_eq_true e)]
  · rw [if_neg e, if_neg (fun z => e (of_decide_eq_true z))]
section
variable {P : Program} {w : World} {K : PySem.W.Frag} {mg : Str → Option Value} {base : Heap}
theorem tnd_zero {f : Addr} {fd : FuncData} {k : Nat} {ps : List Str} : FnOk P w K mg base CX0 k f fd ps (spTnd K 0) := by
  have no : ∀ vs H Q E, ¬ spTnd K 0 vs H Q E := fun vs H Q E h => by
    obtain ⟨v, d, m, M, _, _, _, h, _⟩ := h
    omega
  exact ⟨fun vs H Q E h => absurd h (no vs H Q E), fun A outer s H args us vs Q E _ _ _ _ h => absurd h (no vs H Q E)⟩
theorem swp_zero {f : Addr} {fd : FuncData} {k : Nat} {ps : List Str} : FnOk P w K mg base CX0 k f fd ps (spSwp K 0) := by
  have no : ∀ vs H Q E, ¬ spSwp K 0 vs H Q E := fun vs H Q E h => by
    obtain ⟨v, c, d, m, M, kvs, f, _, _, _, h, _⟩ := h
    omega
  exact ⟨fun vs H Q E h => absurd h (no vs H Q E), fun A outer s H args us vs Q E _ _ _ _ h => absurd h (no vs H Q E)⟩
theorem ok_turned_ops {f : Addr} {fd : FuncData} {k n : Nat} (F : Fun K "with_turned_operators" "with_turned_operators" s_with_turned_operators f fd) (hk : 1 ≤ k)
    (C_is_letter : Own P w K mg base 1 "is_letter" ["value"] (spIsLetter K))
    (C_with_turned_operators : Own P w K mg base k "with_turned_operators" ["term"] (spTnd K n)) :
    FnOk P w K mg base CX0 (k + 1) f fd ["term"] (spTnd K (n + 1)) := by
  refine F.ok sc_with_turned_operators (fun vs H Q E h => ?_) (fun cdv A outer s H vs Q E hr h => ?_)
  · obtain ⟨v, d, m, M, rfl, _⟩ := h
    rfl
  · obtain ⟨v, d, m, M, rfl, hd, hg, hm, l1, tM, q⟩ := h
    refine ⟨_, (pss_cons (ps_if (pt_val (pe_own C_is_letter (hr.mono (by omega)) (by rfl) (pa_cons (pv 0) pa_nil)))
        (pss_one (ps_ret (pv 0)))
        pss_nil)
      (pss_cons (ps_set (i := 1) sc_with_turned_operators.nd rfl (by first | exact .inl rfl | exact .inr rfl) (pe_ifExp (pt_cmpR op_eq (pe_ix ix_tup (pv 0) pe_int (fun _ _ => rfl)) pe_str (nomark _)) pe_str pe_str))
      (pss_cons (ps_setLc (i := 2) (own := [("part", 3)]) (g := gName 3) (by rfl) sc_with_turned_operators.nd rfl rfl (sw_true rfl rfl rfl (by decide +kernel)) (pi_tup (pe_slice sl_tup (pv 0) (po_some pe_int) po_none)) (blkOk_by (own := [("part", 3)]) (N := N_with_turned_operators) (sc := defScope s_with_turned_operators) (by decide +kernel)) (fun _ _ _ _ _ => pg_name (i := 3) sc_with_turned_operators.nd rfl (Or.inl rfl)) (fun _ _ _ _ _ => pts_nil) (fun _ _ _ _ _ => (pe_own C_with_turned_operators (hr.mono (by omega)) (by rfl) (pa_cons (pv 3) pa_nil))))
      (pss_one (ps_ret (pe_tup (pa_cons (pv 1) (StX.pa_star (pv 2) pa_nil)))))))), ?_⟩
    cases m with
    | zero => simp only [lmeas] at l1; omega
    | succ m =>
    rcases lmeas_inv l1 with ⟨x, rfl, hx⟩ | ⟨o, ds, rfl, nl, ho, h2, all1, e⟩
    · cases hd
      refine ⟨_, rfl, _, _, rfl, .str x, hg, _, rfl, ?_⟩
      show if isL x = true then _ else _
      rw [if_pos hx]
      exact ⟨_, rfl, q H _ (Same.refl H) (.str x)⟩
    · cases hd with
      | @tup a xs _ hs ha =>
        cases ha with
        | @cons x0 xr _ _ h1 hA =>
        cases h1
        have hl := dpAll_len hA
        have lds := (gd_tuple hg).1
        rw [List.length_cons] at lds
        refine ⟨_, rfl, _, _, rfl, .tup hs (.cons (.str o) hA), hg, _, rfl, iteF ?_⟩
        refine ⟨_, rfl, a, _, _, _, rfl, rfl, hs, at0, rfl, _, rfl, ?_⟩
        rw [amp_dec]
        refine ifC ?_
        rw [opT_eq]
        refine ⟨_, rfl, 1, rfl, a, _, rfl, hs, ?_, fun p np => ?_⟩
        · rw [show HT.sIx (V.str o :: xr).length 0 (some 1) = min 1 (V.str o :: xr).length from HT.sIx_nat _ 0 1, List.length_cons]
          omega
        have ex : cutV (V.str o :: xr) (some 1) none = xr := by rw [cut_drop1]; rfl
        rw [ex]
        have sp := same_upd (o := .tup xr) np
        have gp := (gd_parts hg).2
        refine ⟨p, rfl, ⟨_, SqT.of upd_same⟩, fun D nD => lc_tup (xs := xr) (fun i H1 => Same (upd H p (.tup xr)) H1 ∧ ∃ acc, H1 D = some (.lst acc) ∧ acc.length = i ∧ DpAll K (hide (D :: M) H1) acc ((ds.take i).map (tnd m))) ?_ ?_ ?_ ?_⟩
        · exact ⟨same_upd nD, [], upd_same, rfl, .nil⟩
        · rintro i H1 hi ⟨sm, acc, e1, la, hda⟩
          exact SqT.of (sm _ _ upd_same)
        · rintro i x H1 hx ⟨sm, acc, e1, la, hda⟩
          obtain ⟨d', hd', hD'⟩ := dpAll_get hA hx
          have hDs : Dp K H1 x d' := dp_same (sp.trans sm) d' x hD'
          have md : d' ∈ ds := List.mem_of_getElem? hd'
          have li : i < xr.length := by
            rcases Nat.lt_or_ge i xr.length with z | z
            · exact z
            · rw [List.getElem?_eq_none z] at hx; cases hx
          refine ⟨rfl, ?_⟩
          dsimp only [tYes]
          rw [if_pos rfl]
          refine ⟨_, rfl, x, d', m, D :: M, rfl, hDs, gd_le (gp d' md) (by decide), by omega, all1 d' md, trk_cons tM (sp.trans sm) e1, fun H2 v' s2 hv' => ?_⟩
          refine ⟨_, s2 _ _ e1, small1000 (by omega), fun b o' eb => ?_, acc ++ [v'], upd_same, by rw [List.length_append, la]; rfl, ?_⟩
          · rw [upd_ne (ne_of_none eb nD)]
            exact s2 _ _ (sm _ _ eb)
          · have hp2 : Same (hide (D :: M) H2) (hide (D :: M) (upd H2 D (.lst (acc ++ [v'])))) := (SmX.put (SmX.refl _ _) (List.mem_cons_self ..)).hid
            have e3 : (ds.take (i + 1)).map (tnd m) = (ds.take i).map (tnd m) ++ [tnd m d'] := by
              rw [List.take_add_one, hd']
              simp
            rw [e3]
            exact dpAll_app (dpAll_same ((SmX.of_same s2).hid.trans hp2) _ _ hda) (.cons (dp_same hp2 _ _ hv') .nil)
        · rintro H1 ⟨sm, acc, e1, la, hda⟩
          have et : ds.take xr.length = ds := List.take_of_length_le (by omega)
          rw [et] at hda
          refine ⟨_, rfl, _, rfl, D, acc, rfl, .inr (SqL.of e1), ?_, fun p2 np2 => ?_⟩
          · show (acc ++ []).length + 1 ≤ sizeLine
            rw [List.append_nil]
            exact le1000 (by omega)
          rw [List.append_nil]
          have s2 := same_upd (o := .tup (.str (opT o) :: acc)) np2
          have tM1 : Trk M H1 := tM.same (sp.trans sm)
          refine q _ (.ref p2) ((sp.trans sm).trans s2) ?_
          show Dp K _ _ (.tuple (.str (opT o) :: ds.map (tnd m)))
          exact .tup (SqT.of (hid_at tM1 np2)) (.cons (.str _) (dpAll_same (hid_less s2) _ _ hda))
theorem ok_replaced {f : Addr} {fd : FuncData} {k n : Nat} (F : Fun K "with_replaced_letters" "with_replaced_letters" s_with_replaced_letters f fd) (hk : 1 ≤ k)
    (C_is_letter : Own P w K mg base 1 "is_letter" ["value"] (spIsLetter K))
    (C_with_replaced_letters : Own P w K mg base k "with_replaced_letters" ["term", "replacements"] (spSwp K n)) :
    FnOk P w K mg base CX0 (k + 1) f fd ["term", "replacements"] (spSwp K (n + 1)) := by
  refine F.ok sc_with_replaced_letters (fun vs H Q E h => ?_) (fun cdv A outer s H vs Q E hr h => ?_)
  · obtain ⟨v, c, d, m, M, kvs, g, rfl, _⟩ := h
    rfl
  · obtain ⟨v, c, d, m, M, kvs, g, rfl, hd, hg, hm, l1, tM, hc, ht, q⟩ := h
    refine ⟨_, (pss_cons (ps_if (pt_val (pe_own C_is_letter (hr.mono (by omega)) (by rfl) (pa_cons (pv 0) pa_nil)))
        (pss_one (ps_ret (pe_dget2 (hu_of hr) (pv 1) (pv 0) (pv 0) ⟨rfl, rfl, rfl, rfl⟩)))
        pss_nil)
      (pss_cons (ps_setLc (i := 2) (own := [("part", 3)]) (g := gName 3) (by rfl) sc_with_replaced_letters.nd rfl rfl (sw_true rfl rfl rfl (by decide +kernel)) (pi_tup (pe_slice sl_tup (pv 0) (po_some pe_int) po_none)) (blkOk_by (own := [("part", 3)]) (N := N_with_replaced_letters) (sc := defScope s_with_replaced_letters) (by decide +kernel)) (fun _ _ _ _ _ => pg_name (i := 3) sc_with_replaced_letters.nd rfl (Or.inl rfl)) (fun _ _ _ _ _ => pts_nil) (fun _ _ _ _ _ => (pe_own C_with_replaced_letters (hr.mono (by omega)) (by rfl) (pa_cons (pv 3) (pa_cons (pv 1) pa_nil)))))
      (pss_one (ps_ret (pe_tup (pa_cons (pe_ix ix_tup (pv 0) pe_int (fun _ _ => rfl)) (StX.pa_star (pv 2) pa_nil))))))), ?_⟩
    cases m with
    | zero => simp only [lmeas] at l1; omega
    | succ m =>
    rcases lmeas_inv l1 with ⟨x, rfl, hx⟩ | ⟨o, ds, rfl, nl, ho, h2, all1, e⟩
    · cases hd
      refine ⟨_, rfl, _, _, rfl, .str x, hg, _, rfl, ?_⟩
      show if isL x = true then _ else _
      rw [if_pos hx]
      refine ⟨_, rfl, c, rfl, .inl ⟨kvs, .inl hc⟩, _, rfl, _, rfl, _, DGet.k (k := Sum.inr x) hc, q H _ (Same.refl H) ?_⟩
      show Dp K _ _ ((g x).getD (.str x))
      rcases ht x with ⟨h1, h2⟩ | ⟨e', u, h1, h2, h3⟩
      · rw [h1, h2]
        exact .str x
      · rw [h1, h2]
        exact h3
    · cases hd with
      | @tup a xs _ hs ha =>
        cases ha with
        | @cons x0 xr _ _ h1 hA =>
        cases h1
        have hl := dpAll_len hA
        have lds := (gd_tuple hg).1
        rw [List.length_cons] at lds
        refine ⟨_, rfl, _, _, rfl, .tup hs (.cons (.str o) hA), hg, _, rfl, iteF ?_⟩
        refine ⟨_, rfl, 1, rfl, a, _, rfl, hs, ?_, fun p np => ?_⟩
        · rw [show HT.sIx (V.str o :: xr).length 0 (some 1) = min 1 (V.str o :: xr).length from HT.sIx_nat _ 0 1, List.length_cons]
          omega
        have ex : cutV (V.str o :: xr) (some 1) none = xr := by rw [cut_drop1]; rfl
        rw [ex]
        have sp := same_upd (o := .tup xr) np
        have gp := (gd_parts hg).2
        refine ⟨p, rfl, ⟨_, SqT.of upd_same⟩, fun D nD => lc_tup (xs := xr) (fun i H1 => Same (upd H p (.tup xr)) H1 ∧ ∃ acc, H1 D = some (.lst acc) ∧ acc.length = i ∧ DpAll K (hide (D :: M) H1) acc ((ds.take i).map (swp g m))) ?_ ?_ ?_ ?_⟩
        · exact ⟨same_upd nD, [], upd_same, rfl, .nil⟩
        · rintro i H1 hi ⟨sm, acc, e1, la, hda⟩
          exact SqT.of (sm _ _ upd_same)
        · rintro i x H1 hx ⟨sm, acc, e1, la, hda⟩
          obtain ⟨d', hd', hD'⟩ := dpAll_get hA hx
          have sH1 : Same H H1 := (sp.trans sm)
          have nDH : H D = none := by
            cases z : H D with
            | none => rfl
            | some o' => have := (sp) _ _ z; rw [nD] at this; cases this
          have hDs : Dp K H1 x d' := dp_same sH1 d' x hD'
          have md : d' ∈ ds := List.mem_of_getElem? hd'
          have li : i < xr.length := by
            rcases Nat.lt_or_ge i xr.length with z | z
            · exact z
            · rw [List.getElem?_eq_none z] at hx; cases hx
          refine ⟨rfl, ?_⟩
          dsimp only [tYes]
          rw [if_pos rfl]
          refine ⟨_, rfl, _, rfl, x, c, d', m, D :: M, kvs, g, rfl, hDs, gd_le (gp d' md) (by decide), by omega, all1 d' md, trk_cons tM sH1 e1, sH1 _ _ hc, ht.same (hid_more nDH sH1), fun H2 v' s2 hv' => ?_⟩
          refine ⟨_, s2 _ _ e1, small1000 (by omega), fun b o' eb => ?_, acc ++ [v'], upd_same, by rw [List.length_append, la]; rfl, ?_⟩
          · rw [upd_ne (ne_of_none eb nD)]
            exact s2 _ _ (sm _ _ eb)
          · have hp2 : Same (hide (D :: M) H2) (hide (D :: M) (upd H2 D (.lst (acc ++ [v'])))) := (SmX.put (SmX.refl _ _) (List.mem_cons_self ..)).hid
            have e3 : (ds.take (i + 1)).map (swp g m) = (ds.take i).map (swp g m) ++ [swp g m d'] := by
              rw [List.take_add_one, hd']
              simp
            rw [e3]
            exact dpAll_app (dpAll_same ((SmX.of_same s2).hid.trans hp2) _ _ hda) (.cons (dp_same hp2 _ _ hv') .nil)
        · rintro H1 ⟨sm, acc, e1, la, hda⟩
          have sH1 : Same H H1 := (sp.trans sm)
          have et : ds.take xr.length = ds := List.take_of_length_le (by omega)
          rw [et] at hda
          refine ⟨_, rfl, a, _, _, _, rfl, rfl, same_seqT sH1 hs, at0, _, rfl, D, acc, rfl, .inr (SqL.of e1), ?_, fun p2 np2 => ?_⟩
          · show (acc ++ []).length + 1 ≤ sizeLine
            rw [List.append_nil]
            exact le1000 (by omega)
          rw [List.append_nil]
          have s2 := same_upd (o := .tup (.str o :: acc)) np2
          have tM1 : Trk M H1 := tM.same sH1
          refine q _ (.ref p2) (sH1.trans s2) ?_
          show Dp K _ _ (.tuple (.str o :: ds.map (swp g m)))
          exact .tup (SqT.of (hid_at tM1 np2)) (.cons (.str _) (dpAll_same (hid_less s2) _ _ hda))
theorem ok_lturned {f : Addr} {fd : FuncData} {k n : Nat} (F : Fun K "_law_turned" "_law_turned" s_law_turned f fd) (m_isinstance : mg "isinstance" = none) (m_str : mg "str" = none) (m_tuple : mg "tuple" = none) (m_int : mg "int" = none)
    (C_law_turned : Own P w K mg base k "_law_turned" ["_law_word"] (spTnd K n)) :
    FnOk P w K mg base CX0 (k + 1) f fd ["_law_word"] (spTnd K (n + 1)) := by
  refine F.ok sc_law_turned (fun vs H Q E h => ?_) (fun cdv A outer s H vs Q E hr h => ?_)
  · obtain ⟨v, d, m, M, rfl, _⟩ := h
    rfl
  · obtain ⟨v, d, m, M, rfl, hd, hg, hm, l1, tM, q⟩ := h
    refine ⟨_, (pss_cons (ps_if (pt_val (pe_isD (T := "str") (by rfl) m_isinstance (by rfl) m_str (pv 0)))
        (pss_one (ps_ret (pv 0)))
        pss_nil)
      (pss_one (ps_ret (pe_callTy call_tuple_of (by rfl) m_tuple (by decide +kernel) (pa_cons (pe_op op_cat (pe_lst (pa_cons (pe_ix ix_list (pe_lst (pa_cons pe_str (pa_cons pe_str pa_nil))) (pe_callTy call_int1 (by rfl) m_int (by decide +kernel) (pa_cons (pe_cmpR op_eq (pe_ix ix_tup (pv 0) pe_int (fun _ _ => rfl)) pe_str (nomark _)) pa_nil)) (fun _ _ => rfl)) pa_nil)) (pe_lc (own := [("_law_one", 1)]) (g := gName 1) (by rfl) sc_law_turned.nd (pi_tup (pe_slice sl_tup (pv 0) (po_some pe_int) po_none)) (blkOk_by (own := [("_law_one", 1)]) (N := N_law_turned) (sc := defScope s_law_turned) (by decide +kernel)) (fun _ _ _ _ _ => pg_name (i := 1) sc_law_turned.nd rfl (Or.inl rfl)) (fun _ _ _ _ _ => pts_nil) (fun _ _ _ _ _ => (pe_own C_law_turned (hr.mono (by omega)) (by rfl) (pa_cons (pv 1) pa_nil))))) pa_nil))))), ?_⟩
    cases m with
    | zero => simp only [lmeas] at l1; omega
    | succ m =>
    rcases lmeas_inv l1 with ⟨x, rfl, hx⟩ | ⟨o, ds, rfl, nl, ho, h2, all1, e⟩
    · cases hd
      exact ⟨_, rfl, _, _, _, rfl, by decide, .str x, _, rfl, iteT ⟨_, rfl, q H _ (Same.refl H) (.str x)⟩⟩
    · cases hd with
      | @tup a xs _ hs ha =>
        cases ha with
        | @cons x0 xr _ _ h1 hA =>
        cases h1
        have hl := dpAll_len hA
        have lds := (gd_tuple hg).1
        rw [List.length_cons] at lds
        refine ⟨_, rfl, _, _, .tuple (.str o :: ds), rfl, by decide, .tup hs (.cons (.str o) hA), _, rfl, iteF ?_⟩
        refine ⟨(by show 2 ≤ sizeLine; decide), fun l nl2 => ?_⟩
        have sl := same_upd (o := .lst [.str "&", .str "|"]) nl2
        refine ⟨_, rfl, a, _, _, _, rfl, rfl, same_seqT sl hs, at0, rfl, .inr ⟨_, rfl, ?_⟩⟩
        rw [amp_dec]
        refine ⟨l, _, _, .str (opT o), rfl, rfl, SqL.of upd_same, ?_, (by show 1 ≤ sizeLine; decide), fun o1 no1 => ?_⟩
        · unfold opT
          by_cases c : o = "&"
          · rw [if_pos c, decide_eq_true c]; rfl
          · rw [if_neg c, decide_eq_false c]; rfl
        have so := same_upd (o := .lst [.str (opT o)]) no1
        refine ⟨_, rfl, 1, rfl, a, _, rfl, same_seqT (sl.trans so) hs, ?_, fun p np => ?_⟩
        · rw [show HT.sIx (V.str o :: xr).length 0 (some 1) = min 1 (V.str o :: xr).length from HT.sIx_nat _ 0 1, List.length_cons]
          omega
        have ex : cutV (V.str o :: xr) (some 1) none = xr := by rw [cut_drop1]; rfl
        rw [ex]
        have sp := same_upd (o := .tup xr) np
        have gp := (gd_parts hg).2
        refine ⟨p, rfl, ⟨_, SqT.of upd_same⟩, fun D nD => lc_tup (xs := xr) (fun i H1 => Same (upd (upd (upd H l (.lst [.str "&", .str "|"])) o1 (.lst [.str (opT o)])) p (.tup xr)) H1 ∧ ∃ acc, H1 D = some (.lst acc) ∧ acc.length = i ∧ DpAll K (hide (D :: M) H1) acc ((ds.take i).map (tnd m))) ?_ ?_ ?_ ?_⟩
        · exact ⟨same_upd nD, [], upd_same, rfl, .nil⟩
        · rintro i H1 hi ⟨sm, acc, e1, la, hda⟩
          exact SqT.of (sm _ _ upd_same)
        · rintro i x H1 hx ⟨sm, acc, e1, la, hda⟩
          obtain ⟨d', hd', hD'⟩ := dpAll_get hA hx
          have sH1 : Same H H1 := (sl.trans so).trans (sp.trans sm)
          have nDH : H D = none := by
            cases z : H D with
            | none => rfl
            | some o' => have := ((sl.trans so).trans sp) _ _ z; rw [nD] at this; cases this
          have hDs : Dp K H1 x d' := dp_same sH1 d' x hD'
          have md : d' ∈ ds := List.mem_of_getElem? hd'
          have li : i < xr.length := by
            rcases Nat.lt_or_ge i xr.length with z | z
            · exact z
            · rw [List.getElem?_eq_none z] at hx; cases hx
          refine ⟨rfl, ?_⟩
          dsimp only [tYes]
          rw [if_pos rfl]
          refine ⟨_, rfl, x, d', m, D :: M, rfl, hDs, gd_le (gp d' md) (by decide), by omega, all1 d' md, trk_cons tM sH1 e1, fun H2 v' s2 hv' => ?_⟩
          refine ⟨_, s2 _ _ e1, small1000 (by omega), fun b o' eb => ?_, acc ++ [v'], upd_same, by rw [List.length_append, la]; rfl, ?_⟩
          · rw [upd_ne (ne_of_none eb nD)]
            exact s2 _ _ (sm _ _ eb)
          · have hp2 : Same (hide (D :: M) H2) (hide (D :: M) (upd H2 D (.lst (acc ++ [v'])))) := (SmX.put (SmX.refl _ _) (List.mem_cons_self ..)).hid
            have e3 : (ds.take (i + 1)).map (tnd m) = (ds.take i).map (tnd m) ++ [tnd m d'] := by
              rw [List.take_add_one, hd']
              simp
            rw [e3]
            exact dpAll_app (dpAll_same ((SmX.of_same s2).hid.trans hp2) _ _ hda) (.cons (dp_same hp2 _ _ hv') .nil)
        · rintro H1 ⟨sm, acc, e1, la, hda⟩
          have sH1 : Same H H1 := (sl.trans so).trans (sp.trans sm)
          have et : ds.take xr.length = ds := List.take_of_length_le (by omega)
          rw [et] at hda
          have ho1 : H1 o1 = some (.lst [.str (opT o)]) := (sp.trans sm) _ _ upd_same
          refine ⟨o1, D, _, _, rfl, rfl, ho1, e1, ?_, fun cc ncc => ?_⟩
          · exact le1000 (by show 1 + _ ≤ 1000; omega)
          have sc := same_upd (o := .lst ([.str (opT o)] ++ acc)) ncc
          refine ⟨cc, _, rfl, .inl ⟨SqL.of upd_same, fun p2 np2 => ?_⟩⟩
          have s2 := same_upd (o := .tup ([.str (opT o)] ++ acc)) np2
          have tM1 : Trk M (upd H1 cc (.lst ([.str (opT o)] ++ acc))) := (tM.same sH1).same sc
          refine q _ (.ref p2) ((sH1.trans sc).trans s2) ?_
          show Dp K _ _ (.tuple (.str (opT o) :: ds.map (tnd m)))
          exact .tup (SqT.of (hid_at tM1 np2)) (.cons (.str _) (dpAll_same (hid_less (sc.trans s2)) _ _ hda))
theorem ok_lswap {f : Addr} {fd : FuncData} {k n : Nat} (F : Fun K "_law_swap" "_law_swap" s_law_swap f fd) (m_isinstance : mg "isinstance" = none) (m_str : mg "str" = none) (m_tuple : mg "tuple" = none)
    (C_law_swap : Own P w K mg base k "_law_swap" ["_law_word", "_law_table"] (spSwp K n)) :
    FnOk P w K mg base CX0 (k + 1) f fd ["_law_word", "_law_table"] (spSwp K (n + 1)) := by
  refine F.ok sc_law_swap (fun vs H Q E h => ?_) (fun cdv A outer s H vs Q E hr h => ?_)
  · obtain ⟨v, c, d, m, M, kvs, g, rfl, _⟩ := h
    rfl
  · obtain ⟨v, c, d, m, M, kvs, g, rfl, hd, hg, hm, l1, tM, hc, ht, q⟩ := h
    refine ⟨_, (pss_cons (ps_if (pt_val (pe_isD (T := "str") (by rfl) m_isinstance (by rfl) m_str (pv 0)))
        (pss_one (ps_ret (pe_ifExp (pt_cmp (pc_din (hu_of hr) (pv 0) (pv 1))) (pe_dget (hu_of hr) (pv 1) (pv 0) (fun _ _ => rfl)) (pv 0))))
        pss_nil)
      (pss_one (ps_ret (pe_callTy call_tuple_of (by rfl) m_tuple (by decide +kernel) (pa_cons (pe_op op_cat (pe_lst (pa_cons (pe_ix ix_tup (pv 0) pe_int (fun _ _ => rfl)) pa_nil)) (pe_lc (own := [("_law_one", 2)]) (g := gName 2) (by rfl) sc_law_swap.nd (pi_tup (pe_slice sl_tup (pv 0) (po_some pe_int) po_none)) (blkOk_by (own := [("_law_one", 2)]) (N := N_law_swap) (sc := defScope s_law_swap) (by decide +kernel)) (fun _ _ _ _ _ => pg_name (i := 2) sc_law_swap.nd rfl (Or.inl rfl)) (fun _ _ _ _ _ => pts_nil) (fun _ _ _ _ _ => (pe_own C_law_swap (hr.mono (by omega)) (by rfl) (pa_cons (pv 2) (pa_cons (pv 1) pa_nil)))))) pa_nil))))), ?_⟩
    cases m with
    | zero => simp only [lmeas] at l1; omega
    | succ m =>
    rcases lmeas_inv l1 with ⟨x, rfl, hx⟩ | ⟨o, ds, rfl, nl, ho, h2, all1, e⟩
    · cases hd
      refine ⟨_, rfl, _, _, _, rfl, by decide, .str x, _, rfl, iteT ?_⟩
      have q' := q H
      have z := DGet.k (k := Sum.inr x) hc
      refine ⟨_, rfl, _, rfl, c, _, rfl, z, _, rfl, ?_⟩
      rcases ht x with ⟨h1, h2⟩ | ⟨e', u, h1, h2, h3⟩
      · rw [h2]
        refine iteF ⟨_, rfl, q' _ (Same.refl H) ?_⟩
        show Dp K _ _ ((g x).getD (.str x))
        rw [h1]
        exact .str x
      · rw [h2] at z ⊢
        refine iteT ⟨_, rfl, _, rfl, c, _, rfl, z, q' _ (Same.refl H) ?_⟩
        show Dp K _ _ ((g x).getD (.str x))
        rw [h1]
        exact h3
    · cases hd with
      | @tup a xs _ hs ha =>
        cases ha with
        | @cons x0 xr _ _ h1 hA =>
        cases h1
        have hl := dpAll_len hA
        have lds := (gd_tuple hg).1
        rw [List.length_cons] at lds
        refine ⟨_, rfl, _, _, .tuple (.str o :: ds), rfl, by decide, .tup hs (.cons (.str o) hA), _, rfl, iteF ?_⟩
        refine ⟨_, rfl, a, _, _, _, rfl, rfl, hs, at0, (by show 1 ≤ sizeLine; decide), fun o1 no1 => ?_⟩
        have so := same_upd (o := .lst [.str o]) no1
        refine ⟨_, rfl, 1, rfl, a, _, rfl, same_seqT so hs, ?_, fun p np => ?_⟩
        · rw [show HT.sIx (V.str o :: xr).length 0 (some 1) = min 1 (V.str o :: xr).length from HT.sIx_nat _ 0 1, List.length_cons]
          omega
        have ex : cutV (V.str o :: xr) (some 1) none = xr := by rw [cut_drop1]; rfl
        rw [ex]
        have sp := same_upd (o := .tup xr) np
        have gp := (gd_parts hg).2
        refine ⟨p, rfl, ⟨_, SqT.of upd_same⟩, fun D nD => lc_tup (xs := xr) (fun i H1 => Same (upd (upd H o1 (.lst [.str o])) p (.tup xr)) H1 ∧ ∃ acc, H1 D = some (.lst acc) ∧ acc.length = i ∧ DpAll K (hide (D :: M) H1) acc ((ds.take i).map (swp g m))) ?_ ?_ ?_ ?_⟩
        · exact ⟨same_upd nD, [], upd_same, rfl, .nil⟩
        · rintro i H1 hi ⟨sm, acc, e1, la, hda⟩
          exact SqT.of (sm _ _ upd_same)
        · rintro i x H1 hx ⟨sm, acc, e1, la, hda⟩
          obtain ⟨d', hd', hD'⟩ := dpAll_get hA hx
          have sH1 : Same H H1 := so.trans (sp.trans sm)
          have nDH : H D = none := by
            cases z : H D with
            | none => rfl
            | some o' => have := (so.trans sp) _ _ z; rw [nD] at this; cases this
          have hDs : Dp K H1 x d' := dp_same sH1 d' x hD'
          have md : d' ∈ ds := List.mem_of_getElem? hd'
          have li : i < xr.length := by
            rcases Nat.lt_or_ge i xr.length with z | z
            · exact z
            · rw [List.getElem?_eq_none z] at hx; cases hx
          refine ⟨rfl, ?_⟩
          dsimp only [tYes]
          rw [if_pos rfl]
          refine ⟨_, rfl, _, rfl, x, c, d', m, D :: M, kvs, g, rfl, hDs, gd_le (gp d' md) (by decide), by omega, all1 d' md, trk_cons tM sH1 e1, sH1 _ _ hc, ht.same (hid_more nDH sH1), fun H2 v' s2 hv' => ?_⟩
          refine ⟨_, s2 _ _ e1, small1000 (by omega), fun b o' eb => ?_, acc ++ [v'], upd_same, by rw [List.length_append, la]; rfl, ?_⟩
          · rw [upd_ne (ne_of_none eb nD)]
            exact s2 _ _ (sm _ _ eb)
          · have hp2 : Same (hide (D :: M) H2) (hide (D :: M) (upd H2 D (.lst (acc ++ [v'])))) := (SmX.put (SmX.refl _ _) (List.mem_cons_self ..)).hid
            have e3 : (ds.take (i + 1)).map (swp g m) = (ds.take i).map (swp g m) ++ [swp g m d'] := by
              rw [List.take_add_one, hd']
              simp
            rw [e3]
            exact dpAll_app (dpAll_same ((SmX.of_same s2).hid.trans hp2) _ _ hda) (.cons (dp_same hp2 _ _ hv') .nil)
        · rintro H1 ⟨sm, acc, e1, la, hda⟩
          have sH1 : Same H H1 := so.trans (sp.trans sm)
          have et : ds.take xr.length = ds := List.take_of_length_le (by omega)
          rw [et] at hda
          have ho1 : H1 o1 = some (.lst [.str o]) := (sp.trans sm) _ _ upd_same
          refine ⟨o1, D, _, _, rfl, rfl, ho1, e1, ?_, fun cc ncc => ?_⟩
          · exact le1000 (by show 1 + _ ≤ 1000; omega)
          have sc := same_upd (o := .lst ([.str o] ++ acc)) ncc
          refine ⟨cc, _, rfl, .inl ⟨SqL.of upd_same, fun p2 np2 => ?_⟩⟩
          have s2 := same_upd (o := .tup ([.str o] ++ acc)) np2
          have tM1 : Trk M (upd H1 cc (.lst ([.str o] ++ acc))) := (tM.same sH1).same sc
          refine q _ (.ref p2) ((sH1.trans sc).trans s2) ?_
          show Dp K _ _ (.tuple (.str o :: ds.map (swp g m)))
          exact .tup (SqT.of (hid_at tM1 np2)) (.cons (.str _) (dpAll_same (hid_less (sc.trans s2)) _ _ hda))
end
end Fv


namespace Fv
open PySem PySem.Spec PyProof.Rows L2 FvX TL
-- top 17  slots: 0:value
abbrev s_checked_term : Stmt := topS 17
abbrev N_checked_term : List Str := ["value"]
theorem sc_checked_term : FnScope N_checked_term ["value"] (defScope s_checked_term) := ⟨rfl, rfl, rfl, by decide +kernel, rfl, by decide +kernel, by decide +kernel⟩

-- top 19  slots: 0:term
abbrev s_turned : Stmt := topS 19
abbrev N_turned : List Str := ["term"]
theorem sc_turned : FnScope N_turned ["term"] (defScope s_turned) := ⟨rfl, rfl, rfl, by decide +kernel, rfl, by decide +kernel, by decide +kernel⟩

-- top 21  slots: 0:term 1:replacements 2:names 3:name
abbrev s_substituted : Stmt := topS 21
abbrev N_substituted : List Str := ["term", "replacements", "names", "name"]
theorem sc_substituted : FnScope N_substituted ["term", "replacements"] (defScope s_substituted) := ⟨rfl, rfl, rfl, by decide +kernel, rfl, by decide +kernel, by decide +kernel⟩

/-! ### what has a size is plain data; what comes of replacing -/
theorem len_sum {n : Nat} : ∀ {ds : List PyData}, (∀ d ∈ ds, 1 ≤ lmeas n d) → (ds.length : Int) ≤ (ds.map (lmeas n)).sum
  | [], _ => by simp
  | d :: ds, h => by
    rw [List.length_cons, List.map_cons, List.sum_cons]
    have := h d (List.mem_cons_self ..)
    have := len_sum (ds := ds) fun x hx => h x (List.mem_cons_of_mem _ hx)
    omega
theorem op_gd {o : Str} (ho : o = "&" ∨ o = "|") (n : Nat) : gd n (.str o) = true := by
  refine gd_le (n := 0) ?_ (Nat.zero_le _)
  rcases ho with ho | ho <;> subst ho <;> decide +kernel
theorem part_le2 {n : Nat} {ds : List PyData} {y : PyData} (z : y ∈ ds) : lmeas n y ≤ (ds.map (lmeas n)).sum :=
  mem_le_sum (fun u hu => by
    obtain ⟨d', _, rfl⟩ := List.mem_map.mp hu
    exact lmeas_nonneg n d') (List.mem_map.mpr ⟨y, z, rfl⟩)
theorem gd_swp {f : Str → Option PyData} {g : Nat} (hf : ∀ x e, f x = some e → gd g e = true) : ∀ (n : Nat) (d : PyData), 1 ≤ lmeas n d → lmeas n d ≤ 990 → gd (g + n) (swp f n d) = true
  | 0, d, h, _ => by simp only [lmeas] at h; omega
  | n + 1, d, h, h9 => by
    rcases lmeas_inv h with ⟨x, rfl, hx⟩ | ⟨o, ds, rfl, _, ho, h2, all1, e⟩
    · show gd _ ((f x).getD (.str x)) = true
      cases hx' : f x with
      | none => exact isL_gd hx _
      | some e => exact gd_le (hf x e hx') (by omega)
    · rw [e] at h9
      have hl := len_sum all1
      show gd (g + n + 1) (.tuple (.str o :: ds.map (swp f n))) = true
      refine gd_tup (fun y hy => ?_) (by rw [List.length_cons, List.length_map]; omega)
      rcases List.mem_cons.mp hy with z | z
      · rw [z]; exact op_gd ho _
      · obtain ⟨d', hd', rfl⟩ := List.mem_map.mp z
        refine gd_swp hf n d' (all1 d' hd') ?_
        have := part_le2 (n := n) hd'
        omega
theorem swp_none {f : Str → Option PyData} (hf : ∀ x, f x = none) : ∀ (n : Nat) (d : PyData), swp f n d = d
  | 0, _ => rfl
  | n + 1, .str x => by show (f x).getD (.str x) = _; rw [hf x]; rfl
  | n + 1, .tuple (.str o :: ds) => by
    show PyData.tuple (.str o :: ds.map (swp f n)) = _
    rw [show ds.map (swp f n) = ds.map id from List.map_congr_left fun x _ => swp_none hf n x, List.map_id]
  | _ + 1, .tuple [] => rfl
  | _ + 1, .tuple (.none :: _) => rfl
  | _ + 1, .tuple (.bool _ :: _) => rfl
  | _ + 1, .tuple (.int _ :: _) => rfl
  | _ + 1, .tuple (.list _ :: _) => rfl
  | _ + 1, .tuple (.tuple _ :: _) => rfl
  | _ + 1, .tuple (.dict _ :: _) => rfl
  | _ + 1, .none => rfl
  | _ + 1, .bool _ => rfl
  | _ + 1, .int _ => rfl
  | _ + 1, .list _ => rfl
  | _ + 1, .dict _ => rfl
theorem gd_lm (n : Nat) (d : PyData) (h : 1 ≤ lmeas n d) (h9 : lmeas n d ≤ 990) : gd n d = true := by
  have z := gd_swp (f := fun _ => none) (g := 0) (fun x e h => by cases h) n d h h9
  rw [swp_none fun _ => rfl, Nat.zero_add] at z
  exact z
theorem opT_op {o : Str} (ho : o = "&" ∨ o = "|") : opT o = "&" ∨ opT o = "|" := by
  unfold opT
  split
  · exact .inr rfl
  · exact .inl rfl
theorem opT_opT {o : Str} (ho : o = "&" ∨ o = "|") : opT (opT o) = o := by rcases ho with ho | ho <;> subst ho <;> decide +kernel
theorem isOp_of {o : Str} (ho : o = "&" ∨ o = "|") : isOp (.str o) = true := by rcases ho with ho | ho <;> subst ho <;> decide +kernel
theorem lmeas_tnd : ∀ (n : Nat) (d : PyData), 1 ≤ lmeas n d → lmeas n (tnd n d) = lmeas n d
  | 0, d, h => by simp only [lmeas] at h; omega
  | n + 1, d, h => by
    rcases lmeas_inv h with ⟨x, rfl, hx⟩ | ⟨o, ds, rfl, _, ho, h2, all1, e⟩
    · rfl
    · rw [e]
      show lmeas (n + 1) (.tuple (.str (opT o) :: ds.map (tnd n))) = _
      refine lmeas_tup (isOp_of (opT_op ho)) (by rw [List.length_map]; exact h2) (fun y hy => ?_) ?_
      · obtain ⟨d', hd', rfl⟩ := List.mem_map.mp hy
        rw [lmeas_tnd n d' (all1 d' hd')]
        exact all1 d' hd'
      · rw [List.map_map]
        exact congrArg List.sum (List.map_congr_left fun x hx => lmeas_tnd n x (all1 x hx))
theorem tnd_tnd : ∀ (n : Nat) (d : PyData), 1 ≤ lmeas n d → tnd n (tnd n d) = d
  | 0, d, h => by simp only [lmeas] at h; omega
  | n + 1, d, h => by
    rcases lmeas_inv h with ⟨x, rfl, hx⟩ | ⟨o, ds, rfl, _, ho, h2, all1, e⟩
    · rfl
    · show PyData.tuple (.str (opT (opT o)) :: (ds.map (tnd n)).map (tnd n)) = _
      rw [opT_opT ho, List.map_map, show ds.map (tnd n ∘ tnd n) = ds.map id from List.map_congr_left fun x hx => tnd_tnd n x (all1 x hx), List.map_id]
/-- more depth than is wanted changes nothing -/
theorem swp_up {f : Str → Option PyData} : ∀ (n : Nat) (d : PyData), 1 ≤ lmeas n d → swp f (n + 1) d = swp f n d
  | 0, d, h => by simp only [lmeas] at h; omega
  | n + 1, d, h => by
    rcases lmeas_inv h with ⟨x, rfl, hx⟩ | ⟨o, ds, rfl, _, ho, h2, all1, e⟩
    · rfl
    · show PyData.tuple (.str o :: ds.map (swp f (n + 1))) = PyData.tuple (.str o :: ds.map (swp f n))
      rw [List.map_congr_left fun x hx => swp_up n x (all1 x hx)]
theorem tm_gd {d : PyData} (h : tmB d = true) : gd 5 d = true := gd_lm 5 d ((tmB_iff d).mp h).1 (by have := ((tmB_iff d).mp h).2; omega)
/-! ### the promises -/
def errLt (CL : Addr) (y : Str) (H : Hp) (E : XK) : Prop := ∀ (H' : Hp) (dd : Addr), Same H H' → H' dd = some (.xd [("letter", .str y), ("code", .str "InvalidLetter")]) → E (.ref CL) (some dd) H'
def spTurned (K : PySem.W.Frag) (CT : Addr) : Sp := fun vs H Q _ => ∃ (v : V) (d : PyData) (M : List Addr), vs = [v] ∧ Dp K H v d ∧ gd 20 d = true ∧ 1 ≤ lmeas 9 d ∧ lmeas 9 d ≤ 600 ∧ Trk M H ∧ ∀ H' v', Same H H' → Dp K (hide M H') v' (tnd 9 d) → Q v' H'
/-- what is asked of the names, in their order -/
structure SubQ (K : PySem.W.Frag) (CT CL : Addr) (H : Hp) (M : List Addr) (d : PyData) (f : Str → Option PyData) (ys : List Str) (Q : VK) (E : XK) : Prop where
  lt : ∀ zs y rs, ys = zs ++ y :: rs → (∀ z ∈ zs, isL z = true) → isL y = false → errLt CL y H E
  vl : (∀ y ∈ ys, isL y = true) → ∀ y ∈ ys, ∀ e, f y = some e → tmB e = false → errAt CT "InvalidTerm" H E
  no : (∀ y ∈ ys, isL y = true) → (∀ x e, f x = some e → tmB e = true) → tmB (swp f 5 d) = false → errAt CT "InvalidTerm" H E
  ok : (∀ y ∈ ys, isL y = true) → (∀ x e, f x = some e → tmB e = true) → tmB (swp f 5 d) = true → ∀ H' v', Same H H' → Dp K (hide M H') v' (swp f 5 d) → Q v' H'
def spSub (K : PySem.W.Frag) (CT CL : Addr) : Sp := fun vs H Q E => ∃ (v : V) (c : Addr) (d : PyData) (kvs : List (Key × V)) (ks : List Str) (f : Str → Option PyData) (M : List Addr), vs = [v, .ref c] ∧ Dp K H v d ∧ gd 20 d = true ∧ H c = some (.dK kvs) ∧ kvs.map (·.1) = ks.map Sum.inr ∧ ks.length < 64 ∧
  (∀ y ∈ ks, gd 20 (.str y) = true ∧ (reprText y).length ≤ 100000) ∧ tabOf K (hide M H) kvs f ∧ (∀ x e, f x = some e → gd 20 e = true) ∧ Trk M H ∧ (tmB d = false → errAt CT "InvalidTerm" H E) ∧ (tmB d = true → ∀ ys, ys.Perm ks → sortedS ys = true → SubQ K CT CL H M d f ys Q E)
theorem tab_key {K : PySem.W.Frag} {H : Hp} {kvs : List (Key × V)} {ks : List Str} {f : Str → Option PyData} (ht : tabOf K H kvs f) (ek : kvs.map (·.1) = ks.map Sum.inr) (y : Str) : y ∈ ks ↔ (f y).isSome = true := by
  have key : (valV kvs (Sum.inr y)).isSome = true ↔ y ∈ ks := by
    rw [← valV_any, List.any_eq_true]
    constructor
    · rintro ⟨kv, hm, hk⟩
      have h1 : kv.1 ∈ kvs.map (·.1) := List.mem_map_of_mem hm
      rw [ek, of_decide_eq_true hk] at h1
      obtain ⟨z, hz, e⟩ := List.mem_map.mp h1
      rw [← Sum.inr.inj e]
      exact hz
    · intro hy
      have h1 : (Sum.inr y : Key) ∈ kvs.map (·.1) := by rw [ek]; exact List.mem_map_of_mem hy
      obtain ⟨kv, hm, e⟩ := List.mem_map.mp h1
      exact ⟨kv, hm, decide_eq_true e⟩
  rw [← key]
  rcases ht y with ⟨h1, h2⟩ | ⟨e, u, h1, h2, _⟩
  · rw [h1, h2]
    exact Iff.rfl
  · rw [h1, h2]
    exact Iff.rfl
section
variable {P : Program} {w : World} {K : PySem.W.Frag} {mg : Str → Option Value} {base : Heap} {CT CL fI fL : Addr} {qual msg : Str} {q : ErrPos} {j1 j2 : Nat}
theorem ok_checked {f : Addr} {fd : FuncData} {k : Nat} (F : Fun K "checked_term" "checked_term" s_checked_term f fd) (hk : 1 ≤ k) (T_IT : ErrC P.main.file K CT fI qual q msg "InvalidTerm" j1 j2) (hline : LineOk q msg j1) (htop : (P.main.scope.names.lookup ("super" : Str)).isSome = false) (m_super : mg "super" = none) (g_IT : mg "InvalidTerm" = some (.ref CT))
    (C_T0 : OwnD P w K mg base k "is_term" PsT [.int 5, .int 24] (spIsTerm K)) :
    FnOk P w K mg base (L2.CX P w) (k + 1) f fd ["value"] (spChecked K CT) := by
  refine F.okX sc_checked_term (fun vs H Q E h => ?_) (fun cdv A outer s H vs Q E hr h => ?_)
  · obtain ⟨v, d, rfl, _⟩ := h
    rfl
  · obtain ⟨v, d, rfl, hd, hg, q1, q2⟩ := h
    refine ⟨_, (pss_cons (ps_if (pt_not (pt_val (pe_ownD C_T0 (hr.mono (by omega)) (by rfl) (pa_cons (pv 0) pa_nil))))
        (pss_one (ps_raise rfl (takes_of rfl rfl rfl rfl) (pmk_err0 (k := 0) T_IT hline htop m_super (hr.mono (by omega)) (by rfl) g_IT)))
        pss_nil)
      (pss_one (ps_ret (pv 0)))), ?_⟩
    refine ⟨_, rfl, v, d, 5, 24, rfl, hd, hg, by decide, by decide, fun H' s' => ⟨_, rfl, ?_⟩⟩
    cases ht : tmB d with
    | true =>
      rw [show (meas (5 : Int).toNat d 24).isSome = true from ht]
      exact iteF ⟨_, rfl, q1 ht H' s'⟩
    | false =>
      rw [show (meas (5 : Int).toNat d 24).isSome = false from ht]
      refine iteT fun dd nd => ?_
      exact q2 ht _ dd (s'.trans (same_upd nd)) upd_same
theorem ok_turned {f : Addr} {fd : FuncData} {k : Nat} (F : Fun K "turned" "turned" s_turned f fd)
    (C_measured_long : OwnR P w K mg base k "measured_long" (spLong K CT)) (C_with_turned_operators : Own P w K mg base k "with_turned_operators" ["term"] (spTnd K 10)) :
    FnOk P w K mg base (L2.CX P w) (k + 1) f fd ["term"] (spTurned K CT) := by
  refine F.okX sc_turned (fun vs H Q E h => ?_) (fun cdv A outer s H vs Q E hr h => ?_)
  · obtain ⟨v, d, M, rfl, _⟩ := h
    rfl
  · obtain ⟨v, d, M, rfl, hd, hg, l1, l2, tM, q⟩ := h
    refine ⟨_, (pss_cons (ps_expr (pe_ownR C_measured_long (hr.mono (by omega)) (by rfl) passX (pa_cons (pv 0) pa_nil)))
      (pss_one (ps_ret (pe_own C_with_turned_operators (hr.mono (by omega)) (by rfl) (pa_cons (pv 0) pa_nil))))), ?_⟩
    refine ⟨_, rfl, v, d, rfl, hd, hg, fun dp sz e H' p s' hp => ?_, fun e => ?_⟩
    · exact ⟨_, rfl, v, d, 9, M, rfl, dp_same s' d v hd, hg, by decide, l1, tM.same s', fun H2 v' s2 hv => q H2 v' (s'.trans s2) hv⟩
    · have hm := meas_some 9 d 600
      rw [e, decide_eq_true l1, decide_eq_true l2] at hm
      cases hm
theorem sub_body {f : Addr} {cdv : Value} {k : Nat} {qualL : Str} {qL : ErrPos1} {me : Expr} {jL : Nat} (hk : 1 ≤ k) (T_IL : ErrC1 P.main.file K CL fL qualL qL me "InvalidLetter" "letter" jL) (hline : LineOk1 qL me) (hargs : ArgsOk me) (hme : ∀ u, MsgV u → MsgOk me "letter" u) (htop : (P.main.scope.names.lookup ("super" : Str)).isSome = false) (m_super : mg "super" = none) (g_IL : mg "InvalidLetter" = some (.ref CL)) (m_sorted : mg "sorted" = none)
    (C_is_letter : Own P w K mg base 1 "is_letter" ["value"] (spIsLetter K)) (C_checked_term : OwnR P w K mg base k "checked_term" (spChecked K CT)) (C_with_replaced_letters : Own P w K mg base k "with_replaced_letters" ["term", "replacements"] (spSwp K 10))
    (A : Around) (outer : List Env) (s : Shared) (H : Hp) (vs : List V) (Q : VK) (E : XK) (hr : Room k (A.deeper (envOfC "substituted" (defScope s_substituted) s.heap.objs.size f cdv))) (h : spSub K CT CL vs H Q E) :
    ∃ t, PSs (cxOf (L2.CX P w) P w K mg base N_substituted "substituted" (defScope s_substituted) f cdv A outer s H E) (defBody s_substituted) t ∧ t { nx := fun _ H' => Q .non H', rt := Q } (start N_substituted vs) H := by
    obtain ⟨v, c, d, kvs, ks, g, M, rfl, hd, hg, hc, ek, lk, hks, ht, hgv, tM, q1, q2⟩ := h
    refine ⟨_, (pss_cons (ps_expr (pe_ownR C_checked_term (hr.mono (by omega)) (by rfl) passX (pa_cons (pv 0) pa_nil)))
      (pss_cons (ps_set (i := 2) sc_substituted.nd rfl (by first | exact .inl rfl | exact .inr rfl) (pe_callB (call_sortedD rfl) (by rfl) m_sorted (by decide +kernel) (pa_cons (pv 1) pa_nil)))
      (pss_cons (ps_for (passes_of rfl) rfl (pi_list (pv 2)) (pg_name (i := 3) sc_substituted.nd rfl (by first | exact .inl rfl | exact .inr rfl))
        (pss_one (ps_if (pt_not (pt_val (pe_own C_is_letter (hr.mono (by omega)) (by rfl) (pa_cons (pv 3) pa_nil))))
          (pss_one (ps_raise rfl (takes_of rfl rfl rfl rfl) (pmk_err1 (k := 0) (by decide +kernel) T_IL hline hargs hme htop m_super (hr.mono (by omega)) (by rfl) g_IL (pa_cons (pv 3) pa_nil))))
          pss_nil)))
      (pss_cons (ps_for (passes_of rfl) rfl (pi_list (pv 2)) (pg_name (i := 3) sc_substituted.nd rfl (by first | exact .inl rfl | exact .inr rfl))
        (pss_one (ps_expr (pe_ownR C_checked_term (hr.mono (by omega)) (by rfl) passX (pa_cons (pe_dget (hu_of hr) (pv 1) (pv 3) (fun _ _ => rfl)) pa_nil)))))
      (pss_one (ps_ret (pe_ownR C_checked_term (hr.mono (by omega)) (by rfl) passX (pa_cons (pe_own C_with_replaced_letters (hr.mono (by omega)) (by rfl) (pa_cons (pv 0) (pa_cons (pv 1) pa_nil))) pa_nil)))))))), ?_⟩
    refine ⟨_, rfl, v, d, rfl, hd, hg, fun htm H1 s1 => ?_, q1⟩
    refine ⟨_, rfl, c, kvs, ks, rfl, .inl (s1 _ _ hc), ek, lk, fun ys p hp hsort np => ?_⟩
    have S := q2 htm ys hp hsort
    have s2 := same_upd (o := .lst (ys.map V.str)) np
    have sH : Same H (upd H1 p (.lst (ys.map V.str))) := s1.trans s2
    generalize hHs : upd H1 p (.lst (ys.map V.str)) = Hs at *
    have hps : Hs p = some (.lst (ys.map V.str)) := by rw [← hHs]; exact upd_same
    have str_at : ∀ {i : Nat} {x : V}, (ys.map V.str)[i]? = some x → ∃ y, ys[i]? = some y ∧ x = .str y := fun {i x} hx => by
      rw [List.getElem?_map] at hx
      cases hy : ys[i]? with
      | none => rw [hy] at hx; cases hx
      | some y => rw [hy] at hx; exact ⟨y, rfl, (Option.some.inj hx).symm⟩
    have mem_ks : ∀ {y : Str}, y ∈ ys → y ∈ ks := fun hy => hp.mem_iff.mp hy
    -- the names are letters
    refine ⟨_, rfl, p, rfl, ⟨_, SqL.of hps⟩, for_list (xs := ys.map V.str) (fun i σ H2 => ∃ y3, σ = [some v, some (.ref c), some (.ref p), y3] ∧ H2 = Hs ∧ ∀ z ∈ ys.take i, isL z = true) ?_ ?_ ?_ ?_⟩
    · exact ⟨none, rfl, rfl, fun z hz => nomatch hz⟩
    · rintro i σ H2 _ ⟨y3, rfl, rfl, _⟩
      exact SqL.of hps
    · rintro i x σ H2 hx ⟨y3, rfl, rfl, all⟩
      obtain ⟨y, hy, rfl⟩ := str_at hx
      have my : y ∈ ys := List.mem_of_getElem? hy
      obtain ⟨gy, ry⟩ := hks y (mem_ks my)
      refine ⟨_, rfl, _, _, rfl, .str y, gy, _, rfl, ?_⟩
      show if (!isL y) = true then _ else _
      cases hL : isL y with
      | true =>
        refine iteF ⟨_, rfl, rfl, fun z hz => ?_⟩
        rw [List.take_add_one, hy] at hz
        rcases List.mem_append.mp hz with hz | hz
        · exact all z hz
        · rw [List.mem_singleton.mp hz]; exact hL
      | false =>
        refine iteT ⟨_, rfl, _, rfl, .inl ⟨y, rfl, ry⟩, fun dd nd => ?_⟩
        have li : i < ys.length := by
          rcases Nat.lt_or_ge i ys.length with z | z
          · exact z
          · rw [List.getElem?_eq_none z] at hy; cases hy
        refine S.lt (ys.take i) y (ys.drop (i + 1)) ?_ all hL _ dd (sH.trans (same_upd nd)) upd_same
        have ey : ys[i] = y := Option.some.inj ((List.getElem?_eq_getElem li).symm.trans hy)
        rw [← ey, ← List.drop_eq_getElem_cons li, List.take_append_drop]
    · rintro σ H2 ⟨y3, rfl, rfl, all⟩
      rw [List.length_map, List.take_length] at all
      -- what they are replaced by are terms
      refine ⟨_, rfl, p, rfl, ⟨_, SqL.of hps⟩, for_list (xs := ys.map V.str) (fun i σ H3 => ∃ y3, σ = [some v, some (.ref c), some (.ref p), y3] ∧ Same H2 H3 ∧ ∀ z ∈ ys.take i, ∀ e, g z = some e → tmB e = true) ?_ ?_ ?_ ?_⟩
      · exact ⟨_, rfl, Same.refl _, fun z hz => nomatch hz⟩
      · rintro i σ H3 _ ⟨y3, rfl, s3, _⟩
        exact SqL.of (s3 _ _ hps)
      · rintro i x σ H3 hx ⟨y3, rfl, s3, allv⟩
        obtain ⟨y, hy, rfl⟩ := str_at hx
        have my : y ∈ ys := List.mem_of_getElem? hy
        have sH3 : Same H H3 := sH.trans s3
        have z := DGet.k (k := Sum.inr y) (sH3 _ _ hc)
        rcases ht y with ⟨h1, h2⟩ | ⟨e, u, h1, h2, h3⟩
        · have z := (tab_key ht ek y).mp (mem_ks my)
          rw [h1] at z
          cases z
        · rw [h2] at z
          refine ⟨_, rfl, _, rfl, c, u, rfl, z, u, e, rfl, dp_same (hide_same.trans sH3) _ _ h3, hgv y e h1, fun he H4 s4 => ⟨_, rfl, s3.trans s4, fun z hz => ?_⟩, fun he => (S.vl all y my e h1 he).mono sH3⟩
          rw [List.take_add_one, hy] at hz
          rcases List.mem_append.mp hz with hz | hz
          · exact allv z hz
          · rw [List.mem_singleton.mp hz]
            intro e' he'
            rw [h1] at he'
            rw [← Option.some.inj he']
            exact he
      · rintro σ H3 ⟨y3, rfl, s3, allv⟩
        rw [List.length_map, List.take_length] at allv
        have sH3 : Same H H3 := sH.trans s3
        have allf : ∀ x e, g x = some e → tmB e = true := fun x e he => allv x (hp.mem_iff.mpr ((tab_key ht ek x).mpr (by rw [he]; rfl))) e he
        have l5 := (tmB_iff d).mp htm
        refine ⟨_, rfl, _, rfl, v, c, d, 5, M, kvs, g, rfl, dp_same sH3 _ _ hd, hg, by decide, l5.1, tM.same sH3, sH3 _ _ hc, ht.same (SmX.of_same sH3).hid, fun H4 v' s4 hv => ?_⟩
        have sH4 := sH3.trans s4
        refine ⟨v', swp g 5 d, rfl, dp_same hide_same _ _ hv, gd_le (gd_swp (g := 5) (fun x e he => tm_gd (allf x e he)) 5 d l5.1 (by omega)) (by decide), fun hs H5 s5 => S.ok all allf hs H5 v' (sH4.trans s5) (dp_same (SmX.of_same s5).hid _ _ hv), fun hs => (S.no all allf hs).mono sH4⟩
end
end Fv


namespace Fv
open PySem PySem.Spec PyProof.Rows L2 FvX
-- top 39  slots: 0:_law_ask 1:_law_told 2:e
abbrev s_law_letter_told : Stmt := topS 39
abbrev N_law_letter_told : List Str := ["_law_ask", "_law_told", "e"]
theorem sc_law_letter_told : FnScope N_law_letter_told ["_law_ask"] (defScope s_law_letter_told) := ⟨rfl, rfl, rfl, by decide +kernel, rfl, by decide +kernel, by decide +kernel⟩

/-- what _law_letter_told makes of the lambda's reading -/
def TLet (K : PySem.W.Frag) (CR : Addr) : (XK → Hp → VK → Prop) → Hp → VK → Prop := fun tl H Q => ∀ (R : VK) (E : XK), (∀ v H', Q (.str "") H' → R v H') →
  (∀ (C dd : Addr) (H' : Hp) (fs : List (Str × V)) (v : V), PySem.W.exmOne K (.ref C) (.ref CR) = some true → XfC K C → PySem.W.findIn K (.ref C) "letter" = some none → H' dd = some (.xd fs) → fs.lookup ("letter" : Str) = some v → Q v H' → E (.ref C) (some dd) H') → tl E H R
section
variable {X : Cx} {gf CR : Addr} {cdg : Value} {q : Str}
theorem letter_gives (hF : X.mg "InvalidLetter" = some (.ref CR)) : GivesS X N_law_letter_told "_law_letter_told" (defScope s_law_letter_told) gf cdg (defBody s_law_letter_told) "_law_ask" q (TLet X.K CR) := by
  intro lf lc s H Q tl act hc h
  refine ⟨_, pss_cons (ps_set (i := 1) sc_law_letter_told.nd rfl (.inl rfl) pe_str)
    (pss_cons (ps_try_first (X := (cxOf C8.CX0 X.prog X.w X.K X.mg X.base N_law_letter_told "_law_letter_told" (defScope s_law_letter_told) gf cdg X.A X.stack s H C8.E0).nox) (i := 2) (c := .ref CR)
      (tb := fun W D σ H => ∃ E : XK, (∀ cls d H', E cls d H' → W cls d σ H') ∧ σ[0]? = some (some (.ref lf)) ∧ H lc = some (LamX.CodeO lc q) ∧ tl E H (fun _ H' => D.nx σ H'))
      rfl rfl sc_law_letter_told.nd rfl rfl ⟨rfl, by decide, .inl hF⟩ (fun W pn xe tk _ => ?_)
      (fun a oe cls d pn hz hf => pss_one (ps_set (i := 1) sc_law_letter_told.nd rfl (.inl rfl) (pe_errf (i := 2) hz hf (pv 2)))))
    (pss_one (ps_ret (pv 1)))), ?_⟩
  · refine ⟨fun pins s' σ H' D I hh => ?_⟩
    obtain ⟨E, hW, h1, h2, h3⟩ := hh
    exact (pss_one (ps_expr (act W pn xe E _ _ tk))).run pins s' σ H' D I ⟨h1, h2, hW, h3⟩
  · refine ⟨fun cls d H' => ∃ (C dd : Addr) (fs : List (Str × V)) (v : V), cls = .ref C ∧ PySem.W.exmOne X.K cls (.ref CR) = some true ∧ XfC X.K C ∧ PySem.W.findIn X.K (.ref C) "letter" = some none ∧ d = some dd ∧ H' dd = some (.xd fs) ∧ fs.lookup ("letter" : Str) = some v ∧ Q v H', fun cls d H' z => ?_, rfl, hc, h _ _ (fun v H' z => ?_) (fun C dd H' fs v h2 h3 h4 h6 h7 h8 => ⟨C, dd, fs, v, rfl, h2, h3, h4, rfl, h6, h7, h8⟩)⟩
    · obtain ⟨C, dd, fs, v, h1, h2, h3, h4, h5, h6, h7, h8⟩ := z
      exact ⟨h2, fun a na => ⟨rfl, C, dd, fs, v, h1, h3, h4, h5, h6, h7, _, rfl, h8⟩⟩
    · exact ⟨_, rfl, z⟩
end
end Fv


namespace Fv
open PySem PySem.Spec PyProof.Rows L2 FvX TL
/-! ### a def with **more as its callers see it -/
structure OwnW (P : Program) (w : World) (K : PySem.W.Frag) (mg : Str → Option Value) (base : Heap) (k : Nat) (x : Str) (n : Nat) (ks : List Str) (sp : Sp) : Prop where
  ex : ∃ f : Addr, mg x = some (.ref f) ∧ PySem.W.keepIn K (.ref f) = true ∧ FnW P w K mg base (L2.CX P w) k f n ks sp
theorem pe_ownW {X : Cx} {k n : Nat} {ks : List Str} {sp : Sp} {E : XK} {x : Str} {p pos : Pos} {e : Expr} {es : List Expr} {kws : List Keyword} {t tk : TA} (C : OwnW X.prog X.w X.K X.mg X.base k x n ks sp) (hr : Room k X.A) (hg : Gl X x) (hx : Passes (L2.CX X.prog X.w) X E) (ha : PA X (e :: es) t) (hkw : PK X kws tk)
    (hall : (backToKw pos (keywordEach kws X.env)).all (·.1.isSome) = true := by rfl) (hks : (backToKw pos (keywordEach kws X.env)).filterMap (·.1) = ks := by rfl) (hdb : (x == ("__debug__" : Str)) = false := by decide)
    (he : starEach (e :: es) X.env = (false, eval e X.env) :: starEach es X.env := by rfl) (hpl : ((backTo pos (starEach (e :: es) X.env)).any (·.1) || (backToKw pos (keywordEach kws X.env)).any (·.1.isNone)) = false := by rfl) :
    PE X (.Call (.Name x p) (e :: es) kws pos) (tCallW n ks sp E t tk) := by
  obtain ⟨f, h1, h2, h3⟩ := C.ex
  exact pe_callW h3 hr hg h1 h2 hx ha hkw hall hks hdb he hpl
/-! ### displays -/
theorem merge_new : ∀ (more kvs : List (Key × V)), ((kvs ++ more).map (·.1)).Nodup → mergeK kvs more = kvs ++ more
  | [], kvs, _ => by rw [List.append_nil]; rfl
  | kv :: more, kvs, h => by
    have h' : (((kvs ++ [kv]) ++ more).map (·.1)).Nodup := by rw [List.append_assoc]; exact h
    show mergeK (putK kvs kv.1 kv.2) more = _
    have hn : valV kvs kv.1 = none := by
      cases z : valV kvs kv.1 with
      | none => rfl
      | some u =>
        have a := valV_any kv.1 kvs
        rw [z] at a
        obtain ⟨p, hp, e⟩ := List.any_eq_true.mp a
        rw [List.map_append, List.map_cons] at h
        exact absurd (of_decide_eq_true e) ((List.nodup_append.mp h).2.2 p.1 (List.mem_map.mpr ⟨p, hp, rfl⟩) kv.1 (List.mem_cons_self ..))
    rw [putK_new kv.2 hn, merge_new more (kvs ++ [kv]) h', List.append_assoc]
    rfl
theorem merge_0 {kvs : List (Key × V)} (h : (kvs.map (·.1)).Nodup) : mergeK [] kvs = kvs := merge_new kvs [] h
/-! ### tables of letters -/
def fOf : List (Str × PyData) → Str → Option PyData
  | [], _ => none
  | (k, e) :: r, x => if k = x then some e else fOf r x
def kvOf : List (Str × V) → List (Key × V)
  | [] => []
  | (k, v) :: r => (.inr k, v) :: kvOf r
/-- keys, values, data side by side -/
inductive Tb (K : PySem.W.Frag) (H : Hp) : List (Str × V) → List (Str × PyData) → Prop
  | nil : Tb K H [] []
  | cons {k : Str} {v : V} {e : PyData} {r : List (Str × V)} {s : List (Str × PyData)} (h : Dp K H v e) (t : Tb K H r s) : Tb K H ((k, v) :: r) ((k, e) :: s)
theorem Tb.tab {K : PySem.W.Frag} {H : Hp} {r : List (Str × V)} {s : List (Str × PyData)} (h : Tb K H r s) : tabOf K H (kvOf r) (fOf s) := fun x => by
  induction h with
  | nil => exact .inl ⟨rfl, rfl⟩
  | @cons k v e r s hd t ih =>
    unfold kvOf fOf
    by_cases c : k = x
    · rw [if_pos c, valV_pos (p := (Sum.inr k, v)) (congrArg Sum.inr c)]
      exact .inr ⟨e, v, rfl, rfl, hd⟩
    · rw [if_neg c, valV_neg (p := (Sum.inr k, v)) (fun z => c (Sum.inr.inj z))]
      exact ih
theorem fOf_mem {s : List (Str × PyData)} {x : Str} {e : PyData} (h : fOf s x = some e) : (x, e) ∈ s := by
  induction s with
  | nil => cases h
  | cons p s ih =>
    obtain ⟨k, d⟩ := p
    unfold fOf at h
    by_cases c : k = x
    · rw [if_pos c] at h
      rw [← c, ← Option.some.inj h]
      exact List.mem_cons_self ..
    · rw [if_neg c] at h
      exact List.mem_cons_of_mem _ (ih h)
theorem lmeas_swp {f : Str → Option PyData} (hf : ∀ x e, f x = some e → ∃ y, e = .str y ∧ isL y = true) : ∀ (n : Nat) (d : PyData), 1 ≤ lmeas n d → lmeas n (swp f n d) = lmeas n d
  | 0, d, h => by simp only [lmeas] at h; omega
  | n + 1, d, h => by
    have one : ∀ y, isL y = true → lmeas (n + 1) (.str y) = 1 := fun y hy => by
      show (if isL y = true then (1 : Int) else _) = 1
      rw [if_pos hy]
    rcases lmeas_inv h with ⟨x, rfl, hx⟩ | ⟨o, ds, rfl, _, ho, h2, all1, e⟩
    · show lmeas (n + 1) ((f x).getD (.str x)) = _
      cases hx' : f x with
      | none => rfl
      | some e =>
        obtain ⟨y, rfl, hy⟩ := hf x e hx'
        rw [one x hx]
        exact one y hy
    · rw [e]
      show lmeas (n + 1) (.tuple (.str o :: ds.map (swp f n))) = _
      refine lmeas_tup (isOp_of ho) (by rw [List.length_map]; exact h2) (fun y hy => ?_) ?_
      · obtain ⟨d', hd', rfl⟩ := List.mem_map.mp hy
        rw [lmeas_swp hf n d' (all1 d' hd')]
        exact all1 d' hd'
      · rw [List.map_map]
        exact congrArg List.sum (List.map_congr_left fun x hx => lmeas_swp hf n x (all1 x hx))
theorem lmeas_to {n m : Nat} {d : PyData} (h : 1 ≤ lmeas n d) (hm : n ≤ m) : lmeas m d = lmeas n d := by
  induction hm with
  | refl => rfl
  | step _ ih => rw [lmeas_up _ _ (by rw [ih]; exact h), ih]
theorem tm_not {d : PyData} (h : lmeas 9 d = 0) : tmB d = false := by
  cases ht : tmB d with
  | false => rfl
  | true =>
    have l1 := ((tmB_iff d).mp ht).1
    rw [lmeas_to l1 (by decide)] at h
    omega
/-! ### what substituted gives a caller who catches its errors -/
def badT : PyData := .tuple [.none, .str "InvalidTerm"]
def subE (d : PyData) : PyData := if tmB d = true then .tuple [d, .str ""] else badT
theorem kw_kvOf {ks : List Str} {zs : List V} : kwKV ks zs = kvOf (ks.zip zs) := by
  unfold kwKV
  generalize ks.zip zs = l
  induction l with
  | nil => rfl
  | cons p l ih => rw [List.map_cons, ih]; rfl
theorem kvOf_keys {l : List (Str × V)} : (kvOf l).map (·.1) = (l.map (·.1)).map Sum.inr := by
  induction l with
  | nil => rfl
  | cons p l ih =>
    obtain ⟨k, v⟩ := p
    show Sum.inr k :: (kvOf l).map (·.1) = _
    rw [ih]
    rfl
theorem sub_any {K : PySem.W.Frag} {CT CL CF : Addr} {H : Hp} {M : List Addr} {v : V} {d e : PyData} {l : List (Str × V)} {ls : List (Str × PyData)} {R Q : VK} {E : XK} (hd : Dp K (hide M H) v d) (hg : gd 20 d = true) (hT : Tb K (hide M H) l ls) (tM : Trk M H) (ll : l.length < 64)
    (hks : ∀ y ∈ l.map (·.1), gd 20 (.str y) = true ∧ (reprText y).length ≤ 100000) (hgv : ∀ p ∈ ls, gd 20 p.2 = true)
    (exm : PySem.W.exmOne K (.ref CT) (.ref CF) = some true) (xf : XfC K CT) (fnd : PySem.W.findIn K (.ref CT) "code" = some none)
    (hR : ∀ v H', (∀ p, H' p = none → Q (.ref p) (upd H' p (.tup [v, .str ""]))) → R v H')
    (hE : ∀ (C dd : Addr) (H' : Hp) (fs : List (Str × V)) (v : V), PySem.W.exmOne K (.ref C) (.ref CF) = some true → XfC K C → PySem.W.findIn K (.ref C) "code" = some none → H' dd = some (.xd fs) → fs.lookup ("code" : Str) = some v → (∀ p, H' p = none → Q (.ref p) (upd H' p (.tup [.non, v]))) → E (.ref C) (some dd) H')
    (h1 : tmB d = false → e = badT) (h2 : tmB d = true → ∀ y ∈ l.map (·.1), isL y = true) (h3 : tmB d = true → ∀ y x, fOf ls y = some x → tmB x = false → e = badT)
    (h4 : tmB d = true → (∀ y x, fOf ls y = some x → tmB x = true) → e = subE (swp (fOf ls) 5 d)) (fin : ∀ p H', Same H H' → Dp K (hide M H') (.ref p) e → Q (.ref p) H') :
    ∀ c, H c = none → spSub K CT CL [v, .ref c] (upd H c (.dK (kvOf l))) R E := by
  intro c nc
  have sc := same_upd (o := .dK (kvOf l)) nc
  have bad : e = badT → errAt CT "InvalidTerm" (upd H c (.dK (kvOf l))) E := fun eb H' dd s' hdd => by
    refine hE CT dd H' _ _ exm xf fnd hdd rfl fun p np => ?_
    have sp := same_upd (o := .tup [.non, .str "InvalidTerm"]) np
    refine fin p _ (sc.trans (s'.trans sp)) ?_
    rw [eb]
    exact .tup (SqT.of (hid_at (tM.same (sc.trans s')) np)) (.cons .non (.cons (.str _) .nil))
  refine ⟨v, c, d, kvOf l, l.map (·.1), fOf ls, M, rfl, dp_same (hide_same.trans sc) _ _ hd, hg, upd_same, kvOf_keys, by rw [List.length_map]; exact ll, hks, hT.tab.same (SmX.of_same sc).hid, fun x e h => hgv _ (fOf_mem h), tM.same sc, fun ht => bad (h1 ht), fun ht ys hp _ => ?_⟩
  have all : ∀ y ∈ ys, isL y = true := fun y hy => h2 ht y (hp.mem_iff.mp hy)
  refine ⟨fun zs y rs ey _ hy => ?_, fun _ y _ x hx hf => bad (h3 ht y x hx hf), fun _ allf hs => bad ?_, fun _ allf hs H' v' s' hv' => hR v' H' fun p np => ?_⟩
  · have := all y (by rw [ey]; exact List.mem_append_right _ (List.mem_cons_self ..))
    rw [hy] at this
    cases this
  · rw [h4 ht allf]
    unfold subE
    rw [hs]
    rfl
  · have sp := same_upd (o := .tup [v', .str ""]) np
    refine fin p _ (sc.trans (s'.trans sp)) ?_
    rw [h4 ht allf]
    unfold subE
    rw [if_pos hs]
    exact .tup (SqT.of (hid_at (tM.same (sc.trans s')) np)) (.cons (dp_same (SmX.of_same sp).hid _ _ hv') (.cons (.str _) .nil))
/-! ### the names of the last call, in order -/
def nm4 : List Str := ["zz", "ab", "c", "q"]
theorem ab4 : ∀ x ∈ nm4, ∀ y ∈ nm4, ∀ z ∈ nm4, ∀ u ∈ nm4, [x, y, z, u].Nodup → sortedS [x, y, z, u] = true → x = "ab" := by decide +kernel
theorem ab_first {ys zs rs : List Str} {y : Str} (hp : ys.Perm nm4) (hs : sortedS ys = true) (e : ys = zs ++ y :: rs) (hz : ∀ z ∈ zs, isL z = true) : y = "ab" := by
  have hl : ys.length = 4 := hp.length_eq
  have hn : ys.Nodup := hp.nodup_iff.mpr (by decide +kernel)
  match ys, hl with
  | [a, b, c, d], _ =>
    have m : ∀ x ∈ [a, b, c, d], x ∈ nm4 := fun x hx => hp.mem_iff.mp hx
    have ea := ab4 a (m a (by simp)) b (m b (by simp)) c (m c (by simp)) d (m d (by simp)) hn hs
    cases zs with
    | nil =>
      rw [List.nil_append] at e
      rw [← (List.cons.inj e).1]
      exact ea
    | cons z zs =>
      rw [List.cons_append] at e
      have := hz z (List.mem_cons_self ..)
      rw [← (List.cons.inj e).1, ea] at this
      exact absurd this (by decide +kernel)
end Fv


namespace Fv
open PySem PySem.Spec PyProof.Rows L2 FvX TL
-- top 40  slots: 0:_law_script 1:_law_source_here 2:_law_turn 3:_law_word 4:_law_one 5:_law_two 6:_law_k 7:_law_due 8:_law_expected 9:_law_swapped 10:_law_odd_here 11:_law_asks
abbrev s_law : Stmt := topS 40
abbrev N_law : List Str := ["_law_script", "_law_source_here", "_law_turn", "_law_word", "_law_one", "_law_two", "_law_k", "_law_due", "_law_expected", "_law_swapped", "_law_odd_here", "_law_asks"]
theorem sc_law : FnScope N_law ["_law_script"] (defScope s_law) := ⟨rfl, rfl, rfl, by decide +kernel, rfl, by decide +kernel, by decide +kernel⟩

theorem same_upd2 {H : Hp} {p : Addr} {o o' : HO} (h : H p = none) : Same H (upd (upd H p o) p o') := fun b x e => by
  rw [upd_ne (ne_of_none e h), upd_ne (ne_of_none e h)]
  exact e
theorem hid_at2 {M : List Addr} {H : Hp} (h : Trk M H) {p : Addr} {o o' : HO} (np : H p = none) : hide M (upd (upd H p o) p o') p = some o' := by
  rw [hide_ne (h.ne np)]
  exact upd_same
theorem ifE {b : Bool} {σ : L2.St} {H : Hp} {Q : VK} {i : Nat} {v : V} (hv : σ[i]? = some (some v)) (h : ∀ p, H p = none → Q (.ref p) (upd H p (.tup (if b = true then [v, .str ""] else [.non, .str "InvalidTerm"])))) :
    if b = true then tTup (tCons (tVar i) (tCons (tC (.str "")) tNil)) σ H Q else tTup (tCons (tC .non) (tCons (tC (.str "InvalidTerm")) tNil)) σ H Q := by
  cases b
  · exact ⟨(by show 2 ≤ sizeLine; decide), h⟩
  · exact ⟨v, hv, (by show 2 ≤ sizeLine; decide), h⟩
theorem fits_tm (d : PyData) : (decide (1 ≤ lmeas 5 d) && decide (lmeas 5 d ≤ 24)) = tmB d := by
  unfold tmB
  rw [meas_some]
theorem f_da (d1 d2 : PyData) : fOf [("a", d1), ("d", d2)] = fOf [("d", d2), ("a", d1)] := funext fun x => by
  simp only [fOf]
  by_cases c1 : ("a" : Str) = x
  · subst c1
    rw [if_pos rfl, if_neg (by decide +kernel), if_pos rfl]
  · rw [if_neg c1, if_neg c1]
theorem k_da : ∀ y ∈ (["d", "a"] : List Str), (gd 20 (.str y) = true ∧ (reprText y).length ≤ 100000) ∧ isL y = true := by decide +kernel
theorem k_abh : ∀ y ∈ (["a", "b", "h"] : List Str), (gd 20 (.str y) = true ∧ (reprText y).length ≤ 100000) ∧ isL y = true := by decide +kernel
theorem k_e : (gd 20 (.str "e") = true ∧ (reprText "e").length ≤ 100000) ∧ isL "e" = true := by decide +kernel
theorem k_nm4 : ∀ y ∈ nm4, gd 20 (.str y) = true ∧ (reprText y).length ≤ 100000 := by decide +kernel
theorem subE_gd {d : PyData} {n : Nat} (h : gd n d = true) : gd (n + 1) (subE d) = true := by
  unfold subE
  split
  · exact gd_tup (fun z hz => by
      simp only [List.mem_cons, List.not_mem_nil, or_false] at hz
      rcases hz with rfl | rfl
      · exact h
      · exact gd_le (n := 0) (by decide +kernel) (Nat.zero_le _)) (by show 2 ≤ 1000; decide)
  · exact gd_le (n := 1) (by decide +kernel) (by omega)
theorem sub_tcall {K : PySem.W.Frag} {CT CL CF : Addr} {H : Hp} {M : List Addr} {v : V} {d e : PyData} {l : List (Str × V)} {ls : List (Str × PyData)} {Q : VK} {tl : XK → Hp → VK → Prop} (hd : Dp K (hide M H) v d) (hg : gd 20 d = true) (hT : Tb K (hide M H) l ls) (tM : Trk M H) (ll : l.length < 64)
    (hks : ∀ y ∈ l.map (·.1), gd 20 (.str y) = true ∧ (reprText y).length ≤ 100000) (hgv : ∀ p ∈ ls, gd 20 p.2 = true)
    (exm : PySem.W.exmOne K (.ref CT) (.ref CF) = some true) (xf : XfC K CT) (fnd : PySem.W.findIn K (.ref CT) "code" = some none)
    (htl : ∀ R E, (∀ c, H c = none → spSub K CT CL [v, .ref c] (upd H c (.dK (kvOf l))) R E) → tl E H R)
    (h1 : tmB d = false → e = badT) (h2 : tmB d = true → ∀ y ∈ l.map (·.1), isL y = true) (h3 : tmB d = true → ∀ y x, fOf ls y = some x → tmB x = false → e = badT)
    (h4 : tmB d = true → (∀ y x, fOf ls y = some x → tmB x = true) → e = subE (swp (fOf ls) 5 d)) (fin : ∀ p H', Same H H' → Dp K (hide M H') (.ref p) e → Q (.ref p) H') : TCall K CF tl H Q :=
  fun R E hR hE => htl R E (sub_any hd hg hT tM ll hks hgv exm xf fnd hR hE h1 h2 h3 h4 fin)
theorem sub_fine {K : PySem.W.Frag} {CT CL : Addr} {H : Hp} {M : List Addr} {v : V} {d : PyData} {l : List (Str × V)} {ls : List (Str × PyData)} {R : VK} {E : XK} (hd : Dp K (hide M H) v d) (hg : gd 20 d = true) (hT : Tb K (hide M H) l ls) (tM : Trk M H) (ll : l.length < 64)
    (hks : ∀ y ∈ l.map (·.1), (gd 20 (.str y) = true ∧ (reprText y).length ≤ 100000) ∧ isL y = true) (hgv : ∀ y x, fOf ls y = some x → tmB x = true) (ht : tmB d = true) (hs : tmB (swp (fOf ls) 5 d) = true)
    (fin : ∀ H' v', Same H H' → Dp K (hide M H') v' (swp (fOf ls) 5 d) → R v' H') : ∀ c, H c = none → spSub K CT CL [v, .ref c] (upd H c (.dK (kvOf l))) R E := by
  intro c nc
  have sc := same_upd (o := .dK (kvOf l)) nc
  refine ⟨v, c, d, kvOf l, l.map (·.1), fOf ls, M, rfl, dp_same (hide_same.trans sc) _ _ hd, hg, upd_same, kvOf_keys, by rw [List.length_map]; exact ll, fun y hy => (hks y hy).1, hT.tab.same (SmX.of_same sc).hid, fun x e h => gd_le (tm_gd (hgv x e h)) (by decide), tM.same sc, fun h => (by rw [ht] at h; cases h), fun _ ys hp _ => ?_⟩
  refine ⟨fun zs y rs ey _ hy => ?_, fun _ y _ x hx hf => ?_, fun _ _ h => ?_, fun _ _ _ H' v' s' hv' => fin H' v' (sc.trans s') hv'⟩
  · have := (hks y (hp.mem_iff.mp (by rw [ey]; exact List.mem_append_right _ (List.mem_cons_self ..)))).2
    rw [hy] at this
    cases this
  · rw [hgv y x hx] at hf
    cases hf
  · rw [hs] at h
    cases h
section
variable {P : Program} {w : World} {K : PySem.W.Frag} {mg : Str → Option Value} {base : Heap} {CT CL CF : Addr}
set_option maxHeartbeats 1600000 in
theorem ok_law {f c Pt gcall glet : Addr} {oc oc2 oc3 : Value} {od an od2 an2 od3 an3 : Option Addr} {osl osl2 osl3 : Array (Option Value)} {kW doc pm ct kW2 doc2 pm2 cdv2 ct2 kW3 doc3 pm3 cdv3 ct3 : Value} {k : Nat} (hk : 32 ≤ k)
    (lk : K.lookup f = some ⟨oc, od, .func (PySem.W.fnOf "law" "law" (defArgs s_law) (defBody s_law) (defScope s_law) .none kW doc pm an (.ref c) ct), osl⟩) (hcd : PySem.W.codeIn K (.ref c) "law" = true) (TB : LamX.TabB base mg c Pt)
    (m_range : mg "range" = none)
    (l_call : K.lookup gcall = some ⟨oc2, od2, .func (PySem.W.fnOf "_law_call" "_law_call" (defArgs s_law_call) (defBody s_law_call) (defScope s_law_call) .none kW2 doc2 pm2 an2 cdv2 ct2), osl2⟩) (c_call : PySem.W.codeIn K cdv2 "_law_call" = true) (k_call : PySem.W.keepIn K (.ref gcall) = true) (g_call : mg "_law_call" = some (.ref gcall))
    (b_call : Binds K (PySem.W.fnOf "_law_call" "_law_call" (defArgs s_law_call) (defBody s_law_call) (defScope s_law_call) .none kW2 doc2 pm2 an2 cdv2 ct2) ["_law_ask"] []) (g_FE : mg "FaultError" = some (.ref CF))
    (l_let : K.lookup glet = some ⟨oc3, od3, .func (PySem.W.fnOf "_law_letter_told" "_law_letter_told" (defArgs s_law_letter_told) (defBody s_law_letter_told) (defScope s_law_letter_told) .none kW3 doc3 pm3 an3 cdv3 ct3), osl3⟩) (c_let : PySem.W.codeIn K cdv3 "_law_letter_told" = true) (k_let : PySem.W.keepIn K (.ref glet) = true) (g_let : mg "_law_letter_told" = some (.ref glet))
    (b_let : Binds K (PySem.W.fnOf "_law_letter_told" "_law_letter_told" (defArgs s_law_letter_told) (defBody s_law_letter_told) (defScope s_law_letter_told) .none kW3 doc3 pm3 an3 cdv3 ct3) ["_law_ask"] []) (g_IL : mg "InvalidLetter" = some (.ref CL))
    (exm : PySem.W.exmOne K (.ref CT) (.ref CF) = some true) (xf : XfC K CT) (fnd : PySem.W.findIn K (.ref CT) "code" = some none)
    (exL : PySem.W.exmOne K (.ref CL) (.ref CL) = some true) (xfL : XfC K CL) (fnL : PySem.W.findIn K (.ref CL) "letter" = some none)
    (C_law_source : Own P w K mg base 1 "_law_source" ["_law_script"] (spSource K))
    (C_law_any_term : Own P w K mg base 8 "_law_any_term" ["_law_source_here"] (spAnyTerm K))
    (C_law_odd : Own P w K mg base 3 "_law_odd" ["_law_source_here", "_law_word"] (spOddN K))
    (C_law_same : Own P w K mg base 25 "_law_same" ["_law_found", "_law_due"] (spSame K 25))
    (C_law_fits : Own P w K mg base 21 "_law_fits" ["_law_word"] (spFits K))
    (C_law_turned : Own P w K mg base 10 "_law_turned" ["_law_word"] (spTnd K 10))
    (C_law_swap : Own P w K mg base 10 "_law_swap" ["_law_word", "_law_table"] (spSwp K 10))
    (C_turned : OwnR P w K mg base 28 "turned" (spTurned K CT)) (K_turned : OwnKR P w K mg base 28 "turned" ["term"] ["term"] (fun vs zs => vs ++ zs) (spTurned K CT))
    (C_da : OwnW P w K mg base 28 "substituted" 1 ["d", "a"] (spSub K CT CL)) (C_abh : OwnW P w K mg base 28 "substituted" 1 ["a", "b", "h"] (spSub K CT CL)) (C_none : OwnW P w K mg base 28 "substituted" 1 [] (spSub K CT CL))
    (C_zz : OwnW P w K mg base 28 "substituted" 1 ["zz"] (spSub K CT CL)) (C_e : OwnW P w K mg base 28 "substituted" 1 ["e"] (spSub K CT CL)) (C_nm4 : OwnW P w K mg base 28 "substituted" 1 ["zz", "ab", "c", "q"] (spSub K CT CL)) :
    FnOk P w K mg base CX0 (k + 1) f (PySem.W.fnOf "law" "law" (defArgs s_law) (defBody s_law) (defScope s_law) .none kW doc pm an (.ref c) ct) ["_law_script"] (spLawT K Pt) := by
  refine okC lk hcd sc_law (fun vs H Q E h => ?_) (fun A outer s H vs Q E hr h => ?_)
  · obtain ⟨a, ns, rfl, _⟩ := h
    rfl
  · obtain ⟨sc, ns, rfl, hS, h63, hPt, q⟩ := h
    refine ⟨_, (pss_cons (ps_set (i := 1) sc_law.nd rfl (by first | exact .inl rfl | exact .inr rfl) (pe_own C_law_source (hr.mono (by omega)) (by rfl) (pa_cons (pv 0) pa_nil)))
      (pss_cons (ps_for PassesOwn.never rfl (pi_range1 (by rfl) m_range (pa_cons pe_int pa_nil)) (pg_name (i := 2) sc_law.nd rfl (by first | exact .inl rfl | exact .inr rfl))
        (pss_cons (ps_asg (pe_lc (own := [("_law_k", 6)]) (g := gName 6) (by rfl) sc_law.nd (pi_range1 (by rfl) m_range (pa_cons pe_int pa_nil)) (blkOk_by (own := [("_law_k", 6)]) (N := N_law) (sc := defScope s_law) (by decide +kernel)) (fun _ _ _ _ _ => pg_name (i := 6) sc_law.nd rfl (Or.inl rfl)) (fun _ _ _ _ _ => pts_nil) (fun _ _ _ _ _ => (pe_own C_law_any_term (hr.mono (by omega)) (by rfl) (pa_cons (pv 1) pa_nil)))) (pg_unl rfl (pgs_cons (pg_name (i := 3) sc_law.nd rfl (by first | exact .inl rfl | exact .inr rfl)) (pgs_cons (pg_name (i := 4) sc_law.nd rfl (by first | exact .inl rfl | exact .inr rfl)) (pgs_cons (pg_name (i := 5) sc_law.nd rfl (by first | exact .inl rfl | exact .inr rfl)) pgs_nil)))))
        (pss_cons (ps_if (pt_not (pt_val (pe_own C_law_same (hr.mono (by omega)) (by rfl) (pa_cons (pe_lst (pa_cons (pe_ownR C_turned (hr.mono (by omega)) (by rfl) passE0 (pa_cons (pv 3) pa_nil)) (pa_cons (pe_ownKR0 K_turned (hr.mono (by omega)) (by rfl) passE0 (pk_cons (pe_ownR C_turned (hr.mono (by omega)) (by rfl) passE0 (pa_cons (pv 3) pa_nil)) pk_nil)) pa_nil))) (pa_cons (pe_lst (pa_cons (pe_own C_law_turned (hr.mono (by omega)) (by rfl) (pa_cons (pv 3) pa_nil)) (pa_cons (pv 3) pa_nil))) pa_nil)))))
          (pss_one (ps_ret pe_bl))
          pss_nil)
        (pss_cons (ps_set (i := 7) sc_law.nd rfl (by first | exact .inl rfl | exact .inr rfl) (pe_own C_law_swap (hr.mono (by omega)) (by rfl) (pa_cons (pv 3) (pa_cons (pe_disp (pps_cons pe_str (pv 4) (pps_cons pe_str (pv 5) pps_nil)) rfl rfl (fun z => nomatch z) (by decide)) pa_nil))))
        (pss_cons (ps_set (i := 8) sc_law.nd rfl (by first | exact .inl rfl | exact .inr rfl) (pe_ifExp (pt_val (pe_own C_law_fits (hr.mono (by omega)) (by rfl) (pa_cons (pv 7) pa_nil))) (pe_tup (pa_cons (pv 7) (pa_cons pe_str pa_nil))) (pe_tup (pa_cons pe_non (pa_cons pe_str pa_nil)))))
        (pss_cons (ps_if (pt_not (pt_val (pe_own C_law_same (hr.mono (by omega)) (by rfl) (pa_cons (pe_lamS (T := TT0 Pt) (TT := TCall K CF) (Ng := N_law_call) (k := 30) (by rfl) g_call k_call l_call c_call b_call sc_law_call rfl (.inl rfl) (call_gives g_FE) TB rfl (List.mem_singleton.mpr rfl) (fun p hp _ => by rw [List.mem_singleton.mp hp]; rfl) (hr.mono (by omega)) (LamX.lamS_by (sc := defScope s_law) (by decide +kernel)) rfl (fun _ _ _ _ _ => rfl) (fun A outer s H E lf lc hr2 => pe_ownW C_da (hr2.mono (by omega)) (by rfl) (passes_call (takes_of rfl rfl rfl rfl) (fun _ _ _ _ h => h)) (pa_cons (pv 3) pa_nil) (pk_cons (pv 5) (pk_cons (pv 4) pk_nil)))) (pa_cons (pv 8) pa_nil)))))
          (pss_one (ps_ret pe_bl))
          pss_nil)
        (pss_cons (ps_set (i := 9) sc_law.nd rfl (by first | exact .inl rfl | exact .inr rfl) (pe_own C_law_swap (hr.mono (by omega)) (by rfl) (pa_cons (pv 3) (pa_cons (pe_disp (pps_cons pe_str pe_str (pps_cons pe_str pe_str (pps_cons pe_str pe_str pps_nil))) rfl rfl (fun z => nomatch z) (by decide)) pa_nil))))
        (pss_cons (ps_if (pt_not (pt_val (pe_own C_law_same (hr.mono (by omega)) (by rfl) (pa_cons (pe_lst (pa_cons (pe_ownW C_abh (hr.mono (by omega)) (by rfl) passE0 (pa_cons (pv 3) pa_nil) (pk_cons pe_str (pk_cons pe_str (pk_cons pe_str pk_nil)))) (pa_cons (pe_ownW C_none (hr.mono (by omega)) (by rfl) passE0 (pa_cons (pv 3) pa_nil) pk_nil) pa_nil))) (pa_cons (pe_lst (pa_cons (pv 9) (pa_cons (pv 3) pa_nil))) pa_nil)))))
          (pss_one (ps_ret pe_bl))
          pss_nil)
        (pss_cons (ps_set (i := 10) sc_law.nd rfl (by first | exact .inl rfl | exact .inr rfl) (pe_own C_law_odd (hr.mono (by omega)) (by rfl) (pa_cons (pv 1) (pa_cons (pv 3) pa_nil))))
        (pss_cons (ps_set (i := 11) sc_law.nd rfl (by first | exact .inl rfl | exact .inr rfl) (pe_lst (pa_cons (pe_lamS (T := TT0 Pt) (TT := TCall K CF) (Ng := N_law_call) (k := 30) (by rfl) g_call k_call l_call c_call b_call sc_law_call rfl (.inl rfl) (call_gives g_FE) TB rfl (List.mem_singleton.mpr rfl) (fun p hp _ => by rw [List.mem_singleton.mp hp]; rfl) (hr.mono (by omega)) (LamX.lamS_by (sc := defScope s_law) (by decide +kernel)) rfl (fun _ _ _ _ _ => rfl) (fun A outer s H E lf lc hr2 => pe_ownW C_zz (hr2.mono (by omega)) (by rfl) (passes_call (takes_of rfl rfl rfl rfl) (fun _ _ _ _ h => h)) (pa_cons (pv 10) pa_nil) (pk_cons (pv 10) pk_nil))) (pa_cons (pe_lamS (T := TT0 Pt) (TT := TCall K CF) (Ng := N_law_call) (k := 30) (by rfl) g_call k_call l_call c_call b_call sc_law_call rfl (.inl rfl) (call_gives g_FE) TB rfl (List.mem_singleton.mpr rfl) (fun p hp _ => by rw [List.mem_singleton.mp hp]; rfl) (hr.mono (by omega)) (LamX.lamS_by (sc := defScope s_law) (by decide +kernel)) rfl (fun _ _ _ _ _ => rfl) (fun A outer s H E lf lc hr2 => pe_ownW C_e (hr2.mono (by omega)) (by rfl) (passes_call (takes_of rfl rfl rfl rfl) (fun _ _ _ _ h => h)) (pa_cons (pv 3) pa_nil) (pk_cons (pv 10) pk_nil))) pa_nil))))
        (pss_cons (ps_if (pt_cmpR (op_neD hr.units) (pv 11) (pe_op op_rep (pe_lst (pa_cons (pe_tup (pa_cons pe_non (pa_cons pe_str pa_nil))) pa_nil)) pe_int) (nomark _))
          (pss_one (ps_ret pe_bl))
          pss_nil)
        (pss_one (ps_if (pt_cmpR op_ne (pe_lamS (T := TT0 Pt) (TT := TLet K CL) (Ng := N_law_letter_told) (k := 30) (by rfl) g_let k_let l_let c_let b_let sc_law_letter_told rfl (.inl rfl) (letter_gives g_IL) TB rfl (List.mem_singleton.mpr rfl) (fun p hp _ => by rw [List.mem_singleton.mp hp]; rfl) (hr.mono (by omega)) (LamX.lamS_by (sc := defScope s_law) (by decide +kernel)) rfl (fun _ _ _ _ _ => rfl) (fun A outer s H E lf lc hr2 => pe_ownW C_nm4 (hr2.mono (by omega)) (by rfl) (passes_call (takes_of rfl rfl rfl rfl) (fun _ _ _ _ h => h)) (pa_cons (pv 3) pa_nil) (pk_cons pe_str (pk_cons (pv 10) (pk_cons (pv 10) (pk_cons pe_str pk_nil)))))) pe_str (nomark _))
          (pss_one (ps_ret pe_bl))
          pss_nil)))))))))))))
      (pss_one (ps_ret pe_bl)))), ?_⟩
    have tab0 : LamX.Tabs (TT0 Pt) H := fun p hp => by
      rw [List.mem_singleton.mp hp]
      exact LamX.TabS.nil hPt
    refine ⟨_, rfl, sc, ns, rfl, hS, h63, fun H0 a L s0 na nL hs0 => ?_⟩
    have ma : ∀ {a : Addr}, a ∈ [a] := List.mem_singleton.mpr rfl
    refine ⟨6, rfl, by decide, by decide, for_range (lo := 0) (n := (6 : Int).toNat) (fun i σ Hi => ∃ y2 y3 y4 y5 y7 y8 y9 y10 y11 : Option V, σ = [some (.ref sc), some (.ref a), y2, y3, y4, y5, none, y7, y8, y9, y10, y11] ∧ Src Hi a L ns ∧ LamX.Tabs (TT0 Pt) Hi) ?_ ?_ ?_⟩
    · exact ⟨_, _, _, _, _, _, _, _, _, rfl, hs0, tabs_same tab0 s0⟩
    · rintro i σ Hi hi ⟨y2, y3, y4, y5, y7, y8, y9, y10, y11, rfl, hsi, ti⟩
      -- three terms
      refine ⟨3, rfl, by decide, by decide, fun D nD => lc_range (lo := 0) (n := (3 : Int).toNat) (fun j Hj => Src Hj a L ns ∧ SmX [a] Hi Hj ∧ ∃ (acc : List V) (ds : List PyData), Hj D = some (.lst acc) ∧ acc.length = j ∧ DpAll K (hide [D, a] Hj) acc ds ∧ ∀ d ∈ ds, tmB d = true) ?_ ?_ ?_⟩
      · exact ⟨hsi.new nD, SmX.new nD, [], [], upd_same, rfl, .nil, fun d hd => nomatch hd⟩
      · rintro j Hj hj ⟨hsj, smj, acc, ds, hD, la, hda, hds⟩
        have aD : a ≠ D := hsi.ne nD
        have LD : D ≠ L := fun z => by
          obtain ⟨_, _, _, _, _, e, _⟩ := hsi
          rw [← z, nD] at e; cases e
        have trD : Trk [D, a] Hj := fun b hb => by
          rcases List.mem_cons.mp hb with z | z
          · rw [z]; exact ⟨_, hD⟩
          · exact hsj.trk b z
        refine ⟨rfl, ?_⟩
        dsimp only [tYes]
        rw [if_pos rfl]
        refine ⟨_, rfl, a, L, ns, [D, a], rfl, hsj, List.mem_cons_of_mem _ ma, trD, fun H1 v1 d1 n1 hv1 _ n15 l11 l12 hg1 hs1 sm1 => ?_⟩
        have hD1 : H1 D = some (.lst acc) := sm1 _ _ (fun z => aD (List.mem_singleton.mp z).symm) hD
        have hidj : Same (hide [D, a] Hj) (hide [D, a] (upd H1 D (.lst (acc ++ [v1])))) := (SmX.put (sm1.sub (M' := [D, a]) fun b hb => .inl (List.mem_cons_of_mem _ hb)) (List.mem_cons_self ..)).hid
        have hid1 : Same (hide [D, a] H1) (hide [D, a] (upd H1 D (.lst (acc ++ [v1])))) := (SmX.put (SmX.refl _ _) (List.mem_cons_self ..)).hid
        have lj : j < 3 := hj
        refine ⟨acc, hD1, small1000 (by omega), hs1.put aD.symm LD, fun b o nb e => ?_, acc ++ [v1], ds ++ [d1], upd_same, by rw [List.length_append, la]; rfl, dpAll_app (dpAll_same hidj _ _ hda) (.cons (dp_same hid1 _ _ hv1) .nil), fun d hd => ?_⟩
        · rw [upd_ne (ne_of_none e nD)]
          exact sm1 _ _ nb (smj _ _ nb e)
        · rcases List.mem_append.mp hd with z | z
          · exact hds d z
          · rw [List.mem_singleton.mp z]
            exact (tmB_iff d1).mpr (by rw [lmeas_to l11 n15]; exact ⟨l11, l12⟩)
      · rintro Hj ⟨hsj, smj, acc, ds, hD, la, hda, hds⟩
        have ld := dpAll_len hda
        have la3 : acc.length = 3 := la
        obtain ⟨vw, v1, v2, rfl⟩ : ∃ vw v1 v2, acc = [vw, v1, v2] := by
          match acc, la3 with
          | [x, y, z], _ => exact ⟨x, y, z, rfl⟩
        obtain ⟨d, d1, d2, rfl⟩ : ∃ d d1 d2, ds = [d, d1, d2] := by
          match ds, ld with
          | [x, y, z], _ => exact ⟨x, y, z, rfl⟩
        have hidA : Same (hide [D, a] Hj) (hide [a] Hj) := hide_sub fun b hb => List.mem_cons_of_mem _ hb
        have hda' := dpAll_same hidA _ _ hda
        obtain ⟨hw, hv1, hv2⟩ : Dp K (hide [a] Hj) vw d ∧ Dp K (hide [a] Hj) v1 d1 ∧ Dp K (hide [a] Hj) v2 d2 := by
          cases hda' with
          | cons x1 r => cases r with
            | cons x2 r => cases r with
              | cons x3 r => exact ⟨x1, x2, x3⟩
        have tw := hds d (by simp)
        have t1 := hds d1 (by simp)
        have t2 := hds d2 (by simp)
        clear hda hda' hidA
        have tj := tabs_smx ti smj hsi.lst
        refine ⟨D, _, rfl, SqL.of hD, rfl, vw, [v1, v2], rfl, v1, [v2], rfl, v2, [], rfl, rfl, ?_⟩
        have u : ∀ {H : Hp} {v : V} {d : PyData}, Dp K (hide [a] H) v d → Dp K H v d := fun h => dp_same hide_same _ _ h
        have g5 := tm_gd tw
        have l5 := (tmB_iff d).mp tw
        have l9 : lmeas 9 d = lmeas 5 d := lmeas_to l5.1 (by decide)
        have lt9 : lmeas 9 (tnd 9 d) = lmeas 9 d := lmeas_tnd 9 d (by omega)
        have gt9 : gd 9 (tnd 9 d) = true := gd_lm 9 _ (by omega) (by omega)
        have g20 : gd 20 d = true := gd_le g5 (by decide)
        -- turned terms
        refine ⟨_, rfl, vw, d, [a], rfl, u hw, g20, by omega, by omega, hsj.trk, fun H1 w1 s1 hw1 => ?_⟩
        have hs1 := hsj.same s1
        refine ⟨_, rfl, vw, d, [a], rfl, u (dp_same (SmX.of_same s1).hid _ _ hw), g20, by omega, by omega, hs1.trk, fun H2 w2 s2 hw2 => ⟨rfl, rfl, ?_⟩⟩
        have hs2 := hs1.same s2
        refine ⟨w2, tnd 9 d, [a], rfl, u hw2, gd_le gt9 (by decide), by omega, by omega, hs2.trk, fun H3 w3 s3 hw3 => ?_⟩
        rw [tnd_tnd 9 d (by omega)] at hw3
        have hs3 := hs2.same s3
        refine ⟨(by show 2 ≤ sizeLine; decide), fun p1 np1 => ?_⟩
        have s4 := same_upd (o := .lst [w1, w3]) np1
        have hs4 := hs3.same s4
        have A4 := s1.trans (s2.trans (s3.trans s4))
        refine ⟨_, rfl, vw, d, 9, [a], rfl, u (dp_same (SmX.of_same A4).hid _ _ hw), g20, by decide, by omega, hs4.trk, fun H5 w5 s5 hw5 => ?_⟩
        refine ⟨_, rfl, (by show 2 ≤ sizeLine; decide), fun p2 np2 => ?_⟩
        have s6 := same_upd (o := .lst [w5, vw]) np2
        have A6 := A4.trans (s5.trans s6)
        refine ⟨.ref p1, .ref p2, .list [tnd 9 d, d], 10, rfl, .lst (SqL.of ((s5.trans s6) _ _ upd_same)) (.cons (dp_same ((s2.trans (s3.trans s4)).trans (s5.trans s6)) _ _ (u hw1)) (.cons (dp_same (s4.trans (s5.trans s6)) _ _ (u hw3)) .nil)), .lst (SqL.of upd_same) (.cons (dp_same s6 _ _ (u hw5)) (.cons (dp_same A6 _ _ (u hw)) .nil)), by decide, gd_lst (n := 9) (fun z hz => ?_) (by show 2 ≤ 1000; decide), fun H7 s7 => ⟨_, rfl, iteF ?_⟩⟩
        · simp only [List.mem_cons, List.not_mem_nil, or_false] at hz
          rcases hz with rfl | rfl
          · exact gt9
          · exact gd_le g5 (by decide)
        have A7 := A6.trans s7
        have hs7 := hsj.same A7
        have hw7 := dp_same (SmX.of_same (M := [a]) A7).hid _ _ hw
        have hv17 := dp_same (SmX.of_same (M := [a]) A7).hid _ _ hv1
        have hv27 := dp_same (SmX.of_same (M := [a]) A7).hid _ _ hv2
        have t7 := tabs_same tj A7
        clear hw1 hw2 hw3 hw5 np1 np2 s1 s2 s3 s4 s5 s6 s7 A4 A6 A7 hs1 hs2 hs3 hs4 hw hv1 hv2
        -- two letters replaced: what is due
        refine ⟨_, rfl, fun c1 nc1 => ⟨_, rfl, _, rfl, upd_same, kvOf [("a", v1), ("d", v2)], rfl, (by show 2 ≤ 15; decide), ?_⟩⟩
        rw [merge_0 (kvs := kvOf [("a", v1), ("d", v2)]) (show ([Sum.inr "a", Sum.inr "d"] : List Key).Nodup by decide +kernel)]
        have sc1 := same_upd2 (o := .dK []) (o' := .dK (kvOf [("a", v1), ("d", v2)])) nc1
        have tab1 := (Tb.cons (k := "a") hv17 (Tb.cons (k := "d") hv27 Tb.nil)).tab
        rw [f_da] at tab1
        have hs8 := hs7.same sc1
        refine ⟨vw, c1, d, 5, [a], _, fOf [("d", d2), ("a", d1)], rfl, dp_same sc1 _ _ (u hw7), g20, by decide, l5.1, hs8.trk, upd_same, tab1.same (SmX.of_same sc1).hid, fun H9 vd s9 hvd => ?_⟩
        have val1 : ∀ y x, fOf [("d", d2), ("a", d1)] y = some x → tmB x = true := fun y x h => by
          have m := fOf_mem h
          simp only [List.mem_cons, List.not_mem_nil, or_false, Prod.mk.injEq] at m
          rcases m with ⟨_, rfl⟩ | ⟨_, rfl⟩
          · exact t2
          · exact t1
        have gx1 : gd 10 (swp (fOf [("d", d2), ("a", d1)]) 5 d) = true := gd_swp (g := 5) (fun y x h => tm_gd (val1 y x h)) 5 d l5.1 (by omega)
        refine ⟨_, rfl, vd, _, rfl, u hvd, gd_le gx1 (by decide), fun H10 s10 => ⟨_, rfl, ?_⟩⟩
        rw [fits_tm]
        refine ifE rfl fun pe npe => ?_
        generalize hx1 : swp (fOf [("d", d2), ("a", d1)]) 5 d = x1 at *
        generalize hpv : (if tmB x1 = true then [vd, V.str ""] else [V.non, V.str "InvalidTerm"]) = pv
        have s11 := same_upd (o := .tup pv) npe
        have A11 := sc1.trans (s9.trans (s10.trans s11))
        have hs10 := (hs8.same s9).same s10
        have hpe : Dp K (hide [a] (upd H10 pe (.tup pv))) (.ref pe) (subE x1) := by
          have e := SqT.of (K := K) (hid_at hs10.trk npe (o := .tup pv))
          subst hpv
          unfold subE
          by_cases c : tmB x1 = true
          · rw [if_pos c] at e ⊢
            rw [if_pos c]
            exact .tup e (.cons (dp_same ((SmX.of_same s10).trans (SmX.new npe)).hid _ _ hvd) (.cons (.str _) .nil))
          · rw [if_neg c] at e ⊢
            rw [if_neg c]
            exact .tup e (.cons .non (.cons (.str _) .nil))
        have hs11 := hs7.same A11
        have hw11 := dp_same (SmX.of_same (M := [a]) A11).hid _ _ hw7
        have hv111 := dp_same (SmX.of_same (M := [a]) A11).hid _ _ hv17
        have hv211 := dp_same (SmX.of_same (M := [a]) A11).hid _ _ hv27
        have t11 := tabs_same t7 A11
        generalize upd H10 pe (.tup pv) = H11 at *
        clear hs8 hs10 tab1 hvd hpv npe s11 A11 s9 s10 sc1 nc1 hs7 hw7 hv17 hv27 t7
        -- what substituted gives
        refine ⟨t11, fun H12 eN T12 => ?_⟩
        have hs12 := hs11.ext eN
        have hw12 := dp_ext (ext_hide eN) _ _ hw11
        have hv112 := dp_ext (ext_hide eN) _ _ hv111
        have hv212 := dp_ext (ext_hide eN) _ _ hv211
        have hpe12 := dp_ext (ext_hide eN) _ _ hpe
        refine sub_tcall (e := subE x1) (l := [("d", v2), ("a", v1)]) (ls := [("d", d2), ("a", d1)]) hw12 g20 (.cons hv212 (.cons hv112 .nil)) hs12.trk (by show 2 < 64; decide) (fun y hy => (k_da y hy).1) (fun z hz => ?_) exm xf fnd (fun R E h => ⟨_, rfl, _, rfl, _, rfl, rfl, rfl, h⟩)
          (fun e => by rw [tw] at e; cases e) (fun _ y hy => (k_da y hy).2) (fun _ y x h e => by rw [val1 y x h] at e; cases e) (fun _ _ => by rw [hx1]) (fun p H13 s13 hp13 => ?_)
        · simp only [List.mem_cons, List.not_mem_nil, or_false] at hz
          rcases hz with rfl | rfl
          · exact gd_le (tm_gd t2) (by decide)
          · exact gd_le (tm_gd t1) (by decide)
        refine ⟨_, rfl, .ref p, .ref pe, subE x1, 11, rfl, u hp13, dp_same s13 _ _ (u hpe12), by decide, subE_gd gx1, fun H14 s14 => ⟨_, rfl, iteF ?_⟩⟩
        have A14 := s13.trans s14
        have hs14 := hs12.same A14
        have hw14 := dp_same (SmX.of_same (M := [a]) A14).hid _ _ hw12
        have t14 := tabs_same T12 A14
        clear hs11 hw11 hv111 hv211 hpe t11 eN T12 hs12 hw12 hv112 hv212 hpe12 hp13 s13 s14 A14
        -- three letters exchanged
        refine ⟨_, rfl, fun c2 nc2 => ⟨upd_same, kvOf [("a", .str "b"), ("b", .str "a"), ("h", .str "a")], rfl, (by show 3 ≤ 15; decide), ?_⟩⟩
        rw [merge_0 (kvs := kvOf [("a", .str "b"), ("b", .str "a"), ("h", .str "a")]) (show ([Sum.inr "a", Sum.inr "b", Sum.inr "h"] : List Key).Nodup by decide +kernel)]
        have sc2 := same_upd2 (o := .dK []) (o' := .dK (kvOf [("a", .str "b"), ("b", .str "a"), ("h", .str "a")])) nc2
        have tabL : ∀ H, Tb K H [("a", .str "b"), ("b", .str "a"), ("h", .str "a")] [("a", .str "b"), ("b", .str "a"), ("h", .str "a")] := fun H => .cons (.str _) (.cons (.str _) (.cons (.str _) .nil))
        have hs15 := hs14.same sc2
        refine ⟨vw, c2, d, 5, [a], _, _, rfl, dp_same sc2 _ _ (u hw14), g20, by decide, l5.1, hs15.trk, upd_same, (tabL _).tab, fun H16 vs s16 hvs => ?_⟩
        have valL : ∀ y x, fOf [("a", PyData.str "b"), ("b", .str "a"), ("h", .str "a")] y = some x → ∃ z, x = .str z ∧ isL z = true := fun y x h => by
          have m := fOf_mem h
          simp only [List.mem_cons, List.not_mem_nil, or_false, Prod.mk.injEq] at m
          rcases m with ⟨_, rfl⟩ | ⟨_, rfl⟩ | ⟨_, rfl⟩ <;> exact ⟨_, rfl, by decide +kernel⟩
        have valT : ∀ y x, fOf [("a", PyData.str "b"), ("b", .str "a"), ("h", .str "a")] y = some x → tmB x = true := fun y x h => by
          obtain ⟨z, rfl, hz⟩ := valL y x h
          refine (tmB_iff _).mpr ?_
          have e : lmeas 5 (.str z) = 1 := by
            show (if isL z = true then (1 : Int) else _) = 1
            rw [if_pos hz]
          rw [e]
          decide
        have lx2 := lmeas_swp valL 5 d l5.1
        have tx2 : tmB (swp (fOf [("a", PyData.str "b"), ("b", .str "a"), ("h", .str "a")]) 5 d) = true := (tmB_iff _).mpr (by rw [lx2]; exact l5)
        have A16 := sc2.trans s16
        have hs16 := hs14.same A16
        have hw16 := dp_same (SmX.of_same (M := [a]) A16).hid _ _ hw14
        have t16 := tabs_same t14 A16
        clear hs15 hw14 hs14 t14 A16 sc2 nc2 s16
        refine ⟨_, rfl, rfl, rfl, sub_fine (l := [("a", .str "b"), ("b", .str "a"), ("h", .str "a")]) hw16 g20 (tabL _) hs16.trk (by show 3 < 64; decide) k_abh valT tw tx2 fun H17 r1 s17 hr1 => ?_⟩
        have hs17 := hs16.same s17
        have hw17 := dp_same (SmX.of_same (M := [a]) s17).hid _ _ hw16
        refine ⟨_, rfl, rfl, rfl, sub_fine (l := []) (ls := []) hw17 g20 .nil hs17.trk (by show 0 < 64; decide) (fun y hy => nomatch hy) (fun y x h => nomatch h) tw (by rw [swp_none (f := fOf []) fun _ => rfl]; exact tw) fun H18 r2 s18 hr2 => ?_⟩
        rw [swp_none (f := fOf []) fun _ => rfl] at hr2
        refine ⟨(by show 2 ≤ sizeLine; decide), fun p3 np3 => ?_⟩
        have s19 := same_upd (o := .lst [r1, r2]) np3
        refine ⟨_, rfl, _, rfl, (by show 2 ≤ sizeLine; decide), fun p4 np4 => ?_⟩
        have s20 := same_upd (o := .lst [vs, vw]) np4
        have A20 := s17.trans (s18.trans (s19.trans s20))
        have gx2 : gd 5 (swp (fOf [("a", PyData.str "b"), ("b", .str "a"), ("h", .str "a")]) 5 d) = true := tm_gd tx2
        refine ⟨.ref p3, .ref p4, .list [swp (fOf [("a", PyData.str "b"), ("b", .str "a"), ("h", .str "a")]) 5 d, d], 6, rfl, .lst (SqL.of (s20 _ _ upd_same)) (.cons (dp_same (s18.trans (s19.trans s20)) _ _ (u hr1)) (.cons (dp_same (s19.trans s20) _ _ (u hr2)) .nil)), .lst (SqL.of upd_same) (.cons (dp_same A20 _ _ (u hvs)) (.cons (dp_same A20 _ _ (u hw16)) .nil)), by decide, gd_lst (n := 5) (fun z hz => ?_) (by show 2 ≤ 1000; decide), fun H21 s21 => ⟨_, rfl, iteF ?_⟩⟩
        · simp only [List.mem_cons, List.not_mem_nil, or_false] at hz
          rcases hz with rfl | rfl
          · exact gx2
          · exact g5
        have A21 := A20.trans s21
        have hs21 := hs16.same A21
        have hw21 := dp_same (SmX.of_same (M := [a]) A21).hid _ _ hw16
        have t21 := tabs_same t16 A21
        clear hvs hr1 hr2 hw17 hs17 hs16 hw16 t16 s17 s18 s19 s20 s21 A20 A21 np3 np4
        -- an odd value
        refine ⟨_, rfl, _, rfl, a, L, ns, vw, [a], rfl, hs21, ⟨d, hw21, gd_le g5 (by decide)⟩, ma, hs21.trk, fun H22 vo gn hs22 sm22 => ?_⟩
        obtain ⟨dn, hn1, hn2, hn3⟩ := gn
        have ton := tm_not hn3
        have hw22 := dp_same sm22.hid _ _ hw21
        have t22 := tabs_smx t21 sm22 hs21.lst
        have go : gd 20 dn = true := gd_le hn2 (by decide)
        -- it is no term, and no letter is replaced by it
        refine ⟨t22, fun H23 eN T23 => ?_⟩
        have hs23 := hs22.ext eN
        have hw23 := dp_ext (ext_hide eN) _ _ hw22
        have ho23 := dp_ext (ext_hide eN) _ _ hn1
        refine sub_tcall (e := badT) (l := [("zz", vo)]) (ls := [("zz", dn)]) ho23 go (.cons ho23 .nil) hs23.trk (by show 1 < 64; decide) (fun y hy => ?_) (fun z hz => ?_) exm xf fnd (fun R E h => ⟨_, rfl, _, rfl, rfl, rfl, h⟩)
          (fun _ => rfl) (fun e => by rw [ton] at e; cases e) (fun _ _ _ _ _ => rfl) (fun e => by rw [ton] at e; cases e) (fun p5 H24 s24 hp5 => ?_)
        · rw [List.mem_singleton.mp hy]
          exact k_nm4 "zz" (by decide +kernel)
        · rw [List.mem_singleton.mp hz]
          exact go
        have t24 := tabs_same T23 s24
        refine ⟨t24, fun H25 eN2 T25 => ?_⟩
        have hs25 := (hs23.same s24).ext eN2
        have hw25 := dp_ext (ext_hide eN2) _ _ (dp_same (SmX.of_same (M := [a]) s24).hid _ _ hw23)
        have ho25 := dp_ext (ext_hide eN2) _ _ (dp_same (SmX.of_same (M := [a]) s24).hid _ _ ho23)
        have hp525 := dp_ext (ext_hide eN2) _ _ hp5
        refine sub_tcall (e := badT) (l := [("e", vo)]) (ls := [("e", dn)]) hw25 g20 (.cons ho25 .nil) hs25.trk (by show 1 < 64; decide) (fun y hy => ?_) (fun z hz => ?_) exm xf fnd (fun R E h => ⟨_, rfl, _, rfl, rfl, rfl, h⟩)
          (fun _ => rfl) (fun _ y hy => ?_) (fun _ _ _ _ _ => rfl) (fun _ h => by have := h "e" dn rfl; rw [ton] at this; cases this) (fun p6 H26 s26 hp6 => ?_)
        · rw [List.mem_singleton.mp hy]
          exact k_e.1
        · rw [List.mem_singleton.mp hz]
          exact go
        · rw [List.mem_singleton.mp hy]
          exact k_e.2
        refine ⟨(by show 2 ≤ sizeLine; decide), fun p7 np7 => ?_⟩
        have s27 := same_upd (o := .lst [.ref p5, .ref p6]) np7
        refine ⟨_, rfl, (by show 2 ≤ sizeLine; decide), fun p8 np8 => ?_⟩
        have s28 := same_upd (o := .tup [.non, .str "InvalidTerm"]) np8
        refine ⟨(by show 1 ≤ sizeLine; decide), fun p9 np9 => ?_⟩
        have s29 := same_upd (o := .lst [.ref p8]) np9
        refine ⟨p9, 2, _, rfl, rfl, upd_same, by decide, by decide, (by show 2 ≤ sizeLine; decide), fun p10 np10 => ?_⟩
        have s30 := same_upd (o := .lst [.ref p8, .ref p8]) np10
        have h8 : Dp K (upd (upd (upd (upd H26 p7 (.lst [.ref p5, .ref p6])) p8 (.tup [.non, .str "InvalidTerm"])) p9 (.lst [.ref p8])) p10 (.lst [.ref p8, .ref p8])) (.ref p8) badT := .tup (SqT.of ((s29.trans s30) _ _ upd_same)) (.cons .non (.cons (.str _) .nil))
        have A30 := s27.trans (s28.trans (s29.trans s30))
        refine ⟨.list [badT, badT], .list [badT, badT], .lst (SqL.of ((s28.trans (s29.trans s30)) _ _ upd_same)) (.cons (dp_same (s26.trans A30) _ _ (u hp525)) (.cons (dp_same A30 _ _ (u hp6)) .nil)), .lst (SqL.of upd_same) (.cons h8 (.cons h8 .nil)), by decide +kernel, by decide +kernel, _, rfl, ?_⟩
        rw [show (!PyData.eqv (.list [badT, badT]) (.list [badT, badT])) = false from by decide +kernel]
        refine iteF ?_
        have B30 := s26.trans A30
        have t30 := tabs_same T25 B30
        have hs30 := hs25.same B30
        have hw30 := dp_same (SmX.of_same (M := [a]) B30).hid _ _ hw25
        have ho30 := dp_same (SmX.of_same (M := [a]) B30).hid _ _ ho25
        clear h8 hp5 hp525 hp6 hw23 ho23 hw25 ho25 hs25 t24 t22
        -- the first name that is no letter
        refine ⟨t30, fun H31 eN3 T31 R E hR hE => ⟨_, rfl, _, rfl, _, rfl, rfl, rfl, fun c5 nc5 => ?_⟩⟩
        have s32 := same_upd (o := .dK (kvOf [("zz", .str "a"), ("ab", vo), ("c", vo), ("q", .str "a")])) nc5
        have hs31 := hs30.ext eN3
        have hw31 := dp_ext (ext_hide eN3) _ _ hw30
        have ho31 := dp_ext (ext_hide eN3) _ _ ho30
        have tb4 : Tb K (hide [a] H31) [("zz", .str "a"), ("ab", vo), ("c", vo), ("q", .str "a")] [("zz", .str "a"), ("ab", dn), ("c", dn), ("q", .str "a")] := .cons (.str _) (.cons ho31 (.cons ho31 (.cons (.str _) .nil)))
        refine ⟨vw, c5, d, _, nm4, _, [a], rfl, dp_same s32 _ _ (u hw31), g20, upd_same, rfl, by decide, k_nm4, tb4.tab.same (SmX.of_same s32).hid, fun x e h => ?_, hs31.trk.same s32, fun e => (by rw [tw] at e; cases e), fun _ ys hp hsort => ?_⟩
        · have m := fOf_mem h
          simp only [List.mem_cons, List.not_mem_nil, or_false, Prod.mk.injEq] at m
          rcases m with ⟨_, rfl⟩ | ⟨_, rfl⟩ | ⟨_, rfl⟩ | ⟨_, rfl⟩
          · decide +kernel
          · exact go
          · exact go
          · decide +kernel
        have noall : ¬ ∀ y ∈ ys, isL y = true := fun h => absurd (h "zz" (hp.mem_iff.mpr (by decide +kernel))) (by decide +kernel)
        refine ⟨fun zs y rs ey hz hy H33 dd s33 hdd => ?_, fun h => absurd h noall, fun h => absurd h noall, fun h => absurd h noall⟩
        obtain rfl := ab_first hp hsort ey hz
        refine hE CL dd H33 _ _ exL xfL fnL hdd rfl ?_
        have A33 := s32.trans s33
        exact ⟨rfl, _, rfl, iteF ⟨_, _, _, _, _, _, _, _, _, rfl, hs31.same A33, tabs_same T31 A33⟩⟩
    · rintro σ Hi ⟨y2, y3, y4, y5, y7, y8, y9, y10, y11, rfl, hsi, ti⟩
      exact q _
end
end Fv


namespace Fv
open PySem PySem.Spec PyProof.Rows L2 FvX
abbrev s_InvalidTerm : Stmt := inClass (topS 2) 0
def q_InvalidTerm : ErrPos := { p0 := ⟨7, 8, 7, 13⟩, p1 := ⟨7, 8, 7, 15⟩, p2 := ⟨7, 8, 7, 24⟩, p3 := ⟨7, 25, 7, 45⟩, p4 := ⟨7, 8, 7, 46⟩, p5 := ⟨7, 8, 7, 46⟩, p6 := ⟨8, 8, 8, 12⟩, p7 := ⟨8, 8, 8, 17⟩, p8 := ⟨8, 20, 8, 33⟩, p9 := ⟨8, 8, 8, 33⟩, pp := ⟨6, 17, 6, 21⟩ }
abbrev s_InvalidLetter : Stmt := inClass (topS 3) 0
def me_InvalidLetter : Expr := match defBody s_InvalidLetter with
  | .Expr (.Call _ [e] _ _) _ :: _ => e
  | _ => .Constant .none 0 ⟨0, 0, 0, 0⟩
def q_InvalidLetter : ErrPos1 := { p0 := ⟨12, 8, 12, 13⟩, p1 := ⟨12, 8, 12, 15⟩, p2 := ⟨12, 8, 12, 24⟩, p4 := ⟨12, 8, 12, 79⟩, p5 := ⟨12, 8, 12, 79⟩, p6 := ⟨13, 8, 13, 12⟩, p7 := ⟨13, 8, 13, 17⟩, p8 := ⟨13, 20, 13, 35⟩, p9 := ⟨13, 8, 13, 35⟩, p10 := ⟨14, 8, 14, 12⟩, p11 := ⟨14, 8, 14, 19⟩, p12 := ⟨14, 22, 14, 28⟩, p13 := ⟨14, 8, 14, 28⟩, pp := ⟨11, 17, 11, 21⟩, pp2 := ⟨11, 23, 11, 29⟩ }
theorem hme_InvalidLetter : ∀ u, MsgV u → MsgOk me_InvalidLetter "letter" u := fun u hu => (msg2 (pre := "this is not a letter, or not a new one: ") (by decide +kernel) hu : MsgOk me_InvalidLetter "letter" u)
theorem kw_all {K : PySem.W.Frag} {D : Addr} {kws : List (Str × V)} (h : ∀ q ∈ kws, ∃ u, PySem.W.nsIn K D q.1 = some (some u) ∧ RelV q.2 u) : ∀ q ∈ kws, ∃ u, PySem.W.nsIn K D q.1 = some (some u) ∧ RelV q.2 u := h
set_option maxHeartbeats 8000000 in
theorem all_mk {l : PySem.W.OpenLaw} {w : World} {K : PySem.W.Frag} {h : Heap} {mg : Str → Option Value} {fa : Addr} (X : K.In h) (G : h.Ns mainGlobals mg) (hfa : mg "law" = some (.ref fa))
    {f1 : Addr} {od1 an1 : Option Addr} {sl1 : Array (Option Value)} {oc1 dc1 pm1 cd1 ct1 : Value}
    {kV1 : Value}
    {f2 : Addr} {od2 an2 : Option Addr} {sl2 : Array (Option Value)} {oc2 dc2 pm2 cd2 ct2 : Value}
    {kV2 : Value}
    {f3 : Addr} {od3 an3 : Option Addr} {sl3 : Array (Option Value)} {oc3 dc3 pm3 cd3 ct3 : Value}
    {kV3 : Value}
    {f4 : Addr} {od4 an4 : Option Addr} {sl4 : Array (Option Value)} {oc4 dc4 pm4 cd4 ct4 : Value}
    {D4 : Addr} {w4_0 : Tok} {w4_1 : Tok}
    {f5 : Addr} {od5 an5 : Option Addr} {sl5 : Array (Option Value)} {oc5 dc5 pm5 cd5 ct5 : Value}
    {kV5 : Value}
    {f6 : Addr} {od6 an6 : Option Addr} {sl6 : Array (Option Value)} {oc6 dc6 pm6 cd6 ct6 : Value}
    {kV6 : Value}
    {f7 : Addr} {od7 an7 : Option Addr} {sl7 : Array (Option Value)} {oc7 dc7 pm7 cd7 ct7 : Value}
    {kV7 : Value}
    {f8 : Addr} {od8 an8 : Option Addr} {sl8 : Array (Option Value)} {oc8 dc8 pm8 cd8 ct8 : Value}
    {kV8 : Value}
    {f9 : Addr} {od9 an9 : Option Addr} {sl9 : Array (Option Value)} {oc9 dc9 pm9 cd9 ct9 : Value}
    {kV9 : Value}
    {f10 : Addr} {od10 an10 : Option Addr} {sl10 : Array (Option Value)} {oc10 dc10 pm10 cd10 ct10 : Value}
    {kV10 : Value}
    {f11 : Addr} {od11 an11 : Option Addr} {sl11 : Array (Option Value)} {oc11 dc11 pm11 cd11 ct11 : Value}
    {kV11 : Value}
    {f12 : Addr} {od12 an12 : Option Addr} {sl12 : Array (Option Value)} {oc12 dc12 pm12 cd12 ct12 : Value}
    {kV12 : Value}
    {f13 : Addr} {od13 an13 : Option Addr} {sl13 : Array (Option Value)} {oc13 dc13 pm13 cd13 ct13 : Value}
    {kV13 : Value}
    {f14 : Addr} {od14 an14 : Option Addr} {sl14 : Array (Option Value)} {oc14 dc14 pm14 cd14 ct14 : Value}
    {kV14 : Value}
    {f15 : Addr} {od15 an15 : Option Addr} {sl15 : Array (Option Value)} {oc15 dc15 pm15 cd15 ct15 : Value}
    {kV15 : Value}
    {f16 : Addr} {od16 an16 : Option Addr} {sl16 : Array (Option Value)} {oc16 dc16 pm16 cd16 ct16 : Value}
    {kV16 : Value}
    {f17 : Addr} {od17 an17 : Option Addr} {sl17 : Array (Option Value)} {oc17 dc17 pm17 cd17 ct17 : Value}
    {kV17 : Value}
    {f18 : Addr} {od18 an18 : Option Addr} {sl18 : Array (Option Value)} {oc18 dc18 pm18 cd18 ct18 : Value}
    {kV18 : Value}
    {f19 : Addr} {od19 an19 : Option Addr} {sl19 : Array (Option Value)} {oc19 dc19 pm19 cd19 ct19 : Value}
    {kV19 : Value}
    {f20 : Addr} {od20 an20 : Option Addr} {sl20 : Array (Option Value)} {oc20 dc20 pm20 cd20 ct20 : Value}
    {kV20 : Value}
    {f21 : Addr} {od21 an21 : Option Addr} {sl21 : Array (Option Value)} {oc21 dc21 pm21 cd21 ct21 : Value}
    {kV21 : Value}
    {f22 : Addr} {od22 an22 : Option Addr} {sl22 : Array (Option Value)} {oc22 dc22 pm22 cd22 ct22 : Value}
    {kV22 : Value}
    {f23 : Addr} {od23 an23 : Option Addr} {sl23 : Array (Option Value)} {oc23 dc23 pm23 cd23 ct23 : Value}
    {kV23 : Value}
    {f24 : Addr} {od24 an24 : Option Addr} {sl24 : Array (Option Value)} {oc24 dc24 pm24 cd24 ct24 : Value}
    {kV24 : Value}
    {f25 : Addr} {od25 an25 : Option Addr} {sl25 : Array (Option Value)} {oc25 dc25 pm25 cd25 ct25 : Value}
    {kV25 : Value}
    {f26 : Addr} {od26 an26 : Option Addr} {sl26 : Array (Option Value)} {oc26 dc26 pm26 cd26 ct26 : Value}
    {kV26 : Value}
    {f27 : Addr} {od27 an27 : Option Addr} {sl27 : Array (Option Value)} {oc27 dc27 pm27 cd27 ct27 : Value}
    {kV27 : Value}
    {ctLETTERS : Tok}
    {oA1 : Addr} {ob1 : Option Addr} {on1 : Nat} {os1 : Array (Option Value)} {ot1_0 : Tok} {ot1_1 : Tok}
    {ctMAX_DEPTH : Tok}
    {ctMAX_SIZE : Tok}
    {ctLONG_DEPTH : Tok}
    {ctLONG_SIZE : Tok}
    {CF : Addr}
    {C_InvalidTerm f_InvalidTerm : Addr} {eoc_InvalidTerm : Value} {eod_InvalidTerm ean_InvalidTerm : Option Addr} {eosl_InvalidTerm : Array (Option Value)} {ekV_InvalidTerm edoc_InvalidTerm epm_InvalidTerm ect_InvalidTerm : Value} {cda_InvalidTerm ecc_InvalidTerm : Addr} {eccl_InvalidTerm ecl_InvalidTerm : Value} {ecdd_InvalidTerm ecld_InvalidTerm : Option Addr} {evs_InvalidTerm : Array Value} {eccs_InvalidTerm ecsl_InvalidTerm : Array (Option Value)} {efile_InvalidTerm : Str} {etf_InvalidTerm : Tok}
    {nm_InvalidTerm eq_InvalidTerm : Str} {eN_InvalidTerm : Addr} {ebs_InvalidTerm ebm_InvalidTerm : List Value} {esn_InvalidTerm : List Str} {esub_InvalidTerm : List Value} {eab_InvalidTerm : Bool} {ecol_InvalidTerm : Option Bool} {edd_InvalidTerm : Option Addr} {ek0_InvalidTerm ek1_InvalidTerm ek2_InvalidTerm ek3_InvalidTerm ek5_InvalidTerm : Option Value}
    {C_InvalidLetter f_InvalidLetter : Addr} {eoc_InvalidLetter : Value} {eod_InvalidLetter ean_InvalidLetter : Option Addr} {eosl_InvalidLetter : Array (Option Value)} {ekV_InvalidLetter edoc_InvalidLetter epm_InvalidLetter ect_InvalidLetter : Value} {cda_InvalidLetter ecc_InvalidLetter : Addr} {eccl_InvalidLetter ecl_InvalidLetter : Value} {ecdd_InvalidLetter ecld_InvalidLetter : Option Addr} {evs_InvalidLetter : Array Value} {eccs_InvalidLetter ecsl_InvalidLetter : Array (Option Value)} {efile_InvalidLetter : Str} {etf_InvalidLetter : Tok}
    {nm_InvalidLetter eq_InvalidLetter : Str} {eN_InvalidLetter : Addr} {ebs_InvalidLetter ebm_InvalidLetter : List Value} {esn_InvalidLetter : List Str} {esub_InvalidLetter : List Value} {eab_InvalidLetter : Bool} {ecol_InvalidLetter : Option Bool} {edd_InvalidLetter : Option Addr} {ek0_InvalidLetter ek1_InvalidLetter ek2_InvalidLetter ek3_InvalidLetter ek5_InvalidLetter : Option Value}
    (a1 : PySem.W.nsIn K mainGlobals "is_letter" = some (some (.ref f1))) (l1 : K.lookup f1 = some ⟨oc1, od1, .func (PySem.W.fnOf "is_letter" "is_letter" (defArgs s_is_letter) (defBody s_is_letter) (defScope s_is_letter) .none kV1 dc1 pm1 an1 cd1 ct1), sl1⟩) (c1 : PySem.W.codeIn K cd1 "is_letter" = true) (k1 : PySem.W.keepIn K (.ref f1) = true)
    (a2 : PySem.W.nsIn K mainGlobals "is_compound" = some (some (.ref f2))) (l2 : K.lookup f2 = some ⟨oc2, od2, .func (PySem.W.fnOf "is_compound" "is_compound" (defArgs s_is_compound) (defBody s_is_compound) (defScope s_is_compound) .none kV2 dc2 pm2 an2 cd2 ct2), sl2⟩) (c2 : PySem.W.codeIn K cd2 "is_compound" = true) (k2 : PySem.W.keepIn K (.ref f2) = true)
    (a3 : PySem.W.nsIn K mainGlobals "measured" = some (some (.ref f3))) (l3 : K.lookup f3 = some ⟨oc3, od3, .func (PySem.W.fnOf "measured" "measured" (defArgs s_measured) (defBody s_measured) (defScope s_measured) .none kV3 dc3 pm3 an3 cd3 ct3), sl3⟩) (c3 : PySem.W.codeIn K cd3 "measured" = true) (k3 : PySem.W.keepIn K (.ref f3) = true)
    (a4 : PySem.W.nsIn K mainGlobals "is_term" = some (some (.ref f4))) (l4 : K.lookup f4 = some ⟨oc4, od4, .func (PySem.W.fnOf "is_term" "is_term" (defArgs s_is_term) (defBody s_is_term) (defScope s_is_term) .none (.ref D4) dc4 pm4 an4 cd4 ct4), sl4⟩) (c4 : PySem.W.codeIn K cd4 "is_term" = true) (k4 : PySem.W.keepIn K (.ref f4) = true)
    (x4_0 : PySem.W.nsIn K D4 "max_depth" = some (some (.int 5 w4_0)))
    (x4_1 : PySem.W.nsIn K D4 "max_size" = some (some (.int 24 w4_1)))
    (a5 : PySem.W.nsIn K mainGlobals "checked_term" = some (some (.ref f5))) (l5 : K.lookup f5 = some ⟨oc5, od5, .func (PySem.W.fnOf "checked_term" "checked_term" (defArgs s_checked_term) (defBody s_checked_term) (defScope s_checked_term) .none kV5 dc5 pm5 an5 cd5 ct5), sl5⟩) (c5 : PySem.W.codeIn K cd5 "checked_term" = true) (k5 : PySem.W.keepIn K (.ref f5) = true)
    (a6 : PySem.W.nsIn K mainGlobals "measured_long" = some (some (.ref f6))) (l6 : K.lookup f6 = some ⟨oc6, od6, .func (PySem.W.fnOf "measured_long" "measured_long" (defArgs s_measured_long) (defBody s_measured_long) (defScope s_measured_long) .none kV6 dc6 pm6 an6 cd6 ct6), sl6⟩) (c6 : PySem.W.codeIn K cd6 "measured_long" = true) (k6 : PySem.W.keepIn K (.ref f6) = true)
    (a7 : PySem.W.nsIn K mainGlobals "turned" = some (some (.ref f7))) (l7 : K.lookup f7 = some ⟨oc7, od7, .func (PySem.W.fnOf "turned" "turned" (defArgs s_turned) (defBody s_turned) (defScope s_turned) .none kV7 dc7 pm7 an7 cd7 ct7), sl7⟩) (c7 : PySem.W.codeIn K cd7 "turned" = true) (k7 : PySem.W.keepIn K (.ref f7) = true)
    (a8 : PySem.W.nsIn K mainGlobals "with_turned_operators" = some (some (.ref f8))) (l8 : K.lookup f8 = some ⟨oc8, od8, .func (PySem.W.fnOf "with_turned_operators" "with_turned_operators" (defArgs s_with_turned_operators) (defBody s_with_turned_operators) (defScope s_with_turned_operators) .none kV8 dc8 pm8 an8 cd8 ct8), sl8⟩) (c8 : PySem.W.codeIn K cd8 "with_turned_operators" = true) (k8 : PySem.W.keepIn K (.ref f8) = true)
    (a9 : PySem.W.nsIn K mainGlobals "substituted" = some (some (.ref f9))) (l9 : K.lookup f9 = some ⟨oc9, od9, .func (PySem.W.fnOf "substituted" "substituted" (defArgs s_substituted) (defBody s_substituted) (defScope s_substituted) .none kV9 dc9 pm9 an9 cd9 ct9), sl9⟩) (c9 : PySem.W.codeIn K cd9 "substituted" = true) (k9 : PySem.W.keepIn K (.ref f9) = true)
    (a10 : PySem.W.nsIn K mainGlobals "with_replaced_letters" = some (some (.ref f10))) (l10 : K.lookup f10 = some ⟨oc10, od10, .func (PySem.W.fnOf "with_replaced_letters" "with_replaced_letters" (defArgs s_with_replaced_letters) (defBody s_with_replaced_letters) (defScope s_with_replaced_letters) .none kV10 dc10 pm10 an10 cd10 ct10), sl10⟩) (c10 : PySem.W.codeIn K cd10 "with_replaced_letters" = true) (k10 : PySem.W.keepIn K (.ref f10) = true)
    (a11 : PySem.W.nsIn K mainGlobals "_law_source" = some (some (.ref f11))) (l11 : K.lookup f11 = some ⟨oc11, od11, .func (PySem.W.fnOf "_law_source" "_law_source" (defArgs s_law_source) (defBody s_law_source) (defScope s_law_source) .none kV11 dc11 pm11 an11 cd11 ct11), sl11⟩) (c11 : PySem.W.codeIn K cd11 "_law_source" = true) (k11 : PySem.W.keepIn K (.ref f11) = true)
    (a12 : PySem.W.nsIn K mainGlobals "_law_take" = some (some (.ref f12))) (l12 : K.lookup f12 = some ⟨oc12, od12, .func (PySem.W.fnOf "_law_take" "_law_take" (defArgs s_law_take) (defBody s_law_take) (defScope s_law_take) .none kV12 dc12 pm12 an12 cd12 ct12), sl12⟩) (c12 : PySem.W.codeIn K cd12 "_law_take" = true) (k12 : PySem.W.keepIn K (.ref f12) = true)
    (a13 : PySem.W.nsIn K mainGlobals "_law_pick" = some (some (.ref f13))) (l13 : K.lookup f13 = some ⟨oc13, od13, .func (PySem.W.fnOf "_law_pick" "_law_pick" (defArgs s_law_pick) (defBody s_law_pick) (defScope s_law_pick) .none kV13 dc13 pm13 an13 cd13 ct13), sl13⟩) (c13 : PySem.W.codeIn K cd13 "_law_pick" = true) (k13 : PySem.W.keepIn K (.ref f13) = true)
    (a14 : PySem.W.nsIn K mainGlobals "_law_mixed" = some (some (.ref f14))) (l14 : K.lookup f14 = some ⟨oc14, od14, .func (PySem.W.fnOf "_law_mixed" "_law_mixed" (defArgs s_law_mixed) (defBody s_law_mixed) (defScope s_law_mixed) .none kV14 dc14 pm14 an14 cd14 ct14), sl14⟩) (c14 : PySem.W.codeIn K cd14 "_law_mixed" = true) (k14 : PySem.W.keepIn K (.ref f14) = true)
    (a15 : PySem.W.nsIn K mainGlobals "_law_same" = some (some (.ref f15))) (l15 : K.lookup f15 = some ⟨oc15, od15, .func (PySem.W.fnOf "_law_same" "_law_same" (defArgs s_law_same) (defBody s_law_same) (defScope s_law_same) .none kV15 dc15 pm15 an15 cd15 ct15), sl15⟩) (c15 : PySem.W.codeIn K cd15 "_law_same" = true) (k15 : PySem.W.keepIn K (.ref f15) = true)
    (a16 : PySem.W.nsIn K mainGlobals "_law_call" = some (some (.ref f16))) (l16 : K.lookup f16 = some ⟨oc16, od16, .func (PySem.W.fnOf "_law_call" "_law_call" (defArgs s_law_call) (defBody s_law_call) (defScope s_law_call) .none kV16 dc16 pm16 an16 cd16 ct16), sl16⟩) (c16 : PySem.W.codeIn K cd16 "_law_call" = true) (k16 : PySem.W.keepIn K (.ref f16) = true)
    (a17 : PySem.W.nsIn K mainGlobals "_law_turned" = some (some (.ref f17))) (l17 : K.lookup f17 = some ⟨oc17, od17, .func (PySem.W.fnOf "_law_turned" "_law_turned" (defArgs s_law_turned) (defBody s_law_turned) (defScope s_law_turned) .none kV17 dc17 pm17 an17 cd17 ct17), sl17⟩) (c17 : PySem.W.codeIn K cd17 "_law_turned" = true) (k17 : PySem.W.keepIn K (.ref f17) = true)
    (a18 : PySem.W.nsIn K mainGlobals "_law_swap" = some (some (.ref f18))) (l18 : K.lookup f18 = some ⟨oc18, od18, .func (PySem.W.fnOf "_law_swap" "_law_swap" (defArgs s_law_swap) (defBody s_law_swap) (defScope s_law_swap) .none kV18 dc18 pm18 an18 cd18 ct18), sl18⟩) (c18 : PySem.W.codeIn K cd18 "_law_swap" = true) (k18 : PySem.W.keepIn K (.ref f18) = true)
    (a19 : PySem.W.nsIn K mainGlobals "_law_term" = some (some (.ref f19))) (l19 : K.lookup f19 = some ⟨oc19, od19, .func (PySem.W.fnOf "_law_term" "_law_term" (defArgs s_law_term) (defBody s_law_term) (defScope s_law_term) .none kV19 dc19 pm19 an19 cd19 ct19), sl19⟩) (c19 : PySem.W.codeIn K cd19 "_law_term" = true) (k19 : PySem.W.keepIn K (.ref f19) = true)
    (a20 : PySem.W.nsIn K mainGlobals "_law_any_term" = some (some (.ref f20))) (l20 : K.lookup f20 = some ⟨oc20, od20, .func (PySem.W.fnOf "_law_any_term" "_law_any_term" (defArgs s_law_any_term) (defBody s_law_any_term) (defScope s_law_any_term) .none kV20 dc20 pm20 an20 cd20 ct20), sl20⟩) (c20 : PySem.W.codeIn K cd20 "_law_any_term" = true) (k20 : PySem.W.keepIn K (.ref f20) = true)
    (a21 : PySem.W.nsIn K mainGlobals "_law_signs" = some (some (.ref f21))) (l21 : K.lookup f21 = some ⟨oc21, od21, .func (PySem.W.fnOf "_law_signs" "_law_signs" (defArgs s_law_signs) (defBody s_law_signs) (defScope s_law_signs) .none kV21 dc21 pm21 an21 cd21 ct21), sl21⟩) (c21 : PySem.W.codeIn K cd21 "_law_signs" = true) (k21 : PySem.W.keepIn K (.ref f21) = true)
    (a22 : PySem.W.nsIn K mainGlobals "_law_measure" = some (some (.ref f22))) (l22 : K.lookup f22 = some ⟨oc22, od22, .func (PySem.W.fnOf "_law_measure" "_law_measure" (defArgs s_law_measure) (defBody s_law_measure) (defScope s_law_measure) .none kV22 dc22 pm22 an22 cd22 ct22), sl22⟩) (c22 : PySem.W.codeIn K cd22 "_law_measure" = true) (k22 : PySem.W.keepIn K (.ref f22) = true)
    (a23 : PySem.W.nsIn K mainGlobals "_law_fits" = some (some (.ref f23))) (l23 : K.lookup f23 = some ⟨oc23, od23, .func (PySem.W.fnOf "_law_fits" "_law_fits" (defArgs s_law_fits) (defBody s_law_fits) (defScope s_law_fits) .none kV23 dc23 pm23 an23 cd23 ct23), sl23⟩) (c23 : PySem.W.codeIn K cd23 "_law_fits" = true) (k23 : PySem.W.keepIn K (.ref f23) = true)
    (a24 : PySem.W.nsIn K mainGlobals "_law_odd" = some (some (.ref f24))) (l24 : K.lookup f24 = some ⟨oc24, od24, .func (PySem.W.fnOf "_law_odd" "_law_odd" (defArgs s_law_odd) (defBody s_law_odd) (defScope s_law_odd) .none kV24 dc24 pm24 an24 cd24 ct24), sl24⟩) (c24 : PySem.W.codeIn K cd24 "_law_odd" = true) (k24 : PySem.W.keepIn K (.ref f24) = true)
    (a25 : PySem.W.nsIn K mainGlobals "_law_nest" = some (some (.ref f25))) (l25 : K.lookup f25 = some ⟨oc25, od25, .func (PySem.W.fnOf "_law_nest" "_law_nest" (defArgs s_law_nest) (defBody s_law_nest) (defScope s_law_nest) .none kV25 dc25 pm25 an25 cd25 ct25), sl25⟩) (c25 : PySem.W.codeIn K cd25 "_law_nest" = true) (k25 : PySem.W.keepIn K (.ref f25) = true)
    (a26 : PySem.W.nsIn K mainGlobals "_law_letter_told" = some (some (.ref f26))) (l26 : K.lookup f26 = some ⟨oc26, od26, .func (PySem.W.fnOf "_law_letter_told" "_law_letter_told" (defArgs s_law_letter_told) (defBody s_law_letter_told) (defScope s_law_letter_told) .none kV26 dc26 pm26 an26 cd26 ct26), sl26⟩) (c26 : PySem.W.codeIn K cd26 "_law_letter_told" = true) (k26 : PySem.W.keepIn K (.ref f26) = true)
    (a27 : PySem.W.nsIn K mainGlobals "law" = some (some (.ref f27))) (l27 : K.lookup f27 = some ⟨oc27, od27, .func (PySem.W.fnOf "law" "law" (defArgs s_law) (defBody s_law) (defScope s_law) .none kV27 dc27 pm27 an27 cd27 ct27), sl27⟩) (c27 : PySem.W.codeIn K cd27 "law" = true) (k27 : PySem.W.keepIn K (.ref f27) = true)
    (y0 : PySem.W.nsIn K mainGlobals "LETTERS" = some (some (.str "abcdefgh" ctLETTERS)))
    (y1 : PySem.W.nsIn K mainGlobals "OPERATORS" = some (some (.ref oA1))) (yl1 : K.lookup oA1 = some ⟨.type "tuple", ob1, .seq #[.str "&" ot1_0, .str "|" ot1_1] on1, os1⟩)
    (y2 : PySem.W.nsIn K mainGlobals "MAX_DEPTH" = some (some (.int 5 ctMAX_DEPTH)))
    (y3 : PySem.W.nsIn K mainGlobals "MAX_SIZE" = some (some (.int 24 ctMAX_SIZE)))
    (y4 : PySem.W.nsIn K mainGlobals "LONG_DEPTH" = some (some (.int 9 ctLONG_DEPTH)))
    (y5 : PySem.W.nsIn K mainGlobals "LONG_SIZE" = some (some (.int 600 ctLONG_SIZE)))
    (z_len : PySem.W.nsIn K mainGlobals "len" = some none)
    (z_int : PySem.W.nsIn K mainGlobals "int" = some none)
    (z_list : PySem.W.nsIn K mainGlobals "list" = some none)
    (z_str : PySem.W.nsIn K mainGlobals "str" = some none)
    (z_tuple : PySem.W.nsIn K mainGlobals "tuple" = some none)
    (z_isinstance : PySem.W.nsIn K mainGlobals "isinstance" = some none)
    (z_bool : PySem.W.nsIn K mainGlobals "bool" = some none)
    (z_dict : PySem.W.nsIn K mainGlobals "dict" = some none)
    (z_all : PySem.W.nsIn K mainGlobals "all" = some none)
    (z_zip : PySem.W.nsIn K mainGlobals "zip" = some none)
    (z_sum : PySem.W.nsIn K mainGlobals "sum" = some none)
    (z_max : PySem.W.nsIn K mainGlobals "max" = some none)
    (z_range : PySem.W.nsIn K mainGlobals "range" = some none)
    (z_super : PySem.W.nsIn K mainGlobals "super" = some none)
    (z_sorted : PySem.W.nsIn K mainGlobals "sorted" = some none)
    (e1 : PySem.W.nsIn K mainGlobals "FaultError" = some (some (.ref CF)))
    (e23a : PySem.W.subIn K (.ref CF) (.type "BaseException") = some true)
    (e23b : PySem.W.isClsIn K CF = true)
    (e23c : PySem.W.typeIn K (.ref CF) = some (.type "type"))
    (e20 : PySem.W.nsIn K cStatics "thirdparty.any" = some none)
    (e27 : (l.prog.main.scope.names.lookup ("super" : Str)).isSome = false)
    (e2_InvalidTerm : PySem.W.nsIn K mainGlobals "InvalidTerm" = some (some (.ref C_InvalidTerm)))
    (e3_InvalidTerm : K.lookup C_InvalidTerm = some (excClassObj nm_InvalidTerm eq_InvalidTerm C_InvalidTerm eN_InvalidTerm ebs_InvalidTerm ebm_InvalidTerm true esn_InvalidTerm esub_InvalidTerm eab_InvalidTerm ecol_InvalidTerm edd_InvalidTerm ek0_InvalidTerm ek1_InvalidTerm ek2_InvalidTerm ek3_InvalidTerm ek5_InvalidTerm "ValueError.__new__"))
    (e4_InvalidTerm : PySem.HandSPX.refsVE ebm_InvalidTerm = true)
    (e5_InvalidTerm : PySem.W.findIn K (.ref C_InvalidTerm) "__setattr__" = some (some (.builtin "object.__setattr__")))
    (e6_InvalidTerm : PySem.W.subIn K (.ref C_InvalidTerm) (.type "BaseException") = some true)
    (e7_InvalidTerm : PySem.W.typeIn K (.ref C_InvalidTerm) = some (.type "type"))
    (e8_InvalidTerm : PySem.W.keepIn K (.ref C_InvalidTerm) = true)
    (e13_InvalidTerm : PySem.W.findIn K (.ref C_InvalidTerm) "__init__" = some (some (.ref f_InvalidTerm)))
    (e9_InvalidTerm : K.lookup f_InvalidTerm = some ⟨eoc_InvalidTerm, eod_InvalidTerm, .func (PySem.W.ksFn "__init__" "InvalidTerm.__init__" (defArgs s_InvalidTerm) (defBody s_InvalidTerm) (defScope s_InvalidTerm) .none ekV_InvalidTerm edoc_InvalidTerm epm_InvalidTerm ean_InvalidTerm (.ref cda_InvalidTerm) ect_InvalidTerm ecc_InvalidTerm), eosl_InvalidTerm⟩)
    (e10_InvalidTerm : PySem.W.codeIn K (.ref cda_InvalidTerm) "InvalidTerm.__init__" = true)
    (e11_InvalidTerm : K.lookup cda_InvalidTerm = some ⟨eccl_InvalidTerm, ecdd_InvalidTerm, .fields evs_InvalidTerm, eccs_InvalidTerm⟩)
    (e12_InvalidTerm : evs_InvalidTerm[2]? = some (.str efile_InvalidTerm etf_InvalidTerm))
    (e14_InvalidTerm : (l.prog.main.file == efile_InvalidTerm) = true)
    (e15_InvalidTerm : K.lookup ecc_InvalidTerm = some ⟨ecl_InvalidTerm, ecld_InvalidTerm, .cell (some (.ref C_InvalidTerm)), ecsl_InvalidTerm⟩)
    (e16_InvalidTerm : PySem.W.ks_superIn K C_InvalidTerm C_InvalidTerm "__init__" = some (some (.builtin "ValueError.__init__")))
    (e17_InvalidTerm : PySem.W.mroIn K C_InvalidTerm (.ref C_InvalidTerm) = some true)
    (e18_InvalidTerm : PySem.W.subIn K (.ref C_InvalidTerm) (.type "ValueError") = some true)
    (e19t_InvalidTerm : PySem.W.excTail FvX.veTail4 ebm_InvalidTerm = true)
    (e21_InvalidTerm : PySem.W.findIn K (.ref C_InvalidTerm) "code" = some none)
    (e22_InvalidTerm : PySem.W.typeIn K (.ref f_InvalidTerm) = some (.type "function"))
    (e23d_InvalidTerm : PySem.W.subIn K (.ref C_InvalidTerm) (.ref CF) = some true)
    (e24_InvalidTerm : PySem.W.findIn K (.ref C_InvalidTerm) "__getattribute__" = some (some (.builtin "BaseException.__getattribute__")))
    (e25_InvalidTerm : PySem.W.findIn K (.ref C_InvalidTerm) "__getattr__" = some none)
    (e26_InvalidTerm : PySem.W.hasDictIn K C_InvalidTerm = true)
    (e2_InvalidLetter : PySem.W.nsIn K mainGlobals "InvalidLetter" = some (some (.ref C_InvalidLetter)))
    (e3_InvalidLetter : K.lookup C_InvalidLetter = some (excClassObj nm_InvalidLetter eq_InvalidLetter C_InvalidLetter eN_InvalidLetter ebs_InvalidLetter ebm_InvalidLetter true esn_InvalidLetter esub_InvalidLetter eab_InvalidLetter ecol_InvalidLetter edd_InvalidLetter ek0_InvalidLetter ek1_InvalidLetter ek2_InvalidLetter ek3_InvalidLetter ek5_InvalidLetter "ValueError.__new__"))
    (e4_InvalidLetter : PySem.HandSPX.refsVE ebm_InvalidLetter = true)
    (e5_InvalidLetter : PySem.W.findIn K (.ref C_InvalidLetter) "__setattr__" = some (some (.builtin "object.__setattr__")))
    (e6_InvalidLetter : PySem.W.subIn K (.ref C_InvalidLetter) (.type "BaseException") = some true)
    (e7_InvalidLetter : PySem.W.typeIn K (.ref C_InvalidLetter) = some (.type "type"))
    (e8_InvalidLetter : PySem.W.keepIn K (.ref C_InvalidLetter) = true)
    (e13_InvalidLetter : PySem.W.findIn K (.ref C_InvalidLetter) "__init__" = some (some (.ref f_InvalidLetter)))
    (e9_InvalidLetter : K.lookup f_InvalidLetter = some ⟨eoc_InvalidLetter, eod_InvalidLetter, .func (PySem.W.ksFn "__init__" "InvalidLetter.__init__" (defArgs s_InvalidLetter) (defBody s_InvalidLetter) (defScope s_InvalidLetter) .none ekV_InvalidLetter edoc_InvalidLetter epm_InvalidLetter ean_InvalidLetter (.ref cda_InvalidLetter) ect_InvalidLetter ecc_InvalidLetter), eosl_InvalidLetter⟩)
    (e10_InvalidLetter : PySem.W.codeIn K (.ref cda_InvalidLetter) "InvalidLetter.__init__" = true)
    (e11_InvalidLetter : K.lookup cda_InvalidLetter = some ⟨eccl_InvalidLetter, ecdd_InvalidLetter, .fields evs_InvalidLetter, eccs_InvalidLetter⟩)
    (e12_InvalidLetter : evs_InvalidLetter[2]? = some (.str efile_InvalidLetter etf_InvalidLetter))
    (e14_InvalidLetter : (l.prog.main.file == efile_InvalidLetter) = true)
    (e15_InvalidLetter : K.lookup ecc_InvalidLetter = some ⟨ecl_InvalidLetter, ecld_InvalidLetter, .cell (some (.ref C_InvalidLetter)), ecsl_InvalidLetter⟩)
    (e16_InvalidLetter : PySem.W.ks_superIn K C_InvalidLetter C_InvalidLetter "__init__" = some (some (.builtin "ValueError.__init__")))
    (e17_InvalidLetter : PySem.W.mroIn K C_InvalidLetter (.ref C_InvalidLetter) = some true)
    (e18_InvalidLetter : PySem.W.subIn K (.ref C_InvalidLetter) (.type "ValueError") = some true)
    (e19t_InvalidLetter : PySem.W.excTail FvX.veTail4 ebm_InvalidLetter = true)
    (e21_InvalidLetter : PySem.W.findIn K (.ref C_InvalidLetter) "code" = some none)
    (e28_InvalidLetter : PySem.W.findIn K (.ref C_InvalidLetter) "letter" = some none)
    (e29_InvalidLetter : PySem.W.isClsIn K C_InvalidLetter = true)
    (e30_InvalidLetter : PySem.W.subIn K (.ref C_InvalidLetter) (.ref C_InvalidLetter) = some true)
    (e22_InvalidLetter : PySem.W.typeIn K (.ref f_InvalidLetter) = some (.type "function"))
    (e23d_InvalidLetter : PySem.W.subIn K (.ref C_InvalidLetter) (.ref CF) = some true)
    (e24_InvalidLetter : PySem.W.findIn K (.ref C_InvalidLetter) "__getattribute__" = some (some (.builtin "BaseException.__getattribute__")))
    (e25_InvalidLetter : PySem.W.findIn K (.ref C_InvalidLetter) "__getattr__" = some none)
    (e26_InvalidLetter : PySem.W.hasDictIn K C_InvalidLetter = true)
    {ccl : Value} {ccd : Option Addr} {cvs : Array Value} {ccs : Array (Option Value)} {cL Pt : Addr} (ecd : cd27 = .ref cL) (tlc : K.lookup cL = some ⟨ccl, ccd, .fields cvs, ccs⟩) (t11 : cvs[11]? = some (.ref Pt)) (tPt : K.lookup Pt = none)
    : ∃ (fd : FuncData) (c Pt : Addr), PySem.W.tabIn K "law" = some (c, Pt) ∧ K.lookup Pt = none ∧ (∀ (s : Shared) (v : Value), BindsTo s fd ⟨[v], []⟩ [("_law_script", v)]) ∧ ∀ base : Heap, K.In base → base.Ns mainGlobals mg → LamX.TabB base mg c Pt → FnOk l.prog w K mg base CX0 33 fa fd ["_law_script"] (spLawT K Pt) := by
  have e := hfa.symm.trans (PySem.W.mg_of X G a27)
  cases e
  have F1 := fun_mk (st := s_is_letter) l1 c1 k1
  have g1 := PySem.W.mg_of X G a1
  have b1 := F1.binds (ps := ["value"]) fun _ _ _ _ _ _ us hl => match us, hl with | [_], _ => rfl
  have F2 := fun_mk (st := s_is_compound) l2 c2 k2
  have g2 := PySem.W.mg_of X G a2
  have b2 := F2.binds (ps := ["value"]) fun _ _ _ _ _ _ us hl => match us, hl with | [_], _ => rfl
  have F3 := fun_mk (st := s_measured) l3 c3 k3
  have g3 := PySem.W.mg_of X G a3
  have b3 := F3.binds (ps := ["value", "max_depth", "max_size"]) fun _ _ _ _ _ _ us hl => match us, hl with | [_, _, _], _ => rfl
  have F4 : FunD K "is_term" "is_term" (defArgs s_is_term) (defBody s_is_term) (defScope s_is_term) [] [("max_depth", .int 5), ("max_size", .int 24)] f4 _ := ⟨⟨_, _, _, _, _, _, _, _, _, _, rfl, l4, c4, .inl ⟨rfl, rfl⟩, .inr ⟨D4, rfl, kw_all (by
    simp only [List.mem_cons, List.not_mem_nil, or_false, forall_eq_or_imp, forall_eq]
    exact ⟨⟨_, x4_0, ⟨_, rfl⟩⟩, ⟨_, x4_1, ⟨_, rfl⟩⟩⟩)⟩⟩, k4⟩
  have g4 := PySem.W.mg_of X G a4
  have F5 := fun_mk (st := s_checked_term) l5 c5 k5
  have g5 := PySem.W.mg_of X G a5
  have b5 := F5.binds (ps := ["value"]) fun _ _ _ _ _ _ us hl => match us, hl with | [_], _ => rfl
  have F6 := fun_mk (st := s_measured_long) l6 c6 k6
  have g6 := PySem.W.mg_of X G a6
  have b6 := F6.binds (ps := ["value"]) fun _ _ _ _ _ _ us hl => match us, hl with | [_], _ => rfl
  have F7 := fun_mk (st := s_turned) l7 c7 k7
  have g7 := PySem.W.mg_of X G a7
  have b7 := F7.binds (ps := ["term"]) fun _ _ _ _ _ _ us hl => match us, hl with | [_], _ => rfl
  have F8 := fun_mk (st := s_with_turned_operators) l8 c8 k8
  have g8 := PySem.W.mg_of X G a8
  have b8 := F8.binds (ps := ["term"]) fun _ _ _ _ _ _ us hl => match us, hl with | [_], _ => rfl
  have F9 := fun_mk (st := s_substituted) l9 c9 k9
  have g9 := PySem.W.mg_of X G a9
  have F10 := fun_mk (st := s_with_replaced_letters) l10 c10 k10
  have g10 := PySem.W.mg_of X G a10
  have b10 := F10.binds (ps := ["term", "replacements"]) fun _ _ _ _ _ _ us hl => match us, hl with | [_, _], _ => rfl
  have F11 := fun_mk (st := s_law_source) l11 c11 k11
  have g11 := PySem.W.mg_of X G a11
  have b11 := F11.binds (ps := ["_law_script"]) fun _ _ _ _ _ _ us hl => match us, hl with | [_], _ => rfl
  have F12 := fun_mk (st := s_law_take) l12 c12 k12
  have g12 := PySem.W.mg_of X G a12
  have b12 := F12.binds (ps := ["_law_source_here", "_law_many"]) fun _ _ _ _ _ _ us hl => match us, hl with | [_, _], _ => rfl
  have F13 := fun_mk (st := s_law_pick) l13 c13 k13
  have g13 := PySem.W.mg_of X G a13
  have b13 := F13.binds (ps := ["_law_source_here", "_law_row"]) fun _ _ _ _ _ _ us hl => match us, hl with | [_, _], _ => rfl
  have F14 := fun_mk (st := s_law_mixed) l14 c14 k14
  have g14 := PySem.W.mg_of X G a14
  have b14 := F14.binds (ps := ["_law_source_here", "_law_row"]) fun _ _ _ _ _ _ us hl => match us, hl with | [_, _], _ => rfl
  have F15 := fun_mk (st := s_law_same) l15 c15 k15
  have g15 := PySem.W.mg_of X G a15
  have b15 := F15.binds (ps := ["_law_found", "_law_due"]) fun _ _ _ _ _ _ us hl => match us, hl with | [_, _], _ => rfl
  have F16 := fun_mk (st := s_law_call) l16 c16 k16
  have g16 := PySem.W.mg_of X G a16
  have b16 := F16.binds (ps := ["_law_ask"]) fun _ _ _ _ _ _ us hl => match us, hl with | [_], _ => rfl
  have F17 := fun_mk (st := s_law_turned) l17 c17 k17
  have g17 := PySem.W.mg_of X G a17
  have b17 := F17.binds (ps := ["_law_word"]) fun _ _ _ _ _ _ us hl => match us, hl with | [_], _ => rfl
  have F18 := fun_mk (st := s_law_swap) l18 c18 k18
  have g18 := PySem.W.mg_of X G a18
  have b18 := F18.binds (ps := ["_law_word", "_law_table"]) fun _ _ _ _ _ _ us hl => match us, hl with | [_, _], _ => rfl
  have F19 := fun_mk (st := s_law_term) l19 c19 k19
  have g19 := PySem.W.mg_of X G a19
  have b19 := F19.binds (ps := ["_law_source_here", "_law_signs_here", "_law_deep", "_law_room"]) fun _ _ _ _ _ _ us hl => match us, hl with | [_, _, _, _], _ => rfl
  have F20 := fun_mk (st := s_law_any_term) l20 c20 k20
  have g20 := PySem.W.mg_of X G a20
  have b20 := F20.binds (ps := ["_law_source_here"]) fun _ _ _ _ _ _ us hl => match us, hl with | [_], _ => rfl
  have F21 := fun_mk (st := s_law_signs) l21 c21 k21
  have g21 := PySem.W.mg_of X G a21
  have b21 := F21.binds (ps := ["_law_source_here", "_law_most"]) fun _ _ _ _ _ _ us hl => match us, hl with | [_, _], _ => rfl
  have F22 := fun_mk (st := s_law_measure) l22 c22 k22
  have g22 := PySem.W.mg_of X G a22
  have b22 := F22.binds (ps := ["_law_word", "_law_deep"]) fun _ _ _ _ _ _ us hl => match us, hl with | [_, _], _ => rfl
  have F23 := fun_mk (st := s_law_fits) l23 c23 k23
  have g23 := PySem.W.mg_of X G a23
  have b23 := F23.binds (ps := ["_law_word"]) fun _ _ _ _ _ _ us hl => match us, hl with | [_], _ => rfl
  have F24 := fun_mk (st := s_law_odd) l24 c24 k24
  have g24 := PySem.W.mg_of X G a24
  have b24 := F24.binds (ps := ["_law_source_here", "_law_word"]) fun _ _ _ _ _ _ us hl => match us, hl with | [_, _], _ => rfl
  have F25 := fun_mk (st := s_law_nest) l25 c25 k25
  have g25 := PySem.W.mg_of X G a25
  have b25 := F25.binds (ps := ["_law_many"]) fun _ _ _ _ _ _ us hl => match us, hl with | [_], _ => rfl
  have F26 := fun_mk (st := s_law_letter_told) l26 c26 k26
  have g26 := PySem.W.mg_of X G a26
  have b26 := F26.binds (ps := ["_law_ask"]) fun _ _ _ _ _ _ us hl => match us, hl with | [_], _ => rfl
  have F27 := fun_mk (st := s_law) l27 c27 k27
  have g27 := PySem.W.mg_of X G a27
  have g_LETTERS := PySem.W.mg_of X G y0
  have h_OPERATORS : ∀ H, SqT K H oA1 [.str "&", .str "|"] := fun H => .inr ⟨_, _, _, yl1, rfl, rfl, (Nat.le_of_ble_eq_true rfl), (.cons ⟨_, rfl⟩ (.cons ⟨_, rfl⟩ .nil))⟩
  have g_OPERATORS := PySem.W.mg_of X G y1
  have g_MAX_DEPTH := PySem.W.mg_of X G y2
  have g_MAX_SIZE := PySem.W.mg_of X G y3
  have g_LONG_DEPTH := PySem.W.mg_of X G y4
  have g_LONG_SIZE := PySem.W.mg_of X G y5
  have m_len := PySem.W.mg_none_of X G z_len
  have m_int := PySem.W.mg_none_of X G z_int
  have m_list := PySem.W.mg_none_of X G z_list
  have m_str := PySem.W.mg_none_of X G z_str
  have m_tuple := PySem.W.mg_none_of X G z_tuple
  have m_isinstance := PySem.W.mg_none_of X G z_isinstance
  have m_bool := PySem.W.mg_none_of X G z_bool
  have m_dict := PySem.W.mg_none_of X G z_dict
  have m_all := PySem.W.mg_none_of X G z_all
  have m_zip := PySem.W.mg_none_of X G z_zip
  have m_sum := PySem.W.mg_none_of X G z_sum
  have m_max := PySem.W.mg_none_of X G z_max
  have m_range := PySem.W.mg_none_of X G z_range
  have m_super := PySem.W.mg_none_of X G z_super
  have m_sorted := PySem.W.mg_none_of X G z_sorted
  have g_FE := PySem.W.mg_of X G e1
  have e19_InvalidTerm : PySem.W.excInitIn K C_InvalidTerm FvX.veTail4 "ValueError.__new__" = true := by
    unfold PySem.W.excInitIn
    rw [e3_InvalidTerm]
    simp [excClassObj, e19t_InvalidTerm]
  have ex23_InvalidTerm : PySem.W.exmOne K (.ref C_InvalidTerm) (.ref CF) = some true := by
    unfold PySem.W.exmOne PySem.W.kitCls
    simp [e23a, show (PySem.W.clsIn K CF).isSome = true from e23b, e23c, e23d_InvalidTerm]
  have g_E_InvalidTerm := PySem.W.mg_of X G e2_InvalidTerm
  have OX_InvalidTerm : L2.OexC K C_InvalidTerm := ⟨⟨_, _, _, _, _, _, _, _, _, _, _, _, _, _, _, e3_InvalidTerm, e4_InvalidTerm⟩, e5_InvalidTerm, e6_InvalidTerm, e7_InvalidTerm, e8_InvalidTerm⟩
  have TI_InvalidTerm : FvX.ErrC l.prog.main.file K C_InvalidTerm f_InvalidTerm "InvalidTerm.__init__" q_InvalidTerm "this is not a term" "InvalidTerm" 0 0 := ⟨OX_InvalidTerm, ⟨_, _, _, _, _, _, _, _, _, _, _, _, _, _, _, _, _, _, _, e9_InvalidTerm, e10_InvalidTerm, e11_InvalidTerm, e12_InvalidTerm, e14_InvalidTerm, e15_InvalidTerm⟩, e16_InvalidTerm, e17_InvalidTerm, e18_InvalidTerm, e19_InvalidTerm, e20, e21_InvalidTerm, e13_InvalidTerm, e22_InvalidTerm⟩
  have LI_InvalidTerm : FvX.LineOk q_InvalidTerm "this is not a term" 0 := fun env => ⟨_, rfl⟩
  have XF_InvalidTerm : XfC K C_InvalidTerm := ⟨e24_InvalidTerm, e25_InvalidTerm, e6_InvalidTerm, e26_InvalidTerm⟩
  have e19_InvalidLetter : PySem.W.excInitIn K C_InvalidLetter FvX.veTail4 "ValueError.__new__" = true := by
    unfold PySem.W.excInitIn
    rw [e3_InvalidLetter]
    simp [excClassObj, e19t_InvalidLetter]
  have ex23_InvalidLetter : PySem.W.exmOne K (.ref C_InvalidLetter) (.ref CF) = some true := by
    unfold PySem.W.exmOne PySem.W.kitCls
    simp [e23a, show (PySem.W.clsIn K CF).isSome = true from e23b, e23c, e23d_InvalidLetter]
  have ex30_InvalidLetter : PySem.W.exmOne K (.ref C_InvalidLetter) (.ref C_InvalidLetter) = some true := by
    unfold PySem.W.exmOne PySem.W.kitCls
    simp [e6_InvalidLetter, show (PySem.W.clsIn K C_InvalidLetter).isSome = true from e29_InvalidLetter, e7_InvalidLetter, e30_InvalidLetter]
  have g_E_InvalidLetter := PySem.W.mg_of X G e2_InvalidLetter
  have OX_InvalidLetter : L2.OexC K C_InvalidLetter := ⟨⟨_, _, _, _, _, _, _, _, _, _, _, _, _, _, _, e3_InvalidLetter, e4_InvalidLetter⟩, e5_InvalidLetter, e6_InvalidLetter, e7_InvalidLetter, e8_InvalidLetter⟩
  have TI_InvalidLetter : FvX.ErrC1 l.prog.main.file K C_InvalidLetter f_InvalidLetter "InvalidLetter.__init__" q_InvalidLetter me_InvalidLetter "InvalidLetter" "letter" 0 := ⟨OX_InvalidLetter, ⟨_, _, _, _, _, _, _, _, _, _, _, _, _, _, _, _, _, _, _, e9_InvalidLetter, e10_InvalidLetter, e11_InvalidLetter, e12_InvalidLetter, e14_InvalidLetter, e15_InvalidLetter⟩, e16_InvalidLetter, e17_InvalidLetter, e18_InvalidLetter, e19_InvalidLetter, e20, e21_InvalidLetter, e28_InvalidLetter, e13_InvalidLetter, e22_InvalidLetter⟩
  have LI_InvalidLetter : FvX.LineOk1 q_InvalidLetter me_InvalidLetter := fun env => ⟨_, rfl⟩
  have AI_InvalidLetter : FvX.ArgsOk me_InvalidLetter := fun env => rfl
  have XF_InvalidLetter : XfC K C_InvalidLetter := ⟨e24_InvalidLetter, e25_InvalidLetter, e6_InvalidLetter, e26_InvalidLetter⟩
  subst ecd
  have htab : PySem.W.tabIn K "law" = some (cL, Pt) := by
    unfold PySem.W.tabIn
    simp only [a27, l27, tlc, t11, PySem.W.fnOf]
  refine ⟨PySem.W.fnOf "law" "law" (defArgs s_law) (defBody s_law) (defScope s_law) .none kV27 dc27 pm27 an27 (.ref cL) ct27, cL, Pt, htab, tPt, fun s v => .of_eq rfl, fun base _ _ TB => ?_⟩
  have own : ∀ {k : Nat} {x : Str} {f : Addr} {fd : FuncData} {ps : List Str} {sp : Sp}, mg x = some (.ref f) → PySem.W.keepIn K (.ref f) = true → Binds K fd ps [] → FnOk l.prog w K mg base CX0 k f fd ps sp → Own l.prog w K mg base k x ps sp := fun a b c d => ⟨_, _, a, b, c, d⟩
  have ownR : ∀ {k : Nat} {x : Str} {f : Addr} {sp : Sp}, mg x = some (.ref f) → PySem.W.keepIn K (.ref f) = true → FnR l.prog w K mg base (L2.CX l.prog w) k f sp → OwnR l.prog w K mg base k x sp := fun a b c => ⟨_, a, b, c⟩
  have raw : ∀ {k : Nat} {f : Addr} {fd : FuncData} {ps : List Str} {sp : Sp}, FnOk l.prog w K mg base (L2.CX l.prog w) k f fd ps sp → Binds K fd ps [] → FnR l.prog w K mg base (L2.CX l.prog w) k f sp := fun F b => (FnOk.raw F b .nil).imp fun vs H Q E h => by rw [List.append_nil]; exact h
  have Csource := own g11 k11 b11 (ok_source (k := 0) F11 m_list)
  have Ctake := own g12 k12 b12 (ok_take (k := 0) F12 m_len m_int)
  have Cpick := own g13 k13 b13 (ok_pick (k := 1) F13 m_len Ctake)
  have Cmixed := own g14 k14 b14 (ok_mixed (k := 1) F14 m_len Ctake)
  have Ctake2 : Own l.prog w K mg base 2 _ _ spTake := own g12 k12 b12 (ok_take (k := 1) F12 m_len m_int)
  have Csigns := own g21 k21 b21 (ok_signs (k := 2) F21 m_list Ctake2 Cmixed)
  have Tn : ∀ n : Nat, FnOk l.prog w K mg base CX0 (2 + n) f19 _ _ (spTerm K n) := fun n => by
    induction n with
    | zero => exact term_zero
    | succ n ih => exact ok_term F19 m_tuple m_range (Nat.le_add_right 2 n) Ctake Cpick (own g19 k19 b19 ih)
  have Cterm := own g19 k19 b19 (Tn 5)
  have Cany := own g20 k20 b20 (ok_any_term (k := 7) F20 (by decide) Ctake Cpick Csigns Cterm)
  have Cnest := own g25 k25 b25 (ok_nest (k := 0) F25 m_range m_int)
  have Codd := own g24 k24 b24 (ok_oddN (k := 2) F24 (by decide) Cpick Cnest)
  have Mn : ∀ n : Nat, FnOk l.prog w K mg base CX0 (n) f22 _ _ (spMeasure K n) := fun n => by
    induction n with
    | zero => exact measure_zero
    | succ n ih => exact ok_measure F22 m_isinstance m_str m_tuple m_len m_int m_sum (own g22 k22 b22 ih)
  have Cmeasure := own g22 k22 b22 (Mn 20)
  have Cfits := own g23 k23 b23 (ok_fits (k := 20) F23 Cmeasure)
  have Sn : ∀ n : Nat, FnOk l.prog w K mg base CX0 (n) f15 _ _ (spSame K n) := fun n => by
    induction n with
    | zero => exact same_zero
    | succ n ih => exact ok_same F15 m_isinstance m_bool m_int m_str m_dict m_list m_tuple m_len m_all m_zip (own g15 k15 b15 ih)
  have Csame := own g15 k15 b15 (Sn 25)
  have Clet := own g1 k1 b1 (ok_is_letter (k := 0) F1 m_isinstance m_str m_len g_LETTERS)
  have Ccom := own g2 k2 b2 (ok_is_compound (k := 0) F2 m_isinstance m_tuple m_len g_OPERATORS h_OPERATORS)
  have Dn : ∀ n : Nat, FnOk l.prog w K mg base CX0 (1 + n) f3 _ _ (spMeas K n) := fun n => by
    induction n with
    | zero => exact meas_zero
    | succ n ih => exact ok_measured F3 m_max (Nat.le_add_right 1 n) Clet Ccom (own g3 k3 b3 ih)
  have Cmeasd := own g3 k3 b3 (Dn 20)
  have T := ok_is_term (P := l.prog) (w := w) (mg := mg) (base := base) (k := 21) F4 Cmeasd
  obtain ⟨ds0, vd0, bd0⟩ := binds_T F4
  have CT0 : OwnD l.prog w K mg base 22 "is_term" PsT [.int 5, .int 24] (spIsTerm K) := ⟨_, _, _, g4, k4, bd0, vd0, T⟩
  have Clong := ownR g6 k6 (raw (ok_measured_long (k := 21) F6 g_LONG_DEPTH g_LONG_SIZE (by decide) TI_InvalidTerm LI_InvalidTerm e27 m_super g_E_InvalidTerm Cmeasd) b6)
  have Un : ∀ n : Nat, FnOk l.prog w K mg base CX0 (1 + n) f8 _ _ (spTnd K n) := fun n => by
    induction n with
    | zero => exact tnd_zero
    | succ n ih => exact ok_turned_ops (k := 1 + n) F8 (by omega) Clet (own g8 k8 b8 ih)
  have Wn : ∀ n : Nat, FnOk l.prog w K mg base CX0 (1 + n) f10 _ _ (spSwp K n) := fun n => by
    induction n with
    | zero => exact swp_zero
    | succ n ih => exact ok_replaced (k := 1 + n) F10 (by omega) Clet (own g10 k10 b10 ih)
  have Ln : ∀ n : Nat, FnOk l.prog w K mg base CX0 (n) f17 _ _ (spTnd K n) := fun n => by
    induction n with
    | zero => exact tnd_zero
    | succ n ih => exact ok_lturned F17 m_isinstance m_str m_tuple m_int (own g17 k17 b17 ih)
  have Zn : ∀ n : Nat, FnOk l.prog w K mg base CX0 (n) f18 _ _ (spSwp K n) := fun n => by
    induction n with
    | zero => exact swp_zero
    | succ n ih => exact ok_lswap F18 m_isinstance m_str m_tuple (own g18 k18 b18 ih)
  have Ftu := (ok_turned (k := 22) F7 Clong (own g8 k8 b8 ((Un 10).mono (k := 22) (by decide)))).mono (k := 28) (by decide)
  have Fck := (ok_checked (k := 22) F5 (by decide) TI_InvalidTerm LI_InvalidTerm e27 m_super g_E_InvalidTerm CT0).mono (k := 27) (by decide)
  have Bsub := fun cdv => sub_body (k := 27) (f := f9) (cdv := cdv) (by decide) TI_InvalidLetter LI_InvalidLetter AI_InvalidLetter hme_InvalidLetter e27 m_super g_E_InvalidLetter m_sorted Clet (ownR g5 k5 (raw Fck b5)) (own g10 k10 b10 ((Wn 10).mono (k := 27) (by decide)))
  exact ok_law (k := 32) (by decide) l27 c27 TB m_range l16 c16 k16 g16 b16 g_FE l26 c26 k26 g26 b26 g_E_InvalidLetter
    ex23_InvalidTerm XF_InvalidTerm e21_InvalidTerm ex30_InvalidLetter XF_InvalidLetter e28_InvalidLetter Csource Cany Codd Csame Cfits (own g17 k17 b17 (Ln 10)) (own g18 k18 b18 (Zn 10))
    (ownR g7 k7 (raw Ftu b7)) ⟨_, _, _, g7, k7, ⟨fun s us ws _ h1 h2 => match us, ws, h1, h2 with | [], [_], _, _ => .of_eq rfl, fun r rz => r.append rz⟩, Ftu⟩
    ⟨_, g9, k9, FvX.fn_kw (ps := ["term"]) (pd := "replacements") (ks := ["d", "a"]) l9 c9 sc_substituted StX.cxUp (by decide +kernel) (by decide) (fun us ws h1 h2 => match us, ws, h1, h2 with | [_], [_, _], _, _ => rfl) (Bsub _)⟩ ⟨_, g9, k9, FvX.fn_kw (ps := ["term"]) (pd := "replacements") (ks := ["a", "b", "h"]) l9 c9 sc_substituted StX.cxUp (by decide +kernel) (by decide) (fun us ws h1 h2 => match us, ws, h1, h2 with | [_], [_, _, _], _, _ => rfl) (Bsub _)⟩ ⟨_, g9, k9, FvX.fn_kw (ps := ["term"]) (pd := "replacements") (ks := []) l9 c9 sc_substituted StX.cxUp (by decide +kernel) (by decide) (fun us ws h1 h2 => match us, ws, h1, h2 with | [_], [], _, _ => rfl) (Bsub _)⟩
    ⟨_, g9, k9, FvX.fn_kw (ps := ["term"]) (pd := "replacements") (ks := ["zz"]) l9 c9 sc_substituted StX.cxUp (by decide +kernel) (by decide) (fun us ws h1 h2 => match us, ws, h1, h2 with | [_], [_], _, _ => rfl) (Bsub _)⟩ ⟨_, g9, k9, FvX.fn_kw (ps := ["term"]) (pd := "replacements") (ks := ["e"]) l9 c9 sc_substituted StX.cxUp (by decide +kernel) (by decide) (fun us ws h1 h2 => match us, ws, h1, h2 with | [_], [_], _, _ => rfl) (Bsub _)⟩ ⟨_, g9, k9, FvX.fn_kw (ps := ["term"]) (pd := "replacements") (ks := ["zz", "ab", "c", "q"]) l9 c9 sc_substituted StX.cxUp (by decide +kernel) (by decide) (fun us ws h1 h2 => match us, ws, h1, h2 with | [_], [_, _, _, _], _, _ => rfl) (Bsub _)⟩
theorem walk {l : PySem.W.OpenLaw} {q : Program} {loose : List Str} {XP : (Str → Option Value) → Heap → Prop} {YP : World → Heap → Prop} {d : DefRec} {K : Params → PySem.W.Frag} (hn : l.most = some 63) (hdf : d.params.defaults = [])
    (hY : ∀ (w : World) (h : Heap), YP w h → (K w.params).In h) (hrec : ∃ d', (PyProof.Rows.recsOf q).find? (fun e => e.name == ("law" : Str)) = some d')
    (F : ∀ (w : World) (mg : Str → Option Value) (fa : Addr) (h : Heap), (K w.params).In h → h.Ns mainGlobals mg → mg d.name = some (.ref fa) →
      ∃ (fd : FuncData) (c Pt : Addr), PySem.W.tabIn (K w.params) "law" = some (c, Pt) ∧ (K w.params).lookup Pt = none ∧ (∀ (s : Shared) (v : Value), BindsTo s fd ⟨[v], []⟩ [("_law_script", v)]) ∧
        ∀ base : Heap, (K w.params).In base → base.Ns mainGlobals mg → LamX.TabB base mg c Pt → FnOk l.prog w (K w.params) mg base CX0 33 fa fd ["_law_script"] (spLawT (K w.params) Pt)) :
    PySem.W.WalkO q loose XP YP l.row.toRowW d [] (fun f vs => PySem.call f vs) := by
  refine Att.attach_callB hn hdf fun w s₀ s₁ mg mb fa o pm cd doc a vs ns G Y ho hd hcd hmg hobj hints hlen hbits hg => ?_
  have KX := hY w _ Y
  obtain ⟨fd, c, Pt, ht, hno, hb, hF⟩ := F w mg fa _ KX G.T.g hmg
  obtain ⟨d', hrec⟩ := hrec
  obtain ⟨hC, hT⟩ := PySem.W.tab_of G.T KX hrec ht
  refine LamX.law_callTs (cs := [(c, Pt)]) (k := 33) (CX := CX0) (sp := spLawT (K w.params) Pt) KX G.T.g G.T.b G.T.builtins G.T.nolimit hg ?_ ?_ ?_ G.T.bmain hobj hints (Nat.le_trans hlen (by decide)) ⟨rfl, by decide, by decide⟩ (fun base k1 k2 tb => hF base k1 k2 (tb (c, Pt) (List.mem_singleton.mpr rfl))) hb (fun H hH hS => ⟨a, ns, rfl, hS, hlen, hH (c, Pt) (List.mem_singleton.mpr rfl), fun _ => rfl⟩) fun _ _ _ z => z
  · intro p hp
    rw [List.mem_singleton.mp hp]
    exact hT
  · intro p hp
    rw [List.mem_singleton.mp hp]
    exact hno
  · intro p hp
    rw [List.mem_singleton.mp hp]
    exact hC
end Fv
open PySem PySem.W PyProof.Rows
set_option maxRecDepth 100000 in
set_option maxHeartbeats 0 in
theorem PySem.Challenge.cw_fivefault_k04_turned_and_substituted_ter_holds : PySem.Challenge.rw_fivefault_k04_turned_and_substituted_ter.Holds := by
  w_on; o_law; k_head; (case hw => w_witness2)
  k_fill
  refine Fv.walk (l := PySem.Challenge.rw_fivefault_k04_turned_and_substituted_ter) rfl rfl (fun w h Y => PySem.W.km_in_of Y) ?R ?F
  case R => exact ⟨_, rfl⟩
  case F =>
    intro w mg fa h KX G hmg
    refine' Fv.all_mk KX G hmg ?a1 ?l1 ?c1 ?k1 ?a2 ?l2 ?c2 ?k2 ?a3 ?l3 ?c3 ?k3 ?a4 ?l4 ?c4 ?k4 ?x4_0 ?x4_1 ?a5 ?l5 ?c5 ?k5 ?a6 ?l6 ?c6 ?k6 ?a7 ?l7 ?c7 ?k7 ?a8 ?l8 ?c8 ?k8 ?a9 ?l9 ?c9 ?k9 ?a10 ?l10 ?c10 ?k10 ?a11 ?l11 ?c11 ?k11 ?a12 ?l12 ?c12 ?k12 ?a13 ?l13 ?c13 ?k13 ?a14 ?l14 ?c14 ?k14 ?a15 ?l15 ?c15 ?k15 ?a16 ?l16 ?c16 ?k16 ?a17 ?l17 ?c17 ?k17 ?a18 ?l18 ?c18 ?k18 ?a19 ?l19 ?c19 ?k19 ?a20 ?l20 ?c20 ?k20 ?a21 ?l21 ?c21 ?k21 ?a22 ?l22 ?c22 ?k22 ?a23 ?l23 ?c23 ?k23 ?a24 ?l24 ?c24 ?k24 ?a25 ?l25 ?c25 ?k25 ?a26 ?l26 ?c26 ?k26 ?a27 ?l27 ?c27 ?k27 ?y0 ?y1 ?yl1 ?y2 ?y3 ?y4 ?y5 ?z_len ?z_int ?z_list ?z_str ?z_tuple ?z_isinstance ?z_bool ?z_dict ?z_all ?z_zip ?z_sum ?z_max ?z_range ?z_super ?z_sorted ?e1 ?e23a ?e23b ?e23c ?e20 ?e27 ?e2_InvalidTerm ?e3_InvalidTerm ?e4_InvalidTerm ?e5_InvalidTerm ?e6_InvalidTerm ?e7_InvalidTerm ?e8_InvalidTerm ?e13_InvalidTerm ?e9_InvalidTerm ?e10_InvalidTerm ?e11_InvalidTerm ?e12_InvalidTerm ?e14_InvalidTerm ?e15_InvalidTerm ?e16_InvalidTerm ?e17_InvalidTerm ?e18_InvalidTerm ?e19t_InvalidTerm ?e21_InvalidTerm ?e22_InvalidTerm ?e23d_InvalidTerm ?e24_InvalidTerm ?e25_InvalidTerm ?e26_InvalidTerm ?e2_InvalidLetter ?e3_InvalidLetter ?e4_InvalidLetter ?e5_InvalidLetter ?e6_InvalidLetter ?e7_InvalidLetter ?e8_InvalidLetter ?e13_InvalidLetter ?e9_InvalidLetter ?e10_InvalidLetter ?e11_InvalidLetter ?e12_InvalidLetter ?e14_InvalidLetter ?e15_InvalidLetter ?e16_InvalidLetter ?e17_InvalidLetter ?e18_InvalidLetter ?e19t_InvalidLetter ?e21_InvalidLetter ?e28_InvalidLetter ?e29_InvalidLetter ?e30_InvalidLetter ?e22_InvalidLetter ?e23d_InvalidLetter ?e24_InvalidLetter ?e25_InvalidLetter ?e26_InvalidLetter ?ecd ?tlc ?t11 ?tPt
    (case a1 => k_is)
    (case l1 => k_is)
    (case c1 => k_is)
    (case k1 => k_is)
    (case a2 => k_is)
    (case l2 => k_is)
    (case c2 => k_is)
    (case k2 => k_is)
    (case a3 => k_is)
    (case l3 => k_is)
    (case c3 => k_is)
    (case k3 => k_is)
    (case a4 => k_is)
    (case l4 => k_is)
    (case c4 => k_is)
    (case k4 => k_is)
    (case x4_0 => k_is)
    (case x4_1 => k_is)
    (case a5 => k_is)
    (case l5 => k_is)
    (case c5 => k_is)
    (case k5 => k_is)
    (case a6 => k_is)
    (case l6 => k_is)
    (case c6 => k_is)
    (case k6 => k_is)
    (case a7 => k_is)
    (case l7 => k_is)
    (case c7 => k_is)
    (case k7 => k_is)
    (case a8 => k_is)
    (case l8 => k_is)
    (case c8 => k_is)
    (case k8 => k_is)
    (case a9 => k_is)
    (case l9 => k_is)
    (case c9 => k_is)
    (case k9 => k_is)
    (case a10 => k_is)
    (case l10 => k_is)
    (case c10 => k_is)
    (case k10 => k_is)
    (case a11 => k_is)
    (case l11 => k_is)
    (case c11 => k_is)
    (case k11 => k_is)
    (case a12 => k_is)
    (case l12 => k_is)
    (case c12 => k_is)
    (case k12 => k_is)
    (case a13 => k_is)
    (case l13 => k_is)
    (case c13 => k_is)
    (case k13 => k_is)
    (case a14 => k_is)
    (case l14 => k_is)
    (case c14 => k_is)
    (case k14 => k_is)
    (case a15 => k_is)
    (case l15 => k_is)
    (case c15 => k_is)
    (case k15 => k_is)
    (case a16 => k_is)
    (case l16 => k_is)
    (case c16 => k_is)
    (case k16 => k_is)
    (case a17 => k_is)
    (case l17 => k_is)
    (case c17 => k_is)
    (case k17 => k_is)
    (case a18 => k_is)
    (case l18 => k_is)
    (case c18 => k_is)
    (case k18 => k_is)
    (case a19 => k_is)
    (case l19 => k_is)
    (case c19 => k_is)
    (case k19 => k_is)
    (case a20 => k_is)
    (case l20 => k_is)
    (case c20 => k_is)
    (case k20 => k_is)
    (case a21 => k_is)
    (case l21 => k_is)
    (case c21 => k_is)
    (case k21 => k_is)
    (case a22 => k_is)
    (case l22 => k_is)
    (case c22 => k_is)
    (case k22 => k_is)
    (case a23 => k_is)
    (case l23 => k_is)
    (case c23 => k_is)
    (case k23 => k_is)
    (case a24 => k_is)
    (case l24 => k_is)
    (case c24 => k_is)
    (case k24 => k_is)
    (case a25 => k_is)
    (case l25 => k_is)
    (case c25 => k_is)
    (case k25 => k_is)
    (case a26 => k_is)
    (case l26 => k_is)
    (case c26 => k_is)
    (case k26 => k_is)
    (case a27 => k_is)
    (case l27 => k_is)
    (case c27 => k_is)
    (case k27 => k_is)
    (case y0 => k_is)
    (case y1 => k_is)
    (case yl1 => k_is)
    (case y2 => k_is)
    (case y3 => k_is)
    (case y4 => k_is)
    (case y5 => k_is)
    (case z_len => k_is)
    (case z_int => k_is)
    (case z_list => k_is)
    (case z_str => k_is)
    (case z_tuple => k_is)
    (case z_isinstance => k_is)
    (case z_bool => k_is)
    (case z_dict => k_is)
    (case z_all => k_is)
    (case z_zip => k_is)
    (case z_sum => k_is)
    (case z_max => k_is)
    (case z_range => k_is)
    (case z_super => k_is)
    (case z_sorted => k_is)
    (case e1 => k_is)
    (case e23a => k_is)
    (case e23b => k_is)
    (case e23c => k_is)
    (case e20 => k_is)
    (case e27 => decide +kernel)
    (case e2_InvalidTerm => k_is)
    (case e3_InvalidTerm => k_is)
    (case e4_InvalidTerm => decide +kernel)
    (case e5_InvalidTerm => k_is)
    (case e6_InvalidTerm => k_is)
    (case e7_InvalidTerm => k_is)
    (case e8_InvalidTerm => k_is)
    (case e13_InvalidTerm => k_is)
    (case e9_InvalidTerm => k_is)
    (case e10_InvalidTerm => k_is)
    (case e11_InvalidTerm => k_is)
    (case e12_InvalidTerm => exact rfl)
    (case e14_InvalidTerm => decide +kernel)
    (case e15_InvalidTerm => k_is)
    (case e16_InvalidTerm => ks_is)
    (case e17_InvalidTerm => k_is)
    (case e18_InvalidTerm => k_is)
    (case e19t_InvalidTerm => decide +kernel)
    (case e21_InvalidTerm => k_is)
    (case e22_InvalidTerm => k_is)
    (case e23d_InvalidTerm => k_is)
    (case e24_InvalidTerm => k_is)
    (case e25_InvalidTerm => k_is)
    (case e26_InvalidTerm => k_is)
    (case e2_InvalidLetter => k_is)
    (case e3_InvalidLetter => k_is)
    (case e4_InvalidLetter => decide +kernel)
    (case e5_InvalidLetter => k_is)
    (case e6_InvalidLetter => k_is)
    (case e7_InvalidLetter => k_is)
    (case e8_InvalidLetter => k_is)
    (case e13_InvalidLetter => k_is)
    (case e9_InvalidLetter => k_is)
    (case e10_InvalidLetter => k_is)
    (case e11_InvalidLetter => k_is)
    (case e12_InvalidLetter => exact rfl)
    (case e14_InvalidLetter => decide +kernel)
    (case e15_InvalidLetter => k_is)
    (case e16_InvalidLetter => ks_is)
    (case e17_InvalidLetter => k_is)
    (case e18_InvalidLetter => k_is)
    (case e19t_InvalidLetter => decide +kernel)
    (case e21_InvalidLetter => k_is)
    (case e28_InvalidLetter => k_is)
    (case e29_InvalidLetter => k_is)
    (case e30_InvalidLetter => k_is)
    (case e22_InvalidLetter => k_is)
    (case e23d_InvalidLetter => k_is)
    (case e24_InvalidLetter => k_is)
    (case e25_InvalidLetter => k_is)
    (case e26_InvalidLetter => k_is)
    (case ecd => exact rfl)
    (case tlc => k_is)
    (case t11 => exact rfl)
    (case tPt => kernel_rfl)
