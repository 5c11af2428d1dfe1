import PyProof.Rows.All
import Wide.All
import OpenK.AllK
import Wide.FinOn
import KE.OsRunLaw
import KE.KeyNested
import HandS.Base
import HandS.Conv
import HandS.Dict
import HandS.Call
import HandS.List
import HandS.Comp
import HandS.Ends
import HandS.Iter
import HandS.Text
import HandS.Words
import HandS.WordsList
import HandS.More
import HandS.Codes
import HandS.IsInst
import HandS.Zip
import HandS.Walk
import HandS.Style
import KE.KExcSuper
import HandS.Exc
import HandS.ExcInit
import HandS.ExcField
import HandS.Lambda
import HandS.Defaults
import HandS.MakeKwOnly
import HandS.Star
import HandS.WordsExc
import HandS.FStr
import HandS.DictComp
import HandS.TupLen
import KE.GoesEnum
import KE.GoesZip
import HandS.WordsDict
import HandS.Deep
import KE.KParD
import KE.KRevSl
import HandS.SortInts
import KE.SortKeyHeap
import HandS.SortKw
import HandS.SlotsOwn
import HandS.ForDict
import KE.KDictZip
import KE.KTurns
import HandS.EndTab
import PySem.Challenge.RW_fivefault_k45_whole_equal_terms_have_one
set_option Elab.async false
set_option linter.all false
set_option maxRecDepth 100000

section
open PySem PySem.W PyProof.Rows
open Lean in
local macro_rules
  | `(tactic| refine $e:term) => do
    match e with
    | `($f:ident $as*) =>
      let n := f.getId.eraseMacroScopes
      if n == `PySem.W.holds_open || n == `PySem.W.holds_openC then
        let b := as.pop
        `(tactic| refine' $f $b* $(mkIdent `hP))
      else Macro.throwUnsupported
    | _ => Macro.throwUnsupported
set_option maxHeartbeats 0 in
noncomputable def PySem.W.headK : {P : Prop // P → PySem.Challenge.rw_fivefault_k45_whole_equal_terms_have_one.Holds} := by
  refine' ⟨_, fun hP => _⟩
  rotate_left
  · w_on; o_law; k_headL; (case hw => w_witness2)
end


set_option maxHeartbeats 2000000
namespace FvD
open PySem PySem.Spec PyProof.Rows L2
/-! ### a dict whose keys are data: letters and nested tuples side by side -/
/-- a key, the value that stands for it, what is stored -/
abbrev KE3 := NestedKey × Value × Value
def entD (w : World) (x : KE3) : DictEntry := ⟨x.1.hash w, x.2.1, x.2.2⟩
/-- how a search ends -/
structure Ans (xs : List KE3) (k : NestedKey) (Q : Option Nat → Shared → Prop) (s : Shared) : Prop where
  no : (∀ x ∈ xs, x.1 ≠ k) → Q none s
  yes : ∀ j x, xs[j]? = some x → x.1 = k → Q (some j) s
section
variable {prog : Program} {w : World} {A : Around} {E : Value → Shared → Prop} {s : Shared} {es : Array DictEntry} {xs : List KE3} {k : NestedKey} {u : Value}
theorem ent_at (he : es.toList = xs.map (entD w)) (j : Nat) : es[j]? = (xs[j]?).map (entD w) := by
  rw [← Array.getElem?_toList, he, List.getElem?_map]
theorem ent_size (he : es.toList = xs.map (entD w)) : es.size = xs.length := by
  rw [← Array.length_toList, he, List.length_map]
theorem key_once (hn : (xs.map (·.1)).Nodup) {i j : Nat} {x y : KE3} (hi : xs[i]? = some x) (hj : xs[j]? = some y) (e : x.1 = y.1) : i = j := by
  have a : (xs.map (·.1))[i]? = some x.1 := by rw [List.getElem?_map, hi]; rfl
  have b : (xs.map (·.1))[j]? = some x.1 := by rw [List.getElem?_map, hj, e]; rfl
  exact (List.getElem?_inj (List.getElem?_eq_some_iff.mp a).1 hn).mp (a.trans b.symm)
/-- the places with this hash -/
def plc (w : World) (es : Array DictEntry) (k : NestedKey) : List Nat := placesWithHash es.size (fun i => es[i]?.map (·.hash)) (k.hash w)
theorem plc_mem {j : Nat} : j ∈ plc w es k ↔ j < es.size ∧ ((es[j]?.map (·.hash)) == some (k.hash w)) = true := by
  unfold plc placesWithHash
  rw [List.mem_filter, List.mem_range]
theorem plc_nodup : (plc w es k).Nodup := by
  unfold plc placesWithHash
  exact List.Pairwise.filter _ List.nodup_range
/-- a key that is there stands at one of these places -/
theorem plc_has (he : es.toList = xs.map (entD w)) {j : Nat} {x : KE3} (hj : xs[j]? = some x) (e : x.1 = k) : j ∈ plc w es k := by
  refine plc_mem.mpr ⟨?_, ?_⟩
  · rw [ent_size he]; exact (List.getElem?_eq_some_iff.mp hj).1
  · rw [ent_at he j, hj, ← e]; simp [entD]
theorem none_there (he : es.toList = xs.map (entD w)) (h : ∀ j ∈ plc w es k, ∀ x, xs[j]? = some x → x.1 ≠ k) : ∀ x ∈ xs, x.1 ≠ k := fun x hx e => by
  obtain ⟨j, hj⟩ := List.mem_iff_getElem?.mp hx
  exact h j (plc_has he hj e) x hj e
end
section
variable {prog : Program} {w : World} {A : Around} {E : Value → Shared → Prop} {s : Shared} {d : Addr} {o : Obj} {es : Array DictEntry} {ep : Nat} {xs : List KE3} {k : NestedKey} {u : Value} {Q : Option Nat → Shared → Prop}
/-- the walk by value -/
theorem walk_plain (hu : A.units + 8 < cLine) (hk : NestedIs s.heap k u) (hkd : k.depth ≤ 8) (ho : s.heap.get? d = some o) (hd : o.data = .dict es ep) (he : es.toList = xs.map (entD w))
    (his : ∀ x ∈ xs, NestedIs s.heap x.1 x.2.1 ∧ x.1.depth ≤ 8) (q : Ans xs k Q s) : wpAny (model prog w) A (dictWalkPlain d u (k.hash w) es (plc w es k)) Q E s := by
  unfold dictWalkPlain
  refine wpAny_bind ?_
  refine wpAny_forIn_list _ (fun rest b s' => s' = s ∧ b = (none, ()) ∧ ∃ done, done ++ rest = plc w es k ∧ ∀ j ∈ done, ∀ x, xs[j]? = some x → x.1 ≠ k) _ ?_ ?_ _ _ ⟨rfl, rfl, [], rfl, fun _ h => nomatch h⟩
  · rintro j rest b s' ⟨rfl, rfl, done, hr, hno⟩
    have hm : j ∈ plc w es k := by rw [← hr]; exact List.mem_append_right _ List.mem_cons_self
    obtain ⟨hj, hp⟩ := plc_mem.mp hm
    obtain ⟨x, hx⟩ : ∃ x, xs[j]? = some x := ⟨xs[j]'(by rw [← ent_size he]; exact hj), List.getElem?_eq_getElem _⟩
    have ex : es[j]? = some (entD w x) := by rw [ent_at he j, hx]; rfl
    rw [ex] at hp ⊢
    dsimp only
    have hh : ((entD w x).hash == k.hash w) = true := by simpa using hp
    rw [if_pos hh]
    obtain ⟨n1, n2⟩ := his x (List.mem_of_getElem? hx)
    refine wpAny_bind (wpAny_dictEpoch ho hd (wpAny_bind (eqAt_key x.1 k A s' _ _ n1 hk (by omega) _ _ _ _ (wpAny_bind (wpAny_dictEpoch ho hd ?_)))))
    show wpAny _ _ (if (ep != ep) = true then _ else _) _ E _
    rw [if_neg (by simp), ← NestedKey.decide_eq]
    by_cases e : x.1 = k
    · rw [decide_eq_true e]
      first | rw [if_pos rfl] | skip
      exact wpAny_bind (wpAny_rule (wpAny_pure (wpAny_pure (q.yes j x hx e))))
    · rw [decide_eq_false e]
      first | rw [if_neg Bool.false_ne_true] | skip
      have nx : ∃ done', done' ++ rest = plc w es k ∧ ∀ i ∈ done', ∀ y, xs[i]? = some y → y.1 ≠ k := ⟨done ++ [j], by rw [← hr, List.append_assoc]; rfl, fun i hi y hy => by
        rcases List.mem_append.mp hi with z | z
        · exact hno i z y hy
        · rw [List.mem_singleton.mp z, hx] at hy
          cases hy
          exact e⟩
      first
        | exact wpAny_bind (wpAny_rule (wpAny_pure ⟨rfl, rfl, nx⟩))
        | exact wpAny_bind (wpAny_pure (wpAny_bind (wpAny_rule (wpAny_pure ⟨rfl, rfl, nx⟩))))
  · rintro b s' ⟨rfl, rfl, done, hr, hno⟩
    rw [List.append_nil] at hr
    exact wpAny_pure (q.no (none_there he fun j hj => hno j (by rw [hr]; exact hj)))
end

section
variable {prog : Program} {w : World} {A : Around} {E : Value → Shared → Prop} {s : Shared} {d : Addr} {o : Obj} {es : Array DictEntry} {ep : Nat} {xs : List KE3} {k : NestedKey} {u : Value} {Q : Option Nat → Shared → Prop}
/-- all keys are texts -/
theorem find_texts {x : Str} {t : Tok} (hu : A.units + 8 < cLine) (ho : s.heap.get? d = some o) (hd : o.data = .dict es ep) (he : es.toList = xs.map (entD w)) (hn : (xs.map (·.1)).Nodup)
    (his : ∀ y ∈ xs, NestedIs s.heap y.1 y.2.1 ∧ y.1.depth ≤ 8) (hall : (es.all fun e => isExactStrKey e.key) = true) (q : Ans xs (.text x) Q s) : wpAny (model prog w) A (foundByValue d (.str x t) es x) Q E s := by
  have isx : ∀ (j : Nat) (hj : j < es.size) (y : KE3), xs[j]? = some y → (es[j].key.isStr x = true ↔ y.1 = .text x) := fun j hj y hy => by
    have ex : es[j]? = some (entD w y) := by rw [ent_at he j, hy]; rfl
    have e2 : es[j] = entD w y := by
      rw [Array.getElem?_eq_getElem hj] at ex
      exact Option.some.inj ex
    have hs : isExactStrKey es[j].key = true := by
      rw [Array.all_eq_true] at hall
      exact hall j hj
    rw [e2] at hs ⊢
    obtain ⟨n1, _⟩ := his y (List.mem_of_getElem? hy)
    show y.2.1.isStr x = true ↔ _
    change isExactStrKey y.2.1 = true at hs
    cases hv : y.2.1 with
    | str z t' =>
      rw [hv] at n1
      have e3 : y.1 = .text z := NestedIs.inj _ _ _ n1 (.text z t')
      rw [e3]
      constructor
      · intro h
        have h' : z = x := by simpa [Value.isStr] using h
        rw [h']
      · intro h
        injection h with h
        rw [h]
        simp [Value.isStr]
    | _ => rw [hv] at hs; cases hs
  unfold foundByValue
  cases hf : es.findIdx? (fun e => e.key.isStr x) with
  | none =>
    refine wpAny_pure (q.no fun y hy e => ?_)
    obtain ⟨j, hj⟩ := List.mem_iff_getElem?.mp hy
    have hlt : j < es.size := by rw [ent_size he]; exact (List.getElem?_eq_some_iff.mp hj).1
    have z := Array.findIdx?_eq_none_iff.mp hf es[j] (Array.getElem_mem hlt)
    rw [(isx j hlt y hj).mpr e] at z
    cases z
  | some i =>
    obtain ⟨hlt, hi, _⟩ := Array.findIdx?_eq_some_iff_getElem.mp hf
    obtain ⟨y, hy⟩ : ∃ y, xs[i]? = some y := ⟨xs[i]'(by rw [← ent_size he]; exact hlt), List.getElem?_eq_getElem _⟩
    have e := (isx i hlt y hy).mp hi
    have ex : es[i]? = some (entD w y) := by rw [ent_at he i, hy]; rfl
    have n1 := (his y (List.mem_of_getElem? hy)).1
    simp only [ex]
    refine wpAny_bind (wpAny_dictEpoch ho hd (wpAny_bind (eqAt_key y.1 (.text x) A s _ _ n1 (.text x t) (by simp only [NestedKey.depth]; omega) _ _ _ _ (wpAny_bind (wpAny_dictEpoch ho hd ?_)))))
    show wpAny _ _ (if (ep != ep) = true then _ else _) _ E _
    rw [if_neg (by simp), ← NestedKey.decide_eq, decide_eq_true e]
    exact wpAny_bind (wpAny_rule (wpAny_pure (q.yes i y hy e)))
theorem may_tell {stored : List Value} {Q : Bool → Shared → Prop} (hk : NestedIs s.heap k u) (hkd : k.depth ≤ 8) (hst : ∀ v ∈ stored, ∃ k' : NestedKey, NestedIs s.heap k' v ∧ k'.depth ≤ 8) (h : Q false s) :
    wpAny (model prog w) A (tableMayTell u stored) Q E s := by
  unfold tableMayTell
  by_cases he : stored.isEmpty = true
  · rw [if_pos he]
    exact wpAny_pure h
  · rw [if_neg he]
    refine wpAny_bind (quiet_key k u 8 s hk hkd A E _ ?_)
    simp only [Bool.not_true, Bool.false_eq_true, if_false]
    refine wpAny_bind (wpAny_forIn_list _ (fun rest r s' => r = (none, ()) ∧ s' = s ∧ ∀ v ∈ rest, ∃ k' : NestedKey, NestedIs s.heap k' v ∧ k'.depth ≤ 8) _ ?_ ?_ _ _ ⟨rfl, rfl, hst⟩)
    · rintro x rest r s' ⟨rfl, rfl, hr⟩
      obtain ⟨k', n1, n2⟩ := hr x List.mem_cons_self
      refine wpAny_bind (quiet_key k' x 8 s' n1 n2 A E _ ?_)
      simp only [Bool.not_true, Bool.false_eq_true, if_false]
      exact wpAny_pure ⟨rfl, rfl, fun v hv => hr v (List.mem_cons_of_mem _ hv)⟩
    · rintro r s' ⟨rfl, rfl, _⟩
      exact wpAny_pure h
/-- the search -/
theorem nd_find (hu : A.units + 8 < cLine) (hk : NestedIs s.heap k u) (hkd : k.depth ≤ 8) (ho : s.heap.get? d = some o) (hd : o.data = .dict es ep) (he : es.toList = xs.map (entD w)) (hn : (xs.map (·.1)).Nodup)
    (his : ∀ x ∈ xs, NestedIs s.heap x.1 x.2.1 ∧ x.1.depth ≤ 8) (q : Ans xs k Q s) : wpAny (model prog w) A (dictFind d u (k.hash w)) Q E s := by
  have hst : ∀ v ∈ (plc w es k).filterMap (fun i => es[i]?.map (·.key)), ∃ k' : NestedKey, NestedIs s.heap k' v ∧ k'.depth ≤ 8 := fun v hv => by
    obtain ⟨i, _, hi⟩ := List.mem_filterMap.mp hv
    rw [ent_at he i] at hi
    cases hx : xs[i]? with
    | none => rw [hx] at hi; cases hi
    | some x =>
      rw [hx] at hi
      have e : x.2.1 = v := Option.some.inj hi
      rw [← e]
      exact ⟨x.1, his x (List.mem_of_getElem? hx)⟩
  have stale : ∀ a, u = .ref a → ¬ (es.any fun e => e.key == u && e.hash != k.hash w) = true := fun a ea h => by
    rw [← Array.any_toList, List.any_eq_true] at h
    obtain ⟨e, hin, hc⟩ := h
    rw [he] at hin
    obtain ⟨x, hx, rfl⟩ := List.mem_map.mp hin
    rw [Bool.and_eq_true] at hc
    obtain ⟨c1, c2⟩ := hc
    have e1 : x.2.1 = u := by simpa [entD] using c1
    have n1 := (his x hx).1
    rw [e1] at n1
    have e2 : x.1 = k := NestedIs.inj _ _ _ n1 hk
    rw [show (entD w x).hash = x.1.hash w from rfl, e2, bne_self_eq_false] at c2
    cases c2
  unfold dictFind
  try with_reducible refine wpAny_holding ?_
  refine wpAny_bind (wpAny_dictEntries ho hd ?_)
  dsimp only
  have fold : placesWithHash es.size (fun i => es[i]?.map (·.hash)) (k.hash w) = plc w es k := rfl
  rw [fold]
  have plain : ∀ {m : Sem (Option Nat)}, m = dictWalkPlain d u (k.hash w) es (plc w es k) → wpAny (model prog w) A m Q E s := fun {m} em => by
    rw [em]
    exact walk_plain hu hk hkd ho hd he his q
  split
  · rename_i x t
    have ek : k = .text x := NestedIs.inj _ _ _ hk (.text x t)
    by_cases hall : (es.all fun e => isExactStrKey e.key) = true
    · rw [if_pos hall]
      subst ek
      exact find_texts hu ho hd he hn his hall q
    · rw [if_neg hall]
      by_cases c : (((Value.str x t) :: (plc w es k).filterMap fun i => es[i]?.map (·.key)).all carriedByValue) = true
      · rw [if_pos c]; exact plain rfl
      · rw [if_neg c]
        dsimp only
        by_cases c2 : (((plc w es k).filterMap fun i => es[i]?.map (·.key)) == [Value.str x t]) = true <;> (first | rw [if_pos c2] | rw [if_neg c2]) <;> (first | refine wpAny_bind (wpAny_pure ?_) | refine wpAny_bind (may_tell hk hkd hst ?_)) <;> (
        rw [if_neg (by simp)]
        refine wpAny_bind ?_
        refine wpAny_forIn_list _ (fun rest b s' => s' = s ∧ ∃ hit done, b = (none, hit) ∧ done ++ rest = plc w es k ∧ ((hit = none ∧ ∀ j ∈ done, ∀ x, xs[j]? = some x → x.1 ≠ k) ∨ ∃ j x, hit = some j ∧ j ∈ done ∧ xs[j]? = some x ∧ x.1 = k)) _ ?_ ?_ _ _ ⟨rfl, none, [], rfl, rfl, .inl ⟨rfl, fun _ h => nomatch h⟩⟩
        · rintro j rest b s' ⟨rfl, hit, done, rfl, hr, hH⟩
          have hm : j ∈ plc w es k := by rw [← hr]; exact List.mem_append_right _ List.mem_cons_self
          obtain ⟨hj, hp⟩ := plc_mem.mp hm
          obtain ⟨x, hx⟩ : ∃ x, xs[j]? = some x := ⟨xs[j]'(by rw [← ent_size he]; exact hj), List.getElem?_eq_getElem _⟩
          have ex : es[j]? = some (entD w x) := by rw [ent_at he j, hx]; rfl
          rw [ex] at hp ⊢
          dsimp only
          have hh : ((entD w x).hash == k.hash w) = true := by simpa using hp
          rw [if_pos hh]
          obtain ⟨n1, n2⟩ := his x (List.mem_of_getElem? hx)
          have more : done ++ [j] ++ rest = plc w es k := by rw [← hr, List.append_assoc]; rfl
          refine wpAny_bind (wpAny_dictEpoch ho hd (wpAny_bind (eqAt_key x.1 k A s' _ _ n1 hk (by omega) _ _ _ _ (wpAny_bind (wpAny_dictEpoch ho hd ?_)))))
          show wpAny _ _ (if (ep != ep) = true then _ else _) _ E _
          rw [if_neg (by simp), ← NestedKey.decide_eq]
          by_cases e : x.1 = k
          · rw [decide_eq_true e]
            first | rw [if_pos rfl] | skip
            rcases hH with ⟨rfl, _⟩ | ⟨i, y, _, hi, hy, ey⟩
            · simp only [Option.isSome_none, Bool.false_eq_true, if_false]
              first | refine wpAny_bind (wpAny_pure ?_) | skip
              refine wpAny_bind (wpAny_rule ?_)
              split
              · exact wpAny_pure (wpAny_pure (q.yes j x hx e))
              · exact wpAny_pure ⟨rfl, some j, done ++ [j], rfl, more, .inr ⟨j, x, rfl, List.mem_append_right _ (List.mem_singleton.mpr rfl), hx, e⟩⟩
            · exfalso
              have ij : i = j := key_once hn hy hx (ey.trans e.symm)
              have nd : (done ++ j :: rest).Nodup := by rw [hr]; exact plc_nodup
              rw [List.nodup_append] at nd
              exact nd.2.2 i hi j List.mem_cons_self ij
          · rw [decide_eq_false e]
            simp only [Bool.false_eq_true, if_false]
            refine wpAny_bind (wpAny_rule ?_)
            have nx : (hit = none ∧ ∀ i ∈ done ++ [j], ∀ y, xs[i]? = some y → y.1 ≠ k) ∨ ∃ i y, hit = some i ∧ i ∈ done ++ [j] ∧ xs[i]? = some y ∧ y.1 = k := by
              rcases hH with ⟨h0, hno⟩ | ⟨i, y, h0, hi, hy⟩
              · refine .inl ⟨h0, fun i hi y hy => ?_⟩
                rcases List.mem_append.mp hi with z | z
                · exact hno i z y hy
                · rw [List.mem_singleton.mp z, hx] at hy
                  cases hy
                  exact e
              · exact .inr ⟨i, y, h0, List.mem_append_left _ hi, hy⟩
            first | rw [if_neg (by simp)] | skip
            first
              | exact wpAny_pure ⟨rfl, hit, done ++ [j], rfl, more, nx⟩
              | exact wpAny_bind (wpAny_pure (wpAny_pure ⟨rfl, hit, done ++ [j], rfl, more, nx⟩))
        · rintro b s' ⟨rfl, hit, done, rfl, hr, hH⟩
          rw [List.append_nil] at hr
          rcases hH with ⟨rfl, hno⟩ | ⟨j, x, rfl, _, hx, e⟩
          · exact wpAny_pure (q.no (none_there he fun j hj => hno j (by rw [hr]; exact hj)))
          · exact wpAny_pure (q.yes j x hx e))
  · by_cases c : ((u :: (plc w es k).filterMap fun i => es[i]?.map (·.key)).all carriedByValue) = true
    · rw [if_pos c]; exact plain rfl
    · rw [if_neg c]
      split
      · rename_i a _
        rw [if_neg (stale a rfl)]
        by_cases c2 : (((plc w es k).filterMap fun i => es[i]?.map (·.key)) == [Value.ref a]) = true <;> (first | rw [if_pos c2] | rw [if_neg c2]) <;> (first | refine wpAny_bind (wpAny_pure ?_) | refine wpAny_bind (may_tell hk hkd hst ?_)) <;> (
        rw [if_neg (by simp)]
        refine wpAny_bind ?_
        refine wpAny_forIn_list _ (fun rest b s' => s' = s ∧ ∃ hit done, b = (none, hit) ∧ done ++ rest = plc w es k ∧ ((hit = none ∧ ∀ j ∈ done, ∀ x, xs[j]? = some x → x.1 ≠ k) ∨ ∃ j x, hit = some j ∧ j ∈ done ∧ xs[j]? = some x ∧ x.1 = k)) _ ?_ ?_ _ _ ⟨rfl, none, [], rfl, rfl, .inl ⟨rfl, fun _ h => nomatch h⟩⟩
        · rintro j rest b s' ⟨rfl, hit, done, rfl, hr, hH⟩
          have hm : j ∈ plc w es k := by rw [← hr]; exact List.mem_append_right _ List.mem_cons_self
          obtain ⟨hj, hp⟩ := plc_mem.mp hm
          obtain ⟨x, hx⟩ : ∃ x, xs[j]? = some x := ⟨xs[j]'(by rw [← ent_size he]; exact hj), List.getElem?_eq_getElem _⟩
          have ex : es[j]? = some (entD w x) := by rw [ent_at he j, hx]; rfl
          rw [ex] at hp ⊢
          dsimp only
          have hh : ((entD w x).hash == k.hash w) = true := by simpa using hp
          rw [if_pos hh]
          obtain ⟨n1, n2⟩ := his x (List.mem_of_getElem? hx)
          have more : done ++ [j] ++ rest = plc w es k := by rw [← hr, List.append_assoc]; rfl
          refine wpAny_bind (wpAny_dictEpoch ho hd (wpAny_bind (eqAt_key x.1 k A s' _ _ n1 hk (by omega) _ _ _ _ (wpAny_bind (wpAny_dictEpoch ho hd ?_)))))
          show wpAny _ _ (if (ep != ep) = true then _ else _) _ E _
          rw [if_neg (by simp), ← NestedKey.decide_eq]
          by_cases e : x.1 = k
          · rw [decide_eq_true e]
            first | rw [if_pos rfl] | skip
            rcases hH with ⟨rfl, _⟩ | ⟨i, y, _, hi, hy, ey⟩
            · simp only [Option.isSome_none, Bool.false_eq_true, if_false]
              first | refine wpAny_bind (wpAny_pure ?_) | skip
              refine wpAny_bind (wpAny_rule ?_)
              split
              · exact wpAny_pure (wpAny_pure (q.yes j x hx e))
              · exact wpAny_pure ⟨rfl, some j, done ++ [j], rfl, more, .inr ⟨j, x, rfl, List.mem_append_right _ (List.mem_singleton.mpr rfl), hx, e⟩⟩
            · exfalso
              have ij : i = j := key_once hn hy hx (ey.trans e.symm)
              have nd : (done ++ j :: rest).Nodup := by rw [hr]; exact plc_nodup
              rw [List.nodup_append] at nd
              exact nd.2.2 i hi j List.mem_cons_self ij
          · rw [decide_eq_false e]
            simp only [Bool.false_eq_true, if_false]
            refine wpAny_bind (wpAny_rule ?_)
            have nx : (hit = none ∧ ∀ i ∈ done ++ [j], ∀ y, xs[i]? = some y → y.1 ≠ k) ∨ ∃ i y, hit = some i ∧ i ∈ done ++ [j] ∧ xs[i]? = some y ∧ y.1 = k := by
              rcases hH with ⟨h0, hno⟩ | ⟨i, y, h0, hi, hy⟩
              · refine .inl ⟨h0, fun i hi y hy => ?_⟩
                rcases List.mem_append.mp hi with z | z
                · exact hno i z y hy
                · rw [List.mem_singleton.mp z, hx] at hy
                  cases hy
                  exact e
              · exact .inr ⟨i, y, h0, List.mem_append_left _ hi, hy⟩
            first | rw [if_neg (by simp)] | skip
            first
              | exact wpAny_pure ⟨rfl, hit, done ++ [j], rfl, more, nx⟩
              | exact wpAny_bind (wpAny_pure (wpAny_pure ⟨rfl, hit, done ++ [j], rfl, more, nx⟩))
        · rintro b s' ⟨rfl, hit, done, rfl, hr, hH⟩
          rw [List.append_nil] at hr
          rcases hH with ⟨rfl, hno⟩ | ⟨j, x, rfl, _, hx, e⟩
          · exact wpAny_pure (q.no (none_there he fun j hj => hno j (by rw [hr]; exact hj)))
          · exact wpAny_pure (q.yes j x hx e))
      · skip
        by_cases c2 : (((plc w es k).filterMap fun i => es[i]?.map (·.key)) == [u]) = true <;> (first | rw [if_pos c2] | rw [if_neg c2]) <;> (first | refine wpAny_bind (wpAny_pure ?_) | refine wpAny_bind (may_tell hk hkd hst ?_)) <;> (
        rw [if_neg (by simp)]
        refine wpAny_bind ?_
        refine wpAny_forIn_list _ (fun rest b s' => s' = s ∧ ∃ hit done, b = (none, hit) ∧ done ++ rest = plc w es k ∧ ((hit = none ∧ ∀ j ∈ done, ∀ x, xs[j]? = some x → x.1 ≠ k) ∨ ∃ j x, hit = some j ∧ j ∈ done ∧ xs[j]? = some x ∧ x.1 = k)) _ ?_ ?_ _ _ ⟨rfl, none, [], rfl, rfl, .inl ⟨rfl, fun _ h => nomatch h⟩⟩
        · rintro j rest b s' ⟨rfl, hit, done, rfl, hr, hH⟩
          have hm : j ∈ plc w es k := by rw [← hr]; exact List.mem_append_right _ List.mem_cons_self
          obtain ⟨hj, hp⟩ := plc_mem.mp hm
          obtain ⟨x, hx⟩ : ∃ x, xs[j]? = some x := ⟨xs[j]'(by rw [← ent_size he]; exact hj), List.getElem?_eq_getElem _⟩
          have ex : es[j]? = some (entD w x) := by rw [ent_at he j, hx]; rfl
          rw [ex] at hp ⊢
          dsimp only
          have hh : ((entD w x).hash == k.hash w) = true := by simpa using hp
          rw [if_pos hh]
          obtain ⟨n1, n2⟩ := his x (List.mem_of_getElem? hx)
          have more : done ++ [j] ++ rest = plc w es k := by rw [← hr, List.append_assoc]; rfl
          refine wpAny_bind (wpAny_dictEpoch ho hd (wpAny_bind (eqAt_key x.1 k A s' _ _ n1 hk (by omega) _ _ _ _ (wpAny_bind (wpAny_dictEpoch ho hd ?_)))))
          show wpAny _ _ (if (ep != ep) = true then _ else _) _ E _
          rw [if_neg (by simp), ← NestedKey.decide_eq]
          by_cases e : x.1 = k
          · rw [decide_eq_true e]
            first | rw [if_pos rfl] | skip
            rcases hH with ⟨rfl, _⟩ | ⟨i, y, _, hi, hy, ey⟩
            · simp only [Option.isSome_none, Bool.false_eq_true, if_false]
              first | refine wpAny_bind (wpAny_pure ?_) | skip
              refine wpAny_bind (wpAny_rule ?_)
              split
              · exact wpAny_pure (wpAny_pure (q.yes j x hx e))
              · exact wpAny_pure ⟨rfl, some j, done ++ [j], rfl, more, .inr ⟨j, x, rfl, List.mem_append_right _ (List.mem_singleton.mpr rfl), hx, e⟩⟩
            · exfalso
              have ij : i = j := key_once hn hy hx (ey.trans e.symm)
              have nd : (done ++ j :: rest).Nodup := by rw [hr]; exact plc_nodup
              rw [List.nodup_append] at nd
              exact nd.2.2 i hi j List.mem_cons_self ij
          · rw [decide_eq_false e]
            simp only [Bool.false_eq_true, if_false]
            refine wpAny_bind (wpAny_rule ?_)
            have nx : (hit = none ∧ ∀ i ∈ done ++ [j], ∀ y, xs[i]? = some y → y.1 ≠ k) ∨ ∃ i y, hit = some i ∧ i ∈ done ++ [j] ∧ xs[i]? = some y ∧ y.1 = k := by
              rcases hH with ⟨h0, hno⟩ | ⟨i, y, h0, hi, hy⟩
              · refine .inl ⟨h0, fun i hi y hy => ?_⟩
                rcases List.mem_append.mp hi with z | z
                · exact hno i z y hy
                · rw [List.mem_singleton.mp z, hx] at hy
                  cases hy
                  exact e
              · exact .inr ⟨i, y, h0, List.mem_append_left _ hi, hy⟩
            first | rw [if_neg (by simp)] | skip
            first
              | exact wpAny_pure ⟨rfl, hit, done ++ [j], rfl, more, nx⟩
              | exact wpAny_bind (wpAny_pure (wpAny_pure ⟨rfl, hit, done ++ [j], rfl, more, nx⟩))
        · rintro b s' ⟨rfl, hit, done, rfl, hr, hH⟩
          rw [List.append_nil] at hr
          rcases hH with ⟨rfl, hno⟩ | ⟨j, x, rfl, _, hx, e⟩
          · exact wpAny_pure (q.no (none_there he fun j hj => hno j (by rw [hr]; exact hj)))
          · exact wpAny_pure (q.yes j x hx e))
end
end FvD


set_option maxHeartbeats 2000000
namespace FvD
open PySem PySem.Spec PyProof.Rows L2
/-! ### storing and reading, by the entries -/
def storedN (xs : List KE3) (k : NestedKey) (u v : Value) : List KE3 :=
  if (xs.any fun x => decide (x.1 = k)) = true then xs.map (fun x => if x.1 = k then (x.1, x.2.1, v) else x) else xs ++ [(k, u, v)]
theorem any_key {xs : List KE3} {k : NestedKey} : (xs.any fun x => decide (x.1 = k)) = true ↔ ∃ x ∈ xs, x.1 = k := by
  simp [List.any_eq_true]
theorem modify_key (w : World) (k : NestedKey) (v : Value) : ∀ (xs : List KE3) (j : Nat) (x : KE3), (xs.map (·.1)).Nodup → xs[j]? = some x → x.1 = k →
    (xs.map (entD w)).modify j (fun e => { e with val := v }) = (xs.map (fun x => if x.1 = k then (x.1, x.2.1, v) else x)).map (entD w)
  | [], j, x, _, hj, _ => by simp at hj
  | y :: xs, 0, x, hn, hj, e => by
    simp only [List.getElem?_cons_zero, Option.some.injEq] at hj
    subst hj
    rw [List.map_cons, List.nodup_cons] at hn
    have rest : xs.map (fun x => if x.1 = k then (x.1, x.2.1, v) else x) = xs := by
      exact (List.map_congr_left fun x hx => by
        rw [if_neg]
        · rfl
        · intro z
          exact hn.1 (List.mem_map.mpr ⟨x, hx, z.trans e.symm⟩)).trans (List.map_id xs)
    rw [List.map_cons, List.map_cons, List.map_cons, rest, if_pos e]
    rfl
  | y :: xs, j + 1, x, hn, hj, e => by
    simp only [List.getElem?_cons_succ] at hj
    rw [List.map_cons, List.nodup_cons] at hn
    have ne : ¬ y.1 = k := fun z => hn.1 (List.mem_map.mpr ⟨x, List.mem_of_getElem? hj, e.trans z.symm⟩)
    rw [List.map_cons, List.map_cons, List.map_cons, if_neg ne]
    show entD w y :: (xs.map (entD w)).modify j _ = _
    rw [modify_key w k v xs j x hn.2 hj e]
/-- the dict at d holds xs -/
def NdAt (w : World) (h : Heap) (d : Addr) (xs : List KE3) : Prop := ∃ o es ep, h.get? d = some o ∧ o.ExactDict ∧ o.data = .dict es ep ∧ es.toList = xs.map (entD w)
theorem NdAt.ty {w : World} {s : Shared} {d : Addr} {xs : List KE3} (h : NdAt w s.heap d xs) : s.TypeIs (.ref d) "dict" := let ⟨o, _, _, ho, hc, _⟩ := h; ⟨o, ho, hc.1⟩
section
variable {prog : Program} {w : World} {A : Around} {E : Value → Shared → Prop} {s : Shared} {d : Addr} {xs : List KE3} {k : NestedKey} {u : Value}
def valN (xs : List KE3) (k : NestedKey) : Option Value := (xs.find? fun x => decide (x.1 = k)).map (·.2.2)
theorem valN_none (h : ∀ x ∈ xs, x.1 ≠ k) : valN xs k = none := by
  have : (xs.find? fun x => decide (x.1 = k)) = none := by
    rw [List.find?_eq_none]
    intro x hx e
    exact h x hx (of_decide_eq_true e)
  unfold valN
  rw [this]
  rfl
theorem valN_some (hn : (xs.map (·.1)).Nodup) {j : Nat} {x : KE3} (hj : xs[j]? = some x) (e : x.1 = k) : valN xs k = some x.2.2 := by
  unfold valN
  cases hf : xs.find? fun x => decide (x.1 = k) with
  | none => exact absurd e (by simpa using List.find?_eq_none.mp hf x (List.mem_of_getElem? hj))
  | some y =>
    have ey : y.1 = k := by
      have z := List.find?_some hf
      exact of_decide_eq_true z
    obtain ⟨i, hi⟩ := List.mem_iff_getElem?.mp (List.mem_of_find?_eq_some hf)
    have ij := key_once hn hi hj (ey.trans e.symm)
    rw [ij, hj] at hi
    cases hi
    rfl
theorem nd_get {Q : Option Value → Shared → Prop} (hu : A.units + 8 < cLine) (hk : NestedIs s.heap k u) (hkd : k.depth ≤ 8) (hm : NdAt w s.heap d xs) (hn : (xs.map (·.1)).Nodup)
    (his : ∀ x ∈ xs, NestedIs s.heap x.1 x.2.1 ∧ x.1.depth ≤ 8) (q : Q (valN xs k) { s with toks := s.toks + k.draws }) : wpAny (model prog w) A (dictGet d u) Q E s := by
  obtain ⟨o, es, ep, ho, hc, hd, he⟩ := hm
  unfold dictGet
  try with_reducible refine wpAny_holding ?_
  refine wpAny_bind (pyHash_key k u A s _ hk (by omega) (wpAny_bind (nd_find (s := { s with toks := s.toks + k.draws }) hu hk hkd ho hd he hn his ⟨fun h => ?_, fun j x hj e => ?_⟩)))
  · rw [valN_none h] at q
    exact wpAny_pure q
  · rw [valN_some hn hj e] at q
    refine wpAny_bind (wpAny_dictEntries (s := { s with toks := s.toks + k.draws }) ho hd ?_)
    rw [ent_at he j, hj]
    exact wpAny_pure q
theorem nd_set {v : Value} {Q : Unit → Shared → Prop} (hu : A.units + 8 < cLine) (hk : NestedIs s.heap k u) (hkd : k.depth ≤ 8) (hm : NdAt w s.heap d xs) (hn : (xs.map (·.1)).Nodup)
    (his : ∀ x ∈ xs, NestedIs s.heap x.1 x.2.1 ∧ x.1.depth ≤ 8) (hsz : xs.length ≤ sizeLine) (q : ∀ h', NdAt w h' d (storedN xs k u v) → Heap.SameBut d s.heap h' → Q () { s with heap := h', toks := s.toks + k.draws }) : wpAny (model prog w) A (dictSet d u v) Q E s := by
  obtain ⟨o, es, ep, ho, hc, hd, he⟩ := hm
  unfold dictSet
  try with_reducible refine wpAny_holding ?_
  refine wpAny_bind (pyHash_key k u A s _ hk (by omega) ?_)
  unfold dictSetHashed
  try with_reducible refine wpAny_holding ?_
  refine wpAny_bind (nd_find (s := { s with toks := s.toks + k.draws }) hu hk hkd ho hd he hn his ⟨fun h => ?_, fun j x hj e => ?_⟩)
  · have no : ¬ (xs.any fun x => decide (x.1 = k)) = true := fun z => by
      obtain ⟨x, hx, e⟩ := any_key.mp z
      exact h x hx e
    refine wpAny_bind (wpAny_rule (wpAny_updateDictKeys (hz := by have e := ent_size he; omega) (s := { s with toks := s.toks + k.draws }) ho hd (q _ ⟨_, _, ep + 1, Heap.get?_update_self _ ho (Obj.isFreed_of_dict (Obj.data_mapDictKeys hd _)),
      hc.mapDictKeys _, Obj.data_mapDictKeys hd _, ?_⟩ (Heap.SameBut.update ..))))
    unfold storedN
    rw [if_neg no]
    simp [he, entD]
  · have yes : (xs.any fun x => decide (x.1 = k)) = true := any_key.mpr ⟨x, List.mem_of_getElem? hj, e⟩
    refine wpAny_bind (wpAny_rule (wpAny_bind (wpAny_updateDict (s := { s with toks := s.toks + k.draws }) ho hd (wpAny_point (q _ ⟨_, _, ep, Heap.get?_update_self _ ho (Obj.isFreed_of_dict (Obj.data_mapDict hd _)),
      hc.mapDict _, Obj.data_mapDict hd _, ?_⟩ (Heap.SameBut.update ..))))))
    unfold storedN
    rw [if_pos yes]
    have z := modify_key w k v xs j x hn hj e
    rw [← he] at z
    obtain ⟨l⟩ := es
    simpa using z
theorem set_item {v : Value} {Q : Unit → Shared → Prop} (hu : A.units + 9 < cLine) (hk : NestedIs s.heap k u) (hkd : k.depth ≤ 8) (hm : NdAt w s.heap d xs) (hn : (xs.map (·.1)).Nodup)
    (his : ∀ x ∈ xs, NestedIs s.heap x.1 x.2.1 ∧ x.1.depth ≤ 8) (hsz : xs.length ≤ sizeLine) (q : ∀ h', NdAt w h' d (storedN xs k u v) → Heap.SameBut d s.heap h' → Q () { s with heap := h', toks := s.toks + k.draws }) :
    wpAny (model prog w) A (setItem (.ref d) u v) Q E s := by
  unfold setItem
  try with_reducible refine wpAny_holding ?_
  refine wpAny_bind (wpAny_sequenceKey hm.ty (by decide) ?_)
  refine wpAny_bind (wpAny_callSpecial?_slot (name := Str.ofString "__setitem__") hm.ty slot_dict_setitem (wpAny_call_entry slot_dict_setitem hm.ty entry_dict_setitem ?_ (args_dict_setitem _ _ _)))
  show wpAny _ _ (Builtin.Dict.notOrdered "__setitem__" ⟨[.ref d, u, v], []⟩ >>= _) _ _ s
  refine wpAny_bind (wpAny_notOrdered_dict hm.ty ?_)
  show wpAny _ _ (dictSet d u v >>= _) _ _ s
  exact wpAny_bind (nd_set (A := A.in1) (by show A.units + 1 + 8 < _; omega) hk hkd hm hn his hsz fun h' m' s' => wpAny_pure ⟨.none, rfl, wpAny_pure (q h' m' s')⟩)
theorem get_item {x : Value} {Q : Value → Shared → Prop} (hu : A.units + 9 < cLine) (hk : NestedIs s.heap k u) (hkd : k.depth ≤ 8) (hm : NdAt w s.heap d xs) (hn : (xs.map (·.1)).Nodup)
    (his : ∀ x ∈ xs, NestedIs s.heap x.1 x.2.1 ∧ x.1.depth ≤ 8) (hx : valN xs k = some x) (q : Q x { s with toks := s.toks + k.draws }) : wpAny (model prog w) A (getItem (.ref d) u) Q E s := by
  unfold getItem
  try with_reducible refine wpAny_holding ?_
  refine wpAny_bind (wpAny_sequenceKey hm.ty (by decide) ?_)
  refine wpAny_bind (wpAny_callSpecial?_slot (name := Str.ofString "__getitem__") hm.ty slot_dict_getitem (wpAny_call_entry slot_dict_getitem hm.ty entry_dict_getitem ?_ (args_dict_getitem _ _)))
  show wpAny _ _ (dictGet d u >>= _) _ _ s
  refine wpAny_bind (nd_get (A := A.in1) (by show A.units + 1 + 8 < _; omega) hk hkd hm hn his ?_)
  rw [hx]
  exact wpAny_pure ⟨x, rfl, wpAny_pure q⟩
end
end FvD


namespace Fv
open PySem PySem.Spec PyProof.Rows L2
/-! ### heaps -/
theorem same_upd {H : Hp} {p : Addr} {o : HO} (h : H p = none) : Same H (upd H p o) := fun b x e => by
  rw [upd_ne (ne_of_none e h)]
  exact e
/-- all but what stands at M is as it was -/
def SmX (M : List Addr) (H H' : Hp) : Prop := ∀ b o, b ∉ M → H b = some o → H' b = some o
theorem SmX.refl (M : List Addr) (H : Hp) : SmX M H H := fun _ _ _ h => h
theorem SmX.trans {M : List Addr} {H H1 H2 : Hp} (a : SmX M H H1) (b : SmX M H1 H2) : SmX M H H2 := fun c o m h => b c o m (a c o m h)
theorem SmX.of_same {M : List Addr} {H H1 : Hp} (a : Same H H1) : SmX M H H1 := fun c o _ h => a c o h
theorem SmX.new {M : List Addr} {H : Hp} {p : Addr} {o : HO} (h : H p = none) : SmX M H (upd H p o) := .of_same (same_upd h)
theorem SmX.sub {M M' : List Addr} {H H1 : Hp} (a : SmX M H H1) (h : ∀ b, b ∈ M → b ∈ M' ∨ H b = none) : SmX M' H H1 := fun c o m e => by
  refine a c o (fun hc => ?_) e
  rcases h c hc with q | q
  · exact m q
  · rw [q] at e; cases e
theorem SmX.at {M : List Addr} {H H1 : Hp} {a : Addr} (h : ∀ b, b ≠ a → H1 b = H b) (m : a ∈ M) : SmX M H H1 := fun c o n e => by
  rw [h c (fun z => n (z ▸ m))]; exact e
theorem SmX.put {M : List Addr} {H H1 : Hp} {p : Addr} {o : HO} (a : SmX M H H1) (m : p ∈ M) : SmX M H (L2.upd H1 p o) := fun c x n e => by
  have ne : c ≠ p := fun z => n (z ▸ m)
  rw [upd_ne ne]; exact a c x n e
/-- what does not stand at M -/
def hide (M : List Addr) (H : Hp) : Hp := fun b => if b ∈ M then none else H b
theorem hide_ne {M : List Addr} {H : Hp} {b : Addr} (h : b ∉ M) : hide M H b = H b := by unfold hide; rw [if_neg h]
theorem hide_some {M : List Addr} {H : Hp} {b : Addr} {o : HO} (h : hide M H b = some o) : b ∉ M ∧ H b = some o := by
  unfold hide at h
  by_cases m : b ∈ M
  · rw [if_pos m] at h; cases h
  · rw [if_neg m] at h; exact ⟨m, h⟩
theorem hide_same {M : List Addr} {H : Hp} : Same (hide M H) H := fun b o h => (hide_some h).2
theorem SmX.hid {M : List Addr} {H H' : Hp} (h : SmX M H H') : Same (hide M H) (hide M H') := fun b o e => by
  obtain ⟨m, e⟩ := hide_some e
  rw [hide_ne m]
  exact h b o m e
theorem hide_sub {M M' : List Addr} {H : Hp} (h : ∀ b, b ∈ M' → b ∈ M) : Same (hide M H) (hide M' H) := fun b o e => by
  obtain ⟨m, e⟩ := hide_some e
  rw [hide_ne (fun z => m (h b z))]
  exact e
theorem same_seqT {K : PySem.W.Frag} {H H' : Hp} {a : Addr} {xs : List V} (e : Same H H') (h : SqT K H a xs) : SqT K H' a xs := by
  rcases h with (h | ⟨o, h⟩) | h
  · exact .inl (.inl (e _ _ h))
  · exact .inl (.inr ⟨o, e _ _ h⟩)
  · exact .inr h
mutual
theorem dp_same {K : PySem.W.Frag} {H H' : Hp} (e : Same H H') : ∀ (d : PyData) (v : V), Dp K H v d → Dp K H' v d
  | .none, _, h => by cases h; exact .non
  | .bool b, _, h => by cases h; exact .bl b
  | .int i, _, h => by cases h; exact .int i
  | .str x, _, h => by cases h; exact .str x
  | .list ds, _, h => by cases h with | lst hs ha => exact .lst (e.seq hs) (dpAll_same e ds _ ha)
  | .tuple ds, _, h => by cases h with | tup hs ha => exact .tup (same_seqT e hs) (dpAll_same e ds _ ha)
  | .dict kvs, _, h => by cases h
theorem dpAll_same {K : PySem.W.Frag} {H H' : Hp} (e : Same H H') : ∀ (ds : List PyData) (vs : List V), DpAll K H vs ds → DpAll K H' vs ds
  | [], _, h => by cases h; exact .nil
  | d :: ds, _, h => by cases h with | cons h1 h2 => exact .cons (dp_same e d _ h1) (dpAll_same e ds _ h2)
end
theorem dpAll_len {K : PySem.W.Frag} {H : Hp} : ∀ {vs : List V} {ds : List PyData}, DpAll K H vs ds → vs.length = ds.length
  | _, _, .nil => rfl
  | _, _, .cons _ h => by rw [List.length_cons, List.length_cons, dpAll_len h]
theorem dpAll_get {K : PySem.W.Frag} {H : Hp} : ∀ {vs : List V} {ds : List PyData} {i : Nat} {v : V}, DpAll K H vs ds → vs[i]? = some v → ∃ d, ds[i]? = some d ∧ Dp K H v d
  | _, _, _, _, .nil, e => by simp at e
  | _, _, 0, _, .cons h _, e => by simp at e; subst e; exact ⟨_, rfl, h⟩
  | _ :: vs, _ :: ds, i + 1, _, .cons _ h, e => by
    have e' : vs[i]? = some _ := e
    exact dpAll_get (ds := ds) h e'
theorem dpAll_app {K : PySem.W.Frag} {H : Hp} : ∀ {vs ws : List V} {ds es : List PyData}, DpAll K H vs ds → DpAll K H ws es → DpAll K H (vs ++ ws) (ds ++ es)
  | _, _, _, _, .nil, h => h
  | _, _, _, _, .cons h1 h2, h => .cons h1 (dpAll_app h2 h)
theorem dpAll_drop {K : PySem.W.Frag} {H : Hp} : ∀ (n : Nat) {vs : List V} {ds : List PyData}, DpAll K H vs ds → DpAll K H (vs.drop n) (ds.drop n)
  | 0, _, _, h => h
  | n + 1, _, _, .nil => .nil
  | n + 1, _, _, .cons _ h => dpAll_drop n h
/-! ### data -/
mutual
/-- plain data, nested at most n deep -/
def gd : Nat → PyData → Bool
  | _, .none => true
  | _, .bool _ => true
  | _, .int _ => true
  | _, .str x => PyData.strOk x && decide (x.length ≤ 100000)
  | 0, _ => false
  | n + 1, .list ds => gdAll n ds && decide (ds.length ≤ 1000)
  | n + 1, .tuple ds => gdAll n ds && decide (ds.length ≤ 1000)
  | _, .dict _ => false
def gdAll : Nat → List PyData → Bool
  | _, [] => true
  | n, d :: ds => gd n d && gdAll n ds
end
theorem gdAll_iff {n : Nat} : ∀ {ds : List PyData}, gdAll n ds = true ↔ ∀ d ∈ ds, gd n d = true
  | [] => by simp [gdAll]
  | d :: ds => by simp [gdAll, gdAll_iff (n := n) (ds := ds)]
mutual
theorem gd_up : ∀ (n : Nat) (d : PyData), gd n d = true → gd (n + 1) d = true
  | _, .none, _ => rfl
  | _, .bool _, _ => rfl
  | _, .int _, _ => rfl
  | 0, .str x, h => h
  | n + 1, .str x, h => h
  | 0, .list _, h => by cases h
  | 0, .tuple _, h => by cases h
  | 0, .dict _, h => by cases h
  | n + 1, .list ds, h => by
    simp only [gd, Bool.and_eq_true] at h ⊢
    exact ⟨gdAll_up n ds h.1, h.2⟩
  | n + 1, .tuple ds, h => by
    simp only [gd, Bool.and_eq_true] at h ⊢
    exact ⟨gdAll_up n ds h.1, h.2⟩
  | n + 1, .dict _, h => by cases h
theorem gdAll_up : ∀ (n : Nat) (ds : List PyData), gdAll n ds = true → gdAll (n + 1) ds = true
  | _, [], _ => rfl
  | n, d :: ds, h => by
    simp only [gdAll, Bool.and_eq_true] at h ⊢
    exact ⟨gd_up n d h.1, gdAll_up n ds h.2⟩
end
theorem gd_le {n m : Nat} {d : PyData} (h : gd n d = true) (hm : n ≤ m) : gd m d = true := by
  induction hm with
  | refl => exact h
  | step _ ih => exact gd_up _ _ ih
mutual
theorem gd_lay : ∀ (n : Nat) (d : PyData), gd n d = true → d.canLay0 = true ∧ d.depth ≤ n
  | _, .none, _ => ⟨rfl, by simp [PyData.depth]⟩
  | _, .bool _, _ => ⟨rfl, by simp [PyData.depth]⟩
  | _, .int _, _ => ⟨rfl, by simp [PyData.depth]⟩
  | 0, .str x, h => ⟨by simp only [gd, Bool.and_eq_true] at h; simpa [PyData.canLay0] using h.1, by simp [PyData.depth]⟩
  | n + 1, .str x, h => ⟨by simp only [gd, Bool.and_eq_true] at h; simpa [PyData.canLay0] using h.1, by simp [PyData.depth]⟩
  | 0, .list _, h => by cases h
  | 0, .tuple _, h => by cases h
  | 0, .dict _, h => by cases h
  | n + 1, .list ds, h => by
    have q := gdAll_lay n ds (by simp only [gd, Bool.and_eq_true] at h; exact h.1)
    exact ⟨by simpa [PyData.canLay0] using q.1, by simp only [PyData.depth]; omega⟩
  | n + 1, .tuple ds, h => by
    have q := gdAll_lay n ds (by simp only [gd, Bool.and_eq_true] at h; exact h.1)
    exact ⟨by simpa [PyData.canLay0] using q.1, by simp only [PyData.depth]; omega⟩
  | n + 1, .dict _, h => by cases h
theorem gdAll_lay : ∀ (n : Nat) (ds : List PyData), gdAll n ds = true → PyData.canLayAll0 ds = true ∧ PyData.depthAll ds ≤ n
  | _, [], _ => ⟨rfl, by simp [PyData.depthAll]⟩
  | n, d :: ds, h => by
    simp only [gdAll, Bool.and_eq_true] at h
    have a := gd_lay n d h.1
    have b := gdAll_lay n ds h.2
    exact ⟨by simp [PyData.canLayAll0, a.1, b.1], by simp only [PyData.depthAll]; omega⟩
end
theorem gd_list {n : Nat} {ds : List PyData} (h : gd (n + 1) (.list ds) = true) : ds.length ≤ 1000 ∧ ∀ d ∈ ds, gd n d = true := by
  simp only [gd, Bool.and_eq_true, decide_eq_true_eq] at h
  exact ⟨h.2, gdAll_iff.mp h.1⟩
theorem gd_tuple {n : Nat} {ds : List PyData} (h : gd (n + 1) (.tuple ds) = true) : ds.length ≤ 1000 ∧ ∀ d ∈ ds, gd n d = true := by
  simp only [gd, Bool.and_eq_true, decide_eq_true_eq] at h
  exact ⟨h.2, gdAll_iff.mp h.1⟩
theorem gd_tup {n : Nat} {ds : List PyData} (h : ∀ d ∈ ds, gd n d = true) (hl : ds.length ≤ 1000) : gd (n + 1) (.tuple ds) = true := by
  simp only [gd, Bool.and_eq_true, decide_eq_true_eq]
  exact ⟨gdAll_iff.mpr h, hl⟩
theorem gd_lst {n : Nat} {ds : List PyData} (h : ∀ d ∈ ds, gd n d = true) (hl : ds.length ≤ 1000) : gd (n + 1) (.list ds) = true := by
  simp only [gd, Bool.and_eq_true, decide_eq_true_eq]
  exact ⟨gdAll_iff.mpr h, hl⟩
theorem gd_shaped {n : Nat} {d : PyData} (h : gd n d = true) (hn : n ≤ 64) : SeqAt.shaped d = true := by
  have q := gd_lay n d h
  show (d.canLay0 && decide (d.depth ≤ 64)) = true
  rw [q.1, decide_eq_true (Nat.le_trans q.2 hn)]
  rfl
end Fv


set_option maxHeartbeats 2000000
namespace FvD
open PySem PySem.Spec PyProof.Rows L2 Fv
/-! ### data as keys -/
mutual
def nk : PyData → NestedKey
  | .str x => .text x
  | .tuple ds => .tup (nks ds)
  | .int i => .num i
  | .bool b => .num (if b = true then 1 else 0)
  | _ => .none
def nks : List PyData → List NestedKey
  | [] => []
  | d :: ds => nk d :: nks ds
end
mutual
/-- texts, and tuples of such, nested at most n deep -/
def kd : Nat → PyData → Bool
  | _, .str _ => true
  | n + 1, .tuple ds => kdAll n ds
  | _, _ => false
def kdAll : Nat → List PyData → Bool
  | _, [] => true
  | n, d :: ds => kd n d && kdAll n ds
end
theorem kd_str {n : Nat} {x : Str} : kd n (.str x) = true := by cases n <;> rfl
theorem kdAll_iff {n : Nat} : ∀ {ds : List PyData}, kdAll n ds = true ↔ ∀ d ∈ ds, kd n d = true
  | [] => by simp [kdAll]
  | d :: ds => by simp [kdAll, kdAll_iff (n := n) (ds := ds)]
mutual
theorem kd_depth : ∀ (n : Nat) (d : PyData), kd n d = true → (nk d).depth ≤ n
  | n, .str x, _ => by simp [nk, NestedKey.depth]
  | n + 1, .tuple ds, h => by
    have q := kdAll_depth n ds (by simpa [kd] using h)
    simp only [nk, NestedKey.depth]
    omega
  | 0, .tuple _, h => by simp [kd] at h
  | n, .none, h => by cases n <;> simp [kd] at h
  | n, .bool _, h => by cases n <;> simp [kd] at h
  | n, .int _, h => by cases n <;> simp [kd] at h
  | n, .list _, h => by cases n <;> simp [kd] at h
  | n, .dict _, h => by cases n <;> simp [kd] at h
theorem kdAll_depth : ∀ (n : Nat) (ds : List PyData), kdAll n ds = true → NestedKey.depthAll (nks ds) ≤ n
  | n, [], _ => by simp [nks, NestedKey.depthAll]
  | n, d :: ds, h => by
    simp only [kdAll, Bool.and_eq_true] at h
    have a := kd_depth n d h.1
    have b := kdAll_depth n ds h.2
    simp only [nks, NestedKey.depthAll]
    omega
end
mutual
theorem nk_inj : ∀ (n m : Nat) (d e : PyData), kd n d = true → kd m e = true → nk d = nk e → d = e
  | n, m, .str x, .str y, _, _, h => by simp only [nk] at h; injection h with h; rw [h]
  | n + 1, m + 1, .tuple ds, .tuple es, hd, he, h => by
    simp only [nk] at h
    injection h with h
    rw [nks_inj n m ds es (by simpa [kd] using hd) (by simpa [kd] using he) h]
  | n, m, .str x, .tuple es, _, _, h => by simp only [nk] at h; cases h
  | n, m, .tuple es, .str x, _, _, h => by simp only [nk] at h; cases h
  | 0, m, .tuple es, e, hd, _, h => by simp [kd] at hd
  | n, 0, d, .tuple es, _, he, h => by simp [kd] at he
  | n, m, .none, e, hd, _, _ => by cases n <;> simp [kd] at hd
  | n, m, .bool _, e, hd, _, _ => by cases n <;> simp [kd] at hd
  | n, m, .int _, e, hd, _, _ => by cases n <;> simp [kd] at hd
  | n, m, .list _, e, hd, _, _ => by cases n <;> simp [kd] at hd
  | n, m, .dict _, e, hd, _, _ => by cases n <;> simp [kd] at hd
  | n, m, d, .none, _, he, _ => by cases m <;> simp [kd] at he
  | n, m, d, .bool _, _, he, _ => by cases m <;> simp [kd] at he
  | n, m, d, .int _, _, he, _ => by cases m <;> simp [kd] at he
  | n, m, d, .list _, _, he, _ => by cases m <;> simp [kd] at he
  | n, m, d, .dict _, _, he, _ => by cases m <;> simp [kd] at he
theorem nks_inj : ∀ (n m : Nat) (ds es : List PyData), kdAll n ds = true → kdAll m es = true → nks ds = nks es → ds = es
  | n, m, [], [], _, _, _ => rfl
  | n, m, d :: ds, e :: es, hd, he, h => by
    simp only [kdAll, Bool.and_eq_true] at hd he
    simp only [nks] at h
    injection h with h1 h2
    rw [nk_inj n m d e hd.1 he.1 h1, nks_inj n m ds es hd.2 he.2 h2]
  | n, m, [], e :: es, _, _, h => by simp only [nks] at h; cases h
  | n, m, d :: ds, [], _, _, h => by simp only [nks] at h; cases h
end
section
variable {X : Cx} {pins : List (Addr × Obj)} {σ : L2.St} {H : Hp} {s : Shared}
mutual
theorem dp_key (I : Inv X pins σ H s) : ∀ (n : Nat) (d : PyData) (v : V) (u : Value), kd n d = true → Dp X.K H v d → RelV v u → NestedIs s.heap (nk d) u
  | n, .str x, v, u, _, h, r => by
    cases h
    obtain ⟨t, rfl⟩ := r
    exact .text x t
  | n + 1, .tuple ds, v, u, hk, h, r => by
    cases h with
    | tup hs ha =>
      cases r
      obtain ⟨its, rv, ⟨o, ho, hc, m, hd⟩, hz⟩ := I.tuple hs
      exact .tup ho hc hd (by simpa using dpAll_key I n ds _ its (by simpa [kd] using hk) ha rv)
  | 0, .tuple _, _, _, hk, _, _ => by simp [kd] at hk
  | n, .none, _, _, hk, _, _ => by cases n <;> simp [kd] at hk
  | n, .bool _, _, _, hk, _, _ => by cases n <;> simp [kd] at hk
  | n, .int _, _, _, hk, _, _ => by cases n <;> simp [kd] at hk
  | n, .list _, _, _, hk, _, _ => by cases n <;> simp [kd] at hk
  | n, .dict _, _, _, hk, _, _ => by cases n <;> simp [kd] at hk
theorem dpAll_key (I : Inv X pins σ H s) : ∀ (n : Nat) (ds : List PyData) (vs : List V) (us : List Value), kdAll n ds = true → DpAll X.K H vs ds → Vals vs us → NestedAll s.heap (nks ds) us
  | n, [], vs, us, _, h, r => by cases h; cases r; exact .nil
  | n, d :: ds, vs, us, hk, h, r => by
    simp only [kdAll, Bool.and_eq_true] at hk
    cases h with
    | cons h1 h2 =>
      cases r with
      | cons r1 r2 => exact .cons (dp_key I n d _ _ hk.1 h1 r1) (dpAll_key I n ds _ _ hk.2 h2 r2)
end
end
/-! ### the dict, tracked -/
abbrev NKV := PyData × V × V
def RelN (p : NKV) (q : KE3) : Prop := nk p.1 = q.1 ∧ RelV p.2.1 q.2.1 ∧ RelV p.2.2 q.2.2
/-- a dict at a whose keys are data -/
def NdO (w : World) (a : Addr) (kvs : List NKV) : HO := .ext fun h => kvs.length ≤ sizeLine ∧ (a == sysModules) = false ∧ (kvs.map fun p => nk p.1).Nodup ∧ ∃ xs, Paired RelN kvs xs ∧ NdAt w h a xs
theorem ndO_ok {P : Program} {w : World} {H : Hp} {h : Heap} {a : Addr} {kvs : List NKV} {xs : List KE3} (z : kvs.length ≤ sizeLine) (hs : (a == sysModules) = false) (hn : (kvs.map fun p => nk p.1).Nodup) (r : Paired RelN kvs xs) (hd : NdAt w h a xs) : ObjOk P w H h a (NdO w a kvs) := by
  refine ⟨⟨z, hs, hn, xs, r, hd⟩, let ⟨o, _, _, ho, _⟩ := hd; ⟨o, ho⟩, fun h1 h2 ⟨a1, a2, a3, xs, a4, o, es, ep, ho, q⟩ k => ⟨a1, a2, a3, xs, a4, o, es, ep, k o ho, q⟩⟩
/-- all keys are there -/
def KyOk (K : PySem.W.Frag) (H : Hp) (kvs : List NKV) : Prop := ∀ p ∈ kvs, kd 8 p.1 = true ∧ Dp K H p.2.1 p.1
theorem relN_keys : ∀ {kvs : List NKV} {xs : List KE3}, Paired RelN kvs xs → (kvs.map fun p => nk p.1) = xs.map (·.1)
  | _, _, .nil => rfl
  | _, _, .cons h t => by rw [List.map_cons, List.map_cons, h.1, relN_keys t]
def putN (kvs : List NKV) (d : PyData) (y v : V) : List NKV :=
  if (kvs.any fun p => decide (nk p.1 = nk d)) = true then kvs.map (fun p => if nk p.1 = nk d then (p.1, p.2.1, v) else p) else kvs ++ [(d, y, v)]
theorem relN_any {k : NestedKey} : ∀ {kvs : List NKV} {xs : List KE3}, Paired RelN kvs xs → (kvs.any fun p => decide (nk p.1 = k)) = xs.any fun x => decide (x.1 = k)
  | _, _, .nil => rfl
  | _, _, .cons h t => by rw [List.any_cons, List.any_cons, h.1, relN_any t]
theorem relN_map {k : NestedKey} {v : V} {u : Value} (rv : RelV v u) : ∀ {kvs : List NKV} {xs : List KE3}, Paired RelN kvs xs → Paired RelN (kvs.map (fun p => if nk p.1 = k then (p.1, p.2.1, v) else p)) (xs.map (fun x => if x.1 = k then (x.1, x.2.1, u) else x))
  | _, _, .nil => .nil
  | _, _, .cons (a := p) (b := q) h t => by
    rw [List.map_cons, List.map_cons]
    refine .cons ?_ (relN_map rv t)
    by_cases e : nk p.1 = k
    · rw [if_pos e, if_pos (h.1 ▸ e)]
      exact ⟨h.1, h.2.1, rv⟩
    · rw [if_neg e, if_neg (h.1 ▸ e)]
      exact h
theorem relN_app {p : NKV} {q : KE3} (hp : RelN p q) : ∀ {kvs : List NKV} {xs : List KE3}, Paired RelN kvs xs → Paired RelN (kvs ++ [p]) (xs ++ [q])
  | _, _, .nil => .cons hp .nil
  | _, _, .cons h t => .cons h (relN_app hp t)
theorem relN_put {kvs : List NKV} {xs : List KE3} {d : PyData} {y v : V} {u r : Value} (h : Paired RelN kvs xs) (ry : RelV y u) (rv : RelV v r) : Paired RelN (putN kvs d y v) (storedN xs (nk d) u r) := by
  unfold putN storedN
  rw [relN_any h]
  by_cases c : (xs.any fun x => decide (x.1 = nk d)) = true
  · rw [if_pos c, if_pos c]; exact relN_map rv h
  · rw [if_neg c, if_neg c]; exact relN_app ⟨rfl, ry, rv⟩ h
theorem putN_keys (kvs : List NKV) (d : PyData) (y v : V) (h : (kvs.map fun p => nk p.1).Nodup) : ((putN kvs d y v).map fun p => nk p.1).Nodup := by
  unfold putN
  by_cases c : (kvs.any fun p => decide (nk p.1 = nk d)) = true
  · rw [if_pos c, List.map_map]
    have e : ((fun p : NKV => nk p.1) ∘ fun p => if nk p.1 = nk d then (p.1, p.2.1, v) else p) = fun p => nk p.1 := by
      funext p
      show nk (if nk p.1 = nk d then (p.1, p.2.1, v) else p).1 = nk p.1
      split <;> rfl
    rw [e]; exact h
  · rw [if_neg c, List.map_append, List.nodup_append]
    refine ⟨h, by simp, fun a ha b hb e => ?_⟩
    obtain ⟨p, hp, rfl⟩ := List.mem_map.mp ha
    have eb : b = nk d := by simpa using hb
    exact c (List.any_eq_true.mpr ⟨p, hp, decide_eq_true (e.trans eb)⟩)
theorem putN_len (kvs : List NKV) (d : PyData) (y v : V) : (putN kvs d y v).length ≤ kvs.length + 1 := by
  unfold putN
  split
  · rw [List.length_map]; omega
  · rw [List.length_append]; simp
section
variable {X : Cx} {pins : List (Addr × Obj)} {σ : L2.St} {H : Hp} {s : Shared} {A : Around} {E : Value → Shared → Prop}
theorem relN_is (I : Inv X pins σ H s) : ∀ {kvs : List NKV} {xs : List KE3}, Paired RelN kvs xs → KyOk X.K H kvs → ∀ x ∈ xs, NestedIs s.heap x.1 x.2.1 ∧ x.1.depth ≤ 8
  | _, _, .nil, _, x, hx => nomatch hx
  | _, _, .cons (a := p) h t, hk, x, hx => by
    rcases List.mem_cons.mp hx with e | hx
    · subst e
      obtain ⟨k1, k2⟩ := hk p List.mem_cons_self
      rw [← h.1]
      exact ⟨dp_key I 8 _ _ _ k1 k2 h.2.1, kd_depth 8 _ k1⟩
    · exact relN_is I t (fun q hq => hk q (List.mem_cons_of_mem _ hq)) x hx
/-- d[y] = v, with the state that it leaves -/
theorem d_setN {a : Addr} {kvs : List NKV} {d : PyData} {y v : V} {u r : Value} {Q : Unit → Shared → Prop} (hu : A.units + 9 < cLine) (I : Inv X pins σ H s) (ha : H a = some (NdO X.w a kvs)) (hk : KyOk X.K H kvs) (hd : kd 8 d = true) (hy : Dp X.K H y d) (ry : RelV y u) (rv : RelV v r) (hl : kvs.length < sizeLine)
    (q : ∀ h' t', Inv X pins σ (upd H a (NdO X.w a (putN kvs d y v))) { s with heap := h', toks := t' } → Q () { s with heap := h', toks := t' }) : wpAny (model X.prog X.w) A (setItem (.ref a) u r) Q E s := by
  obtain ⟨⟨z, hs, hn, xs, pr, hm⟩, _, _⟩ := I.hok a _ ha
  refine set_item hu (dp_key I 8 d y u hd hy ry) (kd_depth 8 d hd) hm (by rw [← relN_keys pr]; exact hn) (relN_is I pr hk) (by rw [← Paired.length pr]; exact z) fun h' m' sb => q h' _ ?_
  have hz := putN_len kvs d y v
  exact d_write I (by rw [ha]; exact True.intro) sb (let ⟨o, _, _, ho, _⟩ := m'; ⟨o, ho⟩) (ndO_ok (by omega) hs (putN_keys kvs d y v hn) (relN_put pr ry rv) m')
/-- {} -/
def tDNewN (w : World) : TE := fun _ H Q => ∀ a, H a = none → Q (.ref a) (upd H a (NdO w a []))
theorem pe_dnewN {pos : Pos} : PE X (.Dict [] [] pos) (tDNewN X.w) := by
  refine ⟨fun pins s σ H Q I h => ?_⟩
  have hb : (s.heap.objs.size == sysModules) = false := beq_eq_false_iff_ne.mpr (Nat.ne_of_gt I.big)
  refine wpAny_Dict_empty ⟨.ref s.heap.objs.size, _, I.laid (a := s.heap.objs.size) (o := NdO X.w s.heap.objs.size []) (t' := s.toks) (fun _ _ q => Heap.get?_push_of_some _ q) (Nat.le_refl _) ?_, rfl, h _ (I.hok.fresh (Nat.le_refl _))⟩
  exact ndO_ok (Nat.zero_le _) hb List.nodup_nil .nil ⟨_, #[], 0, Heap.get?_push_size _ rfl, ⟨rfl, rfl, rfl⟩, rfl, rfl⟩
/-- d[y] = v -/
def sNPut (K : PySem.W.Frag) (w : World) (td ty tv : TE) : TS := fun D σ H => tv σ H fun v H1 => td σ H1 fun x H2 => ty σ H2 fun y H3 => ∃ a kvs d, x = .ref a ∧ H3 a = some (NdO w a kvs) ∧ KyOk K H3 kvs ∧ kd 8 d = true ∧ Dp K H3 y d ∧ kvs.length < sizeLine ∧ D.nx σ (upd H3 a (NdO w a (putN kvs d y v)))
theorem ps_dputN {o i value : Expr} {td ty tv : TE} {pos pos' : Pos} (hu : X.A.units + 9 < cLine) (ho : PE X o td) (hi : PE X i ty) (hv : PE X value tv) (hs : swapsWith value (some (.Subscript o i pos')) pos.line X.env = pure false) : PS X (.Assign [.Subscript o i pos'] value pos) (sNPut X.K X.w td ty tv) := by
  refine ⟨fun pins s σ H D I h => ?_⟩
  refine wpAny_Assign_Subscript (thn (hv.run pins s σ H _ I h) fun r s1 ⟨v, H1, I1, rv, q1⟩ => thn (ho.run pins s1 σ H1 _ I1 q1) fun u s2 ⟨x, H2, I2, rx, q2⟩ => thn (hi.run pins s2 σ H2 _ I2 q2) fun iv s3 ⟨y, H3, I3, ry, a, kvs, d, ex, g1, g2, g3, g4, g5, q3⟩ => ?_) hs
  subst ex
  obtain rfl : u = Value.ref a := rx
  exact d_setN hu I3 g1 g2 g3 g4 ry rv g5 fun h' t' I4 => ⟨σ, _, I4, q3⟩
/-- list(d): its keys -/
theorem call_listN (hc : X.calm = true) : CallR X (.type "list") (fun xs H Q => ∃ (a : Addr) (kvs : List NKV), xs = [.ref a] ∧ H a = some (NdO X.w a kvs) ∧ ∀ p, H p = none → Q (.ref p) (upd H p (.lst (kvs.map fun kv => kv.2.1)))) := by
  intro pins s σ H xs us Q I r h
  obtain ⟨a, kvs, rfl, ha, q⟩ := h
  obtain ⟨u, rfl, rx⟩ := r.one
  cases rx
  obtain ⟨⟨z, hs, hn, ks, pr, o, es, ep, ho, hx, hdt, he⟩, _, _⟩ := I.hok a _ ha
  have l1 : es.size = ks.length := ent_size he
  have l2 : kvs.length = ks.length := Paired.length pr
  refine PySem.W.kdl_call (kdl_raw hs hx hdt) (I.ok.hd hc) ho (by omega) fun h' tk acc c' kp e it => ?_
  have ea : acc.toList = ks.map fun x => x.2.1 := by
    have hl : acc.toList.length = ks.length := by rw [Array.length_toList, it.1]; exact l1
    apply List.ext_getElem?
    intro j
    rw [List.getElem?_map]
    cases hj : acc.toList[j]? with
    | none => rw [List.getElem?_eq_none (by have := List.getElem?_eq_none_iff.mp hj; omega)]; rfl
    | some v =>
      obtain ⟨en, hen, hv⟩ := it.2 j v (by rw [← Array.getElem?_toList]; exact hj)
      have qe := ent_at (w := X.w) he j
      rw [hen] at qe
      cases hb : ks[j]? with
      | none => rw [hb] at qe; exact nomatch qe
      | some b =>
        rw [hb] at qe
        have e2 : en = entD X.w b := Option.some.inj qe
        rw [hv, e2]
        rfl
  have vals : ∀ {kvs : List NKV} {ks : List KE3}, Paired RelN kvs ks → Vals (kvs.map fun kv => kv.2.1) (ks.map fun x => x.2.1) := fun {kvs ks} pr => by
    induction pr with
    | nil => exact .nil
    | cons h _ ih => exact .cons h.2.1 ih
  refine ⟨.ref s.heap.objs.size, _, I.laid (t' := tk) (o := .lst (kvs.map fun kv => kv.2.1)) kp (Nat.le_refl _) ?_, rfl, q _ (I.hok.fresh (Nat.le_refl _))⟩
  exact ⟨by rw [List.length_map]; exact z, acc.toList, c', by rw [ea]; exact vals pr, by rw [Array.toArray_toList]; exact e⟩
end
end FvD


namespace Fv
open PySem PySem.Spec PyProof.Rows L2
/-! ### an own def as its callers see it -/
structure Own (P : Program) (w : World) (K : PySem.W.Frag) (mg : Str → Option Value) (base : Heap) (k : Nat) (x : Str) (ps : List Str) (sp : Sp) : Prop where
  ex : ∃ (f : Addr) (fd : FuncData), mg x = some (.ref f) ∧ PySem.W.keepIn K (.ref f) = true ∧ Binds K fd ps [] ∧ FnOk P w K mg base CX0 k f fd ps sp
section
variable {X : Cx} {k : Nat} {x : Str} {ps : List Str} {sp : Sp} {e : Expr} {es : List Expr} {t : TA} {p pos : Pos}
theorem pe_own (C : Own X.prog X.w X.K X.mg X.base k x ps sp) (hr : Room k X.A) (hg : Gl X x) (ha : PA X (e :: es) t) (hdb : (x == ("__debug__" : Str)) = false := by decide)
    (he : starEach (e :: es) X.env = (false, eval e X.env) :: starEach es X.env := by rfl) (hpl : (backTo pos (starEach es X.env)).any (·.1) = false := by rfl) : PE X (.Call (.Name x p) (e :: es) [] pos) (tCall sp [] E0 t) := by
  obtain ⟨f, fd, h1, h2, h3, h4⟩ := C.ex
  exact pe_call h4 hr hg h1 h2 h3 .nil pass0 ha hdb he hpl
end
/-! ### isinstance of data -/
def tyN : PyData → String
  | .none => "NoneType"
  | .bool _ => "bool"
  | .int _ => "int"
  | .str _ => "str"
  | .list _ => "list"
  | .tuple _ => "tuple"
  | .dict _ => "dict"
/-- isinstance of data, by the names of the types -/
def isB : String → String → Bool
  | a, b => a == b || (a == "bool" && b == "int")
def tyOk (T : String) : Bool := T == "str" || T == "int" || T == "bool" || T == "list" || T == "tuple" || T == "dict"
theorem kitB_all {d : PyData} {T : String} (h : tyOk T = true) : kitB (tyN d) T = some (isB (tyN d) T) := by
  simp only [tyOk, Bool.or_eq_true, beq_iff_eq] at h
  rcases h with ((((h | h) | h) | h) | h) | h <;> subst h <;> cases d <;> (simp only [tyN]; decide +kernel)
theorem dp_ty {K : PySem.W.Frag} {H : Hp} {v : V} {d : PyData} (h : Dp K H v d) : TyX K H v (.type (tyN d)) := by
  cases h with
  | non => exact .base .non
  | bl b => exact .base (.bl b)
  | int i => exact .base (.int i)
  | str x => exact .base (.str x)
  | lst hs ha =>
    rcases hs with (h | ⟨o, h⟩) | ⟨o, its, n, h1, h2, _⟩
    · exact .base (.lst h)
    · exact .base (.frz h)
    · exact .kList h1 h2
  | tup hs ha =>
    rcases hs with (h | ⟨o, h⟩) | ⟨o, its, n, h1, h2, _⟩
    · exact .base (.tup h)
    · exact .fTuple h
    · exact .kTuple h1 h2
def rIsD (K : PySem.W.Frag) : List V → Hp → VK → Prop := fun xs H Q => ∃ (x : V) (T : String) (d : PyData), xs = [x, .ty T] ∧ tyOk T = true ∧ Dp K H x d ∧ Q (.bl (isB (tyN d) T)) H
theorem call_isD {X : Cx} : CallR X (.builtin "isinstance") (rIsD X.K) := by
  intro pins s σ H xs us Q I r h
  obtain ⟨x, T, d, rfl, hT, hd, q⟩ := h
  exact call_isi pins s σ H _ us Q I r ⟨x, .ty T, _, _, _, rfl, .ty T, dp_ty hd, kit_ty (kitB_all hT), q⟩
section
variable {X : Cx} {e : Expr} {te : TE} {T : String} {y : Str} {p p2 pos : Pos}
theorem pe_isD (hg : Gl X "isinstance") (hm : X.mg "isinstance" = none) (hg2 : Gl X y) (hm2 : X.mg y = none) (ha : PE X e te)
    (hv : bootBuiltins y = some (.type T) := by decide +kernel) (hn : y ≠ "__name__" := by decide) (hd2 : (y == ("__debug__" : Str)) = false := by decide)
    (he : starEach (e :: [.Name y p2]) X.env = (false, eval e X.env) :: starEach [.Name y p2] X.env := by rfl) (hpl : (backTo pos (starEach [.Name y p2] X.env)).any (·.1) = false := by rfl) :
    PE X (.Call (.Name "isinstance" p) [e, .Name y p2] [] pos) (tCB (rIsD X.K) (tCons te (tCons (tC (.ty T)) tNil))) :=
  pe_callB (x := "isinstance") call_isD hg hm (by decide +kernel) (pa_cons ha (pa_cons (pe_bltn (v := .ty T) (pos := p2) hg2 hm2 hv rfl hn hd2) pa_nil) (hs := he)) (by decide) (by decide) he hpl
/-! ### in, not in: a tuple of data -/
def rInT (K : PySem.W.Frag) : R2 := fun x y H Q => ∃ d ds, Dp K H x d ∧ Dp K H y (.tuple ds) ∧ SeqAt.shaped d = true ∧ SeqAt.shaped (.tuple ds) = true ∧ Q (.bl (ds.any fun z => PyData.eqv z d)) H
def rNotInT (K : PySem.W.Frag) : R2 := fun x y H Q => ∃ d ds, Dp K H x d ∧ Dp K H y (.tuple ds) ∧ SeqAt.shaped d = true ∧ SeqAt.shaped (.tuple ds) = true ∧ Q (.bl (!ds.any fun z => PyData.eqv z d)) H
theorem room_shaped {n : Nat} {ds : List PyData} {d : PyData} (h : SeqAt.shaped d = true) (hu : n + 65 < cLine) : n + 1 + min (PyData.depthAll ds) d.depth < cLine := by
  have := SeqAt.depth_of_shaped h
  have := Nat.min_le_right (PyData.depthAll ds) d.depth
  omega
theorem op_inT (hu : X.A.units + 65 < cLine) : OpR X (compareOp .In) (rInT X.K) := by
  intro pins s σ H x y v u Q I rx ry h
  obtain ⟨d, ds, hd, he, sd, se, q⟩ := h
  obtain ⟨as, r1⟩ := Dp.reads I d x v hd rx
  obtain ⟨bs, r2⟩ := Dp.reads I (.tuple ds) y u he ry
  exact SeqAt.in_tuple_reads r2 r1 (SeqAt.canLay_of_shaped se) (SeqAt.canLay_of_shaped sd) (room_shaped sd hu) ⟨.bl _, H, I, rfl, q⟩
theorem op_notInT (hu : X.A.units + 65 < cLine) : OpR X (compareOp .NotIn) (rNotInT X.K) := by
  intro pins s σ H x y v u Q I rx ry h
  obtain ⟨d, ds, hd, he, sd, se, q⟩ := h
  obtain ⟨as, r1⟩ := Dp.reads I d x v hd rx
  obtain ⟨bs, r2⟩ := Dp.reads I (.tuple ds) y u he ry
  exact SeqAt.notIn_tuple_reads r2 r1 (SeqAt.canLay_of_shaped se) (SeqAt.canLay_of_shaped sd) (room_shaped sd hu) ⟨.bl _, H, I, rfl, q⟩
end
theorem hu65 {A : Around} {k : Nat} (hr : Room k A) : A.units + 65 < cLine := by have := hr.un; omega
/-! ### the source of draws -/
/-- the source at a: its script at L, ns -/
def Src (H : Hp) (a L : Addr) (ns : List Int) : Prop := ∃ i p st c : Int, H a = some (.lst [.ref L, .int i, .int p, .int st, .int c]) ∧ H L = some (.lst (ns.map V.int)) ∧ 0 ≤ i ∧ 0 ≤ st ∧ st < 2147483629
theorem Src.off {H H' : Hp} {a L b : Addr} {ns : List Int} (h : Src H a L ns) (hb : H b = none) (e : ∀ c, c ≠ b → H' c = H c) : Src H' a L ns := by
  obtain ⟨i, p, st, c, h1, h2, h3⟩ := h
  exact ⟨i, p, st, c, by rw [e a (ne_of_none h1 hb)]; exact h1, by rw [e L (ne_of_none h2 hb)]; exact h2, h3⟩
theorem Src.same {H H' : Hp} {a L : Addr} {ns : List Int} (h : Src H a L ns) (e : Same H H') : Src H' a L ns := by
  obtain ⟨i, p, st, c, h1, h2, h3⟩ := h
  exact ⟨i, p, st, c, e _ _ h1, e _ _ h2, h3⟩
def spSource (K : PySem.W.Frag) : Sp := fun vs H Q _ => ∃ (a : Addr) (ns : List Int), vs = [.ref a] ∧ SqL K H a (ns.map V.int) ∧ ns.length ≤ 63 ∧
  ∀ (H' : Hp) (p L : Addr), Same H H' → H p = none → H L = none → Src H' p L ns → Q (.ref p) H'
def spTake : Sp := fun vs H Q _ => ∃ (a L : Addr) (ns : List Int) (n : Int), vs = [.ref a, .int n] ∧ Src H a L ns ∧ 1 ≤ n ∧ n ≤ 1000000 ∧
  ∀ (H' : Hp) (d : Int), 0 ≤ d → d < n → Src H' a L ns → (∀ b, b ≠ a → H' b = H b) → Q (.int d) H'
def spPick : Sp := fun vs H Q _ => ∃ (a L r : Addr) (ns : List Int) (xs : List V), vs = [.ref a, .ref r] ∧ Src H a L ns ∧ r ≠ a ∧ H r = some (.lst xs) ∧ 0 < xs.length ∧ xs.length ≤ 1000 ∧
  ∀ (H' : Hp) (v : V), v ∈ xs → Src H' a L ns → (∀ b, b ≠ a → H' b = H b) → Q v H'
def spMixed : Sp := fun vs H Q _ => ∃ (a L r : Addr) (ns : List Int) (xs : List V), vs = [.ref a, .ref r] ∧ Src H a L ns ∧ r ≠ a ∧ H r = some (.lst xs) ∧ xs.length ≤ 1000 ∧
  ∀ (H' : Hp) (p : Addr) (ys : List V), ys.Perm xs → H p = none → H' p = some (.lst ys) → Src H' a L ns → (∀ b, b ≠ a → b ≠ p → H' b = H b) → Q (.ref p) H'
end Fv


namespace Fv
open PySem PySem.Spec PyProof.Rows L2
/-! ### list(text) -/
def signs (x : Str) : List V := x.cps.toList.map fun c => V.str ⟨#[c]⟩
theorem vals_signs {x : Str} {acc : Array Value} (h : ItemsOf (SignAt x) acc x.cps.size) : Vals (signs x) acc.toList := by
  have hs : acc.toList.length = x.cps.toList.length := by simpa using h.1
  have hi : ∀ (j : Nat) (v : Value), acc.toList[j]? = some v → ∃ c u, x.cps.toList[j]? = some c ∧ v = .str ⟨#[c]⟩ u := fun j v e => by
    obtain ⟨c, u, e1, e2⟩ := h.2 j v (by simpa using e)
    exact ⟨c, u, by simpa using e1, e2⟩
  unfold signs
  generalize acc.toList = us at hs hi
  generalize x.cps.toList = cs at hs hi
  induction cs generalizing us with
  | nil =>
    cases us with
    | nil => exact .nil
    | cons u us => simp at hs
  | cons c cs ih =>
    cases us with
    | nil => simp at hs
    | cons u us =>
      obtain ⟨c', t, e1, e2⟩ := hi 0 u rfl
      simp at e1
      subst e1
      refine .cons ⟨t, e2⟩ (ih us (by simpa using hs) fun j v e => ?_)
      obtain ⟨c', t, e1, e2⟩ := hi (j + 1) v (by simpa using e)
      exact ⟨c', t, by simpa using e1, e2⟩
section
variable {X : Cx}
theorem call_listStr (hh : X.A.handled = none) : CallR X (.type "list") (fun xs H Q => ∃ x : Str, xs = [.str x] ∧ x.cps.size ≤ sizeLine ∧ ∀ l, H l = none → Q (.ref l) (upd H l (.lst (signs x)))) := by
  intro pins s σ H xs us Q I r h
  obtain ⟨x, rfl, hz, q⟩ := h
  obtain ⟨u, rfl, rx⟩ := vals1 r
  obtain ⟨t, rfl⟩ := rx
  refine call_list_str hh x t (fun h' tk acc' c' kp e it => ?_) hz
  have rv := vals_signs it
  refine ⟨.ref s.heap.objs.size, _, I.laid (t' := tk) kp (Nat.le_refl _) (show ObjOk X.prog X.w _ h' _ (.lst (signs x)) from ⟨?_, acc'.toList, c', rv, ?_⟩), rfl, q _ (I.hok.fresh (Nat.le_refl _))⟩
  · unfold signs; rw [List.length_map, Array.length_toList]; exact hz
  · simpa using e
end
theorem atI_mem {xs : List V} {i : Int} (h0 : 0 ≤ i) (h : i < (xs.length : Nat)) : ∃ v, atI xs i = some v ∧ v ∈ xs := by
  have hk : i.toNat < xs.length := by omega
  have q : atI xs ((i.toNat : Nat) : Int) = some xs[i.toNat] := atI_nat (List.getElem?_eq_getElem hk)
  rw [show ((i.toNat : Nat) : Int) = i by omega] at q
  exact ⟨_, q, List.getElem_mem hk⟩
theorem le1000 {n : Nat} (h : n ≤ 1000) : n ≤ sizeLine := Nat.le_of_lt (small1000 h)
/-- the letters of a list of signs are texts of one sign of a to h -/
def lett (v : V) : Prop := v ∈ signs "abcdefgh"
theorem lett_data {v : V} (h : lett v) : ∃ x : Str, v = .str x ∧ x ∈ (["a", "b", "c", "d", "e", "f", "g", "h"] : List Str) := by
  have e : signs "abcdefgh" = (["a", "b", "c", "d", "e", "f", "g", "h"] : List Str).map V.str := by decide +kernel
  unfold lett at h
  rw [e] at h
  obtain ⟨x, hx, rfl⟩ := List.mem_map.mp h
  exact ⟨x, rfl, hx⟩
def spSigns : Sp := fun vs H Q _ => ∃ (a L : Addr) (ns : List Int) (n : Int), vs = [.ref a, .int n] ∧ Src H a L ns ∧ 1 ≤ n ∧ n ≤ 8 ∧
  ∀ (H' : Hp) (p : Addr) (ys : List V), 0 < ys.length → ys.length ≤ n → (∀ y ∈ ys, lett y) → ys.Nodup → H p = none → H' p = some (.lst ys) → Src H' a L ns → SmX [a] H H' → Q (.ref p) H'
theorem cut_take (xs : List V) {n : Int} (h : 0 ≤ n) : cutV xs none (some n) = xs.take n.toNat := by
  unfold cutV
  rw [HT.sIx_none, show HT.sIx xs.length xs.length (some n) = min n.toNat xs.length by
    have := HT.sIx_nat xs.length xs.length n.toNat
    rw [show ((n.toNat : Nat) : Int) = n by omega] at this
    exact this]
  rw [List.drop_zero, Nat.sub_zero]
  rcases Nat.le_total n.toNat xs.length with q | q
  · rw [Nat.min_eq_left q]
  · rw [Nat.min_eq_right q, List.take_of_length_le (Nat.le_refl _), List.take_of_length_le q]
theorem cut_drop1 (xs : List V) : cutV xs (some 1) none = xs.drop 1 := by
  unfold cutV
  rw [show HT.sIx xs.length 0 (some 1) = min 1 xs.length from HT.sIx_nat xs.length 0 1, HT.sIx_none]
  cases xs with
  | nil => rfl
  | cons x r =>
    rw [show min 1 (x :: r).length = 1 by
      rw [List.length_cons]
      omega]
    show (List.take ((x :: r).length - 1) r) = r
    rw [List.length_cons, Nat.add_sub_cancel]
    exact List.take_length
theorem at0 {x : V} {xs : List V} : atI (x :: xs) 0 = some x := atI_nat (xs := x :: xs) (rfl : (x :: xs)[0]? = some x)
end Fv


namespace Fv
open PySem PySem.Spec PyProof.Rows L2
/-! ### measures of data -/
def isL (s : Str) : Bool := decide (V.int (s.length : Nat) = V.int 1) && !(Builtin.Str.occurrences "abcdefgh" s 0 (Str.length "abcdefgh") 1).isEmpty
def isLd : PyData → Bool
  | .str s => isL s
  | _ => false
def isOp (o : PyData) : Bool := ([PyData.str "&", .str "|"] : List PyData).any fun z => PyData.eqv z o
def isCd : PyData → Bool
  | .tuple (o :: ds) => decide (2 ≤ ds.length) && isOp o
  | _ => false
def parts : PyData → List PyData
  | .tuple (_ :: ds) => ds
  | _ => []
def measL (f : PyData → Int → Option (Int × Int)) : List PyData → Int → Int → Int → Option (Int × Int)
  | [], _, dp, tot => some (dp + 1, tot)
  | d :: ds, ms, dp, tot => match f d (ms - tot) with
    | none => none
    | some (a, b) => measL f ds ms (if a > dp then a else dp) (tot + b)
def meas : Nat → PyData → Int → Option (Int × Int)
  | 0, _, _ => none
  | n + 1, d, ms => if ms < 1 then none else if isLd d = true then some (1, 1) else if isCd d = true then measL (meas n) (parts d) ms 0 0 else none
def lmeas : Nat → PyData → Int
  | 0, _ => 0
  | n + 1, d => if isLd d = true then 1 else if isCd d = true then (if (0 : Int) ∈ (parts d).map (lmeas n) then 0 else ((parts d).map (lmeas n)).sum) else 0
theorem sum_nonneg : ∀ {l : List Int}, (∀ x ∈ l, 0 ≤ x) → 0 ≤ l.sum
  | [], _ => by simp
  | x :: l, h => by
    rw [List.sum_cons]
    have := h x (List.mem_cons_self ..)
    have := sum_nonneg (l := l) fun y hy => h y (List.mem_cons_of_mem _ hy)
    omega
theorem lmeas_nonneg : ∀ (n : Nat) (d : PyData), 0 ≤ lmeas n d
  | 0, _ => by simp [lmeas]
  | n + 1, d => by
    unfold lmeas
    split
    · decide
    · split
      · split
        · decide
        · exact sum_nonneg fun x hx => by
            obtain ⟨d', _, rfl⟩ := List.mem_map.mp hx
            exact lmeas_nonneg n d'
      · decide
theorem measL_iff {f : PyData → Int → Option (Int × Int)} {g : PyData → Int} (hg : ∀ d, 0 ≤ g d)
    (hf : ∀ d ms, (f d ms = none ∧ ¬ (1 ≤ g d ∧ g d ≤ ms)) ∨ (∃ dp, f d ms = some (dp, g d) ∧ 1 ≤ g d ∧ g d ≤ ms)) :
    ∀ (ds : List PyData) (ms dp tot : Int), tot ≤ ms →
      (measL f ds ms dp tot = none ∧ ¬ ((∀ d ∈ ds, 1 ≤ g d) ∧ tot + (ds.map g).sum ≤ ms)) ∨ (∃ dp', measL f ds ms dp tot = some (dp', tot + (ds.map g).sum) ∧ (∀ d ∈ ds, 1 ≤ g d) ∧ tot + (ds.map g).sum ≤ ms)
  | [], ms, dp, tot, h => by
    refine .inr ⟨dp + 1, ?_, by simp, by simpa using h⟩
    simp [measL]
  | d :: ds, ms, dp, tot, h => by
    have hs : 0 ≤ (ds.map g).sum := sum_nonneg fun x hx => by
      obtain ⟨d', _, rfl⟩ := List.mem_map.mp hx
      exact hg d'
    rw [List.map_cons, List.sum_cons]
    rcases hf d (ms - tot) with ⟨e, ne⟩ | ⟨a, e, e1, e2⟩
    · refine .inl ⟨by simp only [measL, e], fun ⟨q1, q2⟩ => ne ⟨q1 d (List.mem_cons_self ..), by omega⟩⟩
    · have st : measL f (d :: ds) ms dp tot = measL f ds ms (if a > dp then a else dp) (tot + g d) := by simp only [measL, e]
      rw [st]
      rcases measL_iff hg hf ds ms (if a > dp then a else dp) (tot + g d) (by omega) with ⟨e', ne⟩ | ⟨dp', e', q1, q2⟩
      · refine .inl ⟨e', fun ⟨q1, q2⟩ => ne ⟨fun x hx => q1 x (List.mem_cons_of_mem _ hx), by omega⟩⟩
      · refine .inr ⟨dp', by rw [e', Int.add_assoc], fun x hx => ?_, by omega⟩
        rcases List.mem_cons.mp hx with e | hx
        · rw [e]; exact e1
        · exact q1 x hx
theorem meas_iff : ∀ (n : Nat) (d : PyData) (ms : Int), (meas n d ms = none ∧ ¬ (1 ≤ lmeas n d ∧ lmeas n d ≤ ms)) ∨ (∃ dp, meas n d ms = some (dp, lmeas n d) ∧ 1 ≤ lmeas n d ∧ lmeas n d ≤ ms)
  | 0, d, ms => .inl ⟨rfl, fun h => by simp only [lmeas] at h; omega⟩
  | n + 1, d, ms => by
    have hn := lmeas_nonneg (n + 1) d
    unfold meas
    by_cases h1 : ms < 1
    · rw [if_pos h1]
      exact .inl ⟨rfl, fun h => by omega⟩
    · rw [if_neg h1]
      unfold lmeas
      by_cases h2 : isLd d = true
      · rw [if_pos h2, if_pos h2]
        exact .inr ⟨1, rfl, by decide, by omega⟩
      · rw [if_neg h2, if_neg h2]
        by_cases h3 : isCd d = true
        · rw [if_pos h3, if_pos h3]
          have q := measL_iff (g := lmeas n) (lmeas_nonneg n) (meas_iff n) (parts d) ms 0 0 (by omega)
          rw [Int.zero_add] at q
          by_cases h4 : (0 : Int) ∈ (parts d).map (lmeas n)
          · rw [if_pos h4]
            rcases q with ⟨e, _⟩ | ⟨dp, e, q1, _⟩
            · exact .inl ⟨e, fun h => by omega⟩
            · obtain ⟨x, hx, e0⟩ := List.mem_map.mp h4
              have := q1 x hx
              omega
          · rw [if_neg h4]
            have all1 : ∀ x ∈ parts d, 1 ≤ lmeas n x := fun x hx => by
              have z := lmeas_nonneg n x
              rcases Int.lt_or_eq_of_le z with z | z
              · omega
              · exact absurd (List.mem_map.mpr ⟨x, hx, z.symm⟩) h4
            rcases q with ⟨e, ne⟩ | ⟨dp, e, q1, q2⟩
            · exact .inl ⟨e, fun h => ne ⟨all1, h.2⟩⟩
            · refine .inr ⟨dp, e, ?_, q2⟩
              have hp : parts d ≠ [] := by
                cases d with
                | tuple ds =>
                  cases ds with
                  | nil => cases h3
                  | cons o ds =>
                    intro e0
                    simp only [parts] at e0
                    rw [e0] at h3
                    simp [isCd] at h3
                | _ => cases h3
              cases hd : parts d with
              | nil => exact absurd hd hp
              | cons x r =>
                rw [hd] at all1
                rw [List.map_cons, List.sum_cons]
                have := all1 x (List.mem_cons_self ..)
                have := sum_nonneg (l := r.map (lmeas n)) fun y hy => by
                  obtain ⟨d', _, rfl⟩ := List.mem_map.mp hy
                  exact lmeas_nonneg n d'
                omega
        · rw [if_neg h3, if_neg h3]
          exact .inl ⟨rfl, fun h => by omega⟩
/-- the two measures agree -/
theorem meas_some (n : Nat) (d : PyData) (ms : Int) : (meas n d ms).isSome = (decide (1 ≤ lmeas n d) && decide (lmeas n d ≤ ms)) := by
  rcases meas_iff n d ms with ⟨e, ne⟩ | ⟨dp, e, h1, h2⟩
  · rw [e]
    by_cases a : 1 ≤ lmeas n d
    · have b : ¬ lmeas n d ≤ ms := fun z => ne ⟨a, z⟩
      simp [b]
    · simp [a]
  · rw [e]; simp [h1, h2]
/-! ### contracts -/
/-- plain data at v: nested at most 20 deep -/
def spIsLetter (K : PySem.W.Frag) : Sp := fun vs H Q _ => ∃ (v : V) (d : PyData), vs = [v] ∧ Dp K H v d ∧ gd 20 d = true ∧ Q (.bl (isLd d)) H
def spIsCompound (K : PySem.W.Frag) : Sp := fun vs H Q _ => ∃ (v : V) (d : PyData), vs = [v] ∧ Dp K H v d ∧ gd 20 d = true ∧ Q (.bl (isCd d)) H
def spMeas (K : PySem.W.Frag) (n : Nat) : Sp := fun vs H Q _ => ∃ (v : V) (d : PyData) (md ms : Int), vs = [v, .int md, .int ms] ∧ Dp K H v d ∧ gd 20 d = true ∧ 0 ≤ md ∧ md < n ∧
  (meas md.toNat d ms = none → ∀ H', Same H H' → Q .non H') ∧ (∀ dp sz, meas md.toNat d ms = some (dp, sz) → ∀ (H' : Hp) (p : Addr), Same H H' → H' p = some (.tup [.int dp, .int sz]) → Q (.ref p) H')
def spIsTerm (K : PySem.W.Frag) : Sp := fun vs H Q _ => ∃ (v : V) (d : PyData) (md ms : Int), vs = [v, .int md, .int ms] ∧ Dp K H v d ∧ gd 20 d = true ∧ 0 ≤ md ∧ md < 20 ∧
  ∀ H', Same H H' → Q (.bl (meas md.toNat d ms).isSome) H'
def spMeasure (K : PySem.W.Frag) (n : Nat) : Sp := fun vs H Q _ => ∃ (v : V) (d : PyData) (md : Int), vs = [v, .int md] ∧ Dp K H v d ∧ gd 20 d = true ∧ 0 ≤ md ∧ md < n ∧
  ∀ H', Same H H' → Q (.int (lmeas md.toNat d)) H'
def spFits (K : PySem.W.Frag) : Sp := fun vs H Q _ => ∃ (v : V) (d : PyData), vs = [v] ∧ Dp K H v d ∧ gd 20 d = true ∧
  ∀ H', Same H H' → Q (.bl (decide (1 ≤ lmeas 5 d) && decide (lmeas 5 d ≤ 24))) H'
theorem gd_parts {n : Nat} {o : PyData} {ds : List PyData} (h : gd (n + 1) (.tuple (o :: ds)) = true) : gd n o = true ∧ ∀ d ∈ ds, gd n d = true := by
  have q := (gd_tuple h).2
  exact ⟨q o (List.mem_cons_self ..), fun d hd => q d (List.mem_cons_of_mem _ hd)⟩
theorem drop_cons_get {α : Type} {l : List α} {i : Nat} {x : α} (h : l[i]? = some x) : l.drop i = x :: l.drop (i + 1) := by
  obtain ⟨hi, e⟩ := List.getElem?_eq_some_iff.mp h
  rw [List.drop_eq_getElem_cons hi, e]
theorem dropHead {vs : List V} {ds : List PyData} {K : PySem.W.Frag} {H : Hp} (h : DpAll K H vs ds) : DpAll K H (vs.drop 1) (ds.drop 1) := dpAll_drop 1 h
theorem isOp_str : isOp (.str "&") = true ∧ isOp (.str "|") = true := by decide +kernel
end Fv


set_option maxHeartbeats 2000000
namespace FvX
open PySem PySem.W PySem.Calls PyProof.Rows
/-! ### an own error whose __init__ says super().__init__(text) and self.code = text -/
abbrev errScope : Scope := { kind := .function, names := [("self", .local), ("__class__", .free), ("super", .globalImplicit)], isGenerator := false, isCoroutine := false, more := [] }
abbrev errParams (pp : Pos) : Arguments := { posonlyargs := [], args := [{ arg := "self", annotation := none, pos := pp : Arg }], vararg := none, kwonlyargs := [], kw_defaults := [], kwarg := none, defaults := [] }
/-- the places of such a body's parts -/
structure ErrPos where
  (p0 p1 p2 p3 p4 p5 p6 p7 p8 p9 pp : Pos)
abbrev errBody (q : ErrPos) (msg cod : Str) (j1 j2 : Nat) : List Stmt :=
  [.Expr (.Call (.Attribute (.Call (.Name "super" q.p0) [] [] q.p1) "__init__" q.p2) [.Constant (.str msg) j1 q.p3] [] q.p4) q.p5, .Assign [.Attribute (.Name "self" q.p6) "code" q.p7] (.Constant (.str cod) j2 q.p8) q.p9]
/-- the call stands on one line -/
def LineOk (q : ErrPos) (msg : Str) (j1 : Nat) : Prop := ∀ env : Env, ∃ pl : Sem Bool, eval (.Call (.Attribute (.Call (.Name "super" q.p0) [] [] q.p1) "__init__" q.p2) [.Constant (.str msg) j1 q.p3] [] q.p4) env = (do
  let ov ← attributeBase (.Call (.Name "super" q.p0) [] [] q.p1) "__init__" env (eval (.Call (.Name "super" q.p0) [] [] q.p1) env)
  standAt q.p2.atName
  let (f, first) ← holding [ov] (getMethod ov "__init__" pl)
  callWith q.p4 f first (backTo q.p4 (starEach [.Constant (.str msg) j1 q.p3] env)) [])
abbrev veTail4 : List Value := [.type "ValueError", .type "Exception", .type "BaseException", .type "object"]
/-- what the written part says of the class at C and of its __init__ at f -/
structure ErrC (file0 : Str) (K : Frag) (C f : Addr) (qual : Str) (q : ErrPos) (msg cod : Str) (j1 j2 : Nat) : Prop where
  oex : L2.OexC K C
  fn : ∃ (oc : Value) (od an : Option Addr) (osl : Array (Option Value)) (kV doc pm ct : Value) (cda cc : Addr) (ccl cl : Value) (cdd cld : Option Addr) (vs : Array Value) (ccs csl : Array (Option Value)) (file : Str) (tf : Tok),
    K.lookup f = some ⟨oc, od, .func (ksFn "__init__" qual (errParams q.pp) (errBody q msg cod j1 j2) errScope .none kV doc pm an (.ref cda) ct cc), osl⟩ ∧ codeIn K (.ref cda) qual = true ∧ K.lookup cda = some ⟨ccl, cdd, .fields vs, ccs⟩ ∧ vs[2]? = some (.str file tf) ∧
      (file0 == file) = true ∧ K.lookup cc = some ⟨cl, cld, .cell (some (.ref C)), csl⟩
  sup : ks_superIn K C C "__init__" = some (some (.builtin "ValueError.__init__"))
  self : mroIn K C (.ref C) = some true
  isV : subIn K (.ref C) (.type "ValueError") = some true
  init : excInitIn K C veTail4 "ValueError.__new__" = true
  third : nsIn K cStatics "thirdparty.any" = some none
  code : findIn K (.ref C) "code" = some none
  find : findIn K (.ref C) "__init__" = some (some (.ref f))
  typ : typeIn K (.ref f) = some (.type "function")
section
variable {prog : Program} {w : World} {A : Around} {K : Frag} {h : Heap} {g : Array GenState} {d : Drawn} {t : Nat} {os : OsState} {R : Result → Shared → Prop} {mg mb : Str → Option Value}
  {C f a t0 : Addr} {qual msg cod : Str} {q : ErrPos} {j1 j2 : Nat}
theorem init_run (T : ErrC prog.main.file K C f qual q msg cod j1 j2) (hline : LineOk q msg j1) (htop : (prog.main.scope.names.lookup ("super" : Str)).isSome = false)
    (X : K.In h) (hg : h.Ns mainGlobals mg) (hms : mg "super" = none) (hb : h.Ns builtinsNs mb) (hmb : mb "super" = some (.type "super")) (hlim : h.NoLimit) (hroom : A.depth < recursionLimit) (ha : h.get? a = some (excObj C t0 none .none)) (haK : K.lookup a = none)
    (hq : ∀ h' t1 tk' dx tk, (∀ b o, b ≠ a → h.get? b = some o → h'.get? b = some o) → h.objs.size ≤ dx → dx ≠ a → h'.get? a = some { cls := .ref C, dict := some dx, data := .fields #[.ref t1, .none, .none, .none, .bool false, .none] } →
      h'.Ns1 dx (fun y => if y = ("code" : Str) then some (.str cod tk) else none) → R (.ok (.ret .none)) ⟨h', g, d, tk', os⟩) :
    codeAny (model prog w) A (.call (.ref f) ⟨[.ref a], []⟩) R ⟨h, g, d, t, os⟩ := by
  obtain ⟨oc, od, an, osl, kV, doc, pm, ct, cda, cc, ccl, cl, cdd, cld, vs, ccs, csl, file, tf, hf, hcd, hcode, hvs, hfile, hcell⟩ := T.fn
  refine ks_codeAny_call_defAt (binds := [("self", .ref a)]) hroom (X _ _ hf) rfl hlim (codeRec_of X hcd) rfl (.of_eq rfl) (show ∀ x ∈ errScope.names, x.2 ≠ .cell by decide) (fun y hy => ?_) (fun h1 hns hk1 => ?_)
  · rw [List.mem_singleton.mp hy]; rfl
  have X1 : K.In h1 := fun b o e => hk1 b o (X b o e)
  have ha1 : h1.get? a = some (excObj C t0 none .none) := hk1 _ _ ha
  have haL : a ≠ h.objs.size := Nat.ne_of_lt (Heap.lt_size ha)
  obtain ⟨cd, hc⟩ : ∃ cd, clsIn K C = some cd := by
    have z := T.sup
    unfold ks_superIn at z
    cases hc : clsIn K C with
    | none => rw [hc] at z; cases z
    | some cd => exact ⟨cd, rfl⟩
  obtain ⟨oD, hD0, hD2⟩ : ∃ oD, K.lookup C = some oD ∧ oD.data = .cls cd := by
    unfold clsIn at hc
    split at hc
    · rename_i c d' cd' sl ho
      cases hc
      exact ⟨_, ho, rfl⟩
    · cases hc
  have hD1 := X1 _ _ hD0
  have hsup : alongIn K "__init__" ((cd.mro.dropWhile (· != .ref C)).drop 1) = some (some (.builtin "ValueError.__init__")) := by
    have z := T.sup
    unfold ks_superIn at z
    rw [hc] at z
    exact z
  have hv : (fun x => ([("self", Value.ref a)] : List (Str × Value)).reverse.lookup x) ("self" : Str) = some (.ref a) := rfl
  -- super().__init__(text)
  obtain ⟨pl, hline⟩ := hline (callEnv (ksFn "__init__" qual (errParams q.pp) (errBody q msg cod j1 j2) errScope .none kV doc pm an (.ref cda) ct cc) h.objs.size f)
  refine ks_wpAt_execs_cons (ks_wpAt_Expr_any (ks_wpAt_MethodCall ?_ hline))
  refine ks_wpAt_super_base rfl rfl (by decide) rfl (X1 _ _ hf) rfl rfl rfl (X1 _ _ hcode) rfl hvs hfile htop ?_
  refine ks_loadName_global rfl rfl (loadGlobal_builtin (hg.keeps hk1) hms (hb.keeps hk1) hmb ⟨rfl, ?_⟩)
  refine wpAny_loadName_free rfl rfl rfl ⟨_, X1 _ _ hcell, rfl⟩ ?_
  refine wpAny_loadName_local rfl rfl hns hv ?_
  refine ks_wpAny_isType_cls hD1 hD2 ⟨rfl, ?_⟩
  refine ks_wpAny_call_super hD1 hD2 ha1 rfl (fun c e => by cases e) (looks_mroIn X1 T.self) (fun h2 hso hk2 => ?_)
  have X2 : K.In h2 := fun b o e => hk2 b o (X1 b o e)
  have ha2 := hk2 _ _ ha1
  have haC : a ≠ C := fun e => by rw [e, hD0] at haK; cases haK
  have I2 : InstAt h2 a (excObj C t0 none .none) C none := ⟨ha2, rfl, rfl, trivial⟩
  refine kxs_getMethod kxs_ValueError hso (looks_opaque X2 T.third) (l₀ := cd.mro) (fun A Q E s k z => wpAny_bind ((looks_clsIn X2 hc) A _ E s k (wpAny_pure z))) rfl X2 hsup (I2.type.andThen (looks_subIn X2 T.isV)) haC (by decide) ?_
  have nsK : ∀ {h h' : Heap} {L : Addr} {m : Str → Option Value}, h.Ns L m → (∀ b o, h.get? b = some o → h'.get? b = some o) → h'.Ns L m := fun {h h' L m} ⟨o, es, ep, e, r⟩ k => ⟨o, es, ep, k _ _ e, r⟩
  have hns2 := nsK hns hk2
  have hk3 : ∀ b o, h2.get? b = some o → (h2.push (kxs_mw "ValueError.__init__" a)).get? b = some o := fun b o e => Heap.get?_push_of_some _ e
  have hLt : h.objs.size < h2.objs.size := by
    obtain ⟨o, _, _, e, _⟩ := hns2
    exact Heap.lt_size e
  have FR : Fr (hideAll h [a]) h.objs.size (h2.push (kxs_mw "ValueError.__init__" a)) (fun x => ([("self", Value.ref a)] : List (Str × Value)).reverse.lookup x) :=
    ⟨nsK hns2 hk3, fun b o e => hk3 _ _ (hk2 _ _ (hk1 _ _ (of_hideAll _ e))), Nat.le_of_eq (hideAll_size _ _)⟩
  have NW : News (hideAll h [a]) h.objs.size (h2.push (kxs_mw "ValueError.__init__" a)) [(h2.objs.size, kxs_mw "ValueError.__init__" a), (a, excObj C t0 none .none)] := fun p hp => by
    rcases List.mem_cons.mp hp with e | hp
    · subst e
      refine ⟨Heap.get?_push_size _ rfl, Nat.ne_of_gt hLt, ?_⟩
      cases z : (hideAll h [a]).get? h2.objs.size with
      | none => rfl
      | some o => exact absurd (Heap.lt_size (of_hideAll _ z)) (Nat.lt_asymm hLt)
    · rw [List.mem_singleton.mp hp]
      exact ⟨hk3 _ _ ha2, haL, hideAll_none _ (List.mem_singleton.mpr rfl)⟩
  have X0 : K.In (hideAll h [a]) := fun b o e => hideAll_get _ (X b o e) (fun z => by
    rw [List.mem_singleton.mp z, haK] at e
    cases e)
  refine kxs_callWith1 NW (List.mem_cons_self ..) ?_
  refine Calls.spliced_cons (wpAny_Constant_str (k := j1) (pos := q.p3) (Calls.spliced_nil ⟨kxs_at NW (List.mem_cons_self ..), ?_⟩))
  refine kxs_call FR X0 NW PySem.F.excBase_ValueError T.init (List.mem_cons_self ..) (.tail (Nat.ne_of_gt (Heap.lt_size ha2)) (.head fun p hp => nomatch hp)) (by show 1 ≤ sizeLine; decide) (fun t' h4 F4 N4 _ => ?_)
  have ha4 : h4.get? a = some (excObj C t' none .none) := (N4 (a, excObj C t' none .none) (List.mem_cons_of_mem _ (List.mem_cons_of_mem _ (List.mem_cons_self ..)))).1
  have X4 : K.In h4 := fun b o e => F4.keep b o (X0 b o e)
  obtain ⟨nm, qn, N, bs, bm, sn, sub, ab, col, dd, k0, k1, k2, k3, k5, hC, hbm⟩ := T.oex.cls
  have hcl : clsIn K C = some { name := nm, bases := bs, mro := .ref C :: bm, ns := N, qualname := qn, hasDict := true, slotNames := sn, subclasses := sub, abstract := ab, collection := col, hasDel := false } := by
    unfold clsIn
    rw [hC] <;> rfl
  -- self.code = text
  refine wpAt_of_wpAny (wpAny_execs_cons (plainObj_wpAny_Assign_Attribute (wpAny_Constant_str (k := j2) (pos := q.p8) (wpAny_Name (wpAny_loadName_local rfl rfl F4.ns hv ?_) (by decide))) rfl))
  refine set_plain X4 (ox := excObj C t' none .none) (od := none) ⟨ha4, rfl, rfl, trivial⟩ T.oex.sa ?_
  refine PySem.HandSPX.exc_osa X4 ha4 hcl (show PySem.HandSPX.refsVE (.ref C :: bm) = true from hbm) rfl T.code (fun h5 tk' dx hk5 dn dne hx hn => ?_)
  have hL4 : h.objs.size ≤ h4.objs.size := by
    obtain ⟨o, _, _, e, _⟩ := F4.ns
    exact Nat.le_of_lt (Heap.lt_size e)
  refine wpAny_execs_nil (hq h5 t' tk' dx _ (fun b o hb e => hk5 b o hb (F4.keep b o (hideAll_get _ e fun z => hb (List.mem_singleton.mp z)))) (Nat.le_trans hL4 dn) dne hx hn)
end
end FvX


set_option maxHeartbeats 2000000
namespace FvX
open PySem PySem.Spec PyProof.Rows L2
section
variable {X : Cx} {C f : Addr} {qual msg cod x : Str} {q : ErrPos} {j1 j2 k : Nat} {p pos : Pos}
/-- x(): the new error, its dict at d -/
def tErr0 (C : Addr) (cod : Str) : L2.St → Hp → XK → Prop := fun _ H Q => ∀ d, H d = none → Q (.ref C) (some d) (upd H d (.xd [("code", .str cod)]))
theorem pmk_err0 (T : ErrC X.prog.main.file X.K C f qual q msg cod j1 j2) (hline : LineOk q msg j1) (htop : (X.prog.main.scope.names.lookup ("super" : Str)).isSome = false) (hms : X.mg "super" = none) (hr : Room (k + 1) X.A) (hg : Gl X x) (hm : X.mg x = some (.ref C))
    (hdb : (x == ("__debug__" : Str)) = false := by decide) : PMk X (.Call (.Name x p) [] [] pos) (tErr0 C cod) := by
  intro pins s σ H Q I h
  obtain ⟨nm, qn, N, bs, bm, sn, sub, ab, col, dd, k0, k1, k2, k3, k5, hC, hbm⟩ := T.oex.cls
  refine wpAny_Call_Name_kw (ld_glob I hg hm ?_ hdb)
  refine PySem.W.callWith_K0 I.kIn T.oex.kC ?_
  show wpAny _ _ (call (.ref C) []) _ _ _
  obtain ⟨hp, g, dr, tk, os⟩ := s
  have nK : X.K.lookup (hp.objs.size + 1) = none := by
    cases e : X.K.lookup (hp.objs.size + 1) with
    | none => rfl
    | some o => exact absurd (Nat.lt_of_succ_lt (Heap.lt_size (I.kIn _ _ e))) (Nat.lt_irrefl _)
  have fresh : H (hp.objs.size + 1) = none := I.hok.fresh (Nat.le_succ _)
  have kk : ∀ b o, hp.get? b = some o → ((hp.push (PySem.W.kdv_tup [])).push (PySem.HandSPX.excO C hp.objs.size)).get? b = some o := fun b o e => Heap.get?_push_of_some _ (Heap.get?_push_of_some _ e)
  have at1 : ((hp.push (PySem.W.kdv_tup [])).push (PySem.HandSPX.excO C hp.objs.size)).get? (hp.objs.size + 1) = some (PySem.HandSPX.excO C hp.objs.size) := by heap_get
  have I2 := I.laid (t' := tk) (a := hp.objs.size + 1) (o := exo (hp.objs.size + 1) C none) (h' := (hp.push (PySem.W.kdv_tup [])).push (PySem.HandSPX.excO C hp.objs.size)) kk (Nat.le_succ _) (exo_ok at1)
  obtain ⟨mb, hb, hbb⟩ := I.mod.blt
  refine wpAny_call (PySem.HandSPX.call_own PySem.F.excBase_ValueError (fun Y => PySem.HandSPX.refsVE_contains Y bm hbm) (I.kIn _ _ hC) (PySem.W.looks_findIn I.kIn T.find) (fun self => PySem.W.bind_fn I.kIn self T.typ) (Nat.zero_le _) ?_)
  refine init_run (mg := X.mg) (mb := mb) (t0 := hp.objs.size) T hline htop (fun b o e => kk b o (I.kIn b o e)) ((I.mod.glob.keeps I.bk).keeps kk) hms ((hb.keeps I.bk).keeps kk) ((hbb _ (by decide)).trans (by decide +kernel)) ?lim (hr.make C [] []).depth at1 nK (fun h' t1 tk' dx tk0 hk dn dne hx hn => ?_)
  case lim => exact (I.mod.nolimit.keeps I.bk).keeps kk
  have nd : H dx = none := I.hok.fresh (Nat.le_trans (by simp; omega) dn)
  have na : ∀ {b : Addr} {u : Option HO}, upd H (hp.objs.size + 1) (exo (hp.objs.size + 1) C none) b = none → b ≠ hp.objs.size + 1 := fun {b u} e z => by
    rw [z, upd_same] at e
    cases e
  have lt2 : ∀ {b : Addr} {o : Obj}, ((hp.push (PySem.W.kdv_tup [])).push (PySem.HandSPX.excO C hp.objs.size)).get? b = some o → b ≠ dx := fun {b o} e => Nat.ne_of_lt (Nat.lt_of_lt_of_le (Heap.lt_size e) dn)
  have same : ∀ {b : Addr} {o : HO}, upd H (hp.objs.size + 1) (exo (hp.objs.size + 1) C none) b = some o → o ≠ exo (hp.objs.size + 1) C none → upd (upd H dx (exd dx [("code", .str cod)])) (hp.objs.size + 1) (exo (hp.objs.size + 1) C (some dx)) b = some o := fun {b o} e ne => by
    have b1 : b ≠ hp.objs.size + 1 := fun z => by
      rw [z, upd_same] at e
      exact ne (Option.some.inj e).symm
    rw [upd_ne b1] at e
    rw [upd_ne b1, upd_ne (ne_of_none e nd)]
    exact e
  have un : Un (frs X.stack) [] (upd H (hp.objs.size + 1) (exo (hp.objs.size + 1) C none)) (upd (upd H dx (exd dx [("code", .str cod)])) (hp.objs.size + 1) (exo (hp.objs.size + 1) C (some dx))) ((hp.push (PySem.W.kdv_tup [])).push (PySem.HandSPX.excO C hp.objs.size)) h' := by
    refine ⟨fun b o e n _ _ => hk b o (na (u := none) n) e, fun b o e n _ _ => ⟨o.slots, hk b o (na (u := none) n) e⟩, fun b o e n _ => ?_, fun b o e _ => ?_, fun b xs e => same e fun z => exo_tup z.symm, fun b o u e => same e fun z => exo_frz z.symm, fun b ps e => ⟨#[], ?_⟩⟩
    · have b1 := na (u := none) n
      rw [upd_ne b1, upd_ne (lt2 e)]
      rw [upd_ne b1] at n
      exact n
    · by_cases b1 : b = hp.objs.size + 1
      · exact ⟨_, by rw [b1]; exact hx⟩
      · exact ⟨o, hk b o b1 e⟩
    · rw [Array.append_empty]
      exact same e fun z => exo_tbl z.symm
  have hok : HOk X.prog X.w (upd (upd H dx (exd dx [("code", .str cod)])) (hp.objs.size + 1) (exo (hp.objs.size + 1) C (some dx))) h' := fun b o e => by
    by_cases b1 : b = hp.objs.size + 1
    · rw [b1, upd_same] at e
      cases e
      rw [b1]
      exact exo_ok hx
    · rw [upd_ne b1] at e
      by_cases b2 : b = dx
      · rw [b2, upd_same] at e
        cases e
        rw [b2]
        exact exd_ok hn (relO_put (fs := []) ⟨_, rfl⟩ fun g => True.intro)
      · rw [upd_ne b2] at e
        have e2 : upd H (hp.objs.size + 1) (exo (hp.objs.size + 1) C none) b = some o := by rw [upd_ne b1]; exact e
        refine (I2.hok b o e2).stay (fun c v hc z => hk c v (fun c1 => ?_) z) (fun c hc => same hc fun z => exo_own z.symm) (fun c xs hc => same hc fun z => exo_tup z.symm)
        rcases hc with hc | hc
        · exact b1 (hc.symm.trans c1)
        · rw [c1, upd_same] at hc
          exact exo_own (Option.some.inj hc)
  refine ⟨rfl, mk_end (a := hp.objs.size + 1) (C := C) (d := dx) (fs := [("code", .str cod)]) (raises_own T.oex.exC T.oex.tyC) I (Nat.le_succ _) kk un hok rfl I.bare upd_same ?_ nd ?_⟩
  · rw [upd_ne dne, upd_same]
  · have e : upd (del (upd (upd H dx (exd dx [("code", .str cod)])) (hp.objs.size + 1) (exo (hp.objs.size + 1) C (some dx))) (hp.objs.size + 1)) dx (.xd [("code", .str cod)]) = upd H dx (.xd [("code", .str cod)]) := by
      funext b
      by_cases b2 : b = dx
      · rw [b2, upd_same, upd_same]
      · rw [upd_ne b2, upd_ne b2]
        by_cases b1 : b = hp.objs.size + 1
        · rw [b1, del_same, fresh]
        · rw [del_ne b1, upd_ne b1, upd_ne b2]
    rw [e]
    exact h dx nd
end
end FvX


set_option maxHeartbeats 2000000
namespace FvX
open PySem PySem.Spec PyProof.Rows L2
/-! ### try: .. except x as n: .. except ..: ..; the first clause takes what comes -/
/-- what the first clause wishes -/
def wFst (K : PySem.W.Frag) (c : Value) (i : Nat) (ts : Addr → Value → Option Addr → TS) (D : Ends) : WX := fun cls dd σ H => PySem.W.exmOne K cls c = some true ∧
  ∀ a, H a = none → ts a cls dd { nx := fun σ' H' => D.nx (σ'.set i none) H', rt := D.rt, bk := fun σ' H' => D.bk (σ'.set i none) H', ct := fun σ' H' => D.ct (σ'.set i none) H' } (σ.set i (some (.ref a))) H
section
variable {X : Cx} {x n : Str} {c : Value} {i : Nat} {bd su : List Stmt} {b1 : Stmt} {np tp hp' : Pos} {more : List ExceptHandler} {tb : WX → TS} {ts : Addr → Value → Option Addr → TS}
theorem ps_try_first (hstk : X.stack = X.env :: X.outer) (hfrm : X.env.frame = some X.env.locals) (nd : X.N.Nodup) (hix : X.N[i]? = some n) (hlc : X.env.kindOf n = some .local) (hcl : Names X x c)
    (hbd : ∀ (W : WX) (pn : List (Addr × Obj)) (xe : Value → Shared → Prop), Takes (X.tr pn xe) W → PassesOwn (model X.prog X.w) X.A X.env xe → PSs (X.tr pn xe) bd (tb W))
    (hsu : ∀ (a : Addr) (oe : Obj) (cls : Value) (dd : Option Addr) (pn : List (Addr × Obj)), Zc cls dd oe → (∃ vs, oe.data = .fields vs) → PSs (X.suite a ((a, oe) :: pn)) (b1 :: su) (ts a cls dd)) :
    PS X (.Try bd (.ExceptHandler (some (.Name x np)) (some n) (b1 :: su) hp' :: more) [] [] tp) (fun D σ H => tb (wFst X.K c i ts D) D σ H) := by
  refine ⟨fun pins s σ H D I hW => wpAny_Try_except ?_⟩
  have fr : X.A.frames = some (X.env :: X.outer) := I.ok.frames.trans (congrArg some hstk)
  let land : Value → Shared → Prop := fun e s1 => wpAny (model X.prog X.w) X.A (noteFrame e X.env) (fun _ s2 => wpAny (model X.prog X.w) X.A (setFlight e none) (fun _ s3 => wpAny (model X.prog X.w) X.A (handleBy e X.env (.ExceptHandler (some (.Name x np)) (some n) (b1 :: su) hp' :: more)) (SP X pins D) X.xe s3) X.xe s2) X.xe s1
  have caught : Takes (X.tr (X.pn ++ pins) land) (wFst X.K c i ts D) := by
    rintro u s' ⟨a, B, sI, pins', σ', H', cls, dd, rfl, J', nb, up, sky, na, os, ag, hm, hyes⟩
    have J : Inv X pins σ' H' sI := J'.ofTry I.ok
    show wpAny (model X.prog X.w) X.A (noteFrame (.ref a) X.env) _ _ _
    refine Sky.land Zc.steady fr hfrm (show Sky B (X.env :: X.outer) a (Zc cls dd) X.env.locals s'.heap from hstk ▸ sky) fun h3 fl up3 => ?_
    have J3 : Inv X pins σ' H' { s' with heap := h3 } := J.landed nb fl.1 (up.trans up3) os ag
    obtain ⟨o3, v3, g3, z3, d3⟩ := fl.there
    have apart : a ∉ frs (X.env :: X.outer) := fun hin => by
      obtain ⟨_, o', g', no⟩ := fl.2.2.1.mem hin
      rw [g3] at g'
      cases g'
      exact no _ d3
    have aL : a ≠ X.env.locals := fun z => apart (List.mem_filterMap.mpr ⟨X.env, List.mem_cons_self, hfrm.trans (congrArg some z.symm)⟩)
    have aF : a ∉ X.fs := fun hin => by
      obtain ⟨e, he, z⟩ := List.mem_filterMap.mp hin
      exact apart (List.mem_filterMap.mpr ⟨e, List.mem_cons_of_mem _ he, z⟩)
    have S3 := J3.suite g3 d3 na aL aF
    have tyIs : PySem.W.Looks (model X.prog X.w) h3 (typeOf (.ref a)) cls := fun A Q E s k z => wpAny_typeOf_ref (k _ _ g3) (z3.1.symm ▸ z)
    have meets := PySem.W.exm_one (M := model X.prog X.w) J3.kIn tyIs hm
    refine wpAny_handleBy_cons (codeAny_handlers_test ?_) (fun z => by cases z)
    have ask : ∀ {Q : Value → Shared → Prop} {E : Value → Shared → Prop}, Q c { s' with heap := h3 } → wpAny (model X.prog X.w) (X.A.mark (some (.ref a))) (eval (.Name x np) X.env) Q E { s' with heap := h3 } := fun {Q E} z => by
      rcases hcl with ⟨gl, nd', m | ⟨m, bv, nn⟩⟩
      · exact ld_glob (X := X.suite a ((a, o3) :: (X.pn ++ pins))) S3 gl m z nd'
      · exact ld_blt (X := X.suite a ((a, o3) :: (X.pn ++ pins))) S3 gl m bv z nn nd'
    refine ask (meets.here (codeAny_handlers_suite_as (HandSPX.lands_againZ fl fun h4 fl4 up4 => ?_)))
    have J4 : Inv X pins σ' H' { s' with heap := h4 } := J.landed nb fl4.1 ((up.trans up3).trans up4) os ag
    obtain ⟨o4, v4, g4, z4, d4⟩ := fl4.there
    refine store_ok (X := X.suite a ((a, o4) :: (X.pn ++ pins))) (v := .ref a) (J4.suite g4 d4 na aL aF) nd hix (.inl hlc) rfl (fun s5 S5 => ?_) (.inr hlc)
    refine wpAny_mono ((hsu a o4 cls dd (X.pn ++ pins) z4 ⟨_, d4⟩).run [] s5 _ H' _ S5 (hyes a na)) (fun fl6 s6 q6 => ?_) (fun _ _ z => z.elim)
    have gone : ∀ {σ6 : L2.St} {H6 : Hp} {Q : Shared → Prop}, Inv (X.suite a ((a, o4) :: (X.pn ++ pins))) [] σ6 H6 s6 → (∀ s7, Inv X pins (σ6.set i none) H6 s7 → Q s7) →
        wpAny (model X.prog X.w) X.A (do bindName X.env n .none; unbindBehindTheSuite X.env n hp') (fun _ s7 => Q s7) X.xe s6 := fun {σ6 H6 Q} S6 z => gone_ok (S6.unsuite I.ok) nd hix hlc z
    cases fl6 with
    | ret u => obtain ⟨v6, σ6, H6, S6, r6, z6⟩ := q6; exact gone S6 fun s7 J7 => ⟨_, _, _, J7, r6, z6⟩
    | next => obtain ⟨σ6, H6, S6, z6⟩ := q6; exact gone S6 fun s7 J7 => ⟨_, _, J7, z6⟩
    | brk => obtain ⟨σ6, H6, S6, z6⟩ := q6; exact gone S6 fun s7 J7 => ⟨_, _, J7, z6⟩
    | cont => obtain ⟨σ6, H6, S6, z6⟩ := q6; exact gone S6 fun s7 J7 => ⟨_, _, J7, z6⟩
  refine wpAny_mono ((hbd (wFst X.K c i ts D) (X.pn ++ pins) land caught PassesOwn.looking).run [] s σ H D (I.toTry _) hW) (fun fl s1 z => ?_) (fun e s1 z => z)
  cases fl with
  | ret u => obtain ⟨v, σ', H', J', r, z⟩ := z; exact ⟨v, σ', H', J'.ofTry I.ok, r, z⟩
  | next => obtain ⟨σ', H', J', z⟩ := z; exact wpAny_execs_nil ⟨σ', H', J'.ofTry I.ok, z⟩
  | brk => obtain ⟨σ', H', J', z⟩ := z; exact ⟨σ', H', J'.ofTry I.ok, z⟩
  | cont => obtain ⟨σ', H', J', z⟩ := z; exact ⟨σ', H', J'.ofTry I.ok, z⟩
end
/-! ### e.f of the caught error -/
section
variable {X : Cx} {a : Addr} {oe : Obj} {cls : Value} {d : Option Addr} {pn : List (Addr × Obj)} {i : Nat} {n f : Str} {p pos : Pos}
theorem pe_errf (hz : Zc cls d oe) (hf : ∃ vs, oe.data = .fields vs) (hv : PE (X.suite a ((a, oe) :: pn)) (.Name n p) (tVar i)) (hb : attributeBase (.Name n p) f X.env (eval (.Name n p) X.env) = eval (.Name n p) X.env := by rfl) :
    PE (X.suite a ((a, oe) :: pn)) (.Attribute (.Name n p) f pos) (fun σ H Q => σ[i]? = some (some (.ref a)) ∧ ∃ (C dd : Addr) (fs : List (Str × V)) (v : V), cls = .ref C ∧ XfC X.K C ∧ PySem.W.findIn X.K (.ref C) f = some none ∧ d = some dd ∧ H dd = some (.xd fs) ∧ fs.lookup f = some v ∧ Q v H) := by
  refine ⟨fun pins s σ H Q I h => ?_⟩
  obtain ⟨h1, C, dd, fs, v, h2, T, h3, h4, h5, h6, q⟩ := h
  exact (pe_xf T h3 hz hf hv hb).run pins s σ H Q I ⟨_, h1, rfl, h2, dd, fs, v, h4, h5, h6, q⟩
end
end FvX


set_option maxHeartbeats 2000000
namespace FvX
open PySem PySem.Spec PyProof.Rows L2 LamX
/-! ### x(lambda: body), where x calls what it got within a try and goes on behind it -/
section
variable {X : Cx} {pins : List (Addr × Obj)} {σ : L2.St} {H : Hp} {s : Shared}
/-- the call of the lambda; what it raises is told of the very slots -/
theorem pe_actS {Eg : XK} {Ng : List Str} {qg : Str} {sg : Scope} {gf lf lc : Addr} {cdg pm ctv : Value} {pr : Arguments} {bd : Expr} {sc : Scope} {k i : Nat} {nm : Str} {pn : List (Addr × Obj)} {xe : Value → Shared → Prop} {W : WX} {E : XK} {tb : TE} {p1 p2 : Pos}
    (I : Inv X pins σ H s) (L : LamS X.env.scope sc) (hobj : s.heap.get? lf = some (PySem.W.kla_obj "<lambda>" (X.env.qual ++ "<lambda>") pr bd sc (cloFrom X.env.cells sc.names []) pm lc ctv)) (hn : H lf = none) (hnf : lf ∉ frs X.stack)
    (hbnd : bindArgs (PySem.W.kla_fn "<lambda>" (X.env.qual ++ "<lambda>") pr bd sc (cloFrom X.env.cells sc.names []) pm (.ref lc) ctv) ⟨[], []⟩ = pure [])
    (tk : Takes ((cxOf C8.CX0 X.prog X.w X.K X.mg X.base Ng qg sg gf cdg X.A X.stack s H Eg).tr pn xe) W) (hr : Room (k + 1) (X.A.deeper (envOfC qg sg s.heap.objs.size gf cdg)))
    (hbd : ∀ (A : Around) (outer : List Env) (s : Shared) (H : Hp), Room k (A.deeper (lamEnv X sc s.heap.objs.size lf lc)) → PE (lamCx X A outer s H E sc lf lc) bd tb)
    (hN : Ng[i]? = some nm) (hv : Vis sg nm) (hd : (nm == ("__debug__" : Str)) = false) (hcd : (nm == ("__classdict__" : Str)) = false) :
    PE ((cxOf C8.CX0 X.prog X.w X.K X.mg X.base Ng qg sg gf cdg X.A X.stack s H Eg).tr pn xe) (.Call (.Name nm p1) [] [] p2)
      (fun σZ HZ Q => σZ[i]? = some (some (.ref lf)) ∧ HZ lc = some (CodeO lc (X.env.qual ++ "<lambda>")) ∧ (∀ cls d H', E cls d H' → W cls d σZ H') ∧ tb σ HZ Q) := by
  refine ⟨fun pZ sZ σZ HZ Q IZ hh => ?_⟩
  obtain ⟨h1, h2, hW, h3⟩ := hh
  have var := (pe_var (X := (cxOf C8.CX0 X.prog X.w X.K X.mg X.base Ng qg sg gf cdg X.A X.stack s H Eg).tr pn xe) (pos := p1) (i := i) hN hv hd hcd).run pZ sZ σZ HZ (fun v H1 => v = .ref lf ∧ H1 = HZ) IZ ⟨.ref lf, h1, rfl, rfl⟩
  refine wpAny_Call_Name_kw (thn var fun u s1 z => ?_)
  obtain ⟨v, H1, I1, r1, e1, e2⟩ := z
  subst e1
  subst e2
  have eu : u = Value.ref lf := r1
  subst eu
  have here := I1.base.keep lf _ hobj hn hnf (fun z => nomatch (show lf ∈ ([] : List Addr) from z))
  have un : Un (frs X.stack) [] H H1 s.heap s1.heap := I1.base
  obtain ⟨⟨oc, vs, t, g1, g2, g3⟩, _, _⟩ := I1.hok lc _ h2
  have body : codeAny (model X.prog X.w) (X.A.deeper (envOfC qg sg s.heap.objs.size gf cdg)) (.call (.ref lf) ⟨[], []⟩) (CR (L2.CX X.prog X.w) (envOfC qg sg s.heap.objs.size gf cdg :: X.stack) X.prog X.w H1 s1 Q E) s1 := by
    refine PySem.W.kla_callFunE hr.depth here rfl L.co L.gen rfl ⟨lc, oc, vs, t, rfl, g1, g2, g3⟩ ?_
    rw [hbnd]
    refine wpAny_pure (wpAny_newFunctionEnv (fun y hy => (L.own y hy).2) (fun y hy => absurd hy List.not_mem_nil) (fun h₁ hns hsb => ⟨I1.nolimit.fresh _ hsb, ?_⟩) L.kind)
    show codeAny _ _ (.expr bd (lamEnv X sc s1.heap.objs.size lf lc)) _ _
    have kp : ∀ b o, s1.heap.get? b = some o → h₁.get? b = some o := fun b o e => hsb.extBut b o (Nat.ne_of_lt (Heap.lt_size e)) (Heap.get?_push_of_some _ e)
    have J := lam_start2 (A := X.A.deeper (envOfC qg sg s.heap.objs.size gf cdg)) (outer := envOfC qg sg s.heap.objs.size gf cdg :: X.stack) (E := E) (scope := sc) (f := lf) (c' := lc) (tk := s1.toks + ([] : List (Str × Value)).length) I L I1.env0 hr.hd un hns kp
    refine PySem.W.kla_codeExpr (wpAny_mono ((hbd _ _ s1 H1 (hr.deeper _)).run [] _ _ H1 Q J h3) (fun v s' z => ?_) fun e s' z => z)
    obtain ⟨v', H', J', rv, z⟩ := z
    exact ⟨v', H', J'.os, J'.bare, J'.base, J'.hok, rv, z⟩
  refine PySem.W.callWith_F0 ⟨_, _, _, _, here⟩ (wpAny_call (codeAny_mono body fun r s' z => ?_))
  cases r with
  | ok fl =>
    cases fl with
    | ret u => exact I1.after z
    | next => exact z.elim
    | brk => exact z.elim
    | cont => exact z.elim
  | error e => exact tk e s' (XE.of_call I1 (fun cls d H' hE => hW cls d H' hE) z)
end
/-- the def at gf, called with one value, makes of the lambda's reading what TT says -/
def GivesS (X : Cx) (Ng : List Str) (x : Str) (sg : Scope) (gf : Addr) (cdg : Value) (bg : List Stmt) (nm q : Str) (TT : (XK → Hp → VK → Prop) → Hp → VK → Prop) : Prop :=
  ∀ (lf lc : Addr) (s : Shared) (H : Hp) (Q : VK) (tl : XK → Hp → VK → Prop),
    (∀ (W : WX) (pn : List (Addr × Obj)) (xe : Value → Shared → Prop) (E : XK) (p1 p2 : Pos), Takes ((cxOf C8.CX0 X.prog X.w X.K X.mg X.base Ng x sg gf cdg X.A X.stack s H C8.E0).tr pn xe) W →
      PE ((cxOf C8.CX0 X.prog X.w X.K X.mg X.base Ng x sg gf cdg X.A X.stack s H C8.E0).tr pn xe) (.Call (.Name nm p1) [] [] p2)
        (fun σZ HZ Q => σZ[0]? = some (some (.ref lf)) ∧ HZ lc = some (CodeO lc q) ∧ (∀ cls d H', E cls d H' → W cls d σZ H') ∧ tl E HZ Q)) →
    H lc = some (CodeO lc q) → TT tl H Q →
    ∃ t, PSs (cxOf C8.CX0 X.prog X.w X.K X.mg X.base Ng x sg gf cdg X.A X.stack s H C8.E0).nox bg t ∧ t { nx := fun _ H' => Q .non H', rt := Q } (L2.start Ng [.ref lf]) H
section
variable {X : Cx}
theorem pe_lamS {T : List (Addr × Str)} {TT : (XK → Hp → VK → Prop) → Hp → VK → Prop} {x nm : Str} {gf c P : Addr} {k : Nat} {pg : Arguments} {bg : List Stmt} {sg : Scope} {dV kV doc pm cdv ct oc : Value} {an od : Option Addr} {osl : Array (Option Value)} {Ng : List Str}
    {pr : Arguments} {bd : Expr} {sc : Scope} {t : XK → TE} {p lpos pos : Pos} (hg : Gl X x) (hm : X.mg x = some (.ref gf)) (hk : PySem.W.keepIn X.K (.ref gf) = true)
    (lk : X.K.lookup gf = some ⟨oc, od, .func (PySem.W.fnOf x x pg bg sg dV kV doc pm an cdv ct), osl⟩) (hcg : PySem.W.codeIn X.K cdv x = true) (hb : L2.Binds X.K (PySem.W.fnOf x x pg bg sg dV kV doc pm an cdv ct) [nm] []) (Sg : FnScope Ng [nm] sg) (hNg : Ng[0]? = some nm) (hva : Vis sg nm)
    (hG : GivesS X Ng x sg gf cdv bg nm (X.env.qual ++ "<lambda>") TT)
    (TB : TabB X.base X.mg c P) (hcode : X.env.code = .ref c) (hmT : (P, X.env.qual ++ "<lambda>") ∈ T) (hu : ∀ p ∈ T, p.1 = P → p.2 = X.env.qual ++ "<lambda>") (hr : Room (k + 2) X.A) (L : LamS X.env.scope sc) (hdef : defaultsOf pr X.env = ([], []))
    (hbind : ∀ (q : Str) (cl : List (Str × Addr)) (pm cv ctv : Value), bindArgs (PySem.W.kla_fn "<lambda>" q pr bd sc cl pm cv ctv) ⟨[], []⟩ = pure [])
    (hbd : ∀ (A : Around) (outer : List Env) (s : Shared) (H : Hp) (E : XK) (lf lc : Addr), Room k (A.deeper (lamEnv X sc s.heap.objs.size lf lc)) → PE (lamCx X A outer s H E sc lf lc) bd (t E))
    (hdb : (x == ("__debug__" : Str)) = false := by decide) (hd : (nm == ("__debug__" : Str)) = false := by decide) (hcd : (nm == ("__classdict__" : Str)) = false := by decide) :
    PE X (.Call (.Name x p) [.Lambda pr bd sc lpos] [] pos) (tLam T TT t) := by
  refine ⟨fun pins s σ H Q I hh => wpAny_Call_Name_kw (ld_glob I hg hm (PySem.W.callWith_K (h₀ := X.base) I.ok.mod.kin hk ?_ (by rfl) (by rfl)) hdb)⟩
  show wpAny _ _ (spliced ((false, eval (.Lambda pr bd sc lpos) X.env) :: backTo pos (starEach [] X.env))) _ _ s
  refine Calls.spliced_cons (lam_make2 I TB hcode hmT hu hh.1 hdef (L.has I.ok) fun lf lc pm' ctv H1 s' I1 eN T1 g1 g2 g3 g4 => Calls.spliced_nil ⟨I1.kIn, ?_⟩)
  refine wpAny_call (codeAny_mono (R := CR C8.CX0 X.stack X.prog X.w H1 s' Q C8.E0) ?_ fun r s2 z => ?_)
  · refine run_ofS (N := Ng) (ps := [nm]) (us := [.ref lf]) (vs := [.ref lf]) lk hcg Sg hr I1.env0 (hb s' [.ref lf] I1.kIn rfl) (.cons rfl .nil) rfl fun hr' => ?_
    obtain ⟨t', q1, q2⟩ := hG lf lc s' H1 Q (fun E H' Q' => t E σ H' Q') (fun W pn xe E p1 p2 tk => pe_actS (i := 0) I1 L g1 g2 g3 (hbind _ _ _ _ _) tk hr' (fun A outer s H hr2 => hbd A outer s H E lf lc hr2) hNg hva hd hcd) g4 (hh.2 H1 eN T1)
    exact ⟨t', q1.nox, q2⟩
  · cases r with
    | error e => exact (show False from z).elim
    | ok fl =>
      cases fl with
      | ret u => exact I1.after z
      | next => exact z.elim
      | brk => exact z.elim
      | cont => exact z.elim
end
end FvX


namespace Fv
open PySem PySem.Spec PyProof.Rows L2
/-! ### own defs with defaults, called with and without keywords -/
structure OwnD (P : Program) (w : World) (K : PySem.W.Frag) (mg : Str → Option Value) (base : Heap) (k : Nat) (x : Str) (ps : List Str) (dvs : List V) (sp : Sp) : Prop where
  ex : ∃ (f : Addr) (fd : FuncData) (ds : List Value), mg x = some (.ref f) ∧ PySem.W.keepIn K (.ref f) = true ∧ Binds K fd ps ds ∧ Vals dvs ds ∧ FnOk P w K mg base CX0 k f fd ps sp
structure OwnK (P : Program) (w : World) (K : PySem.W.Frag) (mg : Str → Option Value) (base : Heap) (k : Nat) (x : Str) (ps : List Str) (n : Nat) (ks : List Str) (gV : List V → List V → List V) (sp : Sp) : Prop where
  ex : ∃ (f : Addr) (fd : FuncData) (g : List Value → List Value → List Value), mg x = some (.ref f) ∧ PySem.W.keepIn K (.ref f) = true ∧ KBn K fd ps n ks g gV ∧ FnOk P w K mg base CX0 k f fd ps sp
section
variable {X : Cx} {k n : Nat} {x : Str} {ps ks : List Str} {dvs : List V} {gV : List V → List V → List V} {sp : Sp} {e : Expr} {es : List Expr} {t tk : TA} {p pos : Pos} {kws : List Keyword}
theorem pe_ownD (C : OwnD X.prog X.w X.K X.mg X.base k x ps dvs sp) (hr : Room k X.A) (hg : Gl X x) (ha : PA X (e :: es) t) (hdb : (x == ("__debug__" : Str)) = false := by decide)
    (he : starEach (e :: es) X.env = (false, eval e X.env) :: starEach es X.env := by rfl) (hpl : (backTo pos (starEach es X.env)).any (·.1) = false := by rfl) : PE X (.Call (.Name x p) (e :: es) [] pos) (tCall sp dvs E0 t) := by
  obtain ⟨f, fd, ds, h1, h2, h3, h4, h5⟩ := C.ex
  exact pe_call h5 hr hg h1 h2 h3 h4 pass0 ha hdb he hpl
theorem pe_ownK (C : OwnK X.prog X.w X.K X.mg X.base k x ps n ks gV sp) (hr : Room k X.A) (hg : Gl X x) (ha : PA X (e :: es) t) (hkw : PK X kws tk)
    (hall : (backToKw pos (keywordEach kws X.env)).all (·.1.isSome) = true := by rfl) (hks : (backToKw pos (keywordEach kws X.env)).filterMap (·.1) = ks := by rfl)
    (hdb : (x == ("__debug__" : Str)) = false := by decide) (he : starEach (e :: es) X.env = (false, eval e X.env) :: starEach es X.env := by rfl)
    (hpl : ((backTo pos (starEach (e :: es) X.env)).any (·.1) || (backToKw pos (keywordEach kws X.env)).any (·.1.isNone)) = false := by rfl) :
    PE X (.Call (.Name x p) (e :: es) kws pos) (tCallN n ks.length sp gV E0 t tk) := by
  obtain ⟨f, fd, g, h1, h2, h3, h4⟩ := C.ex
  exact pe_callN h4 hr hg h1 h2 h3 pass0 ha hkw hall hks hdb he hpl
/-- no positional value -/
theorem pe_ownK0 (C : OwnK X.prog X.w X.K X.mg X.base k x ps 0 ks gV sp) (hr : Room k X.A) (hg : Gl X x) (hkw : PK X kws tk)
    (hall : (backToKw pos (keywordEach kws X.env)).all (·.1.isSome) = true := by rfl) (hks : (backToKw pos (keywordEach kws X.env)).filterMap (·.1) = ks := by rfl)
    (hdb : (x == ("__debug__" : Str)) = false := by decide)
    (hpl : ((backTo pos (starEach [] X.env)).any (·.1) || (backToKw pos (keywordEach kws X.env)).any (·.1.isNone)) = false := by rfl) :
    PE X (.Call (.Name x p) [] kws pos) (tCallN 0 ks.length sp gV E0 tNil tk) := by
  obtain ⟨f, fd, g, h1, h2, h3, h4⟩ := C.ex
  refine ⟨fun pins s σ H Q I h => ?_⟩
  refine wpAny_Call_Name_kw (ld_glob I hg h1 ?_ hdb)
  refine PySem.W.callWith_KW0 (h₀ := X.base) I.ok.mod.kin h2 hall ?_ hpl
  refine thn (hkw.run pos pins s σ H _ I h) fun ws s2 ⟨zs, H2, I2, rz, l1, l2, q2⟩ => ⟨I2.kIn, ?_⟩
  rw [hks]
  exact run_fnN h4 hr h3 pass0 I2 .nil rz l1 l2 q2
end
end Fv


namespace Fv
open PySem PySem.Spec PyProof.Rows L2
/-! ### what is tracked; values that are plain data apart from M -/
def Trk (M : List Addr) (H : Hp) : Prop := ∀ b ∈ M, ∃ o, H b = some o
theorem Trk.same {M : List Addr} {H H' : Hp} (h : Trk M H) (s : Same H H') : Trk M H' := fun b hb => by
  obtain ⟨o, e⟩ := h b hb
  exact ⟨o, s _ _ e⟩
theorem Trk.smx {M N : List Addr} {H H' : Hp} (h : Trk M H) (s : SmX N H H') (hN : Trk N H') : Trk M H' := fun b hb => by
  by_cases m : b ∈ N
  · exact hN b m
  · obtain ⟨o, e⟩ := h b hb
    exact ⟨o, s _ _ m e⟩
theorem Trk.ne {M : List Addr} {H : Hp} (h : Trk M H) {p : Addr} (np : H p = none) : p ∉ M := fun hp => by
  obtain ⟨o, e⟩ := h p hp
  rw [np] at e
  cases e
theorem hid_new {M : List Addr} {H : Hp} {p : Addr} {o : HO} (np : H p = none) : Same (hide M H) (hide M (upd H p o)) := (SmX.new np).hid
theorem hid_at {M : List Addr} {H : Hp} (h : Trk M H) {p : Addr} {o : HO} (np : H p = none) : hide M (upd H p o) p = some o := by
  rw [hide_ne (h.ne np), upd_same]
def GV (K : PySem.W.Frag) (n : Nat) (M : List Addr) (H : Hp) (v : V) : Prop := ∃ d, Dp K (hide M H) v d ∧ gd n d = true
theorem GV.same {K : PySem.W.Frag} {n : Nat} {M : List Addr} {H H' : Hp} {v : V} (g : GV K n M H v) (s : Same H H') : GV K n M H' v := by
  obtain ⟨d, h1, h2⟩ := g
  exact ⟨d, dp_same (SmX.of_same s).hid d v h1, h2⟩
theorem GV.up {K : PySem.W.Frag} {n m : Nat} {M : List Addr} {H : Hp} {v : V} (g : GV K n M H v) (h : n ≤ m) : GV K m M H v := by
  obtain ⟨d, h1, h2⟩ := g
  exact ⟨d, h1, gd_le h2 h⟩
theorem GV.str {K : PySem.W.Frag} {n : Nat} {M : List Addr} {H : Hp} {x : Str} (h : gd 0 (.str x) = true) : GV K n M H (.str x) := ⟨_, .str x, gd_le h (Nat.zero_le _)⟩
theorem GV.int {K : PySem.W.Frag} {n : Nat} {M : List Addr} {H : Hp} (i : Int) : GV K n M H (.int i) := ⟨_, .int i, gd_le (n := 0) rfl (Nat.zero_le _)⟩
theorem GV.bl {K : PySem.W.Frag} {n : Nat} {M : List Addr} {H : Hp} (b : Bool) : GV K n M H (.bl b) := ⟨_, .bl b, gd_le (n := 0) rfl (Nat.zero_le _)⟩
theorem GV.non {K : PySem.W.Frag} {n : Nat} {M : List Addr} {H : Hp} : GV K n M H .non := ⟨_, .non, gd_le (n := 0) rfl (Nat.zero_le _)⟩
theorem gv_all {K : PySem.W.Frag} {n : Nat} {M : List Addr} {H : Hp} : ∀ {xs : List V}, (∀ x ∈ xs, GV K n M H x) → ∃ ds, DpAll K (hide M H) xs ds ∧ ∀ d ∈ ds, gd n d = true
  | [], _ => ⟨[], .nil, fun d h => nomatch h⟩
  | x :: xs, h => by
    obtain ⟨d, h1, h2⟩ := h x (List.mem_cons_self ..)
    obtain ⟨ds, h3, h4⟩ := gv_all (xs := xs) fun y hy => h y (List.mem_cons_of_mem _ hy)
    refine ⟨d :: ds, .cons h1 h3, fun e he => ?_⟩
    rcases List.mem_cons.mp he with z | z
    · rw [z]; exact h2
    · exact h4 e z
theorem GV.tup {K : PySem.W.Frag} {n : Nat} {M : List Addr} {H : Hp} {p : Addr} {xs : List V} (hM : Trk M H) (np : H p = none) (h : ∀ x ∈ xs, GV K n M H x) (hl : xs.length ≤ 1000 := by decide) : GV K (n + 1) M (upd H p (.tup xs)) (.ref p) := by
  obtain ⟨ds, h1, h2⟩ := gv_all h
  exact ⟨.tuple ds, .tup (SqT.of (hid_at hM np)) (dpAll_same (hid_new np) _ _ h1), gd_tup h2 (by rw [← dpAll_len h1]; exact hl)⟩
theorem GV.lst {K : PySem.W.Frag} {n : Nat} {M : List Addr} {H : Hp} {p : Addr} {xs : List V} (hM : Trk M H) (np : H p = none) (h : ∀ x ∈ xs, GV K n M H x) (hl : xs.length ≤ 1000 := by decide) : GV K (n + 1) M (upd H p (.lst xs)) (.ref p) := by
  obtain ⟨ds, h1, h2⟩ := gv_all h
  exact ⟨.list ds, .lst (SqL.of (hid_at hM np)) (dpAll_same (hid_new np) _ _ h1), gd_lst h2 (by rw [← dpAll_len h1]; exact hl)⟩
theorem Src.trk {H : Hp} {a L : Addr} {ns : List Int} (h : Src H a L ns) : Trk [a] H := fun b hb => by
  obtain ⟨_, _, _, _, e, _⟩ := h
  rw [List.mem_singleton.mp hb]
  exact ⟨_, e⟩
theorem Src.ne {H : Hp} {a L p : Addr} {ns : List Int} (h : Src H a L ns) (np : H p = none) : a ≠ p := by
  obtain ⟨_, _, _, _, e, _⟩ := h
  exact ne_of_none e np
theorem Src.put {H : Hp} {a L p : Addr} {ns : List Int} {o : HO} (h : Src H a L ns) (pa : p ≠ a) (pL : p ≠ L) : Src (upd H p o) a L ns := by
  obtain ⟨i, q, st, c, h1, h2, h3⟩ := h
  exact ⟨i, q, st, c, by rw [upd_ne pa.symm]; exact h1, by rw [upd_ne pL.symm]; exact h2, h3⟩
theorem Src.new {H : Hp} {a L p : Addr} {ns : List Int} {o : HO} (h : Src H a L ns) (np : H p = none) : Src (upd H p o) a L ns := h.same (same_upd np)
/-- the term that is drawn: its data d, its depth at most n, its size by the room that was used -/
def spTerm (K : PySem.W.Frag) (n : Nat) : Sp := fun vs H Q _ => ∃ (a L sg r : Addr) (ns : List Int) (deep m : Int) (ys : List V) (M : List Addr), vs = [.ref a, .ref sg, .int deep, .ref r] ∧ Src H a L ns ∧
  H sg = some (.lst ys) ∧ 0 < ys.length ∧ ys.length ≤ 8 ∧ (∀ y ∈ ys, lett y) ∧ H r = some (.lst [.int m]) ∧ sg ≠ a ∧ sg ≠ r ∧ r ≠ a ∧ r ≠ L ∧ 0 ≤ m ∧ m ≤ 1000 ∧ 1 ≤ deep ∧ deep ≤ n ∧ a ∈ M ∧ r ∈ M ∧ Trk M H ∧
  ∀ (H' : Hp) (v : V) (d : PyData) (m' : Int), Dp K (hide M H') v d → lmeas deep.toNat d = m - m' + 1 → 0 ≤ m' → m' ≤ m → gd deep.toNat d = true → Src H' a L ns → H' r = some (.lst [.int m']) → SmX [a, r] H H' → Q v H'
def spAnyTerm (K : PySem.W.Frag) : Sp := fun vs H Q _ => ∃ (a L : Addr) (ns : List Int) (M : List Addr), vs = [.ref a] ∧ Src H a L ns ∧ a ∈ M ∧ Trk M H ∧
  ∀ (H' : Hp) (v : V) (d : PyData) (n : Nat), Dp K (hide M H') v d → 1 ≤ n → n ≤ 5 → 1 ≤ lmeas n d → lmeas n d ≤ 24 → gd n d = true → Src H' a L ns → SmX [a] H H' → Q v H'
def nestD : Nat → PyData
  | 0 => .str "a"
  | n + 1 => .tuple [.str (if n % 2 = 0 then "&" else "|"), nestD n, .str "b"]
def spNest (K : PySem.W.Frag) : Sp := fun vs H Q _ => ∃ (n : Nat) (M : List Addr), vs = [.int (n : Nat)] ∧ n ≤ 12 ∧ Trk M H ∧
  ∀ (H' : Hp) (v : V), Dp K (hide M H') v (nestD n) → Same H H' → Q v H'
def spOdd (K : PySem.W.Frag) : Sp := fun vs H Q _ => ∃ (a L : Addr) (ns : List Int) (v : V) (M : List Addr), vs = [.ref a, v] ∧ Src H a L ns ∧ GV K 5 M H v ∧ a ∈ M ∧ Trk M H ∧
  ∀ (H' : Hp) (v' : V), GV K 12 M H' v' → Src H' a L ns → SmX [a] H H' → Q v' H'
theorem isL_lett {x : Str} (h : x ∈ (["a", "b", "c", "d", "e", "f", "g", "h"] : List Str)) : isL x = true ∧ gd 0 (.str x) = true := by
  have q : ∀ x ∈ (["a", "b", "c", "d", "e", "f", "g", "h"] : List Str), isL x = true ∧ gd 0 (.str x) = true := by decide +kernel
  exact q x h
theorem nest_gd : ∀ n : Nat, gd n (nestD n) = true
  | 0 => by decide +kernel
  | n + 1 => gd_tup (fun d hd => by
      rcases List.mem_cons.mp hd with e | hd
      · rw [e]
        refine gd_le (n := 0) ?_ (Nat.zero_le _)
        split <;> decide +kernel
      · rcases List.mem_cons.mp hd with e | hd
        · rw [e]; exact nest_gd n
        · rw [List.mem_singleton.mp hd]
          exact gd_le (n := 0) (by decide +kernel) (Nat.zero_le _)) (by show 3 ≤ 1000; decide)
/-- a term made of parts -/
theorem lmeas_tup {n : Nat} {op : Str} {ds : List PyData} {t : Int} (ho : isOp (.str op) = true) (h2 : 2 ≤ ds.length) (h1 : ∀ d ∈ ds, 1 ≤ lmeas n d) (hs : (ds.map (lmeas n)).sum = t) : lmeas (n + 1) (.tuple (.str op :: ds)) = t := by
  have e : lmeas (n + 1) (.tuple (.str op :: ds)) = if (decide (2 ≤ ds.length) && isOp (.str op)) = true then (if (0 : Int) ∈ ds.map (lmeas n) then 0 else (ds.map (lmeas n)).sum) else 0 := by
    show (if false = true then _ else _) = _
    rw [if_neg (fun z => by cases z)]
    rfl
  rw [e, ho, decide_eq_true h2, Bool.and_self, if_pos rfl, if_neg, hs]
  intro z
  obtain ⟨d, hd, e⟩ := List.mem_map.mp z
  have := h1 d hd
  omega
end Fv


namespace Fv
open PySem PySem.Spec PyProof.Rows L2 FvX
/-! ### own defs that may raise -/
structure OwnR (P : Program) (w : World) (K : PySem.W.Frag) (mg : Str → Option Value) (base : Heap) (k : Nat) (x : Str) (sp : Sp) : Prop where
  ex : ∃ f : Addr, mg x = some (.ref f) ∧ PySem.W.keepIn K (.ref f) = true ∧ FnR P w K mg base (L2.CX P w) k f sp
section
variable {X : Cx} {k : Nat} {x : Str} {sp : Sp} {E : XK} {e : Expr} {es : List Expr} {t : TA} {p pos : Pos}
theorem pe_ownR (C : OwnR X.prog X.w X.K X.mg X.base k x sp) (hr : Room k X.A) (hg : Gl X x) (hx : Passes (L2.CX X.prog X.w) X E) (ha : PA X (e :: es) t) (hdb : (x == ("__debug__" : Str)) = false := by decide)
    (he : starEach (e :: es) X.env = (false, eval e X.env) :: starEach es X.env := by rfl) (hpl : (backTo pos (starEach es X.env)).any (·.1) = false := by rfl) : PE X (.Call (.Name x p) (e :: es) [] pos) (fun σ H Q => t σ H fun vs H1 => sp vs H1 Q E) := by
  obtain ⟨f, h1, h2, h3⟩ := C.ex
  refine ⟨fun pins s σ H Q I h => wpAny_Call_Name_kw (ld_glob I hg h1 (PySem.W.callWith_K (h₀ := X.base) I.ok.mod.kin h2 (thn (ha.run pos pins s σ H _ I h) fun us s1 z => ?_) he hpl) hdb)⟩
  obtain ⟨vs, H1, I1, r, q⟩ := z
  exact ⟨I1.kIn, wpAny_call (run_fnR h3 hr hx I1 r q)⟩
theorem pe_ownR0 (C : OwnR X.prog X.w X.K X.mg X.base k x sp) (hr : Room k X.A) (hg : Gl X x) (hx : Passes (L2.CX X.prog X.w) X E) (hdb : (x == ("__debug__" : Str)) = false := by decide) : PE X (.Call (.Name x p) [] [] pos) (fun σ H Q => sp [] H Q E) := by
  obtain ⟨f, h1, h2, h3⟩ := C.ex
  exact ⟨fun pins s σ H Q I h => wpAny_Call_Name_kw (ld_glob I hg h1 (PySem.W.callWith_K0 I.kIn h2 (wpAny_call (run_fnR h3 hr hx I .nil h))) hdb)⟩
end
theorem passX {P : Program} {w : World} {K : PySem.W.Frag} {mg : Str → Option Value} {base : Heap} {N : List Str} {qual : Str} {scope : Scope} {f : Addr} {cd : Value} {A : Around} {outer : List Env} {s : Shared} {H : Hp} {E : XK} :
    Passes (L2.CX P w) (cxOf (L2.CX P w) P w K mg base N qual scope f cd A outer s H E) E := passes_call (takes_of rfl rfl rfl rfl) (fun _ _ _ _ h => h)
theorem passL {X : Cx} {A : Around} {outer : List Env} {s : Shared} {H : Hp} {E : XK} {sc : Scope} {lf lc : Addr} : Passes (L2.CX X.prog X.w) (LamX.lamCx X A outer s H E sc lf lc) E := passes_call (takes_of rfl rfl rfl rfl) (fun _ _ _ _ h => h)
/-- the error of the class at CT leaves, its code told -/
def errAt (CT : Addr) (cod : Str) (H : Hp) (E : XK) : Prop := ∀ (H' : Hp) (dd : Addr), Same H H' → H' dd = some (.xd [("code", .str cod)]) → E (.ref CT) (some dd) H'
theorem errAt.mono {CT : Addr} {cod : Str} {H H1 : Hp} {E : XK} (h : errAt CT cod H E) (s : Same H H1) : errAt CT cod H1 E := fun H' dd s' e => h H' dd (s.trans s') e
/-- a term by is_term's default bounds -/
def tmB (d : PyData) : Bool := (meas 5 d 24).isSome
def spChecked (K : PySem.W.Frag) (CT : Addr) : Sp := fun vs H Q E => ∃ (v : V) (d : PyData), vs = [v] ∧ Dp K H v d ∧ gd 20 d = true ∧ (tmB d = true → ∀ H', Same H H' → Q v H') ∧ (tmB d = false → errAt CT "InvalidTerm" H E)
/-- the term of an operator and its parts, or the only part -/
def madeD (op : Str) : List PyData → PyData
  | [d] => d
  | ds => .tuple (.str op :: ds)
def spJoined (K : PySem.W.Frag) (CT : Addr) : Sp := fun vs H Q E => ∃ (op : Str) (tp : Addr) (xs : List V) (ds : List PyData), vs = [.str op, .ref tp] ∧ SqT K H tp xs ∧ DpAll K H xs ds ∧ xs.length ≤ 100 ∧ gd 0 (.str op) = true ∧ (∀ d ∈ ds, gd 15 d = true) ∧
  (tmB (madeD op ds) = true → ∀ H' v, Same H H' → Dp K H' v (madeD op ds) → Q v H') ∧ (tmB (madeD op ds) = false → errAt CT "InvalidTerm" H E)
def spLower (K : PySem.W.Frag) (CT : Addr) (op : Str) : Sp := fun vs H Q E => ∃ (tp : Addr) (xs : List V) (ds : List PyData), vs = [.ref tp] ∧ SqT K H tp xs ∧ DpAll K H xs ds ∧ xs.length ≤ 100 ∧ (∀ d ∈ ds, gd 15 d = true) ∧
  (tmB (madeD op ds) = true → ∀ H' v, Same H H' → Dp K H' v (madeD op ds) → Q v H') ∧ (tmB (madeD op ds) = false → errAt CT "InvalidTerm" H E)
def spLowerR (K : PySem.W.Frag) (CT : Addr) (op : Str) : Sp := fun xs H Q E => ∃ ds : List PyData, DpAll K H xs ds ∧ xs.length ≤ 100 ∧ (∀ d ∈ ds, gd 15 d = true) ∧
  (tmB (madeD op ds) = true → ∀ H' v, Same H H' → Dp K H' v (madeD op ds) → Q v H') ∧ (tmB (madeD op ds) = false → errAt CT "InvalidTerm" H E)
theorem madeD_gd {op : Str} {ds : List PyData} (ho : gd 0 (.str op) = true) (h : ∀ d ∈ ds, gd 15 d = true) (hl : ds.length ≤ 100) : gd 20 (madeD op ds) = true := by
  have z : gd 16 (.tuple (.str op :: ds)) = true := gd_tup (fun d hd => by
    rcases List.mem_cons.mp hd with e | e
    · rw [e]; exact gd_le ho (by decide)
    · exact h d e) (by rw [List.length_cons]; omega)
  unfold madeD
  split
  · rename_i d
    exact gd_le (h d (List.mem_singleton.mpr rfl)) (by decide)
  · exact gd_le z (by decide)
theorem madeD_ne {op : Str} {ds : List PyData} (h : ds.length ≠ 1) : madeD op ds = .tuple (.str op :: ds) := by
  match ds, h with
  | [], _ => rfl
  | [d], h => exact absurd rfl h
  | a :: b :: r, _ => rfl
end Fv


namespace Fv
open PySem PySem.Spec PyProof.Rows L2 FvX
theorem lmeas_up : ∀ (n : Nat) (d : PyData), 1 ≤ lmeas n d → lmeas (n + 1) d = lmeas n d
  | 0, d, h => by simp only [lmeas] at h; omega
  | n + 1, d, h => by
    by_cases a : isLd d = true
    · unfold lmeas
      rw [if_pos a, if_pos a]
    · by_cases b : isCd d = true
      · have e : ∀ m, lmeas (m + 1) d = if (0 : Int) ∈ (parts d).map (lmeas m) then 0 else ((parts d).map (lmeas m)).sum := fun m => by
          show (if isLd d = true then (1 : Int) else if isCd d = true then _ else 0) = _
          rw [if_neg a, if_pos b]
        rw [e] at h
        by_cases c : (0 : Int) ∈ (parts d).map (lmeas n)
        · rw [if_pos c] at h; omega
        · have em : (parts d).map (lmeas (n + 1)) = (parts d).map (lmeas n) := List.map_congr_left fun x hx => lmeas_up n x (by
            have z := lmeas_nonneg n x
            rcases Int.lt_or_eq_of_le z with z | z
            · omega
            · exact absurd (List.mem_map.mpr ⟨x, hx, z.symm⟩) c)
          rw [e (n + 1), e n, em]
      · have e : ∀ m, lmeas (m + 1) d = 0 := fun m => by
          show (if isLd d = true then (1 : Int) else if isCd d = true then _ else 0) = _
          rw [if_neg a, if_neg b]
        rw [e] at h; omega
theorem mem_le_sum : ∀ {l : List Int} {x : Int}, (∀ y ∈ l, 0 ≤ y) → x ∈ l → x ≤ l.sum
  | y :: l, x, h, hx => by
    rw [List.sum_cons]
    have h0 := sum_nonneg (l := l) fun z hz => h z (List.mem_cons_of_mem _ hz)
    have h1 := h y (List.mem_cons_self ..)
    rcases List.mem_cons.mp hx with e | e
    · omega
    · have := mem_le_sum (l := l) (fun z hz => h z (List.mem_cons_of_mem _ hz)) e
      omega
theorem tmB_iff (d : PyData) : tmB d = true ↔ 1 ≤ lmeas 5 d ∧ lmeas 5 d ≤ 24 := by
  unfold tmB
  rw [meas_some, Bool.and_eq_true, decide_eq_true_eq, decide_eq_true_eq]
theorem tmB_fits (d : PyData) : (decide (1 ≤ lmeas 5 d) && decide (lmeas 5 d ≤ 24)) = tmB d := (meas_some 5 d 24).symm
/-- what makes a term is made of terms -/
theorem made_parts {op : Str} {ds : List PyData} (h : tmB (madeD op ds) = true) : ds ≠ [] ∧ ∀ d ∈ ds, tmB d = true := by
  match ds, h with
  | [], h => cases (show false = true from h)
  | [d], h => exact ⟨fun z => (by cases z), fun x hx => by rw [List.mem_singleton.mp hx]; exact h⟩
  | a :: b :: r, h =>
    refine ⟨fun z => (by cases z), fun x hx => ?_⟩
    obtain ⟨h1, h2⟩ := (tmB_iff _).mp h
    have e : lmeas 5 (madeD op (a :: b :: r)) = if isCd (.tuple (.str op :: a :: b :: r)) = true then (if (0 : Int) ∈ (a :: b :: r).map (lmeas 4) then 0 else ((a :: b :: r).map (lmeas 4)).sum) else 0 := rfl
    rw [e] at h1 h2
    by_cases c : isCd (.tuple (.str op :: a :: b :: r)) = true
    · rw [if_pos c] at h1 h2
      by_cases c0 : (0 : Int) ∈ (a :: b :: r).map (lmeas 4)
      · rw [if_pos c0] at h1; omega
      · rw [if_neg c0] at h1 h2
        have z := lmeas_nonneg 4 x
        have x1 : 1 ≤ lmeas 4 x := by
          rcases Int.lt_or_eq_of_le z with z | z
          · omega
          · exact absurd (List.mem_map.mpr ⟨x, hx, z.symm⟩) c0
        have xs : lmeas 4 x ≤ ((a :: b :: r).map (lmeas 4)).sum := mem_le_sum (fun y hy => by
          obtain ⟨d', _, rfl⟩ := List.mem_map.mp hy
          exact lmeas_nonneg 4 d') (List.mem_map.mpr ⟨x, hx, rfl⟩)
        exact (tmB_iff x).mpr (by rw [lmeas_up 4 x x1]; omega)
    · rw [if_neg c] at h1; omega
def badD : PyData := .tuple [.none, .str "InvalidTerm"]
def outD (op : Str) (ds : List PyData) : PyData := if tmB (madeD op ds) = true then .tuple [madeD op ds, .str ""] else badD
def opOf (low : Bool) : Str := if low = true then "&" else "|"
def spMade (K : PySem.W.Frag) (CT : Addr) : Sp := fun vs H Q E => ∃ (pl : Addr) (xs : List V) (ds : List PyData) (low : Bool), vs = [.ref pl, .bl low] ∧ H pl = some (.lst xs) ∧ DpAll K H xs ds ∧ xs.length ≤ 4 ∧ (∀ d ∈ ds, gd 13 d = true) ∧
  (tmB (madeD (opOf low) ds) = true → ∀ H' v, Same H H' → Dp K H' v (madeD (opOf low) ds) → Q v H') ∧ (tmB (madeD (opOf low) ds) = false → errAt CT "InvalidTerm" H E)
def spDue (K : PySem.W.Frag) : Sp := fun vs H Q _ => ∃ (pl : Addr) (xs : List V) (ds : List PyData) (low : Bool), vs = [.ref pl, .bl low] ∧ H pl = some (.lst xs) ∧ DpAll K H xs ds ∧ xs.length ≤ 4 ∧ (∀ d ∈ ds, gd 13 d = true) ∧
  ∀ H' v, Same H H' → Dp K H' v (outD (opOf low) ds) → Q v H'
theorem eqv_nil (ds : List PyData) : PyData.eqv (.list ds) (.list []) = decide (ds = []) := by
  cases ds with
  | nil => rfl
  | cons d ds => simp [PyData.eqv, PyData.eqvAll]
/-- what _law_call makes of the lambda's reading -/
def TCall (K : PySem.W.Frag) (CF : Addr) : (XK → Hp → VK → Prop) → Hp → VK → Prop := fun tl H Q => ∀ (R : VK) (E : XK),
  (∀ v H', (∀ p, H' p = none → Q (.ref p) (upd H' p (.tup [v, .str ""]))) → R v H') →
  (∀ (C dd : Addr) (H' : Hp) (fs : List (Str × V)) (v : V), PySem.W.exmOne K (.ref C) (.ref CF) = some true → XfC K C → PySem.W.findIn K (.ref C) "code" = some none → H' dd = some (.xd fs) → fs.lookup ("code" : Str) = some v →
      (∀ p, H' p = none → Q (.ref p) (upd H' p (.tup [.non, v]))) → E (.ref C) (some dd) H') → tl E H R
end Fv


namespace Fv
open PySem PySem.Spec PyProof.Rows L2 FvX TL
/-! ### the text of a term -/
def opS : PyData → Str
  | .str s => s
  | _ => ""
mutual
def txt : PyData → Str
  | .str s => s
  | .tuple (o :: ds) => Txt.join (" " ++ opS o ++ " ") (ptxAll ds)
  | _ => ""
def ptxAll : List PyData → List Str
  | [] => []
  | d :: ds => (if isLd d = true then txt d else "(" ++ txt d ++ ")") :: ptxAll ds
end
def ptx (d : PyData) : Str := if isLd d = true then txt d else "(" ++ txt d ++ ")"
theorem ptxAll_map : ∀ ds : List PyData, ptxAll ds = ds.map ptx
  | [] => by simp [ptxAll]
  | d :: ds => by rw [List.map_cons, ← ptxAll_map ds]; simp only [ptxAll, ptx]
theorem txt_str (s : Str) : txt (.str s) = s := by simp only [txt]
theorem txt_tup (o : Str) (ds : List PyData) : txt (.tuple (.str o :: ds)) = Txt.join (" " ++ o ++ " ") (ds.map ptx) := by
  simp only [txt, ptxAll_map, opS]
theorem isOp_inv {o : PyData} (h : isOp o = true) : o = .str "&" ∨ o = .str "|" := by
  unfold isOp at h
  simp only [List.any_cons, List.any_nil, Bool.or_false, Bool.or_eq_true] at h
  cases o with
  | str x =>
    rcases h with h | h <;> simp [PyData.eqv] at h
    · exact .inl (by rw [h])
    · exact .inr (by rw [h])
  | _ => rcases h with h | h <;> simp [PyData.eqv] at h
theorem lmeas_inv {n : Nat} {d : PyData} (h : 1 ≤ lmeas (n + 1) d) : (∃ x, d = .str x ∧ isL x = true) ∨
    (∃ o ds, d = .tuple (.str o :: ds) ∧ isLd d = false ∧ (o = "&" ∨ o = "|") ∧ 2 ≤ ds.length ∧ (∀ x ∈ ds, 1 ≤ lmeas n x) ∧ lmeas (n + 1) d = (ds.map (lmeas n)).sum) := by
  by_cases a : isLd d = true
  · left
    cases d with
    | str x => exact ⟨x, rfl, a⟩
    | _ => cases a
  · right
    have e : lmeas (n + 1) d = if isCd d = true then (if (0 : Int) ∈ (parts d).map (lmeas n) then 0 else ((parts d).map (lmeas n)).sum) else 0 := by
      show (if isLd d = true then (1 : Int) else _) = _
      rw [if_neg a]
    rw [e] at h
    by_cases b : isCd d = true
    · rw [if_pos b] at h
      by_cases c : (0 : Int) ∈ (parts d).map (lmeas n)
      · rw [if_pos c] at h; omega
      · cases d with
        | tuple ds =>
          cases ds with
          | nil => cases b
          | cons o ds =>
            have b' : (decide (2 ≤ ds.length) && isOp o) = true := b
            rw [Bool.and_eq_true, decide_eq_true_eq] at b'
            have all1 : ∀ x ∈ ds, 1 ≤ lmeas n x := fun x hx => by
              have z := lmeas_nonneg n x
              rcases Int.lt_or_eq_of_le z with z | z
              · omega
              · exact absurd (List.mem_map.mpr ⟨x, hx, z.symm⟩) c
            have e' : lmeas (n + 1) (.tuple (o :: ds)) = (ds.map (lmeas n)).sum := by
              rw [e, if_pos b, if_neg c]; rfl
            rcases isOp_inv b'.2 with ho | ho <;> subst ho
            · exact ⟨_, ds, rfl, rfl, .inl rfl, b'.1, all1, e'⟩
            · exact ⟨_, ds, rfl, rfl, .inr rfl, b'.1, all1, e'⟩
        | _ => cases b
    · rw [if_neg b] at h; omega
theorem isL_len {x : Str} (h : isL x = true) : x.length = 1 := by
  unfold isL at h
  rw [Bool.and_eq_true, decide_eq_true_eq] at h
  have := h.1
  injection this with e
  omega
theorem len_app (x y : Str) : (x ++ y).length = x.length + y.length := by
  rw [len_tl, tl_append, List.length_append, ← len_tl, ← len_tl]
theorem joinL_len (S : List Nat) : ∀ (p : List Nat) (ps : List (List Nat)), (joinL S (p :: ps)).length = p.length + (ps.map (·.length)).sum + S.length * ps.length
  | p, [] => by simp [joinL]
  | p, q :: ps => by
    have e : joinL S (p :: q :: ps) = p ++ (S ++ joinL S (q :: ps)) := rfl
    rw [e, List.length_append, List.length_append, joinL_len S q ps, List.map_cons, List.sum_cons, List.length_cons, Nat.mul_add]
    omega
theorem sum_le {α : Type} {f g : α → Int} : ∀ {l : List α}, (∀ x ∈ l, f x ≤ g x) → (l.map f).sum ≤ (l.map g).sum
  | [], _ => by simp
  | x :: l, h => by
    rw [List.map_cons, List.map_cons, List.sum_cons, List.sum_cons]
    have := h x (List.mem_cons_self ..)
    have := sum_le (l := l) fun y hy => h y (List.mem_cons_of_mem _ hy)
    omega
theorem sum_lin {α : Type} {f : α → Int} : ∀ {l : List α}, (l.map fun x => 8 * f x - 5).sum = 8 * (l.map f).sum - 5 * l.length
  | [] => by simp
  | x :: l => by
    rw [List.map_cons, List.map_cons, List.sum_cons, List.sum_cons, sum_lin (l := l), List.length_cons]
    omega
theorem sum_cast {α : Type} {f : α → Nat} : ∀ {l : List α}, (((l.map f).sum : Nat) : Int) = (l.map fun x => ((f x : Nat) : Int)).sum
  | [] => by simp
  | x :: l => by
    rw [List.map_cons, List.map_cons, List.sum_cons, List.sum_cons, ← sum_cast (l := l)]
    omega
theorem sep_len {o : Str} (h : o = "&" ∨ o = "|") : ((" " : Str) ++ o ++ " ").length = 3 := by
  rcases h with h | h <;> subst h <;> decide +kernel
theorem par_len (x : Str) : (("(" : Str) ++ x ++ ")").length = x.length + 2 := by
  rw [len_app, len_app]
  have e1 : ("(" : Str).length = 1 := by decide +kernel
  have e2 : (")" : Str).length = 1 := by decide +kernel
  omega
theorem txt_len : ∀ (n : Nat) (d : PyData), 1 ≤ lmeas n d → ((txt d).length : Int) + 7 ≤ 8 * lmeas n d
  | 0, d, h => by simp only [lmeas] at h; omega
  | n + 1, d, h => by
    rcases lmeas_inv h with ⟨x, rfl, hx⟩ | ⟨o, ds, rfl, _, ho, h2, all1, e⟩
    · rw [txt_str, isL_len hx]
      omega
    · rw [txt_tup, join_eq, len_tl, tl_join, e]
      have hp : (((((ds.map ptx).map tl).map (·.length)).sum : Nat) : Int) ≤ 8 * (ds.map (lmeas n)).sum - 5 * ds.length := by
        rw [← sum_lin, List.map_map, List.map_map, sum_cast]
        refine sum_le fun x hx => ?_
        have := txt_len n x (all1 x hx)
        show (((tl (ptx x)).length : Nat) : Int) ≤ _
        rw [← len_tl]
        unfold ptx
        split
        · omega
        · rw [par_len]; omega
      cases ds with
      | nil => simp at h2
      | cons x r =>
        rw [List.map_cons, List.map_cons] at hp ⊢
        rw [joinL_len, ← len_tl (" " ++ o ++ " "), sep_len ho, List.length_map, List.length_map]
        rw [List.map_cons, List.sum_cons] at hp
        rw [List.length_cons] at h2 hp
        omega
theorem ptx_len {n : Nat} {d : PyData} (h : 1 ≤ lmeas n d) : ((ptx d).length : Int) + 5 ≤ 8 * lmeas n d := by
  have := txt_len n d h
  unfold ptx
  split
  · omega
  · rw [par_len]; omega
def spText (K : PySem.W.Frag) (n : Nat) : Sp := fun vs H Q _ => ∃ (v : V) (d : PyData) (m : Nat), vs = [v] ∧ Dp K H v d ∧ gd 20 d = true ∧ m < n ∧ 1 ≤ lmeas m d ∧ lmeas m d ≤ 1000 ∧ ∀ H', Same H H' → Q (.str (txt d)) H'
def spPart (K : PySem.W.Frag) (n : Nat) : Sp := fun vs H Q _ => ∃ (v : V) (d : PyData) (m : Nat), vs = [v] ∧ Dp K H v d ∧ gd 20 d = true ∧ m < n ∧ 1 ≤ lmeas m d ∧ lmeas m d ≤ 1000 ∧ ∀ H', Same H H' → Q (.str (ptx d)) H'
end Fv


namespace Fv
open PySem PySem.Spec PyProof.Rows L2 TL
/-! ### texts in ascending order: one row for one set -/
def leT (a b : Str) : Prop := ltCps b.cps.toList a.cps.toList = false
theorem leT_iff {a b : Str} : leT a b ↔ ¬ b.cps.toList < a.cps.toList := by
  unfold leT
  rw [ltCps_eq, decide_eq_false_iff_not]
theorem leT_tr {a b c : Str} (h1 : leT a b) (h2 : leT b c) : leT a c := by
  rw [leT_iff] at h1 h2 ⊢
  exact List.not_lt.mpr (List.le_trans (List.not_lt.mp h1) (List.not_lt.mp h2))
theorem leT_anti {a b : Str} (h1 : leT a b) (h2 : leT b a) : a = b := by
  rw [leT_iff] at h1 h2
  exact ext_tl (List.le_antisymm (List.not_lt.mp h1) (List.not_lt.mp h2))
theorem rising_pw : ∀ (p : Str) (l : List Str), risingS p l = true → (p :: l).Pairwise leT
  | p, [], _ => List.pairwise_singleton _ _
  | p, x :: r, h => by
    have h' : (!ltCps x.cps.toList p.cps.toList && risingS x r) = true := h
    rw [Bool.and_eq_true, Bool.not_eq_true'] at h'
    have ih := rising_pw x r h'.2
    refine List.pairwise_cons.mpr ⟨fun y hy => ?_, ih⟩
    rcases List.mem_cons.mp hy with e | e
    · rw [e]; exact h'.1
    · exact leT_tr h'.1 ((List.pairwise_cons.mp ih).1 y e)
theorem sorted_pw : ∀ (l : List Str), sortedS l = true → l.Pairwise leT
  | [], _ => List.Pairwise.nil
  | x :: r, h => rising_pw x r h
theorem sorted_uniq : ∀ (l m : List Str), l.Pairwise leT → m.Pairwise leT → l.Nodup → m.Nodup → (∀ y, y ∈ l ↔ y ∈ m) → l = m
  | [], [], _, _, _, _, _ => rfl
  | [], b :: m, _, _, _, _, h => absurd ((h b).mpr List.mem_cons_self) (by simp)
  | a :: l, [], _, _, _, _, h => absurd ((h a).mp List.mem_cons_self) (by simp)
  | a :: l, b :: m, pl, pm, nl, nm, h => by
    have pl' := List.pairwise_cons.mp pl
    have pm' := List.pairwise_cons.mp pm
    have nl' := List.nodup_cons.mp nl
    have nm' := List.nodup_cons.mp nm
    have e : a = b := by
      rcases List.mem_cons.mp ((h a).mp List.mem_cons_self) with z | z
      · exact z
      · rcases List.mem_cons.mp ((h b).mpr List.mem_cons_self) with y | y
        · exact y.symm
        · exact leT_anti (pl'.1 b y) (pm'.1 a z)
    subst e
    rw [sorted_uniq l m pl'.2 pm'.2 nl'.2 nm'.2 fun y => ?_]
    have hy := h y
    rw [List.mem_cons, List.mem_cons] at hy
    constructor
    · intro q
      rcases hy.mp (.inr q) with z | z
      · exact absurd q (by rw [z]; exact nl'.1)
      · exact z
    · intro q
      rcases hy.mpr (.inr q) with z | z
      · exact absurd q (by rw [z]; exact nm'.1)
      · exact z
end Fv


namespace FvG
open PySem PySem.Spec PyProof.Rows L2 Fv FvD
/-! ### a term and all below it, from the left -/
mutual
def pre : PyData → List PyData
  | .tuple l => .tuple l :: preT l
  | .none => [.none]
  | .bool b => [.bool b]
  | .int i => [.int i]
  | .str x => [.str x]
  | .list l => [.list l]
  | .dict l => [.dict l]
def preT : List PyData → List PyData
  | [] => []
  | o :: ds => if isCd (.tuple (o :: ds)) = true then preL ds else []
def preL : List PyData → List PyData
  | [] => []
  | d :: ds => pre d ++ preL ds
end
theorem preL_eq : ∀ ds : List PyData, preL ds = ds.flatMap pre
  | [] => by simp [preL]
  | d :: ds => by simp [preL, preL_eq ds]
theorem pre_eq (d : PyData) : pre d = d :: (if isCd d = true then (parts d).flatMap pre else []) := by
  cases d with
  | tuple l =>
    cases l with
    | nil => simp [pre, preT, isCd]
    | cons o ds =>
      simp only [pre, preT, parts]
      rw [preL_eq]
  | _ => simp [pre, isCd]
theorem pre_ne (d : PyData) : pre d ≠ [] := by rw [pre_eq]; exact fun h => nomatch h
theorem flat_len : ∀ ds : List PyData, ds.length ≤ (ds.flatMap pre).length
  | [] => by simp
  | d :: ds => by
    have := flat_len ds
    rw [List.flatMap_cons, List.length_append, List.length_cons, pre_eq, List.length_cons]
    omega
theorem flat_nil {ds : List PyData} (h : ds.flatMap pre = []) : ds = [] := by
  have := flat_len ds
  rw [h] at this
  cases ds with
  | nil => rfl
  | cons _ _ => simp at this
/-! ### data of tuples and texts stay while the tuples stay -/
structure Stay (H H' : Hp) : Prop where
  tup : ∀ b xs, H b = some (.tup xs) → H' b = some (.tup xs)
  frz : ∀ b o u, H b = some (.frz o u) → H' b = some (.frz o u)
theorem Stay.refl (H : Hp) : Stay H H := ⟨fun _ _ e => e, fun _ _ _ e => e⟩
theorem Stay.trans {H H1 H2 : Hp} (a : Stay H H1) (b : Stay H1 H2) : Stay H H2 := ⟨fun c xs e => b.tup c xs (a.tup c xs e), fun c o u e => b.frz c o u (a.frz c o u e)⟩
theorem Stay.same {H H1 : Hp} (s : Same H H1) : Stay H H1 := ⟨fun b xs e => s b _ e, fun b o u e => s b _ e⟩
/-- at a something is written that is no tuple and not locked -/
theorem Stay.put {H : Hp} {a : Addr} {o : HO} (h : (∀ xs, H a ≠ some (.tup xs)) ∧ ∀ u v, H a ≠ some (.frz u v)) : Stay H (upd H a o) := by
  refine ⟨fun b xs e => ?_, fun b u v e => ?_⟩
  · rw [upd_ne (fun z => h.1 xs (by rw [← z]; exact e))]; exact e
  · rw [upd_ne (fun z => h.2 u v (by rw [← z]; exact e))]; exact e
theorem stay_lst {H : Hp} {a : Addr} {xs ys : List V} (h : H a = some (.lst xs)) : Stay H (upd H a (.lst ys)) := Stay.put ⟨fun zs e => (by rw [h] at e; cases e), fun u v e => (by rw [h] at e; cases e)⟩
theorem stay_new {H : Hp} {a : Addr} {o : HO} (h : H a = none) : Stay H (upd H a o) := .same (same_upd h)
mutual
theorem kdp_stay {K : PySem.W.Frag} {H H' : Hp} (s : Stay H H') : ∀ (n : Nat) (d : PyData) (v : V), kd n d = true → Dp K H v d → Dp K H' v d
  | n, .str x, v, _, h => by cases h; exact .str x
  | n + 1, .tuple ds, v, hk, h => by
    cases h with
    | tup hs ha =>
      refine .tup ?_ (kdpAll_stay s n ds _ (by simpa [kd] using hk) ha)
      rcases hs with (h | ⟨o, h⟩) | h
      · exact .inl (.inl (s.tup _ _ h))
      · exact .inl (.inr ⟨o, s.frz _ _ _ h⟩)
      · exact .inr h
  | 0, .tuple _, _, hk, _ => by simp [kd] at hk
  | n, .none, _, hk, _ => by cases n <;> simp [kd] at hk
  | n, .bool _, _, hk, _ => by cases n <;> simp [kd] at hk
  | n, .int _, _, hk, _ => by cases n <;> simp [kd] at hk
  | n, .list _, _, hk, _ => by cases n <;> simp [kd] at hk
  | n, .dict _, _, hk, _ => by cases n <;> simp [kd] at hk
theorem kdpAll_stay {K : PySem.W.Frag} {H H' : Hp} (s : Stay H H') : ∀ (n : Nat) (ds : List PyData) (vs : List V), kdAll n ds = true → DpAll K H vs ds → DpAll K H' vs ds
  | n, [], vs, _, h => by cases h; exact .nil
  | n, d :: ds, vs, hk, h => by
    simp only [kdAll, Bool.and_eq_true] at hk
    cases h with
    | cons h1 h2 => exact .cons (kdp_stay s n d _ hk.1 h1) (kdpAll_stay s n ds _ hk.2 h2)
end
theorem kd_up : ∀ (n : Nat) (d : PyData), kd n d = true → kd (n + 1) d = true := by
  have both : ∀ (n : Nat), (∀ d, kd n d = true → kd (n + 1) d = true) := by
    intro n
    induction n with
    | zero =>
      intro d h
      cases d with
      | str x => exact kd_str
      | _ => simp [kd] at h
    | succ n ih =>
      intro d h
      cases d with
      | str x => exact kd_str
      | tuple ds =>
        have h' : kdAll n ds = true := by simpa [kd] using h
        show kdAll (n + 1) ds = true
        exact kdAll_iff.mpr fun d hd => ih d (kdAll_iff.mp h' d hd)
      | _ => simp [kd] at h
  exact both
theorem kd_le {n m : Nat} {d : PyData} (h : kd n d = true) (hm : n ≤ m) : kd m d = true := by
  induction hm with
  | refl => exact h
  | step _ ih => exact kd_up _ _ ih
/-! ### what can stand on the stack -/
/-- a long term -/
structure Tk (d : PyData) : Prop where
  one : 1 ≤ lmeas 9 d
  top : lmeas 9 d ≤ 600
  gd : gd 20 d = true
theorem kd_meas : ∀ (n : Nat) (d : PyData), 1 ≤ lmeas (n + 1) d → kd n d = true
  | 0, d, h => by
    rcases lmeas_inv h with ⟨x, rfl, hx⟩ | ⟨o, ds, rfl, _, ho, h2, all1, e⟩
    · exact kd_str
    · exfalso
      match ds, h2, all1 with
      | d :: _, _, all1 =>
        have := all1 d List.mem_cons_self
        simp [lmeas] at this
  | n + 1, d, h => by
    rcases lmeas_inv h with ⟨x, rfl, hx⟩ | ⟨o, ds, rfl, _, ho, h2, all1, e⟩
    · exact kd_str
    · show kdAll n (.str o :: ds) = true
      refine kdAll_iff.mpr fun y hy => ?_
      rcases List.mem_cons.mp hy with z | z
      · rw [z]; exact kd_str
      · exact kd_meas n y (all1 y z)
theorem Tk.kd {d : PyData} (h : Tk d) : kd 8 d = true := kd_meas 8 d h.one
theorem Tk.inv {d : PyData} (h : Tk d) : (∃ x, d = .str x ∧ isL x = true) ∨ ∃ o ds, d = .tuple (.str o :: ds) ∧ isCd d = true ∧ 2 ≤ ds.length ∧ (∀ x ∈ ds, Tk x) ∧ lmeas 9 d = (ds.map (lmeas 9)).sum := by
  rcases lmeas_inv (n := 8) h.one with ⟨x, rfl, hx⟩ | ⟨o, ds, rfl, _, ho, h2, all1, e⟩
  · exact .inl ⟨x, rfl, hx⟩
  · have up : ∀ x ∈ ds, lmeas 9 x = lmeas 8 x := fun x hx => lmeas_up 8 x (all1 x hx)
    have sm : (ds.map (lmeas 9)).sum = (ds.map (lmeas 8)).sum := by rw [List.map_congr_left up]
    refine .inr ⟨o, ds, rfl, ?_, h2, fun x hx => ⟨?_, ?_, ?_⟩, by rw [sm]; exact e⟩
    · have op : isOp (.str o) = true := by
        rcases ho with z | z
        · rw [z]; exact isOp_str.1
        · rw [z]; exact isOp_str.2
      simp [isCd, h2, op]
    · rw [up x hx]; exact all1 x hx
    · rw [up x hx]
      have z : lmeas 8 x ≤ (ds.map (lmeas 8)).sum := by
        have nn : ∀ l : List PyData, 0 ≤ (l.map (lmeas 8)).sum := fun l => sum_nonneg fun u hu => by
          obtain ⟨d', _, rfl⟩ := List.mem_map.mp hu
          exact lmeas_nonneg 8 d'
        have le : ∀ l : List PyData, x ∈ l → lmeas 8 x ≤ (l.map (lmeas 8)).sum := by
          intro l
          induction l with
          | nil => intro h; cases h
          | cons y r ih =>
            intro hm
            rw [List.map_cons, List.sum_cons]
            have n1 := nn r
            have n2 := lmeas_nonneg 8 y
            rcases List.mem_cons.mp hm with e | e
            · rw [e]; omega
            · have := ih e; omega
        exact le ds hx
      have t9 := h.top
      have e9 : lmeas 9 (.tuple (.str o :: ds)) = (ds.map (lmeas 8)).sum := e
      rw [e9] at t9
      omega
    · exact gd_up 19 x ((gd_parts (n := 19) h.gd).2 x hx)
theorem str_isCd (x : Str) : isCd (.str x) = false := rfl
theorem sum9_nonneg (l : List PyData) : 0 ≤ (l.map (lmeas 9)).sum := sum_nonneg fun u hu => by
  obtain ⟨d', _, rfl⟩ := List.mem_map.mp hu
  exact lmeas_nonneg 9 d'
/-- how many there are -/
theorem pre_len : ∀ (n : Nat) (d : PyData), 1 ≤ lmeas n d → Tk d → ((pre d).length : Int) + 1 ≤ 2 * lmeas 9 d
  | 0, d, h, _ => by simp only [lmeas] at h; omega
  | n + 1, d, h, t => by
    rcases t.inv with ⟨x, rfl, hx⟩ | ⟨o, ds, rfl, hc, h2, all, e⟩
    · have := t.one
      rw [pre_eq, str_isCd]
      simp
      omega
    · rw [pre_eq, if_pos hc, e]
      rcases lmeas_inv h with ⟨x, hx, _⟩ | ⟨o', ds', hd, _, _, _, all1, _⟩
      · cases hx
      · cases hd
        have sub : ∀ l : List PyData, (∀ x ∈ l, x ∈ ds) → ((l.flatMap pre).length : Int) + l.length ≤ 2 * (l.map (lmeas 9)).sum := by
          intro l
          induction l with
          | nil => intro _; simp
          | cons y r ih =>
            intro hm
            have hy := hm y List.mem_cons_self
            have a := pre_len n y (all1 y hy) (all y hy)
            have b := ih fun x hx => hm x (List.mem_cons_of_mem _ hx)
            rw [List.flatMap_cons, List.length_append, List.length_cons, List.map_cons, List.sum_cons]
            omega
        have := sub ds fun _ h => h
        show (((PyData.tuple (.str o :: ds)) :: (ds.flatMap pre)).length : Int) + 1 ≤ _
        rw [List.length_cons]
        omega
theorem pre_small {d : PyData} (t : Tk d) : (pre d).length ≤ 1200 := by
  have := pre_len 9 d t.one t
  have := t.top
  omega
end FvG


/-! the order of terms without rules: the way that leads to a pair (as the program finds it), and the law's reading of it -/
namespace FvF
open PySem Fv FvG FvD
abbrev Pr := PyData × PyData
abbrev Way := Option (Str × List Pr)
def sgn : PyData → PyData
  | .str x => .str ⟨#[x.cps.getD 0 0]⟩
  | .tuple (o :: _) => o
  | _ => .none
def pts : PyData → List PyData
  | .tuple (_ :: ds) => ds
  | _ => []
/-- the parts that a term is below of, the parts that it is above of -/
def low : PyData → List PyData
  | .tuple (.str o :: ds) => if o = "&" then ds else []
  | _ => []
def hgh : PyData → List PyData
  | .tuple (.str o :: ds) => if o = "|" then ds else []
  | _ => []
def isJ : PyData → Bool
  | .tuple (.str o :: _) => o = "|"
  | _ => false
def isM : PyData → Bool
  | .tuple (.str o :: _) => o = "&"
  | _ => false
open Classical in
noncomputable def stepW (f : PyData → PyData → Bool) (l r : PyData) : Way :=
  if l = r then some ("same", [])
  else if r ∈ low l ∨ l ∈ hgh r then some ("part", [])
  else if isJ l = true then (if (pts l).all (fun p => f p r) = true then some ("out", (pts l).map fun p => (p, r)) else none)
  else if isM r = true then (if (pts r).all (fun p => f l p) = true then some ("into", (pts r).map fun p => (l, p)) else none)
  else match (low l).find? (fun p => f p r) with
    | some p => some ("down", [(p, r)])
    | none => match (hgh r).find? (fun p => f l p) with
      | some p => some ("up", [(l, p)])
      | none => none
noncomputable def way : Nat → PyData → PyData → Way
  | 0, _, _ => none
  | n + 1, l, r => stepW (fun a b => (way n a b).isSome) l r
theorem low_pts {l p : PyData} (h : p ∈ low l) : p ∈ pts l := by
  unfold low at h
  split at h
  · rename_i o ds
    split at h
    · exact h
    · cases h
  · cases h
theorem hgh_pts {l p : PyData} (h : p ∈ hgh l) : p ∈ pts l := by
  unfold hgh at h
  split at h
  · rename_i o ds
    split at h
    · exact h
    · cases h
  · cases h
theorem pts_depth {l p : PyData} (h : p ∈ pts l) : p.depth < l.depth := by
  unfold pts at h
  split at h
  · rename_i o ds
    have go : ∀ {ds : List PyData}, p ∈ ds → p.depth ≤ PyData.depthAll ds := fun {ds} => by
      induction ds with
      | nil => intro h; cases h
      | cons d ds ih =>
        intro h
        simp only [PyData.depthAll]
        rcases List.mem_cons.mp h with z | z
        · rw [z]; omega
        · have := ih z; omega
    have := go h
    simp only [PyData.depth, PyData.depthAll]
    omega
  · cases h
theorem all_congr {α : Type} {l : List α} {f g : α → Bool} (h : ∀ x ∈ l, f x = g x) : l.all f = l.all g := by
  induction l with
  | nil => rfl
  | cons x l ih => rw [List.all_cons, List.all_cons, h x List.mem_cons_self, ih fun y hy => h y (List.mem_cons_of_mem _ hy)]
theorem find_congr {α : Type} {l : List α} {f g : α → Bool} (h : ∀ x ∈ l, f x = g x) : l.find? f = l.find? g := by
  induction l with
  | nil => rfl
  | cons x l ih => rw [List.find?_cons, List.find?_cons, h x List.mem_cons_self, ih fun y hy => h y (List.mem_cons_of_mem _ hy)]
theorem any_congr {α : Type} {l : List α} {f g : α → Bool} (h : ∀ x ∈ l, f x = g x) : l.any f = l.any g := by
  induction l with
  | nil => rfl
  | cons x l ih => rw [List.any_cons, List.any_cons, h x List.mem_cons_self, ih fun y hy => h y (List.mem_cons_of_mem _ hy)]
theorem stepW_congr {f g : PyData → PyData → Bool} {l r : PyData} (h1 : ∀ p ∈ pts l, f p r = g p r) (h2 : ∀ p ∈ pts r, f l p = g l p) : stepW f l r = stepW g l r := by
  unfold stepW
  rw [all_congr (l := pts l) h1, all_congr (l := pts r) h2, find_congr (l := low l) fun p hp => h1 p (low_pts hp), find_congr (l := hgh r) fun p hp => h2 p (hgh_pts hp)]
theorem way_stab : ∀ (n : Nat) (l r : PyData), l.depth + r.depth < n → way (n + 1) l r = way n l r
  | 0, _, _, h => absurd h (Nat.not_lt_zero _)
  | n + 1, l, r, h => by
    show stepW _ l r = stepW _ l r
    refine stepW_congr (fun p hp => ?_) fun p hp => ?_
    · have := pts_depth hp
      rw [way_stab n p r (by omega)]
    · have := pts_depth hp
      rw [way_stab n l p (by omega)]
theorem way_stab2 {n m : Nat} {l r : PyData} (h : l.depth + r.depth < n) (hm : n ≤ m) : way m l r = way n l r := by
  induction hm with
  | refl => rfl
  | step hm' ih => rw [way_stab _ l r (by have : n ≤ _ := hm'; omega), ih]
/-- the way that leads to a pair, and whether there is one -/
noncomputable def W (l r : PyData) : Way := way 60 l r
noncomputable def le (l r : PyData) : Bool := (W l r).isSome
theorem W_step {l r : PyData} (h : l.depth + r.depth < 59) : W l r = stepW le l r := by
  show stepW (fun a b => (way 59 a b).isSome) l r = stepW le l r
  refine stepW_congr (fun p hp => ?_) fun p hp => ?_
  · have := pts_depth hp
    show _ = (way 60 p r).isSome
    rw [way_stab2 (n := 59) (m := 60) (by omega) (by decide)]
  · have := pts_depth hp
    show _ = (way 60 l p).isSome
    rw [way_stab2 (n := 59) (m := 60) (by omega) (by decide)]
/-! ### the law's reading -/
open Classical in
noncomputable def stepL (f : PyData → PyData → Bool) (l r : PyData) : Bool :=
  if l = r then true
  else if isJ l = true then (pts l).all fun p => f p r
  else if isM r = true then (pts r).all fun p => f l p
  else if isJ r = true ∧ (pts r).any (fun p => f l p) = true then true
  else isM l && (pts l).any fun p => f p r
theorem low_m {l : PyData} : low l = if isM l = true then pts l else [] := by
  unfold low isM pts
  split
  · rename_i o ds
    by_cases c : o = "&"
    · rw [if_pos c, if_pos (decide_eq_true c)]
    · rw [if_neg c, if_neg (by simp [c])]
  · rw [if_neg (by simp)]
theorem hgh_j {l : PyData} : hgh l = if isJ l = true then pts l else [] := by
  unfold hgh isJ pts
  split
  · rename_i o ds
    by_cases c : o = "|"
    · rw [if_pos c, if_pos (decide_eq_true c)]
    · rw [if_neg c, if_neg (by simp [c])]
  · rw [if_neg (by simp)]
theorem jm {l : PyData} (h : isJ l = true) : isM l = false := by
  unfold isJ at h
  unfold isM
  split at h
  · rename_i o ds
    have : o = "|" := of_decide_eq_true h
    rw [this]
    decide +kernel
  · cases h
/-- le without its second clause: the law's -/
structure Lw (f : PyData → PyData → Bool) (N : Nat) : Prop where
  eq : ∀ l r, l.depth + r.depth < N → f l r = stepL f l r
section
variable {f : PyData → PyData → Bool} {N : Nat} (F : Lw f N)
include F
theorem Lw.refl {l : PyData} (h : l.depth + l.depth < N) : f l l = true := by
  rw [F.eq l l h]
  unfold stepL
  rw [if_pos rfl]
theorem Lw.um : ∀ n : Nat, n ≤ N → (∀ l p y : PyData, l.depth + y.depth < n → isM l = true → p ∈ pts l → f p y = true → f l y = true) ∧ (∀ p y q : PyData, p.depth + y.depth < n → isM y = true → q ∈ pts y → f p y = true → p = y ∨ f p q = true) := by
  intro n
  induction n with
  | zero => exact fun _ => ⟨fun l p y h => absurd h (Nat.not_lt_zero _), fun p y q h => absurd h (Nat.not_lt_zero _)⟩
  | succ n ih =>
    intro hN
    obtain ⟨U, M⟩ := ih (by omega)
    have rf : ∀ {l : PyData}, l.depth + l.depth < N → f l l = true := fun h => Lw.refl F h
    -- a whole is below its parts
    have own : ∀ y q : PyData, y.depth + q.depth < n → q.depth + q.depth < N → isM y = true → q ∈ pts y → f y q = true := fun y q h1 h2 hy hq => U y q q h1 hy hq (rf h2)
    refine ⟨fun l p y hd hl hp h => ?_, fun p y q hd hy hq h => ?_⟩
    · have dp := pts_depth hp
      rw [F.eq l y (by omega)]
      unfold stepL
      by_cases e : l = y
      · rw [if_pos e]
      · rw [if_neg e, if_neg (by intro j; rw [jm j] at hl; cases hl)]
        by_cases my : isM y = true
        · rw [if_pos my]
          refine List.all_eq_true.mpr fun q hq => ?_
          have dq := pts_depth hq
          rcases M p y q (by omega) my hq h with e2 | e2
          · subst e2
            exact U l p q (by omega) hl hp (own p q (by omega) (by omega) my hq)
          · exact U l p q (by omega) hl hp e2
        · rw [if_neg my]
          split
          · rfl
          · rw [hl, Bool.true_and]
            exact List.any_eq_true.mpr ⟨p, hp, h⟩
    · have dq := pts_depth hq
      by_cases e : p = y
      · exact .inl e
      · refine .inr ?_
        rw [F.eq p y (by omega)] at h
        unfold stepL at h
        rw [if_neg e] at h
        by_cases j : isJ p = true
        · rw [if_pos j] at h
          rw [F.eq p q (by omega)]
          unfold stepL
          by_cases e2 : p = q
          · rw [if_pos e2]
          · rw [if_neg e2, if_pos j]
            refine List.all_eq_true.mpr fun p' hp' => ?_
            have dp := pts_depth hp'
            have z : f p' y = true := List.all_eq_true.mp h p' hp'
            rcases M p' y q (by omega) hy hq z with e3 | e3
            · subst e3
              exact own p' q (by omega) (by omega) hy hq
            · exact e3
        · rw [if_neg j, if_pos hy] at h
          exact List.all_eq_true.mp h q hq
theorem Lw.up : ∀ n : Nat, n ≤ N → ∀ l p y : PyData, l.depth + y.depth < n → isJ y = true → p ∈ pts y → f l p = true → f l y = true := by
  intro n
  induction n with
  | zero => exact fun _ l p y h => absurd h (Nat.not_lt_zero _)
  | succ n ih =>
    intro hN l p y hd hy hp h
    have U := ih (by omega)
    have dp := pts_depth hp
    rw [F.eq l y (by omega)]
    unfold stepL
    by_cases e : l = y
    · rw [if_pos e]
    · rw [if_neg e]
      by_cases j : isJ l = true
      · rw [if_pos j]
        refine List.all_eq_true.mpr fun q hq => ?_
        have dq := pts_depth hq
        have z : l = p ∨ f q p = true := by
          rw [F.eq l p (by omega)] at h
          unfold stepL at h
          by_cases e2 : l = p
          · exact .inl e2
          · rw [if_neg e2, if_pos j] at h
            exact .inr (List.all_eq_true.mp h q hq)
        rcases z with e2 | e2
        · subst e2
          exact U q l y (by omega) hy hp (U q q l (by omega) j hq (Lw.refl F (by omega)))
        · exact U q p y (by omega) hy hp e2
      · rw [if_neg j, if_neg (by intro m; have := jm hy; rw [m] at this; cases this), if_pos ⟨hy, List.any_eq_true.mpr ⟨p, hp, h⟩⟩]
/-- both clauses agree -/
theorem Lw.step {l r : PyData} (hd : l.depth + r.depth < N) : (stepW f l r).isSome = stepL f l r := by
  have UM := Lw.um F N (Nat.le_refl _)
  have UP := Lw.up F N (Nat.le_refl _)
  unfold stepW
  by_cases e : l = r
  · rw [if_pos e]
    unfold stepL
    rw [if_pos e]
    rfl
  · rw [if_neg e]
    by_cases c : r ∈ low l ∨ l ∈ hgh r
    · rw [if_pos c, ← F.eq l r hd]
      show true = f l r
      symm
      rcases c with c | c
      · have dr := pts_depth (low_pts c)
        have ml : isM l = true := by
          rw [low_m] at c
          by_cases m : isM l = true
          · exact m
          · rw [if_neg m] at c; cases c
        exact UM.1 l r r hd ml (low_pts c) (Lw.refl F (by omega))
      · have dl := pts_depth (hgh_pts c)
        have jr : isJ r = true := by
          rw [hgh_j] at c
          by_cases m : isJ r = true
          · exact m
          · rw [if_neg m] at c; cases c
        exact UP l l r hd jr (hgh_pts c) (Lw.refl F (by omega))
    · rw [if_neg c]
      unfold stepL
      rw [if_neg e]
      by_cases j : isJ l = true
      · rw [if_pos j, if_pos j]
        cases h : (pts l).all fun p => f p r <;> rfl
      · rw [if_neg j, if_neg j]
        by_cases m : isM r = true
        · rw [if_pos m, if_pos m]
          cases h : (pts r).all fun p => f l p <;> rfl
        · rw [if_neg m, if_neg m]
          have fa : ∀ (l : List PyData) (g : PyData → Bool), (l.find? g).isSome = l.any g := fun l g => by
            induction l with
            | nil => rfl
            | cons x l ih =>
              rw [List.find?_cons, List.any_cons]
              cases g x with
              | true => rfl
              | false => exact ih
          have e1 := fa (low l) fun p => f p r
          have e2 := fa (hgh r) fun p => f l p
          have e3 : ((low l).any fun p => f p r) = (isM l && (pts l).any fun p => f p r) := by
            rw [low_m]
            by_cases ml : isM l = true
            · rw [if_pos ml, ml, Bool.true_and]
            · rw [if_neg ml, Bool.eq_false_iff.mpr ml, Bool.false_and]
              rfl
          have e4 : ((hgh r).any fun p => f l p) = (isJ r && (pts r).any fun p => f l p) := by
            rw [hgh_j]
            by_cases jr : isJ r = true
            · rw [if_pos jr, jr, Bool.true_and]
            · rw [if_neg jr, Bool.eq_false_iff.mpr jr, Bool.false_and]
              rfl
          rw [e3] at e1
          rw [e4] at e2
          by_cases c1 : (isJ r && (pts r).any fun p => f l p) = true
          · rw [if_pos (Bool.and_eq_true_iff.mp c1)]
            cases h : (low l).find? fun p => f p r with
            | some p => rfl
            | none =>
              rw [c1] at e2
              obtain ⟨q, hq⟩ := Option.isSome_iff_exists.mp e2
              dsimp only
              rw [hq]
              rfl
          · rw [if_neg (fun z => c1 (Bool.and_eq_true_iff.mpr z)), ← e1]
            cases h : (low l).find? fun p => f p r with
            | some p => rfl
            | none =>
              rw [Bool.eq_false_iff.mpr c1] at e2
              dsimp only
              cases h2 : (hgh r).find? fun p => f l p with
              | some q => rw [h2] at e2; cases e2
              | none => rfl
end
noncomputable def lawN : Nat → PyData → PyData → Bool
  | 0, _, _ => false
  | n + 1, l, r => stepL (lawN n) l r
theorem stepL_congr {f g : PyData → PyData → Bool} {l r : PyData} (h1 : ∀ p ∈ pts l, f p r = g p r) (h2 : ∀ p ∈ pts r, f l p = g l p) : stepL f l r = stepL g l r := by
  unfold stepL
  rw [all_congr (l := pts l) h1, all_congr (l := pts r) h2, any_congr (l := pts l) h1, any_congr (l := pts r) h2]
theorem law_stab : ∀ (n : Nat) (l r : PyData), l.depth + r.depth < n → lawN (n + 1) l r = lawN n l r
  | 0, _, _, h => absurd h (Nat.not_lt_zero _)
  | n + 1, l, r, h => by
    show stepL _ l r = stepL _ l r
    refine stepL_congr (fun p hp => ?_) fun p hp => ?_
    · have := pts_depth hp
      exact law_stab n p r (by omega)
    · have := pts_depth hp
      exact law_stab n l p (by omega)
theorem law_stab2 {n m : Nat} {l r : PyData} (h : l.depth + r.depth < n) (hm : n ≤ m) : lawN m l r = lawN n l r := by
  induction hm with
  | refl => rfl
  | step hm' ih => rw [law_stab _ l r (by have : n ≤ _ := hm'; omega), ih]
noncomputable def lawB (l r : PyData) : Bool := lawN 60 l r
theorem lawB_ok : Lw lawB 59 := ⟨fun l r h => by
  show stepL (lawN 59) l r = stepL lawB l r
  refine stepL_congr (fun p hp => ?_) fun p hp => ?_
  · have := pts_depth hp
    exact (law_stab2 (n := 59) (m := 60) (by omega) (by decide)).symm
  · have := pts_depth hp
    exact (law_stab2 (n := 59) (m := 60) (by omega) (by decide)).symm⟩
/-- the program's order is the law's -/
theorem le_law : ∀ (n : Nat) (l r : PyData), l.depth + r.depth < n → n ≤ 59 → le l r = lawB l r
  | 0, _, _, h, _ => absurd h (Nat.not_lt_zero _)
  | n + 1, l, r, h, hn => by
    show (W l r).isSome = _
    rw [W_step (by omega), stepW_congr (g := lawB) (fun p hp => le_law n p r (by have := pts_depth hp; omega) (by omega)) (fun p hp => le_law n l p (by have := pts_depth hp; omega) (by omega)), lawB_ok.step (by omega), lawB_ok.eq l r (by omega)]
end FvF


/-! the order of terms is transitive -/
namespace FvF
open PySem Fv FvG FvD
section
variable {f : PyData → PyData → Bool} {N : Nat} (F : Lw f N)
include F
theorem Lw.cases {l r : PyData} (h : l.depth + r.depth < N) (e : f l r = true) : l = r ∨ (isJ l = true ∧ ∀ p ∈ pts l, f p r = true) ∨ (isJ l ≠ true ∧ isM r = true ∧ ∀ p ∈ pts r, f l p = true) ∨
    (isJ l ≠ true ∧ isM r ≠ true ∧ isJ r = true ∧ ∃ p ∈ pts r, f l p = true) ∨ (isJ l ≠ true ∧ isM r ≠ true ∧ isM l = true ∧ ∃ p ∈ pts l, f p r = true) := by
  rw [F.eq l r h] at e
  unfold stepL at e
  by_cases c : l = r
  · exact .inl c
  rw [if_neg c] at e
  by_cases j : isJ l = true
  · rw [if_pos j] at e
    exact .inr (.inl ⟨j, fun p hp => List.all_eq_true.mp e p hp⟩)
  rw [if_neg j] at e
  by_cases m : isM r = true
  · rw [if_pos m] at e
    exact .inr (.inr (.inl ⟨j, m, fun p hp => List.all_eq_true.mp e p hp⟩))
  rw [if_neg m] at e
  by_cases c2 : isJ r = true ∧ (pts r).any (fun p => f l p) = true
  · obtain ⟨p, hp, z⟩ := List.any_eq_true.mp c2.2
    exact .inr (.inr (.inr (.inl ⟨j, m, c2.1, p, hp, z⟩)))
  rw [if_neg c2, Bool.and_eq_true] at e
  obtain ⟨p, hp, z⟩ := List.any_eq_true.mp e.2
  exact .inr (.inr (.inr (.inr ⟨j, m, e.1, p, hp, z⟩)))
theorem Lw.joined {l r : PyData} (h : l.depth + r.depth < N) (j : isJ l = true) (all : ∀ p ∈ pts l, f p r = true) : f l r = true := by
  rw [F.eq l r h]
  unfold stepL
  by_cases c : l = r
  · rw [if_pos c]
  · rw [if_neg c, if_pos j]
    exact List.all_eq_true.mpr all
theorem Lw.met {l r : PyData} (h : l.depth + r.depth < N) (j : isJ l ≠ true) (m : isM r = true) (all : ∀ p ∈ pts r, f l p = true) : f l r = true := by
  rw [F.eq l r h]
  unfold stepL
  by_cases c : l = r
  · rw [if_pos c]
  · rw [if_neg c, if_neg j, if_pos m]
    exact List.all_eq_true.mpr all
theorem Lw.trans : ∀ n : Nat, n ≤ N → ∀ l m r : PyData, l.depth + m.depth + r.depth < n → f l m = true → f m r = true → f l r = true := by
  intro n
  induction n with
  | zero => exact fun _ l m r h => absurd h (Nat.not_lt_zero _)
  | succ n ih =>
    intro hN l m r hd h1 h2
    have I := ih (by omega)
    have U := (Lw.um F N (Nat.le_refl _)).1
    have P := Lw.up F N (Nat.le_refl _)
    by_cases e1 : l = m
    · rw [e1]; exact h2
    by_cases e2 : m = r
    · rw [← e2]; exact h1
    have c1 := (Lw.cases F (by omega) h1).resolve_left e1
    have c2 := (Lw.cases F (by omega) h2).resolve_left e2
    by_cases jl : isJ l = true
    · rcases c1 with ⟨_, all⟩ | ⟨j, _⟩ | ⟨j, _⟩ | ⟨j, _⟩
      · exact Lw.joined F (by omega) jl fun p hp => I p m r (by have := pts_depth hp; omega) (all p hp) h2
      all_goals exact absurd jl j
    by_cases mr : isM r = true
    · refine Lw.met F (by omega) jl mr fun p hp => ?_
      have dp := pts_depth hp
      rcases c2 with ⟨jm, all⟩ | ⟨_, _, all⟩ | ⟨_, m', _⟩ | ⟨_, m', _⟩
      · -- m is a join below a meet: below each of its parts
        have := (Lw.um F N (Nat.le_refl _)).2 m r p (by omega) mr hp h2
        rcases this with z | z
        · exact absurd z e2
        · exact I l m p (by omega) h1 z
      · exact I l m p (by omega) h1 (all p hp)
      · exact absurd mr m'
      · exact absurd mr m'
    rcases c1 with ⟨j, _⟩ | ⟨_, mm, all⟩ | ⟨_, _, jm, q, hq, z⟩ | ⟨_, _, ml, p, hp, z⟩
    · exact absurd j jl
    · -- m is a meet
      rcases c2 with ⟨jm', _⟩ | ⟨_, m', _⟩ | ⟨_, _, jr, s, hs, z⟩ | ⟨_, _, _, q, hq, z⟩
      · have := jm (l := m) jm'
        rw [mm] at this
        cases this
      · exact absurd m' mr
      · exact P l s r (by omega) jr hs (I l m s (by have := pts_depth hs; omega) h1 z)
      · exact I l q r (by have := pts_depth hq; omega) (all q hq) z
    · -- m is a join
      rcases c2 with ⟨_, all⟩ | ⟨j, _⟩ | ⟨j, _⟩ | ⟨j, _⟩
      · exact I l q r (by have := pts_depth hq; omega) z (all q hq)
      all_goals exact absurd jm j
    · exact U l p r (by omega) ml hp (I p m r (by have := pts_depth hp; omega) z h2)
end
end FvF


/-! leaves of terms -/
namespace FvF
open PySem Fv FvG FvD
/-- leaves -/
def lv (d : PyData) : Nat := (lmeas 9 d).toNat
theorem lv_pos {d : PyData} (t : Tk d) : 1 ≤ lv d := by
  have := t.one
  unfold lv
  omega
theorem lv_tup {o : Str} {ds : List PyData} (t : Tk (.tuple (.str o :: ds))) : (∀ p ∈ ds, Tk p) ∧ 2 ≤ ds.length ∧ lv (.tuple (.str o :: ds)) = (ds.map lv).sum := by
  rcases t.inv with ⟨x, hx, _⟩ | ⟨o', ds', hd, _, h2, al, e⟩
  · cases hx
  · cases hd
    refine ⟨al, h2, ?_⟩
    unfold lv
    rw [e]
    have : ∀ l : List PyData, (∀ p ∈ l, Tk p) → ((l.map (lmeas 9)).sum).toNat = (l.map fun d => (lmeas 9 d).toNat).sum ∧ 0 ≤ (l.map (lmeas 9)).sum := fun l => by
      induction l with
      | nil => intro _; simp
      | cons x l ih =>
        intro h
        have a := (h x List.mem_cons_self).one
        obtain ⟨b1, b2⟩ := ih fun y hy => h y (List.mem_cons_of_mem _ hy)
        rw [List.map_cons, List.map_cons, List.sum_cons, List.sum_cons]
        omega
    exact (this ds al).1
theorem lv_part {d p : PyData} (t : Tk d) (hp : p ∈ pts d) : Tk p ∧ lv p + 1 ≤ lv d := by
  rcases t.inv with ⟨x, rfl, _⟩ | ⟨o, ds, rfl, _⟩
  · cases hp
  · obtain ⟨al, h2, e⟩ := lv_tup t
    refine ⟨al p hp, ?_⟩
    rw [e]
    have hp' : p ∈ ds := hp
    have : ∀ l : List PyData, (∀ q ∈ l, Tk q) → l.length ≤ (l.map lv).sum := fun l => by
      induction l with
      | nil => intro _; simp
      | cons x l ih =>
        intro h
        have a := lv_pos (h x List.mem_cons_self)
        have b := ih fun y hy => h y (List.mem_cons_of_mem _ hy)
        rw [List.map_cons, List.sum_cons, List.length_cons]
        omega
    obtain ⟨a, b, rfl⟩ := List.append_of_mem hp'
    have la := this a fun q hq => al q (List.mem_append_left _ hq)
    have lb := this b fun q hq => al q (List.mem_append_right _ (List.mem_cons_of_mem _ hq))
    rw [List.length_append, List.length_cons] at h2
    rw [List.map_append, List.map_cons, List.sum_append, List.sum_cons]
    omega
end FvF


namespace FvD
open PySem PySem.Spec PyProof.Rows L2 Fv
/-! ### dicts keyed by data: d[y], and {y: v for ..} -/
def valD (kvs : List NKV) (d : PyData) : Option V := (kvs.find? fun p => decide (nk p.1 = nk d)).map (·.2.2)
theorem relN_val {k : NestedKey} : ∀ {kvs : List NKV} {xs : List KE3}, Paired RelN kvs xs → ∀ {v : V}, (kvs.find? fun p => decide (nk p.1 = k)).map (·.2.2) = some v → ∃ u, valN xs k = some u ∧ RelV v u
  | _, _, .nil, _, h => by cases h
  | _, _, .cons (a := p) (b := q) hp t, v, h => by
    unfold valN
    rw [List.find?_cons] at h ⊢
    by_cases c : nk p.1 = k
    · rw [decide_eq_true c] at h
      rw [show decide (q.1 = k) = true from decide_eq_true (hp.1.symm.trans c)]
      have e : p.2.2 = v := by simpa using h
      exact ⟨q.2.2, rfl, e ▸ hp.2.2⟩
    · rw [decide_eq_false c] at h
      rw [show decide (q.1 = k) = false from decide_eq_false (fun z => c (hp.1.trans z))]
      exact relN_val t h
section
variable {X : Cx} {K : PySem.W.Frag} {w : World}
def tDGetN (K : PySem.W.Frag) (w : World) (td ty : TE) : TE := fun σ H Q => td σ H fun x H1 => ty σ H1 fun y H2 => ∃ a kvs d v, x = .ref a ∧ H2 a = some (NdO w a kvs) ∧ KyOk K H2 kvs ∧ kd 8 d = true ∧ Dp K H2 y d ∧ valD kvs d = some v ∧ Q v H2
theorem pe_dgetN {o i : Expr} {td ty : TE} {pos : Pos} (hK : X.K = K) (hw : X.w = w) (hu : X.A.units + 9 < cLine) (ho : PE X o td) (hi : PE X i ty) (hs : NoSl i) : PE X (.Subscript o i pos) (tDGetN K w td ty) := by
  subst hK hw
  refine ⟨fun pins s σ H Q I h => ?_⟩
  refine subD_of PySem.F.slot_dict_getitem.lookup hs (thn (ho.run pins s σ H _ I h) fun u s1 hx => ?_)
  obtain ⟨x, H1, I1, rx, q1⟩ := hx
  refine thn (hi.run pins s1 σ H1 _ I1 q1) fun iv s2 hy => ?_
  obtain ⟨y, H2, I2, ry, a, kvs, d, v, rfl, ha, hk, hd, hD, hv, q2⟩ := hy
  obtain rfl : u = Value.ref a := rx
  obtain ⟨⟨z, ns, nn, xs, pr, hm⟩, _, _⟩ := I2.hok a _ ha
  obtain ⟨r, er, rr⟩ := relN_val pr hv
  exact ⟨hm.ty, get_item hu (dp_key I2 8 d y iv hd hD ry) (kd_depth 8 d hd) hm (by rw [← relN_keys pr]; exact nn) (relN_is I2 pr hk) er ⟨v, H2, I2.tok _, rr, q2⟩⟩
/-- one entry more, by a comprehension -/
theorem d_putN {pins : List (Addr × Obj)} {σ : L2.St} {H : Hp} {s : Shared} {E : Value → Shared → Prop} {a : Addr} {kvs : List NKV} {d : PyData} {y v : V} {u r : Value} {Q : Unit → Shared → Prop} (hu : X.A.units + 8 < cLine) (I : Inv X pins σ H s) (ha : H a = some (NdO X.w a kvs)) (hk : KyOk X.K H kvs) (hd : kd 8 d = true) (hy : Dp X.K H y d) (ry : RelV y u) (rv : RelV v r) (hl : kvs.length < sizeLine)
    (q : ∀ s', Inv X pins σ (upd H a (NdO X.w a (putN kvs d y v))) s' → Q () s') : wpAny (model X.prog X.w) X.A (dictSet a u r) Q E s := by
  obtain ⟨⟨z, hs, hn, xs, pr, hm⟩, _, _⟩ := I.hok a _ ha
  refine nd_set hu (dp_key I 8 d y u hd hy ry) (kd_depth 8 d hd) hm (by rw [← relN_keys pr]; exact hn) (relN_is I pr hk) (by rw [← Paired.length pr]; exact z) fun h' m' sb => q _ ?_
  have hz := putN_len kvs d y v
  exact d_write I (by rw [ha]; exact True.intro) sb (let ⟨o, _, _, ho, _⟩ := m'; ⟨o, ho⟩) (ndO_ok (by omega) hs (putN_keys kvs d y v hn) (relN_put pr ry rv) m')
/-- what one turn's end asks of a dict at D -/
def endN (K : PySem.W.Frag) (w : World) (D : Addr) (y z : V) (H : Hp) (N : Hp → Prop) : Prop := ∃ kvs d, H D = some (NdO w D kvs) ∧ KyOk K H kvs ∧ kd 8 d = true ∧ Dp K H y d ∧ kvs.length < sizeLine ∧ N (upd H D (NdO w D (putN kvs d y z)))
def tDcN (K : PySem.W.Frag) (w : World) (wi : TI) (g : TG) (tt : TT) (tk tv : TE) (vs : List Nat) : TE := fun σ H Q => wi σ H fun J H1 => ∀ D, H1 D = none → ∃ W : Nat → Nat → Hp → Prop, (∃ m, W 0 m (upd H1 D (NdO w D []))) ∧
  ∀ i m H, W i m H → (J.stop i H ∧ Q (.ref D) H) ∨ (J.go i H ∧ ∃ N : Hp → Prop, (∀ H', N H' → ∃ m', m' < m ∧ W (i + 1) m' H') ∧
    ∀ x H', J.yld i H x H' → g x (wipe σ vs) H' fun σ2 H2 => wipe σ2 vs = wipe σ vs ∧ tt σ2 H2 fun b H3 => if b = true then tk σ2 H3 (fun y H4 => tv σ2 H4 fun z H5 => endN K w D y z H5 N) else N H3)
section
variable {ky vy tg it : Expr} {fs : List Expr} {sc : Scope} {own : List (Str × Nat)} {wi : TI} {g : TG} {tt : TT} {tk tv : TE}
abbrev ForBlk (X : Cx) (sc : Scope) (R : Cx → Prop) : Prop := ∀ (s : Shared) (H : Hp) (C : Addr) (cl : List (Str × Addr)) (fp : List Addr), R (X.blk s H sc (compEnvC sc cl C X.env) fp)
theorem pe_dcN {pos : Pos} (hK : X.K = K) (hw : X.w = w) (hu : X.A.units + 8 < cLine) (calm : X.calm = true) (hN : X.N.Nodup) (hi : PI X tg it wi) (ok : BlkOk X.N X.env.scope sc own)
    (hg : ForBlk X sc fun Y => PG Y tg g) (ht : ForBlk X sc fun Y => PTs Y fs tt) (hk : ForBlk X sc fun Y => PE Y ky tk) (hv : ForBlk X sc fun Y => PE Y vy tv) (hs : ∀ x, foldedSetIterable it X.env x = pure x := by intro _; rfl) :
    PE X (.DictComp ky vy [⟨tg, it, fs, 0⟩] sc pos) (tDcN K w wi g tt tk tv (own.map (·.2))) := by
  subst hK hw
  refine ⟨fun pins s σ H Q I h => ?_⟩
  rw [arm_eval_DictComp]
  have fre : ∀ y ∈ sc.names, y.2 = .free → ∃ c, X.env.cells.lookup y.1 = some c := fun y hy e => (ok.free y hy e).elim (fun z => I.ok.has _ (.inl z)) (fun z => I.ok.has _ (.inr z))
  refine wpAny_comprehension_free (use := none) rfl hs (closure_ok fre) ok.kind (fun y hy e => by rw [ok.uniq y hy, e]) (thn (hi.run pins s σ H _ I h) fun xv s1 hx => thn hx fun itv s2 h2 => ?_)
  obtain ⟨ita, fp, tn, J, H2, rfl, I2, T, st2, f2, q⟩ := h2
  refine wpAny_newObj_type (newEnv_comp ?_)
  generalize hD : s2.heap.objs.size = D
  obtain ⟨W, ⟨m0, w0⟩, turn⟩ := q D (I2.hok.fresh (Nat.le_of_eq hD))
  have big : (D == sysModules) = false := by rw [← hD]; exact beq_eq_false_iff_ne.mpr (Nat.ne_of_gt I2.big)
  generalize e3 : ({ s2 with heap := s2.heap.push { cls := .type "dict", data := .dict #[] } } : Shared) = s3
  have I3 : Inv X pins σ (upd H2 D (NdO X.w D [])) s3 := by
    rw [← e3]
    refine I2.laid (t' := s2.toks) (fun b o e => Heap.get?_push_of_some _ e) (Nat.le_of_eq hD) ?_
    rw [← hD] at big ⊢
    exact ndO_ok (Nat.zero_le _) big List.nodup_nil .nil ⟨_, #[], 0, Heap.get?_push_size _ rfl, ⟨rfl, rfl, rfl⟩, rfl, rfl⟩
  have hp3 : s3.heap = s2.heap.push { cls := .type "dict", data := .dict #[] } := by rw [← e3]
  have f3 : ∀ b ∈ fp, FpOk X pins (upd H2 D (NdO X.w D [])) b ∧ b < s3.heap.objs.size := fun b hb => by
    obtain ⟨o, e, _⟩ := T.obj _ _ st2 b hb
    have lt : b < s2.heap.objs.size := Heap.lt_size e
    refine ⟨⟨?_, (f2 b hb).2⟩, by rw [hp3, Heap.size_push]; exact Nat.lt_succ_of_lt lt⟩
    rw [upd_ne (by rw [← hD]; exact Nat.ne_of_lt lt)]
    exact (f2 b hb).1
  have st3 : tn 0 s3.heap := T.keep _ _ _ st2 fun b _ o e => by rw [hp3]; exact Heap.get?_push_of_some _ e
  have I4 := block_start I3 ok hN f3
  have cl0 := cellsFrom (s3.heap.objs.size + 1) sc.names (cloFrom X.env.cells sc.names [])
  have pg := hg s3 (upd H2 D (NdO X.w D [])) s3.heap.objs.size (cellsFrom (s3.heap.objs.size + 1) sc.names (cloFrom X.env.cells sc.names [])) fp
  have pt := ht s3 (upd H2 D (NdO X.w D [])) s3.heap.objs.size (cellsFrom (s3.heap.objs.size + 1) sc.names (cloFrom X.env.cells sc.names [])) fp
  have pk := hk s3 (upd H2 D (NdO X.w D [])) s3.heap.objs.size (cellsFrom (s3.heap.objs.size + 1) sc.names (cloFrom X.env.cells sc.names [])) fp
  have pv' := hv s3 (upd H2 D (NdO X.w D [])) s3.heap.objs.size (cellsFrom (s3.heap.objs.size + 1) sc.names (cloFrom X.env.cells sc.names [])) fp
  show codeAny _ _ (.compStart (.DictComp ky vy [⟨tg, it, fs, 0⟩] sc pos) 0 (.ref ita) (.ref D) (compEnvC sc (cellsFrom (s3.heap.objs.size + 1) sc.names (cloFrom X.env.cells sc.names [])) s3.heap.objs.size X.env)) (compPost (model X.prog X.w) X.A X.xe none (EP X pins σ Q) (.ref D) s3.heap.objs.size) { s3 with heap := pushCells (s3.heap.push { cls := .type "dict", data := .dict #[] }) sc.names }
  have nfp : ∀ b ∈ fp, (upd H2 D (NdO X.w D [])) b = none := fun b hb => (f3 b hb).1.1
  generalize ece : compEnvC sc (cellsFrom (s3.heap.objs.size + 1) sc.names (cloFrom X.env.cells sc.names [])) s3.heap.objs.size X.env = ce at I4 pg pt pk pv' ⊢
  have cL : ce.locals = s3.heap.objs.size := by rw [← ece]; rfl
  generalize upd H2 D (NdO X.w D []) = H3 at I3 I4 pg pt pk pv' w0 nfp f3
  generalize e4 : ({ s3 with heap := pushCells (s3.heap.push { cls := .type "dict", data := .dict #[] }) sc.names } : Shared) = s4 at I4 ⊢
  have st4 : tn 0 s4.heap := T.keep _ _ _ st3 fun b _ o e => by rw [← e4]; exact pushCells_keeps _ _ _ _ (Heap.get?_push_of_some _ e)
  -- the walk's own objects stand for themselves in the block
  have own_ok : ∀ {σ' : L2.St} {H' : Hp} {s' : Shared}, Inv (X.blk s3 H3 sc ce fp) [] σ' H' s' → (∀ b ∈ fp, H' b = none) → ∀ b ∈ fp, FpOk (X.blk s3 H3 sc ce fp) [] H' b := fun {σ' H' s'} J' hn b hb =>
    ⟨hn b hb, (J'.ok.exf b hb).1, J'.ok.exfs b hb, .inl hb, fun x c e => (J'.ok.exf b hb).2 x c e, fun p hp => absurd (show p ∈ ([] : List (Addr × Obj)) ++ [] from hp) (by simp)⟩
  have loop : codeAny (model X.prog X.w) X.A (.compLoop (.DictComp ky vy [⟨tg, it, fs, 0⟩] sc pos) 0 (.ref ita) (.ref D) ce) (compPost (model X.prog X.w) X.A X.xe none (EP X pins σ Q) (.ref D) s3.heap.objs.size) s4 := by
    refine compLoop_anyD (fun n s' => ∃ i H', Inv (X.blk s3 H3 sc ce fp) [] (wipe σ (own.map (·.2))) H' s' ∧ tn i s'.heap ∧ (∀ b ∈ fp, H' b = none) ∧ W i n H') ?_ m0 ⟨0, H3, I4, st4, nfp, w0⟩
    rintro n s5 ⟨i, H5, I5, st5, n5, w5⟩
    rcases turn i n H5 w5 with ⟨stop, fin⟩ | ⟨go, N, hN', step⟩
    · refine thnF (T.done (X.blk s3 H3 sc ce fp) rfl rfl rfl calm i [] s5 _ H5 (fun _ _ => False) I5 (own_ok I5 n5) st5 stop) fun r s6 hr => ?_
      obtain ⟨rfl, I6⟩ := hr
      have I7 : Inv X pins σ H5 s6 := I3.call' (ch := fp) I6.os I6.base I6.hok I6.bare fun b hb => ⟨(f3 b hb).1.2.2.2.1, (f3 b hb).1.2.1, (f3 b hb).1.2.2.2.2.1, (f3 b hb).1.2.2.2.2.2⟩
      have fr : H5 s3.heap.objs.size = none := cL ▸ (I6.free : H5 ce.locals = none)
      obtain ⟨m, hm, _⟩ := I6.loc
      have hm : s6.heap.Ns ce.locals m := hm
      rw [cL] at hm
      obtain ⟨g0, g1, g2, g3, g4, g5⟩ := I3.fpOk (Nat.le_refl _) fr
      exact ⟨m, hm, fun h'' sb => ⟨.ref D, H5, I7.turned (t' := s6.toks) (fun b o hb e => (sb.2 b hb).trans e) g0 g1 g3 g4 g5, rfl, fin⟩⟩
    · refine thnF (T.item (X.blk s3 H3 sc ce fp) rfl rfl rfl calm i [] s5 _ H5 (fun _ _ => False) I5 (own_ok I5 n5) st5 go) fun r s6 hr => ?_
      obtain ⟨u, rfl, h6⟩ := hr
      refine thnF h6 fun _ s7 h7 => ?_
      obtain ⟨x, H7, I7, r7, y7, st7, n7⟩ := h7
      refine thnF (pg.run _ s7 _ H7 x u _ (I7.pinned (own_ok I7 n7) (T.obj _ _ st7)) r7 (step x H7 y7)) fun _ s8 h8 => ?_
      obtain ⟨σ8, H8, I8, hw8, q8⟩ := h8
      refine thnF (pt.run _ s8 σ8 H8 _ I8 q8) fun b s9 h9 => ?_
      obtain ⟨H9, I9, q9⟩ := h9
      have next : ∀ {s' : Shared} {H' : Hp}, Inv (X.blk s3 H3 sc ce fp) ([] ++ pinsAt fp s7.heap) σ8 H' s' → N H' → ∃ m, m < n ∧ ∃ i H', Inv (X.blk s3 H3 sc ce fp) [] (wipe σ (own.map (·.2))) H' s' ∧ tn i s'.heap ∧ (∀ b ∈ fp, H' b = none) ∧ W i m H' := fun {s' H'} J' nx => by
        obtain ⟨m', lt, w'⟩ := hN' H' nx
        have pin' : ∀ b ∈ fp, ∀ o, s7.heap.get? b = some o → s'.heap.get? b = some o ∧ H' b = none := fun b hb o e => by
          have z := J'.pin (b, o) (List.mem_append_right _ (List.mem_append_right _ (mem_pinsAt hb e)))
          exact ⟨z.1, z.2.1⟩
        have len : (wipe σ (own.map (·.2))).length = σ8.length := (congrArg List.length hw8.symm).trans (wipe_length _ _)
        refine ⟨m', lt, i + 1, H', (J'.unpinned (pins := [])).weak len (fun j v e => (wipe_some (hw8.symm ▸ e)).1), T.keep _ _ _ st7 fun b hb o e => (pin' b hb o e).1, fun b hb => ?_, w'⟩
        obtain ⟨o, e, _⟩ := T.obj _ _ st7 b hb
        exact (pin' b hb o e).2
      cases b with
      | false => exact next I9 (by simpa using q9)
      | true =>
        have q9' := (if_pos rfl) ▸ q9
        refine thnF (pk.run _ s9 σ8 H9 _ I9 q9') fun z s10 h10 => ?_
        obtain ⟨yk, HA, IA, rA, qA⟩ := h10
        refine thnF (pv'.run _ s10 σ8 HA _ IA qA) fun z2 s11 h11 => ?_
        obtain ⟨yv, HB, IB, rB, kvs, d, b1, b2, b3, b4, b5, nx⟩ := h11
        exact d_putN (X := X.blk s3 H3 sc ce fp) hu IB b1 b2 b3 b4 rA rB b5 fun s12 IC => next IC nx
  exact codeAny_compStart_dict loop (T.self X.A 0 _ _ _ st4 loop)
end
end
end FvD


set_option maxHeartbeats 2000000
namespace FvD
open PySem PySem.Spec PyProof.Rows L2 Fv
/-! ### dicts keyed by data: x in d, len(d), dict(pairs), for x in d -/
section
variable {prog : Program} {w : World} {A : Around} {E : Value → Shared → Prop} {s : Shared} {d : Addr} {xs : List KE3} {k : NestedKey} {u : Value}
theorem in_item {Q : Value → Shared → Prop} (hu : A.units + 9 < cLine) (hk : NestedIs s.heap k u) (hkd : k.depth ≤ 8) (hd : (d == sysModules) = false) (hm : NdAt w s.heap d xs) (hn : (xs.map (·.1)).Nodup)
    (his : ∀ x ∈ xs, NestedIs s.heap x.1 x.2.1 ∧ x.1.depth ≤ 8) (h : Q (.bool (valN xs k).isSome) { s with toks := s.toks + k.draws }) : wpAny (model prog w) A (compareOp .In u (.ref d)) Q E s := by
  show wpAny _ _ (do return .bool (← contains (.ref d) u)) Q E s
  refine wpAny_bind ?_
  unfold contains
  try with_reducible refine wpAny_holding ?_
  refine wpAny_bind (wpAny_specialOf hm.ty slot_dict_contains.lookup ?_)
  show wpAny _ _ (if (some (Value.builtin "dict.__contains__") == some Value.none) = true then _ else _) _ E s
  rw [if_neg (by rw [beq_builtin_none]; exact Bool.false_ne_true)]
  refine wpAny_bind (wpAny_callSpecialUnlessNone?_slot (name := Str.ofString "__contains__") hm.ty slot_dict_contains
    (wpAny_call_entry slot_dict_contains hm.ty entry_dict_contains ?_ (args_dict_contains _ _)))
  show wpAny _ _ (dictGet d u >>= _) _ _ s
  refine wpAny_bind (nd_get (A := A.in1) (by show A.units + 1 + 8 < _; omega) hk hkd hm hn his ?_)
  cases hf : valN xs k with
  | some p =>
    rw [hf] at h
    show wpAny _ _ (ret (.bool true)) _ _ _
    exact wpAny_pure ⟨_, rfl, wpAny_truthy_bool (wpAny_pure h)⟩
  | none =>
    rw [hf] at h
    show wpAny _ _ (Builtin.Dict.pendingKey? d u >>= _) _ _ _
    exact wpAny_bind (wpAny_pendingKey_other hd (wpAny_pure ⟨_, rfl, wpAny_truthy_bool (wpAny_pure h)⟩))
theorem meets_dict_lenN (d : Addr) (hd : (d == sysModules) = false) :
    MeetsIn prog w (Builtin.«dict.__len__» ⟨[.ref d], []⟩) (fun _ R s => ∃ xs, NdAt w s.heap d xs ∧ R (.ok (.ret (.int xs.length s.toks))) { s with toks := s.toks + 1 }) :=
  .of_wp fun A R s ⟨xs, hm, h⟩ => by
    obtain ⟨o, es, ep, ho, hc, hdat, he⟩ := hm
    show wpAny _ _ (dictSize d >>= _) _ _ s
    unfold dictSize
    refine wpAny_bind (wpAny_bind (wpAny_dictEntries ho hdat (wpAny_pure ?_)))
    show wpAny _ _ (Builtin.Dict.pendingCount d >>= _) _ _ s
    refine wpAny_bind (wpAny_pendingCount_other hd ?_)
    refine wpAny_ret_mkInt ?_
    rw [Nat.add_zero, ent_size he]; exact h
theorem len_bodyN {Q : Value → Shared → Prop} (hd : (d == sysModules) = false) (hm : NdAt w s.heap d xs) (hfit : (xs.length : Int) < 2 ^ 63)
    (h : Q (.int xs.length (s.toks + 1)) { s with toks := s.toks + 1 + 1 }) : wpAny (model prog w) A (Builtin.«len» ⟨[.ref d], []⟩) (fun fin s' => ∃ r, fin = .done (.ret r) ∧ Q r s') E s := by
  unfold Builtin.«len»
  refine wpAny_bind (m := oneArg "len" _) (wpAny_pure ?_)
  refine wpAny_bind (m := callSpecial? (.ref d) (Str.ofString "__len__")) (wpAny_callSpecial?_slot (name := Str.ofString "__len__") hm.ty F.slot_dict_len
    (call_meetsIn F.slot_dict_len hm.ty F.entry_dict_len (F.args_dict_len_1 _) (meets_dict_lenN d hd) ⟨xs, hm, ?_⟩))
  show wpAny _ _ _ _ _ { s with toks := s.toks + 1 }
  refine wpAny_bind (wpAny_holding (wpAny_pure ?_))
  refine wpAny_bind (wpAny_letGo ?_)
  show wpAny _ _ (if ((xs.length : Nat) : Int) < 0 then _ else _) _ _ _
  rw [if_neg (by omega)]
  show wpAny _ _ (if ((xs.length : Nat) : Int) ≥ 2 ^ 63 then _ else _) _ _ _
  rw [if_neg (by omega)]
  exact wpAny_bind (wpAny_mkInt (wpAny_pure ⟨_, rfl, h⟩))
theorem call_lenN0 {Q : Value → Shared → Prop} (hd : (d == sysModules) = false) (hm : NdAt w s.heap d xs) (hfit : (xs.length : Int) < 2 ^ 63)
    (h : Q (.int xs.length (s.toks + 1)) { s with toks := s.toks + 1 + 1 }) : wpAny (model prog w) A (call (.builtin "len") [.ref d]) Q E s :=
  Calls.call_function_entry kind_len plain_len entry_len (args_len1 _) (len_bodyN hd hm hfit h)
end
theorem relN_some {k : NestedKey} : ∀ {kvs : List NKV} {xs : List KE3}, Paired RelN kvs xs → (valN xs k).isSome = kvs.any fun p => decide (nk p.1 = k)
  | _, _, .nil => rfl
  | _, _, .cons (a := p) (b := q) hp t => by
    have ih := relN_some (k := k) t
    unfold valN at ih ⊢
    rw [List.find?_cons, List.any_cons]
    by_cases c : nk p.1 = k
    · rw [show decide (q.1 = k) = true from decide_eq_true (hp.1.symm.trans c), decide_eq_true c]; rfl
    · rw [show decide (q.1 = k) = false from decide_eq_false (fun z => c (hp.1.trans z)), decide_eq_false c, Bool.false_or]
      exact ih
section
variable {X : Cx} {K : PySem.W.Frag} {w : World} {pins : List (Addr × Obj)} {σ : L2.St} {H : Hp} {s : Shared}
theorem nd_rd (I : Inv X pins σ H s) {a : Addr} {kvs : List NKV} (h : Rd H a (NdO X.w a kvs)) : kvs.length ≤ sizeLine ∧ (a == sysModules) = false ∧ (kvs.map fun p => nk p.1).Nodup ∧ ∃ xs, Paired RelN kvs xs ∧ NdAt X.w s.heap a xs := by
  rcases h with h | ⟨o, h⟩
  · obtain ⟨e, _, _⟩ := I.hok a _ h
    exact e
  · obtain ⟨_, e, _, _⟩ := I.hok a _ h
    exact e
def rInN (K : PySem.W.Frag) (w : World) : R2 := fun x y H Q => ∃ a kvs d, y = .ref a ∧ Rd H a (NdO w a kvs) ∧ KyOk K H kvs ∧ kd 8 d = true ∧ Dp K H x d ∧ Q (.bl (kvs.any fun p => decide (nk p.1 = nk d))) H
theorem op_inN (hK : X.K = K) (hw : X.w = w) (hu : X.A.units + 9 < cLine) : OpR X (compareOp .In) (rInN K w) := by
  subst hK hw
  intro pins s σ H x y v u Q I rx ry h
  obtain ⟨a, kvs, d, rfl, ha, hk, hd, hx, q⟩ := h
  obtain rfl : u = Value.ref a := ry
  obtain ⟨z, hs, hn, xs, pr, hm⟩ := nd_rd I ha
  refine in_item hu (dp_key I 8 d x v hd hx rx) (kd_depth 8 d hd) hs hm (by rw [← relN_keys pr]; exact hn) (relN_is I pr hk) ?_
  rw [relN_some pr]
  exact ⟨.bl _, H, I.tok _, rfl, q⟩
def rLenN (w : World) : List V → Hp → VK → Prop := fun xs H Q => ∃ (p : Addr) (kvs : List NKV), xs = [.ref p] ∧ Rd H p (NdO w p kvs) ∧ Q (.int ((kvs.length : Nat) : Int)) H
theorem call_lenN (hw : X.w = w) : CallR X (.builtin "len") (rLenN w) := by
  subst hw
  intro pins s σ H xs us Q I r h
  obtain ⟨p, kvs, rfl, hp, q⟩ := h
  obtain ⟨u, rfl, rx⟩ := vals1 r
  obtain rfl : u = .ref p := rx
  obtain ⟨z, hs, hn, ys, pr, hm⟩ := nd_rd I hp
  have hl : kvs.length = ys.length := Paired.length pr
  refine call_lenN0 hs hm (by rw [← hl]; rw [sizeLine_eq] at z; omega) ?_
  rw [← hl]
  exact ⟨.int ((kvs.length : Nat) : Int), H, I.tok _, ⟨_, rfl⟩, q⟩
end
/-! ### for x in d, the dict locked -/
def ItN (w : World) (d : Addr) (o : Obj) (kvs : List NKV) : It :=
  ⟨fun i H => H d = some (.frz o (NdO w d kvs)) ∧ i < kvs.length, fun i H x H' => H' = H ∧ ∃ p, kvs[i]? = some p ∧ x = p.2.1, fun i H => H d = some (.frz o (NdO w d kvs)) ∧ kvs.length ≤ i⟩
theorem walk_N {w : World} {d : Addr} {o : Obj} {kvs : List NKV} : Walk (ItN w d o kvs) kvs.length (fun H => H d = some (.frz o (NdO w d kvs))) (fun i H x H' => H' = H ∧ ∃ p, kvs[i]? = some p ∧ x = p.2.1) :=
  ⟨fun _ _ hi q => ⟨q, hi⟩, fun _ q => ⟨q, Nat.le_refl _⟩, fun _ _ _ _ _ _ y => y⟩
section
variable {X : Cx} {pins : List (Addr × Obj)} {σ : L2.St} {H : Hp} {s : Shared} {d : Addr} {o : Obj}
theorem frzN {kvs : List NKV} (I : Inv X pins σ H s) (h : H d = some (.frz o (NdO X.w d kvs))) :
    (d == sysModules) = false ∧ s.heap.get? d = some o ∧ o.ExactDict ∧ ∃ (es : Array DictEntry) (ep : Nat), o.data = .dict es ep ∧ es.size = kvs.length ∧
      ∀ (i : Nat) (p : NKV), kvs[i]? = some p → ∃ en : DictEntry, es[i]? = some en ∧ RelV p.2.1 en.key := by
  obtain ⟨hd, ⟨z, hs, hn, xs, pr, o', es, ep, ho, hx, hdt, he⟩, _, _⟩ := I.hok d _ h
  rw [hd] at ho
  cases ho
  refine ⟨hs, hd, hx, es, ep, hdt, ?_, fun i p e => ?_⟩
  · have l1 : es.size = xs.length := ent_size he
    have l2 : kvs.length = xs.length := Paired.length pr
    omega
  · obtain ⟨b, hb, e1, e2, _⟩ := paired_get pr e
    have q := ent_at (w := X.w) he i
    rw [hb] at q
    exact ⟨_, q, e2⟩
end
section
variable {P : Program} {w : World} {K : PySem.W.Frag} {tg : Expr} {d : Addr} {o : Obj} {es : Array DictEntry} {ep : Nat}
theorem turn_N {kvs : List NKV} (it : Addr) (hod : o.data = .dict es ep) : Turn P w K tg (ItN w d o kvs) [it] it (fun i h => h.IsKeyIter it d i kvs.length ep) where
  mem := by simp
  obj := fun i h st b hb => by
    have e : b = it := by simpa using hb
    subst e
    obtain ⟨oi, e, c, dd⟩ := st
    exact ⟨oi, e, fun v z => by rw [dd] at z; cases z⟩
  keep := fun i h h' st k => st.at fun oi e => k it (by simp) oi e
  item := by
    intro X hP hw hK hc i pins s σ H E I hf st hg
    subst hP hw hK
    obtain ⟨hd, hi⟩ := hg
    obtain ⟨f0, f1, f2, f3, f4, f5⟩ := hf it (by simp)
    obtain ⟨hs, hgd, hx, es', ep', hdt, hsz, ent⟩ := frzN I hd
    obtain ⟨rfl, rfl⟩ := dict_ep hod hdt
    obtain ⟨p, hp⟩ : ∃ p, kvs[i]? = some p := ⟨kvs[i], List.getElem?_eq_getElem hi⟩
    obtain ⟨en, hen, hkey⟩ := ent i p hp
    refine next_key_item st hgd hdt hsz hen fun h' st' sb => ?_
    have I1 : Inv X pins σ H { s with heap := h' } := I.turned (t' := s.toks) (fun b ob hb e => (sb.2 b hb).trans e) f0 f1 f3 f4 f5
    obtain ⟨oi, e, c, dd⟩ := id st'
    exact ⟨en.key, rfl, go_of (s := { s with heap := h' }) e c dd (by decide) ⟨p.2.1, H, I1, hkey, ⟨rfl, p, hp, rfl⟩, st', fun b hb => (hf b hb).1⟩⟩
  done := by
    intro X hP hw hK hc i pins s σ H E I hf st hg
    subst hP hw hK
    obtain ⟨hd, hi⟩ := hg
    obtain ⟨f0, f1, f2, f3, f4, f5⟩ := hf it (by simp)
    obtain ⟨hs, hgd, hx, es', ep', hdt, hsz, ent⟩ := frzN I hd
    obtain ⟨rfl, rfl⟩ := dict_ep hod hdt
    exact next_key_end (I.ok.hd hc) st hgd hdt hsz hi fun h' eb => ⟨rfl, I.turned (t' := s.toks) (fun b ob hb e => eb b ob hb e) f0 f1 f3 f4 f5⟩
  self := fun A i s Q E st h => by
    refine wpAny_pyIter_slot st.typeIs F.slot_dict_keyiterator_iter (wpAny_call_entry F.slot_dict_keyiterator_iter st.typeIs F.entry_dict_keyiterator_iter ?_ (F.args_dict_keyiterator_iter_1 _))
    show wpAny _ _ (ret (.ref it)) _ _ s
    exact wpAny_pure ⟨_, rfl, "dict_keyiterator", _, st.typeIs, F.slot_dict_keyiterator_next.lookup, h⟩
end
def iKeysN (w : World) (td : TE) : TI := fun σ H R => td σ H fun x H1 => ∃ d o kvs, x = .ref d ∧ H1 d = some (.frz o (NdO w d kvs)) ∧ R (ItN w d o kvs) H1
theorem pi_keysN {X : Cx} {w : World} {tg e : Expr} {td : TE} (hw : X.w = w) (he : PE X e td) : PI X tg e (iKeysN w td) := by
  subst hw
  refine ⟨fun pins s σ H R I h => ?_⟩
  refine thn (he.run pins s σ H _ I h) fun u s1 ⟨x, H1, I1, rx, d, o, kvs, ex, hd, q⟩ => ?_
  subst ex
  obtain rfl : u = Value.ref d := rx
  obtain ⟨hs, hgd, hx, es, ep, hdt, hsz, ent⟩ := frzN I1 hd
  refine iter_keys hs hgd hx hdt (pi_one (tk := s1.toks) I1 _ (turn_N _ hdt) ⟨_, Heap.get?_push_size _ rfl, rfl, ?_⟩ q)
  rw [hsz] <;> rfl
/-! ### dict(list of pairs) -/
def mergedN : List KE3 → List KE3 → List KE3
  | acc, [] => acc
  | acc, q :: rest => mergedN (storedN acc q.1 q.2.1 q.2.2) rest
theorem storedN_len (xs : List KE3) (k : NestedKey) (u v : Value) : (storedN xs k u v).length ≤ xs.length + 1 := by
  unfold storedN
  split
  · rw [List.length_map]; omega
  · rw [List.length_append]; simp
theorem storedN_mem {R : KE3 → Prop} {xs : List KE3} {k : NestedKey} {u v : Value} (h : ∀ x ∈ xs, R x) (hr : ∀ x : KE3, R x → R (x.1, x.2.1, v)) (hk : R (k, u, v)) : ∀ x ∈ storedN xs k u v, R x := by
  unfold storedN
  split
  · intro x hx
    obtain ⟨y, hy, rfl⟩ := List.mem_map.mp hx
    split
    · exact hr y (h y hy)
    · exact h y hy
  · intro x hx
    rcases List.mem_append.mp hx with z | z
    · exact h x z
    · rw [List.mem_singleton.mp z]; exact hk
theorem storedN_keys (xs : List KE3) (k : NestedKey) (u v : Value) (h : (xs.map (·.1)).Nodup) : ((storedN xs k u v).map (·.1)).Nodup := by
  unfold storedN
  split
  · rw [List.map_map]
    have e : ((fun x : KE3 => x.1) ∘ fun x => if x.1 = k then (x.1, x.2.1, v) else x) = fun x => x.1 := by
      funext x
      show (if x.1 = k then (x.1, x.2.1, v) else x).1 = x.1
      split <;> rfl
    rw [e]; exact h
  · rename_i c
    rw [List.map_append, List.nodup_append]
    refine ⟨h, by simp, fun a ha b hb z => c ?_⟩
    obtain ⟨x, hx, rfl⟩ := List.mem_map.mp ha
    exact any_key.mpr ⟨x, hx, z.trans (by simpa using hb)⟩
section
variable {prog : Program} {w : World} {A : Around} {E : Value → Shared → Prop}
theorem nis_but {h h' : Heap} {S : Addr} (hs : ∀ o vs n, h.get? S = some o → o.data ≠ .seq vs n) (eb : ∀ b o, b ≠ S → h.get? b = some o → h'.get? b = some o) {k : NestedKey} {u : Value} (x : NestedIs h k u) : NestedIs h' k u :=
  NestedIs.at (fun a o vs n e ed => eb a o (fun z => hs o vs n (z ▸ e) ed) e) k u x
/-- the walk over the pairs -/
theorem upd_loopN {R : Result → Shared → Prop} {S I l : Addr} {items : Array Value} {res : Value} (hu : A.units + 9 < cLine) (hh : A.handled = none) (hlI : l ≠ I) (hSI : S ≠ I) (hSl : S ≠ l) :
    ∀ (rest : List KE3) (i : Nat) (acc : List KE3) (ix : Int) (t : Tok) (s : Shared), items.size = i + rest.length → acc.length + rest.length ≤ sizeLine →
      (∀ (j : Nat) (q : KE3), rest[j]? = some q → ∃ b : Addr, items[i + j]? = some (.ref b) ∧ b ≠ S ∧ b ≠ I ∧ IsTup s.heap b #[q.2.1, q.2.2] ∧ NestedIs s.heap q.1 q.2.1 ∧ q.1.depth ≤ 8) →
      (acc.map (·.1)).Nodup → (∀ x ∈ acc, NestedIs s.heap x.1 x.2.1 ∧ x.1.depth ≤ 8) →
      s.heap.IsListIter I l i → s.heap.IsList l items → NdAt w s.heap S acc →
      (∀ h' tk, NdAt w h' S (mergedN acc rest) → (∀ b o, b ≠ S → b ≠ I → s.heap.get? b = some o → h'.get? b = some o) → R (.ok (.ret res)) { s with heap := h', toks := tk }) →
      codeAny (model prog w) A (.builtin "dict.update.loop" ⟨[.ref S, .ref I, .int ix t, res], []⟩) R s
  | [], i, acc, ix, t, s, hsz, hln, ht, hn, his, hit, hl, hm, hR => by
    refine codeAny_builtin ud_entry ?_
    rw [Around.under_plainId ud_plain _]
    show wpAny _ A.in1 (pyNext (.ref I) >>= _) _ _ s
    refine wpAny_bind (wpAny_pyNext_list_end (A := A.in1) hh hit hl (by first | exact Array.getElem?_eq_none (Nat.le_of_eq hsz) | (simp at hsz; simp; omega)) fun h' he => ?_)
    show wpAny _ A.in1 (Builtin.Dict.addKeywords S [] >>= _) _ _ _
    refine wpAny_bind (wpAny_pure (wpAny_pure ?_))
    obtain ⟨o, es, ep, ho, hx, hdt, hes⟩ := hm
    exact hR h' s.toks ⟨o, es, ep, he S o hSI ho, hx, hdt, hes⟩ fun b o _ hb e => he b o hb e
  | q :: rest, i, acc, ix, t, s, hsz, hln, ht, hn, his, hit, hl, hm, hR => by
    obtain ⟨b, hb, hbS, hbI, htup, hk, hkd⟩ := ht 0 q rfl
    rw [List.length_cons] at hsz hln
    refine codeAny_builtin ud_entry ?_
    rw [Around.under_plainId ud_plain _]
    show wpAny _ A.in1 (pyNext (.ref I) >>= _) _ _ s
    have hIs : ∀ o vs n, s.heap.get? I = some o → o.data ≠ .seq vs n := fun o vs n e z => by
      obtain ⟨oi, e', c, dd⟩ := id hit
      rw [e'] at e
      cases e
      rw [dd] at z
      cases z
    refine wpAny_bind (wpAny_pyNext_list_item (x := .ref b) hit hl (by simpa using hb) fun h1 hit1 hs1 => ?_)
    have ht1 : IsTup h1 b #[q.2.1, q.2.2] := htup.extBut hs1.extBut hbI
    have hl1 : h1.IsList l items := hl.extBut hs1.extBut hlI
    have hm1 : NdAt w h1 S acc := by
      obtain ⟨o, es, ep, ho, hx, hdt, hes⟩ := hm
      exact ⟨o, es, ep, hs1.extBut S o hSI ho, hx, hdt, hes⟩
    have up1 : ∀ {k : NestedKey} {u : Value}, NestedIs s.heap k u → NestedIs h1 k u := fun x => nis_but hIs (fun b o hb e => hs1.extBut b o hb e) x
    obtain ⟨o, ho, hc, n, hd⟩ := id ht1
    show wpAny _ A.in1 (holding [Value.ref b] _ >>= _) _ _ _
    refine wpAny_bind (wpAny_holding ?_)
    refine wpAny_bind (wpAny_tryCatch ?_)
    unfold Builtin.Dict.pairItems
    refine wpAny_bind (wpAny_typeOf (T := "tuple") ⟨o, ho, hc⟩ ?_)
    rw [if_pos (by first | decide | rfl | simp)]
    refine wpAny_bind (wpAny_seqItems ho hd (wpAny_pure ?_))
    show wpAny _ A.in1 (holding [q.2.1, q.2.2] (dictSet S q.2.1 q.2.2)) _ _ _
    refine wpAny_holding (nd_set (A := A.in1) (k := q.1) (by show A.units + 1 + 8 < _; omega) (up1 hk) hkd hm1 hn (fun x hx => ⟨up1 (his x hx).1, (his x hx).2⟩) (by omega) fun h2 hm2 hs2 => ?_)
    have hSs : ∀ o vs n, h1.get? S = some o → o.data ≠ .seq vs n := fun o vs n e z => by
      obtain ⟨o', es, ep, ho', hx, hdt, hes⟩ := hm1
      rw [ho'] at e
      cases e
      rw [hdt] at z
      cases z
    have up2 : ∀ {k : NestedKey} {u : Value}, NestedIs s.heap k u → NestedIs h2 k u := fun x => nis_but hSs (fun b o hb e => hs2.extBut b o hb e) (up1 x)
    refine wpAny_pure ⟨plainId_quiet ud_plain _, upd_loopN (items := items) hu hh hlI hSI hSl rest (i + 1) (storedN acc q.1 q.2.1 q.2.2) (ix + 1) 0 _ (show items.size = i + 1 + rest.length by omega) ?_ (fun j q' e => ?_) (storedN_keys _ _ _ _ hn) (storedN_mem (R := fun x => NestedIs h2 x.1 x.2.1 ∧ x.1.depth ≤ 8) (fun x hx => ⟨up2 (his x hx).1, (his x hx).2⟩) (fun x h => h) ⟨up2 hk, hkd⟩) ?_ ?_ hm2 fun h' tk hd' k => ?_⟩
    · have z := storedN_len acc q.1 q.2.1 q.2.2
      omega
    · obtain ⟨b', hb', hbS', hbI', htup', hk', hkd'⟩ := ht (j + 1) q' (by simpa using e)
      refine ⟨b', ?_, hbS', hbI', (htup'.extBut hs1.extBut hbI').extBut hs2.extBut hbS', up2 hk', hkd'⟩
      rw [show i + 1 + j = i + (j + 1) by omega]
      exact hb'
    · exact hit1.at fun o' e => hs2.extBut I o' (Ne.symm hSI) e
    · exact hl1.extBut hs2.extBut (Ne.symm hSl)
    · exact hR h' tk hd' fun c oc h3 h4 e => k c oc h3 h4 (hs2.extBut c oc h3 (hs1.extBut c oc h4 e))
/-- dict(l) of a list of pairs -/
theorem call_dict_pairsN {s : Shared} {l : Addr} {ol : Obj} {items : Array Value} {n : Nat} {prs : List KE3} {Q : Value → Shared → Prop} (hu : A.units + 10 < cLine) (hh : A.handled = none) (hl : s.heap.get? l = some ol) (hc : ol.cls = .type "list") (hd : ol.dict = none)
    (hdat : ol.data = .seq items n) (hsz : items.size = prs.length) (hln : prs.length ≤ sizeLine)
    (ht : ∀ (j : Nat) (q : KE3), prs[j]? = some q → ∃ b : Addr, items[j]? = some (.ref b) ∧ IsTup s.heap b #[q.2.1, q.2.2] ∧ NestedIs s.heap q.1 q.2.1 ∧ q.1.depth ≤ 8)
    (h : ∀ h' tk, NdAt w h' s.heap.objs.size (mergedN [] prs) → (∀ b o, s.heap.get? b = some o → h'.get? b = some o) → Q (.ref s.heap.objs.size) { s with heap := h', toks := tk }) :
    wpAny (model prog w) A (call (.type "dict") [.ref l]) Q E s := by
  refine callType_codes (Q₁ := fun obj s₁ => obj = .ref s.heap.objs.size ∧ s₁ = { s with heap := s.heap.push { cls := .type "dict", data := .dict #[] } }) PySem.F.kt_called_dict (PySem.F.kt_typeCall_dict_1 _) PySem.F.entry_dict_init (kt_code_dict_new _ ⟨rfl, rfl⟩) ?_
  rintro obj s₁ ⟨rfl, rfl⟩
  have hnew : NdAt w (s.heap.push { cls := .type "dict", data := .dict #[] }) s.heap.objs.size [] := ⟨_, #[], 0, Heap.get?_push_size _ rfl, ⟨rfl, rfl, rfl⟩, rfl, rfl⟩
  have hty : ({ s with heap := s.heap.push { cls := .type "dict", data := .dict #[] } } : Shared).TypeIs (.ref s.heap.objs.size) "dict" := hnew.ty
  have k0 : ∀ b o, s.heap.get? b = some o → (s.heap.push { cls := .type "dict", data := .dict #[] }).get? b = some o := fun b o e => Heap.get?_push_of_some _ e
  refine ⟨hty, PySem.F.args_dict_init_2 _ _, ?_⟩
  unfold Builtin.«dict.__init__»
  refine wpAny_bind ?_
  unfold Builtin.Dict.selfAndRest
  refine wpAny_bind (wpAny_notOrdered_dict hty ?_)
  show wpAny _ _ (pure (s.heap.objs.size, [Value.ref l])) _ _ _
  refine wpAny_pure ?_
  show wpAny _ _ (Builtin.Dict.updateFrom "dict.__init__" s.heap.objs.size (.ref l) [] .none) _ _ _
  unfold Builtin.Dict.updateFrom
  refine wpAny_bind (wpAny_typeOf (T := "list") ⟨ol, k0 _ _ hl, hc⟩ ?_)
  rw [if_pos (by first | decide | rfl | simp)]
  refine wpAny_bind (miss_list (k0 _ _ hl) hc hdat hd hh fun h1 tk1 hk1 => ?_)
  rw [if_pos (show (none : Option Value).isNone = true from rfl)]
  refine wpAny_bind (wpAny_rule ?_)
  have hl1 : h1.IsList l items := ⟨ol, hk1 _ _ (k0 _ _ hl), hc, n, hdat⟩
  have hS1 : s.heap.objs.size < h1.objs.size := by
    have e : (s.heap.push { cls := .type "dict", data := .dict #[] }).get? s.heap.objs.size = some { cls := .type "dict", data := .dict #[] } := Heap.get?_push_size _ rfl
    exact Heap.lt_size (hk1 _ _ e)
  refine wpAny_bind (wpAny_pyIter_list hl1 ?_)
  have k2 : ∀ b o, h1.get? b = some o → (h1.push { cls := .type "list_iterator", data := .fields #[.ref l, .int 0 0] }).get? b = some o := fun b o e => Heap.get?_push_of_some _ e
  have hlt : l < s.heap.objs.size := Heap.lt_size hl
  have upK : ∀ {k : NestedKey} {u : Value}, NestedIs s.heap k u → NestedIs (h1.push { cls := .type "list_iterator", data := .fields #[.ref l, .int 0 0] }) k u := fun x => NestedIs.at (fun a o vs n e _ => k2 _ _ (hk1 _ _ (k0 _ _ e))) _ _ x
  have key := upd_loopN (prog := prog) (w := w) (A := A.in1) (R := wants (fun r s₂ => r = .none ∧ Q (.ref s.heap.objs.size) s₂) E) (S := s.heap.objs.size) (I := h1.objs.size) (l := l) (items := items) (res := Value.none) (by show A.units + 1 + 9 < _; omega) hh
    (Nat.ne_of_lt (Nat.lt_trans hlt hS1)) (Nat.ne_of_lt hS1) (Nat.ne_of_gt hlt) prs 0 [] 0 0
    { s with heap := h1.push { cls := .type "list_iterator", data := .fields #[.ref l, .int 0 0] }, toks := tk1 } (by rw [hsz, Nat.zero_add]) (by rw [List.length_nil, Nat.zero_add]; exact hln)
    (fun j q e => by
      obtain ⟨b, e1, e2, e3, e4⟩ := ht j q e
      have hb : b < s.heap.objs.size := e2.lt
      exact ⟨b, by rw [Nat.zero_add]; exact e1, Nat.ne_of_lt hb, Nat.ne_of_lt (Nat.lt_trans hb hS1), e2.keeps fun c o z => k2 _ _ (hk1 _ _ (k0 _ _ z)), upK e3, e4⟩)
    List.nodup_nil (fun x hx => nomatch hx)
    ⟨_, Heap.get?_push_size _ rfl, rfl, rfl⟩ (hl1.at fun o e => k2 _ _ e) (let ⟨o, es, ep, ho, r⟩ := hnew; ⟨o, es, ep, k2 _ _ (hk1 _ _ ho), r⟩)
    (fun h' tk hd' k => ⟨rfl, h h' tk hd' fun b o e => k b o (Nat.ne_of_lt (Heap.lt_size e)) (Nat.ne_of_lt (Nat.lt_trans (Heap.lt_size e) hS1)) (k2 _ _ (hk1 _ _ (k0 _ _ e)))⟩)
  first
    | exact wpAny_pure ⟨plainId_quiet ud_plain _, key⟩
    | exact wpAny_bind (wpAny_pure (wpAny_pure ⟨plainId_quiet ud_plain _, key⟩))
end
def mergeN : List NKV → List NKV → List NKV
  | acc, [] => acc
  | acc, q :: rest => mergeN (putN acc q.1 q.2.1 q.2.2) rest
theorem mergeN_len : ∀ (rest acc : List NKV), (mergeN acc rest).length ≤ acc.length + rest.length
  | [], acc => Nat.le_refl _
  | q :: rest, acc => by
    have := mergeN_len rest (putN acc q.1 q.2.1 q.2.2)
    have := putN_len acc q.1 q.2.1 q.2.2
    show (mergeN (putN acc q.1 q.2.1 q.2.2) rest).length ≤ _
    rw [List.length_cons]
    omega
theorem mergeN_keys : ∀ (rest acc : List NKV), (acc.map fun p => nk p.1).Nodup → ((mergeN acc rest).map fun p => nk p.1).Nodup
  | [], acc, h => h
  | q :: rest, acc, h => mergeN_keys rest _ (putN_keys acc q.1 q.2.1 q.2.2 h)
theorem relN_merge : ∀ {rest : List NKV} {rs : List KE3}, Paired RelN rest rs → ∀ {acc : List NKV} {xs : List KE3}, Paired RelN acc xs → Paired RelN (mergeN acc rest) (mergedN xs rs)
  | _, _, .nil, _, _, h => h
  | _, _, .cons (a := p) (b := q) hp t, acc, xs, h => by
    have z := relN_put (d := p.1) h hp.2.1 hp.2.2
    rw [hp.1] at z
    exact relN_merge t z
section
variable {X : Cx}
theorem pairsN_of {K : PySem.W.Frag} {pins : List (Addr × Obj)} {σ : L2.St} {H : Hp} {s : Shared} (hK : X.K = K) (I : Inv X pins σ H s) : ∀ {ps : List Addr} {kvs : List NKV}, Paired (fun p kv => SqT K H p [kv.2.1, kv.2.2] ∧ kd 8 kv.1 = true ∧ Dp K H kv.2.1 kv.1) ps kvs →
    ∃ prs : List KE3, Paired RelN kvs prs ∧ prs.length = ps.length ∧ ∀ (j : Nat) (q : KE3), prs[j]? = some q → ∃ b : Addr, ps[j]? = some b ∧ IsTup s.heap b #[q.2.1, q.2.2] ∧ NestedIs s.heap q.1 q.2.1 ∧ q.1.depth ≤ 8
  | _, _, .nil => ⟨[], .nil, rfl, fun j q e => by simp at e⟩
  | _, _, .cons (a := p) (b := kv) h t => by
    subst hK
    obtain ⟨prs, r, hl, hp⟩ := pairsN_of rfl I t
    obtain ⟨its, rv, ht, _⟩ := I.tuple h.1
    obtain ⟨u, y, ei, ru, ry⟩ := vals2 rv
    subst ei
    refine ⟨(nk kv.1, u, y) :: prs, .cons ⟨rfl, ru, ry⟩ r, by rw [List.length_cons, List.length_cons, hl], fun j q e => ?_⟩
    cases j with
    | zero =>
      have e' : (nk kv.1, u, y) = q := Option.some.inj e
      subst e'
      exact ⟨p, rfl, ht, dp_key I 8 _ _ _ h.2.1 h.2.2 ru, kd_depth 8 _ h.2.1⟩
    | succ j =>
      obtain ⟨b, e1, e2⟩ := hp j q (by simpa using e)
      exact ⟨b, by simpa using e1, e2⟩
def rDictN (K : PySem.W.Frag) (w : World) : List V → Hp → VK → Prop := fun xs H Q => ∃ (a : Addr) (ps : List Addr) (kvs : List NKV), xs = [.ref a] ∧ SqL K H a (ps.map V.ref) ∧ Paired (fun p kv => SqT K H p [kv.2.1, kv.2.2] ∧ kd 8 kv.1 = true ∧ Dp K H kv.2.1 kv.1) ps kvs ∧
    ∀ p, H p = none → Q (.ref p) (upd H p (NdO w p (mergeN [] kvs)))
theorem call_dictN (hu : X.A.units + 10 < cLine) (hcalm : X.calm = true) : CallR X (.type "dict") (rDictN X.K X.w) := by
  intro pins s σ H xs us Q I r q
  obtain ⟨a, ps, kvs, ex, hq, hp, q⟩ := q
  subst ex
  obtain ⟨u, eu, rx⟩ := vals1 r
  subst eu
  cases rx
  obtain ⟨its, rv, pl, hz⟩ := I.list hq
  have ei := refs_at rv
  subst ei
  rw [List.length_map] at hz
  obtain ⟨prs, rel, hl, hpr⟩ := pairsN_of rfl I hp
  obtain ⟨o, n, ho, hc, hd, hdat⟩ := pl
  refine call_dict_pairsN (prs := prs) hu (I.ok.hd hcalm) ho hc hd hdat (by simp [hl]) (by rw [hl]; exact hz) (fun j q' e => ?_) fun h' tk hd' k => ?_
  · obtain ⟨b, e1, e2⟩ := hpr j q' e
    exact ⟨b, by simp [e1], e2⟩
  · have hm : (s.heap.objs.size == sysModules) = false := beq_eq_false_iff_ne.mpr (Nat.ne_of_gt I.big)
    have hlen : (mergeN [] kvs).length ≤ sizeLine := by
      refine Nat.le_trans (mergeN_len kvs []) ?_
      have e := Paired.length rel
      rw [List.length_nil, Nat.zero_add, e, hl]
      exact hz
    exact ⟨.ref s.heap.objs.size, upd H s.heap.objs.size (NdO X.w s.heap.objs.size (mergeN [] kvs)), I.laid (t' := tk) k (Nat.le_refl _) (ndO_ok hlen hm (mergeN_keys _ _ List.nodup_nil) (relN_merge rel .nil) hd'), rfl, q _ (I.hok.fresh (Nat.le_refl _))⟩
end
end FvD


set_option maxHeartbeats 2000000
/-! x not in d, d keyed by data -/
namespace FvD
open PySem PySem.Spec PyProof.Rows L2 Fv
theorem notin_item {prog : Program} {w : World} {A : Around} {E : Value → Shared → Prop} {s : Shared} {d : Addr} {xs : List KE3} {k : NestedKey} {u : Value} {Q : Value → Shared → Prop} (hu : A.units + 9 < cLine) (hk : NestedIs s.heap k u) (hkd : k.depth ≤ 8) (hd : (d == sysModules) = false) (hm : NdAt w s.heap d xs) (hn : (xs.map (·.1)).Nodup)
    (his : ∀ x ∈ xs, NestedIs s.heap x.1 x.2.1 ∧ x.1.depth ≤ 8) (q : Q (.bool (!(valN xs k).isSome)) { s with toks := s.toks + k.draws }) : wpAny (model prog w) A (compareOp .NotIn u (.ref d)) Q E s := by
  show wpAny _ _ (contains (.ref d) u >>= fun b => pure (.bool (!b))) Q E s
  refine wpAny_bind ?_
  unfold contains
  try with_reducible refine wpAny_holding ?_
  refine wpAny_bind (wpAny_specialOf hm.ty slot_dict_contains.lookup ?_)
  show wpAny _ _ (if (some (Value.builtin "dict.__contains__") == some Value.none) = true then _ else _) _ E s
  rw [if_neg (by rw [beq_builtin_none]; exact Bool.false_ne_true)]
  refine wpAny_bind (wpAny_callSpecialUnlessNone?_slot (name := Str.ofString "__contains__") hm.ty slot_dict_contains
    (wpAny_call_entry slot_dict_contains hm.ty entry_dict_contains ?_ (args_dict_contains _ _)))
  show wpAny _ _ (dictGet d u >>= _) _ _ s
  have room : A.in1.units + 8 < cLine := by show A.units + 1 + 8 < _; omega
  refine wpAny_bind (nd_get (A := A.in1) room hk hkd hm hn his ?_)
  cases hf : valN xs k with
  | none =>
    rw [hf] at q
    show wpAny _ _ (Builtin.Dict.pendingKey? d u >>= _) _ _ _
    exact wpAny_bind (wpAny_pendingKey_other hd (wpAny_pure ⟨_, rfl, wpAny_truthy_bool (wpAny_pure q)⟩))
  | some p =>
    rw [hf] at q
    show wpAny _ _ (ret (.bool true)) _ _ _
    exact wpAny_pure ⟨_, rfl, wpAny_truthy_bool (wpAny_pure q)⟩
def rNotInN (K : PySem.W.Frag) (w : World) : R2 := fun x y H Q => ∃ a kvs d, y = .ref a ∧ Rd H a (NdO w a kvs) ∧ KyOk K H kvs ∧ kd 8 d = true ∧ Dp K H x d ∧ Q (.bl (!kvs.any fun p => decide (nk p.1 = nk d))) H
theorem op_notInN {X : Cx} {K : PySem.W.Frag} {w : World} (hK : X.K = K) (hw : X.w = w) (hu : X.A.units + 9 < cLine) : OpR X (compareOp .NotIn) (rNotInN K w) := by
  subst hK hw
  intro pins s σ H x y v u Q I rx ry h
  obtain ⟨a, kvs, d, rfl, ha, hk, hd, hx, q⟩ := h
  obtain rfl : u = Value.ref a := ry
  obtain ⟨z, hs, hn, xs, pr, hm⟩ := nd_rd I ha
  refine notin_item hu (dp_key I 8 d x v hd hx rx) (kd_depth 8 d hd) hs hm (by rw [← relN_keys pr]; exact hn) (relN_is I pr hk) ?_
  rw [relN_some pr]
  exact ⟨.bl _, H, I.tok _, rfl, q⟩
end FvD


namespace FvW
open PySem PySem.Spec PyProof.Rows L2
/-! ### enumerate of a tuple -/
set_option maxHeartbeats 1000000 in
theorem new_enum {v : Value} {o : Obj} {B : Heap → Prop} (b : Begins v o B) : Meets (Builtin.«enumerate.__new__» ⟨[.type "enumerate", v], []⟩) (fun _ R s => B s.heap ∧ R (.ok (.ret (.ref (s.heap.push o).objs.size))) { s with heap := (s.heap.push o).push { cls := .type "enumerate", data := .fields #[.none, .bool false, .ref s.heap.objs.size, rawInt 0, .none, .none] } }) :=
  .of_wp fun prog w A R s z => by
    have hsub := sub_enumerate
    obtain ⟨hp, g, d, tk, os⟩ := s
    have it1 : ∀ {A' : Around} {E : Value → Shared → Prop} {Q : Value → Shared → Prop}, Q (.ref hp.objs.size) ⟨hp.push o, g, d, tk, os⟩ → wpAny (model prog w) A' (pyIter v) Q E ⟨hp, g, d, tk, os⟩ := fun q => b.iter prog w _ _ ⟨hp, g, d, tk, os⟩ _ z.1 q
    have fin := z.2
    wp_walk using it1
    refine wpAny_stack_any fun st => wpAny_pure ?_
    split
    next c _ _ _ _ _ =>
      cases (c == Value.type "enumerate") <;> (wp_walk using it1; exact ⟨_, rfl, fin⟩)
    next => wp_walk using it1; exact ⟨_, rfl, fin⟩
section
variable {P : Program} {w : World} {A : Around} {E : Value → Shared → Prop} {s : Shared}
theorem enum1 {v : Value} {o : Obj} {B : Heap → Prop} {Q : Value → Shared → Prop} (b : Begins v o B) (hb : B s.heap)
    (q : ∀ h1, IsEnum h1 (s.heap.objs.size + 1) s.heap.objs.size 0 .none → h1.get? s.heap.objs.size = some o → (∀ c x, s.heap.get? c = some x → h1.get? c = some x) → Q (.ref (s.heap.objs.size + 1)) { s with heap := h1 }) :
    wpAny (model P w) A (call (.type "enumerate") [v]) Q E s := by
  refine callType_new F.called_enumerate (by decide) (F.typeCall_enumerate_1 v) (F.newCall_enumerate_1 v) (fun obj => F.args_object_init_2 obj v) F.entry_enumerate_new (new_enum b) ⟨hb, ?_⟩
  have z1 : (s.heap.push o).objs.size = s.heap.objs.size + 1 := Heap.size_push ..
  have at1 := Heap.get?_push_size (s.heap.push o) (o := { cls := .type "enumerate", data := .fields #[.none, .bool false, .ref s.heap.objs.size, rawInt 0, .none, .none] }) rfl
  rw [z1] at at1
  show _ ∧ _
  rw [z1]
  exact ⟨⟨_, at1, rfl⟩, q _ at1 (Heap.get?_push_of_some _ (Heap.get?_push_size _ b.free)) fun c x e => Heap.get?_push_of_some _ (Heap.get?_push_of_some _ e)⟩
end
/-- behind the last item -/
theorem draws_end {P : Program} {w : World} {A : Around} (hh : A.handled = none) (it t : Addr) (items : Array Value) (i : Nat) (hi : items.size ≤ i) :
    Draws P w A it [it, t] i (fun _ _ => False) (fun j h => j = i ∧ h.IsTupleIter it t i ∧ h.IsTuple t items) where
  live := fun _ _ st => let ⟨o, ho, _⟩ := st.2.1; ⟨o, ho⟩
  frame := fun _ _ _ st hk => ⟨st.1, st.2.1.at fun o e => hk it (List.mem_cons_self ..) o e, st.2.2.at fun o e => hk t (List.mem_cons_of_mem _ (List.mem_singleton.mpr rfl)) o e⟩
  item := fun j s Q E hj st _ => by
    have := st.1
    omega
  done := fun s Q E st hE => wpAny_nextOf_tuple_end hh st.2.1 st.2.2 (Array.getElem?_eq_none hi) hE
/-- the tuple at a, each item in a new pair -/
def IteT (K : PySem.W.Frag) (a : Addr) : It where
  go := fun i H => ∃ (xs : List V) (x : V), SqT K H a xs ∧ xs[i]? = some x
  yld := fun i H v H' => ∃ T x, v = .ref T ∧ H T = none ∧ H' = upd H T (.tup [.int (i : Nat), x]) ∧ ∀ xs, SqT K H a xs → xs[i]? = some x
  stop := fun i H => ∃ xs : List V, SqT K H a xs ∧ xs.length ≤ i
theorem turn_enumT {P : Program} {w : World} {K : PySem.W.Frag} {elts : List Expr} {kk : Nat} {tpos : Pos} (a e it : Addr) (hai : a ≠ it) (hae : e ≠ a) :
    Turn P w K (.Tuple elts kk tpos) (IteT K a) [e, it] e (fun i h => (∃ old, IsEnum h e it ((i : Nat) : Int) old) ∧ h.IsTupleIter it a i ∧ e ≠ it) where
  mem := List.mem_cons_self ..
  obj := fun i h st b hb => by
    obtain ⟨⟨old, he⟩, ⟨o, ho, hc, hd⟩, _⟩ := st
    rcases List.mem_cons.mp hb with z | z
    · subst z
      exact ⟨_, he, fun v q => nomatch q⟩
    · exact ⟨o, (List.mem_singleton.mp z) ▸ ho, fun v q => by rw [hd] at q; cases q⟩
  keep := fun i h h' st k => ⟨st.1.imp fun old he => k e (List.mem_cons_self ..) _ he, st.2.1.at fun o q => k it (List.mem_cons_of_mem _ (List.mem_singleton.mpr rfl)) o q, st.2.2⟩
  item := by
    intro X hP hw hK hc i pins s σ H E I hf st hg
    subst hP
    subst hw
    subst hK
    obtain ⟨xs, x, hq, hx⟩ := hg
    obtain ⟨its, rv, p, hz⟩ := I.tuple hq
    obtain ⟨u, hu, ru⟩ := rv.get hx
    obtain ⟨⟨old, he⟩, hit, hne⟩ := st
    have le : e < s.heap.objs.size := Heap.lt_size he
    have li : it < s.heap.objs.size := let ⟨_, q, _⟩ := hit; Heap.lt_size q
    have hlt : i < its.toArray.size := by
      have := (List.getElem?_eq_some_iff.mp hu).1
      simpa using this
    have hin : e ∉ [it, a] := fun z => by
      rcases List.mem_cons.mp z with z | z
      · exact hne z
      · exact hae (List.mem_singleton.mp z)
    refine wpAny_pyNext_enum_itemD (Draws.tuple (A := X.A.in1) (I.ok.hd hc) it a hai its.toArray) he ⟨hit, (show s.heap.IsTuple a its.toArray from p)⟩ hlt hne hin fun y h1 tk hy ho st1 hT hsz hk => ?_
    have ey : y = u := by
      have e1 : its.toArray[i]? = some y := hy
      have e2 : its.toArray[i]? = some u := by simpa using hu
      exact Option.some.inj (e1.symm.trans e2)
    subst ey
    refine ⟨_, rfl, wpAny_letOwnedTupleGo_enum (s := { s with heap := h1, toks := tk + 1 }) ho fun h2 he2 sb => ?_⟩
    have hT2 := (sb.2 _ (Nat.ne_of_gt le)).trans hT
    have pair : ObjOk X.prog X.w (upd H s.heap.objs.size (.tup [.int (i : Nat), x])) h2 s.heap.objs.size (.tup [.int (i : Nat), x]) := ⟨by show 2 ≤ sizeLine; decide, [.int i tk, y], .cons ⟨_, rfl⟩ (.cons ru .nil), ⟨_, hT2, rfl, _, rfl⟩⟩
    have I1 : Inv X pins σ (upd H s.heap.objs.size (.tup [.int (i : Nat), x])) { s with heap := h2, toks := tk + 1 } := I.turnedNew (ch := [e, it]) (fun b ob hb q => by
      have b1 : b ≠ e := fun z => hb (z ▸ List.mem_cons_self ..)
      have b2 : b ≠ it := fun z => hb (z ▸ List.mem_cons_of_mem _ (List.mem_singleton.mpr rfl))
      exact (sb.2 b b1).trans (hk b ob b1 b2 q)) hf (Nat.le_refl _) pair
    refine ⟨.ref s.heap.objs.size, _, I1, rfl, ⟨_, x, rfl, I.hok.fresh (Nat.le_refl _), rfl, fun ys hys => by rw [I.tuple_inj hys hq]; exact hx⟩, ⟨⟨y, ?_⟩, st1.1.at fun o q => (sb.2 it (Ne.symm hne)).trans q, hne⟩, fun b hb => ?_⟩
    · rw [show ((i + 1 : Nat) : Int) = (i : Int) + 1 from by omega]
      exact he2
    · have lb : b < s.heap.objs.size := by
        rcases List.mem_cons.mp hb with z | z
        · exact z ▸ le
        · exact (List.mem_singleton.mp z) ▸ li
      rw [upd_ne (Nat.ne_of_lt lb)]
      exact (hf b hb).1
  done := by
    intro X hP hw hK hc i pins s σ H E I hf st hg
    subst hP
    subst hw
    subst hK
    obtain ⟨xs, hq, hx⟩ := hg
    obtain ⟨its, rv, p, hz⟩ := I.tuple hq
    obtain ⟨⟨old, he⟩, hit, hne⟩ := st
    have hl := rv.length
    obtain ⟨f0, f1, f2, f3, f4, f5⟩ := hf it (List.mem_cons_of_mem _ (List.mem_singleton.mpr rfl))
    have hsz : its.toArray.size ≤ i := by rw [List.size_toArray]; omega
    exact wpAny_pyNext_enum_endD (draws_end (A := X.A.in1) (I.ok.hd hc) it a its.toArray i hsz) he ⟨rfl, hit, (show s.heap.IsTuple a its.toArray from p)⟩ fun h1 eb => ⟨rfl, I.turned (t' := s.toks) (fun b o hb q => eb b o hb q) f0 f1 f3 f4 f5⟩
  self := fun _ _ _ _ _ st h => let ⟨⟨_, he⟩, _⟩ := st; wpAny_pyIter_enum he h
def iEnumT (K : PySem.W.Frag) (ta : TA) : TI := fun σ H R => ta σ H fun vs H1 => ∃ a xs, vs = [.ref a] ∧ SqT K H1 a xs ∧ R (IteT K a) H1
theorem pi_enumT {X : Cx} {e : Expr} {ta : TA} {p pos tpos : Pos} {elts : List Expr} {kk : Nat} (hg : Gl X "enumerate") (hm : X.mg "enumerate" = none) (ha : PA X [e] ta) (hs : starEach [e] X.env = [(false, eval e X.env)] := by rfl) : PI X (.Tuple elts kk tpos) (.Call (.Name "enumerate" p) [e] [] pos) (iEnumT X.K ta) := by
  refine ⟨fun pins s σ H R I h => ?_⟩
  refine Call_ (ld_blt I hg hm boot_enumerate (PyProof.Rows.callWith_type1 (thn (ha.run pos pins s σ H _ I h) fun us s1 ⟨vs, H1, I1, r1, a, xs, ex, hq, q⟩ => ?_) hs rfl))
  subst ex
  obtain ⟨u, rfl, rfl⟩ : ∃ u, us = [u] ∧ u = Value.ref a := by
    cases r1 with
    | cons r rr =>
      cases rr
      exact ⟨_, rfl, r⟩
  obtain ⟨its, rv, p1, hz⟩ := I1.tuple hq
  have la : a < s1.heap.objs.size := let ⟨_, e0, _⟩ := p1; Heap.lt_size e0
  refine enum1 (begins_tuple a its.toArray) p1 fun h1 he hit hk => wpAny_pyIter_enum he ?_
  have I2 : Inv X pins σ H1 { s1 with heap := h1 } := I1.kept (t' := s1.toks) hk
  refine ⟨s1.heap.objs.size + 1, [s1.heap.objs.size + 1, s1.heap.objs.size], _, _, H1, rfl, I2, turn_enumT a (s1.heap.objs.size + 1) s1.heap.objs.size (Nat.ne_of_lt la) (Nat.ne_of_gt (Nat.lt_succ_of_lt la)), ⟨⟨.none, he⟩, ⟨_, hit, rfl, rfl⟩, Nat.succ_ne_self _⟩, fun b hb => ?_, q⟩
  have lb : s1.heap.objs.size ≤ b := by
    rcases List.mem_cons.mp hb with z | z
    · rw [z]; exact Nat.le_succ _
    · rw [List.mem_singleton.mp z]; exact Nat.le_refl _
  exact I1.fpOk lb (I1.hok.fresh lb)
/-- one reading or the other -/
def iOr (w1 w2 : TI) : TI := fun σ H R => w1 σ H R ∨ w2 σ H R
theorem pi_or {X : Cx} {t e : Expr} {w1 w2 : TI} (h1 : PI X t e w1) (h2 : PI X t e w2) : PI X t e (iOr w1 w2) := ⟨fun pins s σ H R I h => h.elim (h1.run pins s σ H R I) (h2.run pins s σ H R I)⟩
end FvW


namespace FvW
open PySem PySem.Spec PyProof.Rows L2
/-! ### zip of a tuple and a list -/
abbrev zmH1 (h : Heap) (l1 : Addr) : Heap := h.push { cls := .type "tuple_iterator", data := .fields #[.ref l1, .int 0 0] }
abbrev zmH2 (h : Heap) (l1 l2 : Addr) : Heap := (zmH1 h l1).push { cls := .type "list_iterator", data := .fields #[.ref l2, .int 0 0] }
abbrev zmH3 (h : Heap) (l1 l2 : Addr) : Heap := (zmH2 h l1 l2).push { cls := .type "tuple", data := .seq #[.ref h.objs.size, .ref (zmH1 h l1).objs.size] }
abbrev zmH4 (h : Heap) (l1 l2 : Addr) : Heap := (zmH3 h l1 l2).push { cls := .type "tuple", data := .seq #[.none, .none] }
abbrev zmH5 (h : Heap) (l1 l2 : Addr) : Heap := (zmH4 h l1 l2).push { cls := .type "zip", data := .fields #[.none, .bool false, .bool false, .ref (zmH2 h l1 l2).objs.size, .ref (zmH3 h l1 l2).objs.size] }
set_option maxHeartbeats 1000000 in
theorem meets_zm (l1 l2 : Addr) (xs ys : Array Value) :
    Meets (Builtin.«zip.__new__» ⟨[.type "zip", .ref l1, .ref l2], []⟩) (fun _ R s => s.heap.IsTuple l1 xs ∧ s.heap.IsList l2 ys ∧
      R (.ok (.ret (.ref (zmH4 s.heap l1 l2).objs.size))) { s with heap := zmH5 s.heap l1 l2 }) :=
  .of_wp fun prog w A R s h => by
    have hsub := sub_zip
    obtain ⟨hp, g, d, tk, os⟩ := s
    obtain ⟨ha, hb, fin⟩ := h
    have hA : Heap.IsTuple (Shared.heap ⟨hp, g, d, tk, os⟩) l1 xs := ha
    have hB : Heap.IsList (Shared.heap ⟨hp.push { cls := .type "tuple_iterator", data := .fields #[.ref l1, .int 0 0] }, g, d, tk, os⟩) l2 ys := Heap.IsList.push hb _
    wp_walk using wpAny_pyIter_tuple hA, wpAny_pyIter_list hB
    exact ⟨_, rfl, fin⟩
section
variable {P : Program} {w : World} {A : Around} {E : Value → Shared → Prop} {s : Shared}
theorem call_zm {l1 l2 : Addr} {xs ys : Array Value} {Q : Value → Shared → Prop} (ha : s.heap.IsTuple l1 xs) (hb : s.heap.IsList l2 ys)
    (q : ∀ h', IsZip h' (s.heap.objs.size + 4) (s.heap.objs.size + 2) (s.heap.objs.size + 3) .none → IsPair h' (s.heap.objs.size + 2) (.ref s.heap.objs.size) (.ref (s.heap.objs.size + 1)) →
      IsPair h' (s.heap.objs.size + 3) .none .none → h'.IsTupleIter s.heap.objs.size l1 0 → h'.IsListIter (s.heap.objs.size + 1) l2 0 →
      (∀ c o, s.heap.get? c = some o → h'.get? c = some o) → Q (.ref (s.heap.objs.size + 4)) { s with heap := h' }) :
    wpAny (model P w) A (call (.type "zip") [.ref l1, .ref l2]) Q E s := by
  refine callType_new F.called_zip (by decide) (F.typeCall_zip_2 _ _) (F.newCall_zip_2 _ _) (fun obj => F.args_object_init_3 obj _ _) F.entry_zip_new (meets_zm l1 l2 xs ys) ⟨ha, hb, ?_⟩
  have y1 : (zmH1 s.heap l1).objs.size = s.heap.objs.size + 1 := Heap.size_push ..
  have y2 : (zmH2 s.heap l1 l2).objs.size = s.heap.objs.size + 2 := by rw [Heap.size_push, y1]
  have y3 : (zmH3 s.heap l1 l2).objs.size = s.heap.objs.size + 3 := by rw [Heap.size_push, y2]
  have y4 : (zmH4 s.heap l1 l2).objs.size = s.heap.objs.size + 4 := by rw [Heap.size_push, y3]
  have k5 : (zmH5 s.heap l1 l2).get? (zmH4 s.heap l1 l2).objs.size = some _ := Heap.get?_push_size _ rfl
  have k4 : (zmH5 s.heap l1 l2).get? (zmH3 s.heap l1 l2).objs.size = some _ := Heap.get?_push_of_some _ (Heap.get?_push_size _ rfl)
  have k3 : (zmH5 s.heap l1 l2).get? (zmH2 s.heap l1 l2).objs.size = some _ := Heap.get?_push_of_some _ (Heap.get?_push_of_some _ (Heap.get?_push_size _ rfl))
  have k2 : (zmH5 s.heap l1 l2).get? (zmH1 s.heap l1).objs.size = some _ := Heap.get?_push_of_some _ (Heap.get?_push_of_some _ (Heap.get?_push_of_some _ (Heap.get?_push_size _ rfl)))
  have k1 : (zmH5 s.heap l1 l2).get? s.heap.objs.size = some _ := Heap.get?_push_of_some _ (Heap.get?_push_of_some _ (Heap.get?_push_of_some _ (Heap.get?_push_of_some _ (Heap.get?_push_size _ rfl))))
  show _ ∧ _
  rw [y2, y3, y4] at k5
  rw [y1, y2] at k3
  rw [y3] at k4
  rw [y1] at k2
  rw [y4]
  exact ⟨⟨_, k5, rfl⟩, q _ k5 k3 k4 ⟨_, k1, rfl, rfl⟩ ⟨_, k2, rfl, rfl⟩ fun c o x =>
    Heap.get?_push_of_some _ (Heap.get?_push_of_some _ (Heap.get?_push_of_some _ (Heap.get?_push_of_some _ (Heap.get?_push_of_some _ x))))⟩
end
/-- the tuple at a and the list at b, the items in new pairs -/
def ItzM (K : PySem.W.Frag) (a b : Addr) : It where
  go := fun i H => ∃ (xs ys : List V) (x y : V), SqT K H a xs ∧ SqL K H b ys ∧ xs[i]? = some x ∧ ys[i]? = some y
  yld := fun i H v H' => ∃ T x y, v = .ref T ∧ H T = none ∧ H' = upd H T (.tup [x, y]) ∧ (∀ xs, SqT K H a xs → xs[i]? = some x) ∧ ∀ ys, SqL K H b ys → ys[i]? = some y
  stop := fun i H => ∃ xs ys : List V, SqT K H a xs ∧ SqL K H b ys ∧ i ≤ xs.length ∧ i ≤ ys.length ∧ (i = xs.length ∨ i = ys.length)
theorem sep_zm {z TI TO i1 i2 a b : Addr} (D : ZipApart z TI TO i1 i2 a b) (lt1 : i1 ≠ b) (lt2 : i2 ≠ a) : ZipSep2 z TI TO i1 i2 [i1, a] [i2, b] where
  TIz := D.TIz
  TOz := D.TOz
  TITO := D.TITO
  TIi1 := D.TIi1
  mem1 := List.mem_cons_self
  zf1 := fun h => by
    rcases List.mem_cons.mp h with e | e
    · exact D.i1z e.symm
    · exact D.l1z (List.mem_singleton.mp e).symm
  Tf1 := fun h => by
    rcases List.mem_cons.mp h with e | e
    · exact D.TOi1 e
    · exact D.l1TO (List.mem_singleton.mp e).symm
  TIi2 := D.TIi2
  mem2 := List.mem_cons_self
  zf2 := fun h => by
    rcases List.mem_cons.mp h with e | e
    · exact D.i2z e.symm
    · exact D.l2z (List.mem_singleton.mp e).symm
  Tf2 := fun h => by
    rcases List.mem_cons.mp h with e | e
    · exact D.TOi2 e
    · exact D.l2TO (List.mem_singleton.mp e).symm
  sep1_2 := fun h => by
    rcases List.mem_cons.mp h with e | e
    · exact D.i12 e
    · exact lt1 (List.mem_singleton.mp e)
  sep2_1 := fun h => by
    rcases List.mem_cons.mp h with e | e
    · exact D.i12 e.symm
    · exact lt2 (List.mem_singleton.mp e)
set_option maxHeartbeats 1000000 in
theorem turn_zm {P : Program} {w : World} {K : PySem.W.Frag} {elts : List Expr} {kk : Nat} {tpos : Pos} {a b z TI TO i1 i2 : Addr} (D : ZipApart z TI TO i1 i2 a b) :
    Turn P w K (.Tuple elts kk tpos) (ItzM K a b) [z, TI, TO, i1, i2] z (fun i h => IsZip h z TI TO .none ∧ IsPair h TI (.ref i1) (.ref i2) ∧ (∃ x y, IsPair h TO x y) ∧ h.IsTupleIter i1 a i ∧ h.IsListIter i2 b i) where
  mem := List.mem_cons_self
  obj := fun i h st c hc => by
    obtain ⟨hz, hTI, ⟨x, y, hTO⟩, ⟨o1, e1, _, d1⟩, ⟨o2, e2, _, d2⟩⟩ := st
    simp only [List.mem_cons, List.not_mem_nil, or_false] at hc
    rcases hc with q | q | q | q | q
    · rw [q]; exact ⟨_, hz, fun v q => nomatch q⟩
    · rw [q]; exact ⟨_, hTI, fun v q => nomatch q⟩
    · rw [q]; exact ⟨_, hTO, fun v q => nomatch q⟩
    · rw [q]; exact ⟨o1, e1, fun v q => by rw [d1] at q; cases q⟩
    · rw [q]; exact ⟨o2, e2, fun v q => by rw [d2] at q; cases q⟩
  keep := fun i h h' st k => by
    obtain ⟨hz, hTI, ⟨x, y, hTO⟩, t1, t2⟩ := st
    exact ⟨k z (by simp) _ hz, k TI (by simp) _ hTI, ⟨x, y, k TO (by simp) _ hTO⟩, t1.at fun o q => k i1 (by simp) o q, t2.at fun o q => k i2 (by simp) o q⟩
  item := by
    intro X hP hw hK hc i pins s σ H E I hf st hg
    subst hP
    subst hw
    subst hK
    obtain ⟨hz, hTI, ⟨x0, y0, hTO⟩, t1, t2⟩ := st
    obtain ⟨xs, ys, x, y, hqx, hqy, hx, hy⟩ := hg
    obtain ⟨its, rv, p, _⟩ := I.tuple hqx
    obtain ⟨its2, rv2, p2, _⟩ := I.list hqy
    obtain ⟨u, hu, ru⟩ := rv.get hx
    obtain ⟨u2, hu2, ru2⟩ := rv2.get hy
    have hu' : its.toArray[i]? = some u := by simpa using hu
    have hu2' : its2.toArray[i]? = some u2 := by simpa using hu2
    have n1 : i < its.toArray.size := by
      have := (List.getElem?_eq_some_iff.mp hu).1
      simpa using this
    have n2 : i < its2.toArray.size := by
      have := (List.getElem?_eq_some_iff.mp hu2).1
      simpa using this
    have pT : s.heap.IsTuple a its.toArray := p
    have pL : s.heap.IsList b its2.toArray := p2.isList
    have fb : ∀ c, c ∈ [z, TI, TO, i1, i2] → H c = none := fun c h => (hf c h).1
    have lt1 : i1 ≠ b := fun e => by
      obtain ⟨o, e1, c1, _⟩ := t1
      obtain ⟨o', e2, c2, _⟩ := pL
      rw [e, e2] at e1
      cases e1
      rw [c2] at c1
      exact absurd (Value.type.inj c1) (by decide)
    have lt2 : i2 ≠ a := fun e => by
      obtain ⟨o, e1, c1, _⟩ := t2
      obtain ⟨o', e2, c2, _⟩ := pT
      rw [e, e2] at e1
      cases e1
      rw [c2] at c1
      exact absurd (Value.type.inj c1) (by decide)
    refine wpAny_pyNext_zipD2_item (sep_zm D lt1 lt2) (Draws.tuple (A := X.A.in1) (I.ok.hd hc) i1 a D.l1i1 its.toArray) (Draws.list (A := X.A.in1) (I.ok.hd hc) i2 b D.l2i2 its2.toArray) hz hTI hTO ⟨t1, pT⟩ ⟨t2, pL⟩ n1 n2 fun v1 v2 h1 tk hv1 hv2 z1 TO1 st1 st2 hT hsz hk => ?_
    have ev1 : v1 = u := by
      have e : its.toArray[i]? = some v1 := hv1
      rw [hu'] at e
      exact (Option.some.inj e).symm
    have ev2 : v2 = u2 := by
      have e : its2.toArray[i]? = some v2 := hv2
      rw [hu2'] at e
      exact (Option.some.inj e).symm
    subst ev1
    subst ev2
    have lz : z < s.heap.objs.size := Heap.lt_size hz
    refine ⟨_, rfl, wpAny_letOwnedTupleGo_zip (s := { s with heap := h1, toks := tk }) z1 fun h2 z2 sb => ?_⟩
    have hT2 : h2.get? s.heap.objs.size = some { cls := .type "tuple", data := .seq #[v1, v2] } := (sb.2 _ (Nat.ne_of_gt lz)).trans hT
    have pair : ObjOk X.prog X.w (upd H s.heap.objs.size (.tup [x, y])) h2 s.heap.objs.size (.tup [x, y]) := ⟨by show 2 ≤ sizeLine; decide, [v1, v2], .cons ru (.cons ru2 .nil), ⟨_, hT2, rfl, _, rfl⟩⟩
    have I1 : Inv X pins σ (upd H s.heap.objs.size (.tup [x, y])) { s with heap := h2, toks := tk } :=
      I.turnedNew (ch := [z, TI, TO, i1, i2]) (fun c o hb q => (sb.2 c (fun q' => hb (by simp [q']))).trans (hk c o (fun q' => hb (by simp [q'])) (fun q' => hb (by simp [q'])) (fun q' => hb (by simp [q'])) (fun q' => hb (by simp [q'])) q)) hf (Nat.le_refl _) pair
    refine ⟨.ref s.heap.objs.size, _, I1, rfl, ⟨_, x, y, rfl, I.hok.fresh (Nat.le_refl _), rfl, fun l hl => by rw [I.tuple_inj hl hqx]; exact hx, fun l hl => by rw [I.list_inj hl hqy]; exact hy⟩, ⟨z2, ?_, ⟨v1, v2, ?_⟩, ?_, ?_⟩, fun c hcm => ?_⟩
    · exact (sb.2 _ D.TIz).trans (hk _ _ D.TIz D.TITO D.TIi1 D.TIi2 hTI)
    · exact (sb.2 _ D.TOz).trans TO1
    · exact st1.1.at fun o q => (sb.2 _ D.i1z).trans q
    · exact st2.1.at fun o q => (sb.2 _ D.i2z).trans q
    · have hlt : c < s.heap.objs.size := by
        simp only [List.mem_cons, List.not_mem_nil, or_false] at hcm
        rcases hcm with q | q | q | q | q
        · rw [q]; exact lz
        · rw [q]; exact Heap.lt_size hTI
        · rw [q]; exact Heap.lt_size hTO
        · rw [q]; obtain ⟨_, e1, _⟩ := t1; exact Heap.lt_size e1
        · rw [q]; obtain ⟨_, e2, _⟩ := t2; exact Heap.lt_size e2
      rw [upd_ne (Nat.ne_of_lt hlt)]
      exact (hf c hcm).1
  done := by
    intro X hP hw hK hc i pins s σ H E I hf st hg
    subst hP
    subst hw
    subst hK
    obtain ⟨hz, hTI, ⟨x0, y0, hTO⟩, t1, t2⟩ := st
    obtain ⟨xs, ys, hqx, hqy, g1, g2, hend⟩ := hg
    obtain ⟨its, rv, p, _⟩ := I.tuple hqx
    obtain ⟨its2, rv2, p2, _⟩ := I.list hqy
    have l1 := rv.length
    have l2 := rv2.length
    have pT : s.heap.IsTuple a its.toArray := p
    have pL : s.heap.IsList b its2.toArray := p2.isList
    have lt1 : i1 ≠ b := fun e => by
      obtain ⟨o, e1, c1, _⟩ := t1
      obtain ⟨o', e2, c2, _⟩ := pL
      rw [e, e2] at e1
      cases e1
      rw [c2] at c1
      exact absurd (Value.type.inj c1) (by decide)
    have lt2 : i2 ≠ a := fun e => by
      obtain ⟨o, e1, c1, _⟩ := t2
      obtain ⟨o', e2, c2, _⟩ := pT
      rw [e, e2] at e1
      cases e1
      rw [c2] at c1
      exact absurd (Value.type.inj c1) (by decide)
    have s1 : its.toArray.size = xs.length := by rw [List.size_toArray]; omega
    have s2 : its2.toArray.size = ys.length := by rw [List.size_toArray]; omega
    exact wpAny_pyNext_zipD2_end (sep_zm D lt1 lt2) (Draws.tuple (A := X.A.in1) (I.ok.hd hc) i1 a D.l1i1 its.toArray) (Draws.list (A := X.A.in1) (I.ok.hd hc) i2 b D.l2i2 its2.toArray) hz hTI hTO ⟨t1, pT⟩ ⟨t2, pL⟩ (by omega) (by omega) (by omega) fun h' tk hk => ⟨rfl, I.turnedL (t' := tk) (ch := [z, TI, TO, i1, i2]) (fun c o hb q =>
      hk c o (fun q' => hb (by simp [q'])) (fun q' => hb (by simp [q'])) (fun q' => hb (by simp [q'])) (fun q' => hb (by simp [q'])) q) hf⟩
  self := fun A i s Q E st h => wpAny_pyIter_zip st.1 h
def iZipM (K : PySem.W.Frag) (ta : TA) : TI := fun σ H R => ta σ H fun vs H1 => ∃ a b xs ys, vs = [.ref a, .ref b] ∧ SqT K H1 a xs ∧ SqL K H1 b ys ∧ R (ItzM K a b) H1
theorem pi_zipM {X : Cx} {e e2 : Expr} {ta : TA} {p pos tpos : Pos} {elts : List Expr} {kk : Nat} (hg : Gl X "zip") (hm : X.mg "zip" = none) (ha : PA X [e, e2] ta)
    (hs : starEach [e, e2] X.env = (false, eval e X.env) :: starEach [e2] X.env := by rfl) (hpl : (backTo pos (starEach [e2] X.env)).any (·.1) = false := by rfl) :
    PI X (.Tuple elts kk tpos) (.Call (.Name "zip" p) [e, e2] [] pos) (iZipM X.K ta) := by
  refine ⟨fun pins s σ H R I h => ?_⟩
  refine Call_ (ld_blt I hg hm PyProof.Rows.boot_zip (PyProof.Rows.callWith_type1 (thn (ha.run pos pins s σ H _ I h) fun us s1 ⟨vs, H1, I1, r1, q1⟩ => ?_) hs hpl))
  obtain ⟨a, b, xs, ys, ex, hqx, hqy, q⟩ := q1
  subst ex
  cases r1 with
  | cons r rr =>
    cases rr with
    | cons r' rr =>
      cases rr
      cases r
      cases r'
      have new5 : ∀ c, c ∈ [s1.heap.objs.size + 4, s1.heap.objs.size + 2, s1.heap.objs.size + 3, s1.heap.objs.size, s1.heap.objs.size + 1] → FpOk X pins H1 c := fun c hcm => by
        have hle : s1.heap.objs.size ≤ c := by
          simp only [List.mem_cons, List.not_mem_nil, or_false] at hcm
          rcases hcm with q | q | q | q | q
          · rw [q]; exact Nat.le_add_right _ _
          · rw [q]; exact Nat.le_add_right _ _
          · rw [q]; exact Nat.le_add_right _ _
          · rw [q]; exact Nat.le_refl _
          · rw [q]; exact Nat.le_add_right _ _
        exact I1.fpOk hle (I1.hok.fresh hle)
      obtain ⟨its, rv, p1, _⟩ := I1.tuple hqx
      obtain ⟨its2, rv2, p2, _⟩ := I1.list hqy
      have lta : a < s1.heap.objs.size := let ⟨_, e0, _⟩ := id p1; Heap.lt_size e0
      refine call_zm (show s1.heap.IsTuple a its.toArray from p1) p2.isList fun h' hz hTI hTO t1 t2 hk => wpAny_pyIter_zip hz ?_
      have I2 : Inv X pins σ H1 { s1 with heap := h' } := I1.kept (t' := s1.toks) hk
      exact ⟨s1.heap.objs.size + 4, [s1.heap.objs.size + 4, s1.heap.objs.size + 2, s1.heap.objs.size + 3, s1.heap.objs.size, s1.heap.objs.size + 1], _, _, H1, rfl, I2, turn_zm (PySem.W.ktu_apart s1.heap.objs.size a b lta p2.lt), ⟨hz, hTI, ⟨_, _, hTO⟩, t1, t2⟩, new5, q⟩
theorem pi_zipMK {X : Cx} {K : PySem.W.Frag} (hK : X.K = K) {e e2 : Expr} {ta : TA} {p pos tpos : Pos} {elts : List Expr} {kk : Nat} (hg : Gl X "zip") (hm : X.mg "zip" = none) (ha : PA X [e, e2] ta)
    (hs : starEach [e, e2] X.env = (false, eval e X.env) :: starEach [e2] X.env := by rfl) (hpl : (backTo pos (starEach [e2] X.env)).any (·.1) = false := by rfl) :
    PI X (.Tuple elts kk tpos) (.Call (.Name "zip" p) [e, e2] [] pos) (iZipM K ta) := by
  subst hK
  exact pi_zipM hg hm ha hs hpl
theorem walk_zipM {K : PySem.W.Frag} {a b : Addr} {xs ys : List V} {n : Nat} (hn : n = min xs.length ys.length) : Walk (ItzM K a b) n (fun H => SqT K H a xs ∧ SqL K H b ys) (YPair (fun i => xs[i]?) (fun i => ys[i]?)) := by
  subst hn
  refine ⟨fun i _ hi q => ?_, fun _ q => ⟨xs, ys, q.1, q.2, by omega, by omega, by omega⟩, fun i H v H' _ q y => ?_⟩
  · have h1 : i < xs.length := by omega
    have h2 : i < ys.length := by omega
    exact ⟨xs, ys, xs[i], ys[i], q.1, q.2, by simp [h1], by simp [h2]⟩
  · obtain ⟨T, x, z, h1, h2, h3, h4, h5⟩ := y
    exact ⟨T, x, z, h1, h2, h3, h4 xs q.1, h5 ys q.2⟩
end FvW
namespace FvW
open PySem PySem.Spec PyProof.Rows L2
/-- an item of a list or a tuple, whichever it is -/
theorem ix_or2 {X : Cx} {r1 r2 : R2} (h1 : IxR X r1) (h2 : IxR X r2) : IxR X (fun x y H Q => r1 x y H Q ∨ r2 x y H Q) := fun value slice pins s σ H x y v u Q I rx ry h hs =>
  h.elim (fun z => h1 value slice pins s σ H x y v u Q I rx ry z hs) fun z => h2 value slice pins s σ H x y v u Q I rx ry z hs
theorem ixSq {K : PySem.W.Frag} {H : Hp} {t : Addr} {zs : List V} {i : Int} {v : V} {Q : VK} (h : SqL K H t zs ∨ SqT K H t zs) (e : atI zs i = some v) (q : Q v H) : rIxL K (.ref t) (.int i) H Q ∨ rIxT K (.ref t) (.int i) H Q :=
  h.elim (fun z => .inl ⟨t, zs, i, v, rfl, rfl, z, e, q⟩) fun z => .inr ⟨t, zs, i, v, rfl, rfl, z, e, q⟩
end FvW
namespace FvW
open PySem PySem.Spec PyProof.Rows L2
theorem ix_tK {X : Cx} {K : PySem.W.Frag} (hK : X.K = K) : IxR X (rIxT K) := by
  subst hK
  exact ix_tup
end FvW


namespace Fv
open PySem PySem.Spec PyProof.Rows L2 FvX
/-! ### what stays when a lambda is made -/
theorem sq_ext {K : PySem.W.Frag} {H H' : Hp} {a : Addr} {xs : List V} (e : LamX.ExtN H H') (h : SqL K H a xs) : SqL K H' a xs := by
  rcases h with (h | ⟨o, h⟩) | h
  · exact .inl (.inl (e _ _ h fun ps z => by cases z))
  · exact .inl (.inr ⟨o, e _ _ h fun ps z => by cases z⟩)
  · exact .inr h
theorem sqT_ext {K : PySem.W.Frag} {H H' : Hp} {a : Addr} {xs : List V} (e : LamX.ExtN H H') (h : SqT K H a xs) : SqT K H' a xs := by
  rcases h with (h | ⟨o, h⟩) | h
  · exact .inl (.inl (e _ _ h fun ps z => by cases z))
  · exact .inl (.inr ⟨o, e _ _ h fun ps z => by cases z⟩)
  · exact .inr h
mutual
theorem dp_ext {K : PySem.W.Frag} {H H' : Hp} (e : LamX.ExtN H H') : ∀ (d : PyData) (v : V), Dp K H v d → Dp K H' v d
  | .none, _, h => by cases h; exact .non
  | .bool b, _, h => by cases h; exact .bl b
  | .int i, _, h => by cases h; exact .int i
  | .str x, _, h => by cases h; exact .str x
  | .list ds, _, h => by cases h with | lst hs ha => exact .lst (sq_ext e hs) (dpAll_ext e ds _ ha)
  | .tuple ds, _, h => by cases h with | tup hs ha => exact .tup (sqT_ext e hs) (dpAll_ext e ds _ ha)
  | .dict kvs, _, h => by cases h
theorem dpAll_ext {K : PySem.W.Frag} {H H' : Hp} (e : LamX.ExtN H H') : ∀ (ds : List PyData) (vs : List V), DpAll K H vs ds → DpAll K H' vs ds
  | [], _, h => by cases h; exact .nil
  | d :: ds, _, h => by cases h with | cons h1 h2 => exact .cons (dp_ext e d _ h1) (dpAll_ext e ds _ h2)
end
theorem ext_hide {M : List Addr} {H H' : Hp} (e : LamX.ExtN H H') : LamX.ExtN (hide M H) (hide M H') := fun b o z n => by
  obtain ⟨m, z⟩ := hide_some z
  rw [hide_ne m]
  exact e b o z n
theorem Src.ext {H H' : Hp} {a L : Addr} {ns : List Int} (h : Src H a L ns) (e : LamX.ExtN H H') : Src H' a L ns := by
  obtain ⟨i, p, st, c, h1, h2, h3⟩ := h
  exact ⟨i, p, st, c, e _ _ h1 (fun ps z => by cases z), e _ _ h2 (fun ps z => by cases z), h3⟩
theorem GV.ext {K : PySem.W.Frag} {n : Nat} {M : List Addr} {H H' : Hp} {v : V} (g : GV K n M H v) (e : LamX.ExtN H H') : GV K n M H' v := by
  obtain ⟨d, h1, h2⟩ := g
  exact ⟨d, dp_ext (ext_hide e) d v h1, h2⟩
theorem GV.smx {K : PySem.W.Frag} {n : Nat} {M : List Addr} {H H' : Hp} {v : V} (g : GV K n M H v) (s : SmX M H H') : GV K n M H' v := by
  obtain ⟨d, h1, h2⟩ := g
  exact ⟨d, dp_same s.hid d v h1, h2⟩
/-- tables stay where lists alone are changed -/
theorem tabs_smx {T : List (Addr × Str)} {M : List Addr} {H H' : Hp} (t : LamX.Tabs T H) (s : SmX M H H') (hM : ∀ b ∈ M, ∃ xs, H b = some (.lst xs)) : LamX.Tabs T H' := fun p hp => by
  obtain ⟨ps, h1, h2, h3⟩ := t p hp
  have nm : ∀ {b : Addr} {o : HO}, H b = some o → (∀ xs, o ≠ .lst xs) → b ∉ M := fun {b o} e n hb => by
    obtain ⟨xs, e'⟩ := hM b hb
    rw [e] at e'
    exact n xs (Option.some.inj e')
  refine ⟨ps, s _ _ (nm h1 fun xs z => by cases z) h1, h2, fun pos cv hc => ?_⟩
  obtain ⟨c, e1, e2⟩ := h3 pos cv hc
  exact ⟨c, e1, s _ _ (nm e2 fun xs z => by unfold LamX.CodeO at z; cases z) e2⟩
theorem tabs_same {T : List (Addr × Str)} {H H' : Hp} (t : LamX.Tabs T H) (s : Same H H') : LamX.Tabs T H' := t.ext s
theorem Src.lst {H : Hp} {a L : Addr} {ns : List Int} (h : Src H a L ns) : ∀ b ∈ [a], ∃ xs, H b = some (.lst xs) := fun b hb => by
  obtain ⟨_, _, _, _, e, _⟩ := h
  rw [List.mem_singleton.mp hb]
  exact ⟨_, e⟩
/-- the table of the law's own code -/
def TT0 (Pt : Addr) : List (Addr × Str) := [(Pt, ("law" : Str) ++ ".<locals>." ++ "<lambda>")]
section
variable {P : Program} {w : World} {K : PySem.W.Frag} {mg : Str → Option Value} {base : Heap}
/-- a def whose code object is told -/
theorem okC {x qual : Str} {st : Stmt} {f c : Addr} {oc : Value} {od an : Option Addr} {osl : Array (Option Value)} {kV doc pm ct : Value} {N ps : List Str} {k : Nat} {sp : Sp} (lk : K.lookup f = some ⟨oc, od, .func (PySem.W.fnOf x qual (defArgs st) (defBody st) (defScope st) .none kV doc pm an (.ref c) ct), osl⟩)
    (hcd : PySem.W.codeIn K (.ref c) qual = true) (S : FnScope N ps (defScope st)) (len : ∀ vs H Q E, sp vs H Q E → vs.length = ps.length)
    (hbody : ∀ (A : Around) (outer : List Env) (s : Shared) (H : Hp) (vs : List V) (Q : VK) (E : XK), Room k (A.deeper (envOfC qual (defScope st) s.heap.objs.size f (.ref c))) → sp vs H Q E →
      ∃ t, PSs (cxOf CX0 P w K mg base N qual (defScope st) f (.ref c) A outer s H E).nox (defBody st) t ∧ t { nx := fun _ H' => Q .non H', rt := Q } (start N vs) H) :
    FnOk P w K mg base CX0 (k + 1) f (PySem.W.fnOf x qual (defArgs st) (defBody st) (defScope st) .none kV doc pm an (.ref c) ct) ps sp :=
  fn_of lk hcd S len fun A outer s H vs Q E hr h => by
    obtain ⟨t, h1, h2⟩ := hbody A outer s H vs Q E hr h
    exact ⟨t, h1.nox, h2⟩
end
def spLawT (K : PySem.W.Frag) (Pt : Addr) : Sp := fun vs H Q _ => ∃ (a : Addr) (ns : List Int), vs = [.ref a] ∧ SqL K H a (ns.map V.int) ∧ ns.length ≤ 63 ∧ H Pt = some (.tbl #[]) ∧ ∀ H', Q (.bl true) H'
theorem outD_gd {op : Str} {ds : List PyData} (h : gd 20 (madeD op ds) = true) : gd 21 (outD op ds) = true := by
  unfold outD
  split
  · refine gd_tup (fun d hd => ?_) (Nat.le_of_ble_eq_true rfl)
    rcases List.mem_cons.mp hd with e | e
    · rw [e]; exact h
    · rw [List.mem_singleton.mp e]; exact gd_le (n := 0) (by decide +kernel) (Nat.zero_le _)
  · exact gd_le (n := 1) (by decide +kernel) (by decide)
end Fv


namespace Fv
open PySem PySem.Spec PyProof.Rows L2 FvX
/-! ### calls that never raise; calls by keywords of defs that may raise -/
theorem passE0 {P : Program} {w : World} {X : Cx} : Passes (L2.CX P w) X E0 := fun _ _ _ _ _ _ _ h => by
  obtain ⟨_, _, _, _, _, _, _, _, _, _, _, _, z⟩ := h
  exact z.elim
structure OwnKR (P : Program) (w : World) (K : PySem.W.Frag) (mg : Str → Option Value) (base : Heap) (k : Nat) (x : Str) (ps ks : List Str) (gV : List V → List V → List V) (sp : Sp) : Prop where
  ex : ∃ (f : Addr) (fd : FuncData) (g : List Value → List Value → List Value), mg x = some (.ref f) ∧ PySem.W.keepIn K (.ref f) = true ∧ KBn K fd ps 0 ks g gV ∧ FnOk P w K mg base (L2.CX P w) k f fd ps sp
theorem pe_ownKR0 {X : Cx} {k : Nat} {x : Str} {ps ks : List Str} {gV : List V → List V → List V} {sp : Sp} {E : XK} {tk : TA} {p pos : Pos} {kws : List Keyword} (C : OwnKR X.prog X.w X.K X.mg X.base k x ps ks gV sp) (hr : Room k X.A) (hg : Gl X x) (hx : Passes (L2.CX X.prog X.w) X E) (hkw : PK X kws tk)
    (hall : (backToKw pos (keywordEach kws X.env)).all (·.1.isSome) = true := by rfl) (hks : (backToKw pos (keywordEach kws X.env)).filterMap (·.1) = ks := by rfl)
    (hdb : (x == ("__debug__" : Str)) = false := by decide)
    (hpl : ((backTo pos (starEach [] X.env)).any (·.1) || (backToKw pos (keywordEach kws X.env)).any (·.1.isNone)) = false := by rfl) :
    PE X (.Call (.Name x p) [] kws pos) (tCallN 0 ks.length sp gV E tNil tk) := by
  obtain ⟨f, fd, g, h1, h2, h3, h4⟩ := C.ex
  refine ⟨fun pins s σ H Q I h => ?_⟩
  refine wpAny_Call_Name_kw (ld_glob I hg h1 ?_ hdb)
  refine PySem.W.callWith_KW0 (h₀ := X.base) I.ok.mod.kin h2 hall ?_ hpl
  refine thn (hkw.run pos pins s σ H _ I h) fun ws s2 ⟨zs, H2, I2, rz, l1, l2, q2⟩ => ⟨I2.kIn, ?_⟩
  rw [hks]
  exact run_fnN h4 hr h3 hx I2 .nil rz l1 l2 q2
/-! ### rules in the element of a comprehension: the written part is told -/
theorem op_in_seqK {X : Cx} {K : PySem.W.Frag} (hK : X.K = K) : OpR X (compareOp .In) (rIn K false) := by
  subst hK
  exact op_in_seq
theorem ix_listK {X : Cx} {K : PySem.W.Frag} (hK : X.K = K) : IxR X (rIxL K) := by
  subst hK
  exact ix_list
end Fv


namespace Fv
open PySem PySem.Spec PyProof.Rows L2 FvX
/-! ### rules in the element of a comprehension -/
theorem pe_isDc {X : Cx} {K : PySem.W.Frag} {e : Expr} {te : TE} {T : String} {y : Str} {p p2 pos : Pos} (hK : X.K = K) (hg : Gl X "isinstance") (hm : X.mg "isinstance" = none) (hg2 : Gl X y) (hm2 : X.mg y = none) (ha : PE X e te)
    (hv : bootBuiltins y = some (.type T) := by decide +kernel) (hn : y ≠ "__name__" := by decide) (hd2 : (y == ("__debug__" : Str)) = false := by decide)
    (he : starEach (e :: [.Name y p2]) X.env = (false, eval e X.env) :: starEach [.Name y p2] X.env := by rfl) (hpl : (backTo pos (starEach [.Name y p2] X.env)).any (·.1) = false := by rfl) :
    PE X (.Call (.Name "isinstance" p) [e, .Name y p2] [] pos) (tCB (rIsD K) (tCons te (tCons (tC (.ty T)) tNil))) := by
  subst hK
  exact pe_isD hg hm hg2 hm2 ha hv hn hd2 he hpl
theorem call_len_seqK {X : Cx} {K : PySem.W.Frag} (hK : X.K = K) : CallR X (.builtin "len") (fun xs H Q => ∃ p ys, xs = [.ref p] ∧ (SqL K H p ys ∨ SqT K H p ys) ∧ Q (.int ys.length) H) := by
  subst hK
  exact call_len_seq
theorem call_lenTK {X : Cx} {K : PySem.W.Frag} (hK : X.K = K) : CallR X (.builtin "len") (fun xs H Q => ∃ x n, xs = [x] ∧ LenV K x H n ∧ Q (.int (n : Nat)) H) := by
  subst hK
  exact call_len
end Fv


set_option maxHeartbeats 4000000
namespace FvX
open PySem PySem.W PySem.Calls PyProof.Rows
/-! ### an own error with one field: super().__init__(f".."), self.code = text, self.f = f -/
def flds : List Str := ["index", "letter", "name", "count", "place", "limit", "line", "word"]
abbrev errScope1 (fl : Str) : Scope := { kind := .function, names := [("self", .local), (fl, .local), ("__class__", .free), ("super", .globalImplicit)], isGenerator := false, isCoroutine := false, more := [] }
abbrev errParams1 (fl : Str) (pp pp2 : Pos) : Arguments := { posonlyargs := [], args := [{ arg := "self", annotation := none, pos := pp : Arg }, { arg := fl, annotation := none, pos := pp2 : Arg }], vararg := none, kwonlyargs := [], kw_defaults := [], kwarg := none, defaults := [] }
structure ErrPos1 where
  (p0 p1 p2 p4 p5 p6 p7 p8 p9 p10 p11 p12 p13 pp pp2 : Pos)
abbrev errBody1 (q : ErrPos1) (me : Expr) (cod fl : Str) (j2 : Nat) : List Stmt :=
  [.Expr (.Call (.Attribute (.Call (.Name "super" q.p0) [] [] q.p1) "__init__" q.p2) [me] [] q.p4) q.p5, .Assign [.Attribute (.Name "self" q.p6) "code" q.p7] (.Constant (.str cod) j2 q.p8) q.p9, .Assign [.Attribute (.Name "self" q.p10) fl q.p11] (.Name fl q.p12) q.p13]
def LineOk1 (q : ErrPos1) (me : Expr) : Prop := ∀ env : Env, ∃ pl : Sem Bool, eval (.Call (.Attribute (.Call (.Name "super" q.p0) [] [] q.p1) "__init__" q.p2) [me] [] q.p4) env = (do
  let ov ← attributeBase (.Call (.Name "super" q.p0) [] [] q.p1) "__init__" env (eval (.Call (.Name "super" q.p0) [] [] q.p1) env)
  standAt q.p2.atName
  let (f, first) ← holding [ov] (getMethod ov "__init__" pl)
  callWith q.p4 f first (backTo q.p4 (starEach [me] env)) [])
/-- the message is some text; nothing else is changed -/
def MsgOk (me : Expr) (fl : Str) (u : Value) : Prop := ∀ {prog : Program} {w : World} {A : Around} {env : Env} {E : Value → Shared → Prop} {Q : Value → Shared → Prop} {h : Heap} {g : Array GenState} {d : Drawn} {t : Nat} {os : OsState},
  (∀ (p : Pos) (tk : Nat) (Q' : Value → Shared → Prop), Q' u ⟨h, g, d, tk, os⟩ → wpAny (model prog w) A (eval (.Name fl p) env) Q' E ⟨h, g, d, tk, os⟩) → (∀ y t' tk, Q (.str y t') ⟨h, g, d, tk, os⟩) → wpAny (model prog w) A (eval me env) Q E ⟨h, g, d, t, os⟩
/-- the shape of the message: one call's arguments are evaluated from the left -/
def ArgsOk (me : Expr) : Prop := ∀ env : Env, starEach [me] env = (false, eval me env) :: starEach [] env
theorem nocell (fl : Str) : ∀ x ∈ (errScope1 fl).names, x.2 ≠ .cell := by
  intro x hx
  simp only [List.mem_cons, List.not_mem_nil, or_false] at hx
  rcases hx with rfl | rfl | rfl | rfl <;> (intro z; cases z)
structure ErrC1 (file0 : Str) (K : Frag) (C f : Addr) (qual : Str) (q : ErrPos1) (me : Expr) (cod fl : Str) (j2 : Nat) : Prop where
  oex : L2.OexC K C
  fn : ∃ (oc : Value) (od an : Option Addr) (osl : Array (Option Value)) (kV doc pm ct : Value) (cda cc : Addr) (ccl cl : Value) (cdd cld : Option Addr) (vs : Array Value) (ccs csl : Array (Option Value)) (file : Str) (tf : Tok),
    K.lookup f = some ⟨oc, od, .func (ksFn "__init__" qual (errParams1 fl q.pp q.pp2) (errBody1 q me cod fl j2) (errScope1 fl) .none kV doc pm an (.ref cda) ct cc), osl⟩ ∧ codeIn K (.ref cda) qual = true ∧ K.lookup cda = some ⟨ccl, cdd, .fields vs, ccs⟩ ∧ vs[2]? = some (.str file tf) ∧
      (file0 == file) = true ∧ K.lookup cc = some ⟨cl, cld, .cell (some (.ref C)), csl⟩
  sup : ks_superIn K C C "__init__" = some (some (.builtin "ValueError.__init__"))
  self : mroIn K C (.ref C) = some true
  isV : subIn K (.ref C) (.type "ValueError") = some true
  init : excInitIn K C veTail4 "ValueError.__new__" = true
  third : nsIn K cStatics "thirdparty.any" = some none
  code : findIn K (.ref C) "code" = some none
  fld : findIn K (.ref C) fl = some none
  find : findIn K (.ref C) "__init__" = some (some (.ref f))
  typ : typeIn K (.ref f) = some (.type "function")
section
variable {prog : Program} {w : World} {A : Around} {K : Frag} {h : Heap} {g : Array GenState} {d : Drawn} {t : Nat} {os : OsState} {R : Result → Shared → Prop} {mg mb : Str → Option Value}
  {C f a t0 : Addr} {qual cod fl : Str} {q : ErrPos1} {me : Expr} {j2 : Nat} {u : Value}
theorem init_run1 (hfl : fl ∈ flds) (T : ErrC1 prog.main.file K C f qual q me cod fl j2) (hline : LineOk1 q me) (hargs : ArgsOk me) (hmsg : MsgOk me fl u) (htop : (prog.main.scope.names.lookup ("super" : Str)).isSome = false)
    (X : K.In h) (hg : h.Ns mainGlobals mg) (hms : mg "super" = none) (hb : h.Ns builtinsNs mb) (hmb : mb "super" = some (.type "super")) (hlim : h.NoLimit) (hroom : A.depth < recursionLimit) (ha : h.get? a = some (excObj C t0 none .none)) (haK : K.lookup a = none)
    (hq : ∀ h' t1 tk' dx tk, (∀ b o, b ≠ a → h.get? b = some o → h'.get? b = some o) → h.objs.size ≤ dx → dx ≠ a → h'.get? a = some { cls := .ref C, dict := some dx, data := .fields #[.ref t1, .none, .none, .none, .bool false, .none] } →
      h'.Ns1 dx (fun y => if y = fl then some u else if y = ("code" : Str) then some (.str cod tk) else none) → R (.ok (.ret .none)) ⟨h', g, d, tk', os⟩) :
    codeAny (model prog w) A (.call (.ref f) ⟨[.ref a, u], []⟩) R ⟨h, g, d, t, os⟩ := by
  simp only [flds, List.mem_cons, List.not_mem_nil, or_false] at hfl
  obtain ⟨oc, od, an, osl, kV, doc, pm, ct, cda, cc, ccl, cl, cdd, cld, vs, ccs, csl, file, tf, hf, hcd, hcode, hvs, hfile, hcell⟩ := T.fn
  rcases hfl with rfl | rfl | rfl | rfl | rfl | rfl | rfl | rfl
  all_goals
    refine ks_codeAny_call_defAt (binds := [("self", .ref a), (_, u)]) hroom (X _ _ hf) rfl hlim (codeRec_of X hcd) rfl (.of_eq rfl) (nocell _) (fun y hy => ?_) (fun h1 hns hk1 => ?_)
    · rcases List.mem_cons.mp hy with e | e
      · rw [e]; rfl
      · rw [List.mem_singleton.mp e]; rfl
    have X1 : K.In h1 := fun b o e => hk1 b o (X b o e)
    have ha1 : h1.get? a = some (excObj C t0 none .none) := hk1 _ _ ha
    have haL : a ≠ h.objs.size := Nat.ne_of_lt (Heap.lt_size ha)
    obtain ⟨cd, hc⟩ : ∃ cd, clsIn K C = some cd := by
      have z := T.sup
      unfold ks_superIn at z
      cases hc : clsIn K C with
      | none => rw [hc] at z; cases z
      | some cd => exact ⟨cd, rfl⟩
    obtain ⟨oD, hD0, hD2⟩ : ∃ oD, K.lookup C = some oD ∧ oD.data = .cls cd := by
      unfold clsIn at hc
      split at hc
      · rename_i c d' cd' sl ho
        cases hc
        exact ⟨_, ho, rfl⟩
      · cases hc
    have hD1 := X1 _ _ hD0
    have hsup : alongIn K "__init__" ((cd.mro.dropWhile (· != .ref C)).drop 1) = some (some (.builtin "ValueError.__init__")) := by
      have z := T.sup
      unfold ks_superIn at z
      rw [hc] at z
      exact z
    obtain ⟨pl, hline⟩ := hline (callEnv (ksFn "__init__" qual (errParams1 _ q.pp q.pp2) (errBody1 q me cod _ j2) (errScope1 _) .none kV doc pm an (.ref cda) ct cc) h.objs.size f)
    refine ks_wpAt_execs_cons (ks_wpAt_Expr_any (ks_wpAt_MethodCall ?_ hline))
    refine ks_wpAt_super_base rfl rfl (by decide) rfl (X1 _ _ hf) rfl rfl rfl (X1 _ _ hcode) rfl hvs hfile htop ?_
    refine ks_loadName_global rfl rfl (loadGlobal_builtin (hg.keeps hk1) hms (hb.keeps hk1) hmb ⟨rfl, ?_⟩)
    refine wpAny_loadName_free rfl rfl rfl ⟨_, X1 _ _ hcell, rfl⟩ ?_
    refine wpAny_loadName_local rfl rfl hns (show _ = some (Value.ref a) from rfl) ?_
    refine ks_wpAny_isType_cls hD1 hD2 ⟨rfl, ?_⟩
    refine ks_wpAny_call_super hD1 hD2 ha1 rfl (fun c e => by cases e) (looks_mroIn X1 T.self) (fun h2 hso hk2 => ?_)
    have X2 : K.In h2 := fun b o e => hk2 b o (X1 b o e)
    have ha2 := hk2 _ _ ha1
    have haC : a ≠ C := fun e => by rw [e, hD0] at haK; cases haK
    have I2 : InstAt h2 a (excObj C t0 none .none) C none := ⟨ha2, rfl, rfl, trivial⟩
    refine kxs_getMethod kxs_ValueError hso (looks_opaque X2 T.third) (l₀ := cd.mro) (fun A Q E s k z => wpAny_bind ((looks_clsIn X2 hc) A _ E s k (wpAny_pure z))) rfl X2 hsup (I2.type.andThen (looks_subIn X2 T.isV)) haC (by decide) ?_
    have nsK : ∀ {h h' : Heap} {L : Addr} {m : Str → Option Value}, h.Ns L m → (∀ b o, h.get? b = some o → h'.get? b = some o) → h'.Ns L m := fun {h h' L m} ⟨o, es, ep, e, r⟩ k => ⟨o, es, ep, k _ _ e, r⟩
    have hns2 := nsK hns hk2
    have hk3 : ∀ b o, h2.get? b = some o → (h2.push (kxs_mw "ValueError.__init__" a)).get? b = some o := fun b o e => Heap.get?_push_of_some _ e
    have hLt : h.objs.size < h2.objs.size := by
      obtain ⟨o, _, _, e, _⟩ := hns2
      exact Heap.lt_size e
    have FR := (⟨nsK hns2 hk3, fun b o e => hk3 _ _ (hk2 _ _ (hk1 _ _ (of_hideAll _ e))), Nat.le_of_eq (hideAll_size _ _)⟩ : Fr (hideAll h [a]) h.objs.size (h2.push (kxs_mw "ValueError.__init__" a)) _)
    have NW : News (hideAll h [a]) h.objs.size (h2.push (kxs_mw "ValueError.__init__" a)) [(h2.objs.size, kxs_mw "ValueError.__init__" a), (a, excObj C t0 none .none)] := fun p hp => by
      rcases List.mem_cons.mp hp with e | hp
      · subst e
        refine ⟨Heap.get?_push_size _ rfl, Nat.ne_of_gt hLt, ?_⟩
        cases z : (hideAll h [a]).get? h2.objs.size with
        | none => rfl
        | some o => exact absurd (Heap.lt_size (of_hideAll _ z)) (Nat.lt_asymm hLt)
      · rw [List.mem_singleton.mp hp]
        exact ⟨hk3 _ _ ha2, haL, hideAll_none _ (List.mem_singleton.mpr rfl)⟩
    have X0 : K.In (hideAll h [a]) := fun b o e => hideAll_get _ (X b o e) (fun z => by
      rw [List.mem_singleton.mp z, haK] at e
      cases e)
    refine kxs_callWith1 NW (List.mem_cons_self ..) ?_ (he := hargs _)
    rw [hargs]
    refine Calls.spliced_cons (hmsg ?_ ?_)
    · intro p tk Q' z
      exact wpAny_Name (wpAny_loadName_local rfl rfl FR.ns (show _ = some u from rfl) z) (by decide)
    intro y t' tk
    refine Calls.spliced_nil ⟨kxs_at NW (List.mem_cons_self ..), ?_⟩
    refine kxs_call FR X0 NW PySem.F.excBase_ValueError T.init (List.mem_cons_self ..) (.tail (Nat.ne_of_gt (Heap.lt_size ha2)) (.head fun p hp => nomatch hp)) (by show 1 ≤ sizeLine; decide) (fun t' h4 F4 N4 _ => ?_)
    have ha4 : h4.get? a = some (excObj C t' none .none) := (N4 (a, excObj C t' none .none) (List.mem_cons_of_mem _ (List.mem_cons_of_mem _ (List.mem_cons_self ..)))).1
    have X4 : K.In h4 := fun b o e => F4.keep b o (X0 b o e)
    obtain ⟨nm, qn, N, bs, bm, sn, sub, ab, col, dd, k0, k1, k2, k3, k5, hC, hbm⟩ := T.oex.cls
    have hcl : clsIn K C = some { name := nm, bases := bs, mro := .ref C :: bm, ns := N, qualname := qn, hasDict := true, slotNames := sn, subclasses := sub, abstract := ab, collection := col, hasDel := false } := by
      unfold clsIn
      rw [hC] <;> rfl
    -- self.code = text
    refine wpAt_of_wpAny (wpAny_execs_cons (plainObj_wpAny_Assign_Attribute (wpAny_Constant_str (k := j2) (pos := q.p8) (wpAny_Name (wpAny_loadName_local rfl rfl F4.ns (show _ = some (Value.ref a) from rfl) ?_) (by decide))) rfl))
    refine set_plain X4 (ox := excObj C t' none .none) (od := none) ⟨ha4, rfl, rfl, trivial⟩ T.oex.sa ?_
    refine PySem.HandSPX.exc_osa X4 ha4 hcl (show PySem.HandSPX.refsVE (.ref C :: bm) = true from hbm) rfl T.code (fun h5 tk' dx hk5 dn dne hx hn => ?_)
    have hL4 : h.objs.size ≤ h4.objs.size := by
      obtain ⟨o, _, _, e, _⟩ := F4.ns
      exact Nat.le_of_lt (Heap.lt_size e)
    -- self.f = f
    have nsB : ∀ {h h' : Heap} {L : Addr} {m : Str → Option Value}, h.Ns L m → (∀ b o, b ≠ a → h.get? b = some o → h'.get? b = some o) → L ≠ a → h'.Ns L m := fun {h h' L m} ⟨o, es, ep, e, r⟩ k n => ⟨o, es, ep, k _ _ n e, r⟩
    have ns5 := nsB F4.ns hk5 haL.symm
    have X5 : K.In h5 := fun b o e => hk5 b o (fun z => by rw [z, haK] at e; cases e) (X4 b o e)
    have hw : ∀ {v : Value}, Within (fun y => if y = ("code" : Str) then some v else none) [("code" : Str)] := fun {v} y hy => by
      by_cases e : y = "code"
      · rw [e]; exact List.mem_singleton.mpr rfl
      · exact absurd (if_neg e) hy
    obtain ⟨oX, _, _, hoX, _, _⟩ := hn.count hw
    refine wpAny_execs_cons (plainObj_wpAny_Assign_Attribute (wpAny_Name (wpAny_loadName_local rfl rfl ns5 (show _ = some u from rfl) (wpAny_Name (wpAny_loadName_local rfl rfl ns5 (show _ = some (Value.ref a) from rfl) ?_) (by decide))) (by decide)) rfl)
    refine set_plain X5 (ox := { cls := .ref C, dict := some dx, data := .fields #[.ref t', .none, .none, .none, .bool false, .none] }) (od := some oX) ⟨hx, rfl, rfl, hoX⟩ T.oex.sa ?_
    refine PySem.OEX.osa_old X5 hx hn hw (by decide) hcl (show PySem.HandSPX.refsVE (.ref C :: bm) = true from hbm) rfl T.fld (fun h6 tk6 hk6 hn6 => ?_)
    refine wpAny_execs_nil (hq h6 t' tk6 dx _ (fun b o hb e => ?_) (Nat.le_trans hL4 dn) dne ?_ hn6)
    · exact hk6 b o (fun z => by
        have := Heap.lt_size e
        have hh := Nat.le_trans hL4 dn
        rw [z] at this
        exact absurd (Nat.lt_of_lt_of_le this hh) (Nat.lt_irrefl _)) (hk5 b o hb (F4.keep b o (hideAll_get _ e fun z => hb (List.mem_singleton.mp z))))
    · exact hk6 a _ dne.symm hx
end
end FvX


set_option maxHeartbeats 2000000
namespace FvX
open PySem PySem.Spec PyProof.Rows L2
/-! ### the messages -/
def MsgV (u : Value) : Prop := (∃ y t, u = .str y t ∧ (reprText y).length ≤ 100000) ∨ ∃ i t, u = .int i t ∧ i.natAbs.log2 < 1920
def MsgW (v : V) : Prop := (∃ y, v = .str y ∧ (reprText y).length ≤ 100000) ∨ ∃ i, v = .int i ∧ i.natAbs.log2 < 1920
theorem MsgW.val {v : V} {u : Value} (h : MsgW v) (r : RelV v u) : MsgV u := by
  rcases h with ⟨y, rfl, hy⟩ | ⟨i, rfl, hi⟩
  · obtain ⟨t, rfl⟩ := r
    exact .inl ⟨y, t, rfl, hy⟩
  · obtain ⟨t, rfl⟩ := r
    exact .inr ⟨i, t, rfl, hi⟩
theorem emp_len (x : Str) : (Str.empty ++ x).length = x.length := by
  rw [TL.len_tl, TL.tl_append, List.length_append, ← TL.len_tl x]
  show 0 + _ = _
  omega
theorem app_len (x y : Str) : (x ++ y).length = x.length + y.length := by
  rw [TL.len_tl, TL.tl_append, List.length_append, ← TL.len_tl, ← TL.len_tl]
theorem fmt_msg {prog : Program} {w : World} {A : Around} {env : Env} {E : Value → Shared → Prop} {Q : Value → Shared → Prop} {fl : Str} {u : Value} {h : Heap} {g : Array GenState} {d : Drawn} {t : Nat} {os : OsState} {p p2 : Pos} (hu : MsgV u)
    (hn : ∀ (p : Pos) (tk : Nat) (Q' : Value → Shared → Prop), Q' u ⟨h, g, d, tk, os⟩ → wpAny (model prog w) A (eval (.Name fl p) env) Q' E ⟨h, g, d, tk, os⟩)
    (hq : ∀ y t' tk, y.length ≤ 100000 → Q (.str y t') ⟨h, g, d, tk, os⟩) : wpAny (model prog w) A (eval (.FormattedValue (.Name fl p) 114 none p2) env) Q E ⟨h, g, d, t, os⟩ := by
  refine wpAny_FormattedValue_repr (hn p t _ ?_)
  have big : ∀ n : Nat, n ≤ 100000 → n ≤ sizeLine := fun n h => Nat.le_trans h (by decide)
  rcases hu with ⟨y, t', rfl, hy⟩ | ⟨i, t', rfl, hi⟩
  · exact pyReprObj_str (wpAny_formatField_str (hq _ _ _ hy) (hq _ _ _ hy) (big _ hy)) (big _ hy)
  · have e := int_text_length_le (k := 1920) (by decide) hi
    have hy : (Str.ofString (toString i)).length ≤ 100000 := by rw [PySem.ofString_length]; omega
    exact pyReprObj_int hi (wpAny_formatField_str (hq _ _ _ hy) (hq _ _ _ hy) (big _ hy))
theorem msg2 {pre fl : Str} {u : Value} {k : Nat} {p1 p2 p3 p4 : Pos} (hp : pre.length ≤ 1000) (hu : MsgV u) : MsgOk (.JoinedStr [.Constant (.str pre) k p1, .FormattedValue (.Name fl p2) 114 none p3] p4) fl u := by
  intro prog w A env E Q h g d t os hn hq
  have big : ∀ n : Nat, n ≤ 102000 → n ≤ sizeLine := fun n h => Nat.le_trans h (by decide)
  refine wpAny_JoinedStr ?_
  show wpAny _ _ (eval (.Constant (.str pre) k p1) env) (fun v s₁ => ∃ y t, v = .str y t ∧ (Str.empty ++ y).length ≤ sizeLine ∧ wpAny _ _ (eval (.FormattedValue (.Name fl p2) 114 none p3) env) (fun v s₁ => ∃ y' t, v = .str y' t ∧ ((Str.empty ++ y) ++ y').length ≤ sizeLine ∧ _) _ s₁) _ _
  refine wpAny_Constant_str ⟨_, _, rfl, by rw [emp_len]; exact big _ (by omega), fmt_msg hu hn fun y t' tk hy => ⟨_, _, rfl, ?_, ?_, hq _ _ _⟩⟩
  · rw [app_len, emp_len]; exact big _ (by omega)
  · rw [app_len, emp_len]; exact big _ (by omega)
theorem msg3 {pre post fl : Str} {u : Value} {k k2 : Nat} {p1 p2 p3 p4 p5 : Pos} (hp : pre.length ≤ 1000) (hp2 : post.length ≤ 1000) (hu : MsgV u) : MsgOk (.JoinedStr [.Constant (.str pre) k p1, .FormattedValue (.Name fl p2) 114 none p3, .Constant (.str post) k2 p5] p4) fl u := by
  intro prog w A env E Q h g d t os hn hq
  have big : ∀ n : Nat, n ≤ 103000 → n ≤ sizeLine := fun n h => Nat.le_trans h (by decide)
  refine wpAny_JoinedStr ?_
  show wpAny _ _ (eval (.Constant (.str pre) k p1) env) (fun v s₁ => ∃ y t, v = .str y t ∧ (Str.empty ++ y).length ≤ sizeLine ∧ wpAny _ _ (eval (.FormattedValue (.Name fl p2) 114 none p3) env) (fun v s₁ => ∃ y' t, v = .str y' t ∧ ((Str.empty ++ y) ++ y').length ≤ sizeLine ∧ wpAny _ _ (eval (.Constant (.str post) k2 p5) env) (fun v s₁ => ∃ y'' t, v = .str y'' t ∧ (((Str.empty ++ y) ++ y') ++ y'').length ≤ sizeLine ∧ _) _ s₁) _ s₁) _ _
  refine wpAny_Constant_str ⟨_, _, rfl, by rw [emp_len]; exact big _ (by omega), fmt_msg hu hn fun y t' tk hy => ⟨_, _, rfl, ?_, wpAny_Constant_str ⟨_, _, rfl, ?_, ?_, hq _ _ _⟩⟩⟩
  · rw [app_len, emp_len]; exact big _ (by omega)
  · rw [app_len, app_len, emp_len]; exact big _ (by omega)
  · rw [app_len, app_len, emp_len]; exact big _ (by omega)
section
variable {X : Cx} {C f : Addr} {qual cod fl x : Str} {q : ErrPos1} {me : Expr} {j2 k : Nat} {p pos : Pos} {e : Expr} {ta : TA}
/-- x(e): the new error, its dict at d -/
def tErr1 (C : Addr) (cod fl : Str) (ta : TA) : L2.St → Hp → XK → Prop := fun σ H Q => ta σ H fun vs H1 => ∃ v, vs = [v] ∧ MsgW v ∧ ∀ d, H1 d = none → Q (.ref C) (some d) (upd H1 d (.xd [(fl, v), ("code", .str cod)]))
theorem pmk_err1 (hfl : fl ∈ flds) (T : ErrC1 X.prog.main.file X.K C f qual q me cod fl j2) (hline : LineOk1 q me) (hargs : ArgsOk me) (hme : ∀ u, MsgV u → MsgOk me fl u) (htop : (X.prog.main.scope.names.lookup ("super" : Str)).isSome = false) (hms : X.mg "super" = none) (hr : Room (k + 1) X.A) (hg : Gl X x) (hm : X.mg x = some (.ref C)) (ha : PA X [e] ta)
    (hdb : (x == ("__debug__" : Str)) = false := by decide) (he : starEach [e] X.env = (false, eval e X.env) :: starEach [] X.env := by rfl) (hpl : (backTo pos (starEach [] X.env)).any (·.1) = false := by rfl) : PMk X (.Call (.Name x p) [e] [] pos) (tErr1 C cod fl ta) := by
  intro pins s σ H Q I h
  obtain ⟨nm, qn, N, bs, bm, sn, sub, ab, col, dd, k0, k1, k2, k3, k5, hC, hbm⟩ := T.oex.cls
  refine wpAny_Call_Name_kw (ld_glob I hg hm (PySem.W.callWith_K (h₀ := X.base) I.ok.mod.kin T.oex.kC (thn (ha.run pos pins s σ H _ I h) fun us s1 z => ?_) he hpl) hdb)
  obtain ⟨vs, H1, I1, r, v, rfl, hv, h⟩ := z
  obtain ⟨u, rfl, ru⟩ := vals1 r
  clear I
  rename Inv X pins σ H1 s1 => I
  refine ⟨I.kIn, ?_⟩
  show wpAny _ _ (call (.ref C) [u]) _ _ _
  obtain ⟨hp, g, dr, tk, os⟩ := s1
  have nK : X.K.lookup (hp.objs.size + 1) = none := by
    cases e : X.K.lookup (hp.objs.size + 1) with
    | none => rfl
    | some o => exact absurd (Nat.lt_of_succ_lt (Heap.lt_size (I.kIn _ _ e))) (Nat.lt_irrefl _)
  have fresh : H1 (hp.objs.size + 1) = none := I.hok.fresh (Nat.le_succ _)
  have kk : ∀ b o, hp.get? b = some o → ((hp.push (PySem.W.kdv_tup [u])).push (PySem.HandSPX.excO C hp.objs.size)).get? b = some o := fun b o e => Heap.get?_push_of_some _ (Heap.get?_push_of_some _ e)
  have at1 : ((hp.push (PySem.W.kdv_tup [u])).push (PySem.HandSPX.excO C hp.objs.size)).get? (hp.objs.size + 1) = some (PySem.HandSPX.excO C hp.objs.size) := by heap_get
  have I2 := I.laid (t' := tk) (a := hp.objs.size + 1) (o := exo (hp.objs.size + 1) C none) (h' := (hp.push (PySem.W.kdv_tup [u])).push (PySem.HandSPX.excO C hp.objs.size)) kk (Nat.le_succ _) (exo_ok at1)
  obtain ⟨mb, hb, hbb⟩ := I.mod.blt
  refine wpAny_call (PySem.HandSPX.call_own PySem.F.excBase_ValueError (fun Y => PySem.HandSPX.refsVE_contains Y bm hbm) (I.kIn _ _ hC) (PySem.W.looks_findIn I.kIn T.find) (fun self => PySem.W.bind_fn I.kIn self T.typ) (by show 1 ≤ sizeLine; decide) ?_)
  refine init_run1 (mg := X.mg) (mb := mb) (t0 := hp.objs.size) hfl T hline hargs (hme u (hv.val ru)) htop (fun b o e => kk b o (I.kIn b o e)) ((I.mod.glob.keeps I.bk).keeps kk) hms ((hb.keeps I.bk).keeps kk) ((hbb _ (by decide)).trans (by decide +kernel)) ?lim (hr.make C [u] []).depth at1 nK (fun h' t1 tk' dx tk0 hk dn dne hx hn => ?_)
  case lim => exact (I.mod.nolimit.keeps I.bk).keeps kk
  have nd : H1 dx = none := I.hok.fresh (Nat.le_trans (by simp; omega) dn)
  have na : ∀ {b : Addr} {u : Option HO}, upd H1 (hp.objs.size + 1) (exo (hp.objs.size + 1) C none) b = none → b ≠ hp.objs.size + 1 := fun {b u} e z => by
    rw [z, upd_same] at e
    cases e
  have lt2 : ∀ {b : Addr} {o : Obj}, ((hp.push (PySem.W.kdv_tup [u])).push (PySem.HandSPX.excO C hp.objs.size)).get? b = some o → b ≠ dx := fun {b o} e => Nat.ne_of_lt (Nat.lt_of_lt_of_le (Heap.lt_size e) dn)
  have same : ∀ {b : Addr} {o : HO}, upd H1 (hp.objs.size + 1) (exo (hp.objs.size + 1) C none) b = some o → o ≠ exo (hp.objs.size + 1) C none → upd (upd H1 dx (exd dx [(fl, v), ("code", .str cod)])) (hp.objs.size + 1) (exo (hp.objs.size + 1) C (some dx)) b = some o := fun {b o} e ne => by
    have b1 : b ≠ hp.objs.size + 1 := fun z => by
      rw [z, upd_same] at e
      exact ne (Option.some.inj e).symm
    rw [upd_ne b1] at e
    rw [upd_ne b1, upd_ne (ne_of_none e nd)]
    exact e
  have un : Un (frs X.stack) [] (upd H1 (hp.objs.size + 1) (exo (hp.objs.size + 1) C none)) (upd (upd H1 dx (exd dx [(fl, v), ("code", .str cod)])) (hp.objs.size + 1) (exo (hp.objs.size + 1) C (some dx))) ((hp.push (PySem.W.kdv_tup [u])).push (PySem.HandSPX.excO C hp.objs.size)) h' := by
    refine ⟨fun b o e n _ _ => hk b o (na (u := none) n) e, fun b o e n _ _ => ⟨o.slots, hk b o (na (u := none) n) e⟩, fun b o e n _ => ?_, fun b o e _ => ?_, fun b xs e => same e fun z => exo_tup z.symm, fun b o u e => same e fun z => exo_frz z.symm, fun b ps e => ⟨#[], ?_⟩⟩
    · have b1 := na (u := none) n
      rw [upd_ne b1, upd_ne (lt2 e)]
      rw [upd_ne b1] at n
      exact n
    · by_cases b1 : b = hp.objs.size + 1
      · exact ⟨_, by rw [b1]; exact hx⟩
      · exact ⟨o, hk b o b1 e⟩
    · rw [Array.append_empty]
      exact same e fun z => exo_tbl z.symm
  have hok : HOk X.prog X.w (upd (upd H1 dx (exd dx [(fl, v), ("code", .str cod)])) (hp.objs.size + 1) (exo (hp.objs.size + 1) C (some dx))) h' := fun b o e => by
    by_cases b1 : b = hp.objs.size + 1
    · rw [b1, upd_same] at e
      cases e
      rw [b1]
      exact exo_ok hx
    · rw [upd_ne b1] at e
      by_cases b2 : b = dx
      · rw [b2, upd_same] at e
        cases e
        rw [b2]
        exact exd_ok hn (relO_put ru (relO_put (fs := []) ⟨_, rfl⟩ fun g => True.intro))
      · rw [upd_ne b2] at e
        have e2 : upd H1 (hp.objs.size + 1) (exo (hp.objs.size + 1) C none) b = some o := by rw [upd_ne b1]; exact e
        refine (I2.hok b o e2).stay (fun c v hc z => hk c v (fun c1 => ?_) z) (fun c hc => same hc fun z => exo_own z.symm) (fun c xs hc => same hc fun z => exo_tup z.symm)
        rcases hc with hc | hc
        · exact b1 (hc.symm.trans c1)
        · rw [c1, upd_same] at hc
          exact exo_own (Option.some.inj hc)
  refine ⟨rfl, mk_end (a := hp.objs.size + 1) (C := C) (d := dx) (fs := [(fl, v), ("code", .str cod)]) (raises_own T.oex.exC T.oex.tyC) I (Nat.le_succ _) kk un hok rfl I.bare upd_same ?_ nd ?_⟩
  · rw [upd_ne dne, upd_same]
  · have e : upd (del (upd (upd H1 dx (exd dx [(fl, v), ("code", .str cod)])) (hp.objs.size + 1) (exo (hp.objs.size + 1) C (some dx))) (hp.objs.size + 1)) dx (.xd [(fl, v), ("code", .str cod)]) = upd H1 dx (.xd [(fl, v), ("code", .str cod)]) := by
      funext b
      by_cases b2 : b = dx
      · rw [b2, upd_same, upd_same]
      · rw [upd_ne b2, upd_ne b2]
        by_cases b1 : b = hp.objs.size + 1
        · rw [b1, del_same, fresh]
        · rw [del_ne b1, upd_ne b1, upd_ne b2]
    rw [e]
    exact h dx nd
end
end FvX


namespace FvW
open PySem PySem.Spec PyProof.Rows L2 FvX Fv
/-! ### lists and tuples alike -/
def isSeq : PyData → Bool
  | .list _ => true
  | .tuple _ => true
  | _ => false
def rows : PyData → List PyData
  | .list ds => ds
  | .tuple ds => ds
  | _ => []
theorem isSeq_ty (d : PyData) : (isB (tyN d) "list" || isB (tyN d) "tuple") = isSeq d := by
  cases d <;> (simp only [tyN, isSeq]; decide +kernel)
/-- isinstance(x, (list, tuple)) of data -/
def rIsDL (K : PySem.W.Frag) : List V → Hp → VK → Prop := fun xs H Q => ∃ (x : V) (tp : Addr) (d : PyData), xs = [x, .ref tp] ∧ H tp = some (.tup [.ty "list", .ty "tuple"]) ∧ Dp K H x d ∧ Q (.bl (isSeq d)) H
theorem call_isDL {X : Cx} : CallR X (.builtin "isinstance") (rIsDL X.K) := by
  intro pins s σ H xs us Q I r h
  obtain ⟨x, tp, d, rfl, htp, hd, q⟩ := h
  refine call_isiT pins s σ H _ us Q I r ⟨x, tp, _, _, _, isSeq d, rfl, htp, .cons (.ty "list") (.cons (.ty "tuple") .nil), dp_ty hd, ?_, q⟩
  have e := isSeq_ty d
  refine kitAny_cons (b := isB (tyN d) "list") (kit_ty (kitB_all (by decide))) (fun e1 => ?_) (fun e1 => ?_)
  · rw [e1, Bool.false_or] at e
    refine kitAny_cons (b := isB (tyN d) "tuple") (kit_ty (kitB_all (by decide))) (fun e2 => ?_) (fun e2 => ?_)
    · rw [← e, e2]; exact kitAny_nil
    · rw [← e, e2]
  · rw [← e, e1, Bool.true_or]
theorem walk_enumT {K : PySem.W.Frag} {a : Addr} {xs : List V} : Walk (IteT K a) xs.length (fun H => SqT K H a xs) (YPair (fun i => some (.int (i : Nat))) (fun i => xs[i]?)) where
  goes := fun i _ hi q => ⟨xs, xs[i], q, List.getElem?_eq_getElem hi⟩
  stops := fun _ q => ⟨xs, q, Nat.le_refl _⟩
  yields := fun i H v H' _ q y => let ⟨T, x, h1, h2, h3, h4⟩ := y; ⟨T, .int (i : Nat), x, h1, h2, h3, rfl, h4 xs q⟩
theorem enum_or {K : PySem.W.Frag} {H0 H1 : Hp} {v : V} {d : PyData} {R : It → Hp → Prop} (hd : Dp K H0 v d) (hs : isSeq d = true) (s : Same H0 H1)
    (h : ∀ (J : It) (G : Hp → Prop) (xs : List V), DpAll K H0 xs (rows d) → Walk J xs.length G (YPair (fun i => some (.int (i : Nat))) (fun i => xs[i]?)) → (∀ H', Same H0 H' → G H') → R J H1) :
    (∃ a xs, [v] = [V.ref a] ∧ SqL K H1 a xs ∧ R (Ite K a) H1) ∨ ∃ a xs, [v] = [V.ref a] ∧ SqT K H1 a xs ∧ R (IteT K a) H1 := by
  cases hd with
  | non => cases hs
  | bl => cases hs
  | int => cases hs
  | str => cases hs
  | lst hq ha => exact .inl ⟨_, _, rfl, s.seq hq, h _ _ _ ha walk_enum fun H' s' => s'.seq hq⟩
  | tup hq ha => exact .inr ⟨_, _, rfl, same_seqT s hq, h _ _ _ ha walk_enumT fun H' s' => same_seqT s' hq⟩
theorem i_enum {K : PySem.W.Frag} {H0 H1 : Hp} {v : V} {d : PyData} {R : It → Hp → Prop} {σ : L2.St} {j : Nat} (hv : σ[j]? = some (some v)) (hd : Dp K H0 v d) (hs : isSeq d = true) (s : Same H0 H1)
    (h : ∀ (J : It) (G : Hp → Prop) (xs : List V), DpAll K H0 xs (rows d) → Walk J xs.length G (YPair (fun i => some (.int (i : Nat))) (fun i => xs[i]?)) → (∀ H', Same H0 H' → G H') → R J H1) :
    iOr (iEnum K (tCons (tVar j) tNil)) (iEnumT K (tCons (tVar j) tNil)) σ H1 R := Or.imp (fun z => ⟨v, hv, z⟩) (fun z => ⟨v, hv, z⟩) (enum_or hd hs s h)
/-- what a for over a list or a tuple wants -/
theorem seq_or {K : PySem.W.Frag} {H0 H1 : Hp} {v : V} {d : PyData} {R : It → Hp → Prop} (hd : Dp K H0 v d) (hs : isSeq d = true) (s : Same H0 H1)
    (h : ∀ (J : It) (G : Hp → Prop) (xs : List V), DpAll K H0 xs (rows d) → Walk J xs.length G (YAt xs) → (∀ H', Same H0 H' → G H') → R J H1) :
    (∃ a, v = V.ref a ∧ (∃ xs, SqL K H1 a xs) ∧ R (Itl K a) H1) ∨ ∃ a, v = V.ref a ∧ (∃ xs, SqT K H1 a xs) ∧ R (Itt K a) H1 := by
  cases hd with
  | non => cases hs
  | bl => cases hs
  | int => cases hs
  | str => cases hs
  | lst hq ha => exact .inl ⟨_, rfl, ⟨_, s.seq hq⟩, h _ _ _ ha walk_list fun H' s' => s'.seq hq⟩
  | tup hq ha => exact .inr ⟨_, rfl, ⟨_, same_seqT s hq⟩, h _ _ _ ha walk_tup fun H' s' => same_seqT s' hq⟩
/-- an error with one field -/
def errF (C : Addr) (cod fl : Str) (v : V) (H : Hp) (E : XK) : Prop := ∀ (H' : Hp) (dd : Addr), Same H H' → H' dd = some (.xd [(fl, v), ("code", .str cod)]) → E (.ref C) (some dd) H'
theorem errF.mono {C : Addr} {cod fl : Str} {v : V} {H H1 : Hp} {E : XK} (h : errF C cod fl v H E) (s : Same H H1) : errF C cod fl v H1 E := fun H' dd s' e => h H' dd (s.trans s') e
end FvW


namespace FvW
open PySem PySem.Spec PyProof.Rows L2 FvX Fv
theorem pi_tupK {X : Cx} {K : PySem.W.Frag} {tg l : Expr} {tl : TE} (hK : X.K = K) (hl : PE X l tl) : PI X tg l (iTup K tl) := by
  subst hK
  exact pi_tup hl
theorem sl_tupK {X : Cx} {K : PySem.W.Frag} (hK : X.K = K) : SlR X (rSlT K) := by
  subst hK
  exact sl_tup
/-! ### [e for x in xs for y in ys]: the two loops -/
theorem in_it {J : It} {n : Nat} {G : Hp → Prop} {Y : Nat → Hp → V → Hp → Prop} (w : Walk J n G Y) {g : TG} {tt : TT} {te : TE} {vs : List Nat} {σ : L2.St} {H0 : Hp} {D : Addr} {N : Hp → Prop} (P : Nat → Hp → Prop) (h0 : P 0 H0) (hG : ∀ j H, j ≤ n → P j H → G H)
    (hs : ∀ j x H H', j < n → P j H → Y j H x H' → g x (wipe σ vs) H' fun σ3 H5 => wipe σ3 vs = wipe σ vs ∧ tt σ3 H5 fun b H6 => if b = true then te σ3 H6 fun y H7 => ∃ acc, H7 D = some (.lst acc) ∧ acc.length < sizeLine ∧ P (j + 1) (upd H7 D (.lst (acc ++ [y]))) else P (j + 1) H6)
    (hd : ∀ H, P n H → N H) :
    ∃ W : Nat → Nat → Hp → Prop, (∃ m, W 0 m H0) ∧ ∀ j k H, W j k H → (J.stop j H ∧ N H) ∨ (J.go j H ∧ ∃ Nx : Hp → Prop, (∀ H', Nx H' → ∃ k', k' < k ∧ W (j + 1) k' H') ∧ ∀ x H', J.yld j H x H' → g x (wipe σ vs) H' fun σ3 H5 => wipe σ3 vs = wipe σ vs ∧ tt σ3 H5 fun b H6 => if b = true then te σ3 H6 fun y H7 => ∃ acc, H7 D = some (.lst acc) ∧ acc.length < sizeLine ∧ Nx (upd H7 D (.lst (acc ++ [y]))) else Nx H6) := by
  refine ⟨fun j k H => k = n - j ∧ j ≤ n ∧ P j H, ⟨n - 0, rfl, Nat.zero_le n, h0⟩, fun j k H z => ?_⟩
  obtain ⟨ek, hj, p⟩ := z
  have hg := hG j H hj p
  rcases Nat.lt_or_ge j n with lt | ge
  · exact .inr ⟨w.goes j H lt hg, P (j + 1), fun H' p' => ⟨n - (j + 1), by omega, rfl, lt, p'⟩, fun x H' y => hs j x H H' lt p (w.yields j H x H' lt hg y)⟩
  · have e : n = j := Nat.le_antisymm ge hj
    subst e
    exact .inl ⟨w.stops H hg, hd H p⟩
theorem lc2_it {J : It} {n : Nat} {G : Hp → Prop} {Y : Nat → Hp → V → Hp → Prop} (w : Walk J n G Y) {g g1 : TG} {tt tt1 : TT} {te : TE} {wi1 : TI} {vs vs1 : List Nat} {σ : L2.St} {H1 : Hp} {D : Addr} {Qd : Hp → Prop} (P : Nat → Hp → Prop) (h0 : P 0 (upd H1 D (.lst []))) (hG : ∀ i H, i ≤ n → P i H → G H)
    (hs : ∀ i x H H', i < n → P i H → Y i H x H' → g x (wipe σ vs) H' fun σ2 H2 => wipe σ2 vs = wipe σ vs ∧ tt σ2 H2 fun b H3 => if b = true then wi1 σ2 H3 (fun J1 H4 => ∃ W1 : Nat → Nat → Hp → Prop, (∃ m, W1 0 m H4) ∧ ∀ j k H, W1 j k H → (J1.stop j H ∧ P (i + 1) H) ∨ (J1.go j H ∧ ∃ Nx1 : Hp → Prop, (∀ H', Nx1 H' → ∃ k', k' < k ∧ W1 (j + 1) k' H') ∧ ∀ x H', J1.yld j H x H' → g1 x (wipe σ2 vs1) H' fun σ3 H5 => wipe σ3 vs1 = wipe σ2 vs1 ∧ tt1 σ3 H5 fun b H6 => if b = true then te σ3 H6 fun y H7 => ∃ acc, H7 D = some (.lst acc) ∧ acc.length < sizeLine ∧ Nx1 (upd H7 D (.lst (acc ++ [y]))) else Nx1 H6)) else P (i + 1) H3)
    (hd : ∀ H, P n H → Qd H) :
    ∃ W : Nat → Nat → Hp → Prop, (∃ m, W 0 m (upd H1 D (.lst []))) ∧ ∀ i m H, W i m H → (J.stop i H ∧ Qd H) ∨ (J.go i H ∧ ∃ Nx : Hp → Prop, (∀ H', Nx H' → ∃ m', m' < m ∧ W (i + 1) m' H') ∧ ∀ x H', J.yld i H x H' → g x (wipe σ vs) H' fun σ2 H2 => wipe σ2 vs = wipe σ vs ∧ tt σ2 H2 fun b H3 => if b = true then wi1 σ2 H3 (fun J1 H4 => ∃ W1 : Nat → Nat → Hp → Prop, (∃ m, W1 0 m H4) ∧ ∀ j k H, W1 j k H → (J1.stop j H ∧ Nx H) ∨ (J1.go j H ∧ ∃ Nx1 : Hp → Prop, (∀ H', Nx1 H' → ∃ k', k' < k ∧ W1 (j + 1) k' H') ∧ ∀ x H', J1.yld j H x H' → g1 x (wipe σ2 vs1) H' fun σ3 H5 => wipe σ3 vs1 = wipe σ2 vs1 ∧ tt1 σ3 H5 fun b H6 => if b = true then te σ3 H6 fun y H7 => ∃ acc, H7 D = some (.lst acc) ∧ acc.length < sizeLine ∧ Nx1 (upd H7 D (.lst (acc ++ [y]))) else Nx1 H6)) else Nx H3) := by
  refine ⟨fun i m H => m = n - i ∧ i ≤ n ∧ P i H, ⟨n - 0, rfl, Nat.zero_le n, h0⟩, fun i m H z => ?_⟩
  obtain ⟨em, hi, p⟩ := z
  have hg := hG i H hi p
  rcases Nat.lt_or_ge i n with lt | ge
  · exact .inr ⟨w.goes i H lt hg, P (i + 1), fun H' p' => ⟨n - (i + 1), by omega, rfl, lt, p'⟩, fun x H' y => hs i x H H' lt p (w.yields i H x H' lt hg y)⟩
  · have e : n = i := Nat.le_antisymm ge hi
    subst e
    exact .inl ⟨w.stops H hg, hd H p⟩
/-- no if stands there -/
theorem yes_it {σ : L2.St} {H : Hp} {A B : Hp → Prop} (h : A H) : tYes σ H fun b H' => if b = true then A H' else B H' := by
  show if true = true then A H else B H
  rw [if_pos rfl]
  exact h
theorem i_seq {K : PySem.W.Frag} {H0 H1 : Hp} {v : V} {d : PyData} {R : It → Hp → Prop} {σ : L2.St} {j : Nat} (hv : σ[j]? = some (some v)) (hd : Dp K H0 v d) (hs : isSeq d = true) (s : Same H0 H1)
    (h : ∀ (J : It) (G : Hp → Prop) (xs : List V), DpAll K H0 xs (rows d) → Walk J xs.length G (YAt xs) → (∀ H', Same H0 H' → G H') → R J H1) :
    iOr (iList K (tVar j)) (iTup K (tVar j)) σ H1 R := Or.imp (fun z => ⟨v, hv, z⟩) (fun z => ⟨v, hv, z⟩) (seq_or hd hs s h)
end FvW


namespace Fv
open PySem PySem.Spec PyProof.Rows L2 FvX FvW
theorem pi_listK {X : Cx} {K : PySem.W.Frag} {tg l : Expr} {tl : TE} (hK : X.K = K) (hl : PE X l tl) : PI X tg l (iList K tl) := by
  subst hK
  exact pi_list hl
theorem cr_allK {X : Cx} {K : PySem.W.Frag} (hK : X.K = K) (hc : X.calm = true) : CallR X (.builtin "all") (rAll K) := by
  subst hK
  exact cr_all hc
theorem pe_joinK {X : Cx} {K : PySem.W.Frag} {o e : Expr} {to te : TE} {apos pos : Pos} (hK : X.K = K) (ho : PE X o to) (he : PE X e te) (hs : starEach [e] X.env = [(false, eval e X.env)] := by rfl) (hbase : attributeBase o "join" X.env (eval o X.env) = eval o X.env := by rfl) (hline : (apos.endLine == pos.line) = true := by rfl) :
    PE X (.Call (.Attribute o "join" apos) [e] [] pos) (tM1 (fun x xs H Q => ∃ a p, ∃ ys : List Str, x = .str a ∧ xs = [.ref p] ∧ (SqL K H p (ys.map V.str) ∨ SqT K H p (ys.map V.str)) ∧
      (ys.map (·.length)).sum + ys.length * a.length ≤ 16777216 ∧ Q (.str (Txt.join a ys)) H) to te) := by
  subst hK
  exact pe_join ho he hs hbase hline
theorem smx_none' {a L : Addr} {ns : List Int} {H H' : Hp} {p : Addr} (s : SmX [a] H H') (hs : Src H' a L ns) (n : H' p = none) : H p = none := by
  cases e : H p with
  | none => rfl
  | some o =>
    by_cases c : p = a
    · obtain ⟨_, _, _, _, e', _⟩ := hs
      rw [c, e'] at n; cases n
    · rw [s _ _ (fun z => c (List.mem_singleton.mp z)) e] at n; cases n
theorem Src.neL' {H : Hp} {a L l : Addr} {ns : List Int} (h : Src H a L ns) (n : H l = none) : l ≠ L := fun z => by
  obtain ⟨_, _, _, _, _, e, _⟩ := h
  rw [← z, n] at e; cases e
def natsV (ms : List Nat) : List V := ms.map fun x => V.int (x : Nat)
theorem bitAnd_nat (a b : Nat) : Builtin.bitAnd ((a : Nat) : Int) ((b : Nat) : Int) = ((a &&& b : Nat) : Int) := by
  unfold Builtin.bitAnd
  rw [decide_eq_true (Int.natCast_nonneg a), decide_eq_true (Int.natCast_nonneg b)]
  show ((((a : Int).toNat &&& (b : Int).toNat : Nat)) : Int) = _
  rw [Int.toNat_natCast, Int.toNat_natCast]
theorem inV_nats (x : Nat) : ∀ ms : List Nat, inV (.int (x : Nat)) (natsV ms) = decide (x ∈ ms)
  | [] => rfl
  | a :: ms => by
    have ih := inV_nats x ms
    unfold inV natsV at ih ⊢
    rw [List.map_cons, List.any_cons, ih, Bool.eq_iff_iff, Bool.or_eq_true, decide_eq_true_eq, decide_eq_true_eq, List.mem_cons]
    refine or_congr ?_ Iff.rfl
    show decide ((a : Int) = (x : Int)) = true ↔ _
    rw [decide_eq_true_eq]
    omega
theorem flat_nats (ms : List Nat) : (natsV ms).all flatV = true := by
  unfold natsV
  rw [List.all_map]
  exact List.all_eq_true.mpr fun v _ => rfl
theorem nats_get {ms : List Nat} {j : Nat} {x : V} (h : (natsV ms)[j]? = some x) : ∃ a, ms[j]? = some a ∧ x = .int (a : Nat) := by
  unfold natsV at h
  rw [List.getElem?_map] at h
  cases e : ms[j]? with
  | none => rw [e] at h; cases h
  | some a => rw [e] at h; exact ⟨a, rfl, (Option.some.inj h).symm⟩
theorem nats_len (ms : List Nat) : (natsV ms).length = ms.length := by unfold natsV; rw [List.length_map]
theorem nodup_lt : ∀ (n : Nat) (ms : List Nat), ms.Nodup → (∀ a ∈ ms, a < n) → ms.length ≤ n
  | 0, [], _, _ => Nat.le_refl _
  | 0, a :: ms, _, h => absurd (h a List.mem_cons_self) (Nat.not_lt_zero _)
  | n + 1, ms, nd, h => by
    have ih := nodup_lt n (ms.erase n) (nd.erase n) fun a ha => by
      have h1 := h a (List.mem_of_mem_erase ha)
      have h2 : a ≠ n := fun z => by
        rw [z] at ha
        exact (List.Nodup.mem_erase_iff nd).mp ha |>.1 rfl
      omega
    have h3 := List.length_erase (a := n) (l := ms)
    by_cases c : n ∈ ms
    · rw [if_pos c] at h3; omega
    · rw [if_neg c] at h3; omega
def unI : V → Nat
  | .int i => i.toNat
  | _ => 0
theorem perm_nats {ys : List V} {ms : List Nat} (h : ys.Perm (natsV ms)) : ∃ ns, ns.Perm ms ∧ ys = natsV ns := by
  refine ⟨ys.map unI, ?_, ?_⟩
  · have z := h.map unI
    unfold natsV at z
    rw [List.map_map] at z
    have e : ms.map (unI ∘ fun x : Nat => V.int (x : Nat)) = ms := by
      refine Eq.trans (List.map_congr_left (g := id) fun x _ => ?_) (List.map_id ms)
      show ((x : Nat) : Int).toNat = x
      exact Int.toNat_natCast x
    rw [e] at z
    exact z
  · unfold natsV
    rw [List.map_map]
    refine Eq.trans (List.map_id ys).symm (List.map_congr_left fun y hy => ?_)
    obtain ⟨x, _, rfl⟩ := List.mem_map.mp (h.mem_iff.mp hy)
    show V.int (x : Nat) = V.int ((((x : Nat) : Int).toNat : Nat) : Int)
    rw [Int.toNat_natCast]
end Fv


namespace Fv
open PySem PySem.Spec PyProof.Rows L2
/-- x in a list of data -/
def rInL (K : PySem.W.Frag) : R2 := fun x y H Q => ∃ d ds, Dp K H x d ∧ Dp K H y (.list ds) ∧ SeqAt.shaped d = true ∧ SeqAt.shaped (.list ds) = true ∧ Q (.bl (ds.any fun z => PyData.eqv z d)) H
theorem op_inL {X : Cx} (hu : X.A.units + 65 < cLine) : OpR X (compareOp .In) (rInL X.K) := by
  intro pins s σ H x y v u Q I rx ry h
  obtain ⟨d, ds, hd, he, sd, se, q⟩ := h
  obtain ⟨as, r1⟩ := Dp.reads I d x v hd rx
  obtain ⟨bs, r2⟩ := Dp.reads I (.list ds) y u he ry
  exact SeqAt.in_list_reads r2 r1 (SeqAt.canLay_of_shaped se) (SeqAt.canLay_of_shaped sd) (room_shaped sd hu) ⟨.bl _, H, I, rfl, q⟩
end Fv


namespace Fv
open PySem PySem.Spec PyProof.Rows L2 FvX FvW
/-! ### comprehensions that make truth values, or leave some out -/
theorem lc_bools {K : PySem.W.Frag} {a : Addr} {xs : List V} {bs : List Bool} {g : TG} {te : TE} {vs : List Nat} {σ : L2.St} {H1 : Hp} {D : Addr} {Qd : Hp → Prop} (hl : SqL K H1 a xs) (hn : H1 D = none) (lx : xs.length = bs.length) (lb : bs.length ≤ 900)
    (hs : ∀ (i : Nat) (x : V) (b : Bool) (H' : Hp), xs[i]? = some x → bs[i]? = some b → Same H1 H' → ∀ (N : V → Hp → Prop) (M : Hp → Prop), (∀ H'', Same H' H'' → N (.bl b) H'') → g x (wipe σ vs) H' fun σ2 H2 => wipe σ2 vs = wipe σ vs ∧ tYes σ2 H2 fun b H3 => if b = true then te σ2 H3 N else M H3)
    (hd : ∀ H', Same H1 H' → H' D = some (.lst (bs.map V.bl)) → Qd H') :
    ∃ W : Nat → Nat → Hp → Prop, (∃ m, W 0 m (upd H1 D (.lst []))) ∧ ∀ i m H, W i m H →
      ((Itl K a).stop i H ∧ Qd H) ∨ ((Itl K a).go i H ∧ ∃ Nx : Hp → Prop, (∀ H', Nx H' → ∃ m', m' < m ∧ W (i + 1) m' H') ∧ ∀ x H', (Itl K a).yld i H x H' → g x (wipe σ vs) H' fun σ2 H2 => wipe σ2 vs = wipe σ vs ∧ tYes σ2 H2 fun b H3 =>
        if b = true then te σ2 H3 fun y H4 => ∃ acc, H4 D = some (.lst acc) ∧ acc.length < sizeLine ∧ Nx (upd H4 D (.lst (acc ++ [y]))) else Nx H3) := by
  refine lc_list (xs := xs) (fun i H' => Same H1 H' ∧ H' D = some (.lst ((bs.take i).map V.bl))) ⟨same_upd hn, upd_same⟩ (fun i H' _ p => p.1.seq hl) (fun i x H' hx p => ?_) (fun H' p => ?_)
  · obtain ⟨sm, e⟩ := p
    have il := (List.getElem?_eq_some_iff.mp hx).1
    obtain ⟨b, hb⟩ : ∃ b, bs[i]? = some b := ⟨_, List.getElem?_eq_getElem (by omega)⟩
    refine hs i x b H' hx hb sm _ _ fun H4 s4 => ⟨_, s4 _ _ e, small1000 (by rw [List.length_map, List.length_take]; omega), fun c o ec => ?_, ?_⟩
    · rw [upd_ne (ne_of_none ec hn)]
      exact s4 _ _ (sm _ _ ec)
    · rw [upd_same, List.take_add_one, hb, List.map_append]
      rfl
  · obtain ⟨sm, e⟩ := p
    rw [lx, List.take_length] at e
    exact hd H' sm e
/-- with a test, all that are made are true -/
theorem lc_trues {K : PySem.W.Frag} {a : Addr} {xs : List V} {g : TG} {tt : TT} {te : TE} {vs : List Nat} {σ : L2.St} {H1 : Hp} {D : Addr} {Qd : Hp → Prop} (hl : SqL K H1 a xs) (hn : H1 D = none) (lb : xs.length ≤ 900)
    (hs : ∀ (i : Nat) (x : V) (H' : Hp), xs[i]? = some x → Same H1 H' → ∀ (N : V → Hp → Prop) (M : Hp → Prop), (∀ H'', Same H' H'' → N (.bl true) H'') → (∀ H'', Same H' H'' → M H'') → g x (wipe σ vs) H' fun σ2 H2 => wipe σ2 vs = wipe σ vs ∧ tt σ2 H2 fun b H3 => if b = true then te σ2 H3 N else M H3)
    (hd : ∀ H' n, Same H1 H' → H' D = some (.lst ((List.replicate n true).map V.bl)) → Qd H') :
    ∃ W : Nat → Nat → Hp → Prop, (∃ m, W 0 m (upd H1 D (.lst []))) ∧ ∀ i m H, W i m H →
      ((Itl K a).stop i H ∧ Qd H) ∨ ((Itl K a).go i H ∧ ∃ Nx : Hp → Prop, (∀ H', Nx H' → ∃ m', m' < m ∧ W (i + 1) m' H') ∧ ∀ x H', (Itl K a).yld i H x H' → g x (wipe σ vs) H' fun σ2 H2 => wipe σ2 vs = wipe σ vs ∧ tt σ2 H2 fun b H3 =>
        if b = true then te σ2 H3 fun y H4 => ∃ acc, H4 D = some (.lst acc) ∧ acc.length < sizeLine ∧ Nx (upd H4 D (.lst (acc ++ [y]))) else Nx H3) := by
  refine lc_list (xs := xs) (fun i H' => Same H1 H' ∧ ∃ n, n ≤ i ∧ H' D = some (.lst ((List.replicate n true).map V.bl))) ⟨same_upd hn, 0, Nat.le_refl _, upd_same⟩ (fun i H' _ p => p.1.seq hl) (fun i x H' hx p => ?_) (fun H' p => ?_)
  · obtain ⟨sm, n, ni, e⟩ := p
    have il := (List.getElem?_eq_some_iff.mp hx).1
    refine hs i x H' hx sm _ _ (fun H4 s4 => ⟨_, s4 _ _ e, small1000 (by rw [List.length_map, List.length_replicate]; omega), fun c o ec => ?_, n + 1, by omega, ?_⟩) fun H4 s4 => ⟨sm.trans s4, n, by omega, s4 _ _ e⟩
    · rw [upd_ne (ne_of_none ec hn)]
      exact s4 _ _ (sm _ _ ec)
    · rw [upd_same, List.replicate_succ', List.map_append]
      rfl
  · obtain ⟨sm, n, ni, e⟩ := p
    exact hd H' n sm e
/-- some of a list's data -/
theorem lc_filt {K : PySem.W.Frag} {a : Addr} {xs : List V} {ds : List PyData} {f : PyData → Bool} {g : TG} {tt : TT} {te : TE} {vs : List Nat} {σ : L2.St} {H1 : Hp} {D : Addr} {Qd : Hp → Prop} (hl : SqL K H1 a xs) (hn : H1 D = none) (hD : DpAll K H1 xs ds) (lb : ds.length ≤ 900)
    (hs : ∀ (i : Nat) (x : V) (d : PyData) (H' : Hp), xs[i]? = some x → ds[i]? = some d → Same H1 H' → ∀ (N : V → Hp → Prop) (M : Hp → Prop), (f d = true → ∀ H'', Same H' H'' → N x H'') → (f d = false → ∀ H'', Same H' H'' → M H'') → g x (wipe σ vs) H' fun σ2 H2 => wipe σ2 vs = wipe σ vs ∧ tt σ2 H2 fun b H3 => if b = true then te σ2 H3 N else M H3)
    (hd : ∀ H' ys, Same H1 H' → H' D = some (.lst ys) → DpAll K H1 ys (ds.filter f) → Qd H') :
    ∃ W : Nat → Nat → Hp → Prop, (∃ m, W 0 m (upd H1 D (.lst []))) ∧ ∀ i m H, W i m H →
      ((Itl K a).stop i H ∧ Qd H) ∨ ((Itl K a).go i H ∧ ∃ Nx : Hp → Prop, (∀ H', Nx H' → ∃ m', m' < m ∧ W (i + 1) m' H') ∧ ∀ x H', (Itl K a).yld i H x H' → g x (wipe σ vs) H' fun σ2 H2 => wipe σ2 vs = wipe σ vs ∧ tt σ2 H2 fun b H3 =>
        if b = true then te σ2 H3 fun y H4 => ∃ acc, H4 D = some (.lst acc) ∧ acc.length < sizeLine ∧ Nx (upd H4 D (.lst (acc ++ [y]))) else Nx H3) := by
  have lx := dpAll_len hD
  refine lc_list (xs := xs) (fun i H' => Same H1 H' ∧ ∃ ys, H' D = some (.lst ys) ∧ DpAll K H1 ys ((ds.take i).filter f)) ⟨same_upd hn, [], upd_same, .nil⟩ (fun i H' _ p => p.1.seq hl) (fun i x H' hx p => ?_) (fun H' p => ?_)
  · obtain ⟨sm, ys, e, hy⟩ := p
    obtain ⟨d, hd', hDx⟩ := dpAll_get hD hx
    have ly := dpAll_len hy
    have lf := List.length_filter_le f (ds.take i)
    rw [List.length_take] at lf
    refine hs i x d H' hx hd' sm _ _ (fun ft H4 s4 => ⟨_, s4 _ _ e, small1000 (by omega), fun c o ec => ?_, ys ++ [x], upd_same, ?_⟩) fun ff H4 s4 => ⟨sm.trans s4, ys, s4 _ _ e, ?_⟩
    · rw [upd_ne (ne_of_none ec hn)]
      exact s4 _ _ (sm _ _ ec)
    · rw [List.take_add_one, hd', List.filter_append]
      refine dpAll_app hy ?_
      rw [show (some d).toList = [d] from rfl, List.filter_cons, if_pos ft]
      exact .cons hDx .nil
    · rw [List.take_add_one, hd', List.filter_append, show (some d).toList = [d] from rfl, List.filter_cons, ff]
      simpa using hy
  · obtain ⟨sm, ys, e, hy⟩ := p
    rw [lx, List.take_length] at hy
    exact hd H' ys sm e hy
theorem all_map_true {α : Type} {l : List α} {f : α → Bool} (h : ∀ x ∈ l, f x = true) : ((l.map f).all id) = true := by
  rw [List.all_map]
  exact List.all_eq_true.mpr h
theorem rep_all (n : Nat) : ((List.replicate n true).all id) = true := List.all_eq_true.mpr fun x hx => List.eq_of_mem_replicate hx
theorem op_inLK {X : Cx} {K : PySem.W.Frag} (hK : X.K = K) (hu : X.A.units + 65 < cLine) : OpR X (compareOp .In) (rInL K) := by
  subst hK
  exact op_inL hu
end Fv


namespace FvK
open PySem PySem.Spec PyProof.Rows L2 Fv FvX FvW
/-! ### dicts made over a range -/
theorem dc_rangeK {lo : Int} {n : Nat} {g : TG} {tt : TT} {tk tv : TE} {vs : List Nat} {σ : L2.St} {H1 : Hp} {D : Addr} {Qd : Hp → Prop} (Pv : Nat → Hp → Prop) (h0 : Pv 0 (upd H1 D (.dK [])))
    (hs : ∀ i H, i < n → Pv i H → g (.int (lo + (i : Nat))) (wipe σ vs) H fun σ2 H2 => wipe σ2 vs = wipe σ vs ∧ tt σ2 H2 fun b H3 => if b = true then tk σ2 H3 (fun y H4 => tv σ2 H4 fun z H5 => ∃ kvs k, y = kV k ∧ H5 D = some (.dK kvs) ∧ kvs.length < sizeLine ∧ Pv (i + 1) (upd H5 D (.dK (putK kvs k z)))) else Pv (i + 1) H3) (hd : ∀ H, Pv n H → Qd H) :
    ∃ W : Nat → Nat → Hp → Prop, (∃ m, W 0 m (upd H1 D (.dK []))) ∧ ∀ i m H, W i m H → ((Itr lo n).stop i H ∧ Qd H) ∨ ((Itr lo n).go i H ∧ ∃ N : Hp → Prop, (∀ H', N H' → ∃ m', m' < m ∧ W (i + 1) m' H') ∧
      ∀ x H', (Itr lo n).yld i H x H' → g x (wipe σ vs) H' fun σ2 H2 => wipe σ2 vs = wipe σ vs ∧ tt σ2 H2 fun b H3 => if b = true then tk σ2 H3 (fun y H4 => tv σ2 H4 fun z H5 => ∃ kvs k, y = kV k ∧ H5 D = some (.dK kvs) ∧ kvs.length < sizeLine ∧ N (upd H5 D (.dK (putK kvs k z)))) else N H3) := by
  refine ⟨fun i m H => m = n - i ∧ i ≤ n ∧ Pv i H, ⟨n - 0, rfl, Nat.zero_le _, h0⟩, fun i m H z => ?_⟩
  obtain ⟨em, hi, p⟩ := z
  rcases Nat.lt_or_ge i n with lt | ge
  · refine .inr ⟨lt, Pv (i + 1), fun H' p' => ⟨n - (i + 1), by omega, rfl, lt, p'⟩, fun x H' y => ?_⟩
    obtain ⟨rfl, rfl⟩ := y
    exact hs i _ lt p
  · have e : n = i := Nat.le_antisymm ge hi
    subst e
    exact .inl ⟨Nat.le_refl _, hd H p⟩
theorem putK_lenK (c : List (Key × V)) (k : Key) (x : V) : (putK c k x).length ≤ c.length + 1 := by
  unfold putK
  split
  · rw [List.length_map]; omega
  · rw [List.length_append]; exact Nat.le_refl _
theorem pe_fldK {X : Cx} {K : PySem.W.Frag} {e : Expr} {ta : TE} {f : Str} {pos : Pos} (hK : X.K = K) (he : PE X e ta) (hb : attributeBase e f X.env (eval e X.env) = eval e X.env) : PE X (.Attribute e f pos) (tFld K ta f) := by
  subst hK
  exact pe_fld he hb
end FvK


namespace Fv
open PySem PySem.Spec PyProof.Rows L2
def topS (i : Nat) : Stmt := PySem.Challenge.pw_fivefault_k45_whole_equal_terms_have_one.main.body.getD i (.Pass ⟨0, 0, 0, 0⟩)
-- top 29  slots: 0:_law_source_here 1:_law_many 2:_law_cell 3:_law_digit 4:_law_mixed_here
abbrev s_law_take : Stmt := topS 29
abbrev N_law_take : List Str := ["_law_source_here", "_law_many", "_law_cell", "_law_digit", "_law_mixed_here"]
theorem sc_law_take : FnScope N_law_take ["_law_source_here", "_law_many"] (defScope s_law_take) := ⟨rfl, rfl, rfl, by decide +kernel, rfl, by decide +kernel, by decide +kernel⟩

theorem at_int {ns : List Int} {i : Int} (h0 : 0 ≤ i) (h : i < ((ns.map V.int).length : Nat)) : ∃ v : Int, atI (ns.map V.int) i = some (.int v) := by
  rw [List.length_map] at h
  have hk : i.toNat < ns.length := by omega
  have q : atI (ns.map V.int) ((i.toNat : Nat) : Int) = some (.int ns[i.toNat]) := atI_nat (by rw [List.getElem?_map, List.getElem?_eq_getElem hk] <;> rfl)
  rw [show ((i.toNat : Nat) : Int) = i by omega] at q
  exact ⟨_, q⟩
def zz (st c : Int) : Int := (((st * st) % 2147483629 + 40507 * (c + 1)) * 48271 + st + 17) % 2147483629
theorem pos1 : (0 : Int) < 2147483587 := by decide
theorem pos2 : (0 : Int) < 2147483629 := by decide
theorem pos3 : (0 : Int) < 8191 := by decide
section
variable {P : Program} {w : World} {K : PySem.W.Frag} {mg : Str → Option Value} {base : Heap}
theorem ok_take {f : Addr} {fd : FuncData} {k : Nat} (F : Fun K "_law_take" "_law_take" s_law_take f fd) (m_len : mg "len" = none) (m_int : mg "int" = none) :
    FnOk P w K mg base CX0 (k + 1) f fd ["_law_source_here", "_law_many"] spTake := by
  refine F.ok sc_law_take (fun vs H Q E h => ?_) (fun cdv A outer s H vs Q E hr h => ?_)
  · obtain ⟨a, L, ns, n, rfl, _⟩ := h
    rfl
  · obtain ⟨a, L, ns, n, rfl, ⟨i, p, st, c, hA, hL, h0, h1, h2⟩, n1, n2, q⟩ := h
    have aL : L ≠ a := fun e => by
      rw [e, hA] at hL
      cases ns with
      | nil => cases hL
      | cons x r => cases hL
    refine ⟨_, (C8.pss_cut (ps_if (PW.pt (pw_and (pt_cmpR op_eq (pe_ix ix_list (pv 0) pe_int (fun _ _ => rfl)) pe_int (nomark _)) (pw_and1 (pt_cmpR op_lt (pe_ix ix_list (pv 0) pe_int (fun _ _ => rfl)) (pe_callB call_len_seq (by rfl) m_len (by decide +kernel) (pa_cons (pe_ix ix_list (pv 0) pe_int (fun _ _ => rfl)) pa_nil)) (nomark _)))))
        (pss_cons (ps_set (i := 2) sc_law_take.nd rfl (by first | exact .inl rfl | exact .inr rfl) (pe_ix ix_list (pe_ix ix_list (pv 0) pe_int (fun _ _ => rfl)) (pe_ix ix_list (pv 0) pe_int (fun _ _ => rfl)) (fun _ _ => rfl)))
        (pss_cons (ps_asg (pe_op op_add (pe_ix ix_list (pv 0) pe_int (fun _ _ => rfl)) pe_int) (pg_sub (pv 0) pe_int set_list))
        (pss_one (ps_if (pt_cmpR op_ge (pv 2) (pe_op op_pow pe_int pe_int) (nomark _))
          (pss_one (ps_asg (pv 2) (pg_sub (pv 0) pe_int set_list)))
          (pss_one (ps_asg (pe_op op_mod (pe_callTy call_int1 (by rfl) m_int (by decide +kernel) (pa_cons (pe_op op_add (pe_op op_add (pe_op op_mul (pe_ix ix_list (pv 0) pe_int (fun _ _ => rfl)) pe_int) (pe_op op_mul (pe_op op_mod (pe_callTy call_int1 (by rfl) m_int (by decide +kernel) (pa_cons (pv 2) pa_nil)) pe_int) pe_int)) pe_int) pa_nil)) pe_int) (pg_sub (pv 0) pe_int set_list)))))))
        pss_nil)
      (pss_cons (ps_if (pt_cmpR op_gt (pe_ix ix_list (pv 0) pe_int (fun _ _ => rfl)) pe_int (nomark _))
        (pss_cons (ps_set (i := 3) sc_law_take.nd rfl (by first | exact .inl rfl | exact .inr rfl) (pe_op op_mod (pe_callTy call_int1 (by rfl) m_int (by decide +kernel) (pa_cons (pe_ix ix_list (pv 0) pe_int (fun _ _ => rfl)) pa_nil)) (pv 1)))
        (pss_cons (ps_asg (pe_op op_fdiv (pe_ix ix_list (pv 0) pe_int (fun _ _ => rfl)) (pv 1)) (pg_sub (pv 0) pe_int set_list))
        (pss_one (ps_ret (pv 3)))))
        pss_nil)
      (pss_cons (ps_asg (pe_op op_add (pe_ix ix_list (pv 0) pe_int (fun _ _ => rfl)) pe_int) (pg_sub (pv 0) pe_int set_list))
      (pss_cons (ps_set (i := 4) sc_law_take.nd rfl (by first | exact .inl rfl | exact .inr rfl) (pe_op op_add (pe_op op_mod (pe_callTy call_int1 (by rfl) m_int (by decide +kernel) (pa_cons (pe_op op_mul (pe_ix ix_list (pv 0) pe_int (fun _ _ => rfl)) (pe_ix ix_list (pv 0) pe_int (fun _ _ => rfl))) pa_nil)) pe_int) (pe_op op_mul pe_int (pe_ix ix_list (pv 0) pe_int (fun _ _ => rfl)))))
      (pss_cons (ps_asg (pe_op op_mod (pe_callTy call_int1 (by rfl) m_int (by decide +kernel) (pa_cons (pe_op op_add (pe_op op_add (pe_op op_mul (pv 4) pe_int) (pe_ix ix_list (pv 0) pe_int (fun _ _ => rfl))) pe_int) pa_nil)) pe_int) (pg_sub (pv 0) pe_int set_list))
      (pss_one (ps_ret (pe_op op_mod (pe_callTy call_int1 (by rfl) m_int (by decide +kernel) (pa_cons (pe_op op_add (pe_op op_fdiv (pe_ix ix_list (pv 0) pe_int (fun _ _ => rfl)) pe_int) (pe_op op_mul (pe_op op_mod (pe_callTy call_int1 (by rfl) m_int (by decide +kernel) (pa_cons (pe_ix ix_list (pv 0) pe_int (fun _ _ => rfl)) pa_nil)) pe_int) pe_int)) pa_nil)) (pv 1))))))))), ?_⟩
    refine ⟨fun σ' H' => ∃ (y2 : Option V) (i p st c : Int), σ' = [some (.ref a), some (.int n), y2, none, none] ∧ H' a = some (.lst [.ref L, .int i, .int p, .int st, .int c]) ∧ H' L = some (.lst (ns.map V.int)) ∧ 0 ≤ i ∧ 0 ≤ st ∧ st < 2147483629 ∧ (∀ b, b ≠ a → H' b = H b), ?_, ?_⟩
    · -- the first if
      refine ⟨_, rfl, a, _, _, _, rfl, rfl, SqL.of hA, rfl, rfl, _, rfl, ?_⟩
      refine ite2 (fun c0 => ?_) (fun c0 => ?_)
      · refine ⟨_, rfl, a, _, _, _, rfl, rfl, SqL.of hA, rfl, _, rfl, a, _, _, _, rfl, rfl, SqL.of hA, rfl, L, _, rfl, .inl (SqL.of hL), _, _, rfl, rfl, _, rfl, ?_⟩
        refine ite2 (fun c1 => ?_) (fun c1 => ?_)
        · obtain ⟨v, hv⟩ := at_int h0 (of_decide_eq_true c1)
          refine ⟨_, rfl, a, _, _, _, rfl, rfl, SqL.of hA, rfl, _, rfl, a, _, _, _, rfl, rfl, SqL.of hA, rfl, L, _, _, _, rfl, rfl, SqL.of hL, hv, ?_⟩
          refine ⟨_, rfl, a, _, _, _, rfl, rfl, SqL.of hA, rfl, _, _, rfl, rfl, _, rfl, a, _, _, _, rfl, rfl, hA, rfl, ?_⟩
          have hA2 : (upd H a (.lst [.ref L, .int (i + 1), .int p, .int st, .int c])) a = some (.lst [.ref L, .int (i + 1), .int p, .int st, .int c]) := upd_same
          refine ⟨_, rfl, _, _, rfl, rfl, ⟨by decide, by decide, by decide⟩, _, _, rfl, rfl, _, rfl, ?_⟩
          refine ite2 (fun c2 => ?_) (fun c2 => ?_)
          · refine ⟨_, rfl, _, rfl, a, _, _, _, rfl, rfl, hA2, rfl, ?_⟩
            refine ⟨some (.int v), i + 1, v, st, c, rfl, upd_same, ?_, by omega, h1, h2, fun b nb => ?_⟩
            · rw [upd_ne aL, upd_ne aL]; exact hL
            · rw [upd_ne nb, upd_ne nb]
          · refine ⟨_, rfl, a, _, _, _, rfl, rfl, SqL.of hA2, rfl, _, _, rfl, rfl, .inr ⟨by decide, by decide⟩, _, rfl, .inl ⟨_, rfl, _, _, rfl, rfl, pos1, _, _, rfl, rfl, .inr ⟨by decide, by decide⟩, _, _, rfl, rfl, _, _, rfl, rfl, .inl ⟨_, rfl, _, _, rfl, rfl, pos2, ?_⟩⟩⟩
            refine ⟨_, rfl, a, _, _, _, rfl, rfl, hA2, rfl, ?_⟩
            refine ⟨some (.int v), i + 1, p, _, c, rfl, upd_same, ?_, by omega, ?_, ?_, fun b nb => ?_⟩
            · rw [upd_ne aL, upd_ne aL]; exact hL
            · exact Int.emod_nonneg _ (by decide)
            · exact Int.emod_lt_of_pos _ (by decide)
            · rw [upd_ne nb, upd_ne nb]
        · exact ⟨none, i, p, st, c, rfl, hA, hL, h0, h1, h2, fun b nb => rfl⟩
      · exact iteF ⟨none, i, p, st, c, rfl, hA, hL, h0, h1, h2, fun b nb => rfl⟩
    · rintro σ' H' ⟨y2, i, p, st, c, rfl, hA, hL, h0, h1, h2, off⟩
      refine ⟨_, rfl, a, _, _, _, rfl, rfl, SqL.of hA, rfl, _, _, rfl, rfl, _, rfl, ?_⟩
      refine ite2 (fun c0 => ?_) (fun c0 => ?_)
      · have cp : p > 0 := of_decide_eq_true c0
        refine ⟨_, rfl, a, _, _, _, rfl, rfl, SqL.of hA, rfl, .inl ⟨_, rfl, _, rfl, _, _, rfl, rfl, by omega, ?_⟩⟩
        refine ⟨_, rfl, a, _, _, _, rfl, rfl, SqL.of hA, rfl, _, rfl, _, _, rfl, rfl, ⟨by omega, by omega⟩, _, rfl, a, _, _, _, rfl, rfl, hA, rfl, ?_⟩
        refine ⟨_, rfl, q _ _ (Int.emod_nonneg _ (by omega)) (Int.emod_lt_of_pos _ (by omega)) ⟨i, _, st, c, upd_same, ?_, h0, h1, h2⟩ fun b nb => ?_⟩
        · rw [upd_ne aL]; exact hL
        · rw [upd_ne nb]; exact off b nb
      · refine ⟨_, rfl, a, _, _, _, rfl, rfl, SqL.of hA, rfl, _, _, rfl, rfl, _, rfl, a, _, _, _, rfl, rfl, hA, rfl, ?_⟩
        have hA2 : (upd H' a (.lst [.ref L, .int i, .int p, .int st, .int (c + 1)])) a = some (.lst [.ref L, .int i, .int p, .int st, .int (c + 1)]) := upd_same
        refine ⟨_, rfl, a, _, _, _, rfl, rfl, SqL.of hA2, rfl, _, rfl, a, _, _, _, rfl, rfl, SqL.of hA2, rfl, _, _, rfl, rfl, .inl ⟨by omega, by omega⟩, .inl ⟨_, rfl, _, _, rfl, rfl, pos2, ?_⟩⟩
        refine ⟨_, rfl, a, _, _, _, rfl, rfl, SqL.of hA2, rfl, _, _, rfl, rfl, .inl ⟨by decide, by decide⟩, _, _, rfl, rfl, ?_⟩
        refine ⟨_, rfl, _, _, rfl, rfl, .inr ⟨by decide, by decide⟩, _, rfl, a, _, _, _, rfl, rfl, SqL.of hA2, rfl, _, _, rfl, rfl, _, _, rfl, rfl, .inl ⟨_, rfl, _, _, rfl, rfl, pos2, ?_⟩⟩
        refine ⟨_, rfl, a, _, _, _, rfl, rfl, hA2, rfl, ?_⟩
        have z0 : 0 ≤ zz st c := Int.emod_nonneg _ (by decide)
        have z1 : zz st c < 2147483629 := Int.emod_lt_of_pos _ (by decide)
        have hA3 : (upd (upd H' a (.lst [.ref L, .int i, .int p, .int st, .int (c + 1)])) a (.lst [.ref L, .int i, .int p, .int (zz st c), .int (c + 1)])) a = some (.lst [.ref L, .int i, .int p, .int (zz st c), .int (c + 1)]) := upd_same
        refine ⟨_, rfl, a, _, _, _, rfl, rfl, SqL.of hA3, rfl, _, _, rfl, rfl, ⟨by decide, by decide⟩, ?_⟩
        refine ⟨_, rfl, a, _, _, _, rfl, rfl, SqL.of hA3, rfl, .inl ⟨_, rfl, _, _, rfl, rfl, pos3, _, _, rfl, rfl, .inr ⟨by decide, by decide⟩, _, _, rfl, rfl, .inl ⟨_, rfl, _, rfl, _, _, rfl, rfl, by omega, ?_⟩⟩⟩
        refine q _ _ (Int.emod_nonneg _ (by omega)) (Int.emod_lt_of_pos _ (by omega)) ⟨i, p, zz st c, c + 1, upd_same, ?_, h0, z0, z1⟩ fun b nb => ?_
        · rw [upd_ne aL, upd_ne aL]; exact hL
        · rw [upd_ne nb, upd_ne nb]; exact off b nb
end
end Fv


/-! class FreeOrder: its state and its methods -/
namespace FvF
open PySem PySem.Spec PyProof.Rows L2 Fv FvD FvG FvX FvW TL
open FvK (pe_fldK)
theorem hu9 {A : Around} {k : Nat} (hr : Room k A) : A.units + 9 < cLine := by have := hu65 hr; omega
-- top 1  slots: 0:self 1:left 2:right
abbrev s_holds__of__FreeOrder : Stmt := inClass (topS 1) 1
abbrev N_holds__of__FreeOrder : List Str := ["self", "left", "right"]
theorem sc_holds__of__FreeOrder : FnScope N_holds__of__FreeOrder ["self", "left", "right"] (defScope s_holds__of__FreeOrder) := ⟨rfl, rfl, rfl, by decide +kernel, rfl, by decide +kernel, by decide +kernel⟩

-- top 1  slots: 0:self 1:left 2:right 3:pair
abbrev s_way_of__of__FreeOrder : Stmt := inClass (topS 1) 2
abbrev N_way_of__of__FreeOrder : List Str := ["self", "left", "right", "pair"]
theorem sc_way_of__of__FreeOrder : FnScope N_way_of__of__FreeOrder ["self", "left", "right"] (defScope s_way_of__of__FreeOrder) := ⟨rfl, rfl, rfl, by decide +kernel, rfl, by decide +kernel, by decide +kernel⟩

-- top 1  slots: 0:self 1:left 2:right 3:lowered 4:raised 5:part
abbrev s_found_way__of__FreeOrder : Stmt := inClass (topS 1) 3
abbrev N_found_way__of__FreeOrder : List Str := ["self", "left", "right", "lowered", "raised", "part"]
theorem sc_found_way__of__FreeOrder : FnScope N_found_way__of__FreeOrder ["self", "left", "right"] (defScope s_found_way__of__FreeOrder) := ⟨rfl, rfl, rfl, by decide +kernel, rfl, by decide +kernel, by decide +kernel⟩

-- top 1  slots: 0:self 1:word 2:pairs 3:left 4:right
abbrev s_way_of_all__of__FreeOrder : Stmt := inClass (topS 1) 4
abbrev N_way_of_all__of__FreeOrder : List Str := ["self", "word", "pairs", "left", "right"]
theorem sc_way_of_all__of__FreeOrder : FnScope N_way_of_all__of__FreeOrder ["self", "word", "pairs"] (defScope s_way_of_all__of__FreeOrder) := ⟨rfl, rfl, rfl, by decide +kernel, rfl, by decide +kernel, by decide +kernel⟩

-- top 1  slots: 0:self
abbrev s_init__of__FreeOrder : Stmt := inClass (topS 1) 0
abbrev N_init__of__FreeOrder : List Str := ["self"]
theorem sc_init__of__FreeOrder : FnScope N_init__of__FreeOrder ["self"] (defScope s_init__of__FreeOrder) := ⟨rfl, rfl, rfl, by decide +kernel, rfl, by decide +kernel, by decide +kernel⟩

/-- terms with all their parts -/
structure Un (A : List PyData) : Prop where
  tk : ∀ x ∈ A, Tk x ∧ kd 7 x = true ∧ x.depth ≤ 20
  cl : ∀ x ∈ A, ∀ p ∈ pts x, p ∈ A
  ln : A.length ≤ 1200
def prF (p : Pr) : PyData := .tuple [p.1, p.2]
def WOk (K : PySem.W.Frag) (H : Hp) (v : V) : Way → Prop
  | none => v = .non
  | some (x, ps) => Dp K H v (.tuple [.str x, .list (ps.map prF)])
theorem WOk.same {K : PySem.W.Frag} {H H' : Hp} {v : V} {y : Way} (h : WOk K H v y) (s : Same H H') : WOk K H' v y := by
  cases y with
  | none => exact h
  | some p => exact dp_same s _ _ h
theorem WOk.non {K : PySem.W.Frag} {H : Hp} {v : V} {y : Way} (h : WOk K H v y) : decide (v = .non) = !y.isSome := by
  cases y with
  | none => rw [show v = .non from h]; rfl
  | some p =>
    have h : Dp K H v (.tuple [.str p.1, .list (p.2.map prF)]) := h
    cases h with
    | tup h1 h2 => exact decide_eq_false fun z => by cases z
/-- the object c holds the dict d of ways; all that is told is told off M -/
structure FAt (K : PySem.W.Frag) (w : World) (C : Addr) (M : List Addr) (H : Hp) (c d : Addr) (kvs : List NKV) (A B : List PyData) : Prop where
  ob : ∃ dx, H c = some (.ins C dx [("ways", .ref d)])
  dc : H d = some (NdO w d kvs)
  ky : KyOk K (hide M H) kvs
  vl : ∀ p ∈ kvs, ∃ l r, p.1 = .tuple [l, r] ∧ l ∈ A ∧ r ∈ B ∧ WOk K (hide M H) p.2.2 (W l r)
  nd : (kvs.map fun p => nk p.1).Nodup
  ne : c ≠ d
  dM : d ∈ M
  tr : Trk M H
structure TxF (K : PySem.W.Frag) (C : Addr) : Prop where
  cl : Cls K C
  n1 : NoAttr K C "ways"
theorem FAt.same {K : PySem.W.Frag} {w : World} {C : Addr} {M : List Addr} {H H' : Hp} {c d : Addr} {kvs : List NKV} {A B : List PyData} (h : FAt K w C M H c d kvs A B) (s : Same H H') : FAt K w C M H' c d kvs A B := by
  obtain ⟨⟨dx, ob⟩, dc, ky, vl, nd, ne, dM, tr⟩ := h
  have sh : Same (hide M H) (hide M H') := (SmX.of_same s).hid
  exact ⟨⟨dx, s _ _ ob⟩, s _ _ dc, fun p hp => ⟨(ky p hp).1, dp_same sh _ _ (ky p hp).2⟩, fun p hp => let ⟨l, r, e, a, b, z⟩ := vl p hp; ⟨l, r, e, a, b, z.same sh⟩, nd, ne, dM, tr.same s⟩
theorem FAt.lft {K : PySem.W.Frag} {w : World} {C : Addr} {M : List Addr} {H X Y : Hp} {c d : Addr} {kvs : List NKV} {A B : List PyData} (h : FAt K w C M H c d kvs A B) (z : SmX [d] X Y) : Same (hide M X) (hide M Y) :=
  (z.sub (M' := M) fun b hb => .inl (by rw [List.mem_singleton.mp hb]; exact h.dM)).hid
theorem FAt.kyH {K : PySem.W.Frag} {w : World} {C : Addr} {M : List Addr} {H : Hp} {c d : Addr} {kvs : List NKV} {A B : List PyData} (h : FAt K w C M H c d kvs A B) : KyOk K H kvs := fun p hp => ⟨(h.ky p hp).1, dp_same hide_same _ _ (h.ky p hp).2⟩
/-- a new object is in no M that is tracked -/
theorem new_in {M : List Addr} {H : Hp} {p : Addr} {o : HO} (t : Trk M H) (np : H p = none) : hide M (upd H p o) p = some o ∧ Same (hide M H) (hide M (upd H p o)) := by
  have pM : p ∉ M := fun z => by
    obtain ⟨o', e⟩ := t p z
    rw [np] at e; cases e
  exact ⟨by rw [hide_ne pM]; exact upd_same, (SmX.of_same (same_upd np)).hid⟩
theorem nodupK_le {α : Type} [DecidableEq α] : ∀ (l m : List α), l.Nodup → (∀ x ∈ l, x ∈ m) → l.length ≤ m.length
  | [], _, _, _ => Nat.zero_le _
  | x :: l, m, h, hm => by
    obtain ⟨n1, n2⟩ := List.nodup_cons.mp h
    have mx := hm x List.mem_cons_self
    have := nodupK_le l (m.erase x) n2 fun y hy => (List.mem_erase_of_ne (fun (z : y = x) => n1 (z ▸ hy))).mpr (hm y (List.mem_cons_of_mem _ hy))
    rw [List.length_erase_of_mem mx] at this
    have := List.length_pos_of_mem mx
    rw [List.length_cons]
    omega
/-- few pairs -/
theorem FAt.small {K : PySem.W.Frag} {w : World} {C : Addr} {M : List Addr} {H : Hp} {c d : Addr} {kvs : List NKV} {A B : List PyData} (h : FAt K w C M H c d kvs A B) (uA : Un A) (uB : Un B) : kvs.length < sizeLine := by
  have a := nodupK_le (kvs.map fun p => nk p.1) ((A.flatMap fun l => B.map fun r => nk (.tuple [l, r]))) h.nd fun x hx => by
    obtain ⟨p, hp, rfl⟩ := List.mem_map.mp hx
    obtain ⟨l, r, e, ml, mr, _⟩ := h.vl p hp
    rw [e]
    exact List.mem_flatMap.mpr ⟨l, ml, List.mem_map.mpr ⟨r, mr, rfl⟩⟩
  have b : ∀ X : List PyData, (X.flatMap fun l => B.map fun r => nk (.tuple [l, r])).length = X.length * B.length := fun X => by
    induction X with
    | nil => simp
    | cons x X ih =>
      rw [List.flatMap_cons, List.length_append, ih, List.length_map, List.length_cons, Nat.succ_mul]
      omega
  rw [b, List.length_map] at a
  have c := Nat.mul_le_mul uA.ln uB.ln
  rw [sizeLine_eq]
  omega
theorem hideF_upd {M : List Addr} {H : Hp} {d : Addr} {o : HO} (m : d ∈ M) : hide M (upd H d o) = hide M H := by
  funext b
  by_cases e : b = d
  · subst e
    unfold hide
    rw [if_pos m, if_pos m]
  · unfold hide
    rw [upd_ne e]
theorem trk_upd {M : List Addr} {H : Hp} {d : Addr} {o : HO} (t : Trk M H) : Trk M (upd H d o) := fun b hb => by
  by_cases e : b = d
  · rw [e]; exact ⟨_, upd_same⟩
  · rw [upd_ne e]; exact t b hb
theorem FAt.mvd {K : PySem.W.Frag} {w : World} {C : Addr} {M : List Addr} {H : Hp} {c d t : Addr} {kvs : List NKV} {A B : List PyData} {o : HO} (h : FAt K w C M H c d kvs A B) (tM : t ∈ M) (dt : d ≠ t) (ct : c ≠ t) : FAt K w C M (upd H t o) c d kvs A B := by
  obtain ⟨⟨dx, ob⟩, dc, ky, vl, nd, ne, dM, tr⟩ := h
  refine ⟨⟨dx, by rw [upd_ne ct]; exact ob⟩, by rw [upd_ne dt]; exact dc, ?_, ?_, nd, ne, dM, trk_upd tr⟩
  · rw [hideF_upd tM]; exact ky
  · rw [hideF_upd tM]; exact vl
theorem FAt.go {K : PySem.W.Frag} {w : World} {C : Addr} {M M' : List Addr} {H H' : Hp} {c d : Addr} {kvs : List NKV} {A B : List PyData} (h : FAt K w C M H c d kvs A B) (s : Same (hide M H) (hide M' H')) (e1 : ∀ o, H c = some o → H' c = some o) (e2 : ∀ o, H d = some o → H' d = some o) (m : d ∈ M') (t : Trk M' H') : FAt K w C M' H' c d kvs A B := by
  obtain ⟨⟨dx, ob⟩, dc, ky, vl, nd, ne, dM, tr⟩ := h
  exact ⟨⟨dx, e1 _ ob⟩, e2 _ dc, fun p hp => ⟨(ky p hp).1, dp_same s _ _ (ky p hp).2⟩, fun p hp => let ⟨l, r, e, a, b, z⟩ := vl p hp; ⟨l, r, e, a, b, z.same s⟩, nd, ne, m, t⟩
theorem kd_pair7 {l r : PyData} (a : kd 7 l = true) (b : kd 7 r = true) : kd 8 (.tuple [l, r]) = true := by
  show kdAll 7 [l, r] = true
  rw [kdAll_iff]
  intro x hx
  simp only [List.mem_cons, List.not_mem_nil, or_false] at hx
  rcases hx with rfl | rfl
  · exact a
  · exact b
theorem FAt.get {K : PySem.W.Frag} {w : World} {C : Addr} {M : List Addr} {H : Hp} {c d : Addr} {kvs : List NKV} {A B : List PyData} {l r : PyData} (h : FAt K w C M H c d kvs A B) (kk : kd 8 (.tuple [l, r]) = true) (e : (kvs.any fun p => decide (nk p.1 = nk (.tuple [l, r]))) = true) : ∃ v, valD kvs (.tuple [l, r]) = some v ∧ WOk K (hide M H) v (W l r) := by
  unfold valD
  cases hf : kvs.find? fun p => decide (nk p.1 = nk (.tuple [l, r])) with
  | none =>
    obtain ⟨p, hp, z⟩ := List.any_eq_true.mp e
    exact absurd z (List.find?_eq_none.mp hf p hp)
  | some p =>
    have hp := List.mem_of_find?_eq_some hf
    have z : nk p.1 = nk (.tuple [l, r]) := of_decide_eq_true (List.find?_some (p := fun p : NKV => decide (nk p.1 = nk (.tuple [l, r]))) hf)
    obtain ⟨l', r', e', _, _, wv⟩ := h.vl p hp
    have e2 := nk_inj 8 8 _ _ (h.ky p hp).1 kk z
    rw [e2] at e'
    cases e'
    exact ⟨_, rfl, wv⟩
/-- a pair put in -/
theorem FAt.put {K : PySem.W.Frag} {w : World} {C : Addr} {M : List Addr} {H : Hp} {c d : Addr} {kvs : List NKV} {A B : List PyData} {l r : PyData} {y v : V} (h : FAt K w C M H c d kvs A B) (kk : kd 8 (.tuple [l, r]) = true) (ml : l ∈ A) (mr : r ∈ B) (hy : Dp K (hide M H) y (.tuple [l, r])) (hv : WOk K (hide M H) v (W l r)) :
    FAt K w C M (upd H d (NdO w d (putN kvs (.tuple [l, r]) y v))) c d (putN kvs (.tuple [l, r]) y v) A B ∧ valD (putN kvs (.tuple [l, r]) y v) (.tuple [l, r]) = some v := by
  obtain ⟨⟨dx, ob⟩, dc, ky, vl, nd, ne, dM, tr⟩ := id h
  have mem : ∀ p ∈ putN kvs (.tuple [l, r]) y v, (p ∈ kvs) ∨ (nk p.1 = nk (.tuple [l, r]) ∧ p.2.2 = v ∧ kd 8 p.1 = true ∧ Dp K (hide M H) p.2.1 p.1) := fun p hp => by
    unfold putN at hp
    split at hp
    · obtain ⟨q, hq, e⟩ := List.mem_map.mp hp
      by_cases c : nk q.1 = nk (.tuple [l, r])
      · rw [if_pos c] at e
        subst e
        exact .inr ⟨c, rfl, (ky q hq).1, (ky q hq).2⟩
      · rw [if_neg c] at e
        subst e
        exact .inl hq
    · rcases List.mem_append.mp hp with z | z
      · exact .inl z
      · rw [List.mem_singleton.mp z]
        exact .inr ⟨rfl, rfl, kk, hy⟩
  refine ⟨⟨⟨dx, by rw [upd_ne ne]; exact ob⟩, upd_same, fun p hp => ?_, fun p hp => ?_, putN_keys kvs _ y v nd, ne, dM, trk_upd tr⟩, ?_⟩
  · rw [hideF_upd h.dM]
    rcases mem p hp with z | ⟨_, _, z1, z2⟩
    · exact ky p z
    · exact ⟨z1, z2⟩
  · rw [hideF_upd h.dM]
    rcases mem p hp with z | ⟨z0, z1, z2, _⟩
    · exact vl p z
    · have e := nk_inj 8 8 _ _ z2 kk z0
      exact ⟨l, r, e, ml, mr, by rw [z1]; exact hv⟩
  · unfold valD putN
    by_cases c : (kvs.any fun p => decide (nk p.1 = nk (.tuple [l, r]))) = true
    · rw [if_pos c]
      obtain ⟨p, hp, z⟩ := List.any_eq_true.mp c
      cases hf : (kvs.map fun p => if nk p.1 = nk (.tuple [l, r]) then (p.1, p.2.1, v) else p).find? fun p => decide (nk p.1 = nk (.tuple [l, r])) with
      | none =>
        have := List.find?_eq_none.mp hf _ (List.mem_map.mpr ⟨p, hp, rfl⟩)
        rw [if_pos (of_decide_eq_true z)] at this
        exact absurd z this
      | some q =>
        have hq := List.mem_of_find?_eq_some hf
        have z2 : nk q.1 = nk (.tuple [l, r]) := of_decide_eq_true (List.find?_some (p := fun p : NKV => decide (nk p.1 = nk (.tuple [l, r]))) hf)
        obtain ⟨p2, hp2, e⟩ := List.mem_map.mp hq
        by_cases c2 : nk p2.1 = nk (.tuple [l, r])
        · rw [if_pos c2] at e
          rw [← e]
          rfl
        · rw [if_neg c2] at e
          rw [e] at c2
          exact absurd z2 c2
    · rw [if_neg c, List.find?_append]
      cases hf : kvs.find? fun p => decide (nk p.1 = nk (.tuple [l, r])) with
      | some q => exact absurd (List.any_eq_true.mpr ⟨q, List.mem_of_find?_eq_some hf, List.find?_some hf⟩) c
      | none => simp
def spHo (K : PySem.W.Frag) (w : World) (C : Addr) (n : Nat) : Sp := fun vs H Q _ => ∃ (c d : Addr) (M : List Addr) (kvs : List NKV) (A B : List PyData) (vl vr : V) (l r : PyData), vs = [.ref c, vl, vr] ∧ FAt K w C M H c d kvs A B ∧ Un A ∧ Un B ∧ Dp K (hide M H) vl l ∧ Dp K (hide M H) vr r ∧ l ∈ A ∧ r ∈ B ∧ l.depth + r.depth < n ∧
  ∀ H' kvs', FAt K w C M H' c d kvs' A B → SmX [d] H H' → Q (.bl (le l r)) H'
def spWy (K : PySem.W.Frag) (w : World) (C : Addr) (n : Nat) : Sp := fun vs H Q _ => ∃ (c d : Addr) (M : List Addr) (kvs : List NKV) (A B : List PyData) (vl vr : V) (l r : PyData), vs = [.ref c, vl, vr] ∧ FAt K w C M H c d kvs A B ∧ Un A ∧ Un B ∧ Dp K (hide M H) vl l ∧ Dp K (hide M H) vr r ∧ l ∈ A ∧ r ∈ B ∧ l.depth + r.depth < n ∧
  ∀ H' kvs' v, FAt K w C M H' c d kvs' A B → SmX [d] H H' → WOk K (hide M H') v (W l r) → Q v H'
def spWa (K : PySem.W.Frag) (w : World) (C : Addr) (n : Nat) : Sp := fun vs H Q _ => ∃ (c d p : Addr) (x : Str) (M : List Addr) (kvs : List NKV) (A B : List PyData) (ps : List Pr), vs = [.ref c, .str x, .ref p] ∧ FAt K w C M H c d kvs A B ∧ Un A ∧ Un B ∧ Dp K (hide M H) (.ref p) (.list (ps.map prF)) ∧ (∀ q ∈ ps, q.1 ∈ A ∧ q.2 ∈ B ∧ q.1.depth + q.2.depth < n) ∧
  ∀ H' kvs' v, FAt K w C M H' c d kvs' A B → SmX [d] H H' → WOk K (hide M H') v (if ps.all (fun q => le q.1 q.2) = true then some (x, ps) else none) → Q v H'
theorem ho_zero {P : Program} {w : World} {K : PySem.W.Frag} {mg : Str → Option Value} {base : Heap} {f C : Addr} {fd : FuncData} {k : Nat} {ps : List Str} : FnOk P w K mg base CX0 k f fd ps (spHo K w C 0) := by
  have no : ∀ vs H Q E, ¬ spHo K w C 0 vs H Q E := fun vs H Q E h => by
    obtain ⟨_, _, _, _, _, _, _, _, _, _, _, _, _, _, _, _, _, _, h1, _⟩ := h
    omega
  exact ⟨fun vs H Q E h => absurd h (no vs H Q E), fun A outer s H args us vs Q E _ _ _ _ h => absurd h (no vs H Q E)⟩
section
variable {P : Program} {w : World} {K : PySem.W.Frag} {mg : Str → Option Value} {base : Heap} {C : Addr}
theorem ok_holds {f : Addr} {fd : FuncData} {k n : Nat} (F : Fun K "holds" "FreeOrder.holds" s_holds__of__FreeOrder f fd) (T : TxF K C) (M_way_of : C8.Met P w K mg base k C "way_of" (spWy K w C n) []) :
    FnOk P w K mg base CX0 (k + 1) f fd ["self", "left", "right"] (spHo K w C n) := by
  refine F.ok sc_holds__of__FreeOrder (fun vs H Q E h => ?_) (fun cdv A0 outer s H vs Q E hr h => ?_)
  · obtain ⟨c, d, M, kvs, A, B, vl, vr, l, r, rfl, _⟩ := h
    rfl
  · obtain ⟨c, d, M, kvs, A, B, vl, vr, l, r, rfl, hF, uA, uB, hl, hr', ml, mr, hd, good⟩ := h
    refine ⟨_, (pss_one (ps_ret (pe_cmpR op_notN (C8.pe_mt M_way_of hr (by omega) (pv 0) (pa_cons (pv 1) (pa_cons (pv 2) pa_nil))) pe_non (nomark _)))), ?_⟩
    obtain ⟨dx, ob⟩ := hF.ob
    refine ⟨_, rfl, c, dx, _, rfl, ob, rfl, _, rfl, _, rfl, c, d, M, kvs, A, B, vl, vr, l, r, rfl, hF, uA, uB, hl, hr', ml, mr, hd, fun H' kvs' v hF' sm hv => ⟨rfl, ?_⟩⟩
    have g := good H' kvs' hF' sm
    rw [hv.non, Bool.not_not]
    exact g
theorem ok_way_of {f : Addr} {fd : FuncData} {k n : Nat} (F : Fun K "way_of" "FreeOrder.way_of" s_way_of__of__FreeOrder f fd) (T : TxF K C) (M_found_way : C8.Met P w K mg base k C "found_way" (spWy K w C n) []) :
    FnOk P w K mg base CX0 (k + 1) f fd ["self", "left", "right"] (spWy K w C n) := by
  refine F.ok sc_way_of__of__FreeOrder (fun vs H Q E h => ?_) (fun cdv A0 outer s H vs Q E hr h => ?_)
  · obtain ⟨c, d, M, kvs, A, B, vl, vr, l, r, rfl, _⟩ := h
    rfl
  · obtain ⟨c, d, M, kvs, A, B, vl, vr, l, r, rfl, hF, uA, uB, hl, hr', ml, mr, hd, good⟩ := h
    refine ⟨_, (pss_cons (ps_set (i := 3) sc_way_of__of__FreeOrder.nd rfl (by first | exact .inl rfl | exact .inr rfl) (pe_tup (pa_cons (pv 1) (pa_cons (pv 2) pa_nil))))
      (C8.pss_cut (ps_if (pt_cmpR (FvD.op_notInN (K := K) (w := w) rfl rfl (hu9 hr)) (pv 3) (pe_fldK (K := K) rfl (pv 0) rfl) (by rfl))
        (pss_one (FvD.ps_dputN (hu9 hr) (pe_fldK (K := K) rfl (pv 0) rfl) (pv 3) (C8.pe_mt M_found_way hr (by omega) (pv 0) (pa_cons (pv 1) (pa_cons (pv 2) pa_nil))) rfl))
        pss_nil)
      (pss_one (ps_ret (FvD.pe_dgetN (K := K) (w := w) rfl rfl (hu9 hr) (pe_fldK (K := K) rfl (pv 0) rfl) (pv 3) (fun _ _ => rfl)))))), ?_⟩
    obtain ⟨dx, ob⟩ := hF.ob
    refine ⟨_, rfl, _, rfl, (by show 2 ≤ sizeLine; decide), fun T1 n1 => ?_⟩
    have s1 := same_upd (o := .tup [vl, vr]) n1
    have hF1 := hF.same s1
    have hT : upd H T1 (.tup [vl, vr]) T1 = some (.tup [vl, vr]) := upd_same
    obtain ⟨hT', sh1⟩ := new_in (o := .tup [vl, vr]) hF.tr n1
    generalize upd H T1 (.tup [vl, vr]) = H1 at s1 hF1 hT hT' sh1
    have pk : Dp K (hide M H1) (.ref T1) (.tuple [l, r]) := .tup (SqT.of hT') (.cons (dp_same sh1 _ _ hl) (.cons (dp_same sh1 _ _ hr') .nil))
    have kk : kd 8 (.tuple [l, r]) = true := kd_pair7 (uA.tk _ ml).2.1 (uB.tk _ mr).2.1
    refine ⟨fun σ' H' => ∃ kvs' v, σ' = [some (.ref c), some vl, some vr, some (.ref T1)] ∧ FAt K w C M H' c d kvs' A B ∧ SmX [d] H1 H' ∧ valD kvs' (.tuple [l, r]) = some v ∧ WOk K (hide M H') v (W l r), ?_, ?_⟩
    · obtain ⟨dx1, ob1⟩ := hF1.ob
      refine ⟨_, rfl, _, rfl, c, C, dx1, _, _, rfl, ob1, T.cl, T.n1, rfl, d, kvs, .tuple [l, r], rfl, .inl hF1.dc, hF1.kyH, kk, dp_same hide_same _ _ pk, _, rfl, ?_⟩
      cases ea : kvs.any fun p => decide (nk p.1 = nk (.tuple [l, r])) with
      | true =>
        obtain ⟨v, e1, e2⟩ := hF1.get kk ea
        exact iteF ⟨kvs, v, rfl, hF1, SmX.refl _ _, e1, e2⟩
      | false =>
        refine iteT ⟨_, rfl, c, dx1, _, rfl, ob1, rfl, _, rfl, _, rfl, c, d, M, kvs, A, B, vl, vr, l, r, rfl, hF1, uA, uB, dp_same sh1 _ _ hl, dp_same sh1 _ _ hr', ml, mr, hd, fun H2 kvs2 v hF2 sm2 hv2 => ?_⟩
        obtain ⟨dx2, ob2⟩ := hF2.ob
        have pk2 := dp_same (hF1.lft sm2) _ _ pk
        obtain ⟨hF3, e3⟩ := hF2.put kk ml mr pk2 hv2
        refine ⟨_, rfl, c, C, dx2, _, _, rfl, ob2, T.cl, T.n1, rfl, _, rfl, d, kvs2, .tuple [l, r], rfl, hF2.dc, hF2.kyH, kk, dp_same hide_same _ _ pk2, hF2.small uA uB, _, v, rfl, hF3, sm2.put (List.mem_singleton.mpr rfl), e3, ?_⟩
        rw [hideF_upd hF1.dM]
        exact hv2
    · rintro σ' H2 ⟨kvs', v, rfl, hF2, sm, ev, hv⟩
      obtain ⟨dx2, ob2⟩ := hF2.ob
      have pk2 : Dp K H2 (.ref T1) (.tuple [l, r]) := by
        exact dp_same hide_same _ _ (dp_same (hF1.lft sm) _ _ pk)
      exact ⟨_, rfl, c, C, dx2, _, _, rfl, ob2, T.cl, T.n1, rfl, _, rfl, d, kvs', .tuple [l, r], v, rfl, hF2.dc, hF2.kyH, kk, pk2, ev, good _ _ _ hF2 ((SmX.of_same s1).trans sm) hv⟩
end
end FvF


namespace Fv
open PySem PySem.Spec PyProof.Rows L2 FvD FvG
/-! ### == of keys -/
mutual
theorem eqv_iff : ∀ (n m : Nat) (z d : PyData), kd n z = true → kd m d = true → (PyData.eqv z d = true ↔ nk z = nk d)
  | n, m, .str x, .str y, _, _ => by
    simp only [nk, PyData.eqv]
    rw [beq_iff_eq]
    exact ⟨fun h => by rw [h], fun h => by injection h⟩
  | n + 1, m + 1, .tuple ds, .tuple es, hd, he => by
    simp only [nk, PyData.eqv]
    rw [eqvs_iff n m ds es (by simpa [kd] using hd) (by simpa [kd] using he)]
    exact ⟨fun h => by rw [h], fun h => by injection h⟩
  | n, m, .str x, .tuple es, _, _ => by
    simp only [nk, PyData.eqv]
    exact ⟨(fun h => nomatch h), (fun h => by cases h)⟩
  | n, m, .tuple es, .str x, _, _ => by
    simp only [nk, PyData.eqv]
    exact ⟨(fun h => nomatch h), (fun h => by cases h)⟩
  | 0, m, .tuple es, e, hd, _ => by simp [kd] at hd
  | n, 0, d, .tuple es, _, he => by simp [kd] at he
  | n, m, .none, e, hd, _ => by cases n <;> simp [kd] at hd
  | n, m, .bool _, e, hd, _ => by cases n <;> simp [kd] at hd
  | n, m, .int _, e, hd, _ => by cases n <;> simp [kd] at hd
  | n, m, .list _, e, hd, _ => by cases n <;> simp [kd] at hd
  | n, m, .dict _, e, hd, _ => by cases n <;> simp [kd] at hd
  | n, m, d, .none, _, he => by cases m <;> simp [kd] at he
  | n, m, d, .bool _, _, he => by cases m <;> simp [kd] at he
  | n, m, d, .int _, _, he => by cases m <;> simp [kd] at he
  | n, m, d, .list _, _, he => by cases m <;> simp [kd] at he
  | n, m, d, .dict _, _, he => by cases m <;> simp [kd] at he
theorem eqvs_iff : ∀ (n m : Nat) (ds es : List PyData), kdAll n ds = true → kdAll m es = true → (PyData.eqvAll ds es = true ↔ nks ds = nks es)
  | n, m, [], [], _, _ => by simp [PyData.eqvAll, nks]
  | n, m, d :: ds, e :: es, hd, he => by
    simp only [kdAll, Bool.and_eq_true] at hd he
    simp only [PyData.eqvAll, nks, Bool.and_eq_true]
    rw [eqv_iff n m d e hd.1 he.1, eqvs_iff n m ds es hd.2 he.2]
    exact ⟨fun h => by rw [h.1, h.2], fun h => by injection h with h1 h2; exact ⟨h1, h2⟩⟩
  | n, m, [], e :: es, _, _ => by simp [PyData.eqvAll, nks]
  | n, m, d :: ds, [], _, _ => by simp [PyData.eqvAll, nks]
end
theorem eqv_nk {n m : Nat} {z d : PyData} (hz : kd n z = true) (hd : kd m d = true) : PyData.eqv z d = decide (nk z = nk d) := by
  rw [Bool.eq_iff_iff, decide_eq_true_eq]
  exact eqv_iff n m z d hz hd
end Fv


namespace Fv
open PySem PySem.Spec PyProof.Rows L2 FvX TL
/-! ### reading, as the program reads: a mirror over code points -/
/-- k signs from at on -/
def sub (T : List Nat) (at' k : Nat) : Str := ⟨((T.drop at').take k).toArray⟩
theorem tl_sub (T : List Nat) (a k : Nat) : tl (sub T a k) = (T.drop a).take k := rfl
theorem cut_sub (z : Str) (a k : Nat) : cutS z (some (a : Int)) (some ((a : Int) + (k : Nat))) = sub (tl z) a k := by
  refine ext_tl ?_
  have e : ((a : Int) + (k : Nat)) = ((a + k : Nat) : Int) := by omega
  rw [tl_sub, e]
  show ((z.cps.toList.drop (HT.sIx z.length 0 (some (a : Int)))).take (HT.sIx z.length z.length (some ((a + k : Nat) : Int)) - HT.sIx z.length 0 (some (a : Int)))) = _
  rw [HT.sIx_nat, HT.sIx_nat]
  have hl : z.length = (tl z).length := len_tl z
  have hl2 : z.length = z.cps.toList.length := len_tl z
  by_cases h : a ≤ z.length
  · rw [Nat.min_eq_left h]
    by_cases h2 : a + k ≤ z.length
    · rw [Nat.min_eq_left h2, Nat.add_sub_cancel_left]
    · rw [Nat.min_eq_right (by omega), List.take_of_length_le (by rw [List.length_drop]; omega), List.take_of_length_le (by rw [List.length_drop]; omega)]
  · rw [Nat.min_eq_right (by omega : z.length ≤ a), List.drop_of_length_le (by omega), List.drop_of_length_le (by omega), List.take_nil, List.take_nil]
theorem sub_len (T : List Nat) (a k : Nat) : (sub T a k).length ≤ k := by
  rw [len_tl, tl_sub, List.length_take]; omega
theorem sub_in {T : List Nat} {a k n : Nat} (h : (sub T a k).length = n) (hn : 0 < n) : a + n ≤ T.length := by
  rw [len_tl, tl_sub, List.length_take, List.length_drop] at h
  omega
def rdL (P : Nat → Option (PyData × Nat)) (T : List Nat) (sg : Str) : Nat → Nat → List PyData → Option (List PyData × Nat)
  | 0, _, _ => none
  | f + 1, a, acc => if sub T a 3 = sg then (match P (a + 3) with
    | none => none
    | some (d, e) => rdL P T sg f e (acc ++ [d])) else some (acc, a)
def sgn (s : Str) : Str := if s = " & " then "&" else "|"
def isSg (s : Str) : Prop := s = " & " ∨ s = " | "
instance (s : Str) : Decidable (isSg s) := inferInstanceAs (Decidable (_ ∨ _))
def rdT (P : Nat → Option (PyData × Nat)) (T : List Nat) (a : Nat) : Option (PyData × Nat) := match P a with
  | none => none
  | some (d, e) => if isSg (sub T e 3) then (match rdL P T (sub T e 3) (T.length + 1 - e) e [d] with
      | none => none
      | some (ds, e') => some (.tuple (.str (sgn (sub T e 3)) :: ds), e')) else if isLd d = true then some (d, e) else none
def rdP (T : List Nat) : Nat → Nat → Option (PyData × Nat)
  | 0 => fun a => if isL (sub T a 1) = true then some (.str (sub T a 1), a + 1) else none
  | n + 1 => fun a => if isL (sub T a 1) = true then some (.str (sub T a 1), a + 1) else if sub T a 1 = "(" then (match rdT (rdP T n) T (a + 1) with
      | none => none
      | some (d, e) => if isLd d = true ∨ sub T e 1 ≠ ")" then none else some (d, e + 1)) else none
theorem isL_one {x : Str} (h : isL x = true) : x ∈ (["a", "b", "c", "d", "e", "f", "g", "h"] : List Str) := by
  have hl := isL_len h
  rw [len_tl] at hl
  obtain ⟨c, ec⟩ : ∃ c, tl x = [c] := by
    match tl x, hl with
    | [c], _ => exact ⟨c, rfl⟩
  have ex : x = ⟨#[c]⟩ := ext_tl (by rw [ec])
  subst ex
  unfold isL at h
  rw [Bool.and_eq_true] at h
  have h2 := h.2
  rw [PySem.StrLaws.found_one, decide_eq_true_eq] at h2
  have e : ("abcdefgh" : Str).cps.toList = [97, 98, 99, 100, 101, 102, 103, 104] := by decide +kernel
  rw [e] at h2
  have all : ∀ c ∈ ([97, 98, 99, 100, 101, 102, 103, 104] : List Nat), (⟨#[c]⟩ : Str) ∈ (["a", "b", "c", "d", "e", "f", "g", "h"] : List Str) := by decide +kernel
  exact all c h2
theorem isL_gd {x : Str} (h : isL x = true) (n : Nat) : gd n (.str x) = true := gd_le (isL_lett (isL_one h)).2 (Nat.zero_le _)
theorem sg_len {s : Str} (h : isSg s) : s.length = 3 := by rcases h with h | h <;> rw [h] <;> decide +kernel
/-- what a reading of parts promises -/
def PFine (T : List Nat) (n : Nat) (P : Nat → Option (PyData × Nat)) : Prop := ∀ a d e, P a = some (d, e) → a < e ∧ e ≤ T.length ∧ gd n d = true
theorem rdL_fine {T : List Nat} {n : Nat} {P : Nat → Option (PyData × Nat)} (hP : PFine T n P) {sg : Str} (hs : sg.length = 3) : ∀ (f a : Nat) (acc ds : List PyData) (e : Nat), rdL P T sg f a acc = some (ds, e) →
    (∀ d ∈ acc, gd n d = true) → 4 * acc.length ≤ a + 3 → a ≤ T.length → (∀ d ∈ ds, gd n d = true) ∧ 4 * ds.length ≤ e + 3 ∧ a ≤ e ∧ e ≤ T.length
  | 0, a, acc, ds, e, h, _, _, _ => by cases h
  | f + 1, a, acc, ds, e, h, hg, hl, ha => by
    unfold rdL at h
    by_cases c : sub T a 3 = sg
    · rw [if_pos c] at h
      cases hp : P (a + 3) with
      | none => rw [hp] at h; cases h
      | some r =>
        obtain ⟨d, e1⟩ := r
        rw [hp] at h
        obtain ⟨h1, h2, h3⟩ := hP _ _ _ hp
        have z := rdL_fine hP hs f e1 (acc ++ [d]) ds e h (fun x hx => by
          rcases List.mem_append.mp hx with q | q
          · exact hg x q
          · rw [List.mem_singleton.mp q]; exact h3) (by rw [List.length_append, List.length_singleton]; omega) h2
        exact ⟨z.1, z.2.1, by omega, z.2.2.2⟩
    · rw [if_neg c] at h
      cases h
      exact ⟨hg, hl, Nat.le_refl _, ha⟩
theorem rdT_fine {T : List Nat} {n : Nat} {P : Nat → Option (PyData × Nat)} (hT : T.length ≤ 2900) (hP : PFine T n P) : PFine T (n + 1) (rdT P T) := by
  intro a d e h
  unfold rdT at h
  cases hp : P a with
  | none => rw [hp] at h; cases h
  | some r =>
    obtain ⟨d1, e1⟩ := r
    rw [hp] at h
    obtain ⟨h1, h2, h3⟩ := hP _ _ _ hp
    dsimp only at h
    by_cases c : isSg (sub T e1 3)
    · rw [if_pos c] at h
      cases hr : rdL P T (sub T e1 3) (T.length + 1 - e1) e1 [d1] with
      | none => rw [hr] at h; cases h
      | some r =>
        obtain ⟨ds, e2⟩ := r
        rw [hr] at h
        cases h
        obtain ⟨z1, z2, z3, z4⟩ := rdL_fine hP (sg_len c) _ _ _ _ _ hr (fun x hx => by rw [List.mem_singleton.mp hx]; exact h3) (by rw [List.length_singleton]; omega) h2
        refine ⟨by omega, z4, gd_tup (fun x hx => ?_) (by rw [List.length_cons]; omega)⟩
        rcases List.mem_cons.mp hx with q | q
        · rw [q]
          refine gd_le (n := 0) ?_ (Nat.zero_le _)
          unfold sgn
          split <;> decide +kernel
        · exact z1 x q
    · rw [if_neg c] at h
      by_cases c2 : isLd d1 = true
      · rw [if_pos c2] at h
        cases h
        exact ⟨h1, h2, gd_up _ _ h3⟩
      · rw [if_neg c2] at h; cases h
theorem rdP_fine {T : List Nat} (hT : T.length ≤ 2900) : ∀ n : Nat, PFine T n (rdP T n)
  | 0 => fun a d e h => by
    unfold rdP at h
    by_cases c : isL (sub T a 1) = true
    · rw [if_pos c] at h
      cases h
      exact ⟨by omega, sub_in (isL_len c) (by decide), isL_gd c _⟩
    · rw [if_neg c] at h; cases h
  | n + 1 => fun a d e h => by
    unfold rdP at h
    by_cases c : isL (sub T a 1) = true
    · rw [if_pos c] at h
      cases h
      exact ⟨by omega, sub_in (isL_len c) (by decide), isL_gd c _⟩
    · rw [if_neg c] at h
      by_cases c2 : sub T a 1 = "("
      · rw [if_pos c2] at h
        cases hr : rdT (rdP T n) T (a + 1) with
        | none => rw [hr] at h; cases h
        | some r =>
          obtain ⟨d1, e1⟩ := r
          rw [hr] at h
          dsimp only at h
          obtain ⟨h1, h2, h3⟩ := rdT_fine hT (rdP_fine hT n) _ _ _ hr
          by_cases c3 : isLd d1 = true ∨ sub T e1 1 ≠ ")"
          · rw [if_pos c3] at h; cases h
          · rw [if_neg c3] at h
            cases h
            have c4 : sub T e1 1 = ")" := Classical.not_not.mp fun z => c3 (.inr z)
            exact ⟨by omega, sub_in (by rw [c4]; decide +kernel) (by decide), h3⟩
      · rw [if_neg c2] at h; cases h
theorem sub_ok {x : Str} (h : PyData.strOk x = true) (a k : Nat) : PyData.strOk (sub (tl x) a k) = true := by
  unfold PyData.strOk at h ⊢
  rw [← Array.all_toList, List.all_eq_true] at h ⊢
  intro c hc
  exact h c (List.mem_of_mem_drop (List.mem_of_mem_take hc))
theorem sub_gd {x : Str} (h : PyData.strOk x = true) (a k : Nat) (hk : k ≤ 3) (n : Nat) : gd n (.str (sub (tl x) a k)) = true := by
  refine gd_le (n := 0) ?_ (Nat.zero_le _)
  have := sub_len (tl x) a k
  show (PyData.strOk (sub (tl x) a k) && decide ((sub (tl x) a k).length ≤ 100000)) = true
  rw [sub_ok h, decide_eq_true (by omega)]
  rfl
theorem cut1 (z : Str) (a : Nat) : cutS z (some (a : Int)) (some ((a : Int) + 1)) = sub (tl z) a 1 := cut_sub z a 1
theorem cut3 (z : Str) (a : Nat) : cutS z (some (a : Int)) (some ((a : Int) + 3)) = sub (tl z) a 3 := cut_sub z a 3
theorem sub_one {T : List Nat} {a : Nat} (h : (sub T a 1).length = 1) : ∃ c, T[a]? = some c ∧ sub T a 1 = ⟨#[c]⟩ := by
  have hl := sub_in h (by decide)
  refine ⟨T[a], List.getElem?_eq_getElem (by omega), ext_tl ?_⟩
  rw [tl_sub, List.drop_eq_getElem_cons (by omega)]
  rfl
def outR (K : PySem.W.Frag) (CT : Addr) (M : List Addr) (r : Option (PyData × Nat)) (H : Hp) (Q : VK) (E : XK) : Prop :=
  (∀ d e, r = some (d, e) → ∀ (H' : Hp) (p : Addr) (v : V), Same H H' → H' p = some (.tup [v, .int (e : Nat)]) → Dp K (hide M H') v d → Q (.ref p) H') ∧ (r = none → errAt CT "InvalidText" H E)
def spRdP (K : PySem.W.Frag) (CT : Addr) (n : Nat) : Sp := fun vs H Q E => ∃ (x : Str) (a m : Nat) (M : List Addr), vs = [.str x, .int (a : Nat), .int (m : Nat)] ∧ x.length ≤ 2900 ∧ PyData.strOk x = true ∧ m < n ∧ Trk M H ∧ outR K CT M (rdP (tl x) m a) H Q E
def spRdT (K : PySem.W.Frag) (CT : Addr) (n : Nat) : Sp := fun vs H Q E => ∃ (x : Str) (a m : Nat) (M : List Addr), vs = [.str x, .int (a : Nat), .int (m : Nat)] ∧ x.length ≤ 2900 ∧ PyData.strOk x = true ∧ m < n ∧ Trk M H ∧ outR K CT M (rdT (rdP (tl x) m) (tl x) a) H Q E
theorem vs3 {x : Str} {i j : Int} {a m : Nat} (h : i = (a : Nat)) (g : j = (m : Nat)) : [V.str x, V.int i, V.int j] = [.str x, .int (a : Nat), .int (m : Nat)] := by rw [h, g]
end Fv


/-! class FreeOrder: way_of_all, found_way, __init__ -/
namespace FvF
open PySem PySem.Spec PyProof.Rows L2 Fv FvD FvG FvX FvW TL
open FvK (pe_fldK)
theorem dp_prs {K : PySem.W.Frag} {H : Hp} {p : Addr} {ps : List Pr} (h : Dp K H (.ref p) (.list (ps.map prF))) : ∃ xs, SqL K H p xs ∧ DpAll K H xs (ps.map prF) := by
  cases h with
  | lst h1 h2 => exact ⟨_, h1, h2⟩
theorem dp_prF {K : PySem.W.Frag} {H : Hp} {v : V} {q : Pr} (h : Dp K H v (prF q)) : ∃ a v1 v2, v = .ref a ∧ SqT K H a [v1, v2] ∧ Dp K H v1 q.1 ∧ Dp K H v2 q.2 := by
  cases h with
  | tup h1 h2 => cases h2 with
    | cons d1 h2 => cases h2 with
      | cons d2 h2 => cases h2; exact ⟨_, _, _, rfl, h1, d1, d2⟩
theorem isL_c {x : Str} (h : isL x = true) : ∃ c, x = ⟨#[c]⟩ := by
  have hl := isL_len h
  rw [len_tl] at hl
  obtain ⟨c, ec⟩ : ∃ c, tl x = [c] := by
    match tl x, hl with
    | [c], _ => exact ⟨c, rfl⟩
  exact ⟨c, ext_tl (by rw [ec])⟩
def sgd : PyData → Str
  | .str x => x
  | .tuple (.str o :: _) => o
  | _ => ⟨#[]⟩
theorem isM_sg {l : PyData} (t : Tk l) : isM l = decide (V.str (sgd l) = V.str "&") := by
  rcases t.inv with ⟨x, rfl, hx⟩ | ⟨o, ds, rfl, _⟩
  · show false = decide (V.str x = V.str "&")
    symm
    exact decide_eq_false fun e => by
      injection e with e
      rw [e] at hx
      exact absurd hx (by decide +kernel)
  · show decide (o = "&") = decide (V.str o = V.str "&")
    by_cases c : o = "&"
    · rw [decide_eq_true c, decide_eq_true (by rw [c])]
    · rw [decide_eq_false c, decide_eq_false (fun e => c (by injection e))]
theorem isJ_sg {l : PyData} (t : Tk l) : isJ l = decide (V.str (sgd l) = V.str "|") := by
  rcases t.inv with ⟨x, rfl, hx⟩ | ⟨o, ds, rfl, _⟩
  · show false = decide (V.str x = V.str "|")
    symm
    exact decide_eq_false fun e => by
      injection e with e
      rw [e] at hx
      exact absurd hx (by decide +kernel)
  · show decide (o = "|") = decide (V.str o = V.str "|")
    by_cases c : o = "|"
    · rw [decide_eq_true c, decide_eq_true (by rw [c])]
    · rw [decide_eq_false c, decide_eq_false (fun e => c (by injection e))]
theorem ix_sg {K : PySem.W.Frag} {H : Hp} {Q : VK} {v : V} {l : PyData} (h : Dp K H v l) (t : Tk l) (q : Q (.str (sgd l)) H) : rIxS v (.int 0) H Q ∨ rIxT K v (.int 0) H Q := by
  rcases t.inv with ⟨x, rfl, hx⟩ | ⟨o, ds, rfl, _⟩
  · obtain ⟨c, rfl⟩ := isL_c hx
    cases h
    exact .inl ⟨_, _, c, rfl, rfl, (by show 1 ≤ sizeLine; decide), rfl, q⟩
  · cases h with
    | tup h1 h2 => cases h2 with
      | cons d1 h2 => cases d1; exact .inr ⟨_, _, _, _, rfl, rfl, h1, at0, q⟩
theorem cut1 {x : V} {xs : List V} : cutV (x :: xs) (some 1) none = xs := by rw [cut_drop1]; rfl
/-- x[1:] of a composed term -/
theorem sl_pts {K : PySem.W.Frag} {i : Nat} {M : List Addr} {σ : L2.St} {H : Hp} {Q : VK} {v : V} {l : PyData} {y : Str} (hi : σ[i]? = some (some v)) (nd : Trk M H) (hv : Dp K (hide M H) v l) (t : Tk l) (hy : isL y = false) (c : V.str (sgd l) = V.str y)
    (q : ∀ T H' xs, Same H H' → SqT K (hide M H') T xs → DpAll K (hide M H') xs (pts l) → Q (.ref T) H') : tSl (rSlT K) (tVar i) (tPart (tC (.int 1))) tNoPart σ H Q := by
  rcases t.inv with ⟨x, rfl, hx⟩ | ⟨o, ds, rfl, _, l2, _⟩
  · have c' : x = y := by injection c
    rw [← c', hx] at hy
    cases hy
  · cases hv with
    | @tup wa xs0 _ hw ha => cases ha with
      | @cons x0 xw _ _ h1 hxw =>
        refine ⟨_, hi, 1, rfl, wa, _, rfl, same_seqT hide_same hw, ?_, fun p np => ?_⟩
        · rw [show HT.sIx (x0 :: xw).length 0 (some 1) = min 1 (x0 :: xw).length from HT.sIx_nat _ 0 1, List.length_cons]
          omega
        rw [cut1]
        obtain ⟨hT, sT⟩ := new_in (o := .tup xw) nd np
        exact q p _ xw (same_upd np) (SqT.of hT) (dpAll_same sT _ _ hxw)
theorem part_run {K : PySem.W.Frag} {i : Nat} {M : List Addr} {σ : L2.St} {H : Hp} {Q : VK} {v : V} {l : PyData} {y : Str} (hi : σ[i]? = some (some v)) (nd : Trk M H) (hv : Dp K (hide M H) v l) (t : Tk l) (hy : isL y = false)
    (q : ∀ T H' xs, Same H H' → SqT K (hide M H') T xs → DpAll K (hide M H') xs (if decide (V.str (sgd l) = V.str y) = true then pts l else []) → Q (.ref T) H') :
    tIf (tTest (tOp rEq (tOp (fun x y H Q => rIxS x y H Q ∨ rIxT K x y H Q) (tVar i) (tC (.int 0))) (tC (.str y)))) (tSl (rSlT K) (tVar i) (tPart (tC (.int 1))) tNoPart) (tTup tNil) σ H Q := by
  refine ⟨_, hi, ix_sg (dp_same hide_same _ _ hv) t ⟨rfl, _, rfl, ?_⟩⟩
  refine ite2 (fun c => ?_) (fun c => ?_)
  · rw [if_pos c] at q
    exact sl_pts hi nd hv t hy (of_decide_eq_true c) q
  · rw [if_neg c] at q
    refine ⟨(by exact Nat.zero_le _), fun T n1 => ?_⟩
    obtain ⟨hT, sT⟩ := new_in (o := .tup []) nd n1
    exact q T _ [] (same_upd n1) (SqT.of hT) .nil
theorem pts_900 {d : PyData} (t : Tk d) : (pts d).length ≤ 900 := by
  rcases t.inv with ⟨x, rfl, _⟩ | ⟨o, ds, rfl, _, _, al, e⟩
  · exact Nat.zero_le _
  · have top := t.top
    rw [e] at top
    have : ∀ l : List PyData, (∀ x ∈ l, Tk x) → (l.length : Int) ≤ (l.map (lmeas 9)).sum := fun l => by
      induction l with
      | nil => intro _; simp
      | cons x l ih =>
        intro h
        have a := (h x List.mem_cons_self).one
        have b := ih fun y hy => h y (List.mem_cons_of_mem _ hy)
        rw [List.map_cons, List.sum_cons, List.length_cons]
        omega
    have := this ds al
    show ds.length ≤ 900
    omega
theorem find_take {α : Type} {f : α → Bool} {p : α} : ∀ {ds : List α} {i : Nat}, (ds.take i).all (fun x => !f x) = true → ds[i]? = some p → f p = true → ds.find? f = some p
  | [], i, _, h, _ => by simp at h
  | x :: ds, 0, _, h, fp => by
    simp at h
    subst h
    rw [List.find?_cons, fp]
  | x :: ds, i + 1, h, hp, fp => by
    rw [List.take_succ_cons, List.all_cons, Bool.and_eq_true] at h
    have : f x = false := by simpa using h.1
    rw [List.find?_cons, this]
    exact find_take h.2 (by simpa using hp) fp
theorem find_all {α : Type} {f : α → Bool} {ds : List α} (h : ds.all (fun x => !f x) = true) : ds.find? f = none := by
  rw [List.find?_eq_none]
  intro x hx
  have := List.all_eq_true.mp h x hx
  simpa using this
/-- pairs made in a comprehension over a tuple -/
theorem lc_prs {K : PySem.W.Frag} {a : Addr} {M : List Addr} {xs : List V} {ds : List PyData} {f : PyData → Pr} {g : TG} {te : TE} {vs : List Nat} {σ : L2.St} {H1 : Hp} {D : Addr} {Qd : Hp → Prop} (hl : SqT K (hide M H1) a xs) (hn : H1 D = none) (nd : Trk M H1) (hD : DpAll K (hide M H1) xs ds) (lb : ds.length ≤ 900)
    (hs : ∀ (i : Nat) (x : V) (e : PyData) (H' : Hp), xs[i]? = some x → ds[i]? = some e → Same H1 H' → Same (hide M H1) (hide (D :: M) H') → H' D ≠ none → Dp K (hide (D :: M) H') x e → ∀ (N : V → Hp → Prop) (M0 : Hp → Prop), (∀ v H'', Same H' H'' → Dp K (hide (D :: M) H'') v (prF (f e)) → N v H'') → g x (wipe σ vs) H' fun σ2 H2 => wipe σ2 vs = wipe σ vs ∧ tYes σ2 H2 fun b H3 => if b = true then te σ2 H3 N else M0 H3)
    (hd : ∀ H', Same H1 H' → Dp K (hide M H') (.ref D) (.list ((ds.map f).map prF)) → Qd H') :
    ∃ W : Nat → Nat → Hp → Prop, (∃ m, W 0 m (upd H1 D (.lst []))) ∧ ∀ i m H, W i m H →
      ((Itt K a).stop i H ∧ Qd H) ∨ ((Itt K a).go i H ∧ ∃ Nx : Hp → Prop, (∀ H', Nx H' → ∃ m', m' < m ∧ W (i + 1) m' H') ∧ ∀ x H', (Itt K a).yld i H x H' → g x (wipe σ vs) H' fun σ2 H2 => wipe σ2 vs = wipe σ vs ∧ tYes σ2 H2 fun b H3 =>
        if b = true then te σ2 H3 fun y H4 => ∃ acc, H4 D = some (.lst acc) ∧ acc.length < sizeLine ∧ Nx (upd H4 D (.lst (acc ++ [y]))) else Nx H3) := by
  have lx := dpAll_len hD
  have Dd : D ∉ M := fun z => by
    obtain ⟨o', e⟩ := nd D z
    rw [hn] at e; cases e
  have sub0 : ∀ {H' : Hp}, Same H1 H' → Same (hide M H1) (hide (D :: M) H') := fun {H'} s b o e => by
    obtain ⟨m, e⟩ := hide_some e
    have bD : b ≠ D := fun z => by rw [z, hn] at e; cases e
    rw [hide_ne (fun z => by
      rcases List.mem_cons.mp z with z | z
      · exact bD z
      · exact m z)]
    exact s _ _ e
  have updD : ∀ {H' : Hp} {o : HO}, hide (D :: M) (upd H' D o) = hide (D :: M) H' := fun {H' o} => by
    funext b
    unfold hide
    by_cases e : b = D
    · rw [if_pos (by simp [e]), if_pos (by simp [e])]
    · rw [upd_ne e]
  refine lc_tup (xs := xs) (fun i H' => Same H1 H' ∧ ∃ ys, H' D = some (.lst ys) ∧ DpAll K (hide (D :: M) H') ys (((ds.take i).map f).map prF)) ⟨same_upd hn, [], upd_same, .nil⟩ (fun i H' _ p => same_seqT (p.1.trans (Same.refl _)) (same_seqT hide_same hl)) (fun i x H' hx p => ?_) (fun H' p => ?_)
  · obtain ⟨sm, ys, e, hy⟩ := p
    obtain ⟨dd, hd', hDx⟩ := dpAll_get hD hx
    have ly := dpAll_len hy
    rw [List.length_map, List.length_map, List.length_take] at ly
    refine hs i x dd H' hx hd' sm (sub0 sm) (by rw [e]; exact fun z => by cases z) (dp_same (sub0 sm) _ _ hDx) _ _ fun v H4 s4 hv => ⟨_, s4 _ _ e, small1000 (by omega), fun c o ec => ?_, ys ++ [v], upd_same, ?_⟩
    · rw [upd_ne (ne_of_none ec hn)]
      exact s4 _ _ (sm _ _ ec)
    · rw [updD, List.take_add_one, hd', List.map_append, List.map_append]
      exact dpAll_app (dpAll_same ((SmX.of_same s4).hid) _ _ hy) (.cons hv .nil)
  · obtain ⟨sm, ys, e, hy⟩ := p
    rw [lx, List.take_length] at hy
    refine hd H' sm (.lst (SqL.of (by rw [hide_ne Dd]; exact e)) (dpAll_same (hide_sub fun b hb => ?_) _ _ hy))
    exact List.mem_cons_of_mem _ hb
section
variable {P : Program} {w : World} {K : PySem.W.Frag} {mg : Str → Option Value} {base : Heap} {C : Addr}
theorem ok_way_all {f : Addr} {fd : FuncData} {k n : Nat} (F : Fun K "way_of_all" "FreeOrder.way_of_all" s_way_of_all__of__FreeOrder f fd) (T : TxF K C) (M_holds : C8.Met P w K mg base k C "holds" (spHo K w C n) []) :
    FnOk P w K mg base CX0 (k + 1) f fd ["self", "word", "pairs"] (spWa K w C n) := by
  refine F.ok sc_way_of_all__of__FreeOrder (fun vs H Q E h => ?_) (fun cdv A0 outer s H vs Q E hr h => ?_)
  · obtain ⟨c, d, p, x, M, kvs, A, B, ps, rfl, _⟩ := h
    rfl
  · obtain ⟨c, d, p, x, M, kvs, A, B, ps, rfl, hF, uA, uB, hp, hps, good⟩ := h
    refine ⟨_, (pss_cons (ps_for PassesOwn.never rfl (pi_list (pv 2)) (pg_tup rfl (pgs_cons (pg_name (i := 3) sc_way_of_all__of__FreeOrder.nd rfl (by first | exact .inl rfl | exact .inr rfl)) (pgs_cons (pg_name (i := 4) sc_way_of_all__of__FreeOrder.nd rfl (by first | exact .inl rfl | exact .inr rfl)) pgs_nil)))
        (pss_one (ps_if (pt_not (pt_val (C8.pe_mt M_holds hr (by omega) (pv 0) (pa_cons (pv 3) (pa_cons (pv 4) pa_nil)))))
          (pss_one (ps_ret pe_non))
          pss_nil)))
      (pss_one (ps_ret (pe_tup (pa_cons (pv 1) (pa_cons (pv 2) pa_nil)))))), ?_⟩
    obtain ⟨xs, hx, hxs⟩ := dp_prs hp
    have lx : xs.length = ps.length := by have := dpAll_len hxs; rw [List.length_map] at this; exact this
    refine ⟨_, rfl, p, rfl, ⟨_, hide_same.seq hx⟩, for_it (walk_list (xs := xs)) (fun i σ H' => ∃ (y3 y4 : Option V) (kvs' : List NKV), σ = [some (.ref c), some (.str x), some (.ref p), y3, y4] ∧ FAt K w C M H' c d kvs' A B ∧ SmX [d] H H' ∧ (ps.take i).all (fun q => le q.1 q.2) = true) ?_ ?_ ?_ ?_⟩
    · exact ⟨_, _, kvs, rfl, hF, SmX.refl _ _, rfl⟩
    · rintro i σ H' _ ⟨_, _, _, _, _, sm, _⟩
      exact hide_same.seq ((hF.lft sm).seq hx)
    · rintro i z σ H' H2 hi ⟨y3, y4, kvs', rfl, hF', sm, ha⟩ ⟨rfl, hz⟩
      obtain ⟨dq, hq, hDz⟩ := dpAll_get hxs hz
      rw [List.getElem?_map] at hq
      obtain ⟨q, hq0, rfl⟩ := Option.map_eq_some_iff.mp hq
      clear hq
      have hq := hq0
      obtain ⟨m1, m2, hdq⟩ := hps q (List.mem_of_getElem? hq)
      obtain ⟨a, v1, v2, rfl, hsa, h1, h2⟩ := dp_prF hDz
      obtain ⟨dx, ob⟩ := hF'.ob
      refine ⟨a, _, rfl, same_seqT ((hF.lft sm).trans hide_same) hsa, rfl, _, _, rfl, _, _, rfl, rfl, ?_⟩
      refine ⟨_, rfl, c, dx, _, rfl, ob, rfl, _, rfl, _, rfl, c, d, M, kvs', A, B, v1, v2, q.1, q.2, rfl, hF', uA, uB, dp_same (hF.lft sm) _ _ h1, dp_same (hF.lft sm) _ _ h2, m1, m2, hdq, fun H3 kvs3 hF3 sm3 => ⟨_, rfl, ?_⟩⟩
      have sm' := sm.trans sm3
      cases el : le q.1 q.2 with
      | true =>
        refine iteF ⟨_, _, kvs3, rfl, hF3, sm', ?_⟩
        rw [List.take_add_one, hq, List.all_append, ha]
        simp [el]
      | false =>
        refine iteT (good H3 kvs3 _ hF3 sm' ?_)
        rw [if_neg (fun z => by
          have := List.all_eq_true.mp z q (List.mem_of_getElem? hq)
          rw [el] at this
          cases this)]
        exact rfl
    · rintro σ H' ⟨y3, y4, kvs', rfl, hF', sm, ha⟩
      rw [lx, List.take_length] at ha
      refine ⟨_, rfl, _, rfl, (by show 2 ≤ sizeLine; decide), fun T1 n1 => ?_⟩
      obtain ⟨hT, sT⟩ := new_in (o := .tup [.str x, .ref p]) hF'.tr n1
      have s1 := same_upd (o := .tup [.str x, .ref p]) n1
      refine good _ kvs' _ (hF'.same s1) (sm.trans (SmX.of_same s1)) ?_
      rw [if_pos ha]
      exact .tup (SqT.of hT) (.cons (.str _) (.cons (dp_same ((hF.lft sm).trans sT) _ _ hp) .nil))
set_option maxHeartbeats 1600000 in
theorem ok_found_way {f : Addr} {fd : FuncData} {k n : Nat} (F : Fun K "found_way" "FreeOrder.found_way" s_found_way__of__FreeOrder f fd) (T : TxF K C) (hn : n ≤ 50) (M_holds : C8.Met P w K mg base k C "holds" (spHo K w C n) []) (M_way_of_all : C8.Met P w K mg base k C "way_of_all" (spWa K w C n) []) :
    FnOk P w K mg base CX0 (k + 1) f fd ["self", "left", "right"] (spWy K w C (n + 1)) := by
  refine F.ok sc_found_way__of__FreeOrder (fun vs H Q E h => ?_) (fun cdv A0 outer s H vs Q E hr h => ?_)
  · obtain ⟨c, d, M, kvs, A, B, vl, vr, l, r, rfl, _⟩ := h
    rfl
  · obtain ⟨c, d, M, kvs, A, B, vl, vr, l, r, rfl, hF, uA, uB, hl, hr', ml, mr, hd, good⟩ := h
    refine ⟨_, (pss_cons (ps_if (pt_cmpR (op_eqD hr.units) (pv 1) (pv 2) (nomark _))
        (pss_one (ps_ret (pe_tup (pa_cons pe_str (pa_cons (pe_lst pa_nil) pa_nil)))))
        pss_nil)
      (pss_cons (ps_set (i := 3) sc_found_way__of__FreeOrder.nd rfl (by first | exact .inl rfl | exact .inr rfl) (pe_ifExp (pt_cmpR op_eq (pe_ix (FvW.ix_or2 ix_str ix_tup) (pv 1) pe_int (fun _ _ => rfl)) pe_str (nomark _)) (pe_slice sl_tup (pv 1) (po_some pe_int) po_none) (pe_tup pa_nil)))
      (pss_cons (ps_set (i := 4) sc_found_way__of__FreeOrder.nd rfl (by first | exact .inl rfl | exact .inr rfl) (pe_ifExp (pt_cmpR op_eq (pe_ix (FvW.ix_or2 ix_str ix_tup) (pv 2) pe_int (fun _ _ => rfl)) pe_str (nomark _)) (pe_slice sl_tup (pv 2) (po_some pe_int) po_none) (pe_tup pa_nil)))
      (pss_cons (ps_if (PW.pt (pw_or (pt_cmpR (op_inT (hu65 hr)) (pv 2) (pv 3) (by rfl)) (pw_or1 (pt_cmpR (op_inT (hu65 hr)) (pv 1) (pv 4) (by rfl)))))
        (pss_one (ps_ret (pe_tup (pa_cons pe_str (pa_cons (pe_lst pa_nil) pa_nil)))))
        pss_nil)
      (pss_cons (ps_if (pt_cmpR op_eq (pe_ix (FvW.ix_or2 ix_str ix_tup) (pv 1) pe_int (fun _ _ => rfl)) pe_str (nomark _))
        (pss_one (ps_ret (C8.pe_mt M_way_of_all hr (by omega) (pv 0) (pa_cons pe_str (pa_cons (pe_lc (own := [("part", 5)]) (g := gName 5) (by rfl) sc_found_way__of__FreeOrder.nd (pi_tup (pe_slice sl_tup (pv 1) (po_some pe_int) po_none)) (blkOk_by (own := [("part", 5)]) (N := N_found_way__of__FreeOrder) (sc := defScope s_found_way__of__FreeOrder) (by decide +kernel)) (fun _ _ _ _ _ => pg_name (i := 5) sc_found_way__of__FreeOrder.nd rfl (Or.inl rfl)) (fun _ _ _ _ _ => pts_nil) (fun _ _ _ _ _ => (pe_tup (pa_cons (pv 5) (pa_cons (pv 2) pa_nil))))) pa_nil)))))
        pss_nil)
      (pss_cons (ps_if (pt_cmpR op_eq (pe_ix (FvW.ix_or2 ix_str ix_tup) (pv 2) pe_int (fun _ _ => rfl)) pe_str (nomark _))
        (pss_one (ps_ret (C8.pe_mt M_way_of_all hr (by omega) (pv 0) (pa_cons pe_str (pa_cons (pe_lc (own := [("part", 5)]) (g := gName 5) (by rfl) sc_found_way__of__FreeOrder.nd (pi_tup (pe_slice sl_tup (pv 2) (po_some pe_int) po_none)) (blkOk_by (own := [("part", 5)]) (N := N_found_way__of__FreeOrder) (sc := defScope s_found_way__of__FreeOrder) (by decide +kernel)) (fun _ _ _ _ _ => pg_name (i := 5) sc_found_way__of__FreeOrder.nd rfl (Or.inl rfl)) (fun _ _ _ _ _ => pts_nil) (fun _ _ _ _ _ => (pe_tup (pa_cons (pv 1) (pa_cons (pv 5) pa_nil))))) pa_nil)))))
        pss_nil)
      (pss_cons (ps_for PassesOwn.never rfl (pi_tup (pv 3)) (pg_name (i := 5) sc_found_way__of__FreeOrder.nd rfl (by first | exact .inl rfl | exact .inr rfl))
        (pss_one (ps_if (pt_val (C8.pe_mt M_holds hr (by omega) (pv 0) (pa_cons (pv 5) (pa_cons (pv 2) pa_nil))))
          (pss_one (ps_ret (pe_tup (pa_cons pe_str (pa_cons (pe_lst (pa_cons (pe_tup (pa_cons (pv 5) (pa_cons (pv 2) pa_nil))) pa_nil)) pa_nil)))))
          pss_nil)))
      (pss_cons (ps_for PassesOwn.never rfl (pi_tup (pv 4)) (pg_name (i := 5) sc_found_way__of__FreeOrder.nd rfl (by first | exact .inl rfl | exact .inr rfl))
        (pss_one (ps_if (pt_val (C8.pe_mt M_holds hr (by omega) (pv 0) (pa_cons (pv 1) (pa_cons (pv 5) pa_nil))))
          (pss_one (ps_ret (pe_tup (pa_cons pe_str (pa_cons (pe_lst (pa_cons (pe_tup (pa_cons (pv 1) (pa_cons (pv 5) pa_nil))) pa_nil)) pa_nil)))))
          pss_nil)))
      (pss_one (ps_ret pe_non)))))))))), ?_⟩
    obtain ⟨tl, kl, dl⟩ := uA.tk _ ml
    obtain ⟨tr, kr, dr⟩ := uB.tk _ mr
    have eW := W_step (l := l) (r := r) (by omega)
    refine ⟨_, rfl, _, rfl, l, r, dp_same hide_same _ _ hl, dp_same hide_same _ _ hr', gd_shaped tl.gd (by decide), gd_shaped tr.gd (by decide), _, rfl, ?_⟩
    by_cases e : l = r
    · subst e
      rw [show PyData.eqv l l = true from (eqv_iff 8 8 l l tl.kd tl.kd).mpr rfl]
      refine iteT ⟨(by exact Nat.zero_le _), fun q1 m1 => ⟨(by show 2 ≤ sizeLine; decide), fun T1 n1 => ?_⟩⟩
      obtain ⟨hq, sq⟩ := new_in (o := .lst []) hF.tr m1
      have s1 := same_upd (o := .lst []) m1
      obtain ⟨hT, sT⟩ := new_in (o := .tup [.str "same", .ref q1]) (hF.tr.same s1) n1
      have s2 := s1.trans (same_upd (o := .tup [.str "same", .ref q1]) n1)
      refine good _ kvs _ (hF.same s2) (SmX.of_same s2) ?_
      rw [eW]
      unfold stepW
      rw [if_pos rfl]
      exact .tup (SqT.of hT) (.cons (.str _) (.cons (.lst (SqL.of (sT _ _ hq)) .nil) .nil))
    · rw [show PyData.eqv l r = false by
        rw [Bool.eq_false_iff]
        exact fun z => e (nk_inj 8 8 _ _ tl.kd tr.kd ((eqv_iff 8 8 _ _ tl.kd tr.kd).mp z))]
      refine iteF ?_
      have pp : ∀ {z : PyData} {X : List PyData}, Un X → z ∈ X → ∀ p ∈ pts z, p ∈ X ∧ p.depth < z.depth := fun uX mz p hp => ⟨uX.cl _ mz p hp, pts_depth hp⟩
      have gdp : ∀ {z : PyData} (t : Tk z) (b : Bool), gd 20 (.tuple (if b = true then pts z else [])) = true := fun {z} t b => by
        cases b with
        | false => rfl
        | true =>
          rcases t.inv with ⟨x, rfl, _⟩ | ⟨o, ds, rfl, _⟩
          · rfl
          · have g := gd_tuple (n := 19) t.gd
            refine gd_tup (n := 19) (fun d hd => g.2 d (List.mem_cons_of_mem _ hd)) ?_
            have := g.1
            rw [List.length_cons] at this
            show ds.length ≤ _
            omega
      have kdp : ∀ {z : PyData} (t : Tk z), ∀ p ∈ pts z, kd 8 p = true := fun {z} t p hp => by
        rcases t.inv with ⟨x, rfl, _⟩ | ⟨o, ds, rfl, _, _, al, _⟩
        · cases hp
        · exact (al p hp).kd
      have anyM : ∀ {z q : PyData} (t : Tk z) (tq : Tk q) (b : Bool), ((if b = true then pts z else []).any fun x => PyData.eqv x q) = true ↔ q ∈ (if b = true then pts z else []) := fun {z q} t tq b => by
        have sub : ∀ x ∈ (if b = true then pts z else []), x ∈ pts z := fun x hx => by
          cases b with
          | false => cases hx
          | true => exact hx
        rw [List.any_eq_true]
        constructor
        · rintro ⟨x, hx, e⟩
          have := nk_inj 8 8 _ _ (kdp t x (sub x hx)) tq.kd ((eqv_iff 8 8 _ _ (kdp t x (sub x hx)) tq.kd).mp e)
          rw [← this]
          exact hx
        · exact fun hq => ⟨q, hq, (eqv_iff 8 8 _ _ tq.kd tq.kd).mpr rfl⟩
      have eL : (if decide (V.str (sgd l) = V.str "&") = true then pts l else []) = low l := by rw [low_m, isM_sg tl]
      have eR : (if decide (V.str (sgd r) = V.str "|") = true then pts r else []) = hgh r := by rw [hgh_j, isJ_sg tr]
      refine part_run (l := l) rfl hF.tr hl tl (by decide +kernel) fun TL H1 xsl s1 hTL hxl => ?_
      have hF1 := hF.same s1
      have hr1 := dp_same ((SmX.of_same s1).hid) _ _ hr'
      have hl1 := dp_same ((SmX.of_same s1).hid) _ _ hl
      refine part_run (l := r) rfl hF1.tr hr1 tr (by decide +kernel) fun TR H2 xsr s2 hTR hxr => ?_
      have hF2 := hF1.same s2
      have h12 := (SmX.of_same (M := M) s2).hid
      have hr2 := dp_same h12 _ _ hr1
      have hl2 := dp_same h12 _ _ hl1
      have hTL2 := same_seqT h12 hTL
      have hxl2 := dpAll_same h12 _ _ hxl
      have sm0 := (SmX.of_same (M := [d]) (s1.trans s2))
      clear s1 s2 hF1 hr1 hl1 h12 hTL hxl hF hl hr'
      have mL := anyM tl tr (decide (V.str (sgd l) = V.str "&"))
      have mR := anyM tr tl (decide (V.str (sgd r) = V.str "|"))
      have gL := gdp tl (decide (V.str (sgd l) = V.str "&"))
      have gR := gdp tr (decide (V.str (sgd r) = V.str "|"))
      rw [eL] at hxl2 mL gL
      rw [eR] at hxr mR gR
      have empt : ∀ (y : Str) {H' : Hp} {kvs' : List NKV}, FAt K w C M H' c d kvs' A B → SmX [d] H H' → W l r = some (y, []) → ∀ q1, H' q1 = none → ∀ T1, (upd H' q1 (.lst [])) T1 = none → Q (.ref T1) (upd (upd H' q1 (.lst [])) T1 (.tup [.str y, .ref q1])) := fun y H' kvs' hF' sm e q1 m1 T1 n1 => by
        obtain ⟨hq, sq⟩ := new_in (o := .lst []) hF'.tr m1
        have s1 := same_upd (o := .lst []) m1
        obtain ⟨hT, sT⟩ := new_in (o := .tup [.str y, .ref q1]) (hF'.tr.same s1) n1
        have s2 := s1.trans (same_upd (o := .tup [.str y, .ref q1]) n1)
        refine good _ kvs' _ (hF'.same s2) (sm.trans (SmX.of_same s2)) ?_
        rw [e]
        exact .tup (SqT.of hT) (.cons (.str _) (.cons (.lst (SqL.of (sT _ _ hq)) .nil) .nil))
      have one : ∀ (y : Str) {H' : Hp} {kvs' : List NKV} {va vb : V} {a b : PyData}, FAt K w C M H' c d kvs' A B → SmX [d] H H' → Dp K (hide M H') va a → Dp K (hide M H') vb b → W l r = some (y, [(a, b)]) → ∀ p1, H' p1 = none → ∀ q1, (upd H' p1 (.tup [va, vb])) q1 = none → ∀ T1, (upd (upd H' p1 (.tup [va, vb])) q1 (.lst [.ref p1])) T1 = none →
          Q (.ref T1) (upd (upd (upd H' p1 (.tup [va, vb])) q1 (.lst [.ref p1])) T1 (.tup [.str y, .ref q1])) := fun y H' kvs' va vb a b hF' sm ha hb e p1 k1 q1 m1 T1 n1 => by
        obtain ⟨hp, sp⟩ := new_in (o := .tup [va, vb]) hF'.tr k1
        have s0 := same_upd (o := .tup [va, vb]) k1
        obtain ⟨hq, sq⟩ := new_in (o := .lst [.ref p1]) (hF'.tr.same s0) m1
        have s1 := s0.trans (same_upd (o := .lst [.ref p1]) m1)
        obtain ⟨hT, sT⟩ := new_in (o := .tup [.str y, .ref q1]) (hF'.tr.same s1) n1
        have s2 := s1.trans (same_upd (o := .tup [.str y, .ref q1]) n1)
        refine good _ kvs' _ (hF'.same s2) (sm.trans (SmX.of_same s2)) ?_
        rw [e]
        refine .tup (SqT.of hT) (.cons (.str _) (.cons (.lst (SqL.of (sT _ _ hq)) (.cons (.tup (SqT.of (sT _ _ (sq _ _ hp))) (.cons (dp_same ((sp.trans sq).trans sT) _ _ ha) (.cons (dp_same ((sp.trans sq).trans sT) _ _ hb) .nil))) .nil)) .nil))
      refine ⟨_, rfl, _, rfl, r, low l, dp_same hide_same _ _ hr2, dp_same hide_same _ _ (.tup hTL2 hxl2), gd_shaped tr.gd (by decide), gd_shaped gL (by decide), _, rfl, ?_⟩
      cases em1 : (low l).any fun z => PyData.eqv z r with
      | true =>
        refine iteT (iteT ⟨(by exact Nat.zero_le _), fun q1 m1 => ⟨(by show 2 ≤ sizeLine; decide), fun T1 n1 => empt "part" hF2 sm0 ?_ q1 m1 T1 n1⟩⟩)
        rw [eW]
        unfold stepW
        rw [if_neg e, if_pos (.inl (mL.mp em1))]
      | false =>
      refine iteF ⟨_, rfl, _, rfl, l, hgh r, dp_same hide_same _ _ hl2, dp_same hide_same _ _ (.tup hTR hxr), gd_shaped tl.gd (by decide), gd_shaped gR (by decide), _, rfl, ?_⟩
      cases em2 : (hgh r).any fun z => PyData.eqv z l with
      | true =>
        refine iteT ⟨(by exact Nat.zero_le _), fun q1 m1 => ⟨(by show 2 ≤ sizeLine; decide), fun T1 n1 => empt "part" hF2 sm0 ?_ q1 m1 T1 n1⟩⟩
        rw [eW]
        unfold stepW
        rw [if_neg e, if_pos (.inr (mR.mp em2))]
      | false =>
      have nc : ¬ (r ∈ low l ∨ l ∈ hgh r) := fun z => by
        rcases z with z | z
        · rw [mL.mpr z] at em1; cases em1
        · rw [mR.mpr z] at em2; cases em2
      obtain ⟨dx2, ob2⟩ := hF2.ob
      refine iteF ⟨_, rfl, ix_sg (dp_same hide_same _ _ hl2) tl ⟨rfl, _, rfl, ?_⟩⟩
      have jl := isJ_sg tl
      have mr' := isM_sg tr
      refine ite2 (fun j => ?_) fun j => ?_
      · refine ⟨_, rfl, c, dx2, _, rfl, ob2, rfl, sl_pts rfl hF2.tr hl2 tl (by decide +kernel) (of_decide_eq_true j) fun T3 H3 xs3 s3 h3 hx3 => ⟨T3, rfl, ⟨_, same_seqT hide_same h3⟩, fun D nD => lc_prs (f := fun p => (p, r)) h3 nD (hF2.same s3).tr hx3 (pts_900 tl) ?_ ?_⟩⟩
        · intro i x e2 H' hx he sm sh hD hDx N M0 hN
          refine ⟨rfl, iteT (B := M0 H') ⟨_, rfl, _, rfl, (by show 2 ≤ sizeLine; decide), fun p np => hN _ _ (same_upd np) ?_⟩⟩
          have pD : p ≠ D := fun z => hD (z ▸ np)
          have pd : p ∉ D :: M := fun z => by
            rcases List.mem_cons.mp z with z | z
            · exact pD z
            · obtain ⟨o', e'⟩ := ((hF2.same s3).tr.same sm) p z
              rw [np] at e'; cases e'
          have sp := (SmX.of_same (M := D :: M) (same_upd (o := .tup [x, vr]) np)).hid
          exact .tup (SqT.of (by rw [hide_ne pd]; exact upd_same)) (.cons (dp_same sp _ _ hDx) (.cons (dp_same sp _ _ (dp_same sh _ _ (dp_same ((SmX.of_same s3).hid) _ _ hr2))) .nil))
        · intro H4 s4 hD4
          refine ⟨c, d, D, _, M, kvs, A, B, (pts l).map fun p => (p, r), rfl, (hF2.same s3).same s4, uA, uB, hD4, fun q hq => ?_, fun H5 kvs5 v hF5 sm5 hv => good H5 kvs5 v hF5 (sm0.trans ((SmX.of_same (s3.trans s4)).trans sm5)) ?_⟩
          · obtain ⟨p, hp, rfl⟩ := List.mem_map.mp hq
            obtain ⟨p1, p2⟩ := pp uA ml p hp
            exact ⟨p1, mr, by show p.depth + r.depth < n; omega⟩
          · rw [List.all_map] at hv
            rw [eW]
            unfold stepW
            rw [if_neg e, if_neg nc, if_pos (by rw [jl]; exact j)]
            exact hv
      refine ⟨_, rfl, ix_sg (dp_same hide_same _ _ hr2) tr ⟨rfl, _, rfl, ?_⟩⟩
      refine ite2 (fun m => ?_) fun m => ?_
      · refine ⟨_, rfl, c, dx2, _, rfl, ob2, rfl, sl_pts rfl hF2.tr hr2 tr (by decide +kernel) (of_decide_eq_true m) fun T3 H3 xs3 s3 h3 hx3 => ⟨T3, rfl, ⟨_, same_seqT hide_same h3⟩, fun D nD => lc_prs (f := fun p => (l, p)) h3 nD (hF2.same s3).tr hx3 (pts_900 tr) ?_ ?_⟩⟩
        · intro i x e2 H' hx he sm sh hD hDx N M0 hN
          refine ⟨rfl, iteT (B := M0 H') ⟨_, rfl, _, rfl, (by show 2 ≤ sizeLine; decide), fun p np => hN _ _ (same_upd np) ?_⟩⟩
          have pD : p ≠ D := fun z => hD (z ▸ np)
          have pd : p ∉ D :: M := fun z => by
            rcases List.mem_cons.mp z with z | z
            · exact pD z
            · obtain ⟨o', e'⟩ := ((hF2.same s3).tr.same sm) p z
              rw [np] at e'; cases e'
          have sp := (SmX.of_same (M := D :: M) (same_upd (o := .tup [vl, x]) np)).hid
          exact .tup (SqT.of (by rw [hide_ne pd]; exact upd_same)) (.cons (dp_same sp _ _ (dp_same sh _ _ (dp_same ((SmX.of_same s3).hid) _ _ hl2))) (.cons (dp_same sp _ _ hDx) .nil))
        · intro H4 s4 hD4
          refine ⟨c, d, D, _, M, kvs, A, B, (pts r).map fun p => (l, p), rfl, (hF2.same s3).same s4, uA, uB, hD4, fun q hq => ?_, fun H5 kvs5 v hF5 sm5 hv => good H5 kvs5 v hF5 (sm0.trans ((SmX.of_same (s3.trans s4)).trans sm5)) ?_⟩
          · obtain ⟨p, hp, rfl⟩ := List.mem_map.mp hq
            obtain ⟨p1, p2⟩ := pp uB mr p hp
            exact ⟨ml, p1, by show l.depth + p.depth < n; omega⟩
          · rw [List.all_map] at hv
            rw [eW]
            unfold stepW
            rw [if_neg e, if_neg nc, if_neg (by rw [jl]; exact j), if_pos (by rw [mr']; exact m)]
            exact hv
      have eW2 : W l r = match (low l).find? (fun p => le p r) with
          | some p => some ("down", [(p, r)])
          | none => match (hgh r).find? (fun p => le l p) with
            | some p => some ("up", [(l, p)])
            | none => none := by
        rw [eW]
        unfold stepW
        rw [if_neg e, if_neg nc, if_neg (by rw [jl]; exact j), if_neg (by rw [mr']; exact m)]
        all_goals rfl
      have lL := dpAll_len hxl2
      have lR := dpAll_len hxr
      refine ⟨_, rfl, TL, rfl, ⟨_, same_seqT hide_same hTL2⟩, for_it (walk_tup (xs := xsl)) (fun i σ H' => ∃ (y5 : Option V) (kvs' : List NKV), σ = [some (.ref c), some vl, some vr, some (.ref TL), some (.ref TR), y5] ∧ FAt K w C M H' c d kvs' A B ∧ SmX [d] H2 H' ∧ ((low l).take i).all (fun p => !le p r) = true) ?_ ?_ ?_ ?_⟩
      · exact ⟨_, kvs, rfl, hF2, SmX.refl _ _, rfl⟩
      · rintro i σ H' _ ⟨_, _, _, _, sm, _⟩
        exact same_seqT ((hF2.lft sm).trans hide_same) hTL2
      · rintro i z σ H' H3 hi ⟨y5, kvs', rfl, hF', sm, ha⟩ ⟨rfl, hz⟩
        obtain ⟨p, hp, hDz⟩ := dpAll_get hxl2 hz
        obtain ⟨p1, p2⟩ := pp uA ml p (low_pts (List.mem_of_getElem? hp))
        obtain ⟨dx, ob⟩ := hF'.ob
        refine ⟨_, rfl, c, dx, _, rfl, ob, rfl, _, rfl, _, rfl, c, d, M, kvs', A, B, z, vr, p, r, rfl, hF', uA, uB, dp_same (hF2.lft sm) _ _ hDz, dp_same (hF2.lft sm) _ _ hr2, p1, mr, (by omega), fun H4 kvs4 hF4 sm4 => ⟨_, rfl, ?_⟩⟩
        cases el : le p r with
        | true =>
          refine iteT ⟨_, rfl, _, rfl, (by show 2 ≤ sizeLine; decide), fun p1 k1 => ⟨(by show 1 ≤ sizeLine; decide), fun q1 m1 => ⟨(by show 2 ≤ sizeLine; decide), fun T1 n1 => one "down" hF4 (sm0.trans (sm.trans sm4)) (dp_same (hF2.lft (sm.trans sm4)) _ _ hDz) (dp_same (hF2.lft (sm.trans sm4)) _ _ hr2) ?_ p1 k1 q1 m1 T1 n1⟩⟩⟩
          rw [eW2, find_take ha hp el]
        | false =>
          refine iteF ⟨_, kvs4, rfl, hF4, sm.trans sm4, ?_⟩
          rw [List.take_add_one, hp, List.all_append, ha]
          simp [el]
      rintro σ H3 ⟨y5, kvs3, rfl, hF3, sm3, ha⟩
      rw [lL, List.take_length] at ha
      have f1 := find_all ha
      refine ⟨_, rfl, TR, rfl, ⟨_, same_seqT ((hF2.lft sm3).trans hide_same) hTR⟩, for_it (walk_tup (xs := xsr)) (fun i σ H' => ∃ (y5 : Option V) (kvs' : List NKV), σ = [some (.ref c), some vl, some vr, some (.ref TL), some (.ref TR), y5] ∧ FAt K w C M H' c d kvs' A B ∧ SmX [d] H2 H' ∧ ((hgh r).take i).all (fun p => !le l p) = true) ?_ ?_ ?_ ?_⟩
      · exact ⟨_, kvs3, rfl, hF3, sm3, rfl⟩
      · rintro i σ H' _ ⟨_, _, _, _, sm, _⟩
        exact same_seqT ((hF2.lft sm).trans hide_same) hTR
      · rintro i z σ H' H3 hi ⟨y5, kvs', rfl, hF', sm, ha2⟩ ⟨rfl, hz⟩
        obtain ⟨p, hp, hDz⟩ := dpAll_get hxr hz
        obtain ⟨p1, p2⟩ := pp uB mr p (hgh_pts (List.mem_of_getElem? hp))
        obtain ⟨dx, ob⟩ := hF'.ob
        refine ⟨_, rfl, c, dx, _, rfl, ob, rfl, _, rfl, _, rfl, c, d, M, kvs', A, B, vl, z, l, p, rfl, hF', uA, uB, dp_same (hF2.lft sm) _ _ hl2, dp_same (hF2.lft sm) _ _ hDz, ml, p1, (by omega), fun H4 kvs4 hF4 sm4 => ⟨_, rfl, ?_⟩⟩
        cases el : le l p with
        | true =>
          refine iteT ⟨_, rfl, _, rfl, (by show 2 ≤ sizeLine; decide), fun p1 k1 => ⟨(by show 1 ≤ sizeLine; decide), fun q1 m1 => ⟨(by show 2 ≤ sizeLine; decide), fun T1 n1 => one "up" hF4 (sm0.trans (sm.trans sm4)) (dp_same (hF2.lft (sm.trans sm4)) _ _ hl2) (dp_same (hF2.lft (sm.trans sm4)) _ _ hDz) ?_ p1 k1 q1 m1 T1 n1⟩⟩⟩
          rw [eW2, f1]
          dsimp only
          rw [find_take ha2 hp el]
        | false =>
          refine iteF ⟨_, kvs4, rfl, hF4, sm.trans sm4, ?_⟩
          rw [List.take_add_one, hp, List.all_append, ha2]
          simp [el]
      · rintro σ H4 ⟨y5, kvs4, rfl, hF4, sm4, ha2⟩
        rw [lR, List.take_length] at ha2
        refine good _ kvs4 _ hF4 (sm0.trans sm4) ?_
        rw [eW2, f1]
        dsimp only
        rw [find_all ha2]
        exact rfl
end
end FvF


namespace Fv
open PySem PySem.Spec PyProof.Rows L2
-- top 28  slots: 0:_law_script
abbrev s_law_source : Stmt := topS 28
abbrev N_law_source : List Str := ["_law_script"]
theorem sc_law_source : FnScope N_law_source ["_law_script"] (defScope s_law_source) := ⟨rfl, rfl, rfl, by decide +kernel, rfl, by decide +kernel, by decide +kernel⟩

-- top 30  slots: 0:_law_source_here 1:_law_row
abbrev s_law_pick : Stmt := topS 30
abbrev N_law_pick : List Str := ["_law_source_here", "_law_row"]
theorem sc_law_pick : FnScope N_law_pick ["_law_source_here", "_law_row"] (defScope s_law_pick) := ⟨rfl, rfl, rfl, by decide +kernel, rfl, by decide +kernel, by decide +kernel⟩

-- top 31  slots: 0:_law_source_here 1:_law_row 2:_law_found 3:_law_one
abbrev s_law_mixed : Stmt := topS 31
abbrev N_law_mixed : List Str := ["_law_source_here", "_law_row", "_law_found", "_law_one"]
theorem sc_law_mixed : FnScope N_law_mixed ["_law_source_here", "_law_row"] (defScope s_law_mixed) := ⟨rfl, rfl, rfl, by decide +kernel, rfl, by decide +kernel, by decide +kernel⟩

-- top 36  slots: 0:_law_source_here 1:_law_most 2:_law_every
abbrev s_law_signs : Stmt := topS 36
abbrev N_law_signs : List Str := ["_law_source_here", "_law_most", "_law_every"]
theorem sc_law_signs : FnScope N_law_signs ["_law_source_here", "_law_most"] (defScope s_law_signs) := ⟨rfl, rfl, rfl, by decide +kernel, rfl, by decide +kernel, by decide +kernel⟩

section
variable {P : Program} {w : World} {K : PySem.W.Frag} {mg : Str → Option Value} {base : Heap}
theorem ok_source {f : Addr} {fd : FuncData} {k : Nat} (F : Fun K "_law_source" "_law_source" s_law_source f fd) (m_list : mg "list" = none) :
    FnOk P w K mg base CX0 (k + 1) f fd ["_law_script"] (spSource K) := by
  refine F.ok sc_law_source (fun vs H Q E h => ?_) (fun cdv A outer s H vs Q E hr h => ?_)
  · obtain ⟨a, ns, rfl, _⟩ := h
    rfl
  · obtain ⟨a, ns, rfl, hS, hl, q⟩ := h
    refine ⟨_, (pss_one (ps_ret (pe_lst (pa_cons (pe_callTy call_list_of (by rfl) m_list (by decide +kernel) (pa_cons (pe_slice sl_list (pv 0) po_none (po_some pe_int)) pa_nil)) (pa_cons pe_int (pa_cons pe_int (pa_cons pe_int (pa_cons pe_int pa_nil)))))))), ?_⟩
    refine ⟨_, rfl, _, rfl, a, _, rfl, hS, fun c nc => ?_⟩
    have e1 : cutV (ns.map V.int) none (some 63) = ns.map V.int := by
      rw [cut_take _ (by decide)]
      exact List.take_of_length_le (by rw [List.length_map]; exact hl)
    refine ⟨c, _, rfl, .inl (SqL.of upd_same), fun L nL => ?_⟩
    refine ⟨(by show 5 ≤ sizeLine; decide), fun p np => ?_⟩
    have s1 := same_upd (o := .lst (cutV (ns.map V.int) none (some 63))) nc
    have s2 := same_upd (o := .lst (cutV (ns.map V.int) none (some 63))) nL
    have s3 := same_upd (o := .lst [.ref L, .int 0, .int 0, .int 3818, .int 0]) np
    refine q _ p L (s1.trans (s2.trans s3)) (s1.free (s2.free np)) (s1.free nL) ⟨0, 0, 3818, 0, upd_same, ?_, by decide, by decide, by decide⟩
    refine s3 _ _ ?_
    rw [upd_same, e1]
theorem ok_pick {f : Addr} {fd : FuncData} {k : Nat} (F : Fun K "_law_pick" "_law_pick" s_law_pick f fd) (m_len : mg "len" = none)
    (C_law_take : Own P w K mg base k "_law_take" ["_law_source_here", "_law_many"] spTake) :
    FnOk P w K mg base CX0 (k + 1) f fd ["_law_source_here", "_law_row"] spPick := by
  refine F.ok sc_law_pick (fun vs H Q E h => ?_) (fun cdv A outer s H vs Q E hr h => ?_)
  · obtain ⟨a, L, r, ns, xs, rfl, _⟩ := h
    rfl
  · obtain ⟨a, L, r, ns, xs, rfl, hs, ra, hr', hp, hl, q⟩ := h
    refine ⟨_, (pss_one (ps_ret (pe_ix ix_list (pv 1) (pe_own C_law_take (hr.mono (by omega)) (by rfl) (pa_cons (pv 0) (pa_cons (pe_callB call_len_seq (by rfl) m_len (by decide +kernel) (pa_cons (pv 1) pa_nil)) pa_nil))) (fun _ _ => rfl)))), ?_⟩
    refine ⟨_, rfl, _, rfl, _, rfl, r, _, rfl, .inl (SqL.of hr'), a, L, ns, _, rfl, hs, by omega, by omega, fun H' d d0 d1 hs' off => ?_⟩
    obtain ⟨v, hv, mv⟩ := atI_mem d0 d1
    exact ⟨r, _, _, _, rfl, rfl, SqL.of ((off r ra).trans hr'), hv, q H' v mv hs' off⟩
theorem ok_mixed {f : Addr} {fd : FuncData} {k : Nat} (F : Fun K "_law_mixed" "_law_mixed" s_law_mixed f fd) (m_len : mg "len" = none)
    (C_law_take : Own P w K mg base k "_law_take" ["_law_source_here", "_law_many"] spTake) :
    FnOk P w K mg base CX0 (k + 1) f fd ["_law_source_here", "_law_row"] spMixed := by
  refine F.ok sc_law_mixed (fun vs H Q E h => ?_) (fun cdv A outer s H vs Q E hr h => ?_)
  · obtain ⟨a, L, r, ns, xs, rfl, _⟩ := h
    rfl
  · obtain ⟨a, L, r, ns, xs, rfl, hs, ra, hR, hl, q⟩ := h
    refine ⟨_, (pss_cons (ps_set (i := 2) sc_law_mixed.nd rfl (by first | exact .inl rfl | exact .inr rfl) (pe_lst pa_nil))
      (pss_cons (ps_for PassesOwn.never rfl (pi_list (pv 1)) (pg_name (i := 3) sc_law_mixed.nd rfl (by first | exact .inl rfl | exact .inr rfl))
        (pss_one (ps_expr (pe_bm PySem.F.plainAttrs_list PySem.F.slot_list_insert PySem.F.type_list_insert mt_insert (pv 2) (pa_cons (pe_own C_law_take (hr.mono (by omega)) (by rfl) (pa_cons (pv 0) (pa_cons (pe_op op_add (pe_callB call_len_seq (by rfl) m_len (by decide +kernel) (pa_cons (pv 2) pa_nil)) pe_int) pa_nil))) (pa_cons (pv 3) pa_nil))))))
      (pss_one (ps_ret (pv 2))))), ?_⟩
    refine ⟨Nat.zero_le _, fun p np => ?_⟩
    have ap : a ≠ p := by
      obtain ⟨_, _, _, _, e, _⟩ := hs
      exact ne_of_none e np
    have rp : r ≠ p := ne_of_none hR np
    refine ⟨_, rfl, r, rfl, ⟨_, SqL.of (by rw [upd_ne rp]; exact hR)⟩, for_list (xs := xs) (fun i σ H1 => ∃ (y : Option V) (ys : List V), σ = [some (.ref a), some (.ref r), some (.ref p), y] ∧ ys.Perm (xs.take i) ∧ H1 p = some (.lst ys) ∧ Src H1 a L ns ∧ (∀ b, b ≠ a → b ≠ p → H1 b = H b)) ?_ ?_ ?_ ?_⟩
    · exact ⟨none, [], rfl, .nil, upd_same, hs.off np fun c hc => upd_ne hc, fun b _ hb => upd_ne hb⟩
    · rintro i σ H1 hi ⟨y, ys, rfl, pm, hp, hs1, off⟩
      exact SqL.of ((off r ra rp).trans hR)
    · rintro i x σ H1 hx ⟨y, ys, rfl, pm, hp, hs1, off⟩
      obtain ⟨hi, hxi⟩ := List.getElem?_eq_some_iff.mp hx
      have ly : ys.length = i := by
        rw [pm.length_eq, List.length_take]
        omega
      refine ⟨_, rfl, .inl ⟨rfl, _, SqL.of hp⟩, _, rfl, _, rfl, p, _, rfl, .inl (SqL.of hp), _, _, rfl, rfl, a, L, ns, _, rfl, hs1, by omega, by omega, fun H' d d0 d1 hs' off' => ?_⟩
      have hp' : H' p = some (.lst ys) := (off' p ap.symm).trans hp
      refine ⟨_, rfl, p, _, _, _, rfl, rfl, hp', small1000 (by omega), d0, by omega, ?_⟩
      refine ⟨_, _, rfl, ?_, upd_same, ?_, fun b ba bp => ?_⟩
      · rw [List.take_add_one, hx]
        refine List.Perm.trans ?_ (List.Perm.append_right _ pm)
        show (ys.take d.toNat ++ [x] ++ ys.drop d.toNat).Perm (ys ++ [x])
        refine List.Perm.trans (?_ : List.Perm _ (ys.take d.toNat ++ (ys.drop d.toNat ++ [x]))) ?_
        · rw [List.append_assoc]
          exact List.Perm.append_left _ List.perm_append_comm
        · rw [← List.append_assoc, List.take_append_drop]
      · obtain ⟨i', p', st, c, h1, h2, h3⟩ := hs'
        have Lp : L ≠ p := fun e => by
          obtain ⟨_, _, _, _, _, e2, _⟩ := hs
          rw [e, np] at e2
          cases e2
        exact ⟨i', p', st, c, by rw [upd_ne ap]; exact h1, by rw [upd_ne Lp]; exact h2, h3⟩
      · rw [upd_ne bp, off' b ba]
        exact off b ba bp
    · rintro σ H1 ⟨y, ys, rfl, pm, hp, hs1, off⟩
      rw [List.take_length] at pm
      exact ⟨_, rfl, q H1 p ys pm np hp hs1 off⟩
theorem ok_signs {f : Addr} {fd : FuncData} {k : Nat} (F : Fun K "_law_signs" "_law_signs" s_law_signs f fd) (m_list : mg "list" = none)
    (C_law_take : Own P w K mg base k "_law_take" ["_law_source_here", "_law_many"] spTake)
    (C_law_mixed : Own P w K mg base k "_law_mixed" ["_law_source_here", "_law_row"] spMixed) :
    FnOk P w K mg base CX0 (k + 1) f fd ["_law_source_here", "_law_most"] spSigns := by
  refine F.ok sc_law_signs (fun vs H Q E h => ?_) (fun cdv A outer s H vs Q E hr h => ?_)
  · obtain ⟨a, L, ns, n, rfl, _⟩ := h
    rfl
  · obtain ⟨a, L, ns, n, rfl, hs, n1, n8, q⟩ := h
    refine ⟨_, (pss_cons (ps_set (i := 2) sc_law_signs.nd rfl (by first | exact .inl rfl | exact .inr rfl) (pe_own C_law_mixed (hr.mono (by omega)) (by rfl) (pa_cons (pv 0) (pa_cons (pe_callTy (call_listStr hr.hd) (by rfl) m_list (by decide +kernel) (pa_cons pe_str pa_nil)) pa_nil))))
      (pss_one (ps_ret (pe_slice sl_list (pv 2) po_none (po_some (pe_op op_add pe_int (pe_own C_law_take (hr.mono (by omega)) (by rfl) (pa_cons (pv 0) (pa_cons (pv 1) pa_nil))))))))), ?_⟩
    refine ⟨_, rfl, _, rfl, by decide +kernel, fun r nr => ?_⟩
    have ar : a ≠ r := by
      obtain ⟨_, _, _, _, e, _⟩ := hs
      exact ne_of_none e nr
    refine ⟨a, L, r, ns, _, rfl, hs.off nr fun c hc => upd_ne hc, ar.symm, upd_same, by decide +kernel, fun H1 p ys pm np hp hs1 off1 => ?_⟩
    have s1 := same_upd (o := .lst (signs "abcdefgh")) nr
    have ap : a ≠ p := by
      obtain ⟨_, _, _, _, e, _⟩ := hs
      exact ne_of_none e (s1.free np)
    refine ⟨_, rfl, _, rfl, _, rfl, a, L, ns, n, rfl, hs1, n1, by omega, fun H2 d d0 d1 hs2 off2 => ?_⟩
    have hp2 : H2 p = some (.lst ys) := (off2 p ap.symm).trans hp
    refine ⟨_, _, rfl, rfl, _, rfl, p, ys, rfl, SqL.of hp2, fun z nz => ?_⟩
    have ly : ys.length = 8 := by
      rw [pm.length_eq]
      decide +kernel
    have ez : cutV ys none (some (1 + d)) = ys.take (1 + d).toNat := cut_take ys (by omega)
    have zn : H z = none := by
      have ap1 : H1 z = none := by
        by_cases e : z = a
        · rw [e] at nz
          obtain ⟨_, _, _, _, e', _⟩ := hs2
          rw [e'] at nz
          cases nz
        · rw [← off2 z e]; exact nz
      have ap2 : (upd H r (.lst (signs "abcdefgh"))) z = none := by
        by_cases e : z = a
        · rw [e] at ap1
          obtain ⟨_, _, _, _, e', _⟩ := hs1
          rw [e'] at ap1
          cases ap1
        · by_cases e2 : z = p
          · rw [e2] at ap1
            rw [hp] at ap1
            cases ap1
          · rw [← off1 z e e2]; exact ap1
      exact s1.free ap2
    refine q _ z _ ?_ ?_ ?_ ?_ zn upd_same (hs2.off nz fun c hc => upd_ne hc) ?_
    · rw [ez, List.length_take]; omega
    · rw [ez, List.length_take]; omega
    · intro y hy
      rw [ez] at hy
      exact pm.mem_iff.mp (List.mem_of_mem_take hy)
    · rw [ez]
      refine List.Sublist.nodup (List.take_sublist _ _) ?_
      exact pm.nodup_iff.mpr (by decide +kernel)
    · intro b o hb e
      have ba : b ≠ a := fun z => hb (by rw [z]; exact List.mem_singleton.mpr rfl)
      have bz : b ≠ z := ne_of_none e zn
      rw [upd_ne bz, off2 b ba, off1 b ba (ne_of_none e (s1.free np))]
      exact s1 b o e
end
end Fv


namespace Fv
open PySem PySem.Spec PyProof.Rows L2
-- top 35  slots: 0:_law_source_here 1:_law_signs_here 2:_law_deep 3:_law_room 4:_law_many 5:_law_operator 6:_law_k
abbrev s_law_term : Stmt := topS 35
abbrev N_law_term : List Str := ["_law_source_here", "_law_signs_here", "_law_deep", "_law_room", "_law_many", "_law_operator", "_law_k"]
theorem sc_law_term : FnScope N_law_term ["_law_source_here", "_law_signs_here", "_law_deep", "_law_room"] (defScope s_law_term) := ⟨rfl, rfl, rfl, by decide +kernel, rfl, by decide +kernel, by decide +kernel⟩


section
variable {P : Program} {w : World} {K : PySem.W.Frag} {mg : Str → Option Value} {base : Heap}
theorem term_zero {f : Addr} {fd : FuncData} {k : Nat} : FnOk P w K mg base CX0 k f fd ["_law_source_here", "_law_signs_here", "_law_deep", "_law_room"] (spTerm K 0) := by
  have no : ∀ vs H Q E, ¬ spTerm K 0 vs H Q E := fun vs H Q E h => by
    obtain ⟨a, L, sg, r, ns, deep, m, ys, M, _, _, _, _, _, _, _, _, _, _, _, _, _, d1, d2, _⟩ := h
    omega
  exact ⟨fun vs H Q E h => absurd h (no vs H Q E), fun A outer s H args us vs Q E _ _ _ _ h => absurd h (no vs H Q E)⟩
theorem ok_term {f : Addr} {fd : FuncData} {k n : Nat} (F : Fun K "_law_term" "_law_term" s_law_term f fd) (m_tuple : mg "tuple" = none) (m_range : mg "range" = none) (hk : 2 ≤ k)
    (C_law_take : Own P w K mg base 1 "_law_take" ["_law_source_here", "_law_many"] spTake)
    (C_law_pick : Own P w K mg base 2 "_law_pick" ["_law_source_here", "_law_row"] spPick)
    (C_law_term : Own P w K mg base k "_law_term" ["_law_source_here", "_law_signs_here", "_law_deep", "_law_room"] (spTerm K n)) :
    FnOk P w K mg base CX0 (k + 1) f fd ["_law_source_here", "_law_signs_here", "_law_deep", "_law_room"] (spTerm K (n + 1)) := by
  refine F.ok sc_law_term (fun vs H Q E h => ?_) (fun cdv A outer s H vs Q E hr h => ?_)
  · obtain ⟨a, L, sg, r, ns, deep, m, ys, M, rfl, _⟩ := h
    rfl
  · obtain ⟨a, L, sg, r, ns, deep, m, ys, M, rfl, hs, hsg, y0, y8, hy, hR, sga, sgr, ra, rL, m0, m1, d1, d2, aM, rM, tM, q⟩ := h
    refine ⟨_, (pss_cons (ps_set (i := 4) sc_law_term.nd rfl (by first | exact .inl rfl | exact .inr rfl) (pe_op op_add pe_int (pe_op op_fdiv (pe_own C_law_take (hr.mono (by omega)) (by rfl) (pa_cons (pv 0) (pa_cons pe_int pa_nil))) pe_int)))
      (pss_cons (ps_if (PW.pt (pw_or (pt_cmpR op_lt (pv 2) pe_int (nomark _)) (pw_or (pt_cmpR op_lt (pe_ix ix_list (pv 3) pe_int (fun _ _ => rfl)) (pe_op op_sub (pv 4) pe_int) (nomark _)) (pw_or1 (pt_cmpR op_eq (pe_own C_law_take (hr.mono (by omega)) (by rfl) (pa_cons (pv 0) (pa_cons pe_int pa_nil))) pe_int (nomark _))))))
        (pss_one (ps_ret (pe_own C_law_pick (hr.mono (by omega)) (by rfl) (pa_cons (pv 0) (pa_cons (pv 1) pa_nil)))))
        pss_nil)
      (pss_cons (ps_asg (pe_op op_add (pe_op op_sub (pe_ix ix_list (pv 3) pe_int (fun _ _ => rfl)) (pv 4)) pe_int) (pg_sub (pv 3) pe_int set_list))
      (pss_cons (ps_set (i := 5) sc_law_term.nd rfl (by first | exact .inl rfl | exact .inr rfl) (pe_own C_law_pick (hr.mono (by omega)) (by rfl) (pa_cons (pv 0) (pa_cons (pe_lst (pa_cons pe_str (pa_cons pe_str pa_nil))) pa_nil))))
      (pss_one (ps_ret (pe_callTy call_tuple_of (by rfl) m_tuple (by decide +kernel) (pa_cons (pe_op op_cat (pe_lst (pa_cons (pv 5) pa_nil)) (pe_lc (own := [("_law_k", 6)]) (g := gName 6) (by rfl) sc_law_term.nd (pi_range1 (by rfl) m_range (pa_cons (pv 4) pa_nil)) (blkOk_by (own := [("_law_k", 6)]) (N := N_law_term) (sc := defScope s_law_term) (by decide +kernel)) (fun _ _ _ _ _ => pg_name (i := 6) sc_law_term.nd rfl (Or.inl rfl)) (fun _ _ _ _ _ => pts_nil) (fun _ _ _ _ _ => (pe_own C_law_term (hr.mono (by omega)) (by rfl) (pa_cons (pv 0) (pa_cons (pv 1) (pa_cons (pe_op op_sub (pv 2) pe_int) (pa_cons (pv 3) pa_nil)))))))) pa_nil)))))))), ?_⟩
    have fin : ∀ Hx, Src Hx a L ns → (∀ b, b ≠ a → Hx b = H b) → spPick [.ref a, .ref sg] Hx Q E0 := fun Hx hsx offx => by
      refine ⟨a, L, sg, ns, ys, rfl, hsx, sga, (offx sg sga).trans hsg, y0, by omega, fun H' v mv hs' off' => ?_⟩
      obtain ⟨x, rfl, hx⟩ := lett_data (hy v mv)
      obtain ⟨l1, l2⟩ := isL_lett hx
      refine q H' _ (.str x) m (.str x) ?_ m0 (Int.le_refl _) (gd_le l2 (Nat.zero_le _)) hs' (((off' r ra).trans (offx r ra)).trans hR) fun b o hb e => ?_
      · obtain ⟨j, ej⟩ : ∃ j, deep.toNat = j + 1 := ⟨deep.toNat - 1, by omega⟩
        rw [ej]
        show (if isL x = true then (1 : Int) else _) = _
        rw [if_pos l1]
        omega
      · have ba : b ≠ a := fun z => hb (by rw [z]; exact List.mem_cons_self ..)
        rw [off' b ba, offx b ba]
        exact e
    refine ⟨_, rfl, a, L, ns, 5, rfl, hs, by decide, by decide, fun H1 t t0 t1 hs1 off1 => ⟨_, _, rfl, rfl, ⟨by decide, by decide⟩, _, _, rfl, rfl, ?_⟩⟩
    have hR1 : H1 r = some (.lst [.int m]) := (off1 r ra).trans hR
    refine ⟨_, rfl, _, _, rfl, rfl, _, rfl, ?_⟩
    refine ite2 (fun c => iteT ⟨_, rfl, _, rfl, fin H1 hs1 off1⟩) (fun c => ?_)
    have cd : ¬ deep < 2 := of_decide_eq_false (Bool.eq_false_iff.mpr c)
    refine ⟨_, rfl, r, _, _, _, rfl, rfl, SqL.of hR1, rfl, _, rfl, _, _, rfl, rfl, _, _, rfl, rfl, _, rfl, ?_⟩
    refine ite2 (fun c => iteT ⟨_, rfl, _, rfl, fin H1 hs1 off1⟩) (fun c => ?_)
    have cm : ¬ m < 2 + t / 2 - 1 := of_decide_eq_false (Bool.eq_false_iff.mpr c)
    refine ⟨_, rfl, a, L, ns, 4, rfl, hs1, by decide, by decide, fun H2 t2 _ _ hs2 off2 => ⟨rfl, _, rfl, ?_⟩⟩
    have off12 : ∀ b, b ≠ a → H2 b = H b := fun b hb => (off2 b hb).trans (off1 b hb)
    refine ite2 (fun c => ⟨_, rfl, _, rfl, fin H2 hs2 off12⟩) (fun _ => ?_)
    have hR2 : H2 r = some (.lst [.int m]) := (off12 r ra).trans hR
    -- room[0] = room[0] - many + 1
    refine ⟨_, rfl, r, _, _, _, rfl, rfl, SqL.of hR2, rfl, _, rfl, _, _, rfl, rfl, _, _, rfl, rfl, _, rfl, r, _, _, _, rfl, rfl, hR2, rfl, ?_⟩
    have hs3 : Src (upd H2 r (.lst [.int (m - (2 + t / 2) + 1)])) a L ns := hs2.put ra rL
    have tM2 : Trk M (upd H2 r (.lst [.int (m - (2 + t / 2) + 1)])) := fun b hb => by
      by_cases br : b = r
      · rw [br]; exact ⟨_, upd_same⟩
      · rw [upd_ne br]
        by_cases ba : b = a
        · rw [ba]
          obtain ⟨_, _, _, _, e, _⟩ := hs2
          exact ⟨_, e⟩
        · rw [off12 b ba]; exact tM b hb
    -- operator
    refine ⟨_, rfl, (by show 2 ≤ sizeLine; decide), fun l nl => ?_⟩
    have sl := same_upd (o := .lst [.str "&", .str "|"]) nl
    have la : l ≠ a := (hs3.ne nl).symm
    refine ⟨a, L, l, ns, _, rfl, hs3.same sl, la, upd_same, by decide, by decide, fun H4 op mop hs4 off4 => ?_⟩
    obtain ⟨os, rfl, ho, go⟩ : ∃ os : Str, op = .str os ∧ isOp (.str os) = true ∧ gd 0 (.str os) = true := by
      rcases List.mem_cons.mp mop with e | e
      · exact ⟨_, e, isOp_str.1, by decide +kernel⟩
      · exact ⟨_, List.mem_singleton.mp e, isOp_str.2, by decide +kernel⟩
    -- what stands at H4
    have rl : r ≠ l := ne_of_none (H := upd H2 r (.lst [.int (m - (2 + t / 2) + 1)])) upd_same nl
    have hR4 : H4 r = some (.lst [.int (m - (2 + t / 2) + 1)]) := (off4 r ra).trans ((upd_ne rl).trans upd_same)
    have sm4 : SmX [a, r] H H4 := fun b o hb e => by
      have ba : b ≠ a := fun z => hb (by rw [z]; exact List.mem_cons_self ..)
      have br : b ≠ r := fun z => hb (by rw [z]; exact List.mem_cons_of_mem _ (List.mem_singleton.mpr rfl))
      rw [off4 b ba]
      exact sl b o ((upd_ne br).trans ((off12 b ba).trans e))
    have tM4 : Trk M H4 := fun b hb => by
      by_cases ba : b = a
      · rw [ba]
        obtain ⟨_, _, _, _, e, _⟩ := hs4
        exact ⟨_, e⟩
      · rw [off4 b ba]; exact (tM2.same sl) b hb
    have hsg4 : H4 sg = some (.lst ys) := sm4 _ _ (fun z => by
      rcases List.mem_cons.mp z with z | z
      · exact sga z
      · exact sgr (List.mem_singleton.mp z)) hsg
    -- [operator] + [..]
    refine ⟨_, rfl, (by show 1 ≤ sizeLine; decide), fun o1 no1 => ?_⟩
    have so := same_upd (o := .lst [.str os]) no1
    refine ⟨_, rfl, (2 + t / 2), rfl, by omega, by omega, fun D nD => ?_⟩
    have tMo : Trk M (upd H4 o1 (.lst [.str os])) := tM4.same so
    have DM : D ∉ M := tMo.ne nD
    have Da : D ≠ a := fun e => DM (e ▸ aM)
    have Dr : D ≠ r := fun e => DM (e ▸ rM)
    have sD := same_upd (o := .lst []) nD
    refine lc_range (lo := 0) (n := (2 + t / 2).toNat) (fun i Hi => ∃ (mi : Int) (acc : List V) (ds : List PyData), Src Hi a L ns ∧ Hi r = some (.lst [.int mi]) ∧ Hi D = some (.lst acc) ∧ acc.length = i ∧ DpAll K (hide (D :: M) Hi) acc ds ∧
      (∀ d ∈ ds, 1 ≤ lmeas (deep.toNat - 1) d ∧ gd (deep.toNat - 1) d = true) ∧ (ds.map (lmeas (deep.toNat - 1))).sum = (m - (2 + t / 2) + 1) - mi + i ∧ 0 ≤ mi ∧ mi ≤ m - (2 + t / 2) + 1 ∧ SmX [a, r] (upd H4 o1 (.lst [.str os])) Hi) ?_ ?_ ?_
    · refine ⟨_, [], [], (hs4.same so).same sD, sD _ _ (so _ _ hR4), upd_same, rfl, .nil, (fun d h => nomatch h), ?_, by omega, Int.le_refl _, .of_same sD⟩
      simp
    · rintro i Hi hi ⟨mi, acc, ds, hsi, hri, hDi, li, hda, hds, hsum, mi0, mi1, smi⟩
      refine ⟨rfl, ?_⟩
      dsimp only [tYes]
      rw [if_pos rfl]
      have tMi : Trk M Hi := tMo.smx smi fun b hb => by
        rcases List.mem_cons.mp hb with z | z
        · rw [z]
          obtain ⟨_, _, _, _, e, _⟩ := hsi
          exact ⟨_, e⟩
        · rw [List.mem_singleton.mp z]; exact ⟨_, hri⟩
      have hsgi : Hi sg = some (.lst ys) := smi _ _ (fun z => by
        rcases List.mem_cons.mp z with z | z
        · exact sga z
        · exact sgr (List.mem_singleton.mp z)) (so _ _ hsg4)
      refine ⟨_, rfl, _, rfl, _, rfl, _, _, rfl, rfl, _, rfl, a, L, sg, r, ns, deep - 1, mi, ys, D :: M, rfl, hsi, hsgi, y0, y8, hy, hri, sga, sgr, ra, rL, mi0, by omega, by omega, by omega, List.mem_cons_of_mem _ aM, List.mem_cons_of_mem _ rM, fun b hb => ?_, fun H5 v d m5 hd5 hl5 m50 m51 hg5 hs5 hr5 sm5 => ?_⟩
      · rcases List.mem_cons.mp hb with z | z
        · rw [z]; exact ⟨_, hDi⟩
        · exact tMi b z
      · have hD5 : H5 D = some (.lst acc) := sm5 _ _ (fun z => by
          rcases List.mem_cons.mp z with z | z
          · exact Da z
          · exact Dr (List.mem_singleton.mp z)) hDi
        have ed : (deep - 1).toNat = deep.toNat - 1 := by omega
        rw [ed] at hl5 hg5
        have hid : Same (hide (D :: M) Hi) (hide (D :: M) (upd H5 D (.lst (acc ++ [v])))) := (SmX.put (sm5.sub (M' := D :: M) fun b hb => by
          rcases List.mem_cons.mp hb with z | z
          · rw [z]; exact .inl (List.mem_cons_of_mem _ aM)
          · rw [List.mem_singleton.mp z]; exact .inl (List.mem_cons_of_mem _ rM)) (List.mem_cons_self ..)).hid
        have hid5 : Same (hide (D :: M) H5) (hide (D :: M) (upd H5 D (.lst (acc ++ [v])))) := (SmX.put (SmX.refl _ _) (List.mem_cons_self ..)).hid
        have Lr : r ≠ L := rL
        refine ⟨acc, hD5, ?_, m5, acc ++ [v], ds ++ [d], ?_, ?_, upd_same, ?_, ?_, ?_, ?_, m50, by omega, ?_⟩
        · exact small1000 (by omega)
        · refine hs5.put Da fun e => ?_
          obtain ⟨_, _, _, _, _, e2, _⟩ := hs
          have eL : (upd H4 o1 (.lst [.str os])) L = none := e ▸ nD
          obtain ⟨_, _, _, _, _, e3, _⟩ := hs4.same so
          rw [eL] at e3
          cases e3
        · rw [upd_ne Dr.symm]; exact hr5
        · rw [List.length_append, li]; rfl
        · exact dpAll_app (dpAll_same hid _ _ hda) (.cons (dp_same hid5 _ _ hd5) .nil)
        · intro d' hd'
          rcases List.mem_append.mp hd' with z | z
          · exact hds d' z
          · rw [List.mem_singleton.mp z]
            exact ⟨by omega, hg5⟩
        · rw [List.map_append, List.sum_append, hsum]
          simp only [List.map_cons, List.map_nil, List.sum_cons, List.sum_nil]
          omega
        · intro b o hb e
          rw [upd_ne (ne_of_none e nD)]
          exact sm5 b o hb (smi b o hb e)
    · rintro Hi ⟨mi, acc, ds, hsi, hri, hDi, li, hda, hds, hsum, mi0, mi1, smi⟩
      have o1a : o1 ≠ a := fun e => by
        obtain ⟨_, _, _, _, e', _⟩ := hs4
        rw [e, e'] at no1
        cases no1
      have o1r : o1 ≠ r := fun e => by
        rw [e, hR4] at no1
        cases no1
      have ho1 : Hi o1 = some (.lst [.str os]) := smi _ _ (fun z => by
        rcases List.mem_cons.mp z with z | z
        · exact o1a z
        · exact o1r (List.mem_singleton.mp z)) upd_same
      have tMi : Trk M Hi := tMo.smx smi fun b hb => by
        rcases List.mem_cons.mp hb with z | z
        · rw [z]
          obtain ⟨_, _, _, _, e, _⟩ := hsi
          exact ⟨_, e⟩
        · rw [List.mem_singleton.mp z]; exact ⟨_, hri⟩
      refine ⟨o1, D, _, _, rfl, rfl, ho1, hDi, ?_, fun cc ncc => ?_⟩
      · rw [li]
        exact le1000 (by show 1 + _ ≤ 1000; omega)
      have sc := same_upd (o := .lst ([.str os] ++ acc)) ncc
      refine ⟨cc, _, rfl, .inl ⟨SqL.of upd_same, fun p np => ?_⟩⟩
      have sp := same_upd (o := .tup ([.str os] ++ acc)) np
      have tMc : Trk M (upd Hi cc (.lst ([.str os] ++ acc))) := tMi.same sc
      have lds := dpAll_len hda
      obtain ⟨j, ej⟩ : ∃ j, deep.toNat = j + 1 := ⟨deep.toNat - 1, by omega⟩
      have ej1 : deep.toNat - 1 = j := by omega
      rw [ej1] at hds hsum
      have hidA : Same (hide (D :: M) Hi) (hide M (upd (upd Hi cc (.lst ([.str os] ++ acc))) p (.tup ([.str os] ++ acc)))) :=
        (hide_sub fun b hb => List.mem_cons_of_mem _ hb).trans (SmX.of_same (sc.trans sp)).hid
      refine q _ (.ref p) (.tuple (.str os :: ds)) mi (.tup (SqT.of (hid_at tMc np)) (.cons (.str os) (dpAll_same hidA _ _ hda))) ?_ mi0 (by omega) ?_ ((hsi.same sc).same sp) (sp _ _ (sc _ _ hri)) (sm4.trans ((SmX.of_same so).trans (smi.trans (.of_same (sc.trans sp)))))
      · rw [ej]
        refine lmeas_tup ho (by omega) (fun d hd => (hds d hd).1) ?_
        rw [hsum]
        omega
      · rw [ej]
        refine gd_tup (fun d hd => ?_) (by rw [List.length_cons]; omega)
        rcases List.mem_cons.mp hd with z | z
        · rw [z]; exact gd_le go (Nat.zero_le _)
        · exact (hds d z).2
end
end Fv


namespace Fv
open PySem PySem.Spec PyProof.Rows L2


theorem pos22 : (0 : Int) < 2 := by decide
section
variable {P : Program} {w : World} {K : PySem.W.Frag} {mg : Str → Option Value} {base : Heap}
end
end Fv


namespace Fv
open PySem PySem.Spec PyProof.Rows L2
theorem all_nil {P : V → Prop} : ∀ y ∈ ([] : List V), P y := fun y h => nomatch h
theorem all_cons {P : V → Prop} {x : V} {xs : List V} (h : P x) (t : ∀ y ∈ xs, P y) : ∀ y ∈ x :: xs, P y := fun y hy => by
  rcases List.mem_cons.mp hy with e | e
  · rw [e]; exact h
  · exact t y e
theorem all_app {P : V → Prop} {xs ys : List V} (h : ∀ y ∈ xs, P y) (t : ∀ y ∈ ys, P y) : ∀ y ∈ xs ++ ys, P y := fun y hy => by
  rcases List.mem_append.mp hy with e | e
  · exact h y e
  · exact t y e
section
variable {P : Program} {w : World} {K : PySem.W.Frag} {mg : Str → Option Value} {base : Heap}
end
end Fv


namespace Fv
open PySem PySem.Spec PyProof.Rows L2
-- top 10  slots: 0:value
abbrev s_is_letter : Stmt := topS 10
abbrev N_is_letter : List Str := ["value"]
theorem sc_is_letter : FnScope N_is_letter ["value"] (defScope s_is_letter) := ⟨rfl, rfl, rfl, by decide +kernel, rfl, by decide +kernel, by decide +kernel⟩

-- top 11  slots: 0:value
abbrev s_is_compound : Stmt := topS 11
abbrev N_is_compound : List Str := ["value"]
theorem sc_is_compound : FnScope N_is_compound ["value"] (defScope s_is_compound) := ⟨rfl, rfl, rfl, by decide +kernel, rfl, by decide +kernel, by decide +kernel⟩

-- top 12  slots: 0:value 1:max_depth 2:max_size 3:deepest 4:total 5:part 6:found
abbrev s_measured : Stmt := topS 12
abbrev N_measured : List Str := ["value", "max_depth", "max_size", "deepest", "total", "part", "found"]
theorem sc_measured : FnScope N_measured ["value", "max_depth", "max_size"] (defScope s_measured) := ⟨rfl, rfl, rfl, by decide +kernel, rfl, by decide +kernel, by decide +kernel⟩

-- top 13  slots: 0:value 1:max_depth 2:max_size
abbrev s_is_term : Stmt := topS 13
abbrev N_is_term : List Str := ["value", "max_depth", "max_size"]
theorem sc_is_term : FnScope N_is_term ["value", "max_depth", "max_size"] (defScope s_is_term) := ⟨rfl, rfl, rfl, by decide +kernel, rfl, by decide +kernel, by decide +kernel⟩

section
variable {P : Program} {w : World} {K : PySem.W.Frag} {mg : Str → Option Value} {base : Heap}
theorem len_ok {n : Nat} {s : Str} (h : gd n (.str s) = true) : s.length ≤ sizeLine := by
  have q : s.length ≤ 100000 := by
    cases n <;> (simp only [gd, Bool.and_eq_true, decide_eq_true_eq] at h; exact h.2)
  exact Nat.le_trans q (by decide)
theorem ok_is_letter {f : Addr} {fd : FuncData} {k : Nat} (F : Fun K "is_letter" "is_letter" s_is_letter f fd) (m_isinstance : mg "isinstance" = none) (m_str : mg "str" = none) (m_len : mg "len" = none)
    {t : Tok} (g_LETTERS : mg "LETTERS" = some (.str "abcdefgh" t)) :
    FnOk P w K mg base CX0 (k + 1) f fd ["value"] (spIsLetter K) := by
  refine F.ok sc_is_letter (fun vs H Q E h => ?_) (fun cdv A outer s H vs Q E hr h => ?_)
  · obtain ⟨v, d, rfl, _⟩ := h
    rfl
  · obtain ⟨v, d, rfl, hd, hg, q⟩ := h
    refine ⟨_, (pss_one (ps_ret (pe_and (pe_isD (T := "str") (by rfl) m_isinstance (by rfl) m_str (pv 0)) (pe_and (pe_cmpR op_eq (pe_callB call_len_str (by rfl) m_len (by decide +kernel) (pa_cons (pv 0) pa_nil)) pe_int (nomark _)) (pe_one (pe_cmpR op_in_str (pv 0) (pe_glob (v := .str "abcdefgh") (by rfl) g_LETTERS (⟨_, rfl⟩)) (by rfl))))))), ?_⟩
    refine ⟨_, rfl, _, _, d, rfl, by decide, hd, _, rfl, ?_⟩
    cases d with
    | str z =>
      cases hd
      refine iteT ⟨_, rfl, z, rfl, len_ok hg, rfl, _, rfl, ?_⟩
      have e : isLd (.str z) = isL z := rfl
      rw [e] at q
      unfold isL at q
      refine ite2 (fun c => ?_) (fun c => ?_)
      · refine ⟨_, rfl, z, _, rfl, rfl, ?_⟩
        rw [c, Bool.true_and] at q
        exact q
      · rw [Bool.eq_false_iff.mpr c, Bool.false_and] at q
        exact q
    | _ => exact iteF q
theorem ok_is_compound {f : Addr} {fd : FuncData} {k : Nat} (F : Fun K "is_compound" "is_compound" s_is_compound f fd) (m_isinstance : mg "isinstance" = none) (m_tuple : mg "tuple" = none) (m_len : mg "len" = none)
    {oA : Addr} (g_OPERATORS : mg "OPERATORS" = some (.ref oA)) (hO : ∀ H, SqT K H oA [.str "&", .str "|"]) :
    FnOk P w K mg base CX0 (k + 1) f fd ["value"] (spIsCompound K) := by
  refine F.ok sc_is_compound (fun vs H Q E h => ?_) (fun cdv A outer s H vs Q E hr h => ?_)
  · obtain ⟨v, d, rfl, _⟩ := h
    rfl
  · obtain ⟨v, d, rfl, hd, hg, q⟩ := h
    refine ⟨_, (pss_one (ps_ret (pe_and (pe_isD (T := "tuple") (by rfl) m_isinstance (by rfl) m_tuple (pv 0)) (pe_and (pe_cmpR op_ge (pe_callB call_len_seq (by rfl) m_len (by decide +kernel) (pa_cons (pv 0) pa_nil)) pe_int (nomark _)) (pe_one (pe_cmpR (op_inT (hu65 hr)) (pe_ix ix_tup (pv 0) pe_int (fun _ _ => rfl)) (pe_glob (v := .ref oA) (by rfl) g_OPERATORS (rfl)) (by rfl))))))), ?_⟩
    refine ⟨_, rfl, _, _, d, rfl, by decide, hd, _, rfl, ?_⟩
    cases d with
    | tuple ds =>
      cases hd with
      | @tup a xs _ hs ha =>
        refine iteT ⟨_, rfl, a, xs, rfl, .inr hs, _, _, rfl, rfl, _, rfl, ?_⟩
        have hl := dpAll_len ha
        cases ds with
        | nil =>
          rw [hl]
          exact iteF q
        | cons o ds =>
          cases ha with
          | @cons x0 xr _ _ h1 h2 =>
            have hl' := dpAll_len h2
            have e : isCd (.tuple (o :: ds)) = (decide (2 ≤ ds.length) && isOp o) := rfl
            rw [e] at q
            refine ite2 (fun c => ?_) (fun c => ?_)
            · have c' : (3 : Int) ≤ (((x0 :: xr).length : Nat) : Int) := of_decide_eq_true c
              rw [List.length_cons] at c'
              refine ⟨_, rfl, a, _, _, x0, rfl, rfl, hs, at0, o, [.str "&", .str "|"], h1, .tup (hO _) (.cons (.str _) (.cons (.str _) .nil)), gd_shaped (gd_parts hg).1 (by decide), by decide +kernel, ?_⟩
              rw [decide_eq_true (by omega), Bool.true_and] at q
              exact q
            · have c' : ¬ (3 : Int) ≤ (((x0 :: xr).length : Nat) : Int) := of_decide_eq_false (Bool.eq_false_iff.mpr c)
              rw [List.length_cons] at c'
              rw [decide_eq_false (by omega), Bool.false_and] at q
              exact q
    | _ => exact iteF q
theorem ok_measured {f : Addr} {fd : FuncData} {k n : Nat} (F : Fun K "measured" "measured" s_measured f fd) (m_max : mg "max" = none) (hk : 1 ≤ k)
    (C_is_letter : Own P w K mg base 1 "is_letter" ["value"] (spIsLetter K)) (C_is_compound : Own P w K mg base 1 "is_compound" ["value"] (spIsCompound K))
    (C_measured : Own P w K mg base k "measured" ["value", "max_depth", "max_size"] (spMeas K n)) :
    FnOk P w K mg base CX0 (k + 1) f fd ["value", "max_depth", "max_size"] (spMeas K (n + 1)) := by
  refine F.ok sc_measured (fun vs H Q E h => ?_) (fun cdv A outer s H vs Q E hr h => ?_)
  · obtain ⟨v, d, md, ms, rfl, _⟩ := h
    rfl
  · obtain ⟨v, d, md, ms, rfl, hd, hg, m0, m1, q1, q2⟩ := h
    refine ⟨_, (pss_cons (ps_if (PW.pt (pw_or (pt_cmpR op_lt (pv 1) pe_int (nomark _)) (pw_or1 (pt_cmpR op_lt (pv 2) pe_int (nomark _)))))
        (pss_one (ps_ret pe_non))
        pss_nil)
      (pss_cons (ps_if (pt_val (pe_own C_is_letter (hr.mono (by omega)) (by rfl) (pa_cons (pv 0) pa_nil)))
        (pss_one (ps_ret (pe_tup (pa_cons pe_int (pa_cons pe_int pa_nil)))))
        pss_nil)
      (pss_cons (ps_if (pt_not (pt_val (pe_own C_is_compound (hr.mono (by omega)) (by rfl) (pa_cons (pv 0) pa_nil))))
        (pss_one (ps_ret pe_non))
        pss_nil)
      (pss_cons (ps_set (i := 3) sc_measured.nd rfl (by first | exact .inl rfl | exact .inr rfl) pe_int)
      (pss_cons (ps_set (i := 4) sc_measured.nd rfl (by first | exact .inl rfl | exact .inr rfl) pe_int)
      (pss_cons (ps_for PassesOwn.never rfl (pi_tup (pe_slice sl_tup (pv 0) (po_some pe_int) po_none)) (pg_name (i := 5) sc_measured.nd rfl (by first | exact .inl rfl | exact .inr rfl))
        (pss_cons (ps_set (i := 6) sc_measured.nd rfl (by first | exact .inl rfl | exact .inr rfl) (pe_own C_measured (hr.mono (by omega)) (by rfl) (pa_cons (pv 5) (pa_cons (pe_op op_sub (pv 1) pe_int) (pa_cons (pe_op op_sub (pv 2) (pv 4)) pa_nil)))))
        (pss_cons (ps_if (pt_cmpR op_isN (pv 6) pe_non (nomark _))
          (pss_one (ps_ret pe_non))
          pss_nil)
        (pss_cons (ps_set (i := 3) sc_measured.nd rfl (by first | exact .inl rfl | exact .inr rfl) (pe_callB (call_max2 rfl) (by rfl) m_max (by decide +kernel) (pa_cons (pv 3) (pa_cons (pe_ix ix_tup (pv 6) pe_int (fun _ _ => rfl)) pa_nil))))
        (pss_one (ps_set (i := 4) sc_measured.nd rfl (by first | exact .inl rfl | exact .inr rfl) (pe_op op_add (pv 4) (pe_ix ix_tup (pv 6) pe_int (fun _ _ => rfl)))))))))
      (pss_one (ps_ret (pe_tup (pa_cons (pe_op op_add (pv 3) pe_int) (pa_cons (pv 4) pa_nil))))))))))), ?_⟩
    refine ⟨_, rfl, _, _, rfl, rfl, _, rfl, ?_⟩
    have fin0 : ¬ 1 ≤ md ∨ ms < 1 → Q .non H := fun c => by
      refine q1 ?_ H (Same.refl H)
      rcases c with c | c
      · rw [show md.toNat = 0 by omega]; rfl
      · cases md.toNat with
        | zero => rfl
        | succ m => unfold meas; rw [if_pos c]
    refine ite2 (fun c => iteT (fin0 (.inl (by have := of_decide_eq_true c; omega)))) (fun c => ?_)
    have c1 : ¬ md < 1 := of_decide_eq_false (Bool.eq_false_iff.mpr c)
    refine ⟨_, rfl, _, _, rfl, rfl, _, rfl, ?_⟩
    refine ite2 (fun c => fin0 (.inr (of_decide_eq_true c))) (fun c => ?_)
    have c2 : ¬ ms < 1 := of_decide_eq_false (Bool.eq_false_iff.mpr c)
    obtain ⟨m, em⟩ : ∃ m, md.toNat = m + 1 := ⟨md.toNat - 1, by omega⟩
    have em' : (md - 1).toNat = m := by omega
    rw [em] at q1 q2
    unfold meas at q1 q2
    rw [if_neg c2] at q1 q2
    refine ⟨_, rfl, v, d, rfl, hd, hg, _, rfl, ?_⟩
    refine ite2 (fun c => ?_) (fun c => ?_)
    · refine ⟨(by show 2 ≤ sizeLine; decide), fun p np => ?_⟩
      rw [if_pos c] at q2
      exact q2 1 1 rfl _ p (same_upd np) upd_same
    · rw [if_neg c] at q1 q2
      refine ⟨_, rfl, v, d, rfl, hd, hg, _, rfl, ?_⟩
      cases hc : isCd d with
      | false =>
        rw [if_neg (by rw [hc]; decide)] at q1
        exact iteT (q1 rfl H (Same.refl H))
      | true =>
        rw [if_pos hc] at q1 q2
        refine iteF ?_
        cases d with
        | tuple ds =>
          cases ds with
          | nil => cases hc
          | cons o ds =>
            cases hd with
            | @tup a xs _ hs ha =>
              cases ha with
              | @cons x0 xr _ _ h1 h2 =>
                have hl := dpAll_len h2
                have h2l : 2 ≤ ds.length := by
                  have e : isCd (.tuple (o :: ds)) = (decide (2 ≤ ds.length) && isOp o) := rfl
                  rw [e, Bool.and_eq_true] at hc
                  exact of_decide_eq_true hc.1
                have ep : parts (.tuple (o :: ds)) = ds := rfl
                rw [ep] at q1 q2
                have gp := (gd_parts hg).2
                refine ⟨_, rfl, 1, rfl, a, x0 :: xr, rfl, hs, ?_, fun p np => ?_⟩
                · rw [show HT.sIx (x0 :: xr).length 0 (some 1) = min 1 (x0 :: xr).length from HT.sIx_nat _ 0 1, List.length_cons]
                  omega
                have ec : cutV (x0 :: xr) (some 1) none = xr := by rw [cut_drop1]; rfl
                rw [ec]
                have s0 : Same H (upd H p (.tup xr)) := same_upd np
                refine ⟨p, rfl, ⟨_, SqT.of upd_same⟩, for_tup (xs := xr) (fun i σ H1 => ∃ (dp tot : Int) (y5 y6 : Option V), σ = [some (.ref a), some (.int md), some (.int ms), some (.int dp), some (.int tot), y5, y6] ∧
                  Same (upd H p (.tup xr)) H1 ∧ measL (meas m) (ds.drop i) ms dp tot = measL (meas m) ds ms 0 0) ?_ ?_ ?_ ?_⟩
                · exact ⟨0, 0, none, none, rfl, Same.refl _, rfl⟩
                · rintro i σ H1 hi ⟨dp, tot, y5, y6, rfl, sm, e⟩
                  exact SqT.of (sm _ _ upd_same)
                · rintro i x σ H1 hx ⟨dp, tot, y5, y6, rfl, sm, e⟩
                  obtain ⟨d', hd', hD'⟩ := dpAll_get h2 hx
                  have hDs : Dp K H1 x d' := dp_same (s0.trans sm) d' x hD'
                  rw [drop_cons_get hd'] at e
                  refine ⟨_, rfl, _, rfl, _, _, rfl, rfl, _, rfl, _, rfl, _, _, rfl, rfl, x, d', md - 1, ms - tot, rfl, hDs, gd_le (gp d' (List.mem_of_getElem? hd')) (by decide), by omega, by omega, fun en H2 s2 => ?_, fun dp' sz es H2 p2 s2 hp2 => ?_⟩
                  · refine ⟨_, rfl, rfl, _, rfl, iteT ?_⟩
                    refine q1 ?_ H2 (s0.trans (sm.trans s2))
                    rw [em'] at en
                    rw [← e]
                    simp only [measL, en]
                  · refine ⟨_, rfl, rfl, _, rfl, iteF ?_⟩
                    refine ⟨_, rfl, _, rfl, p2, _, _, _, rfl, rfl, SqT.of hp2, rfl, _, _, rfl, ?_⟩
                    refine ⟨_, rfl, _, rfl, p2, _, _, _, rfl, rfl, SqT.of hp2, rfl, _, _, rfl, rfl, ?_⟩
                    refine ⟨_, _, _, _, rfl, sm.trans s2, ?_⟩
                    rw [← e, em'] at *
                    simp only [measL, es]
                · rintro σ H1 ⟨dp, tot, y5, y6, rfl, sm, e⟩
                  refine ⟨_, rfl, _, _, rfl, rfl, _, rfl, (by show 2 ≤ sizeLine; decide), fun p3 np3 => ?_⟩
                  refine q2 (dp + 1) tot ?_ _ p3 (s0.trans (sm.trans (same_upd np3))) upd_same
                  rw [← e, List.drop_eq_nil_of_le (by omega)]
                  rfl
        | _ => cases hc
theorem meas_zero {f : Addr} {fd : FuncData} {k : Nat} : FnOk P w K mg base CX0 k f fd ["value", "max_depth", "max_size"] (spMeas K 0) := by
  have no : ∀ vs H Q E, ¬ spMeas K 0 vs H Q E := fun vs H Q E h => by
    obtain ⟨v, d, md, ms, _, _, _, m0, m1, _⟩ := h
    omega
  exact ⟨fun vs H Q E h => absurd h (no vs H Q E), fun A outer s H args us vs Q E _ _ _ _ h => absurd h (no vs H Q E)⟩
end
end Fv


namespace Fv
open PySem PySem.Spec PyProof.Rows L2

-- top 39  slots: 0:_law_word 1:_law_deep 2:_law_sizes 3:_law_one
abbrev s_law_measure : Stmt := topS 39
abbrev N_law_measure : List Str := ["_law_word", "_law_deep", "_law_sizes", "_law_one"]
theorem sc_law_measure : FnScope N_law_measure ["_law_word", "_law_deep"] (defScope s_law_measure) := ⟨rfl, rfl, rfl, by decide +kernel, rfl, by decide +kernel, by decide +kernel⟩

-- top 40  slots: 0:_law_word
abbrev s_law_fits : Stmt := topS 40
abbrev N_law_fits : List Str := ["_law_word"]
theorem sc_law_fits : FnScope N_law_fits ["_law_word"] (defScope s_law_fits) := ⟨rfl, rfl, rfl, by decide +kernel, rfl, by decide +kernel, by decide +kernel⟩

theorem walk_zipT {K : PySem.W.Frag} {a b : Addr} {xs ys : List V} {n : Nat} (hn : n = min xs.length ys.length) : Walk (RZ.ItzT K a b) n (fun H => SqT K H a xs ∧ SqT K H b ys) (YPair (fun i => xs[i]?) (fun i => ys[i]?)) := by
  subst hn
  refine ⟨fun i _ hi q => ?_, fun _ q => ⟨xs, ys, q.1, q.2, by omega⟩, fun i H v H' _ q y => ?_⟩
  · have h1 : i < xs.length := by omega
    have h2 : i < ys.length := by omega
    exact ⟨xs, ys, xs[i], ys[i], q.1, q.2, by simp [h1], by simp [h2]⟩
  · obtain ⟨T, x, z, h1, h2, h3, h4, h5⟩ := y
    exact ⟨T, x, z, h1, h2, h3, h4 xs q.1, h5 ys q.2⟩
def spSame (K : PySem.W.Frag) (n : Nat) : Sp := fun vs H Q _ => ∃ (v v' : V) (d : PyData) (m : Nat), vs = [v, v'] ∧ Dp K H v d ∧ Dp K H v' d ∧ m < n ∧ gd m d = true ∧ ∀ H', Same H H' → Q (.bl true) H'
theorem in_ints (ns : List Int) : inV (.int 0) (ns.map V.int) = decide ((0 : Int) ∈ ns) := by
  unfold inV
  induction ns with
  | nil => rfl
  | cons n ns ih =>
    rw [List.map_cons, List.any_cons, ih]
    show ((n == 0) || decide ((0 : Int) ∈ ns)) = decide ((0 : Int) ∈ n :: ns)
    by_cases e : n = 0
    · subst e; simp
    · have e1 : (n == 0) = false := beq_eq_false_iff_ne.mpr e
      rw [e1, Bool.false_or]
      simp [List.mem_cons, show ¬ (0 : Int) = n from fun z => e z.symm]
theorem flat_ints (ns : List Int) : (ns.map V.int).all flatV = true := by
  rw [List.all_map]
  exact List.all_eq_true.mpr fun _ _ => rfl
section
variable {P : Program} {w : World} {K : PySem.W.Frag} {mg : Str → Option Value} {base : Heap}
theorem ok_measure {f : Addr} {fd : FuncData} {k n : Nat} (F : Fun K "_law_measure" "_law_measure" s_law_measure f fd) (m_isinstance : mg "isinstance" = none) (m_str : mg "str" = none) (m_tuple : mg "tuple" = none) (m_len : mg "len" = none) (m_int : mg "int" = none) (m_sum : mg "sum" = none)
    (C_law_measure : Own P w K mg base k "_law_measure" ["_law_word", "_law_deep"] (spMeasure K n)) :
    FnOk P w K mg base CX0 (k + 1) f fd ["_law_word", "_law_deep"] (spMeasure K (n + 1)) := by
  refine F.ok sc_law_measure (fun vs H Q E h => ?_) (fun cdv A outer s H vs Q E hr h => ?_)
  · obtain ⟨v, d, md, rfl, _⟩ := h
    rfl
  · obtain ⟨v, d, md, rfl, hd, hg, m0, m1, q⟩ := h
    refine ⟨_, (pss_cons (ps_if (pt_val (pe_isD (T := "str") (by rfl) m_isinstance (by rfl) m_str (pv 0)))
        (pss_one (ps_ret (pe_callTy call_int1 (by rfl) m_int (by decide +kernel) (pa_cons (pe_and (pe_cmpR op_eq (pe_callB call_len (by rfl) m_len (by decide +kernel) (pa_cons (pv 0) pa_nil)) pe_int (nomark _)) (pe_and (pe_cmpR op_in_str (pv 0) pe_str (by rfl)) (pe_one (pe_cmpR op_gt (pv 1) pe_int (nomark _))))) pa_nil))))
        pss_nil)
      (pss_cons (ps_if (PW.pt (pw_or (pt_cmpR op_lt (pv 1) pe_int (nomark _)) (pw_or (pt_not (pt_val (pe_isD (T := "tuple") (by rfl) m_isinstance (by rfl) m_tuple (pv 0)))) (pw_or (pt_cmpR op_lt (pe_callB call_len (by rfl) m_len (by decide +kernel) (pa_cons (pv 0) pa_nil)) pe_int (nomark _)) (pw_or1 (pt_cmpR (op_notInT (hu65 hr)) (pe_ix ix_tup (pv 0) pe_int (fun _ _ => rfl)) (pe_tup (pa_cons pe_str (pa_cons pe_str pa_nil))) (by rfl)))))))
        (pss_one (ps_ret pe_int))
        pss_nil)
      (pss_cons (ps_setLc (i := 2) (own := [("_law_one", 3)]) (g := gName 3) (by rfl) sc_law_measure.nd rfl rfl (sw_true rfl rfl rfl (by decide +kernel)) (pi_tup (pe_slice sl_tup (pv 0) (po_some pe_int) po_none)) (blkOk_by (own := [("_law_one", 3)]) (N := N_law_measure) (sc := defScope s_law_measure) (by decide +kernel)) (fun _ _ _ _ _ => pg_name (i := 3) sc_law_measure.nd rfl (Or.inl rfl)) (fun _ _ _ _ _ => pts_nil) (fun _ _ _ _ _ => (pe_own C_law_measure (hr.mono (by omega)) (by rfl) (pa_cons (pv 3) (pa_cons (pe_op op_sub (pv 1) pe_int) pa_nil)))))
      (pss_one (ps_ret (pe_ifExp (pt_cmpR op_in_seq pe_int (pv 2) (by rfl)) pe_int (pe_callB (cr_sum rfl) (by rfl) m_sum (by decide +kernel) (pa_cons (pv 2) pa_nil)))))))), ?_⟩
    refine ⟨_, rfl, _, _, d, rfl, by decide, hd, _, rfl, ?_⟩
    have z0 : ∀ d', md.toNat = 0 → lmeas md.toNat d' = 0 := fun d' e => by rw [e]; rfl
    have fin1 : isLd d = false → isCd d = false → Q (.int 0) H := fun a b => by
      have q' := q H (Same.refl H)
      have e : lmeas md.toNat d = 0 := by
        cases md.toNat with
        | zero => rfl
        | succ m => unfold lmeas; rw [a, b]; rfl
      rw [e] at q'
      exact q'
    cases d with
    | str z =>
      cases hd
      refine iteT ⟨_, rfl, _, _, rfl, ⟨len_ok hg, rfl⟩, rfl, _, rfl, ?_⟩
      have es : lmeas (md.toNat) (.str z) = if (isL z && decide (0 < md)) = true then 1 else 0 := by
        cases hm : md.toNat with
        | zero =>
          rw [decide_eq_false (by omega), Bool.and_false]
          rfl
        | succ m =>
          rw [decide_eq_true (by omega), Bool.and_true]
          show (if isL z = true then (1 : Int) else _) = _
          by_cases c : isL z = true
          · rw [if_pos c, if_pos c]
          · rw [if_neg c, if_neg c, if_neg (fun z => by cases z)]
      have q' := q H (Same.refl H)
      rw [es] at q'
      unfold isL at q'
      refine ite2 (fun c => ?_) (fun c => ?_)
      · refine ⟨_, rfl, _, _, rfl, rfl, _, rfl, ?_⟩
        rw [c, Bool.true_and] at q'
        refine ite2 (fun c2 => ?_) (fun c2 => ?_)
        · rw [c2, Bool.true_and] at q'
          exact ⟨_, rfl, _, _, rfl, rfl, .inr ⟨_, rfl, q'⟩⟩
        · rw [Bool.eq_false_iff.mpr c2, Bool.false_and] at q'
          exact .inr ⟨_, rfl, q'⟩
      · rw [Bool.eq_false_iff.mpr c, Bool.false_and] at q'
        exact .inr ⟨_, rfl, q'⟩
    | tuple ds =>
      refine iteF ⟨_, rfl, _, _, rfl, rfl, _, rfl, ?_⟩
      have fin0 : lmeas md.toNat (.tuple ds) = 0 → Q (.int 0) H := fun e => by
        have q' := q H (Same.refl H)
        rw [e] at q'
        exact q'
      cases hd with
      | @tup a xs _ hs ha =>
        have hl := dpAll_len ha
        refine ite2 (fun c => iteT (fin0 ?_)) (fun c => ?_)
        · have c' : md < 2 := of_decide_eq_true c
          cases hm : md.toNat with
          | zero => rfl
          | succ m =>
            have : m = 0 := by omega
            subst this
            unfold lmeas
            rw [if_neg (fun z => by cases z)]
            split
            · rename_i hc
              rw [if_pos]
              cases ds with
              | nil => cases hc
              | cons o ds =>
                cases ds with
                | nil => simp [isCd] at hc
                | cons d1 ds => exact List.mem_map.mpr ⟨d1, List.mem_cons_self .., rfl⟩
            · rfl
        · have c1 : ¬ md < 2 := of_decide_eq_false (Bool.eq_false_iff.mpr c)
          obtain ⟨m, em⟩ : ∃ m, md.toNat = m + 1 := ⟨md.toNat - 1, by omega⟩
          have em' : (md - 1).toNat = m := by omega
          refine ⟨_, rfl, _, _, .tuple ds, rfl, by decide, .tup hs ha, _, rfl, ?_⟩
          refine iteF ⟨_, rfl, _, _, rfl, .inr ⟨xs, hs, rfl⟩, _, _, rfl, rfl, _, rfl, ?_⟩
          have e0 : lmeas (m + 1) (.tuple ds) = if isCd (.tuple ds) = true then (if (0 : Int) ∈ (parts (.tuple ds)).map (lmeas m) then 0 else ((parts (.tuple ds)).map (lmeas m)).sum) else 0 := by
            show (if false = true then _ else _) = _
            rw [if_neg (fun z => by cases z)]
          rw [em, e0] at fin0
          rw [em, e0] at q
          cases ds with
          | nil =>
            cases ha
            exact iteT (iteT (fin0 rfl))
          | cons o ds =>
            cases ha with
            | @cons x0 xr _ _ h1 h2 =>
              have hl' := dpAll_len h2
              have ec : isCd (.tuple (o :: ds)) = (decide (2 ≤ ds.length) && isOp o) := rfl
              refine ite2 (fun c => iteT (fin0 ?_)) (fun c => ?_)
              · have c' : (((x0 :: xr).length : Nat) : Int) < 3 := of_decide_eq_true c
                rw [List.length_cons] at c'
                rw [ec, decide_eq_false (by omega), Bool.false_and, if_neg (fun z => by cases z)]
              · have c' : ¬ (((x0 :: xr).length : Nat) : Int) < 3 := of_decide_eq_false (Bool.eq_false_iff.mpr c)
                rw [List.length_cons] at c'
                rw [ec, decide_eq_true (by omega), Bool.true_and] at q fin0
                refine ⟨_, rfl, a, _, _, x0, rfl, rfl, hs, at0, (by show 2 ≤ sizeLine; decide), fun t nt => ?_⟩
                have st : Same H (upd H t (.tup [.str "&", .str "|"])) := same_upd nt
                refine ⟨o, [.str "&", .str "|"], dp_same st o x0 h1, .tup (SqT.of upd_same) (.cons (.str _) (.cons (.str _) .nil)), gd_shaped (gd_parts hg).1 (by decide), by decide +kernel, _, rfl, ?_⟩
                show if (!isOp o) = true then _ else _
                cases ho : isOp o with
                | false =>
                  refine iteT ?_
                  rw [ho] at fin0
                  have q' := q _ st
                  rw [ho, if_neg (fun z => by cases z)] at q'
                  exact q'
                | true =>
                  rw [ho, if_pos rfl] at q
                  refine iteF ⟨_, rfl, 1, rfl, a, x0 :: xr, rfl, same_seqT st hs, ?_, fun p np => ?_⟩
                  · rw [show HT.sIx (x0 :: xr).length 0 (some 1) = min 1 (x0 :: xr).length from HT.sIx_nat _ 0 1, List.length_cons]
                    omega
                  have ex : cutV (x0 :: xr) (some 1) none = xr := by rw [cut_drop1]; rfl
                  rw [ex]
                  have sp := same_upd (o := .tup xr) np
                  have gp := (gd_parts hg).2
                  refine ⟨p, rfl, ⟨_, SqT.of upd_same⟩, fun D nD => lc_tup (xs := xr) (fun i H1 => Same (upd (upd H t (.tup [.str "&", .str "|"])) p (.tup xr)) H1 ∧ H1 D = some (.lst (((ds.take i).map (lmeas m)).map V.int))) ?_ ?_ ?_ ?_⟩
                  · exact ⟨same_upd nD, by rw [upd_same]; rfl⟩
                  · rintro i H1 hi ⟨sm, e⟩
                    exact SqT.of (sm _ _ upd_same)
                  · rintro i x H1 hx ⟨sm, e⟩
                    obtain ⟨d', hd', hD'⟩ := dpAll_get h2 hx
                    have hDs : Dp K H1 x d' := dp_same (st.trans (sp.trans sm)) d' x hD'
                    refine ⟨rfl, ?_⟩
                    dsimp only [tYes]
                    rw [if_pos rfl]
                    refine ⟨_, rfl, _, rfl, _, _, rfl, rfl, x, d', md - 1, rfl, hDs, gd_le (gp d' (List.mem_of_getElem? hd')) (by decide), by omega, by omega, fun H2 s2 => ?_⟩
                    refine ⟨_, s2 _ _ e, ?_, ?_, ?_⟩
                    · rw [List.length_map, List.length_map, List.length_take]
                      have lds := (gd_tuple hg).1
                      rw [List.length_cons] at lds
                      exact small1000 (by omega)
                    · intro b o' eb
                      have bD : b ≠ D := ne_of_none eb nD
                      rw [upd_ne bD]
                      exact s2 _ _ (sm _ _ eb)
                    · rw [upd_same, List.take_add_one, hd', em']
                      simp
                  · rintro H1 ⟨sm, e⟩
                    have et : ds.take xr.length = ds := List.take_of_length_le (by omega)
                    rw [et] at e
                    have ep : parts (.tuple (o :: ds)) = ds := rfl
                    have q' := q H1 (st.trans (sp.trans sm))
                    rw [ep] at q'
                    refine ⟨_, rfl, D, _, rfl, .inl (SqL.of e), rfl, flat_ints _, _, rfl, ?_⟩
                    show if inV (.int 0) ((ds.map (lmeas m)).map V.int) = true then _ else _
                    rw [in_ints]
                    refine ite2 (fun c => ?_) (fun c => ?_)
                    · rw [if_pos (of_decide_eq_true c)] at q'
                      exact q'
                    · rw [if_neg (of_decide_eq_false (Bool.eq_false_iff.mpr c))] at q'
                      exact ⟨_, rfl, D, _, rfl, SqL.of e, q'⟩
    | none => exact iteF ⟨_, rfl, _, _, rfl, rfl, _, rfl, ite2 (fun c => iteT (fin1 rfl rfl)) fun c => ⟨_, rfl, _, _, _, rfl, by decide, hd, _, rfl, iteT (iteT (fin1 rfl rfl))⟩⟩
    | bool b => exact iteF ⟨_, rfl, _, _, rfl, rfl, _, rfl, ite2 (fun c => iteT (fin1 rfl rfl)) fun c => ⟨_, rfl, _, _, _, rfl, by decide, hd, _, rfl, iteT (iteT (fin1 rfl rfl))⟩⟩
    | int i => exact iteF ⟨_, rfl, _, _, rfl, rfl, _, rfl, ite2 (fun c => iteT (fin1 rfl rfl)) fun c => ⟨_, rfl, _, _, _, rfl, by decide, hd, _, rfl, iteT (iteT (fin1 rfl rfl))⟩⟩
    | list ds => exact iteF ⟨_, rfl, _, _, rfl, rfl, _, rfl, ite2 (fun c => iteT (fin1 rfl rfl)) fun c => ⟨_, rfl, _, _, _, rfl, by decide, hd, _, rfl, iteT (iteT (fin1 rfl rfl))⟩⟩
    | dict ds => cases hd
end
end Fv


namespace Fv
open PySem PySem.Spec PyProof.Rows L2
section
variable {P : Program} {w : World} {K : PySem.W.Frag} {mg : Str → Option Value} {base : Heap}
theorem measure_zero {f : Addr} {fd : FuncData} {k : Nat} : FnOk P w K mg base CX0 k f fd ["_law_word", "_law_deep"] (spMeasure K 0) := by
  have no : ∀ vs H Q E, ¬ spMeasure K 0 vs H Q E := fun vs H Q E h => by
    obtain ⟨v, d, md, _, _, _, m0, m1, _⟩ := h
    omega
  exact ⟨fun vs H Q E h => absurd h (no vs H Q E), fun A outer s H args us vs Q E _ _ _ _ h => absurd h (no vs H Q E)⟩
theorem same_zero {f : Addr} {fd : FuncData} {k : Nat} : FnOk P w K mg base CX0 k f fd ["_law_found", "_law_due"] (spSame K 0) := by
  have no : ∀ vs H Q E, ¬ spSame K 0 vs H Q E := fun vs H Q E h => by
    obtain ⟨v, v', d, m, _, _, _, m1, _⟩ := h
    omega
  exact ⟨fun vs H Q E h => absurd h (no vs H Q E), fun A outer s H args us vs Q E _ _ _ _ h => absurd h (no vs H Q E)⟩
theorem ok_fits {f : Addr} {fd : FuncData} {k : Nat} (F : Fun K "_law_fits" "_law_fits" s_law_fits f fd)
    (C_law_measure : Own P w K mg base k "_law_measure" ["_law_word", "_law_deep"] (spMeasure K 20)) :
    FnOk P w K mg base CX0 (k + 1) f fd ["_law_word"] (spFits K) := by
  refine F.ok sc_law_fits (fun vs H Q E h => ?_) (fun cdv A outer s H vs Q E hr h => ?_)
  · obtain ⟨v, d, rfl, _⟩ := h
    rfl
  · obtain ⟨v, d, rfl, hd, hg, q⟩ := h
    refine ⟨_, (pss_one (ps_ret (pe_chain op_le op_le pe_int (pe_own C_law_measure (hr.mono (by omega)) (by rfl) (pa_cons (pv 0) (pa_cons pe_int pa_nil))) pe_int))), ?_⟩
    refine ⟨_, rfl, v, d, 5, rfl, hd, hg, by decide, by decide, fun H' s' => ?_⟩
    have q' := q H' s'
    refine ⟨_, _, rfl, rfl, _, rfl, ?_⟩
    refine ite2 (fun c => ?_) (fun c => ?_)
    · refine ⟨_, _, rfl, rfl, ?_⟩
      rw [show decide ((1 : Int) ≤ lmeas 5 d) = true from c, Bool.true_and] at q'
      exact q'
    · rw [show decide ((1 : Int) ≤ lmeas 5 d) = false from Bool.eq_false_iff.mpr c, Bool.false_and] at q'
      exact q'
end
end Fv


namespace Fv
open PySem PySem.Spec PyProof.Rows L2 FvX TL
-- top 16  slots: 0:term 1:texts 2:part
abbrev s_term_text : Stmt := topS 16
abbrev N_term_text : List Str := ["term", "texts", "part"]
theorem sc_term_text : FnScope N_term_text ["term"] (defScope s_term_text) := ⟨rfl, rfl, rfl, by decide +kernel, rfl, by decide +kernel, by decide +kernel⟩

-- top 17  slots: 0:part 1:text
abbrev s_part_text : Stmt := topS 17
abbrev N_part_text : List Str := ["part", "text"]
theorem sc_part_text : FnScope N_part_text ["part"] (defScope s_part_text) := ⟨rfl, rfl, rfl, by decide +kernel, rfl, by decide +kernel, by decide +kernel⟩

-- top 32  slots: 0:_law_word 1:_law_texts 2:_law_one
abbrev s_law_text : Stmt := topS 32
abbrev N_law_text : List Str := ["_law_word", "_law_texts", "_law_one"]
theorem sc_law_text : FnScope N_law_text ["_law_word"] (defScope s_law_text) := ⟨rfl, rfl, rfl, by decide +kernel, rfl, by decide +kernel, by decide +kernel⟩

theorem one_len : (" " : Str).length = 1 := by decide +kernel
theorem op_len {o : Str} (h : o = "&" ∨ o = "|") : o.length = 1 := by rcases h with h | h <;> subst h <;> decide +kernel
theorem small_len {x : Str} {n : Nat} (h : x.length ≤ n) (hn : n ≤ 100000) : x.length ≤ sizeLine := Nat.le_trans h (Nat.le_trans hn (by decide))
theorem emp_app (x : Str) : Str.empty ++ x = x := ext_tl (by rw [tl_append]; rfl)
theorem sum_ptx {m : Nat} {ds : List PyData} (all1 : ∀ x ∈ ds, 1 ≤ lmeas m x) (h : (ds.map (lmeas m)).sum ≤ 1000) : ((ds.map ptx).map (·.length)).sum ≤ 8000 := by
  have hp : ((((ds.map ptx).map (·.length)).sum : Nat) : Int) ≤ 8 * (ds.map (lmeas m)).sum - 5 * ds.length := by
    rw [← sum_lin, List.map_map, sum_cast]
    refine sum_le fun x hx => ?_
    have := ptx_len (all1 x hx)
    show (((ptx x).length : Nat) : Int) ≤ _
    omega
  omega
theorem part_le {m : Nat} {ds : List PyData} {x : PyData} (hx : x ∈ ds) (h : (ds.map (lmeas m)).sum ≤ 1000) : lmeas m x ≤ 1000 := by
  have := mem_le_sum (l := ds.map (lmeas m)) (x := lmeas m x) (fun y hy => by
    obtain ⟨d', _, rfl⟩ := List.mem_map.mp hy
    exact lmeas_nonneg m d') (List.mem_map.mpr ⟨x, hx, rfl⟩)
  omega
section
variable {P : Program} {w : World} {K : PySem.W.Frag} {mg : Str → Option Value} {base : Heap}
theorem text_zero {f : Addr} {fd : FuncData} {k : Nat} {ps : List Str} : FnOk P w K mg base CX0 k f fd ps (spText K 0) := by
  have no : ∀ vs H Q E, ¬ spText K 0 vs H Q E := fun vs H Q E h => by
    obtain ⟨v, d, m, _, _, _, m1, _⟩ := h
    omega
  exact ⟨fun vs H Q E h => absurd h (no vs H Q E), fun A outer s H args us vs Q E _ _ _ _ h => absurd h (no vs H Q E)⟩
theorem ok_term_text {f : Addr} {fd : FuncData} {k n : Nat} (F : Fun K "term_text" "term_text" s_term_text f fd)
    (C_is_letter : Own P w K mg base 1 "is_letter" ["value"] (spIsLetter K)) (hk : 1 ≤ k)
    (C_part_text : Own P w K mg base k "part_text" ["part"] (spPart K n)) :
    FnOk P w K mg base CX0 (k + 1) f fd ["term"] (spText K (n + 1)) := by
  refine F.ok sc_term_text (fun vs H Q E h => ?_) (fun cdv A outer s H vs Q E hr h => ?_)
  · obtain ⟨v, d, m, rfl, _⟩ := h
    rfl
  · obtain ⟨v, d, m, rfl, hd, hg, hm, l1, l2, q⟩ := h
    refine ⟨_, (pss_cons (ps_if (pt_val (pe_own C_is_letter (hr.mono (by omega)) (by rfl) (pa_cons (pv 0) pa_nil)))
        (pss_one (ps_ret (pv 0)))
        pss_nil)
      (pss_cons (ps_setLc (i := 1) (own := [("part", 2)]) (g := gName 2) (by rfl) sc_term_text.nd rfl rfl (sw_true rfl rfl rfl (by decide +kernel)) (pi_tup (pe_slice sl_tup (pv 0) (po_some pe_int) po_none)) (blkOk_by (own := [("part", 2)]) (N := N_term_text) (sc := defScope s_term_text) (by decide +kernel)) (fun _ _ _ _ _ => pg_name (i := 2) sc_term_text.nd rfl (Or.inl rfl)) (fun _ _ _ _ _ => pts_nil) (fun _ _ _ _ _ => (pe_own C_part_text (hr.mono (by omega)) (by rfl) (pa_cons (pv 2) pa_nil))))
      (pss_one (ps_ret (pe_join (pe_joined (.cons pe_str (.cons (pe_fmt (pe_ix ix_tup (pv 0) pe_int (fun _ _ => rfl))) (.cons pe_str .nil)))) (pv 1)))))), ?_⟩
    cases m with
    | zero => simp only [lmeas] at l1; omega
    | succ m =>
    rcases lmeas_inv l1 with ⟨x, rfl, hx⟩ | ⟨o, ds, rfl, nl, ho, h2, all1, e⟩
    · cases hd
      refine ⟨_, rfl, _, _, rfl, .str x, hg, _, rfl, ?_⟩
      show if isL x = true then _ else _
      rw [if_pos hx]
      have q' := q H (Same.refl H)
      rw [txt_str] at q'
      exact ⟨_, rfl, q'⟩
    · rw [e] at l2
      cases hd with
      | @tup a xs _ hs ha =>
        cases ha with
        | @cons x0 xr _ _ h1 hA =>
        cases h1
        have hl := dpAll_len hA
        refine ⟨_, rfl, _, _, rfl, .tup hs (.cons (.str o) hA), hg, _, rfl, iteF ?_⟩
        refine ⟨_, rfl, 1, rfl, a, _, rfl, hs, ?_, fun p np => ?_⟩
        · rw [show HT.sIx (V.str o :: xr).length 0 (some 1) = min 1 (V.str o :: xr).length from HT.sIx_nat _ 0 1, List.length_cons]
          omega
        have ex : cutV (V.str o :: xr) (some 1) none = xr := by rw [cut_drop1]; rfl
        rw [ex]
        have sp := same_upd (o := .tup xr) np
        have gp := (gd_parts hg).2
        refine ⟨p, rfl, ⟨_, SqT.of upd_same⟩, fun D nD => lc_tup (xs := xr) (fun i H1 => Same (upd H p (.tup xr)) H1 ∧ H1 D = some (.lst (((ds.take i).map ptx).map V.str))) ?_ ?_ ?_ ?_⟩
        · exact ⟨same_upd nD, by rw [upd_same]; rfl⟩
        · rintro i H1 hi ⟨sm, e1⟩
          exact SqT.of (sm _ _ upd_same)
        · rintro i x H1 hx ⟨sm, e1⟩
          obtain ⟨d', hd', hD'⟩ := dpAll_get hA hx
          have hDs : Dp K H1 x d' := dp_same (sp.trans sm) d' x hD'
          have md : d' ∈ ds := List.mem_of_getElem? hd'
          refine ⟨rfl, ?_⟩
          dsimp only [tYes]
          rw [if_pos rfl]
          refine ⟨_, rfl, x, d', m, rfl, hDs, gd_le (gp d' md) (by decide), by omega, all1 d' md, part_le md l2, fun H2 s2 => ?_⟩
          refine ⟨_, s2 _ _ e1, ?_, ?_, ?_⟩
          · rw [List.length_map, List.length_map, List.length_take]
            have lds := (gd_tuple hg).1
            rw [List.length_cons] at lds
            exact small1000 (by omega)
          · intro b o' eb
            have bD : b ≠ D := ne_of_none eb nD
            rw [upd_ne bD]
            exact s2 _ _ (sm _ _ eb)
          · rw [upd_same, List.take_add_one, hd']
            simp
        · rintro H1 ⟨sm, e1⟩
          have et : ds.take xr.length = ds := List.take_of_length_le (by omega)
          rw [et] at e1
          have q' := q H1 (sp.trans sm)
          rw [txt_tup] at q'
          have ol := op_len ho
          refine ⟨_, rfl, ?_, _, rfl, a, _, _, _, rfl, rfl, same_seqT (sp.trans sm) hs, at0, .inl ⟨o, rfl, ?_, _, rfl, ?_, _, rfl, ?_, ⟨_, rfl⟩, _, rfl, _, D, ds.map ptx, rfl, rfl, .inl (SqL.of e1), ?_, ?_⟩⟩
          · rw [emp_app, one_len]; decide
          · rw [ol]; decide
          · rw [emp_app, len_app, one_len, ol]; decide
          · rw [emp_app, len_app, len_app, one_len, ol]; decide
          · rw [emp_app, sep_len ho, List.length_map]
            have := sum_ptx all1 l2
            have lds := (gd_tuple hg).1
            rw [List.length_cons] at lds
            omega
          · rw [emp_app]
            exact q'
theorem part_zero {f : Addr} {fd : FuncData} {k : Nat} {ps : List Str} : FnOk P w K mg base CX0 k f fd ps (spPart K 0) := by
  have no : ∀ vs H Q E, ¬ spPart K 0 vs H Q E := fun vs H Q E h => by
    obtain ⟨v, d, m, _, _, _, m1, _⟩ := h
    omega
  exact ⟨fun vs H Q E h => absurd h (no vs H Q E), fun A outer s H args us vs Q E _ _ _ _ h => absurd h (no vs H Q E)⟩
theorem ok_part_text {f : Addr} {fd : FuncData} {k n : Nat} (F : Fun K "part_text" "part_text" s_part_text f fd)
    (C_is_letter : Own P w K mg base 1 "is_letter" ["value"] (spIsLetter K)) (hk : 1 ≤ k)
    (C_term_text : Own P w K mg base k "term_text" ["term"] (spText K n)) :
    FnOk P w K mg base CX0 (k + 1) f fd ["part"] (spPart K n) := by
  refine F.ok sc_part_text (fun vs H Q E h => ?_) (fun cdv A outer s H vs Q E hr h => ?_)
  · obtain ⟨v, d, m, rfl, _⟩ := h
    rfl
  · obtain ⟨v, d, m, rfl, hd, hg, hm, l1, l2, q⟩ := h
    refine ⟨_, (pss_cons (ps_set (i := 1) sc_part_text.nd rfl (by first | exact .inl rfl | exact .inr rfl) (pe_own C_term_text (hr.mono (by omega)) (by rfl) (pa_cons (pv 0) pa_nil)))
      (pss_one (ps_ret (pe_ifExp (pt_val (pe_own C_is_letter (hr.mono (by omega)) (by rfl) (pa_cons (pv 0) pa_nil))) (pv 1) (pe_joined (.cons pe_str (.cons (pe_fmt (pv 1)) (.cons pe_str .nil)))))))), ?_⟩
    refine ⟨_, rfl, v, d, m, rfl, hd, hg, hm, l1, l2, fun H1 s1 => ?_⟩
    have q' := q H1 s1
    have tl8 := txt_len m d l1
    refine ⟨_, rfl, v, d, rfl, dp_same s1 d v hd, hg, _, rfl, ?_⟩
    unfold ptx at q'
    by_cases c : isLd d = true
    · rw [if_pos c] at q' ⊢
      exact ⟨_, rfl, q'⟩
    · rw [if_neg c] at q' ⊢
      have e1 : ("(" : Str).length = 1 := by decide +kernel
      have pl := par_len (txt d)
      have fit : ∀ n : Nat, n ≤ 8002 → n ≤ sizeLine := fun n h => Nat.le_trans h (by decide)
      refine ⟨_, rfl, ?_, _, rfl, .inl ⟨_, rfl, fit _ (by omega), _, rfl, ?_, _, rfl, ?_, ?_⟩⟩
      · rw [emp_app, e1]; decide
      · rw [emp_app, len_app, e1]; exact fit _ (by omega)
      · rw [emp_app, pl]; exact fit _ (by omega)
      · rw [emp_app]; exact q'
theorem isLd_str {m : Nat} {x : Str} (h : 1 ≤ lmeas m (.str x)) : isL x = true := by
  cases m with
  | zero => simp only [lmeas] at h; omega
  | succ m =>
    rcases lmeas_inv h with ⟨y, e, hy⟩ | ⟨o, ds, e, _⟩
    · cases e; exact hy
    · cases e
theorem ok_law_text {f : Addr} {fd : FuncData} {k n : Nat} (F : Fun K "_law_text" "_law_text" s_law_text f fd) (m_isinstance : mg "isinstance" = none) (m_str : mg "str" = none)
    (C_law_text : Own P w K mg base k "_law_text" ["_law_word"] (spText K n)) :
    FnOk P w K mg base CX0 (k + 1) f fd ["_law_word"] (spText K (n + 1)) := by
  refine F.ok sc_law_text (fun vs H Q E h => ?_) (fun cdv A outer s H vs Q E hr h => ?_)
  · obtain ⟨v, d, m, rfl, _⟩ := h
    rfl
  · obtain ⟨v, d, m, rfl, hd, hg, hm, l1, l2, q⟩ := h
    refine ⟨_, (pss_cons (ps_if (pt_val (pe_isD (T := "str") (by rfl) m_isinstance (by rfl) m_str (pv 0)))
        (pss_one (ps_ret (pv 0)))
        pss_nil)
      (pss_cons (ps_setLc (i := 1) (own := [("_law_one", 2)]) (g := gName 2) (by rfl) sc_law_text.nd rfl rfl (sw_true rfl rfl rfl (by decide +kernel)) (pi_tup (pe_slice sl_tup (pv 0) (po_some pe_int) po_none)) (blkOk_by (own := [("_law_one", 2)]) (N := N_law_text) (sc := defScope s_law_text) (by decide +kernel)) (fun _ _ _ _ _ => pg_name (i := 2) sc_law_text.nd rfl (Or.inl rfl)) (fun _ _ _ _ _ => pts_nil) (fun _ _ _ _ _ => (pe_ifExp (pt_val (pe_isDc (K := K) (T := "str") rfl (by rfl) m_isinstance (by rfl) m_str (pv 2))) (pv 2) (pe_op op_add_str (pe_op op_add_str pe_str (pe_own C_law_text (hr.mono (by omega)) (by rfl) (pa_cons (pv 2) pa_nil))) pe_str))))
      (pss_one (ps_ret (pe_join (pe_op op_add_str (pe_op op_add_str pe_str (pe_ix ix_tup (pv 0) pe_int (fun _ _ => rfl))) pe_str) (pv 1)))))), ?_⟩
    cases m with
    | zero => simp only [lmeas] at l1; omega
    | succ m =>
    have fit : ∀ n : Nat, n ≤ 8010 → n ≤ sizeLine := fun n h => Nat.le_trans h (by decide)
    have e1 : ("(" : Str).length = 1 := by decide +kernel
    have e2 : (")" : Str).length = 1 := by decide +kernel
    rcases lmeas_inv l1 with ⟨x, rfl, hx⟩ | ⟨o, ds, rfl, nl, ho, h2, all1, e⟩
    · cases hd
      have q' := q H (Same.refl H)
      rw [txt_str] at q'
      exact ⟨_, rfl, _, _, _, rfl, by decide, .str x, _, rfl, iteT ⟨_, rfl, q'⟩⟩
    · rw [e] at l2
      cases hd with
      | @tup a xs _ hs ha =>
        cases ha with
        | @cons x0 xr _ _ h1 hA =>
        cases h1
        have hl := dpAll_len hA
        refine ⟨_, rfl, _, _, .tuple (.str o :: ds), rfl, by decide, .tup hs (.cons (.str o) hA), _, rfl, iteF ?_⟩
        refine ⟨_, rfl, 1, rfl, a, _, rfl, hs, ?_, fun p np => ?_⟩
        · rw [show HT.sIx (V.str o :: xr).length 0 (some 1) = min 1 (V.str o :: xr).length from HT.sIx_nat _ 0 1, List.length_cons]
          omega
        have ex : cutV (V.str o :: xr) (some 1) none = xr := by rw [cut_drop1]; rfl
        rw [ex]
        have sp := same_upd (o := .tup xr) np
        have gp := (gd_parts hg).2
        refine ⟨p, rfl, ⟨_, SqT.of upd_same⟩, fun D nD => lc_tup (xs := xr) (fun i H1 => Same (upd H p (.tup xr)) H1 ∧ H1 D = some (.lst (((ds.take i).map ptx).map V.str))) ?_ ?_ ?_ ?_⟩
        · exact ⟨same_upd nD, by rw [upd_same]; rfl⟩
        · rintro i H1 hi ⟨sm, e1⟩
          exact SqT.of (sm _ _ upd_same)
        · rintro i x H1 hx ⟨sm, e1'⟩
          obtain ⟨d', hd', hD'⟩ := dpAll_get hA hx
          have hDs : Dp K H1 x d' := dp_same (sp.trans sm) d' x hD'
          have md : d' ∈ ds := List.mem_of_getElem? hd'
          have fin : ∀ H2, Same H1 H2 → ∃ xs, H2 D = some (.lst xs) ∧ xs.length + 1 ≤ sizeLine ∧ (Same (upd H p (.tup xr)) (upd H2 D (.lst (xs ++ [V.str (ptx d')]))) ∧ upd H2 D (.lst (xs ++ [V.str (ptx d')])) D = some (.lst (((ds.take (i + 1)).map ptx).map V.str))) := fun H2 s2 => by
            refine ⟨_, s2 _ _ e1', ?_, ?_, ?_⟩
            · rw [List.length_map, List.length_map, List.length_take]
              have lds := (gd_tuple hg).1
              rw [List.length_cons] at lds
              exact small1000 (by omega)
            · intro b o' eb
              have bD : b ≠ D := ne_of_none eb nD
              rw [upd_ne bD]
              exact s2 _ _ (sm _ _ eb)
            · rw [upd_same, List.take_add_one, hd']
              simp
          refine ⟨rfl, ?_⟩
          dsimp only [tYes]
          rw [if_pos rfl]
          by_cases c : isLd d' = true
          · cases d' with
            | str z =>
              cases hDs
              refine ⟨_, rfl, _, _, .str z, rfl, by decide, .str z, _, rfl, iteT ⟨_, rfl, ?_⟩⟩
              have ez : ptx (.str z) = z := by unfold ptx; rw [if_pos c, txt_str]
              have f2 := fin H1 (Same.refl H1)
              rw [ez] at f2
              exact f2
            | _ => cases c
          · have nb : isB (tyN d') "str" = false := by
              cases m with
              | zero => have := all1 d' md; simp only [lmeas] at this; omega
              | succ m =>
                rcases lmeas_inv (all1 d' md) with ⟨y, rfl, hy⟩ | ⟨o', ds', rfl, _⟩
                · exact absurd hy c
                · rfl
            refine ⟨_, rfl, _, _, d', rfl, by decide, hDs, _, rfl, ?_⟩
            rw [nb]
            have t8 := txt_len m d' (all1 d' md)
            have t9 := part_le md l2
            refine iteF ⟨_, rfl, x, d', m, rfl, hDs, gd_le (gp d' md) (by decide), by omega, all1 d' md, t9, fun H2 s2 => ⟨_, _, rfl, rfl, fit _ (by omega), _, _, rfl, rfl, fit _ (by rw [len_app]; omega), ?_⟩⟩
            have ez : ptx d' = "(" ++ txt d' ++ ")" := by unfold ptx; rw [if_neg c]
            have f2 := fin H2 s2
            rw [ez] at f2
            exact f2
        · rintro H1 ⟨sm, e1'⟩
          have et : ds.take xr.length = ds := List.take_of_length_le (by omega)
          rw [et] at e1'
          have q' := q H1 (sp.trans sm)
          rw [txt_tup] at q'
          have ol := op_len ho
          refine ⟨_, rfl, a, _, _, _, rfl, rfl, same_seqT (sp.trans sm) hs, at0, _, _, rfl, rfl, ?_, _, _, rfl, rfl, ?_, ⟨_, rfl⟩, _, rfl, _, D, ds.map ptx, rfl, rfl, .inl (SqL.of e1'), ?_, q'⟩
          · rw [one_len, ol]; decide
          · rw [len_app, one_len, ol]; decide
          · rw [sep_len ho, List.length_map]
            have := sum_ptx all1 l2
            have lds := (gd_tuple hg).1
            rw [List.length_cons] at lds
            omega
end
end Fv


namespace Fv
open PySem PySem.Spec PyProof.Rows L2 FvX TL


-- top 33  slots: 0:_law_word 1:_law_one
abbrev s_law_turned : Stmt := topS 33
abbrev N_law_turned : List Str := ["_law_word", "_law_one"]
theorem sc_law_turned : FnScope N_law_turned ["_law_word"] (defScope s_law_turned) := ⟨rfl, rfl, rfl, by decide +kernel, rfl, by decide +kernel, by decide +kernel⟩

-- top 34  slots: 0:_law_word 1:_law_table 2:_law_one
abbrev s_law_swap : Stmt := topS 34
abbrev N_law_swap : List Str := ["_law_word", "_law_table", "_law_one"]
theorem sc_law_swap : FnScope N_law_swap ["_law_word", "_law_table"] (defScope s_law_swap) := ⟨rfl, rfl, rfl, by decide +kernel, rfl, by decide +kernel, by decide +kernel⟩

/-! ### turned terms, terms with letters replaced -/
def opT (o : Str) : Str := if o = "&" then "|" else "&"
def tnd : Nat → PyData → PyData
  | 0, d => d
  | m + 1, .tuple (.str o :: ds) => .tuple (.str (opT o) :: ds.map (tnd m))
  | _ + 1, d => d
def swp (f : Str → Option PyData) : Nat → PyData → PyData
  | 0, d => d
  | _ + 1, .str x => (f x).getD (.str x)
  | m + 1, .tuple (.str o :: ds) => .tuple (.str o :: ds.map (swp f m))
  | _ + 1, d => d
/-- the table at kvs: f -/
def tabOf (K : PySem.W.Frag) (H : Hp) (kvs : List (Key × V)) (f : Str → Option PyData) : Prop := ∀ x, (f x = none ∧ valV kvs (.inr x) = none) ∨ ∃ e u, f x = some e ∧ valV kvs (.inr x) = some u ∧ Dp K H u e
theorem tabOf.same {K : PySem.W.Frag} {H H' : Hp} {kvs : List (Key × V)} {f : Str → Option PyData} (h : tabOf K H kvs f) (s : Same H H') : tabOf K H' kvs f := fun x => by
  rcases h x with z | ⟨e, u, h1, h2, h3⟩
  · exact .inl z
  · exact .inr ⟨e, u, h1, h2, dp_same s _ _ h3⟩
def spTnd (K : PySem.W.Frag) (n : Nat) : Sp := fun vs H Q _ => ∃ (v : V) (d : PyData) (m : Nat) (M : List Addr), vs = [v] ∧ Dp K H v d ∧ gd 20 d = true ∧ m < n ∧ 1 ≤ lmeas m d ∧ Trk M H ∧
  ∀ H' v', Same H H' → Dp K (hide M H') v' (tnd m d) → Q v' H'
def spSwp (K : PySem.W.Frag) (n : Nat) : Sp := fun vs H Q _ => ∃ (v : V) (c : Addr) (d : PyData) (m : Nat) (M : List Addr) (kvs : List (Key × V)) (f : Str → Option PyData), vs = [v, .ref c] ∧ Dp K H v d ∧ gd 20 d = true ∧ m < n ∧ 1 ≤ lmeas m d ∧ Trk M H ∧
  H c = some (.dK kvs) ∧ tabOf K (hide M H) kvs f ∧ ∀ H' v', Same H H' → Dp K (hide M H') v' (swp f m d) → Q v' H'
theorem hid_more {M : List Addr} {H H1 : Hp} {D : Addr} (nD : H D = none) (s : Same H H1) : Same (hide M H) (hide (D :: M) H1) := fun b o e => by
  obtain ⟨nb, e⟩ := hide_some e
  have bD : b ≠ D := ne_of_none e nD
  rw [hide_ne (fun z => by
    rcases List.mem_cons.mp z with z | z
    · exact bD z
    · exact nb z)]
  exact s _ _ e
theorem hid_less {M : List Addr} {H H1 : Hp} {D : Addr} (s : Same H H1) : Same (hide (D :: M) H) (hide M H1) := (hide_sub fun b hb => List.mem_cons_of_mem _ hb).trans (SmX.of_same s).hid
theorem trk_cons {M : List Addr} {H H1 : Hp} {D : Addr} {o : HO} (t : Trk M H) (s : Same H H1) (e : H1 D = some o) : Trk (D :: M) H1 := fun b hb => by
  rcases List.mem_cons.mp hb with z | z
  · rw [z]; exact ⟨_, e⟩
  · exact t.same s b z
theorem amp_dec (o : Str) : decide (V.str o = V.str "&") = decide (o = "&") := by
  rw [Bool.eq_iff_iff, decide_eq_true_eq, decide_eq_true_eq]
  exact ⟨V.str.inj, congrArg V.str⟩
theorem ifC {b : Bool} {x y : Str} {σ : L2.St} {H : Hp} {Q : VK} (h : Q (.str (if b = true then x else y)) H) : if b = true then tC (.str x) σ H Q else tC (.str y) σ H Q := by
  cases b <;> exact h
theorem opT_eq (o : Str) : (if decide (o = "&") = true then ("|" : Str) else "&") = opT o := by
  unfold opT
  by_cases e : o = "&"
  · rw [if_pos e, if_pos (decide_eq_true e)]
  · rw [if_neg e, if_neg (fun z => e (of_decide_eq_true z))]
section
variable {P : Program} {w : World} {K : PySem.W.Frag} {mg : Str → Option Value} {base : Heap}
theorem tnd_zero {f : Addr} {fd : FuncData} {k : Nat} {ps : List Str} : FnOk P w K mg base CX0 k f fd ps (spTnd K 0) := by
  have no : ∀ vs H Q E, ¬ spTnd K 0 vs H Q E := fun vs H Q E h => by
    obtain ⟨v, d, m, M, _, _, _, h, _⟩ := h
    omega
  exact ⟨fun vs H Q E h => absurd h (no vs H Q E), fun A outer s H args us vs Q E _ _ _ _ h => absurd h (no vs H Q E)⟩
theorem swp_zero {f : Addr} {fd : FuncData} {k : Nat} {ps : List Str} : FnOk P w K mg base CX0 k f fd ps (spSwp K 0) := by
  have no : ∀ vs H Q E, ¬ spSwp K 0 vs H Q E := fun vs H Q E h => by
    obtain ⟨v, c, d, m, M, kvs, f, _, _, _, h, _⟩ := h
    omega
  exact ⟨fun vs H Q E h => absurd h (no vs H Q E), fun A outer s H args us vs Q E _ _ _ _ h => absurd h (no vs H Q E)⟩
theorem ok_lturned {f : Addr} {fd : FuncData} {k n : Nat} (F : Fun K "_law_turned" "_law_turned" s_law_turned f fd) (m_isinstance : mg "isinstance" = none) (m_str : mg "str" = none) (m_tuple : mg "tuple" = none) (m_int : mg "int" = none)
    (C_law_turned : Own P w K mg base k "_law_turned" ["_law_word"] (spTnd K n)) :
    FnOk P w K mg base CX0 (k + 1) f fd ["_law_word"] (spTnd K (n + 1)) := by
  refine F.ok sc_law_turned (fun vs H Q E h => ?_) (fun cdv A outer s H vs Q E hr h => ?_)
  · obtain ⟨v, d, m, M, rfl, _⟩ := h
    rfl
  · obtain ⟨v, d, m, M, rfl, hd, hg, hm, l1, tM, q⟩ := h
    refine ⟨_, (pss_cons (ps_if (pt_val (pe_isD (T := "str") (by rfl) m_isinstance (by rfl) m_str (pv 0)))
        (pss_one (ps_ret (pv 0)))
        pss_nil)
      (pss_one (ps_ret (pe_callTy call_tuple_of (by rfl) m_tuple (by decide +kernel) (pa_cons (pe_op op_cat (pe_lst (pa_cons (pe_ix ix_list (pe_lst (pa_cons pe_str (pa_cons pe_str pa_nil))) (pe_callTy call_int1 (by rfl) m_int (by decide +kernel) (pa_cons (pe_cmpR op_eq (pe_ix ix_tup (pv 0) pe_int (fun _ _ => rfl)) pe_str (nomark _)) pa_nil)) (fun _ _ => rfl)) pa_nil)) (pe_lc (own := [("_law_one", 1)]) (g := gName 1) (by rfl) sc_law_turned.nd (pi_tup (pe_slice sl_tup (pv 0) (po_some pe_int) po_none)) (blkOk_by (own := [("_law_one", 1)]) (N := N_law_turned) (sc := defScope s_law_turned) (by decide +kernel)) (fun _ _ _ _ _ => pg_name (i := 1) sc_law_turned.nd rfl (Or.inl rfl)) (fun _ _ _ _ _ => pts_nil) (fun _ _ _ _ _ => (pe_own C_law_turned (hr.mono (by omega)) (by rfl) (pa_cons (pv 1) pa_nil))))) pa_nil))))), ?_⟩
    cases m with
    | zero => simp only [lmeas] at l1; omega
    | succ m =>
    rcases lmeas_inv l1 with ⟨x, rfl, hx⟩ | ⟨o, ds, rfl, nl, ho, h2, all1, e⟩
    · cases hd
      exact ⟨_, rfl, _, _, _, rfl, by decide, .str x, _, rfl, iteT ⟨_, rfl, q H _ (Same.refl H) (.str x)⟩⟩
    · cases hd with
      | @tup a xs _ hs ha =>
        cases ha with
        | @cons x0 xr _ _ h1 hA =>
        cases h1
        have hl := dpAll_len hA
        have lds := (gd_tuple hg).1
        rw [List.length_cons] at lds
        refine ⟨_, rfl, _, _, .tuple (.str o :: ds), rfl, by decide, .tup hs (.cons (.str o) hA), _, rfl, iteF ?_⟩
        refine ⟨(by show 2 ≤ sizeLine; decide), fun l nl2 => ?_⟩
        have sl := same_upd (o := .lst [.str "&", .str "|"]) nl2
        refine ⟨_, rfl, a, _, _, _, rfl, rfl, same_seqT sl hs, at0, rfl, .inr ⟨_, rfl, ?_⟩⟩
        rw [amp_dec]
        refine ⟨l, _, _, .str (opT o), rfl, rfl, SqL.of upd_same, ?_, (by show 1 ≤ sizeLine; decide), fun o1 no1 => ?_⟩
        · unfold opT
          by_cases c : o = "&"
          · rw [if_pos c, decide_eq_true c]; rfl
          · rw [if_neg c, decide_eq_false c]; rfl
        have so := same_upd (o := .lst [.str (opT o)]) no1
        refine ⟨_, rfl, 1, rfl, a, _, rfl, same_seqT (sl.trans so) hs, ?_, fun p np => ?_⟩
        · rw [show HT.sIx (V.str o :: xr).length 0 (some 1) = min 1 (V.str o :: xr).length from HT.sIx_nat _ 0 1, List.length_cons]
          omega
        have ex : cutV (V.str o :: xr) (some 1) none = xr := by rw [cut_drop1]; rfl
        rw [ex]
        have sp := same_upd (o := .tup xr) np
        have gp := (gd_parts hg).2
        refine ⟨p, rfl, ⟨_, SqT.of upd_same⟩, fun D nD => lc_tup (xs := xr) (fun i H1 => Same (upd (upd (upd H l (.lst [.str "&", .str "|"])) o1 (.lst [.str (opT o)])) p (.tup xr)) H1 ∧ ∃ acc, H1 D = some (.lst acc) ∧ acc.length = i ∧ DpAll K (hide (D :: M) H1) acc ((ds.take i).map (tnd m))) ?_ ?_ ?_ ?_⟩
        · exact ⟨same_upd nD, [], upd_same, rfl, .nil⟩
        · rintro i H1 hi ⟨sm, acc, e1, la, hda⟩
          exact SqT.of (sm _ _ upd_same)
        · rintro i x H1 hx ⟨sm, acc, e1, la, hda⟩
          obtain ⟨d', hd', hD'⟩ := dpAll_get hA hx
          have sH1 : Same H H1 := (sl.trans so).trans (sp.trans sm)
          have nDH : H D = none := by
            cases z : H D with
            | none => rfl
            | some o' => have := ((sl.trans so).trans sp) _ _ z; rw [nD] at this; cases this
          have hDs : Dp K H1 x d' := dp_same sH1 d' x hD'
          have md : d' ∈ ds := List.mem_of_getElem? hd'
          have li : i < xr.length := by
            rcases Nat.lt_or_ge i xr.length with z | z
            · exact z
            · rw [List.getElem?_eq_none z] at hx; cases hx
          refine ⟨rfl, ?_⟩
          dsimp only [tYes]
          rw [if_pos rfl]
          refine ⟨_, rfl, x, d', m, D :: M, rfl, hDs, gd_le (gp d' md) (by decide), by omega, all1 d' md, trk_cons tM sH1 e1, fun H2 v' s2 hv' => ?_⟩
          refine ⟨_, s2 _ _ e1, small1000 (by omega), fun b o' eb => ?_, acc ++ [v'], upd_same, by rw [List.length_append, la]; rfl, ?_⟩
          · rw [upd_ne (ne_of_none eb nD)]
            exact s2 _ _ (sm _ _ eb)
          · have hp2 : Same (hide (D :: M) H2) (hide (D :: M) (upd H2 D (.lst (acc ++ [v'])))) := (SmX.put (SmX.refl _ _) (List.mem_cons_self ..)).hid
            have e3 : (ds.take (i + 1)).map (tnd m) = (ds.take i).map (tnd m) ++ [tnd m d'] := by
              rw [List.take_add_one, hd']
              simp
            rw [e3]
            exact dpAll_app (dpAll_same ((SmX.of_same s2).hid.trans hp2) _ _ hda) (.cons (dp_same hp2 _ _ hv') .nil)
        · rintro H1 ⟨sm, acc, e1, la, hda⟩
          have sH1 : Same H H1 := (sl.trans so).trans (sp.trans sm)
          have et : ds.take xr.length = ds := List.take_of_length_le (by omega)
          rw [et] at hda
          have ho1 : H1 o1 = some (.lst [.str (opT o)]) := (sp.trans sm) _ _ upd_same
          refine ⟨o1, D, _, _, rfl, rfl, ho1, e1, ?_, fun cc ncc => ?_⟩
          · exact le1000 (by show 1 + _ ≤ 1000; omega)
          have sc := same_upd (o := .lst ([.str (opT o)] ++ acc)) ncc
          refine ⟨cc, _, rfl, .inl ⟨SqL.of upd_same, fun p2 np2 => ?_⟩⟩
          have s2 := same_upd (o := .tup ([.str (opT o)] ++ acc)) np2
          have tM1 : Trk M (upd H1 cc (.lst ([.str (opT o)] ++ acc))) := (tM.same sH1).same sc
          refine q _ (.ref p2) ((sH1.trans sc).trans s2) ?_
          show Dp K _ _ (.tuple (.str (opT o) :: ds.map (tnd m)))
          exact .tup (SqT.of (hid_at tM1 np2)) (.cons (.str _) (dpAll_same (hid_less (sc.trans s2)) _ _ hda))
theorem ok_lswap {f : Addr} {fd : FuncData} {k n : Nat} (F : Fun K "_law_swap" "_law_swap" s_law_swap f fd) (m_isinstance : mg "isinstance" = none) (m_str : mg "str" = none) (m_tuple : mg "tuple" = none)
    (C_law_swap : Own P w K mg base k "_law_swap" ["_law_word", "_law_table"] (spSwp K n)) :
    FnOk P w K mg base CX0 (k + 1) f fd ["_law_word", "_law_table"] (spSwp K (n + 1)) := by
  refine F.ok sc_law_swap (fun vs H Q E h => ?_) (fun cdv A outer s H vs Q E hr h => ?_)
  · obtain ⟨v, c, d, m, M, kvs, g, rfl, _⟩ := h
    rfl
  · obtain ⟨v, c, d, m, M, kvs, g, rfl, hd, hg, hm, l1, tM, hc, ht, q⟩ := h
    refine ⟨_, (pss_cons (ps_if (pt_val (pe_isD (T := "str") (by rfl) m_isinstance (by rfl) m_str (pv 0)))
        (pss_one (ps_ret (pe_ifExp (pt_cmp (pc_din (hu_of hr) (pv 0) (pv 1))) (pe_dget (hu_of hr) (pv 1) (pv 0) (fun _ _ => rfl)) (pv 0))))
        pss_nil)
      (pss_one (ps_ret (pe_callTy call_tuple_of (by rfl) m_tuple (by decide +kernel) (pa_cons (pe_op op_cat (pe_lst (pa_cons (pe_ix ix_tup (pv 0) pe_int (fun _ _ => rfl)) pa_nil)) (pe_lc (own := [("_law_one", 2)]) (g := gName 2) (by rfl) sc_law_swap.nd (pi_tup (pe_slice sl_tup (pv 0) (po_some pe_int) po_none)) (blkOk_by (own := [("_law_one", 2)]) (N := N_law_swap) (sc := defScope s_law_swap) (by decide +kernel)) (fun _ _ _ _ _ => pg_name (i := 2) sc_law_swap.nd rfl (Or.inl rfl)) (fun _ _ _ _ _ => pts_nil) (fun _ _ _ _ _ => (pe_own C_law_swap (hr.mono (by omega)) (by rfl) (pa_cons (pv 2) (pa_cons (pv 1) pa_nil)))))) pa_nil))))), ?_⟩
    cases m with
    | zero => simp only [lmeas] at l1; omega
    | succ m =>
    rcases lmeas_inv l1 with ⟨x, rfl, hx⟩ | ⟨o, ds, rfl, nl, ho, h2, all1, e⟩
    · cases hd
      refine ⟨_, rfl, _, _, _, rfl, by decide, .str x, _, rfl, iteT ?_⟩
      have q' := q H
      have z := DGet.k (k := Sum.inr x) hc
      refine ⟨_, rfl, _, rfl, c, _, rfl, z, _, rfl, ?_⟩
      rcases ht x with ⟨h1, h2⟩ | ⟨e', u, h1, h2, h3⟩
      · rw [h2]
        refine iteF ⟨_, rfl, q' _ (Same.refl H) ?_⟩
        show Dp K _ _ ((g x).getD (.str x))
        rw [h1]
        exact .str x
      · rw [h2] at z ⊢
        refine iteT ⟨_, rfl, _, rfl, c, _, rfl, z, q' _ (Same.refl H) ?_⟩
        show Dp K _ _ ((g x).getD (.str x))
        rw [h1]
        exact h3
    · cases hd with
      | @tup a xs _ hs ha =>
        cases ha with
        | @cons x0 xr _ _ h1 hA =>
        cases h1
        have hl := dpAll_len hA
        have lds := (gd_tuple hg).1
        rw [List.length_cons] at lds
        refine ⟨_, rfl, _, _, .tuple (.str o :: ds), rfl, by decide, .tup hs (.cons (.str o) hA), _, rfl, iteF ?_⟩
        refine ⟨_, rfl, a, _, _, _, rfl, rfl, hs, at0, (by show 1 ≤ sizeLine; decide), fun o1 no1 => ?_⟩
        have so := same_upd (o := .lst [.str o]) no1
        refine ⟨_, rfl, 1, rfl, a, _, rfl, same_seqT so hs, ?_, fun p np => ?_⟩
        · rw [show HT.sIx (V.str o :: xr).length 0 (some 1) = min 1 (V.str o :: xr).length from HT.sIx_nat _ 0 1, List.length_cons]
          omega
        have ex : cutV (V.str o :: xr) (some 1) none = xr := by rw [cut_drop1]; rfl
        rw [ex]
        have sp := same_upd (o := .tup xr) np
        have gp := (gd_parts hg).2
        refine ⟨p, rfl, ⟨_, SqT.of upd_same⟩, fun D nD => lc_tup (xs := xr) (fun i H1 => Same (upd (upd H o1 (.lst [.str o])) p (.tup xr)) H1 ∧ ∃ acc, H1 D = some (.lst acc) ∧ acc.length = i ∧ DpAll K (hide (D :: M) H1) acc ((ds.take i).map (swp g m))) ?_ ?_ ?_ ?_⟩
        · exact ⟨same_upd nD, [], upd_same, rfl, .nil⟩
        · rintro i H1 hi ⟨sm, acc, e1, la, hda⟩
          exact SqT.of (sm _ _ upd_same)
        · rintro i x H1 hx ⟨sm, acc, e1, la, hda⟩
          obtain ⟨d', hd', hD'⟩ := dpAll_get hA hx
          have sH1 : Same H H1 := so.trans (sp.trans sm)
          have nDH : H D = none := by
            cases z : H D with
            | none => rfl
            | some o' => have := (so.trans sp) _ _ z; rw [nD] at this; cases this
          have hDs : Dp K H1 x d' := dp_same sH1 d' x hD'
          have md : d' ∈ ds := List.mem_of_getElem? hd'
          have li : i < xr.length := by
            rcases Nat.lt_or_ge i xr.length with z | z
            · exact z
            · rw [List.getElem?_eq_none z] at hx; cases hx
          refine ⟨rfl, ?_⟩
          dsimp only [tYes]
          rw [if_pos rfl]
          refine ⟨_, rfl, _, rfl, x, c, d', m, D :: M, kvs, g, rfl, hDs, gd_le (gp d' md) (by decide), by omega, all1 d' md, trk_cons tM sH1 e1, sH1 _ _ hc, ht.same (hid_more nDH sH1), fun H2 v' s2 hv' => ?_⟩
          refine ⟨_, s2 _ _ e1, small1000 (by omega), fun b o' eb => ?_, acc ++ [v'], upd_same, by rw [List.length_append, la]; rfl, ?_⟩
          · rw [upd_ne (ne_of_none eb nD)]
            exact s2 _ _ (sm _ _ eb)
          · have hp2 : Same (hide (D :: M) H2) (hide (D :: M) (upd H2 D (.lst (acc ++ [v'])))) := (SmX.put (SmX.refl _ _) (List.mem_cons_self ..)).hid
            have e3 : (ds.take (i + 1)).map (swp g m) = (ds.take i).map (swp g m) ++ [swp g m d'] := by
              rw [List.take_add_one, hd']
              simp
            rw [e3]
            exact dpAll_app (dpAll_same ((SmX.of_same s2).hid.trans hp2) _ _ hda) (.cons (dp_same hp2 _ _ hv') .nil)
        · rintro H1 ⟨sm, acc, e1, la, hda⟩
          have sH1 : Same H H1 := so.trans (sp.trans sm)
          have et : ds.take xr.length = ds := List.take_of_length_le (by omega)
          rw [et] at hda
          have ho1 : H1 o1 = some (.lst [.str o]) := (sp.trans sm) _ _ upd_same
          refine ⟨o1, D, _, _, rfl, rfl, ho1, e1, ?_, fun cc ncc => ?_⟩
          · exact le1000 (by show 1 + _ ≤ 1000; omega)
          have sc := same_upd (o := .lst ([.str o] ++ acc)) ncc
          refine ⟨cc, _, rfl, .inl ⟨SqL.of upd_same, fun p2 np2 => ?_⟩⟩
          have s2 := same_upd (o := .tup ([.str o] ++ acc)) np2
          have tM1 : Trk M (upd H1 cc (.lst ([.str o] ++ acc))) := (tM.same sH1).same sc
          refine q _ (.ref p2) ((sH1.trans sc).trans s2) ?_
          show Dp K _ _ (.tuple (.str o :: ds.map (swp g m)))
          exact .tup (SqT.of (hid_at tM1 np2)) (.cons (.str _) (dpAll_same (hid_less (sc.trans s2)) _ _ hda))
end
end Fv


set_option maxHeartbeats 2000000
namespace FvX
open PySem PySem.Spec PyProof.Rows L2 StX
/-! ### defs with **more, called with keywords -/
/-- s2 is s with one dict more, at d, and further tokens -/
structure LaidD (s : Shared) (d : Addr) (es : List DictEntry) (s2 : Shared) : Prop where
  kp : ∀ b o, s.heap.get? b = some o → s2.heap.get? b = some o
  dd : ∃ n, s2.heap.get? d = some (PySem.W.dictOf es n)
  os : s2.os = s.os
  gn : s2.gens = s.gens
  sz : s.heap.objs.size ≤ s2.heap.objs.size
/-- an entry under a text that no other entry has -/
def Apart (es : List DictEntry) (y : Str) : Prop := ∀ e ∈ es, e.key.isStr y = false ∧ e.refKey = false
theorem any_no {es : List DictEntry} {p : DictEntry → Bool} (h : ∀ e ∈ es, p e = false) : es.any p = false := by
  rw [List.any_eq_false]
  exact fun e he => by rw [h e he]; exact Bool.false_ne_true
theorem set_one {P : Program} {w : World} {A : Around} {Ex : Value → Shared → Prop} {s s1 : Shared} {d : Addr} {es : List DictEntry} {y : Str} {u : Value} {Q : Unit → Shared → Prop} (hn : s.heap.get? d = none) (L : LaidD s d es s1) (ha : Apart es y)
    (hq : ∀ s2, s2.toks = s1.toks + 1 → LaidD s d (es ++ [⟨PyData.keyHash w.params y, .str y s1.toks, u⟩]) s2 → Q () s2) : wpAny (model P w) A (nsSet d y u) Q Ex s1 := by
  obtain ⟨n, hd⟩ := L.dd
  have no1 := any_no fun e he => (ha e he).1
  have no2 := any_no fun e he => (ha e he).2
  have hput : Obj.putName y (PyData.keyHash w.params y) (.str y s1.toks) u (PySem.W.dictOf es n) = PySem.W.dictOf (es ++ [⟨PyData.keyHash w.params y, .str y s1.toks, u⟩]) (PySem.W.putN y es n) := by
    rw [PySem.W.putName_dict, PySem.W.putL_new fun e he => (ha e he).1]
  have hno : aRefKeyMayBeTheName y es.toArray = false := by
    rw [PySem.aRefKeyMayBeTheName_at, ← Array.any_toList, ← Array.any_toList]
    show (!es.any _ && es.any _) = false
    rw [no2]
    exact Bool.and_false _
  unfold nsSet
  refine wpAny_bind (wpAny_bind (wpAny_askSetting (wpAny_pure (wpAny_bind (wpAny_mkText (wpAny_bind (wpAny_loadPart hd ?_)))))))
  dsimp only
  rw [hno]
  rw [if_neg Bool.false_ne_true]
  refine wpAny_updatePart hd (hq _ rfl ⟨fun b o e => ?_, ⟨PySem.W.putN y es n, ?_⟩, L.os, L.gn, ?_⟩)
  · refine (Heap.get?_update_ne _ _ _ _ fun z => ?_).trans (L.kp b o e)
    rw [z, hn] at e
    cases e
  · rw [← hput]
    have hfr : (Obj.putName y (PyData.keyHash w.params y) (.str y s1.toks) u (PySem.W.dictOf es n)).isFreed = false := by
      rw [hput]
      rfl
    exact Heap.get?_update_self _ hd hfr
  · show _ ≤ (s1.heap.update d _).objs.size
    rw [Heap.size_update]
    exact L.sz
theorem set_all {P : Program} {w : World} {A : Around} {Ex : Value → Shared → Prop} {s : Shared} {d : Addr} {Q : PUnit → Shared → Prop} (hn : s.heap.get? d = none) :
    ∀ (ex : List (Str × Value)) (s1 : Shared) (es : List DictEntry), LaidD s d es s1 → (∀ x ∈ ex, Apart es x.1) → (ex.map (·.1)).Nodup → (∀ s2, LaidD s d (es ++ PySem.W.kwEs w.params s1.toks ex) s2 → Q ⟨⟩ s2) →
      wpAny (model P w) A (forIn ex PUnit.unit fun x _ => nsSet d x.1 x.2 >>= fun _ => pure (.yield PUnit.unit)) Q Ex s1
  | [], s1, es, L, _, _, hq => by
    rw [List.forIn_nil]
    exact wpAny_pure (hq s1 (by show LaidD s d (es ++ []) s1; rw [List.append_nil]; exact L))
  | x :: ex, s1, es, L, ha, nd, hq => by
    obtain ⟨nd1, nd2⟩ := List.nodup_cons.mp (show (x.1 :: ex.map (·.1)).Nodup from nd)
    rw [List.forIn_cons]
    refine wpAny_bind (wpAny_bind (set_one hn L (ha x (List.mem_cons_self ..)) fun s2 ht L2 => wpAny_pure ?_))
    refine set_all hn ex s2 _ L2 (fun y hy e he => ?_) nd2 fun s3 L3 => hq s3 ?_
    · rcases List.mem_append.mp he with he | he
      · exact ha y (List.mem_cons_of_mem _ hy) e he
      · obtain rfl := List.mem_singleton.mp he
        refine ⟨beq_eq_false_iff_ne.mpr fun z => nd1 ?_, rfl⟩
        rw [z]
        exact List.mem_map_of_mem hy
    · rw [ht, List.append_assoc] at L3
      exact L3
/-- the pairs as the rules tell them -/
def kwKV (ks : List Str) (zs : List V) : List (Key × V) := (ks.zip zs).map fun x => (.inr x.1, x.2)
theorem kw_rel : ∀ {ks : List Str} {zs : List V} {ws : List Value}, Vals zs ws → KV (kwKV ks zs) ((ks.zip ws).map fun x => ((Sum.inr x.1 : Key), x.2))
  | [], _, _, _ => .nil
  | _ :: _, _, _, .nil => .nil
  | k :: ks, _, _, .cons a r => .cons ⟨rfl, a⟩ (kw_rel (ks := ks) r)
theorem kw_pairs {P : Program} {w : World} : ∀ (ex : List (Str × Value)) (t : Tok), Pairs (mixKind P w) (PySem.W.kwEs w.params t ex) (ex.map fun x => ((Sum.inr x.1 : Key), x.2))
  | [], _ => .nil
  | x :: ex, t => .cons (mixKind_str P w x.1 t) rfl (kw_pairs ex (t + 1))
theorem kw_dict {P : Program} {w : World} {s s2 : Shared} {d : Addr} {ex : List (Str × Value)} {t : Tok} (nd : (ex.map (·.1)).Nodup) (L : LaidD s d (PySem.W.kwEs w.params t ex) s2) :
    s2.heap.DictOf (mixKind P w) d (ex.map fun x => ((Sum.inr x.1 : Key), x.2)) := by
  obtain ⟨n, hd⟩ := L.dd
  refine ⟨_, _, n, hd, ⟨rfl, rfl, rfl⟩, rfl, fun e he => ?_, kw_pairs ex t, ?_⟩
  · obtain ⟨k, u, hk, hh⟩ := PySem.W.kwEs_key ex t e (List.mem_toArray.mp he)
    exact ⟨.inr k, by rw [hk]; exact mixKind_str P w k u, hh⟩
  · rw [List.map_map]
    have e : ((fun x : Key × Value => x.1) ∘ fun x : Str × Value => ((Sum.inr x.1 : Key), x.2)) = Sum.inr ∘ fun x : Str × Value => x.1 := rfl
    rw [e, ← List.map_map]
    exact nd.map _ fun a b hab z => hab (Sum.inr.inj z)
section
variable {P : Program} {w : World} {K : PySem.W.Frag} {mg : Str → Option Value} {base : Heap} {A : Around} {outer : List Env} {s s2 : Shared} {H : Hp} {u : HO} {es : List DictEntry}
theorem env0_laidD (e0 : Env0 P w K mg base A outer s H) (L : LaidD s s.heap.objs.size es s2) (new : ObjOk P w (upd H s.heap.objs.size u) s2.heap s.heap.objs.size u) : Env0 P w K mg base A outer s2 (upd H s.heap.objs.size u) := by
  refine ⟨e0.frames, e0.mod, fun b x e => ⟨L.kp b x (e0.bs b x e).1, ?_⟩, Nat.le_trans e0.bsz L.sz, Heap.FunFrames.of_keeps (fun b x e _ => ⟨x, L.kp b x e, rfl⟩) e0.funs, fun b hb => ?_, e0.hok.laid L.kp (Nat.le_refl _) new, ?_⟩
  · rw [upd_ne (Nat.ne_of_lt (Heap.lt_size (e0.bs b x e).1))]
    exact (e0.bs b x e).2
  · obtain ⟨_, x, hx, _⟩ := e0.funs.mem hb
    rw [upd_ne (Nat.ne_of_lt (Heap.lt_size hx))]
    exact e0.frf b hb
  · rw [L.gn]
    exact e0.bare
end
/-- a def with n parameters and **more, called with keywords named ks (none of them a parameter's name) -/
def FnW (P : Program) (w : World) (K : PySem.W.Frag) (mg : Str → Option Value) (base : Heap) (CX : CXT) (k : Nat) (f : Addr) (n : Nat) (ks : List Str) (sp : Sp) : Prop :=
  ∀ (A : Around) (outer : List Env) (s : Shared) (H : Hp) (us ws : List Value) (vs zs : List V) (Q : VK) (E : XK), Room k A → Env0 P w K mg base A outer s H → Vals vs us → Vals zs ws → vs.length = n → zs.length = ks.length →
    (∀ d, H d = none → sp (vs ++ [V.ref d]) (upd H d (.dK (kwKV ks zs))) Q E) → codeAny (model P w) A (.call (.ref f) ⟨us, ks.zip ws⟩) (CR CX outer P w H s Q E) s
section
variable {CX : CXT} {P : Program} {w : World} {K : PySem.W.Frag} {mg : Str → Option Value} {base : Heap} {k : Nat} {f : Addr} {name qual pd : Str} {params : Arguments} {body : List Stmt} {scope : Scope} {dV kV doc pm cdv ct oc : Value} {an od : Option Addr}
  {osl : Array (Option Value)} {N ps ks : List Str} {sp : Sp}
theorem fn_kw (lk : K.lookup f = some ⟨oc, od, .func (PySem.W.fnOf name qual params body scope dV kV doc pm an cdv ct), osl⟩) (hcd : PySem.W.codeIn K cdv qual = true) (S : FnScope N (ps ++ [pd]) scope) (hCX : CXUp CX) (nd : ks.Nodup) (hs : ks.length ≤ 100)
    (hb : ∀ us ws : List Value, us.length = ps.length → ws.length = ks.length → bindArgs (PySem.W.fnOf name qual params body scope dV kV doc pm an cdv ct) ⟨us, ks.zip ws⟩ =
      ((alloc ({ cls := .type "dict", data := .dict #[] } : Obj) : Sem Addr) >>= fun d => forIn (ks.zip ws) PUnit.unit (fun x _ => nsSet d x.1 x.2 >>= fun _ => pure (.yield PUnit.unit)) >>= fun _ => pure (ps.zip us ++ [(pd, Value.ref d)])))
    (hbody : ∀ (A : Around) (outer : List Env) (s : Shared) (H : Hp) (vs : List V) (Q : VK) (E : XK), Room k (A.deeper (envOfC qual scope s.heap.objs.size f cdv)) → sp vs H Q E →
      ∃ t, PSs (cxOf CX P w K mg base N qual scope f cdv A outer s H E) body t ∧ t { nx := fun _ H' => Q .non H', rt := Q } (start N vs) H) : FnW P w K mg base CX (k + 1) f ps.length ks sp := by
  intro A outer s H us ws vs zs Q E hr e0 r rz hl hz hsp
  have hn : H s.heap.objs.size = none := e0.hok.fresh (Nat.le_refl _)
  have hg : s.heap.get? s.heap.objs.size = none := by
    cases q : s.heap.get? s.heap.objs.size with
    | none => rfl
    | some o => exact absurd (Heap.lt_size q) (Nat.lt_irrefl _)
  have lu : us.length = ps.length := r.length.symm.trans hl
  have lw : ws.length = ks.length := rz.length.symm.trans hz
  have hnd : ((ks.zip ws).map (·.1)).Nodup := by
    rw [List.map_fst_zip (Nat.le_of_eq lw.symm)]
    exact nd
  refine run_bnd lk hcd S hr e0 (G := fun xs H2 => ∃ d, H d = none ∧ xs = vs ++ [V.ref d] ∧ H2 = upd H d (.dK (kwKV ks zs))) (fun A' Ex Q' h => ?_) fun s2 H2 xs ⟨d, hd, ex, eH⟩ hr' => ?_
  · rw [hb us ws lu lw]
    refine wpAny_bind (wpAny_alloc (wpAny_bind ?_))
    have L0 : LaidD s s.heap.objs.size [] { s with heap := s.heap.push ({ cls := .type "dict", data := .dict #[] } : Obj) } :=
      ⟨fun b o e => Heap.get?_push_of_some _ e, ⟨0, Heap.get?_push_size _ rfl⟩, rfl, rfl, by show _ ≤ (s.heap.push _).objs.size; rw [Heap.size_push]; exact Nat.le_succ _⟩
    refine set_all hg (ks.zip ws) _ [] L0 (fun x _ e he => nomatch he) hnd fun s2 L => wpAny_pure ?_
    have lk15 : (kwKV ks zs).length ≤ sizeLine := by
      unfold kwKV
      rw [List.length_map, List.length_zip, sizeLine_eq]
      omega
    have new : ObjOk P w (upd H s.heap.objs.size (.dK (kwKV ks zs))) s2.heap s.heap.objs.size (.dK (kwKV ks zs)) :=
      ⟨lk15, beq_eq_false_iff_ne.mpr (Ne.symm (Nat.ne_of_lt (env0_big e0))), _, kw_rel rz, kw_dict hnd L⟩
    have un : Un (frs outer) [] H (upd H s.heap.objs.size (.dK (kwKV ks zs))) s.heap s2.heap := Un.laid L.kp (Nat.le_refl _) hn
    have z := h s2 _ (vs ++ [V.ref s.heap.objs.size]) (us ++ [Value.ref s.heap.objs.size]) (env0_laidD e0 L new) un L.os (fun e s' => hCX outer s H _ _ E e s' un L.kp L.os) (r.append (.cons rfl .nil))
      (by rw [List.length_append, List.length_append, hl] <;> rfl) ⟨_, hn, rfl, rfl⟩
    rw [List.zip_append lu.symm] at z
    exact z
  · subst ex eH
    exact hbody A outer s2 _ _ Q E hr' (hsp d hd)
end
/-! ### the call -/
def tCallW (n : Nat) (ks : List Str) (sp : Sp) (E : XK) (t tk : TA) : TE := fun σ H Q => t σ H fun vs H1 => tk σ H1 fun zs H2 => vs.length = n ∧ zs.length = ks.length ∧ ∀ d, H2 d = none → sp (vs ++ [V.ref d]) (upd H2 d (.dK (kwKV ks zs))) Q E
section
variable {X : Cx} {CX : CXT} {k n : Nat} {f : Addr} {ks : List Str} {sp : Sp} {E : XK} {x : Str} {p pos : Pos} {e : Expr} {es : List Expr} {kws : List Keyword} {t tk : TA}
theorem pe_callW (F : FnW X.prog X.w X.K X.mg X.base CX k f n ks sp) (hr : Room k X.A) (hg : Gl X x) (hm : X.mg x = some (.ref f)) (hk : PySem.W.keepIn X.K (.ref f) = true) (hx : Passes CX X E) (ha : PA X (e :: es) t) (hkw : PK X kws tk)
    (hall : (backToKw pos (keywordEach kws X.env)).all (·.1.isSome) = true := by rfl) (hks : (backToKw pos (keywordEach kws X.env)).filterMap (·.1) = ks := by rfl) (hdb : (x == ("__debug__" : Str)) = false := by decide)
    (he : starEach (e :: es) X.env = (false, eval e X.env) :: starEach es X.env := by rfl) (hpl : ((backTo pos (starEach (e :: es) X.env)).any (·.1) || (backToKw pos (keywordEach kws X.env)).any (·.1.isNone)) = false := by rfl) :
    PE X (.Call (.Name x p) (e :: es) kws pos) (tCallW n ks sp E t tk) := by
  refine ⟨fun pins s σ H Q I h => wpAny_Call_Name_kw (ld_glob I hg hm ?_ hdb)⟩
  refine PySem.W.callWith_KW (h₀ := X.base) I.ok.mod.kin hk hall (thn (ha.run pos pins s σ H _ I h) fun us s1 ⟨vs, H1, I1, r, q⟩ => ?_) hpl he
  refine thn (hkw.run pos pins s1 σ H1 _ I1 q) fun ws s2 ⟨zs, H2, I2, rz, l1, l2, q2⟩ => ⟨I2.kIn, ?_⟩
  rw [hks]
  refine wpAny_call (codeAny_mono (F X.A X.stack s2 H2 us ws vs zs Q E hr I2.env0 r rz l1 l2 q2) fun r s' hq => ?_)
  cases r with
  | error e => exact hx pins σ H2 s2 e s' I2 hq
  | ok fl =>
    cases fl with
    | ret u => exact I2.after hq
    | next => exact hq.elim
    | brk => exact hq.elim
    | cont => exact hq.elim
end
end FvX


namespace Fv
open PySem PySem.Spec PyProof.Rows L2
abbrev PsT : List Str := ["value", "max_depth", "max_size"]
abbrev KwT : List (Str × V) := [("max_depth", .int 5), ("max_size", .int 24)]
abbrev FunT (K : PySem.W.Frag) (f : Addr) (fd : FuncData) : Prop := FunD K "is_term" "is_term" (defArgs s_is_term) (defBody s_is_term) (defScope s_is_term) [] KwT f fd
section
variable {P : Program} {w : World} {K : PySem.W.Frag} {mg : Str → Option Value} {base : Heap}
theorem ok_is_term {f : Addr} {fd : FuncData} {k : Nat} (F : FunT K f fd)
    (C_measured : Own P w K mg base k "measured" ["value", "max_depth", "max_size"] (spMeas K 20)) :
    FnOk P w K mg base CX0 (k + 1) f fd PsT (spIsTerm K) := by
  refine F.ok sc_is_term (fun vs H Q E h => ?_) (fun cdv A outer s H vs Q E hr h => ?_)
  · obtain ⟨v, d, md, ms, rfl, _⟩ := h
    rfl
  · obtain ⟨v, d, md, ms, rfl, hd, hg, m0, m1, q⟩ := h
    refine ⟨_, (pss_one (ps_ret (pe_cmpR op_notN (pe_own C_measured (hr.mono (by omega)) (by rfl) (pa_cons (pv 0) (pa_cons (pv 1) (pa_cons (pv 2) pa_nil)))) pe_non (nomark _)))), ?_⟩
    refine ⟨_, rfl, _, rfl, _, rfl, v, d, md, ms, rfl, hd, hg, m0, m1, fun e H' s' => ⟨rfl, ?_⟩, fun dp sz e H' p s' hp => ⟨rfl, ?_⟩⟩
    · have z := q H' s'
      rw [e] at z
      exact z
    · have z := q H' s'
      rw [e] at z
      exact z
theorem binds_T {f : Addr} {fd : FuncData} (F : FunT K f fd) : ∃ ds, Vals [V.int 5, V.int 24] ds ∧ Binds K fd PsT ds :=
  F.binds0 1 (by decide) rfl fun D doc pm an cdv ct us ks h1 h2 => match us, ks, h1, h2 with
    | [u], [k1, k2], _, _ => ⟨_, _, _, _, _, _, rfl, rfl, _, _, _, _, _, _, rfl, rfl, rfl⟩
theorem kbinds_T1 {f : Addr} {fd : FuncData} (F : FunT K f fd) : ∃ mv : List Value, KBn K fd PsT 1 ["max_size", "max_depth"] (fun us ws => us ++ ws.reverse ++ mv) (fun vs zs => vs ++ zs.reverse ++ []) :=
  F.kbinds0 1 ["max_size", "max_depth"] [] (fun us mv ws => us ++ ws.reverse ++ mv) (by decide) (fun q h => nomatch h) (fun a b c => (a.append c.reverse).append b)
    fun D doc pm an cdv ct us mv ws h1 h2 h3 => match us, mv, ws, h1, h2, h3 with
    | [u], [], [w1, w2], _, _, _ => rfl
theorem kbinds_T2 {f : Addr} {fd : FuncData} (F : FunT K f fd) : ∃ mv : List Value, KBn K fd PsT 0 ["value", "max_depth"] (fun us ws => us ++ ws ++ mv) (fun vs zs => vs ++ zs ++ [V.int 24]) :=
  F.kbinds0 0 ["value", "max_depth"] [("max_size", .int 24)] (fun us mv ws => us ++ ws ++ mv) (by decide) (fun q h => List.mem_cons_of_mem _ h) (fun a b c => (a.append c).append b)
    fun D doc pm an cdv ct us mv ws h1 h2 h3 => match us, mv, ws, h1, h2, h3 with
    | [], [m], [w1, w2], _, _, _ => ⟨_, _, _, _, _, _, rfl, rfl, rfl⟩
theorem kbinds_T3 {f : Addr} {fd : FuncData} (F : FunT K f fd) : ∃ mv : List Value, KBn K fd PsT 1 ["max_depth"] (fun us ws => us ++ ws ++ mv) (fun vs zs => vs ++ zs ++ [V.int 24]) :=
  F.kbinds0 1 ["max_depth"] [("max_size", .int 24)] (fun us mv ws => us ++ ws ++ mv) (by decide) (fun q h => List.mem_cons_of_mem _ h) (fun a b c => (a.append c).append b)
    fun D doc pm an cdv ct us mv ws h1 h2 h3 => match us, mv, ws, h1, h2, h3 with
    | [u], [m], [w1], _, _, _ => ⟨_, _, _, _, _, _, rfl, rfl, rfl⟩
end
end Fv


namespace Fv
open PySem PySem.Spec PyProof.Rows L2 FvX TL

section
variable {P : Program} {w : World} {K : PySem.W.Frag} {mg : Str → Option Value} {base : Heap} {CT fI oS : Addr} {qual msg : Str} {q : ErrPos} {j1 j2 : Nat}
theorem fit900 {x : Str} (h : x.length ≤ 2900) : x.length ≤ sizeLine := Nat.le_trans h (by decide)
theorem rdT_zero {f : Addr} {fd : FuncData} {k : Nat} {ps : List Str} : FnOk P w K mg base (L2.CX P w) k f fd ps (spRdT K CT 0) := by
  have no : ∀ vs H Q E, ¬ spRdT K CT 0 vs H Q E := fun vs H Q E h => by
    obtain ⟨x, a, m, M, _, _, _, h, _⟩ := h
    omega
  exact ⟨fun vs H Q E h => absurd h (no vs H Q E), fun A outer s H args us vs Q E _ _ _ _ h => absurd h (no vs H Q E)⟩
end
end Fv


namespace Fv
open PySem PySem.Spec PyProof.Rows L2 FvX TL

def WR (K : PySem.W.Frag) (x : Str) (m : Nat) (v : V) (sg : Str) (L : Addr) (M : List Addr) (H : Hp) (R : Option (List PyData × Nat)) : Nat → L2.St → Hp → Prop := fun f σ H1 => ∃ (a : Nat) (acc : List PyData) (vs : List V) (y6 : Option V),
  σ = [some (.str x), some (.int (a : Nat)), some (.int (m : Nat)), some v, some (.str sg), some (.ref L), y6] ∧ H1 L = some (.lst vs) ∧ DpAll K (hide (L :: M) H1) vs acc ∧ 4 * acc.length ≤ a + 3 ∧ a ≤ x.length ∧ x.length + 1 - a ≤ f ∧
  rdL (rdP (tl x) m) (tl x) sg f a acc = R ∧ Same H H1
theorem in_sg (s : Str) : (!([PyData.str " & ", .str " | "] : List PyData).any fun z => PyData.eqv z (.str s)) = !decide (isSg s) := by
  congr 1
  simp only [List.any_cons, List.any_nil, Bool.or_false, PyData.eqv]
  rw [Bool.eq_iff_iff, decide_eq_true_eq, Bool.or_eq_true, beq_iff_eq, beq_iff_eq]
  exact ⟨fun h => h.imp Eq.symm Eq.symm, fun h => h.imp Eq.symm Eq.symm⟩
theorem sg_at {s : Str} (h : isSg s) : ∃ c, (tl s)[1]? = some c ∧ (⟨#[c]⟩ : Str) = sgn s := by
  rcases h with h | h <;> subst h
  · exact ⟨38, by decide +kernel, by decide +kernel⟩
  · exact ⟨124, by decide +kernel, by decide +kernel⟩
section
variable {P : Program} {w : World} {K : PySem.W.Frag} {mg : Str → Option Value} {base : Heap} {CT fI oS : Addr} {qual msg : Str} {q : ErrPos} {j1 j2 : Nat}
end
end Fv


namespace Fv
open PySem PySem.Spec PyProof.Rows L2 FvX TL



/-- what parse_term makes of a text -/
def prs (x : Str) : Option PyData := match rdT (rdP (tl x) 5) (tl x) 0 with
  | none => none
  | some (d, e) => if e < x.length ∨ tmB d = false then none else some d
def spParse (K : PySem.W.Frag) (CT : Addr) : Sp := fun vs H Q E => ∃ (x : Str) (M : List Addr), vs = [.str x] ∧ x.length ≤ 2900 ∧ PyData.strOk x = true ∧ Trk M H ∧
  (∀ d, prs x = some d → ∀ (H' : Hp) (v : V), Same H H' → Dp K (hide M H') v d → Q v H') ∧ (prs x = none → errAt CT "InvalidText" H E)
def spLong (K : PySem.W.Frag) (CT : Addr) : Sp := fun vs H Q E => ∃ (v : V) (d : PyData), vs = [v] ∧ Dp K H v d ∧ gd 20 d = true ∧
  (∀ dp sz, meas 9 d 600 = some (dp, sz) → ∀ (H' : Hp) (p : Addr), Same H H' → H' p = some (.tup [.int dp, .int sz]) → Q (.ref p) H') ∧ (meas 9 d 600 = none → errAt CT "InvalidTerm" H E)
def spFormat (K : PySem.W.Frag) (CT : Addr) : Sp := fun vs H Q E => ∃ (v : V) (d : PyData), vs = [v] ∧ Dp K H v d ∧ gd 20 d = true ∧
  ((meas 9 d 600).isSome = true → ∀ H', Same H H' → Q (.str (txt d)) H') ∧ (meas 9 d 600 = none → errAt CT "InvalidTerm" H E)
section
variable {P : Program} {w : World} {K : PySem.W.Frag} {mg : Str → Option Value} {base : Heap} {CT fI oS : Addr} {qual msg : Str} {q : ErrPos} {j1 j2 : Nat}
end
end Fv


namespace Fv
open PySem PySem.Spec PyProof.Rows L2 FvX TL
-- top 14  slots: 0:value
abbrev s_checked_term : Stmt := topS 14
abbrev N_checked_term : List Str := ["value"]
theorem sc_checked_term : FnScope N_checked_term ["value"] (defScope s_checked_term) := ⟨rfl, rfl, rfl, by decide +kernel, rfl, by decide +kernel, by decide +kernel⟩



/-! ### what has a size is plain data; what comes of replacing -/
theorem len_sum {n : Nat} : ∀ {ds : List PyData}, (∀ d ∈ ds, 1 ≤ lmeas n d) → (ds.length : Int) ≤ (ds.map (lmeas n)).sum
  | [], _ => by simp
  | d :: ds, h => by
    rw [List.length_cons, List.map_cons, List.sum_cons]
    have := h d (List.mem_cons_self ..)
    have := len_sum (ds := ds) fun x hx => h x (List.mem_cons_of_mem _ hx)
    omega
theorem op_gd {o : Str} (ho : o = "&" ∨ o = "|") (n : Nat) : gd n (.str o) = true := by
  refine gd_le (n := 0) ?_ (Nat.zero_le _)
  rcases ho with ho | ho <;> subst ho <;> decide +kernel
theorem part_le2 {n : Nat} {ds : List PyData} {y : PyData} (z : y ∈ ds) : lmeas n y ≤ (ds.map (lmeas n)).sum :=
  mem_le_sum (fun u hu => by
    obtain ⟨d', _, rfl⟩ := List.mem_map.mp hu
    exact lmeas_nonneg n d') (List.mem_map.mpr ⟨y, z, rfl⟩)
theorem gd_swp {f : Str → Option PyData} {g : Nat} (hf : ∀ x e, f x = some e → gd g e = true) : ∀ (n : Nat) (d : PyData), 1 ≤ lmeas n d → lmeas n d ≤ 990 → gd (g + n) (swp f n d) = true
  | 0, d, h, _ => by simp only [lmeas] at h; omega
  | n + 1, d, h, h9 => by
    rcases lmeas_inv h with ⟨x, rfl, hx⟩ | ⟨o, ds, rfl, _, ho, h2, all1, e⟩
    · show gd _ ((f x).getD (.str x)) = true
      cases hx' : f x with
      | none => exact isL_gd hx _
      | some e => exact gd_le (hf x e hx') (by omega)
    · rw [e] at h9
      have hl := len_sum all1
      show gd (g + n + 1) (.tuple (.str o :: ds.map (swp f n))) = true
      refine gd_tup (fun y hy => ?_) (by rw [List.length_cons, List.length_map]; omega)
      rcases List.mem_cons.mp hy with z | z
      · rw [z]; exact op_gd ho _
      · obtain ⟨d', hd', rfl⟩ := List.mem_map.mp z
        refine gd_swp hf n d' (all1 d' hd') ?_
        have := part_le2 (n := n) hd'
        omega
theorem swp_none {f : Str → Option PyData} (hf : ∀ x, f x = none) : ∀ (n : Nat) (d : PyData), swp f n d = d
  | 0, _ => rfl
  | n + 1, .str x => by show (f x).getD (.str x) = _; rw [hf x]; rfl
  | n + 1, .tuple (.str o :: ds) => by
    show PyData.tuple (.str o :: ds.map (swp f n)) = _
    rw [show ds.map (swp f n) = ds.map id from List.map_congr_left fun x _ => swp_none hf n x, List.map_id]
  | _ + 1, .tuple [] => rfl
  | _ + 1, .tuple (.none :: _) => rfl
  | _ + 1, .tuple (.bool _ :: _) => rfl
  | _ + 1, .tuple (.int _ :: _) => rfl
  | _ + 1, .tuple (.list _ :: _) => rfl
  | _ + 1, .tuple (.tuple _ :: _) => rfl
  | _ + 1, .tuple (.dict _ :: _) => rfl
  | _ + 1, .none => rfl
  | _ + 1, .bool _ => rfl
  | _ + 1, .int _ => rfl
  | _ + 1, .list _ => rfl
  | _ + 1, .dict _ => rfl
theorem gd_lm (n : Nat) (d : PyData) (h : 1 ≤ lmeas n d) (h9 : lmeas n d ≤ 990) : gd n d = true := by
  have z := gd_swp (f := fun _ => none) (g := 0) (fun x e h => by cases h) n d h h9
  rw [swp_none fun _ => rfl, Nat.zero_add] at z
  exact z
theorem opT_op {o : Str} (ho : o = "&" ∨ o = "|") : opT o = "&" ∨ opT o = "|" := by
  unfold opT
  split
  · exact .inr rfl
  · exact .inl rfl
theorem opT_opT {o : Str} (ho : o = "&" ∨ o = "|") : opT (opT o) = o := by rcases ho with ho | ho <;> subst ho <;> decide +kernel
theorem isOp_of {o : Str} (ho : o = "&" ∨ o = "|") : isOp (.str o) = true := by rcases ho with ho | ho <;> subst ho <;> decide +kernel
theorem lmeas_tnd : ∀ (n : Nat) (d : PyData), 1 ≤ lmeas n d → lmeas n (tnd n d) = lmeas n d
  | 0, d, h => by simp only [lmeas] at h; omega
  | n + 1, d, h => by
    rcases lmeas_inv h with ⟨x, rfl, hx⟩ | ⟨o, ds, rfl, _, ho, h2, all1, e⟩
    · rfl
    · rw [e]
      show lmeas (n + 1) (.tuple (.str (opT o) :: ds.map (tnd n))) = _
      refine lmeas_tup (isOp_of (opT_op ho)) (by rw [List.length_map]; exact h2) (fun y hy => ?_) ?_
      · obtain ⟨d', hd', rfl⟩ := List.mem_map.mp hy
        rw [lmeas_tnd n d' (all1 d' hd')]
        exact all1 d' hd'
      · rw [List.map_map]
        exact congrArg List.sum (List.map_congr_left fun x hx => lmeas_tnd n x (all1 x hx))
theorem tnd_tnd : ∀ (n : Nat) (d : PyData), 1 ≤ lmeas n d → tnd n (tnd n d) = d
  | 0, d, h => by simp only [lmeas] at h; omega
  | n + 1, d, h => by
    rcases lmeas_inv h with ⟨x, rfl, hx⟩ | ⟨o, ds, rfl, _, ho, h2, all1, e⟩
    · rfl
    · show PyData.tuple (.str (opT (opT o)) :: (ds.map (tnd n)).map (tnd n)) = _
      rw [opT_opT ho, List.map_map, show ds.map (tnd n ∘ tnd n) = ds.map id from List.map_congr_left fun x hx => tnd_tnd n x (all1 x hx), List.map_id]
/-- more depth than is wanted changes nothing -/
theorem swp_up {f : Str → Option PyData} : ∀ (n : Nat) (d : PyData), 1 ≤ lmeas n d → swp f (n + 1) d = swp f n d
  | 0, d, h => by simp only [lmeas] at h; omega
  | n + 1, d, h => by
    rcases lmeas_inv h with ⟨x, rfl, hx⟩ | ⟨o, ds, rfl, _, ho, h2, all1, e⟩
    · rfl
    · show PyData.tuple (.str o :: ds.map (swp f (n + 1))) = PyData.tuple (.str o :: ds.map (swp f n))
      rw [List.map_congr_left fun x hx => swp_up n x (all1 x hx)]
theorem tm_gdS {d : PyData} (h : tmB d = true) : gd 5 d = true := gd_lm 5 d ((tmB_iff d).mp h).1 (by have := ((tmB_iff d).mp h).2; omega)
/-! ### the promises -/
def errLt (CL : Addr) (y : Str) (H : Hp) (E : XK) : Prop := ∀ (H' : Hp) (dd : Addr), Same H H' → H' dd = some (.xd [("letter", .str y), ("code", .str "InvalidLetter")]) → E (.ref CL) (some dd) H'
def spTurned (K : PySem.W.Frag) (CT : Addr) : Sp := fun vs H Q _ => ∃ (v : V) (d : PyData) (M : List Addr), vs = [v] ∧ Dp K H v d ∧ gd 20 d = true ∧ 1 ≤ lmeas 9 d ∧ lmeas 9 d ≤ 600 ∧ Trk M H ∧ ∀ H' v', Same H H' → Dp K (hide M H') v' (tnd 9 d) → Q v' H'
/-- what is asked of the names, in their order -/
structure SubQ (K : PySem.W.Frag) (CT CL : Addr) (H : Hp) (M : List Addr) (d : PyData) (f : Str → Option PyData) (ys : List Str) (Q : VK) (E : XK) : Prop where
  lt : ∀ zs y rs, ys = zs ++ y :: rs → (∀ z ∈ zs, isL z = true) → isL y = false → errLt CL y H E
  vl : (∀ y ∈ ys, isL y = true) → ∀ y ∈ ys, ∀ e, f y = some e → tmB e = false → errAt CT "InvalidTerm" H E
  no : (∀ y ∈ ys, isL y = true) → (∀ x e, f x = some e → tmB e = true) → tmB (swp f 5 d) = false → errAt CT "InvalidTerm" H E
  ok : (∀ y ∈ ys, isL y = true) → (∀ x e, f x = some e → tmB e = true) → tmB (swp f 5 d) = true → ∀ H' v', Same H H' → Dp K (hide M H') v' (swp f 5 d) → Q v' H'
def spSub (K : PySem.W.Frag) (CT CL : Addr) : Sp := fun vs H Q E => ∃ (v : V) (c : Addr) (d : PyData) (kvs : List (Key × V)) (ks : List Str) (f : Str → Option PyData) (M : List Addr), vs = [v, .ref c] ∧ Dp K H v d ∧ gd 20 d = true ∧ H c = some (.dK kvs) ∧ kvs.map (·.1) = ks.map Sum.inr ∧ ks.length < 64 ∧
  (∀ y ∈ ks, gd 20 (.str y) = true ∧ (reprText y).length ≤ 100000) ∧ tabOf K (hide M H) kvs f ∧ (∀ x e, f x = some e → gd 20 e = true) ∧ Trk M H ∧ (tmB d = false → errAt CT "InvalidTerm" H E) ∧ (tmB d = true → ∀ ys, ys.Perm ks → sortedS ys = true → SubQ K CT CL H M d f ys Q E)
theorem tab_key {K : PySem.W.Frag} {H : Hp} {kvs : List (Key × V)} {ks : List Str} {f : Str → Option PyData} (ht : tabOf K H kvs f) (ek : kvs.map (·.1) = ks.map Sum.inr) (y : Str) : y ∈ ks ↔ (f y).isSome = true := by
  have key : (valV kvs (Sum.inr y)).isSome = true ↔ y ∈ ks := by
    rw [← valV_any, List.any_eq_true]
    constructor
    · rintro ⟨kv, hm, hk⟩
      have h1 : kv.1 ∈ kvs.map (·.1) := List.mem_map_of_mem hm
      rw [ek, of_decide_eq_true hk] at h1
      obtain ⟨z, hz, e⟩ := List.mem_map.mp h1
      rw [← Sum.inr.inj e]
      exact hz
    · intro hy
      have h1 : (Sum.inr y : Key) ∈ kvs.map (·.1) := by rw [ek]; exact List.mem_map_of_mem hy
      obtain ⟨kv, hm, e⟩ := List.mem_map.mp h1
      exact ⟨kv, hm, decide_eq_true e⟩
  rw [← key]
  rcases ht y with ⟨h1, h2⟩ | ⟨e, u, h1, h2, _⟩
  · rw [h1, h2]
    exact Iff.rfl
  · rw [h1, h2]
    exact Iff.rfl
section
variable {P : Program} {w : World} {K : PySem.W.Frag} {mg : Str → Option Value} {base : Heap} {CT CL fI fL : Addr} {qual msg : Str} {q : ErrPos} {j1 j2 : Nat}
theorem ok_checked {f : Addr} {fd : FuncData} {k : Nat} (F : Fun K "checked_term" "checked_term" s_checked_term f fd) (hk : 1 ≤ k) (T_IT : ErrC P.main.file K CT fI qual q msg "InvalidTerm" j1 j2) (hline : LineOk q msg j1) (htop : (P.main.scope.names.lookup ("super" : Str)).isSome = false) (m_super : mg "super" = none) (g_IT : mg "InvalidTerm" = some (.ref CT))
    (C_T0 : OwnD P w K mg base k "is_term" PsT [.int 5, .int 24] (spIsTerm K)) :
    FnOk P w K mg base (L2.CX P w) (k + 1) f fd ["value"] (spChecked K CT) := by
  refine F.okX sc_checked_term (fun vs H Q E h => ?_) (fun cdv A outer s H vs Q E hr h => ?_)
  · obtain ⟨v, d, rfl, _⟩ := h
    rfl
  · obtain ⟨v, d, rfl, hd, hg, q1, q2⟩ := h
    refine ⟨_, (pss_cons (ps_if (pt_not (pt_val (pe_ownD C_T0 (hr.mono (by omega)) (by rfl) (pa_cons (pv 0) pa_nil))))
        (pss_one (ps_raise rfl (takes_of rfl rfl rfl rfl) (pmk_err0 (k := 0) T_IT hline htop m_super (hr.mono (by omega)) (by rfl) g_IT)))
        pss_nil)
      (pss_one (ps_ret (pv 0)))), ?_⟩
    refine ⟨_, rfl, v, d, 5, 24, rfl, hd, hg, by decide, by decide, fun H' s' => ⟨_, rfl, ?_⟩⟩
    cases ht : tmB d with
    | true =>
      rw [show (meas (5 : Int).toNat d 24).isSome = true from ht]
      exact iteF ⟨_, rfl, q1 ht H' s'⟩
    | false =>
      rw [show (meas (5 : Int).toNat d 24).isSome = false from ht]
      refine iteT fun dd nd => ?_
      exact q2 ht _ dd (s'.trans (same_upd nd)) upd_same
end
end Fv


/-! class FreeOrder: __init__; always_below, equal_everywhere, free_steps of what is no term -/
namespace FvF
open PySem PySem.Spec PyProof.Rows L2 Fv FvD FvG FvX FvW TL
-- top 19  slots: 0:left 1:right
abbrev s_always_below : Stmt := topS 19
abbrev N_always_below : List Str := ["left", "right"]
theorem sc_always_below : FnScope N_always_below ["left", "right"] (defScope s_always_below) := ⟨rfl, rfl, rfl, by decide +kernel, rfl, by decide +kernel, by decide +kernel⟩

-- top 20  slots: 0:one 1:other
abbrev s_equal_everywhere : Stmt := topS 20
abbrev N_equal_everywhere : List Str := ["one", "other"]
theorem sc_equal_everywhere : FnScope N_equal_everywhere ["one", "other"] (defScope s_equal_everywhere) := ⟨rfl, rfl, rfl, by decide +kernel, rfl, by decide +kernel, by decide +kernel⟩



theorem pe_mk0 {X : Cx} {k j : Nat} {x : Str} {C : Addr} {sp : Sp} {dvs : List V} {p pos : Pos} (c : C8.Mak X.prog X.w X.K X.mg X.base k x C sp dvs) (hr : Room j X.A) (hk : k + 1 ≤ j) (hg : Gl X x) (hdb : (x == ("__debug__" : Str)) = false := by decide) :
    PE X (.Call (.Name x p) [] [] pos) (tMake C sp dvs C8.E0 tNil) := by
  obtain ⟨f, fd, ps, ds, M, F, hm, b, d⟩ := c.ex
  exact pe_make0 M F (hr.mono hk) hg hm b d C8.pass0 hdb
theorem dp_hid {M : List Addr} {H H' H'' : Hp} (s : SmX M H' H'') (h : Same H (hide M H')) : Same H (hide M H'') := h.trans s.hid
def spFi (K : PySem.W.Frag) (w : World) (C : Addr) : Sp := fun vs H Q _ => ∃ (x dx : Addr), vs = [.ref x] ∧ H x = some (.ins C dx []) ∧ ∀ (H' : Hp) (d : Addr), (∀ A B, FAt K w C [d] H' x d [] A B) → H d = none → SmX [x] H H' → Q .non H'
def spNo : Sp := fun _ _ _ _ => False
theorem ok_no {P : Program} {w : World} {K : PySem.W.Frag} {mg : Str → Option Value} {base : Heap} {f : Addr} {fd : FuncData} {CX : CXT} {k : Nat} {ps : List Str} : FnOk P w K mg base CX k f fd ps spNo :=
  ⟨fun vs H Q E h => h.elim, fun A outer s H args us vs Q E _ _ _ _ h => h.elim⟩
theorem lmeas_toF {n m : Nat} {d : PyData} (h : 1 ≤ lmeas n d) (hm : n ≤ m) : lmeas m d = lmeas n d := by
  induction hm with
  | refl => rfl
  | step _ ih => rw [lmeas_up _ _ (by rw [ih]; exact h), ih]
theorem tk_tm {d : PyData} (h : tmB d = true) : Tk d := by
  obtain ⟨a, b⟩ := (tmB_iff d).mp h
  have e := lmeas_toF (n := 5) (m := 9) a (by decide)
  exact ⟨by omega, by omega, gd_le (tm_gdS h) (by decide)⟩
/-- what stands under a term -/
theorem pre_sub : ∀ (n : Nat) (d : PyData), 1 ≤ lmeas n d → Tk d → ∀ e ∈ pre d, Tk e ∧ 1 ≤ lmeas n e ∧ ∀ p ∈ pts e, p ∈ pre d
  | 0, d, h, _ => by simp only [lmeas] at h; omega
  | n + 1, d, h, t => by
    intro e he
    rw [pre_eq] at he
    have sub : ∀ {x : PyData}, x ∈ pts d → ∀ y ∈ pre x, y ∈ pre d := fun {x} hx y hy => by
      rw [pre_eq]
      rcases t.inv with ⟨z, rfl, _⟩ | ⟨o, ds, rfl, hc, _⟩
      · cases hx
      · rw [if_pos hc]
        exact List.mem_cons_of_mem _ (List.mem_flatMap.mpr ⟨x, hx, hy⟩)
    have own : ∀ x : PyData, x ∈ pre x := fun x => by rw [pre_eq]; exact List.mem_cons_self
    rcases List.mem_cons.mp he with z | z
    · rw [z]
      exact ⟨t, h, fun p hp => sub hp p (own p)⟩
    · rcases t.inv with ⟨x, rfl, _⟩ | ⟨o, ds, rfl, hc, _, all, _⟩
      · rw [str_isCd] at z; cases z
      · rw [if_pos hc] at z
        obtain ⟨y, hy, hz⟩ := List.mem_flatMap.mp z
        have hy' : y ∈ ds := hy
        rcases lmeas_inv h with ⟨x, hx, _⟩ | ⟨o', ds', hd, _, _, _, all1, _⟩
        · cases hx
        · cases hd
          obtain ⟨a, b, c⟩ := pre_sub n y (all1 y hy') (all y hy') e hz
          exact ⟨a, by rw [lmeas_up n e b]; exact b, fun p hp => sub hy' p (c p hp)⟩
theorem lmeas_depth : ∀ (n : Nat) (d : PyData), 1 ≤ lmeas n d → d.depth ≤ n
  | 0, d, h => by simp only [lmeas] at h; omega
  | n + 1, d, h => by
    rcases lmeas_inv h with ⟨x, rfl, hx⟩ | ⟨o, ds, rfl, _, ho, h2, all1, e⟩
    · simp [PyData.depth]
    · have go : ∀ l : List PyData, (∀ x ∈ l, x.depth ≤ n) → PyData.depthAll l ≤ n := fun l => by
        induction l with
        | nil => intro _; simp [PyData.depthAll]
        | cons x l ih =>
          intro h
          simp only [PyData.depthAll]
          have a := h x List.mem_cons_self
          have b := ih fun y hy => h y (List.mem_cons_of_mem _ hy)
          omega
      have := go ds fun x hx => lmeas_depth n x (all1 x hx)
      simp only [PyData.depth, PyData.depthAll]
      omega
theorem un_tm {d : PyData} (h : tmB d = true) : Un (pre d) := by
  obtain ⟨a, b⟩ := (tmB_iff d).mp h
  refine ⟨fun x hx => ?_, fun x hx => (pre_sub 5 d a (tk_tm h) x hx).2.2, pre_small (tk_tm h)⟩
  obtain ⟨t, l, _⟩ := pre_sub 5 d a (tk_tm h) x hx
  exact ⟨t, kd_le (kd_meas 4 x l) (by decide), Nat.le_trans (lmeas_depth 5 x l) (by decide)⟩
theorem depth_tm {d : PyData} (h : tmB d = true) : d.depth ≤ 5 := lmeas_depth 5 d ((tmB_iff d).mp h).1
theorem own_pre (x : PyData) : x ∈ pre x := by rw [pre_eq]; exact List.mem_cons_self
/-- a yes or a no, or what is wrong -/
structure AbQ (CT : Addr) (l r : PyData) (b : Bool) (H : Hp) (Q : VK) (E : XK) : Prop where
  el : tmB l = false → errAt CT "InvalidTerm" H E
  er : tmB l = true → tmB r = false → errAt CT "InvalidTerm" H E
  ok : tmB l = true → tmB r = true → ∀ H', Same H H' → Q (.bl b) H'
def spAB (K : PySem.W.Frag) (CT : Addr) : Sp := fun vs H Q E => ∃ (vl vr : V) (l r : PyData), vs = [vl, vr] ∧ Dp K H vl l ∧ Dp K H vr r ∧ gd 20 l = true ∧ gd 20 r = true ∧ AbQ CT l r (le l r) H Q E
def spEE (K : PySem.W.Frag) (CT : Addr) : Sp := fun vs H Q E => ∃ (vl vr : V) (l r : PyData), vs = [vl, vr] ∧ Dp K H vl l ∧ Dp K H vr r ∧ gd 20 l = true ∧ gd 20 r = true ∧ AbQ CT l r (le l r && le r l) H Q E
def spFS (K : PySem.W.Frag) (CT : Addr) : Sp := fun vs H Q E => ∃ (vl vr : V) (l r : PyData), vs = [vl, vr] ∧ Dp K H vl l ∧ Dp K H vr r ∧ gd 20 l = true ∧ gd 20 r = true ∧ (tmB l && tmB r) = false ∧ errAt CT "InvalidTerm" H E
section
variable {P : Program} {w : World} {K : PySem.W.Frag} {mg : Str → Option Value} {base : Heap} {C CT : Addr}
theorem ok_finit {f : Addr} {fd : FuncData} {k : Nat} (F : Fun K "__init__" "FreeOrder.__init__" s_init__of__FreeOrder f fd) (T : TxF K C) :
    FnOk P w K mg base CX0 (k + 1) f fd ["self"] (spFi K w C) := by
  refine F.ok sc_init__of__FreeOrder (fun vs H Q E h => ?_) (fun cdv A0 outer s H vs Q E hr h => ?_)
  · obtain ⟨x, dx, rfl, _⟩ := h
    rfl
  · obtain ⟨x, dx, rfl, hx, good⟩ := h
    refine ⟨_, (pss_one (ps_fld (pv 0) (FvD.pe_dnewN) rfl)), ?_⟩
    intro q nq
    have xq : x ≠ q := ne_of_none hx nq
    refine ⟨_, rfl, x, C, dx, _, rfl, same_upd nq _ _ hx, T.cl, T.n1, (by show 0 < 1000; decide), ?_⟩
    refine good _ q (fun A B => ⟨⟨dx, upd_same⟩, ?_, (fun p hp => nomatch hp), (fun p hp => nomatch hp), .nil, xq, List.mem_singleton.mpr rfl, fun b hb => ?_⟩) nq ?_
    · rw [upd_ne (Ne.symm xq)]
      exact upd_same
    · rw [List.mem_singleton.mp hb, upd_ne (Ne.symm xq)]
      exact ⟨_, upd_same⟩
    · exact (SmX.of_same (same_upd nq)).put (List.mem_singleton.mpr rfl)
theorem made {H : Hp} {x dx : Addr} (nx : H x = none) (ndx : H dx = none) : Same H (upd (upd H dx (.own x)) x (.ins C dx [])) := fun b o e => by
  rw [upd_ne (ne_of_none e nx), upd_ne (ne_of_none e ndx)]; exact e
theorem ok_always {f : Addr} {fd : FuncData} {k : Nat} (F : Fun K "always_below" "always_below" s_always_below f fd) (hk : 54 ≤ k) (C_checked_term : OwnR P w K mg base 27 "checked_term" (spChecked K CT)) (Mk_FreeOrder : C8.Mak P w K mg base 1 "FreeOrder" C (spFi K w C) []) (M_holds : C8.Met P w K mg base 52 C "holds" (spHo K w C 12) []) :
    FnOk P w K mg base (L2.CX P w) (k + 1) f fd ["left", "right"] (spAB K CT) := by
  refine F.okX sc_always_below (fun vs H Q E h => ?_) (fun cdv A0 outer s H vs Q E hr h => ?_)
  · obtain ⟨vl, vr, l, r, rfl, _⟩ := h
    rfl
  · obtain ⟨vl, vr, l, r, rfl, hl, hr', gl, gr, good⟩ := h
    refine ⟨_, (pss_one (ps_ret (C8.pe_mt M_holds hr (by omega) (pe_mk0 Mk_FreeOrder hr (by omega) (by rfl)) (pa_cons (pe_ownR C_checked_term (hr.mono (by omega)) (by rfl) passX (pa_cons (pv 0) pa_nil)) (pa_cons (pe_ownR C_checked_term (hr.mono (by omega)) (by rfl) passX (pa_cons (pv 1) pa_nil)) pa_nil))))), ?_⟩
    intro x dx nx ndx ne
    have sm0 := made (C := C) nx ndx
    refine ⟨x, dx, rfl, upd_same, fun H1 d hF nd sm => ⟨rfl, ?_⟩⟩
    have d0 : H d = none := by
      cases e : H d with
      | none => rfl
      | some o => rw [sm0 _ _ e] at nd; cases nd
    have s1 : Same H H1 := fun b o e => sm b o (fun z => ne_of_none e nx (List.mem_singleton.mp z)) (sm0 _ _ e)
    obtain ⟨dx1, ob1⟩ := (hF [] []).ob
    refine ⟨x, dx1, _, rfl, ob1, rfl, ⟨_, rfl, vl, l, rfl, dp_same s1 _ _ hl, gl, fun tl H2 s2 => ⟨_, rfl, vr, r, rfl, dp_same (s1.trans s2) _ _ hr', gr, fun tr H3 s3 => ?_, fun tr => (good.er tl tr).mono (s1.trans s2)⟩, fun tl => (good.el tl).mono s1⟩⟩
    have s13 := s2.trans s3
    have sh : Same H (hide [d] H3) := fun b o e => by
      rw [hide_ne (fun z => ne_of_none e d0 (List.mem_singleton.mp z))]
      exact s13 _ _ (s1 _ _ e)
    have dl := depth_tm tl
    have dr := depth_tm tr
    exact ⟨x, d, [d], [], pre l, pre r, vl, vr, l, r, rfl, (hF _ _).same s13, un_tm tl, un_tm tr, dp_same sh _ _ hl, dp_same sh _ _ hr', own_pre l, own_pre r, by omega, fun H4 kvs' hF4 sm4 => good.ok tl tr H4 fun b o e => sm4 b o (fun z => ne_of_none e d0 (List.mem_singleton.mp z)) (s13 _ _ (s1 _ _ e))⟩
theorem ok_equal {f : Addr} {fd : FuncData} {k : Nat} (F : Fun K "equal_everywhere" "equal_everywhere" s_equal_everywhere f fd) (hk : 55 ≤ k) (C_always_below : OwnR P w K mg base 55 "always_below" (spAB K CT)) :
    FnOk P w K mg base (L2.CX P w) (k + 1) f fd ["one", "other"] (spEE K CT) := by
  refine F.okX sc_equal_everywhere (fun vs H Q E h => ?_) (fun cdv A0 outer s H vs Q E hr h => ?_)
  · obtain ⟨vl, vr, l, r, rfl, _⟩ := h
    rfl
  · obtain ⟨vl, vr, l, r, rfl, hl, hr', gl, gr, good⟩ := h
    refine ⟨_, (pss_one (ps_ret (pe_and (pe_ownR C_always_below (hr.mono (by omega)) (by rfl) passX (pa_cons (pv 0) (pa_cons (pv 1) pa_nil))) (pe_one (pe_ownR C_always_below (hr.mono (by omega)) (by rfl) passX (pa_cons (pv 1) (pa_cons (pv 0) pa_nil))))))), ?_⟩
    refine ⟨_, rfl, _, rfl, vl, vr, l, r, rfl, hl, hr', gl, gr, ⟨good.el, good.er, fun tl tr H1 s1 => ⟨_, rfl, ?_⟩⟩⟩
    have ok := good.ok tl tr
    cases e : le l r with
    | false =>
      rw [e] at ok
      exact iteF (ok H1 s1)
    | true =>
      rw [e] at ok
      refine iteT ⟨_, rfl, _, rfl, vr, vl, r, l, rfl, dp_same s1 _ _ hr', dp_same s1 _ _ hl, gr, gl, ⟨fun z => (by rw [tr] at z; cases z), fun _ z => (by rw [tl] at z; cases z), fun _ _ H2 s2 => ok H2 (s1.trans s2)⟩⟩
end
end FvF


/-! the order seen from one operator; words that are the same -/
namespace FvF
open PySem PySem.Spec PyProof.Rows L2 Fv FvD FvG TL
/-- «adds nothing beside» under an operator -/
noncomputable def cl (s : Str) (a b : PyData) : Bool := if s = "|" then lawB a b else lawB b a
def opS (s : Str) : Prop := s = "&" ∨ s = "|"
abbrev wh (s : Str) (P : List PyData) : PyData := .tuple (.str s :: P)
theorem and_or : ("&" : Str) ≠ "|" := by decide +kernel
theorem isJ_wh {s : Str} {P : List PyData} : isJ (wh s P) = decide (s = "|") := rfl
theorem isM_wh {s : Str} {P : List PyData} : isM (wh s P) = decide (s = "&") := rfl
theorem pts_wh {s : Str} {P : List PyData} : pts (wh s P) = P := rfl
theorem cl_refl {s : Str} {a : PyData} (h : a.depth ≤ 9) : cl s a a = true := by
  unfold cl
  have := Lw.refl lawB_ok (l := a) (by omega)
  split <;> exact this
theorem cl_trans {s : Str} {a b c : PyData} (ha : a.depth ≤ 9) (hb : b.depth ≤ 9) (hc : c.depth ≤ 9) (h1 : cl s a b = true) (h2 : cl s b c = true) : cl s a c = true := by
  unfold cl at *
  split at h1
  · rename_i e
    rw [if_pos e] at h2 ⊢
    exact Lw.trans lawB_ok 59 (Nat.le_refl _) a b c (by omega) h1 h2
  · rename_i e
    rw [if_neg e] at h2 ⊢
    exact Lw.trans lawB_ok 59 (Nat.le_refl _) c b a (by omega) h2 h1
theorem cl_eq {s : Str} {a b : PyData} (h1 : cl s a b = true) (h2 : cl s b a = true) : lawB a b = true ∧ lawB b a = true := by
  unfold cl at *
  split at h1
  · rename_i e
    rw [if_pos e] at h2
    exact ⟨h1, h2⟩
  · rename_i e
    rw [if_neg e] at h2
    exact ⟨h2, h1⟩
theorem eq_cl {s : Str} {a b : PyData} (h : lawB a b = true ∧ lawB b a = true) : cl s a b = true ∧ cl s b a = true := by
  unfold cl
  split
  · exact h
  · exact ⟨h.2, h.1⟩
theorem law_met {P : List PyData} (hp : (wh "&" P).depth ≤ 9) : ∀ n, ∀ x : PyData, x.depth < n → x.depth ≤ 9 → (∀ p ∈ P, lawB x p = true) → lawB x (wh "&" P) = true := fun n => by
  induction n with
  | zero => exact fun x h => absurd h (Nat.not_lt_zero _)
  | succ n ih =>
    intro x hn h9 all
    by_cases j : isJ x = true
    · refine Lw.joined lawB_ok (by omega) j fun q hq => ?_
      have qd := pts_depth hq
      refine ih q (by omega) (by omega) fun p hp' => ?_
      have pd := pts_depth (l := wh "&" P) (p := p) hp'
      have qx : lawB q x = true := Lw.up lawB_ok 59 (Nat.le_refl _) q q x (by omega) j hq (Lw.refl lawB_ok (by omega))
      exact Lw.trans lawB_ok 59 (Nat.le_refl _) q x p (by omega) qx (all p hp')
    · exact Lw.met lawB_ok (by omega) j (by rw [isM_wh]; exact decide_eq_true rfl) all
theorem cl_part {s : Str} (o : opS s) {P : List PyData} {p : PyData} (hp : p ∈ P) (h9 : (wh s P).depth ≤ 9) : cl s p (wh s P) = true := by
  have pd := pts_depth (l := wh s P) (p := p) hp
  have rf := Lw.refl lawB_ok (l := p) (by omega)
  unfold cl
  rcases o with rfl | rfl
  · rw [if_neg and_or]
    exact (Lw.um lawB_ok 59 (Nat.le_refl _)).1 _ p p (by omega) (by rw [isM_wh]; exact decide_eq_true rfl) hp rf
  · rw [if_pos rfl]
    exact Lw.up lawB_ok 59 (Nat.le_refl _) p p _ (by omega) (by rw [isJ_wh]; exact decide_eq_true rfl) hp rf
theorem cl_whole {s : Str} (o : opS s) {P : List PyData} {x : PyData} (h9 : (wh s P).depth ≤ 9) (hx : x.depth ≤ 9) (all : ∀ p ∈ P, cl s p x = true) : cl s (wh s P) x = true := by
  unfold cl at *
  rcases o with rfl | rfl
  · rw [if_neg and_or]
    refine law_met h9 _ x (Nat.lt_succ_self _) hx fun p hp => ?_
    have := all p hp
    rwa [if_neg and_or] at this
  · rw [if_pos rfl]
    refine Lw.joined lawB_ok (by omega) (by rw [isJ_wh]; exact decide_eq_true rfl) fun p hp => ?_
    have := all p hp
    rwa [if_pos rfl] at this
/-! ### words that are equal everywhere -/
structure EqT (d e : PyData) : Prop where
  dp : e.depth ≤ d.depth + 2
  le : lawB e d = true
  ge : lawB d e = true
theorem dep_all {k : Nat} {es : List PyData} (h : ∀ e ∈ es, e.depth ≤ k) (s : Str) : (wh s es).depth ≤ k + 1 := by
  have go : ∀ l : List PyData, (∀ x ∈ l, x.depth ≤ k) → PyData.depthAll l ≤ k := fun l => by
    induction l with
    | nil => intro _; simp [PyData.depthAll]
    | cons x l ih =>
      intro h
      simp only [PyData.depthAll]
      have a := h x List.mem_cons_self
      have b := ih fun y hy => h y (List.mem_cons_of_mem _ hy)
      omega
  have := go es h
  simp only [PyData.depth, PyData.depthAll]
  omega
theorem eqt_refl {d : PyData} (h : d.depth ≤ 7) : EqT d d := ⟨by omega, Lw.refl lawB_ok (by omega), Lw.refl lawB_ok (by omega)⟩
theorem eqt_of {s : Str} {d e : PyData} (h : e.depth ≤ d.depth + 2) (a : cl s e d = true) (b : cl s d e = true) : EqT d e := by
  unfold cl at a b
  split at a
  · rename_i z; rw [if_pos z] at b; exact ⟨h, a, b⟩
  · rename_i z; rw [if_neg z] at b; exact ⟨h, b, a⟩
theorem eqt_list {o : Str} (op : opS o) {ds es : List PyData} (hd : (wh o ds).depth ≤ 7) (he : (wh o es).depth ≤ (wh o ds).depth + 2) (h1 : ∀ e ∈ es, cl o e (wh o ds) = true) (h2 : ∀ d ∈ ds, cl o d (wh o es) = true) : EqT (wh o ds) (wh o es) :=
  eqt_of he (cl_whole op (by omega) (by omega) h1) (cl_whole op (by omega) (by omega) h2)
theorem eqt_sub {o : Str} (op : opS o) {ds es : List PyData} (hd : (wh o ds).depth ≤ 7) (h1 : ∀ e ∈ es, e ∈ ds) (h2 : ∀ d ∈ ds, d ∈ es) : EqT (wh o ds) (wh o es) := by
  have he : (wh o es).depth ≤ (wh o ds).depth := by
    have z := dep_all (k := (wh o ds).depth - 1) (es := es) (fun e he => by have := pts_depth (l := wh o ds) (p := e) (h1 e he); omega) o
    have : 1 ≤ (wh o ds).depth := by simp [PyData.depth]
    omega
  exact eqt_list op hd (by omega) (fun e he' => cl_part op (h1 e he') (by omega)) fun d hd' => cl_part op (h2 d hd') (by omega)
/-- some of the parts put together -/
theorem eqt_nest {o : Str} (op : opS o) {A B : List PyData} (hd : (wh o (A ++ B)).depth ≤ 7) : EqT (wh o (A ++ B)) (wh o (A ++ [wh o B])) := by
  have pd := fun (e : PyData) (he : e ∈ A ++ B) => pts_depth (l := wh o (A ++ B)) (p := e) he
  have one : 1 ≤ (wh o (A ++ B)).depth := by simp [PyData.depth]
  have hB : (wh o B).depth ≤ (wh o (A ++ B)).depth := by
    have z := dep_all (k := (wh o (A ++ B)).depth - 1) (es := B) (fun e he => by have := pd e (List.mem_append_right _ he); omega) o
    omega
  have hN : (wh o (A ++ [wh o B])).depth ≤ (wh o (A ++ B)).depth + 1 := dep_all (fun e he => by
    rcases List.mem_append.mp he with z | z
    · have := pd e (List.mem_append_left _ z); omega
    · rw [List.mem_singleton.mp z]; exact hB) o
  refine eqt_list op hd (by omega) (fun e he => ?_) fun d hd' => ?_
  · rcases List.mem_append.mp he with z | z
    · exact cl_part op (List.mem_append_left _ z) (by omega)
    · rw [List.mem_singleton.mp z]
      exact cl_whole op (by omega) (by omega) fun b hb => cl_part op (List.mem_append_right _ hb) (by omega)
  · rcases List.mem_append.mp hd' with z | z
    · exact cl_part op (List.mem_append_left _ z) (by omega)
    · have := pd d hd'
      exact cl_trans (by omega) (by omega) (by omega) (cl_part op z (by omega)) (cl_part op (p := wh o B) (List.mem_append_right _ (List.mem_singleton.mpr rfl)) (by omega))
theorem eqt_set {o : Str} (op : opS o) {ds : List PyData} {j : Nat} {p e : PyData} (hd : (wh o ds).depth ≤ 7) (hj : ds[j]? = some p) (h : EqT p e) : EqT (wh o ds) (wh o (ds.set j e)) := by
  have pd := fun (e : PyData) (he : e ∈ ds) => pts_depth (l := wh o ds) (p := e) he
  have mp := List.mem_of_getElem? hj
  have dp := pd p mp
  have de := h.dp
  have hN : (wh o (ds.set j e)).depth ≤ (wh o ds).depth + 2 := dep_all (k := (wh o ds).depth + 1) (fun x hx => by
    rcases List.mem_or_eq_of_mem_set hx with z | z
    · have := pd x z; omega
    · rw [z]; omega) o
  obtain ⟨lj, ej⟩ := List.getElem?_eq_some_iff.mp hj
  have me : e ∈ ds.set j e := List.mem_iff_getElem?.mpr ⟨j, by rw [List.getElem?_set]; simp [lj]⟩
  have c := eq_cl (s := o) ⟨h.le, h.ge⟩
  refine eqt_list op hd hN (fun x hx => ?_) fun x hx => ?_
  · rcases List.mem_or_eq_of_mem_set hx with z | z
    · exact cl_part op z (by omega)
    · rw [z]
      exact cl_trans (by omega) (by omega) (by omega) c.1 (cl_part op mp (by omega))
  · obtain ⟨i, hi⟩ := List.getElem?_of_mem hx
    by_cases ij : i = j
    · subst ij
      rw [hj] at hi
      cases hi
      exact cl_trans (by omega) (by omega) (by omega) c.2 (cl_part op me (by omega))
    · exact cl_part op (List.mem_iff_getElem?.mpr ⟨i, by rw [List.getElem?_set]; rw [if_neg (Ne.symm ij)]; exact hi⟩) (by omega)
/-- absorbed -/
theorem eqt_abs {s s' : Str} (o : opS s) (o' : opS s') (ne : s' ≠ s) {d m : PyData} (h : d.depth ≤ 7) (hm : m.depth = 0) {P Q : List PyData} (hP : ∀ x, x ∈ P ↔ x = d ∨ x = wh s' Q) (hQ : ∀ x, x ∈ Q ↔ x = d ∨ x = m) : EqT d (wh s P) := by
  have dQ : (wh s' Q).depth ≤ d.depth + 1 := dep_all (fun x hx => by rcases (hQ x).mp hx with z | z <;> rw [z] <;> omega) s'
  have dP : (wh s P).depth ≤ d.depth + 2 := dep_all (fun x hx => by rcases (hP x).mp hx with z | z <;> rw [z] <;> omega) s
  have a := cl_part o' ((hQ d).mpr (.inl rfl)) (by omega)
  have b : cl s (wh s' Q) d = true := by
    unfold cl at a ⊢
    rcases o with rfl | rfl <;> rcases o' with rfl | rfl
    · exact absurd rfl ne
    · rw [if_pos rfl] at a; rw [if_neg and_or]; exact a
    · rw [if_neg and_or] at a; rw [if_pos rfl]; exact a
    · exact absurd rfl ne
  refine eqt_of dP (cl_whole o (by omega) (by omega) fun x hx => ?_) (cl_part o ((hP d).mpr (.inl rfl)) (by omega))
  rcases (hP x).mp hx with z | z
  · rw [z]; exact cl_refl (by omega)
  · rw [z]; exact b
theorem eqt_two {s : Str} (o : opS s) {d : PyData} (h : d.depth ≤ 7) : EqT d (wh s [d, d]) := by
  have dP : (wh s [d, d]).depth ≤ d.depth + 1 := dep_all (fun x hx => by simp only [List.mem_cons, List.not_mem_nil, or_false] at hx; rcases hx with z | z <;> rw [z] <;> exact Nat.le_refl _) s
  refine eqt_of (by omega) (cl_whole o (by omega) (by omega) fun x hx => ?_) (cl_part o List.mem_cons_self (by omega))
  simp only [List.mem_cons, List.not_mem_nil, or_false] at hx
  rcases hx with z | z <;> rw [z] <;> exact cl_refl (by omega)
theorem EqT.trans {d e g : PyData} (h1 : lawB d e = true ∧ lawB e d = true) (h2 : EqT e g) (hd : d.depth ≤ 9) (he : e.depth ≤ 9) (hg : g.depth ≤ 11) : lawB d g = true ∧ lawB g d = true :=
  ⟨Lw.trans lawB_ok 59 (Nat.le_refl _) d e g (by omega) h1.1 h2.ge, Lw.trans lawB_ok 59 (Nat.le_refl _) g e d (by omega) h2.le h1.2⟩
end FvF


namespace Fv
open PySem PySem.Spec PyProof.Rows L2 FvX TL
/-! ### reading the text of a term gives the term -/
theorem drop_add {T u v : List Nat} {a : Nat} (h : T.drop a = u ++ v) : T.drop (a + u.length) = v := by
  rw [← List.drop_drop, h, List.drop_left]
theorem sub_eq {T u v : List Nat} {a : Nat} {s : Str} (h : T.drop a = u ++ v) (hs : tl s = u) : sub T a u.length = s := by
  refine ext_tl ?_
  rw [tl_sub, h, List.take_left, hs]
theorem sub_eq1 {T v : List Nat} {a c : Nat} (h : T.drop a = c :: v) : sub T a 1 = ⟨#[c]⟩ := by
  refine ext_tl ?_
  rw [tl_sub, h]
  rfl
theorem joinL_flat (S p : List Nat) : ∀ ps : List (List Nat), joinL S (p :: ps) = p ++ ps.flatMap (fun x => S ++ x)
  | [] => by simp [joinL]
  | q :: ps => by
    have e : joinL S (p :: q :: ps) = p ++ (S ++ joinL S (q :: ps)) := rfl
    rw [e, joinL_flat S q ps, List.flatMap_cons, List.append_assoc]
theorem isL_nopar {x : Str} (h : isL x = true) : x ≠ "(" := fun e => by
  rw [e] at h
  have : isL "(" = false := by decide +kernel
  rw [this] at h
  cases h
theorem tl_par (x : Str) : tl (("(" : Str) ++ x ++ ")") = 40 :: (tl x ++ [41]) := by
  rw [tl_append, tl_append]
  rfl
theorem rdL_txt {T : List Nat} {P : Nat → Option (PyData × Nat)} {sg : Str} (hs : sg.length = 3) : ∀ (ds : List PyData) (f a : Nat) (acc : List PyData) (rest : List Nat),
    (∀ d ∈ ds, ∀ b r, T.drop b = tl (ptx d) ++ r → P b = some (d, b + (ptx d).length)) → T.drop a = ((ds.map ptx).map tl).flatMap (fun x => tl sg ++ x) ++ rest → rest.take 3 ≠ tl sg → ds.length < f →
    rdL P T sg f a acc = some (acc ++ ds, a + (((ds.map ptx).map tl).flatMap (fun x => tl sg ++ x)).length)
  | [], f, a, acc, rest, _, h, hr, hf => by
    obtain ⟨f, rfl⟩ : ∃ g, f = g + 1 := ⟨f - 1, by simp at hf; omega⟩
    have h' : T.drop a = rest := h
    have e : sub T a 3 ≠ sg := fun z => hr (by rw [← h', ← z]; rfl)
    unfold rdL
    rw [if_neg e]
    simp
  | d :: ds, f, a, acc, rest, hP, h, hr, hf => by
    rw [List.length_cons] at hf
    obtain ⟨f, rfl⟩ : ∃ g, f = g + 1 := ⟨f - 1, by omega⟩
    rw [List.map_cons, List.map_cons, List.flatMap_cons] at h ⊢
    have l3 : (tl sg).length = 3 := by rw [← len_tl]; exact hs
    have h1 : T.drop a = tl sg ++ (tl (ptx d) ++ (((ds.map ptx).map tl).flatMap (fun x => tl sg ++ x) ++ rest)) := by
      rw [h]; simp only [List.append_assoc]
    have e : sub T a 3 = sg := by
      have := sub_eq (s := sg) h1 rfl
      rw [l3] at this
      exact this
    have h2 := drop_add h1
    rw [l3] at h2
    have h3 := drop_add h2
    have hp := hP d (List.mem_cons_self ..) _ _ h2
    unfold rdL
    rw [if_pos e, hp]
    dsimp only
    have l4 : (ptx d).length = (tl (ptx d)).length := len_tl _
    rw [l4]
    rw [rdL_txt hs ds f _ (acc ++ [d]) rest (fun x hx => hP x (List.mem_cons_of_mem _ hx)) h3 hr (by omega)]
    rw [List.append_assoc, List.length_append, List.length_append, l3]
    simp only [List.singleton_append, Option.some.injEq, Prod.mk.injEq, true_and]
    omega
theorem sg_of {o : Str} (ho : o = "&" ∨ o = "|") : isSg (" " ++ o ++ " ") ∧ sgn (" " ++ o ++ " ") = o ∧ ∀ rest : List Nat, rest = [] ∨ rest.head? = some 41 → rest.take 3 ≠ tl (" " ++ o ++ " ") := by
  have key : ∀ c : Nat, ∀ rest : List Nat, rest = [] ∨ rest.head? = some 41 → rest.take 3 ≠ [32, c, 32] := fun c rest h e => by
    rcases h with h | h
    · rw [h] at e; cases e
    · cases rest with
      | nil => cases h
      | cons r rs =>
        cases h
        rw [List.take_succ_cons] at e
        cases e
  rcases ho with ho | ho <;> subst ho
  · refine ⟨.inl (by decide +kernel), by decide +kernel, ?_⟩
    have e : tl (" " ++ "&" ++ " ") = [32, 38, 32] := by decide +kernel
    rw [e]; exact key 38
  · refine ⟨.inr (by decide +kernel), by decide +kernel, ?_⟩
    have e : tl (" " ++ "|" ++ " ") = [32, 124, 32] := by decide +kernel
    rw [e]; exact key 124
theorem flat_len {S : List Nat} (hS : 1 ≤ S.length) : ∀ l : List (List Nat), l.length ≤ (l.flatMap fun x => S ++ x).length
  | [] => Nat.zero_le _
  | x :: l => by
    have := flat_len hS l
    rw [List.flatMap_cons, List.length_append, List.length_append, List.length_cons]
    omega
theorem rdT_txt {T : List Nat} {n : Nat} {P : Nat → Option (PyData × Nat)} {o : Str} {ds : List PyData} (ho : o = "&" ∨ o = "|") (h2 : 2 ≤ ds.length)
    (hP : ∀ d ∈ ds, ∀ b r, T.drop b = tl (ptx d) ++ r → P b = some (d, b + (ptx d).length)) {a : Nat} {rest : List Nat} (h : T.drop a = tl (txt (.tuple (.str o :: ds))) ++ rest) (hr : rest = [] ∨ rest.head? = some 41) :
    rdT P T a = some (.tuple (.str o :: ds), a + (txt (.tuple (.str o :: ds))).length) := by
  obtain ⟨s1, s2, s3⟩ := sg_of ho
  have l3 : (tl (" " ++ o ++ " ")).length = 3 := by rw [← len_tl]; exact sep_len ho
  cases ds with
  | nil => simp at h2
  | cons d ds =>
    rw [List.length_cons] at h2
    rw [txt_tup, join_eq, tl_join, List.map_cons, List.map_cons, joinL_flat] at h
    rw [txt_tup, join_eq, len_tl (Str.join _ _), tl_join, List.map_cons, List.map_cons, joinL_flat]
    have h1 : T.drop a = tl (ptx d) ++ (((ds.map ptx).map tl).flatMap (fun x => tl (" " ++ o ++ " ") ++ x) ++ rest) := by rw [h, List.append_assoc]
    have hp := hP d (List.mem_cons_self ..) _ _ h1
    have hd := drop_add h1
    have l4 : (ptx d).length = (tl (ptx d)).length := len_tl _
    unfold rdT
    rw [hp]
    dsimp only
    rw [l4]
    have e : sub T (a + (tl (ptx d)).length) 3 = " " ++ o ++ " " := by
      cases ds with
      | nil => simp at h2
      | cons d2 ds2 =>
        rw [List.map_cons, List.map_cons, List.flatMap_cons] at hd
        have hd' : T.drop (a + (tl (ptx d)).length) = tl (" " ++ o ++ " ") ++ (tl (ptx d2) ++ (((ds2.map ptx).map tl).flatMap (fun x => tl (" " ++ o ++ " ") ++ x) ++ rest)) := by
          rw [hd]; simp only [List.append_assoc]
        have := sub_eq (s := " " ++ o ++ " ") hd' rfl
        rw [l3] at this
        exact this
    rw [e, if_pos s1]
    have fu : ds.length < T.length + 1 - (a + (tl (ptx d)).length) := by
      have hl := congrArg List.length hd
      rw [List.length_drop, List.length_append] at hl
      have := flat_len (S := tl (" " ++ o ++ " ")) (by omega) ((ds.map ptx).map tl)
      rw [List.length_map, List.length_map] at this
      omega
    rw [rdL_txt (sep_len ho) ds _ _ [d] rest (fun x hx => hP x (List.mem_cons_of_mem _ hx)) hd (s3 rest hr) fu]
    dsimp only
    rw [s2, List.length_append]
    simp only [List.singleton_append, Option.some.injEq, Prod.mk.injEq, true_and]
    omega
theorem rdP_txt : ∀ (n : Nat) (d : PyData), 1 ≤ lmeas (n + 1) d → ∀ (T : List Nat) (a : Nat) (rest : List Nat), T.drop a = tl (ptx d) ++ rest → rdP T n a = some (d, a + (ptx d).length)
  | n, d, h, T, a, rest, hd => by
    rcases lmeas_inv h with ⟨x, rfl, hx⟩ | ⟨o, ds, rfl, nl, ho, h2, all1, e⟩
    · have ep : ptx (.str x) = x := by unfold ptx; rw [if_pos (show isLd (.str x) = true from hx), txt_str]
      rw [ep] at hd ⊢
      have es := sub_eq (s := x) hd rfl
      rw [← len_tl, isL_len hx] at es
      rw [isL_len hx]
      cases n with
      | zero => unfold rdP; rw [es, if_pos hx]
      | succ n => unfold rdP; rw [es, if_pos hx]
    · have ep : ptx (.tuple (.str o :: ds)) = "(" ++ txt (.tuple (.str o :: ds)) ++ ")" := by unfold ptx; rw [if_neg (by rw [nl]; decide)]
      cases n with
      | zero =>
        cases ds with
        | nil => simp at h2
        | cons d ds =>
          have := all1 d (List.mem_cons_self ..)
          simp only [lmeas] at this
          omega
      | succ n =>
        rw [ep, tl_par] at hd
        rw [ep, par_len]
        have e1 : sub T a 1 = "(" := sub_eq1 hd
        have nL : ¬ isL (sub T a 1) = true := fun z => isL_nopar z e1
        have hd1 : T.drop (a + 1) = tl (txt (.tuple (.str o :: ds))) ++ (41 :: rest) := by
          have z := drop_add (u := [40]) (v := tl (txt (.tuple (.str o :: ds))) ++ [41] ++ rest) hd
          rw [List.append_assoc] at z
          exact z
        have hT := rdT_txt (n := n) (P := rdP T n) ho h2 (fun d hd b r hb => rdP_txt n d (all1 d hd) T b r hb) hd1 (.inr rfl)
        have hd2 := drop_add hd1
        rw [← len_tl] at hd2
        have e2 : sub T (a + 1 + (txt (.tuple (.str o :: ds))).length) 1 = ")" := sub_eq1 hd2
        unfold rdP
        rw [if_neg nL, if_pos e1, hT]
        dsimp only
        rw [if_neg (fun z => z.elim (fun y => by rw [nl] at y; cases y) (fun y => y e2))]
        simp only [Option.some.injEq, Prod.mk.injEq, true_and]
        omega
theorem prs_txt {d : PyData} (h : tmB d = true) : prs (txt d) = some d := by
  obtain ⟨h1, h2⟩ := (tmB_iff d).mp h
  have fin : rdT (rdP (tl (txt d)) 5) (tl (txt d)) 0 = some (d, (txt d).length) → prs (txt d) = some d := fun e => by
    unfold prs
    rw [e]
    dsimp only
    rw [if_neg (fun z => z.elim (fun y => Nat.lt_irrefl _ y) (fun y => by rw [h] at y; cases y))]
  refine fin ?_
  rcases lmeas_inv h1 with ⟨x, rfl, hx⟩ | ⟨o, ds, rfl, nl, ho, h3, all1, e⟩
  · rw [txt_str]
    have ep : ptx (.str x) = x := by unfold ptx; rw [if_pos (show isLd (.str x) = true from hx), txt_str]
    have l6 : 1 ≤ lmeas 6 (.str x) := by rw [lmeas_up 5 _ h1]; exact h1
    have hp := rdP_txt 5 (.str x) l6 (tl x) 0 [] (by rw [ep, List.append_nil]; rfl)
    rw [ep, Nat.zero_add] at hp
    unfold rdT
    rw [hp]
    dsimp only
    have es : sub (tl x) x.length 3 = "" := by
      refine ext_tl ?_
      rw [tl_sub, len_tl, List.drop_length, List.take_nil]
      rfl
    rw [es, if_neg (by decide +kernel), if_pos (show isLd (.str x) = true from hx)]
  · have hp := rdT_txt (n := 5) (T := tl (txt (.tuple (.str o :: ds)))) (P := rdP (tl (txt (.tuple (.str o :: ds)))) 5) ho h3 (fun d hd b r hb => rdP_txt 5 d (by
      have a4 := all1 d hd
      have a5 : lmeas 5 d = lmeas 4 d := lmeas_up 4 d a4
      have a6 : lmeas 6 d = lmeas 5 d := lmeas_up 5 d (by rw [a5]; exact a4)
      show 1 ≤ lmeas 6 d
      rw [a6, a5]
      exact a4) _ b r hb) (a := 0) (rest := []) (by rw [List.append_nil]; rfl) (.inl rfl)
    rw [hp, Nat.zero_add]
theorem app_ok {x y : Str} (hx : PyData.strOk x = true) (hy : PyData.strOk y = true) : PyData.strOk (x ++ y) = true := by
  unfold PyData.strOk at *
  rw [← Array.all_toList, List.all_eq_true] at *
  intro c hc
  have hc' : c ∈ tl (x ++ y) := hc
  rw [tl_append] at hc'
  rcases List.mem_append.mp hc' with z | z
  · exact hx c z
  · exact hy c z
theorem join_ok {s : Str} (hs : PyData.strOk s = true) : ∀ {l : List Str}, (∀ x ∈ l, PyData.strOk x = true) → PyData.strOk (Str.join s l) = true
  | [], _ => by show PyData.strOk Str.empty = true; decide +kernel
  | [x], h => h x (List.mem_cons_self ..)
  | x :: y :: r, h => app_ok (app_ok (h x (List.mem_cons_self ..)) hs) (join_ok hs fun z hz => h z (List.mem_cons_of_mem _ hz))
theorem txt_ok : ∀ (n : Nat) (d : PyData), 1 ≤ lmeas n d → PyData.strOk (txt d) = true
  | 0, d, h => by simp only [lmeas] at h; omega
  | n + 1, d, h => by
    rcases lmeas_inv h with ⟨x, rfl, hx⟩ | ⟨o, ds, rfl, nl, ho, h2, all1, e⟩
    · rw [txt_str]
      have := isL_gd hx 0
      have z : (PyData.strOk x && decide (x.length ≤ 100000)) = true := this
      rw [Bool.and_eq_true] at z
      exact z.1
    · rw [txt_tup, join_eq]
      refine join_ok ?_ fun x hx => ?_
      · rcases ho with ho | ho <;> subst ho <;> decide +kernel
      · obtain ⟨d, hd, rfl⟩ := List.mem_map.mp hx
        have := txt_ok n d (all1 d hd)
        unfold ptx
        split
        · exact this
        · exact app_ok (app_ok (by decide +kernel) this) (by decide +kernel)
end Fv


namespace Fv
open PySem PySem.Spec PyProof.Rows L2 FvX TL
/-! ### what the program reads as a term is the term's text -/
theorem sub_drop {T : List Nat} {a k : Nat} {s : Str} (h : sub T a k = s) (hl : s.length = k) : T.drop a = tl s ++ T.drop (a + k) := by
  have e : (T.drop a).take k = tl s := by rw [← tl_sub, h]
  rw [← e, ← List.drop_drop, List.take_append_drop]
theorem rdL_sound {T : List Nat} {P : Nat → Option (PyData × Nat)} {G : PyData → Prop} {sg : Str} (hs : sg.length = 3) (hP : ∀ b d e, P b = some (d, e) → T.drop b = tl (ptx d) ++ T.drop e ∧ G d) :
    ∀ (f a : Nat) (acc ds : List PyData) (e : Nat), rdL P T sg f a acc = some (ds, e) →
    ∃ r, ds = acc ++ r ∧ T.drop a = ((r.map ptx).map tl).flatMap (fun x => tl sg ++ x) ++ T.drop e ∧ (∀ d ∈ r, G d) ∧ (sub T a 3 = sg → r ≠ [])
  | 0, a, acc, ds, e, h => by cases h
  | f + 1, a, acc, ds, e, h => by
    unfold rdL at h
    by_cases c : sub T a 3 = sg
    · rw [if_pos c] at h
      cases hp : P (a + 3) with
      | none => rw [hp] at h; cases h
      | some r =>
        obtain ⟨d, e1⟩ := r
        rw [hp] at h
        obtain ⟨r, e2, h1, h2, _⟩ := rdL_sound hs hP f e1 (acc ++ [d]) ds e h
        obtain ⟨h3, h4⟩ := hP _ _ _ hp
        refine ⟨d :: r, by rw [e2, List.append_assoc]; rfl, ?_, fun x hx => ?_, fun _ z => by cases z⟩
        · rw [sub_drop c hs, h3, h1, List.map_cons, List.map_cons, List.flatMap_cons]
          simp only [List.append_assoc]
        · rcases List.mem_cons.mp hx with z | z
          · rw [z]; exact h4
          · exact h2 x z
    · rw [if_neg c] at h
      cases h
      exact ⟨[], by rw [List.append_nil], by simp, (fun x hx => nomatch hx), fun z => absurd z c⟩
theorem sgn_sg {s : Str} (h : isSg s) : s = " " ++ sgn s ++ " " ∧ (sgn s = "&" ∨ sgn s = "|") := by
  rcases h with h | h <;> subst h
  · exact ⟨by decide +kernel, .inl (by decide +kernel)⟩
  · exact ⟨by decide +kernel, .inr (by decide +kernel)⟩
theorem lmeas_make {n : Nat} {o : Str} {ds : List PyData} (ho : o = "&" ∨ o = "|") (h2 : 2 ≤ ds.length) (h : ∀ d ∈ ds, 1 ≤ lmeas n d) : 1 ≤ lmeas (n + 1) (.tuple (.str o :: ds)) := by
  have hop : isOp (.str o) = true := by rcases ho with ho | ho <;> subst ho <;> decide +kernel
  have hc : isCd (.tuple (.str o :: ds)) = true := by
    show (decide (2 ≤ ds.length) && isOp (.str o)) = true
    rw [hop, decide_eq_true h2]; rfl
  have e : lmeas (n + 1) (.tuple (.str o :: ds)) = if isCd (.tuple (.str o :: ds)) = true then (if (0 : Int) ∈ ds.map (lmeas n) then 0 else (ds.map (lmeas n)).sum) else 0 := by
    show (if isLd (.tuple (.str o :: ds)) = true then (1 : Int) else _) = _
    rw [if_neg (fun z => by cases z)]
    rfl
  have n0 : ¬ (0 : Int) ∈ ds.map (lmeas n) := fun z => by
    obtain ⟨d, hd, e0⟩ := List.mem_map.mp z
    have := h d hd
    omega
  rw [e, if_pos hc, if_neg n0]
  cases ds with
  | nil => simp at h2
  | cons d ds =>
    rw [List.map_cons, List.sum_cons]
    have := h d (List.mem_cons_self ..)
    have := sum_nonneg (l := ds.map (lmeas n)) fun y hy => by
      obtain ⟨d', _, rfl⟩ := List.mem_map.mp hy
      exact lmeas_nonneg n d'
    omega
theorem rdT_sound {T : List Nat} {n : Nat} {P : Nat → Option (PyData × Nat)} (hP : ∀ b d e, P b = some (d, e) → T.drop b = tl (ptx d) ++ T.drop e ∧ 1 ≤ lmeas (n + 1) d) {a : Nat} {d : PyData} {e : Nat} (h : rdT P T a = some (d, e)) :
    T.drop a = tl (txt d) ++ T.drop e ∧ 1 ≤ lmeas (n + 2) d := by
  unfold rdT at h
  cases hp : P a with
  | none => rw [hp] at h; cases h
  | some r =>
    obtain ⟨d1, e1⟩ := r
    rw [hp] at h
    dsimp only at h
    obtain ⟨h1, h2⟩ := hP _ _ _ hp
    by_cases c : isSg (sub T e1 3)
    · rw [if_pos c] at h
      cases hr : rdL P T (sub T e1 3) (T.length + 1 - e1) e1 [d1] with
      | none => rw [hr] at h; cases h
      | some r =>
        obtain ⟨ds, e2⟩ := r
        rw [hr] at h
        cases h
        obtain ⟨r, er, h3, h4, h5⟩ := rdL_sound (G := fun d => 1 ≤ lmeas (n + 1) d) (sg_len c) hP _ _ _ _ _ hr
        obtain ⟨g1, g2⟩ := sgn_sg c
        have er' : ds = d1 :: r := er
        subst er'
        have hr1 : 1 ≤ r.length := by
          cases r with
          | nil => exact absurd rfl (h5 rfl)
          | cons _ _ => rw [List.length_cons]; omega
        refine ⟨?_, lmeas_make g2 (by rw [List.length_cons]; omega) fun x hx => ?_⟩
        · rw [txt_tup, join_eq, tl_join, List.map_cons, List.map_cons, joinL_flat, ← g1, h1, h3, List.append_assoc]
        · rcases List.mem_cons.mp hx with z | z
          · rw [z]; exact h2
          · exact h4 x z
    · rw [if_neg c] at h
      by_cases c2 : isLd d1 = true
      · rw [if_pos c2] at h
        cases h
        have ep : ptx d = txt d := by unfold ptx; rw [if_pos c2]
        rw [ep] at h1
        exact ⟨h1, by rw [lmeas_up _ _ h2]; exact h2⟩
      · rw [if_neg c2] at h; cases h
theorem rdP_sound {T : List Nat} : ∀ (n b : Nat) (d : PyData) (e : Nat), rdP T n b = some (d, e) → T.drop b = tl (ptx d) ++ T.drop e ∧ 1 ≤ lmeas (n + 1) d
  | n, b, d, e, h => by
    have lett : isL (sub T b 1) = true → some (PyData.str (sub T b 1), b + 1) = some (d, e) → T.drop b = tl (ptx d) ++ T.drop e ∧ 1 ≤ lmeas (n + 1) d := fun c h => by
      cases h
      have ep : ptx (.str (sub T b 1)) = sub T b 1 := by unfold ptx; rw [if_pos (show isLd (.str (sub T b 1)) = true from c), txt_str]
      refine ⟨by rw [ep]; exact sub_drop rfl (isL_len c), ?_⟩
      show 1 ≤ (if isL (sub T b 1) = true then (1 : Int) else _)
      rw [if_pos c]
      decide
    cases n with
    | zero =>
      unfold rdP at h
      by_cases c : isL (sub T b 1) = true
      · rw [if_pos c] at h; exact lett c h
      · rw [if_neg c] at h; cases h
    | succ n =>
      unfold rdP at h
      by_cases c : isL (sub T b 1) = true
      · rw [if_pos c] at h; exact lett c h
      · rw [if_neg c] at h
        by_cases c2 : sub T b 1 = "("
        · rw [if_pos c2] at h
          cases hr : rdT (rdP T n) T (b + 1) with
          | none => rw [hr] at h; cases h
          | some r =>
            obtain ⟨d1, e1⟩ := r
            rw [hr] at h
            dsimp only at h
            by_cases c3 : isLd d1 = true ∨ sub T e1 1 ≠ ")"
            · rw [if_pos c3] at h; cases h
            · rw [if_neg c3] at h
              cases h
              have c4 : sub T e1 1 = ")" := Classical.not_not.mp fun z => c3 (.inr z)
              have c5 : ¬ isLd d = true := fun z => c3 (.inl z)
              obtain ⟨h1, h2⟩ := rdT_sound (n := n) (rdP_sound n) hr
              have ep : ptx d = "(" ++ txt d ++ ")" := by unfold ptx; rw [if_neg c5]
              refine ⟨?_, h2⟩
              rw [ep, tl_par, sub_drop c2 (by decide +kernel), h1, sub_drop c4 (by decide +kernel)]
              show [40] ++ (tl (txt d) ++ ([41] ++ _)) = 40 :: (tl (txt d) ++ [41]) ++ _
              simp only [List.append_assoc, List.singleton_append, List.cons_append, List.nil_append]
        · rw [if_neg c2] at h; cases h
theorem prs_sound {x : Str} {d : PyData} (h : prs x = some d) : x = txt d ∧ tmB d = true := by
  unfold prs at h
  cases hr : rdT (rdP (tl x) 5) (tl x) 0 with
  | none => rw [hr] at h; cases h
  | some r =>
    obtain ⟨d1, e⟩ := r
    rw [hr] at h
    dsimp only at h
    by_cases c : e < x.length ∨ tmB d1 = false
    · rw [if_pos c] at h; cases h
    · rw [if_neg c] at h
      cases h
      obtain ⟨h1, _⟩ := rdT_sound (n := 5) (rdP_sound 5) hr
      have he : (tl x).drop e = [] := List.drop_of_length_le (by
        have : ¬ e < x.length := fun z => c (.inl z)
        rw [len_tl] at this
        omega)
      rw [he, List.append_nil, List.drop_zero] at h1
      refine ⟨ext_tl h1, ?_⟩
      cases ht : tmB d with
      | true => rfl
      | false => exact absurd (.inr ht) c
/-- parse_term reads the texts of terms, and nothing else -/
theorem prs_iff {x : Str} {d : PyData} : prs x = some d ↔ x = txt d ∧ tmB d = true := ⟨prs_sound, fun ⟨e, h⟩ => by rw [e]; exact prs_txt h⟩
end Fv


namespace Fv
open PySem PySem.Spec PyProof.Rows L2 FvX TL
/-! ### the law's own reading: pieces at level 0, over code points -/
def dl (c : Nat) : Int := (if c = 40 then 1 else 0) - (if c = 41 then 1 else 0)
def scn : List Nat → Int → List (List Nat) → List Nat → List Nat → Option (Int × List (List Nat) × List Nat)
  | [], lv, ps, cur, sg => some (lv, ps ++ [cur], sg)
  | c :: r, lv, ps, cur, sg => if lv = 0 ∧ isSg (sub (c :: r) 0 3) then scn (r.drop 2) lv (ps ++ [cur]) [] (sg ++ [r.headD 0])
    else if lv + dl c < 0 then none else scn r (lv + dl c) ps (cur ++ [c]) sg
termination_by R => R.length
decreasing_by
  · simp only [List.length_drop, List.length_cons]; omega
  · simp only [List.length_cons]; omega
theorem scn_nil (lv : Int) (ps : List (List Nat)) (cur sg : List Nat) : scn [] lv ps cur sg = some (lv, ps ++ [cur], sg) := by unfold scn; rfl
theorem scn_cons (c : Nat) (r : List Nat) (lv : Int) (ps : List (List Nat)) (cur sg : List Nat) : scn (c :: r) lv ps cur sg = if lv = 0 ∧ isSg (sub (c :: r) 0 3) then scn (r.drop 2) lv (ps ++ [cur]) [] (sg ++ [r.headD 0])
    else if lv + dl c < 0 then none else scn r (lv + dl c) ps (cur ++ [c]) sg := by
  rw [scn]
theorem sg_codes {s : Str} (h : isSg s) : tl s = [32, 38, 32] ∨ tl s = [32, 124, 32] := by
  rcases h with h | h <;> subst h
  · exact .inl (by decide +kernel)
  · exact .inr (by decide +kernel)
theorem sg_head {R : List Nat} (h : isSg (sub R 0 3)) : ∃ s r, R = 32 :: s :: 32 :: r ∧ (s = 38 ∨ s = 124) := by
  have e : tl (sub R 0 3) = R.take 3 := by rw [tl_sub, List.drop_zero]
  have key : ∀ s : Nat, R.take 3 = [32, s, 32] → ∃ r, R = 32 :: s :: 32 :: r := fun s z => by
    refine ⟨R.drop 3, ?_⟩
    have := List.take_append_drop 3 R
    rw [z] at this
    exact this.symm
  rcases sg_codes h with z | z
  · obtain ⟨r, hr⟩ := key 38 (e.symm.trans z)
    exact ⟨38, r, hr, .inl rfl⟩
  · obtain ⟨r, hr⟩ := key 124 (e.symm.trans z)
    exact ⟨124, r, hr, .inr rfl⟩
theorem scn_sound : ∀ (n : Nat) (R : List Nat), R.length ≤ n → ∀ (lv : Int) (ps : List (List Nat)) (cur sg : List Nat) (lv' : Int) (ps' : List (List Nat)) (sg' : List Nat), scn R lv ps cur sg = some (lv', ps', sg') →
    ∃ (q : List Nat) (l : List (Nat × List Nat)), ps' = ps ++ (cur ++ q) :: l.map (·.2) ∧ sg' = sg ++ l.map (·.1) ∧ R = q ++ l.flatMap (fun t => [32, t.1, 32] ++ t.2) ∧ ∀ t ∈ l, t.1 = 38 ∨ t.1 = 124
  | n, [], _, lv, ps, cur, sg, lv', ps', sg', h => by
    rw [scn_nil] at h
    cases h
    exact ⟨[], [], by simp, by simp, rfl, fun t ht => nomatch ht⟩
  | 0, c :: r, hn, _, _, _, _, _, _, _, _ => by simp at hn
  | n + 1, c :: r, hn, lv, ps, cur, sg, lv', ps', sg', h => by
    rw [List.length_cons] at hn
    rw [scn_cons] at h
    by_cases k : lv = 0 ∧ isSg (sub (c :: r) 0 3)
    · rw [if_pos k] at h
      obtain ⟨s, r', er, hs⟩ := sg_head k.2
      cases er
      have h' : scn r' lv (ps ++ [cur]) [] (sg ++ [s]) = some (lv', ps', sg') := h
      obtain ⟨q, l, e1, e2, e3, e4⟩ := scn_sound n r' (by simp only [List.length_cons] at hn; omega) _ _ _ _ _ _ _ h'
      refine ⟨[], (s, q) :: l, ?_, ?_, ?_, fun t ht => ?_⟩
      · rw [e1]; simp
      · rw [e2]; simp
      · rw [e3]; simp
      · rcases List.mem_cons.mp ht with z | z
        · rw [z]; exact hs
        · exact e4 t z
    · rw [if_neg k] at h
      by_cases k2 : lv + dl c < 0
      · rw [if_pos k2] at h; cases h
      · rw [if_neg k2] at h
        obtain ⟨q, l, e1, e2, e3, e4⟩ := scn_sound n r (by omega) _ _ _ _ _ _ _ h
        refine ⟨c :: q, l, ?_, e2, ?_, e4⟩
        · rw [e1]; simp
        · rw [e3]; simp
/-! a sign of no weight -/
theorem scn_quiet {c : Nat} {r : List Nat} {lv : Int} {ps : List (List Nat)} {cur sg : List Nat} (h0 : 0 ≤ lv) (h1 : c ≠ 40) (h2 : c ≠ 41) (h : 1 ≤ lv ∨ c ≠ 32) : scn (c :: r) lv ps cur sg = scn r lv ps (cur ++ [c]) sg := by
  have nk : ¬ (lv = 0 ∧ isSg (sub (c :: r) 0 3)) := fun z => by
    obtain ⟨s, r', er, _⟩ := sg_head z.2
    cases er
    rcases h with h | h
    · omega
    · exact h rfl
  have e : dl c = 0 := by unfold dl; rw [if_neg h1, if_neg h2]; rfl
  rw [scn_cons, if_neg nk, e, Int.add_zero, if_neg (by omega)]
theorem scn_open {r : List Nat} {lv : Int} {ps : List (List Nat)} {cur sg : List Nat} (h0 : 0 ≤ lv) : scn (40 :: r) lv ps cur sg = scn r (lv + 1) ps (cur ++ [40]) sg := by
  have nk : ¬ (lv = 0 ∧ isSg (sub (40 :: r) 0 3)) := fun z => by
    obtain ⟨s, r', er, _⟩ := sg_head z.2
    cases er
  have e : dl 40 = 1 := by decide
  rw [scn_cons, if_neg nk, e, if_neg (by omega)]
theorem scn_close {r : List Nat} {lv : Int} {ps : List (List Nat)} {cur sg : List Nat} (h0 : 1 ≤ lv) : scn (41 :: r) lv ps cur sg = scn r (lv - 1) ps (cur ++ [41]) sg := by
  have nk : ¬ (lv = 0 ∧ isSg (sub (41 :: r) 0 3)) := fun z => by omega
  have e : dl 41 = -1 := by decide
  rw [scn_cons, if_neg nk, e, if_neg (by omega)]
  rfl
theorem isL_code {x : Str} (h : isL x = true) : ∃ c, tl x = [c] ∧ c ≠ 40 ∧ c ≠ 41 ∧ c ≠ 32 := by
  have all : ∀ x ∈ (["a", "b", "c", "d", "e", "f", "g", "h"] : List Str), ∃ c ∈ ([97, 98, 99, 100, 101, 102, 103, 104] : List Nat), tl x = [c] := by decide +kernel
  obtain ⟨c, hc, e⟩ := all x (isL_one h)
  have ne : ∀ c ∈ ([97, 98, 99, 100, 101, 102, 103, 104] : List Nat), c ≠ 40 ∧ c ≠ 41 ∧ c ≠ 32 := by decide
  exact ⟨c, e, ne c hc⟩
theorem op_code {o : Str} (h : o = "&" ∨ o = "|") : ∃ s, tl (" " ++ o ++ " ") = [32, s, 32] ∧ tl o = [s] ∧ (s = 38 ∨ s = 124) := by
  rcases h with h | h <;> subst h
  · exact ⟨38, by decide +kernel, by decide +kernel, .inl rfl⟩
  · exact ⟨124, by decide +kernel, by decide +kernel, .inr rfl⟩
/-- inside of parentheses nothing is cut -/
theorem scn_flat {s : Nat} (hs : s = 38 ∨ s = 124) : ∀ (l : List (List Nat)), (∀ u ∈ l, ∀ R (lv : Int) ps cur sg, 1 ≤ lv → scn (u ++ R) lv ps cur sg = scn R lv ps (cur ++ u) sg) → ∀ R (lv : Int) ps cur sg, 1 ≤ lv →
    scn (l.flatMap (fun x => [32, s, 32] ++ x) ++ R) lv ps cur sg = scn R lv ps (cur ++ l.flatMap (fun x => [32, s, 32] ++ x)) sg
  | [], _, R, lv, ps, cur, sg, _ => by simp
  | u :: l, h, R, lv, ps, cur, sg, h1 => by
    have e : (u :: l).flatMap (fun x => [32, s, 32] ++ x) ++ R = 32 :: s :: 32 :: (u ++ (l.flatMap (fun x => [32, s, 32] ++ x) ++ R)) := by simp
    rw [e, scn_quiet (by omega) (by decide) (by decide) (.inl h1), scn_quiet (by omega) (by omega) (by omega) (.inl h1), scn_quiet (by omega) (by decide) (by decide) (.inl h1), h u (List.mem_cons_self ..) _ _ _ _ _ h1,
      scn_flat hs l (fun x hx => h x (List.mem_cons_of_mem _ hx)) R lv ps _ sg h1]
    simp
theorem scn_txt : ∀ (n : Nat) (d : PyData), 1 ≤ lmeas n d → (∀ R (lv : Int) ps cur sg, 1 ≤ lv → scn (tl (txt d) ++ R) lv ps cur sg = scn R lv ps (cur ++ tl (txt d)) sg) ∧ (∀ R (lv : Int) ps cur sg, 0 ≤ lv → scn (tl (ptx d) ++ R) lv ps cur sg = scn R lv ps (cur ++ tl (ptx d)) sg)
  | 0, d, h => by simp only [lmeas] at h; omega
  | n + 1, d, h => by
    have par : isLd d = false → (∀ R (lv : Int) ps cur sg, 1 ≤ lv → scn (tl (txt d) ++ R) lv ps cur sg = scn R lv ps (cur ++ tl (txt d)) sg) → ∀ R (lv : Int) ps cur sg, 0 ≤ lv → scn (tl (ptx d) ++ R) lv ps cur sg = scn R lv ps (cur ++ tl (ptx d)) sg := fun nl ht R lv ps cur sg h0 => by
      have ep : ptx d = "(" ++ txt d ++ ")" := by unfold ptx; rw [if_neg (by rw [nl]; decide)]
      rw [ep, tl_par, List.cons_append, List.append_assoc, scn_open h0, ht _ _ _ _ _ (by omega), List.singleton_append, scn_close (by omega), Int.add_sub_cancel]
      simp
    rcases lmeas_inv h with ⟨x, rfl, hx⟩ | ⟨o, ds, rfl, nl, ho, h2, all1, e⟩
    · obtain ⟨c, ec, c1, c2, c3⟩ := isL_code hx
      have ep : ptx (.str x) = x := by unfold ptx; rw [if_pos (show isLd (.str x) = true from hx), txt_str]
      rw [ep, txt_str, ec]
      exact ⟨fun R lv ps cur sg h1 => scn_quiet (by omega) c1 c2 (.inr c3), fun R lv ps cur sg h1 => scn_quiet h1 c1 c2 (.inr c3)⟩
    · have ht : ∀ R (lv : Int) ps cur sg, 1 ≤ lv → scn (tl (txt (.tuple (.str o :: ds))) ++ R) lv ps cur sg = scn R lv ps (cur ++ tl (txt (.tuple (.str o :: ds)))) sg := fun R lv ps cur sg h1 => by
        obtain ⟨s, e1, e2, e3⟩ := op_code ho
        cases ds with
        | nil => simp at h2
        | cons d ds =>
          rw [txt_tup, join_eq, tl_join, List.map_cons, List.map_cons, joinL_flat, e1, List.append_assoc, (scn_txt n d (all1 d (List.mem_cons_self ..))).2 _ _ _ _ _ (by omega),
            scn_flat e3 _ (fun u hu R lv ps cur sg h1 => ?_) R lv ps _ sg h1, List.append_assoc]
          obtain ⟨y, hy, rfl⟩ := List.mem_map.mp hu
          obtain ⟨d', hd', rfl⟩ := List.mem_map.mp hy
          exact (scn_txt n d' (all1 d' (List.mem_cons_of_mem _ hd'))).2 R lv ps cur sg (by omega)
      exact ⟨ht, par nl ht⟩
/-- at level 0 the text of a term falls into its parts -/
theorem scn_cut {s : Nat} (hs : s = 38 ∨ s = 124) : ∀ (l : List (List Nat)), (∀ u ∈ l, ∀ R (lv : Int) ps cur sg, 0 ≤ lv → scn (u ++ R) lv ps cur sg = scn R lv ps (cur ++ u) sg) → ∀ ps cur sg,
    scn (l.flatMap (fun x => [32, s, 32] ++ x)) 0 ps cur sg = some (0, ps ++ cur :: l, sg ++ List.replicate l.length s)
  | [], _, ps, cur, sg => by
    show scn [] 0 ps cur sg = _
    rw [scn_nil]
    simp
  | u :: l, h, ps, cur, sg => by
    have e : (u :: l).flatMap (fun x => [32, s, 32] ++ x) = 32 :: s :: 32 :: (u ++ l.flatMap (fun x => [32, s, 32] ++ x)) := by simp
    have k : (0 : Int) = 0 ∧ isSg (sub (32 :: s :: 32 :: (u ++ l.flatMap (fun x => [32, s, 32] ++ x))) 0 3) := ⟨rfl, by
      rcases hs with hs | hs <;> subst hs
      · exact .inl (ext_tl (by rw [tl_sub]; rfl))
      · exact .inr (ext_tl (by rw [tl_sub]; rfl))⟩
    rw [e, scn_cons, if_pos k]
    show scn (u ++ l.flatMap (fun x => [32, s, 32] ++ x)) 0 (ps ++ [cur]) [] (sg ++ [s]) = _
    rw [h u (List.mem_cons_self ..) _ _ _ _ _ (Int.le_refl _), List.nil_append, scn_cut hs l (fun x hx => h x (List.mem_cons_of_mem _ hx))]
    simp [List.replicate_succ]
theorem scn_term {n : Nat} {o : Str} {ds : List PyData} (ho : o = "&" ∨ o = "|") (h2 : 2 ≤ ds.length) (all1 : ∀ x ∈ ds, 1 ≤ lmeas n x) :
    ∃ s, tl o = [s] ∧ scn (tl (txt (.tuple (.str o :: ds)))) 0 [] [] [] = some (0, (ds.map ptx).map tl, List.replicate (ds.length - 1) s) := by
  obtain ⟨s, e1, e2, e3⟩ := op_code ho
  refine ⟨s, e2, ?_⟩
  cases ds with
  | nil => simp at h2
  | cons d ds =>
    rw [txt_tup, join_eq, tl_join, List.map_cons, List.map_cons, joinL_flat, e1, (scn_txt n d (all1 d (List.mem_cons_self ..))).2 _ _ _ _ _ (Int.le_refl _), List.nil_append,
      scn_cut e3 _ (fun u hu R lv ps cur sg h0 => ?_)]
    · simp
    · obtain ⟨y, hy, rfl⟩ := List.mem_map.mp hu
      obtain ⟨d', hd', rfl⟩ := List.mem_map.mp hy
      exact (scn_txt n d' (all1 d' (List.mem_cons_of_mem _ hd'))).2 R lv ps cur sg h0
end Fv


namespace Fv
open PySem PySem.Spec PyProof.Rows L2 FvX TL
/-! ### the law's own reading, and that it agrees with the program's -/
def lrP (f : List Nat → Option PyData) (T : List Nat) : Option PyData :=
  if T.length = 1 then f T else if T.take 1 ≠ [40] ∨ T.drop (T.length - 1) ≠ [41] ∨ T.length < 4 then none else f ((T.drop 1).take (T.length - 2))
def lrL (T : List Nat) : Option PyData := if isL ⟨T.toArray⟩ = true then some (.str ⟨T.toArray⟩) else none
open Classical in
noncomputable def lrC (f : List Nat → Option PyData) (T : List Nat) : Option PyData := match scn T 0 [] [] [] with
  | none => none
  | some (lv, ps, sg) => if 0 < lv ∨ ps.length < 2 ∨ sg ≠ List.replicate sg.length (sg.headD 0) then none else
    if none ∈ ps.map (lrP f) then none else some (.tuple (.str ⟨#[sg.headD 0]⟩ :: (ps.map (lrP f)).filterMap id))
noncomputable def lrT : Nat → List Nat → Option PyData
  | 0 => fun T => if T.length = 1 then lrL T else none
  | n + 1 => fun T => if T.length = 1 then lrL T else if n = 0 then none else lrC (lrT n) T
theorem lrT_one {n : Nat} {T : List Nat} (h : T.length = 1) : lrT n T = lrL T := by
  cases n <;> (unfold lrT; rw [if_pos h])
theorem lrL_some {T : List Nat} {d : PyData} (h : lrL T = some d) : isLd d = true ∧ T = tl (txt d) ∧ T = tl (ptx d) ∧ ∀ n, 1 ≤ lmeas (n + 1) d := by
  unfold lrL at h
  by_cases c : isL ⟨T.toArray⟩ = true
  · rw [if_pos c] at h
    cases h
    have e : isLd (.str ⟨T.toArray⟩) = true := c
    refine ⟨e, by rw [txt_str], by unfold ptx; rw [if_pos e, txt_str], fun n => ?_⟩
    show 1 ≤ (if isL ⟨T.toArray⟩ = true then (1 : Int) else _)
    rw [if_pos c]; decide
  · rw [if_neg c] at h; cases h
theorem mid_eq {T : List Nat} (h1 : T.take 1 = [40]) (h2 : T.drop (T.length - 1) = [41]) (h4 : 4 ≤ T.length) : T = 40 :: ((T.drop 1).take (T.length - 2) ++ [41]) := by
  have a := List.take_append_drop 1 T
  have b := List.take_append_drop (T.length - 2) (T.drop 1)
  rw [List.drop_drop, show 1 + (T.length - 2) = T.length - 1 by omega, h2] at b
  rw [b, h1] at *
  exact a.symm
theorem inner_sound {f : List Nat → Option PyData} {G : PyData → Prop} (hf : ∀ p d, f p = some d → p = tl (ptx d) ∧ G d) : ∀ ps : List (List Nat), none ∉ ps.map f → ((((ps.map f).filterMap id).map ptx).map tl = ps ∧ ∀ d ∈ (ps.map f).filterMap id, G d)
  | [], _ => ⟨rfl, fun d hd => nomatch hd⟩
  | p :: ps, h => by
    rw [List.map_cons, List.mem_cons, not_or] at h
    obtain ⟨h1, h2⟩ := inner_sound hf ps h.2
    cases hp : f p with
    | none => exact absurd hp.symm h.1
    | some d =>
      obtain ⟨g1, g2⟩ := hf p d hp
      rw [List.map_cons, hp]
      refine ⟨?_, fun x hx => ?_⟩
      · show tl (ptx d) :: _ = _
        rw [h1, ← g1]
      · rcases List.mem_cons.mp hx with z | z
        · rw [z]; exact g2
        · exact h2 x z
theorem lrT_sound : ∀ (n : Nat) (T : List Nat) (d : PyData), lrT (n + 1) T = some d → T = tl (txt d) ∧ 1 ≤ lmeas (n + 1) d
  | n, T, d, h => by
    by_cases c : T.length = 1
    · rw [lrT_one c] at h
      obtain ⟨_, h2, _, h4⟩ := lrL_some h
      exact ⟨h2, h4 n⟩
    · cases n with
      | zero =>
        unfold lrT at h
        rw [if_neg c, if_pos rfl] at h
        cases h
      | succ n =>
        unfold lrT at h
        rw [if_neg c, if_neg (by omega)] at h
        unfold lrC at h
        cases hs : scn T 0 [] [] [] with
        | none => rw [hs] at h; cases h
        | some r =>
          obtain ⟨lv, ps, sg⟩ := r
          rw [hs] at h
          dsimp only at h
          by_cases k1 : 0 < lv ∨ ps.length < 2 ∨ sg ≠ List.replicate sg.length (sg.headD 0)
          · rw [if_pos k1] at h; cases h
          · rw [if_neg k1] at h
            by_cases k2 : none ∈ ps.map (lrP (lrT (n + 1)))
            · rw [if_pos k2] at h; cases h
            · rw [if_neg k2] at h
              have k3 : ¬ ps.length < 2 := fun z => k1 (.inr (.inl z))
              have k4 : sg = List.replicate sg.length (sg.headD 0) := Classical.not_not.mp fun z => k1 (.inr (.inr z))
              have hf : ∀ p d, lrP (lrT (n + 1)) p = some d → p = tl (ptx d) ∧ 1 ≤ lmeas (n + 1) d := fun p d hp => by
                unfold lrP at hp
                by_cases j : p.length = 1
                · rw [if_pos j, lrT_one j] at hp
                  obtain ⟨_, _, h3, h4⟩ := lrL_some hp
                  exact ⟨h3, h4 n⟩
                · rw [if_neg j] at hp
                  by_cases j2 : p.take 1 ≠ [40] ∨ p.drop (p.length - 1) ≠ [41] ∨ p.length < 4
                  · rw [if_pos j2] at hp; cases hp
                  · rw [if_neg j2] at hp
                    have j3 : p.take 1 = [40] := Classical.not_not.mp fun z => j2 (.inl z)
                    have j4 : p.drop (p.length - 1) = [41] := Classical.not_not.mp fun z => j2 (.inr (.inl z))
                    have j5 : ¬ p.length < 4 := fun z => j2 (.inr (.inr z))
                    obtain ⟨g1, g2⟩ := lrT_sound n _ _ hp
                    have ml : ((p.drop 1).take (p.length - 2)).length = p.length - 2 := by rw [List.length_take, List.length_drop]; omega
                    have nl : ¬ isLd d = true := fun z => by
                      cases d with
                      | str x =>
                        rw [g1, txt_str, ← len_tl, isL_len z] at ml
                        omega
                      | _ => cases z
                    refine ⟨?_, g2⟩
                    unfold ptx
                    rw [if_neg nl, tl_par, ← g1]
                    exact mid_eq j3 j4 (by omega)
              obtain ⟨e1, e2⟩ := inner_sound hf ps k2
              obtain ⟨q, l, a1, a2, a3, a4⟩ := scn_sound _ T (Nat.le_refl _) _ _ _ _ _ _ _ hs
              rw [List.nil_append, List.nil_append] at a1
              rw [List.nil_append] at a2
              have ll : 1 ≤ l.length := by
                rw [a1, List.length_cons, List.length_map] at k3
                omega
              have all : ∀ t ∈ l, t.1 = sg.headD 0 := fun t ht => by
                have m : t.1 ∈ sg := by rw [a2]; exact List.mem_map.mpr ⟨t, ht, rfl⟩
                rw [k4] at m
                exact (List.mem_replicate.mp m).2
              obtain ⟨t0, ht0⟩ : ∃ t0, t0 ∈ l := by
                cases l with
                | nil => simp at ll
                | cons t l => exact ⟨t, List.mem_cons_self ..⟩
              have hs0 : sg.headD 0 = 38 ∨ sg.headD 0 = 124 := by rw [← all t0 ht0]; exact a4 t0 ht0
              have ho : ((⟨#[sg.headD 0]⟩ : Str) = "&" ∨ (⟨#[sg.headD 0]⟩ : Str) = "|") := by
                rcases hs0 with z | z <;> rw [z]
                · exact .inl (by decide +kernel)
                · exact .inr (by decide +kernel)
              have hsep : tl (" " ++ (⟨#[sg.headD 0]⟩ : Str) ++ " ") = [32, sg.headD 0, 32] := by rw [tl_append, tl_append]; rfl
              cases h
              have el : ((ps.map (lrP (lrT (n + 1)))).filterMap id).length = ps.length := by
                have := congrArg List.length e1
                rw [List.length_map, List.length_map] at this
                exact this
              refine ⟨?_, lmeas_make ho (by omega) e2⟩
              rw [txt_tup, join_eq, tl_join, e1, hsep, a1, joinL_flat, a3]
              congr 1
              clear a1 a2 a3 e1 e2 el hs k2 k3 k4 hf ll ht0 ho hsep hs0 a4
              induction l with
              | nil => rfl
              | cons t l ih =>
                rw [List.flatMap_cons, List.map_cons, List.flatMap_cons, all t (List.mem_cons_self ..), ih (fun x hx => all x (List.mem_cons_of_mem _ hx))]
theorem txt_len3 {o : Str} {ds : List PyData} (ho : o = "&" ∨ o = "|") (h2 : 2 ≤ ds.length) : 3 ≤ (tl (txt (.tuple (.str o :: ds)))).length := by
  cases ds with
  | nil => simp at h2
  | cons d ds =>
    rw [List.length_cons] at h2
    rw [txt_tup, join_eq, tl_join, List.map_cons, List.map_cons, joinL_len, ← len_tl (" " ++ o ++ " "), sep_len ho, List.length_map, List.length_map]
    omega
theorem lrT_txt : ∀ (n : Nat) (d : PyData), 1 ≤ lmeas n d → lrT n (tl (txt d)) = some d
  | 0, d, h => by simp only [lmeas] at h; omega
  | n + 1, d, h => by
    have lett : ∀ (m : Nat) (x : Str), isL x = true → lrT m (tl x) = some (.str x) := fun m x hx => by
      rw [lrT_one (by rw [← len_tl]; exact isL_len hx)]
      unfold lrL
      rw [mk_tl, if_pos hx]
    rcases lmeas_inv h with ⟨x, rfl, hx⟩ | ⟨o, ds, rfl, nl, ho, h2, all1, e⟩
    · rw [txt_str]; exact lett _ x hx
    · have n0 : n ≠ 0 := fun z => by
        subst z
        cases ds with
        | nil => simp at h2
        | cons d ds =>
          have := all1 d (List.mem_cons_self ..)
          simp only [lmeas] at this
          omega
      have l3 := txt_len3 ho h2
      obtain ⟨s, e1, e2⟩ := scn_term ho h2 all1
      have part : ∀ x ∈ ds, lrP (lrT n) (tl (ptx x)) = some x := fun x hx => by
        have ih := lrT_txt n x (all1 x hx)
        obtain ⟨m, rfl⟩ : ∃ m, n = m + 1 := ⟨n - 1, by omega⟩
        unfold lrP
        rcases lmeas_inv (all1 x hx) with ⟨y, rfl, hy⟩ | ⟨o', ds', rfl, nl', ho', h2', _, _⟩
        · have ep : ptx (.str y) = y := by unfold ptx; rw [if_pos (show isLd (.str y) = true from hy), txt_str]
          rw [ep, if_pos (by rw [← len_tl]; exact isL_len hy)]
          exact lett _ y hy
        · have l3' := txt_len3 ho' h2'
          have ep : ptx (.tuple (.str o' :: ds')) = "(" ++ txt (.tuple (.str o' :: ds')) ++ ")" := by unfold ptx; rw [if_neg (by rw [nl']; decide)]
          rw [ep, tl_par]
          have ll : (40 :: (tl (txt (.tuple (.str o' :: ds'))) ++ [41])).length = (tl (txt (.tuple (.str o' :: ds')))).length + 2 := by simp
          have d1 : (40 :: (tl (txt (.tuple (.str o' :: ds'))) ++ [41])).drop ((40 :: (tl (txt (.tuple (.str o' :: ds'))) ++ [41])).length - 1) = [41] := by
            rw [ll, show (tl (txt (.tuple (.str o' :: ds')))).length + 2 - 1 = (tl (txt (.tuple (.str o' :: ds')))).length + 1 by omega, List.drop_succ_cons, List.drop_left]
          have d2 : ((40 :: (tl (txt (.tuple (.str o' :: ds'))) ++ [41])).drop 1).take ((40 :: (tl (txt (.tuple (.str o' :: ds'))) ++ [41])).length - 2) = tl (txt (.tuple (.str o' :: ds'))) := by
            rw [ll, Nat.add_sub_cancel, List.drop_succ_cons, List.drop_zero, List.take_left]
          rw [if_neg (by rw [ll]; omega), if_neg (fun z => by
            rcases z with z | z | z
            · exact z rfl
            · exact z d1
            · rw [ll] at z; omega), d2]
          exact ih
      have em : ((ds.map ptx).map tl).map (lrP (lrT n)) = ds.map some := by
        rw [List.map_map, List.map_map]
        exact List.map_congr_left part
      unfold lrT
      rw [if_neg (by omega), if_neg n0]
      unfold lrC
      rw [e2]
      dsimp only
      obtain ⟨j, ej⟩ : ∃ j, ds.length - 1 = j + 1 := ⟨ds.length - 2, by omega⟩
      have hh : (List.replicate (ds.length - 1) s).headD 0 = s := by rw [ej, List.replicate_succ]; rfl
      rw [if_neg (fun z => by
        rcases z with z | z | z
        · omega
        · rw [List.length_map, List.length_map] at z; omega
        · rw [hh, List.length_replicate] at z; exact z rfl), em, if_neg (fun z => by
        obtain ⟨x, _, ex⟩ := List.mem_map.mp z
        cases ex), hh]
      have eo : (⟨#[s]⟩ : Str) = o := ext_tl (by rw [e1])
      have ef : (ds.map some).filterMap id = ds := by
        rw [List.filterMap_map]
        exact List.filterMap_some
      rw [eo, ef]
/-- the law's reading of a text -/
noncomputable def lrd (x : Str) : Option PyData := match lrT 5 (tl x) with
  | none => none
  | some d => if lmeas 5 d ≤ 24 then some d else none
theorem lrd_prs (x : Str) : lrd x = prs x := by
  unfold lrd
  cases h : lrT 5 (tl x) with
  | none =>
    cases hp : prs x with
    | none => rfl
    | some d =>
      obtain ⟨e, ht⟩ := prs_sound hp
      rw [e, lrT_txt 5 d ((tmB_iff d).mp ht).1] at h
      cases h
  | some d =>
    obtain ⟨e, h1⟩ := lrT_sound 4 _ _ h
    dsimp only
    have ex : x = txt d := ext_tl e
    by_cases c : lmeas 5 d ≤ 24
    · rw [if_pos c, ex, prs_txt ((tmB_iff d).mpr ⟨h1, c⟩)]
    · rw [if_neg c]
      cases hp : prs x with
      | none => rfl
      | some d' =>
        obtain ⟨e', ht⟩ := prs_sound hp
        have h' := lrT_txt 5 d' ((tmB_iff d').mp ht).1
        rw [← e', h] at h'
        cases h'
        exact absurd ((tmB_iff d).mp ht).2 c
end Fv


/-! the law's own reading of the order: _law_below -/
namespace FvF
open PySem PySem.Spec PyProof.Rows L2 Fv FvD FvG FvX FvW TL
-- top 37  slots: 0:_law_one 1:_law_other 2:_law_known 3:_law_key
abbrev s_law_below : Stmt := topS 37
abbrev N_law_below : List Str := ["_law_one", "_law_other", "_law_known", "_law_key"]
theorem sc_law_below : FnScope N_law_below ["_law_one", "_law_other", "_law_known"] (defScope s_law_below) := ⟨rfl, rfl, rfl, by decide +kernel, rfl, by decide +kernel, by decide +kernel⟩

-- top 38  slots: 0:_law_one 1:_law_other 2:_law_known 3:_law_part
abbrev s_law_below_now : Stmt := topS 38
abbrev N_law_below_now : List Str := ["_law_one", "_law_other", "_law_known", "_law_part"]
theorem sc_law_below_now : FnScope N_law_below_now ["_law_one", "_law_other", "_law_known"] (defScope s_law_below_now) := ⟨rfl, rfl, rfl, by decide +kernel, rfl, by decide +kernel, by decide +kernel⟩

theorem no_join {S p : List Nat} {ps : List (List Nat)} (hS : 60 ∉ S) (h : ∀ x ∈ p :: ps, 60 ∉ x) : 60 ∉ joinL S (p :: ps) := by
  rw [joinL_flat, List.mem_append, List.mem_flatMap]
  rintro (z | ⟨x, hx, z⟩)
  · exact h _ List.mem_cons_self z
  · rcases List.mem_append.mp z with z | z
    · exact hS z
    · exact h x (List.mem_cons_of_mem _ hx) z
theorem txt_no : ∀ (n : Nat) (d : PyData), 1 ≤ lmeas n d → 60 ∉ tl (txt d)
  | 0, d, h => by simp only [lmeas] at h; omega
  | n + 1, d, h => by
    rcases lmeas_inv h with ⟨x, rfl, hx⟩ | ⟨o, ds, rfl, _, ho, h2, all1, e⟩
    · rw [txt_str]
      have : ∀ x ∈ (["a", "b", "c", "d", "e", "f", "g", "h"] : List Str), 60 ∉ tl x := by decide +kernel
      exact this x (isL_one hx)
    · have hp : ∀ d ∈ ds, 60 ∉ tl (ptx d) := fun d hd => by
        have a := txt_no n d (all1 d hd)
        unfold ptx
        split
        · exact a
        · rw [tl_par]
          simp only [List.mem_cons, List.mem_append, List.not_mem_nil, or_false, not_or]
          exact ⟨by decide, a, by decide⟩
      match ds, h2, hp with
      | d0 :: ds, _, hp =>
        rw [txt_tup, join_eq, tl_join, List.map_cons, List.map_cons]
        refine no_join ?_ fun x hx => ?_
        · rcases ho with rfl | rfl <;> decide +kernel
        · rcases List.mem_cons.mp hx with z | z
          · rw [z]; exact hp d0 List.mem_cons_self
          · obtain ⟨y, hy, rfl⟩ := List.mem_map.mp z
            obtain ⟨d, hd, rfl⟩ := List.mem_map.mp hy
            exact hp d (List.mem_cons_of_mem _ hd)
theorem cut60 : ∀ {a a' b b' : List Nat}, 60 ∉ a → 60 ∉ a' → a ++ 60 :: b = a' ++ 60 :: b' → a = a' ∧ b = b'
  | [], [], b, b', _, _, h => by simpa using h
  | [], c :: a', b, b', _, h2, h => by
    injection h with h _
    exact absurd (h ▸ List.mem_cons_self) h2
  | c :: a, [], b, b', h1, _, h => by
    injection h with h _
    exact absurd (h ▸ List.mem_cons_self) h1
  | c :: a, c' :: a', b, b', h1, h2, h => by
    injection h with e h
    obtain ⟨x, y⟩ := cut60 (fun z => h1 (List.mem_cons_of_mem _ z)) (fun z => h2 (List.mem_cons_of_mem _ z)) h
    exact ⟨by rw [e, x], y⟩
def gT (l r : PyData) : Str := txt l ++ " < " ++ txt r
theorem txt_injF {d e : PyData} (hd : 1 ≤ lmeas 9 d) (he : 1 ≤ lmeas 9 e) (h : txt d = txt e) : d = e := by
  have a := lrT_txt 9 d hd
  rw [h, lrT_txt 9 e he] at a
  exact (Option.some.inj a).symm
theorem gT_inj {l r l' r' : PyData} (tl' : Tk l) (tr : Tk r) (tl2 : Tk l') (tr2 : Tk r') (h : gT l r = gT l' r') : l = l' ∧ r = r' := by
  have e : ∀ a b : PyData, tl (gT a b) = (tl (txt a) ++ [32]) ++ 60 :: (32 :: tl (txt b)) := fun a b => by
    unfold gT
    rw [tl_append, tl_append, show tl (" < " : Str) = [32, 60, 32] from by decide +kernel]
    simp
  have no : ∀ {a : PyData}, Tk a → 60 ∉ tl (txt a) ++ [32] := fun {a} t => by
    rw [List.mem_append]
    rintro (z | z)
    · exact txt_no 9 a t.one z
    · simp at z
  have h2 : tl (gT l r) = tl (gT l' r') := by rw [h]
  rw [e, e] at h2
  obtain ⟨a, b⟩ := cut60 (no tl') (no tl2) h2
  injection b with _ b
  exact ⟨txt_injF tl'.one tl2.one (ext_tl (List.append_cancel_right a)), txt_injF tr.one tr2.one (ext_tl b)⟩
/-- what the law knows -/
structure LAt (w : World) (H : Hp) (d : Addr) (kvs : List NKV) (A : List PyData) : Prop where
  dc : H d = some (NdO w d kvs)
  vl : ∀ p ∈ kvs, ∃ l r, p.1 = .str (gT l r) ∧ p.2.1 = .str (gT l r) ∧ p.2.2 = .bl (lawB l r) ∧ l ∈ A ∧ r ∈ A
  nd : (kvs.map fun p => nk p.1).Nodup
theorem LAt.same {w : World} {H H' : Hp} {d : Addr} {kvs : List NKV} {A : List PyData} (h : LAt w H d kvs A) (s : Same H H') : LAt w H' d kvs A := ⟨s _ _ h.dc, h.vl, h.nd⟩
theorem LAt.trk {w : World} {H : Hp} {d : Addr} {kvs : List NKV} {A : List PyData} (h : LAt w H d kvs A) : Trk [d] H := fun b hb => by
  rw [List.mem_singleton.mp hb]; exact ⟨_, h.dc⟩
theorem LAt.ky {w : World} {K : PySem.W.Frag} {H H' : Hp} {d : Addr} {kvs : List NKV} {A : List PyData} (h : LAt w H d kvs A) : KyOk K H' kvs := fun p hp => by
  obtain ⟨l, r, e1, e2, _⟩ := h.vl p hp
  rw [e1, e2]
  exact ⟨kd_str, .str _⟩
theorem LAt.small {w : World} {H : Hp} {d : Addr} {kvs : List NKV} {A : List PyData} (h : LAt w H d kvs A) (la : A.length ≤ 1200) : kvs.length < sizeLine := by
  have a := nodupK_le (kvs.map fun p => nk p.1) ((A.flatMap fun l => A.map fun r => nk (.str (gT l r)))) h.nd fun x hx => by
    obtain ⟨p, hp, rfl⟩ := List.mem_map.mp hx
    obtain ⟨l, r, e, _, _, ml, mr⟩ := h.vl p hp
    rw [e]
    exact List.mem_flatMap.mpr ⟨l, ml, List.mem_map.mpr ⟨r, mr, rfl⟩⟩
  have b : ∀ X : List PyData, (X.flatMap fun l => A.map fun r => nk (.str (gT l r))).length = X.length * A.length := fun X => by
    induction X with
    | nil => simp
    | cons x X ih =>
      rw [List.flatMap_cons, List.length_append, ih, List.length_map, List.length_cons, Nat.succ_mul]
      omega
  rw [b, List.length_map] at a
  have c := Nat.mul_le_mul la la
  rw [sizeLine_eq]
  omega
theorem LAt.get {w : World} {H : Hp} {d : Addr} {kvs : List NKV} {A : List PyData} {l r : PyData} (h : LAt w H d kvs A) (tA : ∀ x ∈ A, Tk x) (tl : Tk l) (tr : Tk r) (e : (kvs.any fun p => decide (nk p.1 = nk (.str (gT l r)))) = true) : valD kvs (.str (gT l r)) = some (.bl (lawB l r)) := by
  unfold valD
  cases hf : kvs.find? fun p => decide (nk p.1 = nk (.str (gT l r))) with
  | none =>
    obtain ⟨p, hp, z⟩ := List.any_eq_true.mp e
    exact absurd z (List.find?_eq_none.mp hf p hp)
  | some p =>
    have hp := List.mem_of_find?_eq_some hf
    have z : nk p.1 = nk (.str (gT l r)) := of_decide_eq_true (List.find?_some (p := fun p : NKV => decide (nk p.1 = nk (.str (gT l r)))) hf)
    obtain ⟨l', r', e1, _, e3, ml, mr⟩ := h.vl p hp
    have e2 := nk_inj 8 8 _ _ (by rw [e1]; exact kd_str) kd_str z
    rw [e1] at e2
    injection e2 with e2
    obtain ⟨rfl, rfl⟩ := gT_inj (tA _ ml) (tA _ mr) tl tr e2
    show some p.2.2 = _
    rw [e3]
theorem LAt.put {w : World} {H : Hp} {d : Addr} {kvs : List NKV} {A : List PyData} {l r : PyData} (h : LAt w H d kvs A) (ml : l ∈ A) (mr : r ∈ A) :
    LAt w (upd H d (NdO w d (putN kvs (.str (gT l r)) (.str (gT l r)) (.bl (lawB l r))))) d (putN kvs (.str (gT l r)) (.str (gT l r)) (.bl (lawB l r))) A ∧ valD (putN kvs (.str (gT l r)) (.str (gT l r)) (.bl (lawB l r))) (.str (gT l r)) = some (.bl (lawB l r)) := by
  refine ⟨⟨upd_same, fun p hp => ?_, putN_keys kvs _ _ _ h.nd⟩, ?_⟩
  · unfold putN at hp
    split at hp
    · obtain ⟨q, hq, e⟩ := List.mem_map.mp hp
      by_cases c : nk q.1 = nk (.str (gT l r))
      · rw [if_pos c] at e
        subst e
        obtain ⟨l', r', e1, e2, _⟩ := h.vl q hq
        have e3 := nk_inj 8 8 _ _ (by rw [e1]; exact kd_str) kd_str c
        refine ⟨l, r, e3, ?_, rfl, ml, mr⟩
        rw [e1] at e3
        injection e3 with e3
        show q.2.1 = _
        rw [e2, e3]
      · rw [if_neg c] at e
        subst e
        exact h.vl q hq
    · rcases List.mem_append.mp hp with z | z
      · exact h.vl p z
      · rw [List.mem_singleton.mp z]
        exact ⟨l, r, rfl, rfl, rfl, ml, mr⟩
  · unfold valD putN
    by_cases c : (kvs.any fun p => decide (nk p.1 = nk (.str (gT l r)))) = true
    · rw [if_pos c]
      obtain ⟨p, hp, z⟩ := List.any_eq_true.mp c
      cases hf : (kvs.map fun p => if nk p.1 = nk (.str (gT l r)) then (p.1, p.2.1, .bl (lawB l r)) else p).find? fun p => decide (nk p.1 = nk (.str (gT l r))) with
      | none =>
        have := List.find?_eq_none.mp hf _ (List.mem_map.mpr ⟨p, hp, rfl⟩)
        rw [if_pos (of_decide_eq_true z)] at this
        exact absurd z this
      | some q =>
        have hq := List.mem_of_find?_eq_some hf
        have z2 : nk q.1 = nk (.str (gT l r)) := of_decide_eq_true (List.find?_some (p := fun p : NKV => decide (nk p.1 = nk (.str (gT l r)))) hf)
        obtain ⟨p2, hp2, e⟩ := List.mem_map.mp hq
        by_cases c2 : nk p2.1 = nk (.str (gT l r))
        · rw [if_pos c2] at e
          rw [← e]
          rfl
        · rw [if_neg c2] at e
          rw [e] at c2
          exact absurd z2 c2
    · rw [if_neg c, List.find?_append]
      cases hf : kvs.find? fun p => decide (nk p.1 = nk (.str (gT l r))) with
      | some q => exact absurd (List.any_eq_true.mpr ⟨q, List.mem_of_find?_eq_some hf, List.find?_some hf⟩) c
      | none => simp
/-- truth values made in a comprehension over a tuple, with the law's table in it -/
theorem lc_bl {w : World} {K : PySem.W.Frag} {a d : Addr} {kvs : List NKV} {A : List PyData} {xs : List V} {ds : List PyData} {f : PyData → Bool} {g : TG} {te : TE} {vs : List Nat} {σ : L2.St} {H1 : Hp} {D : Addr} {Qd : Hp → Prop} (hl : SqT K (hide [d] H1) a xs) (hn : H1 D = none) (hL : LAt w H1 d kvs A) (hD : DpAll K (hide [d] H1) xs ds) (lb : ds.length ≤ 900)
    (hs : ∀ (x : V) (e : PyData) (H' : Hp) (kvs' : List NKV), e ∈ ds → LAt w H' d kvs' A → SmX [d] H1 H' → Dp K (hide [d] H') x e → ∀ (N : V → Hp → Prop) (M : Hp → Prop), (∀ H'' kvs'', LAt w H'' d kvs'' A → SmX [d] H' H'' → N (.bl (f e)) H'') → g x (wipe σ vs) H' fun σ2 H2 => wipe σ2 vs = wipe σ vs ∧ tYes σ2 H2 fun b H3 => if b = true then te σ2 H3 N else M H3)
    (hd : ∀ H' kvs', LAt w H' d kvs' A → SmX [d] H1 H' → H' D = some (.lst ((ds.map f).map V.bl)) → Qd H') :
    ∃ W : Nat → Nat → Hp → Prop, (∃ m, W 0 m (upd H1 D (.lst []))) ∧ ∀ i m H, W i m H →
      ((Itt K a).stop i H ∧ Qd H) ∨ ((Itt K a).go i H ∧ ∃ Nx : Hp → Prop, (∀ H', Nx H' → ∃ m', m' < m ∧ W (i + 1) m' H') ∧ ∀ x H', (Itt K a).yld i H x H' → g x (wipe σ vs) H' fun σ2 H2 => wipe σ2 vs = wipe σ vs ∧ tYes σ2 H2 fun b H3 =>
        if b = true then te σ2 H3 fun y H4 => ∃ acc, H4 D = some (.lst acc) ∧ acc.length < sizeLine ∧ Nx (upd H4 D (.lst (acc ++ [y]))) else Nx H3) := by
  have lx := dpAll_len hD
  have Dd : D ≠ d := fun z => by rw [z, hL.dc] at hn; cases hn
  have pD : ∀ {H' : Hp} {kvs' : List NKV} {o : HO}, LAt w H' d kvs' A → LAt w (upd H' D o) d kvs' A := fun h => ⟨by rw [upd_ne (Ne.symm Dd)]; exact h.dc, h.vl, h.nd⟩
  have sD : ∀ {H' : Hp} {o : HO}, SmX [d] H1 H' → SmX [d] H1 (upd H' D o) := fun h b o m e => by
    rw [upd_ne (ne_of_none e hn)]
    exact h b o m e
  refine lc_tup (xs := xs) (fun i H' => ∃ kvs', LAt w H' d kvs' A ∧ SmX [d] H1 H' ∧ H' D = some (.lst (((ds.take i).map f).map V.bl))) ⟨kvs, pD hL, sD (SmX.refl _ _), upd_same⟩ (fun i H' _ p => ?_) (fun i x H' hx p => ?_) (fun H' p => ?_)
  · obtain ⟨kvs', _, sm, _⟩ := p
    exact same_seqT (sm.hid.trans hide_same) hl
  · obtain ⟨kvs', hL', sm, e⟩ := p
    obtain ⟨dd, hd', hDx⟩ := dpAll_get hD hx
    have il := (List.getElem?_eq_some_iff.mp hd').1
    refine hs x dd H' kvs' (List.mem_of_getElem? hd') hL' sm (dp_same sm.hid _ _ hDx) _ _ fun H4 kvs4 hL4 sm4 => ⟨_, sm4 _ _ (fun z => Dd (List.mem_singleton.mp z)) e, small1000 (by rw [List.length_map, List.length_map, List.length_take]; omega), kvs4, pD hL4, sD (sm.trans sm4), ?_⟩
    rw [upd_same, List.take_add_one, hd', List.map_append, List.map_append]
    rfl
  · obtain ⟨kvs', hL', sm, e⟩ := p
    rw [lx, List.take_length] at e
    exact hd H' kvs' hL' sm e
def spBl (K : PySem.W.Frag) (w : World) (n : Nat) : Sp := fun vs H Q _ => ∃ (d : Addr) (kvs : List NKV) (A : List PyData) (vl vr : V) (l r : PyData), vs = [vl, vr, .ref d] ∧ LAt w H d kvs A ∧ (∀ x ∈ A, Tk x ∧ x.depth ≤ 20 ∧ ∀ p ∈ pts x, p ∈ A) ∧ A.length ≤ 1200 ∧ Dp K (hide [d] H) vl l ∧ Dp K (hide [d] H) vr r ∧ l ∈ A ∧ r ∈ A ∧ l.depth + r.depth < n ∧
  ∀ H' kvs', LAt w H' d kvs' A → SmX [d] H H' → Q (.bl (lawB l r)) H'
theorem bl_zero {P : Program} {w : World} {K : PySem.W.Frag} {mg : Str → Option Value} {base : Heap} {f : Addr} {fd : FuncData} {k : Nat} {ps : List Str} : FnOk P w K mg base CX0 k f fd ps (spBl K w 0) := by
  have no : ∀ vs H Q E, ¬ spBl K w 0 vs H Q E := fun vs H Q E h => by
    obtain ⟨_, _, _, _, _, _, _, _, _, _, _, _, _, _, _, h1, _⟩ := h
    omega
  exact ⟨fun vs H Q E h => absurd h (no vs H Q E), fun A outer s H args us vs Q E _ _ _ _ h => absurd h (no vs H Q E)⟩
section
variable {P : Program} {w : World} {K : PySem.W.Frag} {mg : Str → Option Value} {base : Heap}
theorem ok_below {f : Addr} {fd : FuncData} {k n : Nat} (F : Fun K "_law_below" "_law_below" s_law_below f fd) (hk : 10 ≤ k) (C_law_text : Own P w K mg base 10 "_law_text" ["_law_word"] (spText K 10)) (C_law_below_now : Own P w K mg base k "_law_below_now" ["_law_one", "_law_other", "_law_known"] (spBl K w n)) :
    FnOk P w K mg base CX0 (k + 1) f fd ["_law_one", "_law_other", "_law_known"] (spBl K w n) := by
  refine F.ok sc_law_below (fun vs H Q E h => ?_) (fun cdv A0 outer s H vs Q E hr h => ?_)
  · obtain ⟨d, kvs, A, vl, vr, l, r, rfl, _⟩ := h
    rfl
  · obtain ⟨d, kvs, A, vl, vr, l, r, rfl, hL, uA, lA, hl, hr', ml, mr, hd, good⟩ := h
    refine ⟨_, (pss_cons (ps_set (i := 3) sc_law_below.nd rfl (by first | exact .inl rfl | exact .inr rfl) (pe_op op_add_str (pe_op op_add_str (pe_own C_law_text (hr.mono (by omega)) (by rfl) (pa_cons (pv 0) pa_nil)) pe_str) (pe_own C_law_text (hr.mono (by omega)) (by rfl) (pa_cons (pv 1) pa_nil))))
      (C8.pss_cut (ps_if (pt_cmpR (FvD.op_notInN (K := K) (w := w) rfl rfl (hu9 hr)) (pv 3) (pv 2) (by rfl))
        (pss_one (FvD.ps_dputN (hu9 hr) (pv 2) (pv 3) (pe_own C_law_below_now (hr.mono (by omega)) (by rfl) (pa_cons (pv 0) (pa_cons (pv 1) (pa_cons (pv 2) pa_nil)))) rfl))
        pss_nil)
      (pss_one (ps_ret (FvD.pe_dgetN (K := K) (w := w) rfl rfl (hu9 hr) (pv 2) (pv 3) (fun _ _ => rfl)))))), ?_⟩
    obtain ⟨tl', _, _⟩ := uA _ ml
    obtain ⟨tr, _, _⟩ := uA _ mr
    have ll := txt_len 9 l tl'.one
    have lr := txt_len 9 r tr.one
    have l6 := tl'.top
    have r6 := tr.top
    have l1 : (txt l ++ (" < " : Str)).length = (txt l).length + 3 := by
      rw [len_tl, tl_append, List.length_append, ← len_tl]
      rfl
    refine ⟨_, rfl, vl, l, 9, rfl, dp_same hide_same _ _ hl, tl'.gd, by decide, tl'.one, by omega, fun H1 s1 => ⟨_, _, rfl, rfl, ?_, ⟨_, rfl, vr, r, 9, rfl, dp_same (hide_same.trans s1) _ _ hr', tr.gd, by decide, tr.one, by omega, fun H2 s2 => ⟨_, _, rfl, rfl, ?_, ?_⟩⟩⟩⟩
    · rw [sizeLine_eq]
      show (txt l).length + 3 ≤ _
      omega
    · rw [sizeLine_eq, l1]
      omega
    have s12 := s1.trans s2
    have hL1 := hL.same s12
    have sh := (SmX.of_same (M := [d]) s12).hid
    have hl1 := dp_same sh _ _ hl
    have hr1 := dp_same sh _ _ hr'
    refine ⟨fun σ' H' => ∃ kvs', σ' = [some vl, some vr, some (.ref d), some (.str (gT l r))] ∧ LAt w H' d kvs' A ∧ SmX [d] H2 H' ∧ valD kvs' (.str (gT l r)) = some (.bl (lawB l r)), ?_, ?_⟩
    · refine ⟨_, rfl, _, rfl, d, kvs, .str (gT l r), rfl, .inl hL1.dc, hL1.ky, kd_str, .str _, _, rfl, ?_⟩
      cases ea : kvs.any fun p => decide (nk p.1 = nk (.str (gT l r))) with
      | true => exact iteF ⟨kvs, rfl, hL1, SmX.refl _ _, hL1.get (fun x hx => (uA x hx).1) tl' tr ea⟩
      | false =>
        refine iteT ⟨_, rfl, _, rfl, _, rfl, d, kvs, A, vl, vr, l, r, rfl, hL1, uA, lA, hl1, hr1, ml, mr, hd, fun H3 kvs3 hL3 sm3 => ?_⟩
        obtain ⟨hL4, e4⟩ := hL3.put ml mr
        exact ⟨_, rfl, _, rfl, d, kvs3, .str (gT l r), rfl, hL3.dc, hL3.ky, kd_str, .str _, hL3.small lA, _, rfl, hL4, sm3.put (List.mem_singleton.mpr rfl), e4⟩
    · rintro σ' H3 ⟨kvs', rfl, hL3, sm, ev⟩
      exact ⟨_, rfl, _, rfl, d, kvs', .str (gT l r), _, rfl, hL3.dc, hL3.ky, kd_str, .str _, ev, good _ _ hL3 ((SmX.of_same s12).trans sm)⟩
theorem ok_below_now {f : Addr} {fd : FuncData} {k n : Nat} (F : Fun K "_law_below_now" "_law_below_now" s_law_below_now f fd) (hn : n ≤ 50) (m_all : mg "all" = none) (m_any : mg "any" = none) (C_law_below : Own P w K mg base k "_law_below" ["_law_one", "_law_other", "_law_known"] (spBl K w n)) :
    FnOk P w K mg base CX0 (k + 1) f fd ["_law_one", "_law_other", "_law_known"] (spBl K w (n + 1)) := by
  refine F.ok sc_law_below_now (fun vs H Q E h => ?_) (fun cdv A0 outer s H vs Q E hr h => ?_)
  · obtain ⟨d, kvs, A, vl, vr, l, r, rfl, _⟩ := h
    rfl
  · obtain ⟨d, kvs, A, vl, vr, l, r, rfl, hL, uA, lA, hl, hr', ml, mr, hd, good⟩ := h
    refine ⟨_, (pss_cons (ps_if (pt_cmpR (op_eqD hr.units) (pv 0) (pv 1) (nomark _))
        (pss_one (ps_ret pe_bl))
        pss_nil)
      (pss_cons (ps_if (pt_cmpR op_eq (pe_ix (FvW.ix_or2 ix_str ix_tup) (pv 0) pe_int (fun _ _ => rfl)) pe_str (nomark _))
        (pss_one (ps_ret (pe_callB (cr_all rfl) (by rfl) m_all (by decide +kernel) (pa_cons (pe_lc (own := [("_law_part", 3)]) (g := gName 3) (by rfl) sc_law_below_now.nd (pi_tup (pe_slice sl_tup (pv 0) (po_some pe_int) po_none)) (blkOk_by (own := [("_law_part", 3)]) (N := N_law_below_now) (sc := defScope s_law_below_now) (by decide +kernel)) (fun _ _ _ _ _ => pg_name (i := 3) sc_law_below_now.nd rfl (Or.inl rfl)) (fun _ _ _ _ _ => pts_nil) (fun _ _ _ _ _ => (pe_own C_law_below (hr.mono (by omega)) (by rfl) (pa_cons (pv 3) (pa_cons (pv 1) (pa_cons (pv 2) pa_nil)))))) pa_nil))))
        pss_nil)
      (pss_cons (ps_if (pt_cmpR op_eq (pe_ix (FvW.ix_or2 ix_str ix_tup) (pv 1) pe_int (fun _ _ => rfl)) pe_str (nomark _))
        (pss_one (ps_ret (pe_callB (cr_all rfl) (by rfl) m_all (by decide +kernel) (pa_cons (pe_lc (own := [("_law_part", 3)]) (g := gName 3) (by rfl) sc_law_below_now.nd (pi_tup (pe_slice sl_tup (pv 1) (po_some pe_int) po_none)) (blkOk_by (own := [("_law_part", 3)]) (N := N_law_below_now) (sc := defScope s_law_below_now) (by decide +kernel)) (fun _ _ _ _ _ => pg_name (i := 3) sc_law_below_now.nd rfl (Or.inl rfl)) (fun _ _ _ _ _ => pts_nil) (fun _ _ _ _ _ => (pe_own C_law_below (hr.mono (by omega)) (by rfl) (pa_cons (pv 0) (pa_cons (pv 3) (pa_cons (pv 2) pa_nil)))))) pa_nil))))
        pss_nil)
      (pss_cons (ps_if (PW.pt (pw_and (pt_cmpR op_eq (pe_ix (FvW.ix_or2 ix_str ix_tup) (pv 1) pe_int (fun _ _ => rfl)) pe_str (nomark _)) (pw_and1 (pt_val (pe_callB (cr_any rfl) (by rfl) m_any (by decide +kernel) (pa_cons (pe_lc (own := [("_law_part", 3)]) (g := gName 3) (by rfl) sc_law_below_now.nd (pi_tup (pe_slice sl_tup (pv 1) (po_some pe_int) po_none)) (blkOk_by (own := [("_law_part", 3)]) (N := N_law_below_now) (sc := defScope s_law_below_now) (by decide +kernel)) (fun _ _ _ _ _ => pg_name (i := 3) sc_law_below_now.nd rfl (Or.inl rfl)) (fun _ _ _ _ _ => pts_nil) (fun _ _ _ _ _ => (pe_own C_law_below (hr.mono (by omega)) (by rfl) (pa_cons (pv 0) (pa_cons (pv 3) (pa_cons (pv 2) pa_nil)))))) pa_nil))))))
        (pss_one (ps_ret pe_bl))
        pss_nil)
      (pss_one (ps_ret (pe_and (pe_cmpR op_eq (pe_ix (FvW.ix_or2 ix_str ix_tup) (pv 0) pe_int (fun _ _ => rfl)) pe_str (nomark _)) (pe_one (pe_callB (cr_any rfl) (by rfl) m_any (by decide +kernel) (pa_cons (pe_lc (own := [("_law_part", 3)]) (g := gName 3) (by rfl) sc_law_below_now.nd (pi_tup (pe_slice sl_tup (pv 0) (po_some pe_int) po_none)) (blkOk_by (own := [("_law_part", 3)]) (N := N_law_below_now) (sc := defScope s_law_below_now) (by decide +kernel)) (fun _ _ _ _ _ => pg_name (i := 3) sc_law_below_now.nd rfl (Or.inl rfl)) (fun _ _ _ _ _ => pts_nil) (fun _ _ _ _ _ => (pe_own C_law_below (hr.mono (by omega)) (by rfl) (pa_cons (pv 3) (pa_cons (pv 1) (pa_cons (pv 2) pa_nil)))))) pa_nil)))))))))), ?_⟩
    obtain ⟨tl', dl, pl⟩ := uA _ ml
    obtain ⟨tr, dr, pr⟩ := uA _ mr
    have eW := lawB_ok.eq l r (by omega)
    have jl := isJ_sg tl'
    have jr := isJ_sg tr
    have il := isM_sg tl'
    have ir := isM_sg tr
    refine ⟨_, rfl, _, rfl, l, r, dp_same hide_same _ _ hl, dp_same hide_same _ _ hr', gd_shaped tl'.gd (by decide), gd_shaped tr.gd (by decide), _, rfl, ?_⟩
    by_cases e : l = r
    · rw [show PyData.eqv l r = true from (eqv_iff 8 8 l r tl'.kd tr.kd).mpr (by rw [e])]
      refine iteT ?_
      have := good H kvs hL (SmX.refl _ _)
      rw [eW] at this
      unfold stepL at this
      rw [if_pos e] at this
      exact this
    rw [show PyData.eqv l r = false by
      rw [Bool.eq_false_iff]
      exact fun z => e (nk_inj 8 8 _ _ tl'.kd tr.kd ((eqv_iff 8 8 _ _ tl'.kd tr.kd).mp z))]
    refine iteF ⟨_, rfl, ix_sg (dp_same hide_same _ _ hl) tl' ⟨rfl, _, rfl, ?_⟩⟩
    refine ite2 (fun j => ?_) fun j => ?_
    · refine sl_pts rfl hL.trk hl tl' (by decide +kernel) (of_decide_eq_true j) fun T3 H3 xs3 s3 h3 hx3 => ⟨T3, rfl, ⟨_, same_seqT hide_same h3⟩, fun D nD => lc_bl (f := fun p => lawB p r) h3 nD (hL.same s3) hx3 (pts_900 tl') ?_ ?_⟩
      · intro x p H' kvs' hp hL' sm hDx N M hN
        have dp := pts_depth hp
        exact ⟨rfl, iteT (B := M H') ⟨_, rfl, _, rfl, _, rfl, d, kvs', A, x, vr, p, r, rfl, hL', uA, lA, hDx, dp_same ((SmX.of_same s3).trans sm).hid _ _ hr', pl p hp, mr, by omega, hN⟩⟩
      · intro H' kvs' hL' sm hD
        refine ⟨D, _, rfl, SqL.of hD, ?_⟩
        have := good H' kvs' hL' ((SmX.of_same s3).trans sm)
        rw [eW] at this
        unfold stepL at this
        rw [if_neg e, if_pos (by rw [jl]; exact j)] at this
        rw [List.all_map]
        exact this
    refine ⟨_, rfl, ix_sg (dp_same hide_same _ _ hr') tr ⟨rfl, _, rfl, ?_⟩⟩
    refine ite2 (fun m => ?_) fun m => ?_
    · refine sl_pts rfl hL.trk hr' tr (by decide +kernel) (of_decide_eq_true m) fun T3 H3 xs3 s3 h3 hx3 => ⟨T3, rfl, ⟨_, same_seqT hide_same h3⟩, fun D nD => lc_bl (f := fun p => lawB l p) h3 nD (hL.same s3) hx3 (pts_900 tr) ?_ ?_⟩
      · intro x p H' kvs' hp hL' sm hDx N M hN
        have dp := pts_depth hp
        exact ⟨rfl, iteT (B := M H') ⟨_, rfl, _, rfl, _, rfl, d, kvs', A, vl, x, l, p, rfl, hL', uA, lA, dp_same ((SmX.of_same s3).trans sm).hid _ _ hl, hDx, ml, pr p hp, by omega, hN⟩⟩
      · intro H' kvs' hL' sm hD
        refine ⟨D, _, rfl, SqL.of hD, ?_⟩
        have := good H' kvs' hL' ((SmX.of_same s3).trans sm)
        rw [eW] at this
        unfold stepL at this
        rw [if_neg e, if_neg (by rw [jl]; exact j), if_pos (by rw [ir]; exact m)] at this
        rw [List.all_map]
        exact this
    have fin : ∀ (H1 : Hp) (kvs1 : List NKV), LAt w H1 d kvs1 A → SmX [d] H H1 → ¬ (isJ r = true ∧ (pts r).any (fun p => lawB l p) = true) → tAndV (tOp rEq (tOp (fun x y H Q => rIxS x y H Q ∨ rIxT K x y H Q) (tVar 0) (tC (.int 0))) (tC (.str "&")))
        (tCB (rAny K) (tCons (tLc (iTup K (tSl (rSlT K) (tVar 0) (tPart (tC (.int 1))) tNoPart)) (gName 3) tYes (tCall (spBl K w n) [] C8.E0 (tCons (tVar 3) (tCons (tVar 1) (tCons (tVar 2) tNil)))) [3]) tNil)) [some vl, some vr, some (.ref d), none] H1 Q := by
      intro H1 kvs1 hL1 sm1 nn
      have hl1 := dp_same sm1.hid _ _ hl
      have gd1 : ∀ H' kvs', LAt w H' d kvs' A → SmX [d] H1 H' → Q (.bl (isM l && (pts l).any fun p => lawB p r)) H' := fun H' kvs' hL' sm => by
        have := good H' kvs' hL' (sm1.trans sm)
        rw [eW] at this
        unfold stepL at this
        rw [if_neg e, if_neg (by rw [jl]; exact j), if_neg (by rw [ir]; exact m), if_neg nn] at this
        exact this
      refine ⟨_, rfl, ix_sg (dp_same hide_same _ _ hl1) tl' ⟨rfl, _, rfl, ?_⟩⟩
      refine ite2 (fun c => ?_) fun c => ?_
      · refine sl_pts rfl hL1.trk hl1 tl' (by decide +kernel) (of_decide_eq_true c) fun T3 H3 xs3 s3 h3 hx3 => ⟨T3, rfl, ⟨_, same_seqT hide_same h3⟩, fun D nD => lc_bl (f := fun p => lawB p r) h3 nD (hL1.same s3) hx3 (pts_900 tl') ?_ ?_⟩
        · intro x p H' kvs' hp hL' sm hDx N M hN
          have dp := pts_depth hp
          exact ⟨rfl, iteT (B := M H') ⟨_, rfl, _, rfl, _, rfl, d, kvs', A, x, vr, p, r, rfl, hL', uA, lA, hDx, dp_same (sm1.trans ((SmX.of_same s3).trans sm)).hid _ _ hr', pl p hp, mr, by omega, hN⟩⟩
        · intro H' kvs' hL' sm hD
          refine ⟨D, _, rfl, SqL.of hD, ?_⟩
          have := gd1 H' kvs' hL' ((SmX.of_same s3).trans sm)
          rw [show isM l = true by rw [il]; exact c, Bool.true_and] at this
          rw [List.any_map]
          exact this
      · have := gd1 H1 kvs1 hL1 (SmX.refl _ _)
        rw [show isM l = false by rw [il]; exact Bool.eq_false_iff.mpr c, Bool.false_and] at this
        exact this
    refine ⟨_, rfl, ix_sg (dp_same hide_same _ _ hr') tr ⟨rfl, _, rfl, ?_⟩⟩
    refine ite2 (fun c => ?_) fun c => ?_
    · refine sl_pts rfl hL.trk hr' tr (by decide +kernel) (of_decide_eq_true c) fun T3 H3 xs3 s3 h3 hx3 => ⟨T3, rfl, ⟨_, same_seqT hide_same h3⟩, fun D nD => lc_bl (f := fun p => lawB l p) h3 nD (hL.same s3) hx3 (pts_900 tr) ?_ ?_⟩
      · intro x p H' kvs' hp hL' sm hDx N M hN
        have dp := pts_depth hp
        exact ⟨rfl, iteT (B := M H') ⟨_, rfl, _, rfl, _, rfl, d, kvs', A, vl, x, l, p, rfl, hL', uA, lA, dp_same ((SmX.of_same s3).trans sm).hid _ _ hl, hDx, ml, pr p hp, by omega, hN⟩⟩
      · intro H' kvs' hL' sm hD
        refine ⟨D, _, rfl, SqL.of hD, _, rfl, ?_⟩
        have smH := (SmX.of_same (M := [d]) s3).trans sm
        rw [List.any_map]
        cases ea : (pts r).any fun p => lawB l p with
        | true =>
          rw [show ((pts r).any (id ∘ fun p => lawB l p)) = true from ea]
          refine iteT ?_
          have := good H' kvs' hL' smH
          rw [eW] at this
          unfold stepL at this
          rw [if_neg e, if_neg (by rw [jl]; exact j), if_neg (by rw [ir]; exact m), if_pos ⟨by rw [jr]; exact c, ea⟩] at this
          exact this
        | false =>
          rw [show ((pts r).any (id ∘ fun p => lawB l p)) = false from ea]
          exact iteF (fin H' kvs' hL' smH fun z => by rw [ea] at z; cases z.2)
    · exact iteF (fin H kvs hL (SmX.refl _ _) fun z => c (by rw [← jr]; exact z.1))
end
end FvF


namespace Fv
open PySem PySem.Spec PyProof.Rows L2 FvX TL
/-! ### values with their data; odd values -/
def GE (K : PySem.W.Frag) (n : Nat) (M : List Addr) (H : Hp) (v : V) (d : PyData) : Prop := Dp K (hide M H) v d ∧ gd n d = true
def GVN (K : PySem.W.Frag) (M : List Addr) (H : Hp) (v : V) : Prop := ∃ d, Dp K (hide M H) v d ∧ gd 12 d = true ∧ lmeas 9 d = 0
inductive GEs (K : PySem.W.Frag) (n : Nat) (M : List Addr) (H : Hp) : List V → List PyData → Prop where
  | nil : GEs K n M H [] []
  | cons {v d vs ds} (h : GE K n M H v d) (t : GEs K n M H vs ds) : GEs K n M H (v :: vs) (d :: ds)
section
variable {K : PySem.W.Frag} {n m : Nat} {M : List Addr} {H H' : Hp} {v : V} {d : PyData}
theorem GE.same (g : GE K n M H v d) (s : Same H H') : GE K n M H' v d := ⟨dp_same (SmX.of_same s).hid d v g.1, g.2⟩
theorem GE.up (g : GE K n M H v d) (h : n ≤ m) : GE K m M H v d := ⟨g.1, gd_le g.2 h⟩
theorem GE.str {x : Str} (h : gd 0 (.str x) = true) : GE K n M H (.str x) (.str x) := ⟨.str x, gd_le h (Nat.zero_le _)⟩
theorem GE.int (i : Int) : GE K n M H (.int i) (.int i) := ⟨.int i, gd_le (n := 0) rfl (Nat.zero_le _)⟩
theorem GE.bl (b : Bool) : GE K n M H (.bl b) (.bool b) := ⟨.bl b, gd_le (n := 0) rfl (Nat.zero_le _)⟩
theorem GE.non : GE K n M H .non .none := ⟨.non, gd_le (n := 0) rfl (Nat.zero_le _)⟩
theorem ges_all : ∀ {xs : List V} {ds : List PyData}, GEs K n M H xs ds → DpAll K (hide M H) xs ds ∧ ∀ d ∈ ds, gd n d = true
  | _, _, .nil => ⟨.nil, fun d h => nomatch h⟩
  | _, _, .cons h t => by
    obtain ⟨h1, h2⟩ := ges_all t
    refine ⟨.cons h.1 h1, fun e he => ?_⟩
    rcases List.mem_cons.mp he with z | z
    · rw [z]; exact h.2
    · exact h2 e z
theorem GE.tup {p : Addr} {xs : List V} {ds : List PyData} (hM : Trk M H) (np : H p = none) (h : GEs K n M H xs ds) (hl : xs.length ≤ 1000) : GE K (n + 1) M (upd H p (.tup xs)) (.ref p) (.tuple ds) := by
  obtain ⟨h1, h2⟩ := ges_all h
  exact ⟨.tup (SqT.of (hid_at hM np)) (dpAll_same (hid_new np) _ _ h1), gd_tup h2 (by rw [← dpAll_len h1]; exact hl)⟩
theorem GE.lst {p : Addr} {xs : List V} {ds : List PyData} (hM : Trk M H) (np : H p = none) (h : GEs K n M H xs ds) (hl : xs.length ≤ 1000) : GE K (n + 1) M (upd H p (.lst xs)) (.ref p) (.list ds) := by
  obtain ⟨h1, h2⟩ := ges_all h
  exact ⟨.lst (SqL.of (hid_at hM np)) (dpAll_same (hid_new np) _ _ h1), gd_lst h2 (by rw [← dpAll_len h1]; exact hl)⟩
theorem GVN.of (g : GE K n M H v d) (h : n ≤ 12) (z : lmeas 9 d = 0) : GVN K M H v := ⟨d, g.1, gd_le g.2 h, z⟩
end
theorem zp {o x : PyData} {ds : List PyData} (hx : x ∈ ds) (h : lmeas 8 x = 0) : lmeas 9 (.tuple (o :: ds)) = 0 := by
  have e : lmeas 9 (.tuple (o :: ds)) = if isCd (.tuple (o :: ds)) = true then (if (0 : Int) ∈ ds.map (lmeas 8) then 0 else (ds.map (lmeas 8)).sum) else 0 := by
    show (if isLd (.tuple (o :: ds)) = true then (1 : Int) else _) = _
    rw [if_neg (fun z => by cases z)]
    rfl
  rw [e, if_pos (List.mem_map.mpr ⟨x, hx, h⟩)]
  split <;> rfl
theorem zo {o : PyData} {ds : List PyData} (h : isOp o = false) : lmeas 9 (.tuple (o :: ds)) = 0 := by
  have e : lmeas 9 (.tuple (o :: ds)) = if isCd (.tuple (o :: ds)) = true then (if (0 : Int) ∈ ds.map (lmeas 8) then 0 else (ds.map (lmeas 8)).sum) else 0 := by
    show (if isLd (.tuple (o :: ds)) = true then (1 : Int) else _) = _
    rw [if_neg (fun z => by cases z)]
    rfl
  have e2 : isCd (.tuple (o :: ds)) = (decide (2 ≤ ds.length) && isOp o) := rfl
  rw [e, e2, h, Bool.and_false, if_neg (fun z => by cases z)]
def spOddN (K : PySem.W.Frag) : Sp := fun vs H Q _ => ∃ (a L : Addr) (ns : List Int) (v : V) (M : List Addr), vs = [.ref a, v] ∧ Src H a L ns ∧ GV K 9 M H v ∧ a ∈ M ∧ Trk M H ∧
  ∀ (H' : Hp) (v' : V), GVN K M H' v' → Src H' a L ns → SmX [a] H H' → Q v' H'
end Fv


/-! words that are the same by the lattice's laws: _law_same_word, _law_rewritten, _law_two_words -/
namespace FvF
open PySem PySem.Spec PyProof.Rows L2 Fv FvD FvG FvX FvW TL
-- top 41  slots: 0:_law_source_here 1:_law_word 2:_law_known 3:_law_way 4:_law_other 5:_law_parts 6:_law_at
abbrev s_law_same_word : Stmt := topS 41
abbrev N_law_same_word : List Str := ["_law_source_here", "_law_word", "_law_known", "_law_way", "_law_other", "_law_parts", "_law_at"]
theorem sc_law_same_word : FnScope N_law_same_word ["_law_source_here", "_law_word", "_law_known"] (defScope s_law_same_word) := ⟨rfl, rfl, rfl, by decide +kernel, rfl, by decide +kernel, by decide +kernel⟩

-- top 42  slots: 0:_law_source_here 1:_law_word 2:_law_many 3:_law_turn 4:_law_later
abbrev s_law_rewritten : Stmt := topS 42
abbrev N_law_rewritten : List Str := ["_law_source_here", "_law_word", "_law_many", "_law_turn", "_law_later"]
theorem sc_law_rewritten : FnScope N_law_rewritten ["_law_source_here", "_law_word", "_law_many"] (defScope s_law_rewritten) := ⟨rfl, rfl, rfl, by decide +kernel, rfl, by decide +kernel, by decide +kernel⟩

-- top 43  slots: 0:_law_source_here 1:_law_signs_here 2:_law_one 3:_law_two 4:_law_way
abbrev s_law_two_words : Stmt := topS 43
abbrev N_law_two_words : List Str := ["_law_source_here", "_law_signs_here", "_law_one", "_law_two", "_law_way"]
theorem sc_law_two_words : FnScope N_law_two_words ["_law_source_here"] (defScope s_law_two_words) := ⟨rfl, rfl, rfl, by decide +kernel, rfl, by decide +kernel, by decide +kernel⟩

/-- a term that is the same everywhere -/
def EV (K : PySem.W.Frag) (k : Nat) (M : List Addr) (H : Hp) (v : V) (d : PyData) : Prop := ∃ e, Dp K (hide M H) v e ∧ gd k e = true ∧ EqT d e
theorem EV.tup {K : PySem.W.Frag} {k : Nat} {M : List Addr} {Y : Hp} {p : Addr} {xs : List V} {es : List PyData} {d : PyData} (tM : Trk M Y) (np : Y p = none) (h : DpAll K (hide M Y) xs es) (g : ∀ e ∈ es, gd k e = true) (l : xs.length ≤ 1000) (q : EqT d (.tuple es)) : EV K (k + 1) M (upd Y p (.tup xs)) (.ref p) d := by
  obtain ⟨hT, sT⟩ := new_in (o := .tup xs) tM np
  exact ⟨_, .tup (SqT.of hT) (dpAll_same sT _ _ h), gd_tup (n := k) g (by rw [← dpAll_len h]; exact l), q⟩
theorem EV.up {K : PySem.W.Frag} {k m : Nat} {M : List Addr} {H : Hp} {v : V} {d : PyData} (h : EV K k M H v d) (l : k ≤ m) : EV K m M H v d := let ⟨e, a, b, c⟩ := h; ⟨e, a, gd_le b l, c⟩
theorem dpAll_perm {K : PySem.W.Frag} {H : Hp} {xs ys : List V} (p : ys.Perm xs) : ∀ {ds : List PyData}, DpAll K H xs ds → ∃ es : List PyData, es.Perm ds ∧ DpAll K H ys es := by
  induction p with
  | nil => intro ds h; cases h; exact ⟨[], .nil, .nil⟩
  | cons x p ih => intro ds h; cases h with
    | cons h1 h2 => obtain ⟨es, a, b⟩ := ih h2; exact ⟨_ :: es, a.cons _, .cons h1 b⟩
  | swap x y l => intro ds h; cases h with
    | cons h1 h2 => cases h2 with
      | cons h3 h4 => exact ⟨_ :: _ :: _, .swap _ _ _, .cons h3 (.cons h1 h4)⟩
  | trans p q ihp ihq => intro ds h; obtain ⟨es, a, b⟩ := ihq h; obtain ⟨fs, c, e⟩ := ihp b; exact ⟨fs, c.trans a, e⟩
theorem dpAll_td {K : PySem.W.Frag} {H : Hp} : ∀ (n : Nat) {vs : List V} {es : List PyData}, DpAll K H vs es → DpAll K H (vs.take n) (es.take n) ∧ DpAll K H (vs.drop n) (es.drop n)
  | 0, _, _, h => ⟨.nil, h⟩
  | n + 1, _, _, h => by
    cases h with
    | nil => exact ⟨.nil, .nil⟩
    | cons h1 h2 => exact ⟨.cons h1 (dpAll_td n h2).1, (dpAll_td n h2).2⟩
theorem dpAll_set {K : PySem.W.Frag} {H : Hp} {v : V} {e : PyData} (hv : Dp K H v e) : ∀ (j : Nat) {vs : List V} {es : List PyData}, DpAll K H vs es → DpAll K H (vs.set j v) (es.set j e)
  | _, _, _, .nil => .nil
  | 0, _, _, .cons h1 h2 => .cons hv h2
  | j + 1, _, _, .cons h1 h2 => .cons h1 (dpAll_set hv j h2)
theorem cut_neg2 {xs : List V} (h : 2 ≤ xs.length) : cutV xs none (some (-2)) = xs.take (xs.length - 2) ∧ cutV xs (some (-2)) none = xs.drop (xs.length - 2) := by
  have e : ∀ d, HT.sIx xs.length d (some (-2)) = xs.length - 2 := fun d => by
    show (if (-2 : Int) < 0 then ((-2 : Int) + (xs.length : Int)).toNat else min (-2 : Int).toNat xs.length) = _
    rw [if_pos (by decide)]
    omega
  unfold cutV
  rw [e, e]
  refine ⟨?_, ?_⟩
  · show (xs.drop 0).take (xs.length - 2 - 0) = _
    rw [List.drop_zero, Nat.sub_zero]
  · show (xs.drop (xs.length - 2)).take (xs.length - (xs.length - 2)) = _
    rw [List.take_of_length_le (by rw [List.length_drop]; exact Nat.le_refl _)]
def spSW (K : PySem.W.Frag) (n : Nat) : Sp := fun vs H Q _ => ∃ (a L : Addr) (ns : List Int) (v vk : V) (d : PyData) (M : List Addr), vs = [.ref a, v, vk] ∧ Src H a L ns ∧ Dp K (hide M H) v d ∧ Tk d ∧ 1 ≤ lmeas n d ∧ n ≤ 7 ∧ a ∈ M ∧ Trk M H ∧
  ∀ H' v', EV K (n + 2) M H' v' d → Src H' a L ns → SmX [a] H H' → Q v' H'
theorem sw_zero {P : Program} {w : World} {K : PySem.W.Frag} {mg : Str → Option Value} {base : Heap} {f : Addr} {fd : FuncData} {k : Nat} {ps : List Str} : FnOk P w K mg base CX0 k f fd ps (spSW K 0) := by
  have no : ∀ vs H Q E, ¬ spSW K 0 vs H Q E := fun vs H Q E h => by
    obtain ⟨_, _, _, _, _, _, _, _, _, _, _, h1, _⟩ := h
    simp only [lmeas] at h1
    omega
  exact ⟨fun vs H Q E h => absurd h (no vs H Q E), fun A outer s H args us vs Q E _ _ _ _ h => absurd h (no vs H Q E)⟩
theorem ixN_natF {n j : Nat} (hj : j < n) : ixN n (j : Int) = some j := by
  unfold ixN
  rw [if_pos (by omega)]
  simp
  omega
theorem mem_cut {xs : List V} {lo hi : Option Int} {x : V} (h : x ∈ cutV xs lo hi) : x ∈ xs := by
  unfold cutV at h
  exact List.mem_of_mem_drop (List.mem_of_mem_take h)
section
variable {P : Program} {w : World} {K : PySem.W.Frag} {mg : Str → Option Value} {base : Heap}
set_option maxHeartbeats 1600000 in
theorem ok_same_word {f : Addr} {fd : FuncData} {k n : Nat} (F : Fun K "_law_same_word" "_law_same_word" s_law_same_word f fd) (hk : 2 ≤ k) (m_isinstance : mg "isinstance" = none) (m_str : mg "str" = none) (m_tuple : mg "tuple" = none) (m_list : mg "list" = none) (m_len : mg "len" = none)
    (C_law_take : Own P w K mg base 1 "_law_take" ["_law_source_here", "_law_many"] spTake) (C_law_pick : Own P w K mg base 2 "_law_pick" ["_law_source_here", "_law_row"] spPick) (C_law_mixed : Own P w K mg base 2 "_law_mixed" ["_law_source_here", "_law_row"] spMixed)
    (C_law_same_word : Own P w K mg base k "_law_same_word" ["_law_source_here", "_law_word", "_law_known"] (spSW K n)) :
    FnOk P w K mg base CX0 (k + 1) f fd ["_law_source_here", "_law_word", "_law_known"] (spSW K (n + 1)) := by
  refine F.ok sc_law_same_word (fun vs H Q E h => ?_) (fun cdv A0 outer s H vs Q E hr h => ?_)
  · obtain ⟨a, L, ns, v, vk, d, M, rfl, _⟩ := h
    rfl
  · obtain ⟨a, L, ns, v, vk, d, M, rfl, hs, hv, tk, l1, n9, aM, tM, good⟩ := h
    refine ⟨_, (pss_cons (ps_set (i := 3) sc_law_same_word.nd rfl (by first | exact .inl rfl | exact .inr rfl) (pe_own C_law_take (hr.mono (by omega)) (by rfl) (pa_cons (pv 0) (pa_cons pe_int pa_nil))))
      (pss_cons (ps_set (i := 4) sc_law_same_word.nd rfl (by first | exact .inl rfl | exact .inr rfl) (pe_own C_law_pick (hr.mono (by omega)) (by rfl) (pa_cons (pv 0) (pa_cons (pe_callTy (call_listStr hr.hd) (by rfl) m_list (by decide +kernel) (pa_cons pe_str pa_nil)) pa_nil))))
      (pss_cons (ps_if (pt_cmpR op_eq (pv 3) pe_int (nomark _))
        (pss_one (ps_ret (pe_tup (pa_cons pe_str (pa_cons (pv 1) (pa_cons (pe_tup (pa_cons pe_str (pa_cons (pv 1) (pa_cons (pv 4) pa_nil)))) pa_nil))))))
        pss_nil)
      (pss_cons (ps_if (pt_cmpR op_eq (pv 3) pe_int (nomark _))
        (pss_one (ps_ret (pe_tup (pa_cons pe_str (pa_cons (pe_tup (pa_cons pe_str (pa_cons (pv 4) (pa_cons (pv 1) pa_nil)))) (pa_cons (pv 1) pa_nil))))))
        pss_nil)
      (pss_cons (ps_if (pt_cmpR op_eq (pv 3) pe_int (nomark _))
        (pss_one (ps_ret (pe_tup (pa_cons pe_str (pa_cons (pv 1) (pa_cons (pv 1) pa_nil))))))
        pss_nil)
      (pss_cons (ps_if (pt_val (pe_isD (T := "str") (by rfl) m_isinstance (by rfl) m_str (pv 1)))
        (pss_one (ps_ret (pv 1)))
        pss_nil)
      (pss_cons (ps_set (i := 5) sc_law_same_word.nd rfl (by first | exact .inl rfl | exact .inr rfl) (pe_callTy call_list_of (by rfl) m_list (by decide +kernel) (pa_cons (pe_slice sl_tup (pv 1) (po_some pe_int) po_none) pa_nil)))
      (pss_cons (ps_if (pt_cmpR op_eq (pv 3) pe_int (nomark _))
        (pss_one (ps_ret (pe_callTy call_tuple_of (by rfl) m_tuple (by decide +kernel) (pa_cons (pe_op op_cat (pe_lst (pa_cons (pe_ix ix_tup (pv 1) pe_int (fun _ _ => rfl)) pa_nil)) (pe_own C_law_mixed (hr.mono (by omega)) (by rfl) (pa_cons (pv 0) (pa_cons (pv 5) pa_nil)))) pa_nil))))
        pss_nil)
      (pss_cons (ps_if (pt_cmpR op_eq (pv 3) pe_int (nomark _))
        (pss_one (ps_ret (pe_callTy call_tuple_of (by rfl) m_tuple (by decide +kernel) (pa_cons (pe_op op_cat (pe_lst (pa_cons (pe_ix ix_tup (pv 1) pe_int (fun _ _ => rfl)) (pa_cons (pe_ix ix_tup (pv 1) pe_int (fun _ _ => rfl)) pa_nil))) (pv 5)) pa_nil))))
        pss_nil)
      (pss_cons (ps_if (PW.pt (pw_and (pt_cmpR op_eq (pv 3) pe_int (nomark _)) (pw_and1 (pt_cmpR op_gt (pe_callB call_len_seq (by rfl) m_len (by decide +kernel) (pa_cons (pv 5) pa_nil)) pe_int (nomark _)))))
        (pss_one (ps_ret (pe_callTy call_tuple_of (by rfl) m_tuple (by decide +kernel) (pa_cons (pe_op op_cat (pe_op op_cat (pe_lst (pa_cons (pe_ix ix_tup (pv 1) pe_int (fun _ _ => rfl)) pa_nil)) (pe_slice sl_list (pv 5) po_none (po_some (pe_un un_neg pe_int)))) (pe_lst (pa_cons (pe_callTy call_tuple_of (by rfl) m_tuple (by decide +kernel) (pa_cons (pe_op op_cat (pe_lst (pa_cons (pe_ix ix_tup (pv 1) pe_int (fun _ _ => rfl)) pa_nil)) (pe_slice sl_list (pv 5) (po_some (pe_un un_neg pe_int)) po_none)) pa_nil)) pa_nil))) pa_nil))))
        pss_nil)
      (pss_cons (ps_set (i := 6) sc_law_same_word.nd rfl (by first | exact .inl rfl | exact .inr rfl) (pe_own C_law_take (hr.mono (by omega)) (by rfl) (pa_cons (pv 0) (pa_cons (pe_callB call_len_seq (by rfl) m_len (by decide +kernel) (pa_cons (pv 5) pa_nil)) pa_nil))))
      (pss_cons (ps_asg (pe_own C_law_same_word (hr.mono (by omega)) (by rfl) (pa_cons (pv 0) (pa_cons (pe_ix ix_list (pv 5) (pv 6) (fun _ _ => rfl)) (pa_cons (pv 2) pa_nil)))) (pg_sub (pv 5) (pv 6) set_list))
      (pss_one (ps_ret (pe_callTy call_tuple_of (by rfl) m_tuple (by decide +kernel) (pa_cons (pe_op op_cat (pe_lst (pa_cons (pe_ix ix_tup (pv 1) pe_int (fun _ _ => rfl)) pa_nil)) (pv 5)) pa_nil)))))))))))))))), ?_⟩
    have lift : ∀ {X Y : Hp}, SmX [a] X Y → SmX M X Y := fun z => z.sub fun b hb => .inl (by rw [List.mem_singleton.mp hb]; exact aM)
    have trk : ∀ {Y : Hp}, Src Y a L ns → SmX [a] H Y → Trk M Y := fun {Y} z sm b hb => by
      by_cases e : b = a
      · obtain ⟨_, _, _, _, h1, _⟩ := z
        exact ⟨_, by rw [e]; exact h1⟩
      · obtain ⟨o, ho⟩ := tM b hb
        exact ⟨o, sm b o (fun q => e (List.mem_singleton.mp q)) ho⟩
    have offS : ∀ {X Y : Hp}, (∀ b, b ≠ a → Y b = X b) → SmX [a] X Y := fun h b o m e => by
      rw [h b (fun q => m (List.mem_singleton.mpr q))]; exact e
    have aSome : ∀ {Y : Hp}, Src Y a L ns → Y a ≠ none := fun z e => by
      obtain ⟨_, _, _, _, h1, _⟩ := z
      rw [h1] at e; cases e
    have e9 : lmeas 9 d = lmeas (n + 1) d := lmeas_toF l1 (by omega)
    have d7 : d.depth ≤ 7 := Nat.le_trans (lmeas_depth (n + 1) d l1) n9
    have gdw : gd (n + 1) d = true := gd_lm (n + 1) d l1 (by have := tk.top; omega)
    refine ⟨_, rfl, a, L, ns, 8, rfl, hs, by decide, by decide, fun H1 wy w0 w8 hs1 off1 => ?_⟩
    have sm1 := offS off1
    refine ⟨_, rfl, _, rfl, by decide +kernel, fun r nr => ?_⟩
    have ar : r ≠ a := fun z => aSome hs1 (z ▸ nr)
    refine ⟨a, L, r, ns, _, rfl, hs1.new nr, ar, upd_same, by decide +kernel, by decide +kernel, fun H2 mo hm hs2 off2 => ?_⟩
    have sm2 : SmX [a] H H2 := (sm1.trans (SmX.of_same (same_upd nr))).trans (offS off2)
    obtain ⟨mx, rfl, hmx⟩ := lett_data hm
    have gm : ∀ {k : Nat} {Y : Hp}, GV K k M Y (.str mx) := fun {k Y} => GV.str (isL_lett hmx).2
    have hv2 := dp_same (lift sm2).hid _ _ hv
    have gw : ∀ {Y : Hp}, SmX [a] H Y → GV K (n + 1) M Y v := fun z => ⟨d, dp_same (lift z).hid _ _ hv, gdw⟩
    clear hm off1 off2 sm1 hs1
    have hvv : ∀ {Y : Hp}, SmX [a] H Y → Dp K (hide M Y) v d := fun z => dp_same (lift z).hid _ _ hv
    have gst : ∀ {k : Nat} {x : Str}, gd 0 (.str x) = true → gd k (.str x) = true := fun h => gd_le h (Nat.zero_le _)
    have gmx : gd 0 (.str mx) = true := gd_le (isL_lett hmx).2 (by exact Nat.le_refl _)
    have dmx : (PyData.str mx).depth = 0 := rfl
    have g2 : ∀ {s : Str} {x y : PyData} {k : Nat}, gd 0 (.str s) = true → gd k x = true → gd k y = true → gd (k + 1) (.tuple [.str s, x, y]) = true := fun {s x y k} hs hx hy => gd_tup (n := k) (fun z hz => by
      simp only [List.mem_cons, List.not_mem_nil, or_false] at hz
      rcases hz with rfl | rfl | rfl
      · exact gst hs
      · exact hx
      · exact hy) (by show 3 ≤ 1000; decide)
    have gA : gd 0 (.str "&") = true := by decide +kernel
    have gO : gd 0 (.str "|") = true := by decide +kernel
    have mem3 : ∀ {k : Nat} {s : Str} {x y : PyData}, gd 0 (.str s) = true → gd k x = true → gd k y = true → ∀ e ∈ [PyData.str s, x, y], gd k e = true := fun hs hx hy e he => by
      simp only [List.mem_cons, List.not_mem_nil, or_false] at he
      rcases he with rfl | rfl | rfl
      · exact gst hs
      · exact hx
      · exact hy
    have amp : ∀ {k : Nat} {Y : Hp}, GV K k M Y (.str "&") := fun {k Y} => GV.str (by decide +kernel)
    have bar : ∀ {k : Nat} {Y : Hp}, GV K k M Y (.str "|") := fun {k Y} => GV.str (by decide +kernel)
    refine ⟨_, rfl, rfl, _, rfl, ?_⟩
    refine ite2 (fun _ => ?_) fun _ => ?_
    · refine ⟨_, rfl, _, rfl, _, rfl, (by show 3 ≤ sizeLine; decide), fun p1 n1 => ⟨(by show 3 ≤ sizeLine; decide), fun p2 n2 => ?_⟩⟩
      have s1 := same_upd (o := .tup [.str "&", v, .str mx]) n1
      obtain ⟨h1, t1⟩ := new_in (o := .tup [.str "&", v, .str mx]) (trk hs2 sm2) n1
      have sm3 := sm2.trans (SmX.of_same s1)
      have g1 : Dp K (hide M (upd H2 p1 (.tup [.str "&", v, .str mx]))) (.ref p1) (.tuple [.str "&", d, .str mx]) := .tup (SqT.of h1) (.cons (.str _) (.cons (hvv sm3) (.cons (.str _) .nil)))
      exact good _ _ (EV.tup (k := n + 2) (xs := [.str "|", v, .ref p1]) (es := [.str "|", d, .tuple [.str "&", d, .str mx]]) (trk (hs2.same s1) sm3) n2 (.cons (.str _) (.cons (hvv sm3) (.cons g1 .nil))) (mem3 gO (gd_le gdw (by omega)) (g2 gA gdw (gst gmx))) (Nat.le_of_ble_eq_true rfl) (eqt_abs (s := "|") (s' := "&") (.inr rfl) (.inl rfl) and_or d7 dmx (P := [d, .tuple [.str "&", d, .str mx]]) (Q := [d, .str mx]) (fun x => by simp) (fun x => by simp))) ((hs2.same s1).new n2) (sm3.trans (SmX.new n2))
    refine ⟨_, rfl, rfl, _, rfl, ?_⟩
    refine ite2 (fun _ => ?_) fun _ => ?_
    · refine ⟨_, rfl, _, rfl, (by show 3 ≤ sizeLine; decide), fun p1 n1 => ⟨_, rfl, (by show 3 ≤ sizeLine; decide), fun p2 n2 => ?_⟩⟩
      have s1 := same_upd (o := .tup [.str "|", .str mx, v]) n1
      obtain ⟨h1, t1⟩ := new_in (o := .tup [.str "|", .str mx, v]) (trk hs2 sm2) n1
      have sm3 := sm2.trans (SmX.of_same s1)
      have g1 : Dp K (hide M (upd H2 p1 (.tup [.str "|", .str mx, v]))) (.ref p1) (.tuple [.str "|", .str mx, d]) := .tup (SqT.of h1) (.cons (.str _) (.cons (.str _) (.cons (hvv sm3) .nil)))
      exact good _ _ (EV.tup (k := n + 2) (xs := [.str "&", .ref p1, v]) (es := [.str "&", .tuple [.str "|", .str mx, d], d]) (trk (hs2.same s1) sm3) n2 (.cons (.str _) (.cons g1 (.cons (hvv sm3) .nil))) (mem3 gA (g2 gO (gst gmx) gdw) (gd_le gdw (by omega))) (Nat.le_of_ble_eq_true rfl) (eqt_abs (s := "&") (s' := "|") (.inl rfl) (.inr rfl) (Ne.symm and_or) d7 dmx (P := [.tuple [.str "|", .str mx, d], d]) (Q := [.str mx, d]) (fun x => by simp [or_comm]) (fun x => by simp [or_comm]))) ((hs2.same s1).new n2) (sm3.trans (SmX.new n2))
    refine ⟨_, rfl, rfl, _, rfl, ?_⟩
    refine ite2 (fun _ => ?_) fun _ => ?_
    · refine ⟨_, rfl, _, rfl, (by show 3 ≤ sizeLine; decide), fun p1 n1 => ?_⟩
      exact good _ _ ((EV.tup (k := n + 1) (xs := [.str "&", v, v]) (es := [.str "&", d, d]) (trk hs2 sm2) n1 (.cons (.str _) (.cons (hvv sm2) (.cons (hvv sm2) .nil))) (mem3 gA gdw gdw) (Nat.le_of_ble_eq_true rfl) (eqt_two (.inl rfl) d7)).up (by omega)) (hs2.new n1) (sm2.trans (SmX.new n1))
    rcases lmeas_inv l1 with ⟨x, rfl, hx⟩ | ⟨o, ds, rfl, nl, ho, h2, all1, _⟩
    · cases hv
      exact ⟨_, rfl, _, _, .str x, rfl, by decide, .str x, _, rfl, iteT ⟨_, rfl, good _ _ ⟨_, .str _, gd_le gdw (by omega), eqt_refl d7⟩ hs2 sm2⟩⟩
    have lds : ds.length ≤ 900 := pts_900 tk
    have op : opS o := ho
    have gop0 : gd 0 (.str o) = true := by rcases ho with rfl | rfl <;> decide +kernel
    have gds : ∀ e ∈ ds, gd (n + 1) e = true := fun e he => gd_le ((gd_parts gdw).2 e he) (by omega)
    have gcons : ∀ {k : Nat} {es : List PyData}, (∀ e ∈ es, gd k e = true) → ∀ e ∈ PyData.str o :: es, gd k e = true := fun h e he => by
      rcases List.mem_cons.mp he with z | z
      · rw [z]; exact gst gop0
      · exact h e z
    have dW7 : (wh o ds).depth ≤ 7 := d7
    have tkp : ∀ p ∈ ds, Tk p := by
      rcases tk.inv with ⟨x, hx, _⟩ | ⟨o', ds', hx, _, _, al, _⟩
      · cases hx
      · cases hx; exact al
    cases id hv2 with
    | @tup wa xs0 _ hw ha => cases ha with
      | @cons x0 xw _ _ h1 hxw =>
      cases h1
      have lw := dpAll_len hxw
      have hw' : SqT K H2 wa (.str o :: xw) := same_seqT hide_same hw
      refine ⟨_, rfl, _, _, .tuple (.str o :: ds), rfl, by decide, dp_same hide_same _ _ hv2, _, rfl, iteF ?_⟩
      refine ⟨_, rfl, 1, rfl, wa, _, rfl, hw', ?_, fun tp np => ?_⟩
      · rw [show HT.sIx (V.str o :: xw).length 0 (some 1) = min 1 (V.str o :: xw).length from HT.sIx_nat _ 0 1, List.length_cons]
        omega
      rw [cut1]
      refine ⟨tp, _, rfl, .inr (SqT.of upd_same), fun pl nl => ?_⟩
      have s3 := (same_upd (o := .tup xw) np).trans (same_upd (o := .lst xw) nl)
      have hpl : upd (upd H2 tp (.tup xw)) pl (.lst xw) pl = some (.lst xw) := upd_same
      have H2pl : H2 pl = none := (same_upd (o := .tup xw) np).free nl
      generalize upd (upd H2 tp (.tup xw)) pl (.lst xw) = H3 at s3 hpl
      have hs3 := hs2.same s3
      have sm3 := sm2.trans (SmX.of_same s3)
      have pla : pl ≠ a := fun z => aSome hs2 (z ▸ H2pl)
      have hw3 := same_seqT s3 hw'
      have plH : H pl = none := by
        cases e : H pl with
        | none => rfl
        | some o' => rw [sm2 _ _ (fun z => pla (List.mem_singleton.mp z)) e] at H2pl; cases H2pl
      have hxx : ∀ {Y : Hp}, SmX [a] H2 Y → DpAll K (hide M Y) xw ds := fun z => dpAll_same (lift z).hid _ _ hxw
      obtain ⟨x1, xr, rfl⟩ : ∃ x1 xr, xw = x1 :: xr := by
        match xw, lw with
        | x1 :: xr, _ => exact ⟨_, _, rfl⟩
        | [], z => rw [← z] at h2; exact absurd h2 (by decide)
      have lxr : (x1 :: xr).length ≤ 900 := by rw [lw]; exact lds
      have at1 : atI (.str o :: x1 :: xr) 1 = some x1 := atI_nat (xs := .str o :: x1 :: xr) (j := 1) rfl
      -- the parts mixed
      refine ⟨_, rfl, rfl, _, rfl, ?_⟩
      refine ite2 (fun _ => ?_) fun _ => ?_
      · refine ⟨_, rfl, wa, _, _, _, rfl, rfl, hw3, at0, (by show 1 ≤ sizeLine; decide), fun q1 m1 => ?_⟩
        have s4 := same_upd (o := .lst [.str o]) m1
        refine ⟨_, rfl, _, rfl, a, L, pl, ns, _, rfl, hs3.same s4, pla, s4 _ _ hpl, by omega, fun H5 p ys pm np5 hp5 hs5 off5 => ?_⟩
        have q1a : q1 ≠ a := fun z => aSome hs3 (z ▸ m1)
        have q1p : q1 ≠ p := fun z => by rw [← z, upd_same] at np5; cases np5
        have hq5 : H5 q1 = some (.lst [.str o]) := by rw [off5 q1 q1a q1p]; exact upd_same
        have sm45 : SmX [a] H2 H5 := (SmX.of_same (s3.trans s4)).trans fun b o' m e => by
          rw [off5 b (fun z => m (List.mem_singleton.mpr z)) (ne_of_none e np5)]; exact e
        have ly : ys.length ≤ 900 := by rw [pm.length_eq]; exact lxr
        refine ⟨q1, p, _, _, rfl, rfl, hq5, hp5, (by rw [sizeLine_eq]; show 1 + ys.length ≤ _; omega), fun z nz => ⟨z, _, rfl, .inl ⟨SqL.of upd_same, fun t nt => ?_⟩⟩⟩
        have s6 := same_upd (o := .lst ([.str o] ++ ys)) nz
        have sm46 := sm45.trans (SmX.of_same s6)
        obtain ⟨es, pe, he⟩ := dpAll_perm pm (hxx sm46)
        exact good _ _ ((EV.tup (k := n + 1) (xs := [.str o] ++ ys) (es := .str o :: es) (trk (hs5.same s6) (sm2.trans sm46)) nt (.cons (.str _) he) (gcons fun e h => gds e (pe.mem_iff.mp h)) (by rw [List.length_append]; show 1 + _ ≤ 1000; omega) (eqt_sub op dW7 (fun e h => pe.mem_iff.mp h) fun e h => pe.mem_iff.mpr h)).up (by omega)) ((hs5.same s6).new nt) (sm2.trans (sm45.trans ((SmX.of_same s6).trans (SmX.new nt))))
      -- the first part twice
      refine ⟨_, rfl, rfl, _, rfl, ?_⟩
      refine ite2 (fun _ => ?_) fun _ => ?_
      · refine ⟨_, rfl, wa, _, _, _, rfl, rfl, hw3, at0, _, rfl, wa, _, _, _, rfl, rfl, hw3, at1, (by show 2 ≤ sizeLine; decide), fun q1 m1 => ?_⟩
        have s4 := same_upd (o := .lst [.str o, x1]) m1
        refine ⟨_, rfl, q1, pl, _, _, rfl, rfl, upd_same, s4 _ _ hpl, (by rw [sizeLine_eq]; show 2 + (x1 :: xr).length ≤ _; omega), fun z nz => ⟨z, _, rfl, .inl ⟨SqL.of upd_same, fun t nt => ?_⟩⟩⟩
        have s6 := s4.trans (same_upd (o := .lst ([.str o, x1] ++ (x1 :: xr))) nz)
        have sm6 := (SmX.of_same (M := [a]) (s3.trans s6))
        have hx6 := hxx sm6
        cases ds with
        | nil => cases hx6
        | cons d1 dr =>
        cases id hx6 with
        | cons hd1 _ =>
        exact good _ _ ((EV.tup (k := n + 1) (xs := [.str o, x1] ++ (x1 :: xr)) (es := .str o :: d1 :: d1 :: dr) (trk (hs3.same s6) (sm2.trans sm6)) nt (.cons (.str _) (.cons hd1 hx6)) (gcons fun e h => gds e (by simpa using h)) (by rw [List.length_append]; show 2 + _ ≤ 1000; omega) (eqt_sub op dW7 (fun e h => by simpa using h) fun e h => List.mem_cons_of_mem _ h)).up (by omega)) ((hs3.same s6).new nt) (sm2.trans (sm6.trans (SmX.new nt)))
      refine ⟨_, rfl, rfl, _, rfl, ?_⟩
      refine ite2 (fun _ => ⟨_, rfl, pl, _, rfl, .inl (SqL.of hpl), _, _, rfl, rfl, _, rfl, ite2 (fun _ => ?way5) (fun _ => ?r1)⟩) (fun _ => ?r2)
      case way5 =>
        refine ⟨_, rfl, wa, _, _, _, rfl, rfl, hw3, at0, (by show 1 ≤ sizeLine; decide), fun q1 m1 => ?_⟩
        have s4 := same_upd (o := .lst [.str o]) m1
        have hq1 : upd H3 q1 (.lst [.str o]) q1 = some (.lst [.str o]) := upd_same
        generalize upd H3 q1 (.lst [.str o]) = H4 at s4 hq1
        refine ⟨_, rfl, 2, rfl, _, rfl, pl, _, rfl, SqL.of (s4 _ _ hpl), fun q2 m2 => ?_⟩
        have lc1 := cutV_length (x1 :: xr) none (some (-2))
        have s5 := same_upd (o := .lst (cutV (x1 :: xr) none (some (-2)))) m2
        have hq2 : upd H4 q2 (.lst (cutV (x1 :: xr) none (some (-2)))) q2 = some (.lst (cutV (x1 :: xr) none (some (-2)))) := upd_same
        generalize upd H4 q2 (.lst (cutV (x1 :: xr) none (some (-2)))) = H5 at s5 hq2
        refine ⟨q1, q2, _, _, rfl, rfl, s5 _ _ hq1, hq2, (by rw [sizeLine_eq]; show 1 + _ ≤ _; omega), fun q3 m3 => ?_⟩
        have s6 := same_upd (o := .lst ([.str o] ++ cutV (x1 :: xr) none (some (-2)))) m3
        have hq3 : upd H5 q3 (.lst ([.str o] ++ cutV (x1 :: xr) none (some (-2)))) q3 = some (.lst ([.str o] ++ cutV (x1 :: xr) none (some (-2)))) := upd_same
        generalize upd H5 q3 (.lst ([.str o] ++ cutV (x1 :: xr) none (some (-2)))) = H6 at s6 hq3
        have s36 := s4.trans (s5.trans s6)
        refine ⟨_, rfl, wa, _, _, _, rfl, rfl, same_seqT s36 hw3, at0, (by show 1 ≤ sizeLine; decide), fun q4 m4 => ?_⟩
        have s7 := same_upd (o := .lst [.str o]) m4
        have hq4 : upd H6 q4 (.lst [.str o]) q4 = some (.lst [.str o]) := upd_same
        generalize upd H6 q4 (.lst [.str o]) = H7 at s7 hq4
        refine ⟨_, rfl, 2, rfl, _, rfl, pl, _, rfl, SqL.of ((s36.trans s7) _ _ hpl), fun q5 m5 => ?_⟩
        have lc2 := cutV_length (x1 :: xr) (some (-2)) none
        have s8 := same_upd (o := .lst (cutV (x1 :: xr) (some (-2)) none)) m5
        have hq5 : upd H7 q5 (.lst (cutV (x1 :: xr) (some (-2)) none)) q5 = some (.lst (cutV (x1 :: xr) (some (-2)) none)) := upd_same
        generalize upd H7 q5 (.lst (cutV (x1 :: xr) (some (-2)) none)) = H8 at s8 hq5
        refine ⟨q4, q5, _, _, rfl, rfl, s8 _ _ hq4, hq5, (by rw [sizeLine_eq]; show 1 + _ ≤ _; omega), fun q6 m6 => ?_⟩
        have s9 := same_upd (o := .lst ([.str o] ++ cutV (x1 :: xr) (some (-2)) none)) m6
        have hq6 : upd H8 q6 (.lst ([.str o] ++ cutV (x1 :: xr) (some (-2)) none)) q6 = some (.lst ([.str o] ++ cutV (x1 :: xr) (some (-2)) none)) := upd_same
        generalize upd H8 q6 (.lst ([.str o] ++ cutV (x1 :: xr) (some (-2)) none)) = H9 at s9 hq6
        have s39 := s36.trans (s7.trans (s8.trans s9))
        refine ⟨q6, _, rfl, .inl ⟨SqL.of hq6, fun t7 m7 => ⟨(by show 1 ≤ sizeLine; decide), fun q8 m8 => ?_⟩⟩⟩
        have hs9 := hs3.same s39
        have smA := (SmX.of_same (M := [a]) (s3.trans s39))
        obtain ⟨cu1, cu2⟩ := cut_neg2 (xs := x1 :: xr) (by rw [lw]; exact h2)
        have hx9 := hxx smA
        obtain ⟨h7, t7s⟩ := new_in (o := .tup ([.str o] ++ cutV (x1 :: xr) (some (-2)) none)) (trk hs9 (sm2.trans smA)) m7
        have d7p : DpAll K (hide M H9) ([.str o] ++ cutV (x1 :: xr) (some (-2)) none) (.str o :: ds.drop ((x1 :: xr).length - 2)) := .cons (.str _) (by rw [cu2]; exact (dpAll_td _ hx9).2)
        have g7 : Dp K (hide M (upd H9 t7 (.tup ([.str o] ++ cutV (x1 :: xr) (some (-2)) none)))) (.ref t7) (wh o (ds.drop ((x1 :: xr).length - 2))) := .tup (SqT.of h7) (dpAll_same t7s _ _ d7p)
        have s10 := same_upd (o := .tup ([.str o] ++ cutV (x1 :: xr) (some (-2)) none)) m7
        generalize upd H9 t7 (.tup ([.str o] ++ cutV (x1 :: xr) (some (-2)) none)) = H10 at s10 g7 m8
        have s11 := same_upd (o := .lst [.ref t7]) m8
        have hq8 : upd H10 q8 (.lst [.ref t7]) q8 = some (.lst [.ref t7]) := upd_same
        generalize upd H10 q8 (.lst [.ref t7]) = H11 at s11 hq8
        refine ⟨q3, q8, _, _, rfl, rfl, (s7.trans (s8.trans (s9.trans (s10.trans s11)))) _ _ hq3, hq8, (by rw [sizeLine_eq]; show ([V.str o] ++ _).length + 1 ≤ _; rw [List.length_append]; show 1 + _ + 1 ≤ _; omega), fun q9 m9 => ⟨q9, _, rfl, .inl ⟨SqL.of upd_same, fun t10 m10 => ?_⟩⟩⟩
        have s12 := same_upd (o := .lst (([.str o] ++ cutV (x1 :: xr) none (some (-2))) ++ [.ref t7])) m9
        have sE := s10.trans (s11.trans s12)
        have smE := smA.trans (SmX.of_same sE)
        have sh10 : Same (hide M H10) (hide M (upd H11 q9 (.lst (([.str o] ++ cutV (x1 :: xr) none (some (-2))) ++ [.ref t7])))) := (SmX.of_same (M := M) (s11.trans s12)).hid
        have dd : DpAll K (hide M (upd H11 q9 (.lst (([.str o] ++ cutV (x1 :: xr) none (some (-2))) ++ [.ref t7])))) (([.str o] ++ cutV (x1 :: xr) none (some (-2))) ++ [.ref t7]) (.str o :: (ds.take ((x1 :: xr).length - 2) ++ [wh o (ds.drop ((x1 :: xr).length - 2))])) := .cons (.str _) (dpAll_app (by have z := (dpAll_td ((x1 :: xr).length - 2) (hxx smE)).1; rw [← cu1] at z; exact z) (.cons (dp_same sh10 _ _ g7) .nil))
        have ed : ds = ds.take ((x1 :: xr).length - 2) ++ ds.drop ((x1 :: xr).length - 2) := (List.take_append_drop _ _).symm
        have gB : gd (n + 2) (wh o (ds.drop ((x1 :: xr).length - 2))) = true := gd_tup (n := n + 1) (gcons fun e h => gds e (List.mem_of_mem_drop h)) (by rw [List.length_cons, List.length_drop]; omega)
        have eq5 : EqT (wh o ds) (wh o (ds.take ((x1 :: xr).length - 2) ++ [wh o (ds.drop ((x1 :: xr).length - 2))])) := by
          have z := eqt_nest op (A := ds.take ((x1 :: xr).length - 2)) (B := ds.drop ((x1 :: xr).length - 2)) (by rw [← ed]; exact dW7)
          rwa [← ed] at z
        exact good _ _ (EV.tup (k := n + 2) (trk (hs9.same sE) (sm2.trans smE)) m10 dd (gcons fun e h => by
          rcases List.mem_append.mp h with z | z
          · exact gd_le (gds e (List.mem_of_mem_take z)) (by omega)
          · rw [List.mem_singleton.mp z]; exact gB) (by rw [List.length_append, List.length_append]; show 1 + _ + 1 ≤ 1000; omega) eq5) ((hs9.same sE).new m10) (sm2.trans (smE.trans (SmX.new m10)))
      all_goals
        refine ⟨_, rfl, _, rfl, pl, _, rfl, .inl (SqL.of hpl), a, L, ns, _, rfl, hs3, (by show (1 : Int) ≤ ((x1 :: xr).length : Nat); rw [List.length_cons]; omega), (by omega), fun H4 at_ a0 a1 hs4 off4 => ?_⟩
        obtain ⟨j, rfl⟩ : ∃ j : Nat, at_ = (j : Int) := ⟨at_.toNat, by omega⟩
        have jl : j < (x1 :: xr).length := by omega
        have hpl4 : H4 pl = some (.lst (x1 :: xr)) := by rw [off4 pl pla]; exact hpl
        have sm4 : SmX [a] H2 H4 := (SmX.of_same s3).trans (offS off4)
        obtain ⟨e, he, hDx⟩ := dpAll_get hxw (List.getElem?_eq_getElem jl)
        have plM : pl ∉ M := fun z => by
          obtain ⟨o', ho'⟩ := tM pl z
          rw [ho'] at plH; cases plH
        have shx : Same (hide M H2) (hide (pl :: M) H4) := fun b o' eb => by
          obtain ⟨m, eb⟩ := hide_some eb
          have bp : b ≠ pl := fun z => by rw [z, H2pl] at eb; cases eb
          rw [hide_ne (by simp only [List.mem_cons, not_or]; exact ⟨bp, m⟩)]
          exact (lift sm4) b o' m eb
        have tM4 : Trk (pl :: M) H4 := fun b hb => by
          rcases List.mem_cons.mp hb with z | z
          · rw [z]; exact ⟨_, hpl4⟩
          · exact trk hs4 (sm2.trans sm4) b z
        refine ⟨_, rfl, _, rfl, _, rfl, pl, _, _, _, rfl, rfl, SqL.of hpl4, atI_nat (List.getElem?_eq_getElem jl), _, rfl, a, L, ns, _, vk, e, pl :: M, rfl, hs4, dp_same shx _ _ hDx, tkp e (List.mem_of_getElem? he), all1 e (List.mem_of_getElem? he), by omega, List.mem_cons_of_mem _ aM, tM4, fun H5 v5 g5 hs5 sm5 => ?_⟩
        have hpl5 : H5 pl = some (.lst (x1 :: xr)) := sm5 _ _ (fun z => pla (List.mem_singleton.mp z)) hpl4
        refine ⟨_, rfl, _, rfl, pl, _, _, j, rfl, rfl, hpl5, ixN_natF jl, ?_⟩
        have plL : pl ≠ L := fun z => by
          obtain ⟨_, _, _, _, _, h2', _⟩ := hs2
          rw [← z, H2pl] at h2'; cases h2'
        have hs6 : Src (upd H5 pl (.lst ((x1 :: xr).set j v5))) a L ns := hs5.put pla plL
        have sm6 : SmX [a] H2 (upd H5 pl (.lst ((x1 :: xr).set j v5))) := fun b o' m eb => by
          rw [upd_ne (fun z => by rw [z, H2pl] at eb; cases eb)]
          exact (sm4.trans sm5) b o' m eb
        have hpl6 : upd H5 pl (.lst ((x1 :: xr).set j v5)) pl = some (.lst ((x1 :: xr).set j v5)) := upd_same
        have g6 : EV K (n + 2) M (upd H5 pl (.lst ((x1 :: xr).set j v5))) v5 e := by
          obtain ⟨d5, hd5, gd5, q5⟩ := g5
          refine ⟨d5, dp_same (fun b o' eb => ?_) _ _ hd5, gd5, q5⟩
          obtain ⟨m, eb⟩ := hide_some eb
          simp only [List.mem_cons, not_or] at m
          rw [hide_ne m.2, upd_ne m.1]
          exact eb
        generalize upd H5 pl (.lst ((x1 :: xr).set j v5)) = H6 at hs6 sm6 hpl6 g6
        have hw6 := same_seqT ((lift sm6).hid.trans hide_same) hw
        have lset : ((x1 :: xr).set j v5).length ≤ 900 := by rw [List.length_set]; exact lxr
        refine ⟨_, rfl, wa, _, _, _, rfl, rfl, hw6, at0, (by show 1 ≤ sizeLine; decide), fun q1 m1 => ?_⟩
        have s7 := same_upd (o := .lst [.str o]) m1
        refine ⟨_, rfl, q1, pl, _, _, rfl, rfl, upd_same, s7 _ _ hpl6, (by rw [sizeLine_eq]; show 1 + _ ≤ _; omega), fun z nz => ⟨z, _, rfl, .inl ⟨SqL.of upd_same, fun t nt => ?_⟩⟩⟩
        have s8 := s7.trans (same_upd (o := .lst ([.str o] ++ (x1 :: xr).set j v5)) nz)
        have smE := sm6.trans (SmX.of_same s8)
        obtain ⟨e6, hd6, gd6, q6⟩ := g6
        have hd6' := dp_same (SmX.of_same (M := M) s8).hid _ _ hd6
        exact good _ _ (EV.tup (k := n + 2) (xs := [.str o] ++ (x1 :: xr).set j v5) (es := .str o :: ds.set j e6) (trk (hs6.same s8) (sm2.trans smE)) nt (.cons (.str _) (dpAll_set hd6' j (hxx smE))) (gcons fun x h => by
          rcases List.mem_or_eq_of_mem_set h with c | c
          · exact gd_le (gds x c) (by omega)
          · rw [c]; exact gd6) (by rw [List.length_append]; show 1 + _ ≤ 1000; omega) (eqt_set op dW7 he q6)) ((hs6.same s8).new nt) (sm2.trans (smE.trans (SmX.new nt)))
end
end FvF


/-! _law_rewritten, _law_two_words -/
namespace FvF
open PySem PySem.Spec PyProof.Rows L2 Fv FvD FvG FvX FvW TL
def spRw (K : PySem.W.Frag) : Sp := fun vs H Q _ => ∃ (a L : Addr) (ns : List Int) (v : V) (d : PyData) (M : List Addr) (m : Int), vs = [.ref a, v, .int m] ∧ 0 ≤ m ∧ m ≤ 9 ∧ Src H a L ns ∧ Dp K (hide M H) v d ∧ tmB d = true ∧ a ∈ M ∧ Trk M H ∧
  ∀ H' v' d', Dp K (hide M H') v' d' → tmB d' = true → (lawB d d' = true ∧ lawB d' d = true) → Src H' a L ns → SmX [a] H H' → Q v' H'
def spTW (K : PySem.W.Frag) : Sp := fun vs H Q _ => ∃ (a L : Addr) (ns : List Int) (M : List Addr), vs = [.ref a] ∧ Src H a L ns ∧ a ∈ M ∧ Trk M H ∧
  ∀ H' p v1 v2 d1 d2, hide M H' p = some (.tup [v1, v2]) → Dp K (hide M H') v1 d1 → Dp K (hide M H') v2 d2 → tmB d1 = true → tmB d2 = true → (lmeas 5 d1 ≤ 9 ∨ lmeas 5 d2 ≤ 9) → Src H' a L ns → SmX [a] H H' → Q (.ref p) H'
section
variable {P : Program} {w : World} {K : PySem.W.Frag} {mg : Str → Option Value} {base : Heap}
theorem Trk.smF {M : List Addr} {H H' : Hp} {a L : Addr} {ns : List Int} (t : Trk M H) (z : Src H' a L ns) (sm : SmX [a] H H') : Trk M H' := fun b hb => by
  by_cases e : b = a
  · obtain ⟨_, _, _, _, h1, _⟩ := z
    exact ⟨_, by rw [e]; exact h1⟩
  · obtain ⟨o, ho⟩ := t b hb
    exact ⟨o, sm b o (fun q => e (List.mem_singleton.mp q)) ho⟩
theorem SmX.liftF {M : List Addr} {X Y : Hp} {a : Addr} (aM : a ∈ M) (z : SmX [a] X Y) : SmX M X Y := z.sub fun b hb => .inl (by rw [List.mem_singleton.mp hb]; exact aM)
theorem word_run {M : List Addr} {σ : L2.St} {H : Hp} {Q : VK} {a L sg : Addr} {ns : List Int} {ys : List V} (h0 : σ[0]? = some (some (.ref a))) (h1 : σ[1]? = some (some (.ref sg))) (hs : Src H a L ns) (hsg : H sg = some (.lst ys)) (y0 : 0 < ys.length) (y8 : ys.length ≤ 8) (hy : ∀ y ∈ ys, lett y) (sga : sg ≠ a) (aM : a ∈ M) (tM : Trk M H)
    (q : ∀ H' v d, Dp K (hide M H') v d → tmB d = true → lmeas 5 d ≤ 9 → Src H' a L ns → SmX [a] H H' → Q v H') :
    tCall (spTerm K 5) [] C8.E0 (tCons (tVar 0) (tCons (tVar 1) (tCons (tOp (rI0 fun i j => V.int (i + j)) (tC (.int 1)) (tCall spTake [] C8.E0 (tCons (tVar 0) (tCons (tC (.int 4)) tNil))))
      (tCons (tLst (tCons (tCall spPick [] C8.E0 (tCons (tVar 0) (tCons (tLst (tCons (tC (.int 2)) (tCons (tC (.int 4)) (tCons (tC (.int 8)) tNil)))) tNil))) tNil)) tNil)))) σ H Q := by
  refine ⟨_, h0, _, h1, _, h0, a, L, ns, 4, rfl, hs, by decide, by decide, fun H2 t t0 t1 hs2 off2 => ⟨_, _, rfl, rfl, ?_⟩⟩
  refine ⟨_, h0, (by show 3 ≤ sizeLine; decide), fun l nl => ?_⟩
  have sl := same_upd (o := .lst [.int 2, .int 4, .int 8]) nl
  refine ⟨a, L, l, ns, _, rfl, hs2.same sl, (hs2.ne nl).symm, upd_same, by decide, by decide, fun H3 v mv hs3 off3 => ?_⟩
  obtain ⟨m, rfl, m0, m23⟩ : ∃ m : Int, v = .int m ∧ 0 ≤ m ∧ m ≤ 8 := by
    simp only [List.mem_cons, List.not_mem_nil, or_false] at mv
    rcases mv with e | e | e
    · exact ⟨2, e, by decide, by decide⟩
    · exact ⟨4, e, by decide, by decide⟩
    · exact ⟨8, e, by decide, by decide⟩
  refine ⟨(by show 1 ≤ sizeLine; decide), fun r nr => ?_⟩
  have sr := same_upd (o := .lst [.int m]) nr
  have smA : SmX [a] H H3 := (SmX.at off2 (List.mem_singleton.mpr rfl)).trans ((SmX.of_same sl).trans (SmX.at off3 (List.mem_singleton.mpr rfl)))
  have tM3 : Trk M H3 := Trk.smF tM hs3 smA
  have hsg3 : H3 sg = some (.lst ys) := (off3 sg sga).trans (sl _ _ ((off2 sg sga).trans hsg))
  have rL : r ≠ L := fun e => by
    obtain ⟨_, _, _, _, _, e2, _⟩ := hs3
    rw [← e, nr] at e2
    cases e2
  have rn : H r = none := by
    by_cases e : r = a
    · exact absurd e (hs3.ne nr).symm
    · cases eh : H r with
      | none => rfl
      | some o =>
        have := smA r o (fun z => e (List.mem_singleton.mp z)) eh
        rw [nr] at this
        cases this
  refine ⟨a, L, sg, r, ns, 1 + t, m, ys, r :: M, rfl, hs3.same sr, sr _ _ hsg3, y0, by omega, hy, upd_same, sga, ne_of_none hsg3 nr, (hs3.ne nr).symm, rL, m0, by omega, by omega, by omega, List.mem_cons_of_mem _ aM, List.mem_cons_self .., fun b hb => ?_, fun H5 v5 d m5 hd hl m50 m51 hg hs5 hr5 sm5 => ?_⟩
  · rcases List.mem_cons.mp hb with z | z
    · rw [z]; exact ⟨_, upd_same⟩
    · exact (tM3.same sr) b z
  · have l1 : 1 ≤ lmeas (1 + t).toNat d := by omega
    have l5 := lmeas_toF (n := (1 + t).toNat) (m := 5) l1 (by omega)
    refine q H5 v5 d (dp_same (hide_sub fun b hb => List.mem_cons_of_mem _ hb) d v5 hd) ((tmB_iff d).mpr ⟨by omega, by omega⟩) (by omega) hs5 ?_
    intro b o hb e
    have br : b ≠ r := ne_of_none e rn
    refine sm5 b o (fun z => ?_) (sr _ _ (smA b o hb e))
    rcases List.mem_cons.mp z with z | z
    · exact hb (by rw [z]; exact List.mem_singleton.mpr rfl)
    · exact br (List.mem_singleton.mp z)
theorem ok_rewritten {f : Addr} {fd : FuncData} {k : Nat} (F : Fun K "_law_rewritten" "_law_rewritten" s_law_rewritten f fd) (hk : 21 ≤ k) (m_range : mg "range" = none) (C_law_same_word : Own P w K mg base 7 "_law_same_word" ["_law_source_here", "_law_word", "_law_known"] (spSW K 5)) (C_law_fits : Own P w K mg base 21 "_law_fits" ["_law_word"] (spFits K)) :
    FnOk P w K mg base CX0 (k + 1) f fd ["_law_source_here", "_law_word", "_law_many"] (spRw K) := by
  refine F.ok sc_law_rewritten (fun vs H Q E h => ?_) (fun cdv A0 outer s H vs Q E hr h => ?_)
  · obtain ⟨a, L, ns, v, d, M, m, rfl, _⟩ := h
    rfl
  · obtain ⟨a, L, ns, v, d, M, m, rfl, m0, m9, hs, hv, tm, aM, tM, good⟩ := h
    refine ⟨_, (pss_cons (ps_for PassesOwn.never rfl (pi_range1 (by rfl) m_range (pa_cons (pv 2) pa_nil)) (pg_name (i := 3) sc_law_rewritten.nd rfl (by first | exact .inl rfl | exact .inr rfl))
        (pss_cons (ps_set (i := 4) sc_law_rewritten.nd rfl (by first | exact .inl rfl | exact .inr rfl) (pe_own C_law_same_word (hr.mono (by omega)) (by rfl) (pa_cons (pv 0) (pa_cons (pv 1) (pa_cons (FvD.pe_dnewN) pa_nil)))))
        (pss_one (ps_if (pt_val (pe_own C_law_fits (hr.mono (by omega)) (by rfl) (pa_cons (pv 4) pa_nil)))
          (pss_one (ps_set (i := 1) sc_law_rewritten.nd rfl (by first | exact .inl rfl | exact .inr rfl) (pv 4)))
          pss_nil))))
      (pss_one (ps_ret (pv 1)))), ?_⟩
    refine ⟨_, rfl, m, rfl, by omega, by omega, for_range (lo := 0) (n := m.toNat) (fun i σ Hi => ∃ (y3 y4 : Option V) (v' : V) (d' : PyData), σ = [some (.ref a), some v', some (.int m), y3, y4] ∧ Dp K (hide M Hi) v' d' ∧ tmB d' = true ∧ (lawB d d' = true ∧ lawB d' d = true) ∧ Src Hi a L ns ∧ SmX [a] H Hi) ?_ ?_ ?_⟩
    · exact ⟨_, _, v, d, rfl, hv, tm, ⟨Lw.refl lawB_ok (by have := depth_tm tm; omega), Lw.refl lawB_ok (by have := depth_tm tm; omega)⟩, hs, SmX.refl _ _⟩
    · rintro i σ Hi hi ⟨y3, y4, v', d', rfl, hv', tm', eq', hs', sm'⟩
      refine ⟨_, rfl, _, rfl, fun p np => ?_⟩
      have s1 := same_upd (o := NdO w p []) np
      have sm1 := sm'.trans (SmX.of_same s1)
      refine ⟨a, L, ns, v', .ref p, d', M, rfl, hs'.same s1, dp_same (SmX.of_same s1).hid _ _ hv', tk_tm tm', ((tmB_iff _).mp tm').1, by decide, aM, Trk.smF tM (hs'.same s1) sm1, fun H2 v2 g2 hs2 sm2 => ?_⟩
      obtain ⟨d2, hd2, gd2, q2⟩ := g2
      refine ⟨_, rfl, v2, d2, rfl, dp_same hide_same _ _ hd2, gd_le gd2 (by decide), fun H3 s3 => ⟨_, rfl, ?_⟩⟩
      have sm3 := sm1.trans (sm2.trans (SmX.of_same s3))
      refine ite2 (fun c => ?_) fun c => ?_
      · have c' := c
        rw [Bool.and_eq_true, decide_eq_true_eq, decide_eq_true_eq] at c'
        exact ⟨_, rfl, _, _, v2, d2, rfl, dp_same (SmX.of_same s3).hid _ _ hd2, (tmB_iff d2).mpr c', EqT.trans eq' q2 (by have := depth_tm tm; omega) (by have := depth_tm tm'; omega) (by have := depth_tm tm'; have := q2.dp; omega), hs2.same s3, sm3⟩
      · exact ⟨_, _, v', d', rfl, dp_same (SmX.liftF aM ((SmX.of_same s1).trans (sm2.trans (SmX.of_same s3)))).hid _ _ hv', tm', eq', hs2.same s3, sm3⟩
    · rintro σ Hi ⟨y3, y4, v', d', rfl, hv', tm', eq', hs', sm'⟩
      exact ⟨_, rfl, good Hi v' d' hv' tm' eq' hs' sm'⟩
theorem ok_two_words {f : Addr} {fd : FuncData} {k : Nat} (F : Fun K "_law_two_words" "_law_two_words" s_law_two_words f fd) (hk : 22 ≤ k) (C_law_take : Own P w K mg base 1 "_law_take" ["_law_source_here", "_law_many"] spTake) (C_law_pick : Own P w K mg base 2 "_law_pick" ["_law_source_here", "_law_row"] spPick)
    (C_law_signs : Own P w K mg base 3 "_law_signs" ["_law_source_here", "_law_most"] spSigns) (C_law_term : Own P w K mg base 7 "_law_term" ["_law_source_here", "_law_signs_here", "_law_deep", "_law_room"] (spTerm K 5)) (C_law_fits : Own P w K mg base 21 "_law_fits" ["_law_word"] (spFits K)) (C_law_rewritten : Own P w K mg base 22 "_law_rewritten" ["_law_source_here", "_law_word", "_law_many"] (spRw K)) :
    FnOk P w K mg base CX0 (k + 1) f fd ["_law_source_here"] (spTW K) := by
  refine F.ok sc_law_two_words (fun vs H Q E h => ?_) (fun cdv A0 outer s H vs Q E hr h => ?_)
  · obtain ⟨a, L, ns, M, rfl, _⟩ := h
    rfl
  · obtain ⟨a, L, ns, M, rfl, hs, aM, tM, good⟩ := h
    refine ⟨_, (pss_cons (ps_set (i := 1) sc_law_two_words.nd rfl (by first | exact .inl rfl | exact .inr rfl) (pe_own C_law_signs (hr.mono (by omega)) (by rfl) (pa_cons (pv 0) (pa_cons pe_int pa_nil))))
      (pss_cons (ps_set (i := 2) sc_law_two_words.nd rfl (by first | exact .inl rfl | exact .inr rfl) (pe_own C_law_term (hr.mono (by omega)) (by rfl) (pa_cons (pv 0) (pa_cons (pv 1) (pa_cons (pe_op op_add pe_int (pe_own C_law_take (hr.mono (by omega)) (by rfl) (pa_cons (pv 0) (pa_cons pe_int pa_nil)))) (pa_cons (pe_lst (pa_cons (pe_own C_law_pick (hr.mono (by omega)) (by rfl) (pa_cons (pv 0) (pa_cons (pe_lst (pa_cons pe_int (pa_cons pe_int (pa_cons pe_int pa_nil)))) pa_nil))) pa_nil)) pa_nil))))))
      (pss_cons (ps_set (i := 3) sc_law_two_words.nd rfl (by first | exact .inl rfl | exact .inr rfl) (pe_own C_law_term (hr.mono (by omega)) (by rfl) (pa_cons (pv 0) (pa_cons (pv 1) (pa_cons (pe_op op_add pe_int (pe_own C_law_take (hr.mono (by omega)) (by rfl) (pa_cons (pv 0) (pa_cons pe_int pa_nil)))) (pa_cons (pe_lst (pa_cons (pe_own C_law_pick (hr.mono (by omega)) (by rfl) (pa_cons (pv 0) (pa_cons (pe_lst (pa_cons pe_int (pa_cons pe_int (pa_cons pe_int pa_nil)))) pa_nil))) pa_nil)) pa_nil))))))
      (pss_cons (ps_set (i := 4) sc_law_two_words.nd rfl (by first | exact .inl rfl | exact .inr rfl) (pe_own C_law_take (hr.mono (by omega)) (by rfl) (pa_cons (pv 0) (pa_cons pe_int pa_nil))))
      (C8.pss_cut (ps_if (pt_cmpR op_eq (pv 4) pe_int (nomark _))
        (pss_one (ps_set (i := 3) sc_law_two_words.nd rfl (by first | exact .inl rfl | exact .inr rfl) (pe_own C_law_rewritten (hr.mono (by omega)) (by rfl) (pa_cons (pv 0) (pa_cons (pv 2) (pa_cons pe_int pa_nil))))))
        pss_nil)
      (C8.pss_cut (ps_if (PW.pt (pw_and (pt_cmpR op_eq (pv 4) pe_int (nomark _)) (pw_and1 (pt_val (pe_own C_law_fits (hr.mono (by omega)) (by rfl) (pa_cons (pe_tup (pa_cons pe_str (pa_cons (pv 3) (pa_cons (pv 2) pa_nil)))) pa_nil))))))
        (pss_one (ps_set (i := 3) sc_law_two_words.nd rfl (by first | exact .inl rfl | exact .inr rfl) (pe_tup (pa_cons pe_str (pa_cons (pv 3) (pa_cons (pv 2) pa_nil))))))
        pss_nil)
      (C8.pss_cut (ps_if (PW.pt (pw_and (pt_cmpR op_eq (pv 4) pe_int (nomark _)) (pw_and1 (pt_val (pe_own C_law_fits (hr.mono (by omega)) (by rfl) (pa_cons (pe_tup (pa_cons pe_str (pa_cons (pv 2) (pa_cons (pv 3) pa_nil)))) pa_nil))))))
        (pss_one (ps_set (i := 2) sc_law_two_words.nd rfl (by first | exact .inl rfl | exact .inr rfl) (pe_tup (pa_cons pe_str (pa_cons (pv 2) (pa_cons (pv 3) pa_nil))))))
        pss_nil)
      (pss_one (ps_ret (pe_tup (pa_cons (pv 2) (pa_cons (pv 3) pa_nil)))))))))))), ?_⟩
    refine ⟨_, rfl, a, L, ns, 4, rfl, hs, by decide, by decide, fun H1 sg ys y0 y4 hy _ nsg hsg hs1 sm1 => ?_⟩
    have sga : sg ≠ a := (hs.ne nsg).symm
    refine word_run rfl rfl hs1 hsg y0 (by omega) hy sga aM (Trk.smF tM hs1 sm1) fun H2 v1 d1 hv1 t1 n1 hs2 sm2 => ?_
    have hsg2 : H2 sg = some (.lst ys) := sm2 _ _ (fun z => sga (List.mem_singleton.mp z)) hsg
    have sm12 := sm1.trans sm2
    refine word_run rfl rfl hs2 hsg2 y0 (by omega) hy sga aM (Trk.smF tM hs2 sm12) fun H3 v2 d2 hv2 t2 n2 hs3 sm3 => ?_
    refine ⟨_, rfl, a, L, ns, 5, rfl, hs3, by decide, by decide, fun H4 wy w0 w5 hs4 off4 => ?_⟩
    have sm4 : SmX [a] H3 H4 := SmX.at off4 (List.mem_singleton.mpr rfl)
    have smA := sm12.trans (sm3.trans sm4)
    have hv1' := dp_same (SmX.liftF aM (sm3.trans sm4)).hid _ _ hv1
    have hv2' := dp_same (SmX.liftF aM sm4).hid _ _ hv2
    have hs4' := hs4
    clear hs1 hsg nsg hs2 hsg2 hs3 hv1 hv2 sm1 sm2 sm3 sm4 sm12 off4 hs4
    have gtw : ∀ {x : Str} {e1 e2 : PyData}, tmB e1 = true → tmB e2 = true → gd 0 (.str x) = true → gd 20 (.tuple [.str x, e1, e2]) = true := fun {x e1 e2} h1 h2 hx => gd_tup (n := 19) (fun z hz => by
      simp only [List.mem_cons, List.not_mem_nil, or_false] at hz
      rcases hz with rfl | rfl | rfl
      · exact gd_le hx (by decide)
      · exact gd_lm 19 _ (by rw [lmeas_toF ((tmB_iff _).mp h1).1 (by decide)]; exact ((tmB_iff _).mp h1).1) (by rw [lmeas_toF ((tmB_iff _).mp h1).1 (by decide)]; have := ((tmB_iff _).mp h1).2; omega)
      · exact gd_lm 19 _ (by rw [lmeas_toF ((tmB_iff _).mp h2).1 (by decide)]; exact ((tmB_iff _).mp h2).1) (by rw [lmeas_toF ((tmB_iff _).mp h2).1 (by decide)]; have := ((tmB_iff _).mp h2).2; omega)) (by show 3 ≤ 1000; decide)
    refine ⟨fun σ' H' => ∃ (u1 u2 : V) (e1 e2 : PyData), σ' = [some (.ref a), some (.ref sg), some u1, some u2, some (.int wy)] ∧ Dp K (hide M H') u1 e1 ∧ Dp K (hide M H') u2 e2 ∧ tmB e1 = true ∧ tmB e2 = true ∧ (lmeas 5 e1 ≤ 9 ∧ (wy ≠ 0 → lmeas 5 e2 ≤ 9)) ∧ Src H' a L ns ∧ SmX [a] H H', ?_, ?_⟩
    · refine ⟨_, rfl, rfl, _, rfl, ite2 (fun c0 => ?_) fun _ => ⟨v1, v2, d1, d2, rfl, hv1', hv2', t1, t2, ⟨n1, fun _ => n2⟩, hs4', smA⟩⟩
      refine ⟨_, rfl, _, rfl, a, L, ns, v1, d1, M, 3, rfl, by decide, by decide, hs4', hv1', t1, aM, Trk.smF tM hs4' smA, fun H5 u e hu te _ hs5 sm5 => ?_⟩
      exact ⟨v1, u, d1, e, rfl, dp_same (SmX.liftF aM sm5).hid _ _ hv1', hu, t1, te, ⟨n1, fun z => absurd (by have := of_decide_eq_true c0; injection this) z⟩, hs5, smA.trans sm5⟩
    rintro σ' H5 ⟨u1, u2, e1, e2, rfl, hu1, hu2, te1, te2, nn, hs5, sm5⟩
    have trk5 := Trk.smF tM hs5 sm5
    refine ⟨fun σ' H' => ∃ (u1 u2 : V) (e1 e2 : PyData), σ' = [some (.ref a), some (.ref sg), some u1, some u2, some (.int wy)] ∧ Dp K (hide M H') u1 e1 ∧ Dp K (hide M H') u2 e2 ∧ tmB e1 = true ∧ tmB e2 = true ∧ (lmeas 5 e1 ≤ 9 ∧ (wy ≠ 0 → wy ≠ 1 → lmeas 5 e2 ≤ 9)) ∧ Src H' a L ns ∧ SmX [a] H H', ?_, ?_⟩
    · refine ⟨_, rfl, rfl, _, rfl, ite2 (fun c1 => ?_) fun _ => iteF ⟨u1, u2, e1, e2, rfl, hu1, hu2, te1, te2, ⟨nn.1, fun z _ => nn.2 z⟩, hs5, sm5⟩⟩
      refine ⟨_, rfl, _, rfl, (by show 3 ≤ sizeLine; decide), fun p np => ?_⟩
      obtain ⟨hp, s6⟩ := new_in trk5 np (o := .tup [.str "|", u2, u1])
      refine ⟨.ref p, .tuple [.str "|", e2, e1], rfl, dp_same hide_same _ _ (.tup (SqT.of hp) (.cons (.str _) (.cons (dp_same s6 _ _ hu2) (.cons (dp_same s6 _ _ hu1) .nil)))), gtw te2 te1 (by decide +kernel), fun H7 s7 => ⟨_, rfl, ?_⟩⟩
      have sA := (same_upd (o := .tup [.str "|", u2, u1]) np).trans s7
      have hu1' := dp_same (SmX.of_same (M := M) sA).hid _ _ hu1
      have hu2' := dp_same (SmX.of_same (M := M) sA).hid _ _ hu2
      have sm7 := sm5.trans (SmX.of_same sA)
      refine ite2 (fun c => ?_) fun c => ⟨u1, u2, e1, e2, rfl, hu1', hu2', te1, te2, ⟨nn.1, fun z _ => nn.2 z⟩, hs5.same sA, sm7⟩
      rw [Bool.and_eq_true, decide_eq_true_eq, decide_eq_true_eq] at c
      refine ⟨_, rfl, _, rfl, (by show 3 ≤ sizeLine; decide), fun p2 np2 => ?_⟩
      obtain ⟨hp2, s8⟩ := new_in (Trk.smF tM (hs5.same sA) sm7) np2 (o := .tup [.str "|", u2, u1])
      exact ⟨u1, .ref p2, e1, .tuple [.str "|", e2, e1], rfl, dp_same s8 _ _ hu1', .tup (SqT.of hp2) (.cons (.str _) (.cons (dp_same s8 _ _ hu2') (.cons (dp_same s8 _ _ hu1') .nil))), te1, (tmB_iff _).mpr c, ⟨nn.1, fun _ z => absurd (by have := of_decide_eq_true c1; injection this) z⟩, (hs5.same sA).new np2, sm7.trans (SmX.new np2)⟩
    clear hu1 hu2 te1 te2 nn hs5 sm5 trk5 e1 e2 u1 u2
    rintro σ' H5 ⟨u1, u2, e1, e2, rfl, hu1, hu2, te1, te2, nn, hs5, sm5⟩
    have trk5 := Trk.smF tM hs5 sm5
    refine ⟨fun σ' H' => ∃ (u1 u2 : V) (e1 e2 : PyData), σ' = [some (.ref a), some (.ref sg), some u1, some u2, some (.int wy)] ∧ Dp K (hide M H') u1 e1 ∧ Dp K (hide M H') u2 e2 ∧ tmB e1 = true ∧ tmB e2 = true ∧ (lmeas 5 e1 ≤ 9 ∨ lmeas 5 e2 ≤ 9) ∧ Src H' a L ns ∧ SmX [a] H H', ?_, ?_⟩
    · refine ⟨_, rfl, rfl, _, rfl, ite2 (fun c2 => ?_) fun _ => iteF ⟨u1, u2, e1, e2, rfl, hu1, hu2, te1, te2, .inl nn.1, hs5, sm5⟩⟩
      refine ⟨_, rfl, _, rfl, (by show 3 ≤ sizeLine; decide), fun p np => ?_⟩
      obtain ⟨hp, s6⟩ := new_in trk5 np (o := .tup [.str "&", u1, u2])
      refine ⟨.ref p, .tuple [.str "&", e1, e2], rfl, dp_same hide_same _ _ (.tup (SqT.of hp) (.cons (.str _) (.cons (dp_same s6 _ _ hu1) (.cons (dp_same s6 _ _ hu2) .nil)))), gtw te1 te2 (by decide +kernel), fun H7 s7 => ⟨_, rfl, ?_⟩⟩
      have sA := (same_upd (o := .tup [.str "&", u1, u2]) np).trans s7
      have hu1' := dp_same (SmX.of_same (M := M) sA).hid _ _ hu1
      have hu2' := dp_same (SmX.of_same (M := M) sA).hid _ _ hu2
      have sm7 := sm5.trans (SmX.of_same sA)
      refine ite2 (fun c => ?_) fun c => ⟨u1, u2, e1, e2, rfl, hu1', hu2', te1, te2, .inl nn.1, hs5.same sA, sm7⟩
      rw [Bool.and_eq_true, decide_eq_true_eq, decide_eq_true_eq] at c
      refine ⟨_, rfl, _, rfl, (by show 3 ≤ sizeLine; decide), fun p2 np2 => ?_⟩
      obtain ⟨hp2, s8⟩ := new_in (Trk.smF tM (hs5.same sA) sm7) np2 (o := .tup [.str "&", u1, u2])
      exact ⟨.ref p2, u2, .tuple [.str "&", e1, e2], e2, rfl, .tup (SqT.of hp2) (.cons (.str _) (.cons (dp_same s8 _ _ hu1') (.cons (dp_same s8 _ _ hu2') .nil))), dp_same s8 _ _ hu2', (tmB_iff _).mpr c, te2, .inr (nn.2 (fun z => by have := of_decide_eq_true c2; rw [z] at this; cases this) (fun z => by have := of_decide_eq_true c2; rw [z] at this; cases this)), (hs5.same sA).new np2, sm7.trans (SmX.new np2)⟩
    clear hu1 hu2 te1 te2 nn hs5 sm5 trk5 e1 e2 u1 u2
    rintro σ' H5 ⟨u1, u2, e1, e2, rfl, hu1, hu2, te1, te2, nn, hs5, sm5⟩
    refine ⟨_, rfl, _, rfl, (by show 2 ≤ sizeLine; decide), fun p np => ?_⟩
    obtain ⟨hp, s6⟩ := new_in (Trk.smF tM hs5 sm5) np (o := .tup [u1, u2])
    exact good _ p u1 u2 e1 e2 hp (dp_same s6 _ _ hu1) (dp_same s6 _ _ hu2) te1 te2 nn (hs5.new np) (sm5.trans (SmX.new np))
end
end FvF


set_option maxHeartbeats 2000000
namespace FvG
open PySem PySem.Spec PyProof.Rows L2
/-! ### t[:0:-1] of a tuple: its items but the first one, from the last one down -/
theorem fm_congr {α β : Type} {f g : α → Option β} : ∀ {l : List α}, (∀ a ∈ l, f a = g a) → l.filterMap f = l.filterMap g
  | [], _ => rfl
  | a :: l, h => by
    rw [List.filterMap_cons, List.filterMap_cons, h a List.mem_cons_self, fm_congr (l := l) fun b hb => h b (List.mem_cons_of_mem _ hb)]
theorem back_pick (x : Value) (r : List Value) : ((List.range r.length).filterMap fun (k : Nat) => ((x :: r).toArray)[(((r.length : Nat) : Int) + (k : Int) * (-1)).toNat]?) = r.reverse := by
  have step : ∀ k ∈ List.range r.length, ((x :: r).toArray)[(((r.length : Nat) : Int) + (k : Int) * (-1)).toNat]? = r.reverse.toArray[k]? := fun k hk => by
    have hk' := List.mem_range.mp hk
    have e : (((r.length : Nat) : Int) + (k : Int) * (-1)).toNat = (r.length - 1 - k) + 1 := by omega
    rw [e, ← Array.getElem?_toList, ← Array.getElem?_toList]
    show r[r.length - 1 - k]? = r.reverse[k]?
    rw [List.getElem?_reverse hk']
  rw [fm_congr step]
  have := PySem.W.krv_all r.reverse.toArray
  rw [List.size_toArray, List.length_reverse] at this
  exact this
section
variable {prog : Program} {w : World} {A : Around} {E : Value → Shared → Prop} {s : Shared}
theorem applied_back {sl : Addr} {vl vu vs : Value} {n : Nat} {Q : Int × Int × Nat → Shared → Prop} (hs : s.heap.IsSliceOf sl vl vu vs) (pl : IsPart vl none) (pu : IsPart vu (some 0)) (ps : IsPart vs (some (-1)))
    (h : Q ((n : Int), -1, n) s) : wpAny (model prog w) A (Builtin.Slice.sliceApplied (.ref sl) (pure ((n + 1 : Nat) : Int))) Q E s := by
  obtain ⟨os, hos, hcs, hds⟩ := id hs
  unfold Builtin.Slice.sliceApplied Builtin.Slice.sliceFields
  refine wpAny_bind (wpAny_bind (wpAny_field hos hds (x := vl) rfl (wpAny_bind (wpAny_field hos hds (x := vu) rfl (wpAny_bind (wpAny_field hos hds (x := vs) rfl (wpAny_pure ?_)))))))
  refine wpAny_bind (HT.slicePart_ ps ?_)
  show wpAny _ _ (if ((-1 : Int) == 0) = true then _ else _) _ _ s
  rw [if_neg (by decide)]
  refine wpAny_bind (HT.slicePart_ pl (wpAny_bind (HT.slicePart_ pu (wpAny_bind (wpAny_pure ?_)))))
  have e1 : Builtin.Slice.sliceAdjust none (some 0) (-1) ((n + 1 : Nat) : Int) = ((n : Int), 0) := by
    unfold Builtin.Slice.sliceAdjust
    simp only [show ((-1 : Int) < 0) = True from by simp, if_true]
    refine Prod.ext ?_ ?_
    · show ((n + 1 : Nat) : Int) - 1 = (n : Int)
      omega
    · simp
      try omega
  have e2 : Builtin.Slice.slicePlaces (n : Int) 0 (-1) = n := by
    unfold Builtin.Slice.slicePlaces
    rw [if_neg (by decide)]
    by_cases hn : (n : Int) > 0
    · rw [if_pos hn]
      simp
      try omega
    · rw [if_neg hn]
      omega
  show wpAny _ _ (match Builtin.Slice.sliceAdjust none (some 0) (-1) ((n + 1 : Nat) : Int) with | (lo, hi) => pure (lo, (-1 : Int), Builtin.Slice.slicePlaces lo hi (-1))) _ _ s
  rw [e1]
  show wpAny _ _ (pure ((n : Int), (-1 : Int), Builtin.Slice.slicePlaces (n : Int) 0 (-1))) _ _ s
  rw [e2]
  exact wpAny_pure h
theorem item_back {t sl : Addr} {x : Value} {r : List Value} {vl vu vs : Value} {Q : Value → Shared → Prop} (ht : IsTup s.heap t (x :: r).toArray) (hs : s.heap.IsSliceOf sl vl vu vs) (pl : IsPart vl none) (pu : IsPart vu (some 0)) (ps : IsPart vs (some (-1)))
    (hz : r.length ≤ sizeLine) (h : Q (.ref s.heap.objs.size) { s with heap := s.heap.push { cls := .type "tuple", data := .seq r.reverse.toArray } }) : wpAny (model prog w) A (getItem (.ref t) (.ref sl)) Q E s := by
  obtain ⟨os, hos, hcs, hds⟩ := id hs
  have hTs : s.TypeIs (.ref sl) "slice" := ⟨os, hos, hcs⟩
  have fits : sizeOk (.seq r.reverse.toArray) := by
    show r.reverse.toArray.size ≤ sizeLine
    rw [List.size_toArray, List.length_reverse]
    exact hz
  unfold getItem
  try with_reducible refine wpAny_holding ?_
  first | refine wpAny_bind (wpAny_pure ?_) | skip
  refine wpAny_bind (wpAny_sequenceKey ht.typeIs (by decide) ?_)
  refine wpAny_bind (wpAny_callSpecial?_slot (name := Str.ofString "__getitem__") ht.typeIs PyProof.Rows.slot_tuple_getitem (wpAny_call_entry PyProof.Rows.slot_tuple_getitem ht.typeIs entry_tuple_getitem ?_ (args_tuple_getitem _ _)))
  show wpAny _ _ (Builtin.Tuple.tupleItemsOf (.ref t) >>= _) _ _ s
  refine wpAny_bind (PyProof.Rows.tupleItemsOf_ ht ?_)
  refine wpAny_bind (wpAny_typeOf hTs ?_)
  rw [if_pos (by decide)]
  have en : (x :: r).toArray.size = r.length + 1 := by rw [List.size_toArray, List.length_cons]
  rw [en]
  refine wpAny_bind (applied_back (n := r.length) hs pl pu ps ?_)
  show wpAny _ _ (if (((r.length : Nat) : Int) == 0 && (-1 : Int) == 1 && r.length == r.length + 1) = true then _ else _) _ _ s
  rw [if_neg (by rw [show ((-1 : Int) == 1) = false from by decide, Bool.and_false, Bool.false_and]; exact Bool.false_ne_true), back_pick]
  first
    | exact wpAny_bind (m := Builtin.Tuple.tupleExact _) (wpAny_newObj_type (wpAny_pure ⟨_, rfl, wpAny_pure h⟩) fits)
    | exact wpAny_bind (m := Builtin.Tuple.tupleExact _) (wpAny_newObj_type (wpAny_bind (wpAny_pure (wpAny_pure ⟨_, rfl, wpAny_pure h⟩))) fits)
    | exact wpAny_bind (wpAny_bind (m := Builtin.Tuple.tupleExact _) (wpAny_newObj_type (wpAny_pure (wpAny_pure ⟨_, rfl, wpAny_pure h⟩)) fits))
    | exact wpAny_bind (wpAny_bind (m := Builtin.Tuple.tupleExact _) (wpAny_newObj_type (wpAny_pure ⟨_, rfl, wpAny_pure h⟩) fits))
end
section
variable {X : Cx}
def tBackT (K : PySem.W.Frag) (te : TE) : TE := fun σ H Q => te σ H fun x H1 => ∃ a y ys, x = .ref a ∧ SqT K H1 a (y :: ys) ∧ ∀ p, H1 p = none → Q (.ref p) (upd H1 p (.tup ys.reverse))
theorem pe_backT {e : Expr} {te : TE} {k j : Nat} {p0 p1 p2 p3 pos : Pos} (he : PE X e te) : PE X (.Subscript e (.Slice none (some (.Constant (.int 0) j p0)) (some (.UnaryOp .USub (.Constant (.int 1) k p1) p2)) p3) pos) (tBackT X.K te) := by
  refine ⟨fun pins s σ H Q I h => ?_⟩
  refine Subscript_ (thn (he.run pins s σ H _ I h) fun v s1 ⟨x, H1, I1, r1, q1⟩ => ?_)
  obtain ⟨a, y, ys, ex, hx, q⟩ := q1
  subst ex
  cases r1
  have hst : PO X (some (.UnaryOp .USub (.Constant (.int 1) k p1) p2)) (tPart (tUn (rU fun i => .int (-i)) (tC (.int 1)))) := po_some (pe_un un_neg pe_int)
  have hup : PO X (some (.Constant (.int 0) j p0)) (tPart (tC (.int 0))) := po_some pe_int
  refine wpAny_Slice (thn (po_none.run pins s1 σ H1 (fun o H2 => o = none ∧ H2 = H1) I1 ⟨rfl, rfl⟩) fun vl s2 ⟨l, H2, I2, pl, el, e2⟩ => ?_)
  subst el e2
  refine thn (hup.run pins s2 σ H2 (fun o H3 => o = some 0 ∧ H3 = H2) I2 ⟨0, rfl, rfl, rfl⟩) fun vu s3 ⟨u, H3, I3, pu, eu, e3⟩ => ?_
  subst eu e3
  refine thn (hst.run pins s3 σ H3 (fun o H4 => o = some (-1) ∧ H4 = H3) I3 ⟨1, rfl, -1, rfl, rfl, rfl⟩) fun vs s4 ⟨o, H4, I4, ps, eo, e4⟩ => ?_
  subst eo e4
  have I5 : Inv X pins σ H4 { s4 with heap := s4.heap.push { cls := .type "slice", data := .fields #[vl, vu, vs] } } := I4.kept (t' := s4.toks) fun b ob q => Heap.get?_push_of_some _ q
  obtain ⟨its, r, ht, hz⟩ := I5.tuple hx
  cases r with
  | @cons _ u0 _ us r0 rs =>
    have hlen := rs.length
    have hz' : us.length ≤ sizeLine := by
      rw [List.length_cons] at hz
      omega
    show wpAny (model X.prog X.w) X.A (subscriptTail e (.Slice none (some (.Constant (.int 0) j p0)) (some (.UnaryOp .USub (.Constant (.int 1) k p1) p2)) p3) (.ref a) (.ref s4.heap.objs.size)) (EP X pins σ Q) X.xe { s4 with heap := s4.heap.push { cls := .type "slice", data := .fields #[vl, vu, vs] } }
    refine tail_any (ops := [.ref a, .ref s4.heap.objs.size]) ht.typeIs (PyProof.Rows.slot_tuple_getitem.lookup) ?_ (by with_unfolding_all rfl)
    refine item_back ht (Heap.IsSliceOf.new _ vl vu vs) pl pu ps hz' ?_
    refine ⟨.ref _, _, I5.laid (t' := s4.toks) (o := .tup ys.reverse) (fun b ob q => Heap.get?_push_of_some _ q) (Nat.le_refl _) ?_, rfl, q _ (I5.hok.fresh (Nat.le_refl _))⟩
    exact ⟨by rw [List.length_reverse, hlen]; exact hz', _, L2.Vals.reverse rs, IsTup.new _ _⟩
/-- l.extend(t) of a tuple -/
def rExtendT (K : PySem.W.Frag) : V → List V → Hp → VK → Prop := fun x vs H Q => ∃ l b xs zs, x = .ref l ∧ vs = [.ref b] ∧ H l = some (.lst xs) ∧ SqT K H b zs ∧ xs.length + zs.length ≤ sizeLine ∧ Q .non (upd H l (.lst (xs ++ zs)))
theorem ext_meets (l : Addr) (items : Array Value) (n : Nat) (b : Addr) (items2 : Array Value) (n2 : Nat) (dd : Option Addr) (sl : Array (Option Value)) (hs0 : ¬(!items.isEmpty && Builtin.List.listTooLong (items.size + items2.size)) = true) (hs1 : items.size ≤ sizeLine) (hs2 : items.size + items2.size ≤ sizeLine + 1) :
    Meets (Builtin.«list.extend» ⟨[.ref l, .ref b], []⟩) (fun _ R s => s.heap.get? l = some { cls := .type "list", dict := none, data := .seq items n, slots := #[] } ∧ s.heap.get? b = some { cls := .type "tuple", dict := dd, data := .seq items2 n2, slots := sl } ∧ R (.ok (.ret Value.none)) { s with heap := s.heap.update l (Obj.mapSeq fun x => x ++ items2), toks := s.toks }) :=
  .of_wp fun prog w A R s h => by
    obtain ⟨hp, g, d, tk, os⟩ := s
    obtain ⟨hl, hb, h⟩ := h
    have f1 := AutoSeq1.idx_int
    have f2 := AutoSeq1.sub_tuple_tuple
    have f3 := AutoSeq1.sub_list_list
    have f4 := AutoSeq1.sub_tuple_list
    have f5 := AutoSeq1.sub_list_tuple
    have hz' : (items ++ items2).size ≤ sizeLine + 1 := by rw [Array.size_append]; exact hs2
    wp_walk using (wpAny_updateSeq hl rfl (hz := hs1) (_hz' := hz')), AutoSeq1.wpAny_loadPart' hl, AutoSeq1.wpAny_loadPart' hb
    exact ⟨_, rfl, h⟩
theorem mt_extendT : MtM X "list.extend" (rExtendT X.K) := by
  intro pins s σ H x vs v us Q I rx rv h
  obtain ⟨l, b, xs, zs, rfl, rfl, hH, hB, hz, q⟩ := h
  cases rx
  obtain ⟨u, rfl, ru⟩ := rv.one
  cases ru
  obtain ⟨z, its, n, r, hl, e⟩ := I.lstM hH
  obtain ⟨its2, r2, ⟨⟨c2, dd, data, sl⟩, e2, hc2, n2, hd2⟩, hz2⟩ := I.tuple hB
  simp only at hc2 hd2
  subst hc2 hd2
  have hl2 := r2.length
  have hsz : its.toArray.size + its2.toArray.size ≤ sizeLine := by rw [List.size_toArray, List.size_toArray]; omega
  have hlong : ¬ (!its.toArray.isEmpty && Builtin.List.listTooLong (its.toArray.size + its2.toArray.size)) = true := by
    rw [notLongL hsz, Bool.and_false]
    exact Bool.false_ne_true
  refine call_meets F.slot_list_extend ⟨_, e, rfl⟩ F.entry_list_extend (F.args_list_extend_2 _ _) (ext_meets l its.toArray n b its2.toArray n2 dd sl hlong (by rw [List.size_toArray]; omega) (by omega)) ⟨e, e2, ?_⟩
  refine ⟨.non, _, I.lset (its' := its ++ its2) hH e (by simp) (r.append r2) ?_, rfl, q⟩
  rw [List.length_append]
  omega
end
end FvG


set_option maxHeartbeats 4000000
namespace FvW
open PySem PySem.Spec PyProof.Rows L2 SrtO
/-! ### sorted of a dict whose keys are texts, any number of them -/
def ltT (v u : Value) : Bool := decide ((PyProof.Rows.strOf v).cps.toList < (PyProof.Rows.strOf u).cps.toList)
theorem swo_txt : Swo ltT where
  asym := fun x y h => decide_eq_false fun z => List.lt_irrefl _ (List.lt_trans (of_decide_eq_true h) z)
  tr := fun x y z h1 h2 => by
    have a := of_decide_eq_false h1
    have b := of_decide_eq_false h2
    exact decide_eq_false (List.not_lt.mpr (List.le_trans (List.not_lt.mp a) (List.not_lt.mp b)))
section
variable {prog : Program} {w : World} {A : Around} {s : Shared}
theorem txt_cmp {vs : List Value} {ss : List Str} (hS : StrsAre vs ss) : SrtO.Cmp prog w A s oneType' (fun p => p.1 ∈ vs) (lt2 ltT) := by
  intro p q hp hq
  obtain ⟨x, t, e1⟩ := hS.all _ hp
  obtain ⟨y, u, e2⟩ := hS.all _ hq
  show wpAny (model prog w) A (keyLt' oneType' p.1 q.1) (fun r s1 => s1 = s ∧ r = ltT p.1 q.1) (fun _ _ => False) s
  rw [e1, e2, keyLt'_oneType]
  exact oneLt_str (And.intro rfl rfl)
theorem txt_sortable {a : Addr} {vs : List Value} {ss : List Str} (hS : StrsAre vs ss) (h2 : 2 ≤ vs.length) : SortableO prog w A s a vs ltT := fun h1 _ =>
  ⟨oneType', fun Q E hq => by
    match vs, hS, h2 with
    | v1 :: v2 :: rest, hS, _ =>
      rw [keyKind_strs hS]
      exact wpAny_pure hq
    | [], _, h => exact absurd h (by decide)
    | [v], _, h => exact absurd h (by simp), txt_cmp hS⟩
end
theorem txt_out {vs out : List Value} {ss : List Str} (hS : StrsAre vs ss) (hs : Srtd ltT out) (hb : Stb ltT out vs) : StrsAre out (out.map PyProof.Rows.strOf) ∧ (out.map PyProof.Rows.strOf).Perm ss ∧ sortedS (out.map PyProof.Rows.strOf) = true := by
  refine ⟨strsAre_map out fun v hv => hS.all _ (hb.perm.mem_iff.mp hv), ?_, ?_⟩
  · have q := hb.perm.map PyProof.Rows.strOf
    rw [hS.strs] at q
    exact q
  · refine sortedS_of_pairwise _ (List.pairwise_map.mpr (hs.imp fun {x y} h => ?_))
    rw [ltCps_eq]
    exact h
/-- sorted(d), the keys texts -/
def rSortDA : List V → Hp → VK → Prop := fun xs H Q => ∃ (a : Addr) (kvs : List (Key × V)) (ks : List Str), xs = [.ref a] ∧ Rd H a (.dK kvs) ∧ kvs.map (·.1) = ks.map Sum.inr ∧ ks.length ≤ sizeLine ∧ ∀ ys p, ys.Perm ks → sortedS ys = true → H p = none → Q (.ref p) (upd H p (.lst (ys.map V.str)))
theorem call_sortedDA {X : Cx} (hcalm : X.calm = true) : CallR X (.builtin "sorted") rSortDA := by
  intro pins s σ H xs us Q I r z
  obtain ⟨a, kvs, ks, rfl, hd, hks, hz, q⟩ := z
  obtain ⟨u, rfl, rx⟩ := vals1 r
  cases rx
  obtain ⟨_, lo, vs, rel, dd⟩ := dk_rd I.hok hd
  obtain ⟨ep, hat⟩ := dd.dictAt
  have keys : vs.map (·.1) = ks.map Sum.inr := rel.keys.symm.trans hks
  have len : vs.length = ks.length := by simpa using congrArg List.length keys
  refine Calls.call_function_entry kind_sorted plain_sorted entry_sorted (args_sorted1 _) ?_
  unfold Builtin.«sorted»
  refine wpAny_bind (wpAny_pure ?_)
  refine wpAny_bind (PySem.W.kdu_collect (A := X.A.in1) (PySem.W.kdl_dict (knd := mixKind X.prog X.w) (kvs := vs) (ep := ep) lo) (I.ok.hd hcalm) hat (by rw [len]; exact hz) fun h1 tk acc hk hacc => ?_)
  have lacc : acc.toList.length = ks.length := by rw [Array.length_toList, hacc.1, len]
  have hS : StrsAre acc.toList ks := strs_at lacc fun j v e => by
    obtain ⟨k, x, e1, e2⟩ := hacc.2 j v (by rw [← Array.getElem?_toList]; exact e)
    have e3 : (ks.map (Sum.inr : Str → Key))[j]? = some k := by
      rw [← keys, List.getElem?_map, e1]
      rfl
    rw [List.getElem?_map] at e3
    cases e4 : ks[j]? with
    | none => rw [e4] at e3; cases e3
    | some y =>
      rw [e4] at e3
      obtain rfl : Sum.inr y = k := Option.some.inj e3
      obtain ⟨t, ev⟩ := Value.isStrOf_shape (x := y) (v := v) e2
      exact ⟨y, t, rfl, ev⟩
  have I1 : Inv X pins σ H { s with heap := h1, toks := tk } := I.kept hk
  refine wpAny_bind (wpAny_newList ?_ (by rw [lacc]; exact hz))
  have oL : (h1.push (seqObj "list" acc.toList.toArray 0)).get? h1.objs.size = some (seqObj "list" acc.toList.toArray 0) := Heap.get?_push_size _ rfl
  show wpAny _ _ _ _ _ { s with heap := h1.push (seqObj "list" acc.toList.toArray 0), toks := tk }
  refine wpAny_bind (wpAny_holding (wpAny_call_entry slot_list_sort ⟨_, oL, rfl⟩ entry_list_sort
    (list_sort_ord swo_txt (s := { s with heap := h1.push (seqObj "list" acc.toList.toArray 0), toks := tk }) oL (by rw [lacc]; exact hz) (fun h2 => txt_sortable hS h2) fun out g1 g2 => ⟨_, rfl, ?_⟩) (args_list_sort _)))
  obtain ⟨k1, k2, k3⟩ := txt_out hS g1 g2
  obtain ⟨ep1, he1⟩ := sortedHeap_at (vs := acc.toList) (out := out.toArray) oL
  have small : ((out.map PyProof.Rows.strOf).map V.str).length ≤ sizeLine := by
    rw [List.length_map, k2.length_eq]
    exact hz
  refine wpAny_pure ⟨_, rfl, .ref h1.objs.size, upd H h1.objs.size (.lst ((out.map PyProof.Rows.strOf).map V.str)), I1.laid (t' := tk) (fun b o e => ?_) (Nat.le_refl _) (show ObjOk X.prog X.w _ _ _ (.lst _) from ⟨small, out, ep1, vals_of_strs k1, he1⟩), rfl, q _ _ k2 k3 (I1.hok.fresh (Nat.le_refl _))⟩
  have lb : b < h1.objs.size := Heap.lt_size e
  rw [sortedHeap_old (Nat.ne_of_lt lb) (by rw [size_push']; exact Nat.lt_succ_of_lt lb)]
  exact Heap.get?_push_of_some _ e
end FvW


set_option maxHeartbeats 4000000
namespace FvW
open PySem PySem.Spec PyProof.Rows L2 SrtO
/-! ### sorted(xs, key=f), f an own def, the keys texts -/
/-- exactly this object -/
def exO (a : Addr) (o : Obj) : HO := .ext fun h => h.get? a = some o
theorem ex_ok {P : Program} {w : World} {H : Hp} {h : Heap} {a : Addr} {o : Obj} (e : h.get? a = some o) : ObjOk P w H h a (exO a o) := ⟨e, ⟨o, e⟩, fun _ _ e1 k => k _ e1⟩
theorem ex_get {P : Program} {w : World} {H : Hp} {h : Heap} {a : Addr} {o : Obj} (ok : HOk P w H h) (e : H a = some (exO a o)) : h.get? a = some o := (ok a _ e).1
theorem perm_pair {α β : Type} {R : α → β → Prop} {l' l : List β} (h : l'.Perm l) : ∀ {m : List α}, Paired R m l → ∃ m', m'.Perm m ∧ Paired R m' l' := by
  induction h with
  | nil =>
    intro m p
    cases p
    exact ⟨[], .nil, .nil⟩
  | cons x h ih =>
    intro m p
    cases p with
    | cons r p =>
      obtain ⟨m', h1, h2⟩ := ih p
      exact ⟨_ :: m', h1.cons _, .cons r h2⟩
  | swap x y l =>
    intro m p
    cases p with
    | cons r p => cases p with
      | cons r' p => exact ⟨_, List.Perm.swap _ _ _, .cons r' (.cons r p)⟩
  | trans h1 h2 ih1 ih2 =>
    intro m p
    obtain ⟨m2, a1, a2⟩ := ih2 p
    obtain ⟨m3, b1, b2⟩ := ih1 a2
    exact ⟨m3, b1.trans a1, b2⟩
/-- a key and its item, a text and a value -/
def PairKV (p : Str × V) (q : Keyed) : Prop := RelV (.str p.1) q.1 ∧ RelV p.2 q.2
theorem zip_pairs : ∀ {ks : List Str} {keys : List Value} {xs : List V} {vs : List Value}, Vals (ks.map V.str) keys → Vals xs vs → Paired PairKV (ks.zip xs) (keys.zip vs)
  | [], _, _, _, h, _ => by
    rw [List.map_nil] at h
    cases h
    exact .nil
  | k :: ks, _, _, _, h, g => by
    rw [List.map_cons] at h
    cases h with
    | cons r h => cases g with
      | nil => rw [List.zip_nil_right, List.zip_nil_right]; exact .nil
      | cons r' g => exact .cons ⟨r, r'⟩ (zip_pairs h g)
theorem pairs_vals : ∀ {ps : List (Str × V)} {qs : List Keyed}, Paired PairKV ps qs → Vals (ps.map (·.2)) (qs.map (·.2)) ∧ qs.map (fun q => PyProof.Rows.strOf q.1) = ps.map (·.1)
  | _, _, .nil => ⟨.nil, rfl⟩
  | p :: _, q :: _, .cons r h => by
    obtain ⟨a, b⟩ := pairs_vals h
    obtain ⟨t, e⟩ := (show ∃ t, q.1 = Value.str p.1 t from r.1)
    refine ⟨.cons r.2 a, ?_⟩
    rw [List.map_cons, List.map_cons, b, e]
    rfl
def rSortKey (K : PySem.W.Frag) (f : Addr) (sp : Sp) : List V → List V → Hp → VK → Prop := fun xs zs H Q => ∃ (a : Addr) (vs : List V) (ks : List Str), xs = [.ref a] ∧ zs = [.ref f] ∧ SqL K H a vs ∧ ks.length = vs.length ∧
  (∀ (i : Nat) (v : V) (x : Str), vs[i]? = some v → ks[i]? = some x → ∀ H1 : Hp, Same H H1 → ∀ R : VK, (∀ H2, Same H1 H2 → R (.str x) H2) → sp [v] H1 R E0) ∧
  ∀ (ps : List (Str × V)) (H' : Hp) (p : Addr), ps.Perm (ks.zip vs) → sortedS (ps.map (·.1)) = true → Same H H' → H p = none → H' p = some (.lst (ps.map (·.2))) → Q (.ref p) H'
theorem same_up {H : Hp} {p : Addr} {o : HO} (h : H p = none) : Same H (upd H p o) := fun b x e => by
  rw [upd_ne (ne_of_none e h)]
  exact e
section
variable {X : Cx} {f : Addr} {n : Nat} {sp : Sp} {pins : List (Addr × Obj)} {σ : L2.St} {H : Hp} {Q : VK} {a kS : Addr} {e1 : Nat} {its : List Value} {vs : List V} {ks : List Str} {A : Around} {E : Value → Shared → Prop}
/-- the sort's end -/
theorem key_tail {st : SortSt} {s : Shared} {H' : Hp} {keys : List Value} (I : Inv X pins σ H' s) (sm : Same H H') (na : H a = none) (nk : H kS = none) (hka : kS ≠ a) (ha : H' a = some (exO a (seqObj "list" #[] e1))) (hk : H' kS = some (.lst (ks.map V.str)))
    (hlen : ks.length = vs.length) (hz : vs.length ≤ sizeLine) (rk : Vals (ks.map V.str) keys) (rv : Vals vs its) (hfl : failedOf st = none) (hs : Srtd (lt2 ltT) (arrOf st).toList) (hp : (arrOf st).toList.Perm (keys.zip its))
    (q : ∀ (ps : List (Str × V)) (H' : Hp) (p : Addr), ps.Perm (ks.zip vs) → sortedS (ps.map (·.1)) = true → Same H H' → H p = none → H' p = some (.lst (ps.map (·.2))) → Q (.ref p) H') :
    wpAny (model X.prog X.w) A (ksk_tail a false e1 (.ref kS) st) (fun r s' => r = .done (.ret .none) ∧ EP X pins σ Q (.ref a) s') E s := by
  obtain ⟨ps, p1, p2⟩ := perm_pair hp (zip_pairs rk rv)
  obtain ⟨v1, v2⟩ := pairs_vals p2
  have srt : sortedS (ps.map (·.1)) = true := by
    rw [← v2]
    refine sortedS_of_pairwise _ (List.pairwise_map.mpr (hs.imp fun {x y} h => ?_))
    rw [ltCps_eq]
    exact h
  have ga := ex_get I.hok ha
  obtain ⟨zk, ik, nn, _, gk⟩ := I.hok kS _ hk
  have lps : ps.length = vs.length := by rw [p1.length_eq, List.length_zip, hlen, Nat.min_self]
  have eo : ((arrOf st).map (·.2)).toList = (arrOf st).toList.map (·.2) := by rw [Array.toList_map]
  have lo : ((arrOf st).map (·.2)).size ≤ sizeLine := by
    rw [← Array.length_toList, eo, ← v1.length, List.length_map, lps]
    exact hz
  unfold ksk_tail
  dsimp only
  rw [if_neg Bool.false_ne_true]
  have s1 := Heap.SameBut.update s.heap kS (Obj.mapSeq fun _ => (#[] : Array Value))
  have ga1 : (s.heap.update kS (Obj.mapSeq fun _ => (#[] : Array Value))).get? a = some (seqObj "list" #[] e1) := (s1.2 a hka.symm).trans ga
  obtain ⟨c1, hc1⟩ : ∃ c1, (s.heap.update kS (Obj.mapSeq fun _ => (#[] : Array Value))).get? kS = some (seqObj "list" #[] c1) := ⟨_, get?_update_seq gk fun _ => #[]⟩
  have s2 := Heap.SameBut.update (s.heap.update kS (Obj.mapSeq fun _ => (#[] : Array Value))) a (Obj.mapSeq fun _ => (arrOf st).map (·.2))
  obtain ⟨c2, hc2⟩ : ∃ c2, ((s.heap.update kS (Obj.mapSeq fun _ => (#[] : Array Value))).update a (Obj.mapSeq fun _ => (arrOf st).map (·.2))).get? a = some (seqObj "list" ((arrOf st).map (·.2)) c2) := ⟨_, get?_update_seq ga1 fun _ => (arrOf st).map (·.2)⟩
  have zk' : ik.length ≤ sizeLine := by
    rename_i rr
    rw [← rr.length]
    exact zk
  refine wpAny_bind (listUpdate_at gk rfl ?_ (by rw [List.size_toArray]; exact zk') (Nat.zero_le _))
  refine wpAny_bind (wpAny_letGo ?_)
  refine wpAny_bind (seqEpoch_at ga1 rfl ?_)
  refine wpAny_bind (listUpdate_at ga1 rfl ?_ (Nat.zero_le _) (Nat.le_succ_of_le lo))
  rw [hfl]
  simp only [bne_self_eq_false, Bool.false_eq_true, if_false]
  have I1 : Inv X pins σ (upd H' kS (.lst [])) { s with heap := s.heap.update kS (Obj.mapSeq fun _ => (#[] : Array Value)) } :=
    I.write (t' := s.toks) (e := kS) (by rw [hk]; trivial) (.inl rfl) (fun b u hb e => (s1.2 b hb).trans e) ⟨_, hc1⟩ ⟨Nat.zero_le _, [], c1, .nil, hc1⟩
  have I2 : Inv X pins σ (upd (upd H' kS (.lst [])) a (.lst (ps.map (·.2)))) { s with heap := (s.heap.update kS (Obj.mapSeq fun _ => (#[] : Array Value))).update a (Obj.mapSeq fun _ => (arrOf st).map (·.2)) } :=
    I1.write (t' := s.toks) (e := a) (by rw [upd_ne hka.symm, ha]; trivial) (.inl rfl) (fun b u hb e => (s2.2 b hb).trans e) ⟨_, hc2⟩ ⟨by rw [List.length_map, lps]; exact hz, ((arrOf st).map (·.2)).toList, c2, by rw [eo]; exact v1, by rw [Array.toArray_toList]; exact hc2⟩
  refine wpAny_pure ⟨rfl, .ref a, _, I2, rfl, q ps _ a p1 srt (fun b o e => ?_) na upd_same⟩
  rw [upd_ne (ne_of_none e na), upd_ne (ne_of_none e nk)]
  exact sm _ _ e
theorem key_end {s : Shared} {H' : Hp} {keys : List Value} (I : Inv X pins σ H' s) (sm : Same H H') (na : H a = none) (nk : H kS = none) (hka : kS ≠ a) (ha : H' a = some (exO a (seqObj "list" #[] e1))) (hk : H' kS = some (.lst (ks.map V.str)))
    (hlen : ks.length = vs.length) (hz : vs.length ≤ sizeLine) (rk : Vals (ks.map V.str) keys) (rv : Vals vs its)
    (q : ∀ (ps : List (Str × V)) (H' : Hp) (p : Addr), ps.Perm (ks.zip vs) → sortedS (ps.map (·.1)) = true → Same H H' → H p = none → H' p = some (.lst (ps.map (·.2))) → Q (.ref p) H') :
    wpAny (model X.prog X.w) A (ksk_end a false its.toArray e1 (.ref kS) keys.toArray) (fun r s' => r = .done (.ret .none) ∧ EP X pins σ Q (.ref a) s') E s := by
  have hS : StrsAre keys ks := rk.strs
  have lk : keys.length = its.length := by rw [← rk.length, List.length_map, hlen, rv.length]
  have ez : (keys.toArray.zip its.toArray).toList = keys.zip its := by simp
  unfold ksk_end
  dsimp only
  rw [if_neg Bool.false_ne_true, if_neg Bool.false_ne_true]
  by_cases h2 : its.toArray.size < 2
  · rw [if_pos h2, if_pos h2]
    refine wpAny_bind (wpAny_pure ?_)
    rw [StateT.run_pure]
    refine wpAny_bind (wpAny_pure ?_)
    refine key_tail (st := SortSt.mk' general' (keys.toArray.zip its.toArray) #[] 7 none) I sm na nk hka ha hk hlen hz rk rv rfl ?_ ?_ q
    · show Srtd (lt2 ltT) (keys.toArray.zip its.toArray).toList
      rw [ez]
      rw [List.size_toArray] at h2
      have lz : (keys.zip its).length < 2 := by rw [List.length_zip]; omega
      generalize keys.zip its = z at lz
      match z, lz with
      | [], _ => exact List.Pairwise.nil
      | [x], _ => exact List.pairwise_singleton _ _
      | _ :: _ :: _, h => exact absurd h (by simp)
    · show (keys.toArray.zip its.toArray).toList.Perm _
      rw [ez]
  · rw [if_neg h2, if_neg h2]
    rw [List.size_toArray] at h2
    have hkind : keyKind' keys.toArray = pure oneType' := by
      have l2 : 2 ≤ keys.length := by omega
      match keys, hS, l2 with
      | v1 :: v2 :: rest, hS, _ => exact keyKind_strs hS
      | [], _, h => exact absurd h (by simp)
      | [v], _, h => exact absurd h (by simp)
    rw [hkind]
    refine wpAny_bind (wpAny_pure ?_)
    have hall : AllL (fun p : Keyed => p.1 ∈ keys) (keys.toArray.zip its.toArray).toList := fun p hm => by
      rw [ez] at hm
      exact (List.of_mem_zip hm).1
    refine wpAny_bind (wpAny_mono (wpS_sortO (st0 := SortSt.mk' oneType' (keys.toArray.zip its.toArray) #[] 7 none)
      (Q := fun _ st' => Srtd (lt2 ltT) (arrOf st').toList ∧ Stb (lt2 ltT) (arrOf st').toList (keys.toArray.zip its.toArray).toList ∧ failedOf st' = none) (swo2 swo_txt) (txt_cmp hS) rfl hall rfl rfl fun st' a1 a2 a3 => ⟨a1, a2, a3⟩) ?_ fun _ _ e => e)
    rintro ⟨⟨⟩, st'⟩ s' ⟨rfl, hp1, hp2, hf⟩
    exact key_tail I sm na nk hka ha hk hlen hz rk rv hf hp1 (by rw [← ez]; exact hp2.perm) q
theorem call_sortKey (F : FnR X.prog X.w X.K X.mg X.base CX0 n f sp) (hr : Room (n + 2) X.A) : CallRK X (.builtin "sorted") [Str.ofString "key"] (rSortKey X.K f sp) := by
  intro pins s σ H xs zs us ws Q I r rz h
  obtain ⟨l, vs, ks, rfl, rfl, hs, hlen, turn, q⟩ := h
  obtain rfl := Vals.ref1 r
  obtain ⟨w1, rfl, e1⟩ := vals1 rz
  obtain rfl : w1 = Value.ref f := e1
  obtain ⟨its, rv, hl, hz⟩ := I.list hs
  have hr2 : Room n X.A.in1.in1 := (show Room (n + 1) X.A.in1 from Room.in1 hr).in1
  have lv := rv.length
  show wpAny _ _ (call (.builtin "sorted") [.ref l] [(Str.ofString "key", .ref f)]) _ _ _
  refine PySem.W.sorted_of_sort hl.isList (by rw [← lv]; exact hz) (ksk_s1 _ _) (fun _ => ksk_l1 _ _) fun E' => ?_
  rw [ksk_t1]
  have ho := PySem.W.copyHeap_at s.heap its
  have szc : (PySem.W.copyHeap s.heap its).objs.size = s.heap.objs.size + 2 := by
    unfold PySem.W.copyHeap
    rw [size_push', Heap.size_update, size_push']
  have old : ∀ b o, s.heap.get? b = some o → (PySem.W.copyHeap s.heap its).get? b = some o := fun b o e => PySem.W.copyHeap_old e
  generalize PySem.W.copyHeap s.heap its = h0 at *
  have na : H (s.heap.objs.size + 1) = none := I.hok.fresh (Nat.le_succ _)
  have lea : s.heap.objs.size ≤ s.heap.objs.size + 1 := Nat.le_succ _
  have aold : ∀ b o, s.heap.get? b = some o → b ≠ s.heap.objs.size + 1 := fun b o e => Nat.ne_of_lt (Nat.lt_succ_of_lt (Heap.lt_size e))
  generalize ea : s.heap.objs.size + 1 = a at *
  obtain ⟨e1, ho1⟩ : ∃ e1, (h0.update a (Obj.mapSeq fun _ => (#[] : Array Value))).get? a = some (seqObj "list" #[] e1) := ⟨_, get?_update_seq ho fun _ => #[]⟩
  have s1 := Heap.SameBut.update h0 a (Obj.mapSeq fun _ => (#[] : Array Value))
  unfold ksk_tree
  refine wpAny_bind (listItems_at (s := { s with heap := h0 }) ho rfl ?_)
  refine wpAny_bind (listUpdate_at (s := { s with heap := h0 }) ho rfl ?_ (by rw [List.size_toArray, ← lv]; exact hz) (Nat.zero_le _))
  refine wpAny_bind (seqEpoch_at ho1 rfl ?_)
  refine wpAny_bind (wpAny_newTuple ?_ (by show its.length ≤ _; rw [← lv]; exact hz))
  refine wpAny_bind (wpAny_newList ?_ (Nat.zero_le _))
  refine wpAny_holding ?_
  show wpAny _ _ _ _ _ { s with heap := ((h0.update a (Obj.mapSeq fun _ => (#[] : Array Value))).push (seqObj "tuple" its.toArray 0)).push (seqObj "list" #[] 0) }
  have szA : ((h0.update a (Obj.mapSeq fun _ => (#[] : Array Value))).push (seqObj "tuple" its.toArray 0)).objs.size = s.heap.objs.size + 3 := by
    rw [size_push', Heap.size_update, szc]
  have goA : ((h0.update a (Obj.mapSeq fun _ => (#[] : Array Value))).push (seqObj "tuple" its.toArray 0)).get? a = some (seqObj "list" #[] e1) := Heap.get?_push_of_some _ ho1
  have IA : Inv X pins σ (upd H a (exO a (seqObj "list" #[] e1))) { s with heap := (h0.update a (Obj.mapSeq fun _ => (#[] : Array Value))).push (seqObj "tuple" its.toArray 0) } :=
    I.laid (t' := s.toks) (fun b u e => Heap.get?_push_of_some _ ((s1.2 b (aold b u e)).trans (old b u e))) lea (ex_ok goA)
  generalize (h0.update a (Obj.mapSeq fun _ => (#[] : Array Value))).push (seqObj "tuple" its.toArray 0) = hA at *
  have gk : (hA.push (seqObj "list" #[] 0)).get? hA.objs.size = some (seqObj "list" #[] 0) := Heap.get?_push_size _ rfl
  have IB : Inv X pins σ (upd (upd H a (exO a (seqObj "list" #[] e1))) hA.objs.size (.lst [])) { s with heap := hA.push (seqObj "list" #[] 0) } :=
    IA.laid (t' := s.toks) (fun b u e => Heap.get?_push_of_some _ e) (Nat.le_refl _) ⟨Nat.zero_le _, [], 0, .nil, gk⟩
  have hka : hA.objs.size ≠ a := by omega
  have nk : H hA.objs.size = none := I.hok.fresh (by omega)
  generalize hA.objs.size = kS at *
  have smB : Same H (upd (upd H a (exO a (seqObj "list" #[] e1))) kS (.lst [])) := fun b o e => by
    rw [upd_ne (ne_of_none e nk), upd_ne (ne_of_none e na)]
    exact e
  unfold ksk_rest
  refine wpAny_bind (wpAny_rule ?_)
  rw [← Array.forIn_toList]
  refine wpAny_bind (ksk_fold (fun i s' => ∃ H', Inv X pins σ H' s' ∧ Same H H' ∧ H' a = some (exO a (seqObj "list" #[] e1)) ∧ H' kS = some (.lst ((ks.take i).map V.str))) its 0 _
    ⟨_, IB, smB, by rw [upd_ne hka.symm, upd_same], by rw [upd_same]; rfl⟩ ?step ?done)
  case step =>
    rintro j x s' hx ⟨H', I', sm', ha', hk'⟩
    simp only [Nat.zero_add] at hk' ⊢
    have hj : j < its.length := (List.getElem?_eq_some_iff.mp hx).1
    have hjv : j < vs.length := by omega
    have hjk : j < ks.length := by omega
    have ev : vs[j]? = some vs[j] := List.getElem?_eq_getElem hjv
    have ek : ks[j]? = some ks[j] := List.getElem?_eq_getElem hjk
    obtain ⟨x', ex', rx⟩ := rv.get ev
    obtain rfl : x = x' := Option.some.inj (hx.symm.trans ex')
    refine wpAny_bind (wpAny_attempt (wpAny_call (codeAny_mono (F X.A.in1.in1 X.stack s' H' [x] [vs[j]] (fun v H2 => v = .str ks[j] ∧ Same H' H2) E0 hr2 I'.env0.in1.in1 (.cons rx .nil) (turn j _ _ ev ek H' sm' _ fun H2 s2 => ⟨rfl, s2⟩)) fun r s'' hq => ?_)))
    cases r with
    | error e => exact False.elim hq
    | ok fl =>
      cases fl with
      | next => exact False.elim hq
      | brk => exact False.elim hq
      | cont => exact False.elim hq
      | ret u =>
        obtain ⟨v, H2, I2, ru, rfl, s2⟩ := I'.after hq
        dsimp only
        have hk2 := s2 _ _ hk'
        have ha2 := s2 _ _ ha'
        obtain ⟨zk, ik, nn, rr, gk2⟩ := I2.hok kS _ hk2
        have lik : ik.length = j := by
          rw [← rr.length, List.length_map, List.length_take]
          omega
        have sk := Heap.SameBut.update s''.heap kS (Obj.mapSeq (·.push u))
        obtain ⟨c2, hc2⟩ : ∃ c2, (s''.heap.update kS (Obj.mapSeq (·.push u))).get? kS = some (seqObj "list" (ik.toArray.push u) c2) := ⟨_, get?_update_seq gk2 (·.push u)⟩
        refine wpAny_bind (listUpdate_at gk2 rfl ?_ (by rw [List.size_toArray]; omega) (by rw [Array.size_push, List.size_toArray]; omega))
        have et : ((ks.take (j + 1)).map V.str) = (ks.take j).map V.str ++ [V.str ks[j]] := by
          rw [List.take_add_one, ek, List.map_append]
          rfl
        refine wpAny_pure ⟨rfl, upd H2 kS (.lst ((ks.take (j + 1)).map V.str)), I2.write (t' := s''.toks) (e := kS) (by rw [hk2]; trivial) (.inl rfl) (fun b o hb e => (sk.2 b hb).trans e) ⟨_, hc2⟩ ⟨?_, ik ++ [u], c2, ?_, ?_⟩, fun b o e => ?_, by rw [upd_ne hka.symm]; exact ha2, upd_same⟩
        · rw [List.length_map, List.length_take]
          omega
        · rw [et]
          exact Vals.append rr (.cons ru .nil)
        · rw [hc2]
          congr 2
          simp
        · rw [upd_ne (ne_of_none e nk)]
          exact s2 _ _ (sm' _ _ e)
  case done =>
    rintro s' ⟨H', I', sm', ha', hk'⟩
    rw [Nat.zero_add, ← lv, ← hlen, List.take_length] at hk'
    obtain ⟨zk, ik, nn, rr, gk2⟩ := I'.hok kS _ hk'
    refine wpAny_bind (listItems_at gk2 rfl ?_)
    exact key_end I' sm' na nk hka ha' hk' hlen hz rr rv q
end
end FvW


namespace Fv
open PySem PySem.Spec PyProof.Rows L2 TL
theorem zip_txt {K : PySem.W.Frag} {H : Hp} : ∀ {vs : List V} {ds : List PyData}, DpAll K H vs ds → Paired (fun (d : PyData) (p : Str × V) => p.1 = txt d ∧ Dp K H p.2 d) ds ((ds.map txt).zip vs)
  | _, _, .nil => .nil
  | _, _, .cons h t => .cons ⟨rfl, h⟩ (zip_txt t)
theorem zip_back {K : PySem.W.Frag} {H : Hp} : ∀ {es : List PyData} {ps : List (Str × V)}, Paired (fun (d : PyData) (p : Str × V) => p.1 = txt d ∧ Dp K H p.2 d) es ps → DpAll K H (ps.map (·.2)) es ∧ es.map txt = ps.map (·.1)
  | _, _, .nil => ⟨.nil, rfl⟩
  | _, _, .cons h t => by
    obtain ⟨a, b⟩ := zip_back t
    exact ⟨.cons h.2 a, by rw [List.map_cons, List.map_cons, b, h.1]⟩
end Fv



/-! least forms: the order seen from one operator; what is least is one term -/
namespace FvF
open PySem PySem.Spec PyProof.Rows L2 Fv FvD FvG TL
/-- a part of a term of the other operator -/
theorem cl_piece {s s' : Str} (o : opS s) (o' : opS s') (ne : s' ≠ s) {Q : List PyData} {q : PyData} (hq : q ∈ Q) (h9 : (wh s' Q).depth ≤ 9) : cl s (wh s' Q) q = true := by
  have z := cl_part o' hq h9
  unfold cl at *
  rcases o with rfl | rfl <;> rcases o' with rfl | rfl
  · exact absurd rfl ne
  · rw [if_pos rfl] at z; rw [if_neg and_or]; exact z
  · rw [if_neg and_or] at z; rw [if_pos rfl]; exact z
  · exact absurd rfl ne
/-- Whitman's condition -/
theorem wh_inv {s : Str} (o : opS s) {P : List PyData} {t : PyData} (tk : Tk t) (ts : sgd t ≠ s) (h9 : (wh s P).depth ≤ 9) (ht : t.depth ≤ 9) (h : cl s t (wh s P) = true) : (∃ p ∈ P, cl s t p = true) ∨ ∃ q ∈ pts t, cl s q (wh s P) = true := by
  have eJ : isJ t = true → sgd t = "|" := fun z => by
    rw [isJ_sg tk] at z
    have := of_decide_eq_true z
    injection this
  have eM : isM t = true → sgd t = "&" := fun z => by
    rw [isM_sg tk] at z
    have := of_decide_eq_true z
    injection this
  have nt : t ≠ wh s P := fun z => ts (by rw [z]; rfl)
  unfold cl at *
  rcases o with rfl | rfl
  · rw [if_neg and_or] at h
    rcases Lw.cases lawB_ok (by omega) h with z | ⟨j, _⟩ | ⟨_, m, _⟩ | ⟨_, _, jr, p, hp, z⟩ | ⟨_, _, m, p, hp, z⟩
    · exact absurd z.symm nt
    · rw [isJ_wh] at j
      exact absurd (of_decide_eq_true j) and_or
    · exact absurd (eM m) ts
    · exact .inr ⟨p, hp, by rw [if_neg and_or]; exact z⟩
    · exact .inl ⟨p, hp, by rw [if_neg and_or]; exact z⟩
  · rw [if_pos rfl] at h
    rcases Lw.cases lawB_ok (by omega) h with z | ⟨j, _⟩ | ⟨_, m, _⟩ | ⟨_, _, jr, p, hp, z⟩ | ⟨_, _, m, p, hp, z⟩
    · exact absurd z nt
    · exact absurd (eJ j) ts
    · rw [isM_wh] at m
      exact absurd (of_decide_eq_true m).symm and_or
    · exact .inl ⟨p, hp, by rw [if_pos rfl]; exact z⟩
    · exact .inr ⟨p, hp, by rw [if_pos rfl]; exact z⟩
/-! ### what is in least form -/
structure LsP (L : PyData → Prop) (s : Str) (P : List PyData) : Prop where
  op : opS s
  two : 2 ≤ P.length
  srt : sortedS (P.map txt) = true
  nd : (P.map txt).Nodup
  sg : ∀ p ∈ P, sgd p ≠ s
  ls : ∀ p ∈ P, L p
  an : ∀ a ∈ P, ∀ b ∈ P, a ≠ b → cl s a b = false
  pc : ∀ p ∈ P, ∀ q ∈ pts p, cl s q (wh s P) = false
def Lst : Nat → PyData → Prop
  | 0, _ => False
  | n + 1, d => (∃ x, d = .str x ∧ isL x = true) ∨ ∃ s P, d = wh s P ∧ LsP (Lst n) s P
theorem Lst.up {n : Nat} : ∀ {d : PyData}, Lst n d → Lst (n + 1) d := by
  induction n with
  | zero => exact fun h => h.elim
  | succ n ih =>
    intro d h
    rcases h with h | ⟨s, P, e, h⟩
    · exact .inl h
    · exact .inr ⟨s, P, e, ⟨h.op, h.two, h.srt, h.nd, h.sg, fun p hp => ih (h.ls p hp), h.an, h.pc⟩⟩
theorem Lst.le {n m : Nat} {d : PyData} (h : Lst n d) (hm : n ≤ m) : Lst m d := by
  induction hm with
  | refl => exact h
  | step _ ih => exact ih.up
theorem Lst.meas : ∀ {n : Nat} {d : PyData}, Lst n d → 1 ≤ lmeas n d
  | 0, _, h => h.elim
  | n + 1, d, h => by
    rcases h with ⟨x, rfl, hx⟩ | ⟨s, P, rfl, h⟩
    · show 1 ≤ (if isLd (.str x) = true then (1 : Int) else _)
      rw [if_pos (show isLd (.str x) = true from hx)]
      decide
    · exact lmeas_make h.op h.two fun p hp => (h.ls p hp).meas
theorem Lst.dep {n : Nat} {d : PyData} (h : Lst n d) : d.depth ≤ n := lmeas_depth n d h.meas
theorem two_of {P : List PyData} (h2 : 2 ≤ P.length) (nd : (P.map txt).Nodup) (p : PyData) : ∃ p' ∈ P, p' ≠ p := by
  match P, h2 with
  | a :: b :: P', _ =>
    by_cases e : a = p
    · refine ⟨b, by simp, fun z => ?_⟩
      rw [e, z] at nd
      simp at nd
    · exact ⟨a, by simp, e⟩
theorem lst_tk {n : Nat} {d : PyData} (h : Lst n d) (h9 : n ≤ 9) (top : lmeas 9 d ≤ 600) (g : gd 20 d = true) : Tk d := ⟨by rw [lmeas_toF h.meas h9]; exact h.meas, top, g⟩
/-- one term in least form -/
theorem lst_uniq : ∀ n : Nat, n ≤ 9 → ∀ s t : PyData, Lst n s → Lst n t → Tk s → Tk t → lawB s t = true → lawB t s = true → s = t
  | 0, _, _, _, h, _, _, _, _, _ => h.elim
  | n + 1, h9, s, t, hs, ht, ts, tt, h1, h2 => by
    have ds := hs.dep
    have dt := ht.dep
    -- no other term is as a whole of parts
    have no : ∀ {o : Str} {P : List PyData} {x : PyData}, LsP (Lst n) o P → (wh o P).depth ≤ 9 → x.depth ≤ 9 → (∃ p ∈ P, cl o x p = true) → cl o (wh o P) x = true → False := fun {o P x} hP dP dx hx h => by
      obtain ⟨p, hp, hxp⟩ := hx
      obtain ⟨p', hp', ne⟩ := two_of hP.two hP.nd p
      have d1 := pts_depth (l := wh o P) (p := p) hp
      have d2 := pts_depth (l := wh o P) (p := p') hp'
      have a := cl_trans (by omega) dx (by omega) (cl_trans (by omega) dP dx (cl_part hP.op hp' dP) h) hxp
      rw [hP.an p' hp' p hp ne] at a
      cases a
    rcases hs with ⟨x, rfl, hx⟩ | ⟨o, P, rfl, hP⟩
    · rcases ht with ⟨y, rfl, hy⟩ | ⟨o', Q, rfl, hQ⟩
      · rcases Lw.cases lawB_ok (l := .str x) (r := .str y) (by simp [PyData.depth]) h1 with z | ⟨j, _⟩ | ⟨_, m, _⟩ | ⟨_, _, j, _⟩ | ⟨_, _, m, _⟩
        · exact z
        · cases j
        · cases m
        · cases j
        · cases m
      · have c := eq_cl (s := o') ⟨h1, h2⟩
        rcases wh_inv hQ.op ts (fun z => by
          have hx' := hx
          rw [show x = o' from z] at hx'
          rcases hQ.op with e | e <;> (rw [e] at hx'; exact absurd hx' (by decide +kernel))) (by omega) (by omega) c.1 with z | ⟨q, hq, _⟩
        · exact (no hQ (by omega) (by omega) z c.2).elim
        · cases hq
    · rcases ht with ⟨y, rfl, hy⟩ | ⟨o', Q, rfl, hQ⟩
      · have c := eq_cl (s := o) ⟨h2, h1⟩
        rcases wh_inv hP.op tt (fun z => by
          have hx' := hy
          rw [show y = o from z] at hx'
          rcases hP.op with e | e <;> (rw [e] at hx'; exact absurd hx' (by decide +kernel))) (by omega) (by omega) c.1 with z | ⟨q, hq, _⟩
        · exact (no hP (by omega) (by omega) z c.2).elim
        · cases hq
      · by_cases eo : o' = o
        · subst eo
          -- the same operator: the same parts
          have half : ∀ {P Q : List PyData}, LsP (Lst n) o' P → LsP (Lst n) o' Q → Tk (wh o' P) → (wh o' P).depth ≤ 9 → (wh o' Q).depth ≤ 9 → cl o' (wh o' P) (wh o' Q) = true → cl o' (wh o' Q) (wh o' P) = true → ∀ p ∈ P, ∃ q ∈ Q, cl o' p q = true := fun {P Q} hP hQ tP dP dQ c1 c2 p hp => by
            have d1 := pts_depth (l := wh o' P) (p := p) hp
            rcases wh_inv hQ.op (lv_part tP hp).1 (hP.sg p hp) dQ (by omega) (cl_trans (by omega) dP dQ (cl_part hP.op hp dP) c1) with z | ⟨q, hq, z⟩
            · exact z
            · have d2 := pts_depth hq
              have := cl_trans (by omega) dQ dP z c2
              rw [hP.pc p hp q hq] at this
              cases this
          have c := eq_cl (s := o') ⟨h1, h2⟩
          have sub : ∀ {P Q : List PyData}, LsP (Lst n) o' P → LsP (Lst n) o' Q → Tk (wh o' P) → Tk (wh o' Q) → (wh o' P).depth ≤ 9 → (wh o' Q).depth ≤ 9 → cl o' (wh o' P) (wh o' Q) = true → cl o' (wh o' Q) (wh o' P) = true → ∀ p ∈ P, p ∈ Q := fun {P Q} hP hQ tP tQ dP dQ c1 c2 p hp => by
            obtain ⟨q, hq, pq⟩ := half hP hQ tP dP dQ c1 c2 p hp
            obtain ⟨p', hp', qp⟩ := half hQ hP tQ dQ dP c2 c1 q hq
            have d1 := pts_depth (l := wh o' P) (p := p) hp
            have d2 := pts_depth (l := wh o' Q) (p := q) hq
            have d3 := pts_depth (l := wh o' P) (p := p') hp'
            have e : p = p' := by
              by_cases e : p = p'
              · exact e
              · have := cl_trans (by omega) (by omega) (by omega) pq qp
                rw [hP.an p hp p' hp' e] at this
                cases this
            subst e
            have b := cl_eq pq qp
            have := lst_uniq n (by omega) p q (hP.ls p hp) (hQ.ls q hq) (lv_part tP hp).1 (lv_part tQ hq).1 b.1 b.2
            rw [this]
            exact hq
          have s1 := sub hP hQ ts tt (by omega) (by omega) c.1 c.2
          have s2 := sub hQ hP tt ts (by omega) (by omega) c.2 c.1
          have e := sorted_uniq (P.map txt) (Q.map txt) (sorted_pw _ hP.srt) (sorted_pw _ hQ.srt) hP.nd hQ.nd fun y => by
            rw [List.mem_map, List.mem_map]
            exact ⟨fun ⟨p, hp, e⟩ => ⟨p, s1 p hp, e⟩, fun ⟨p, hp, e⟩ => ⟨p, s2 p hp, e⟩⟩
          have ePQ : P = Q := by
            have go : ∀ P Q : List PyData, (∀ p ∈ P, Tk p) → (∀ p ∈ Q, Tk p) → P.map txt = Q.map txt → P = Q := fun P => by
              induction P with
              | nil => intro Q _ _ h; cases Q with
                | nil => rfl
                | cons q Q => cases h
              | cons p P ih =>
                intro Q h1 h2 h
                cases Q with
                | nil => cases h
                | cons q Q =>
                  rw [List.map_cons, List.map_cons] at h
                  injection h with a b
                  rw [txt_injF (h1 p List.mem_cons_self).one (h2 q List.mem_cons_self).one a, ih Q (fun x hx => h1 x (List.mem_cons_of_mem _ hx)) (fun x hx => h2 x (List.mem_cons_of_mem _ hx)) b]
            exact go P Q (fun p hp => (lv_part ts hp).1) (fun p hp => (lv_part tt hp).1) e
          rw [ePQ]
        · -- the other operator: never
          exfalso
          have c := eq_cl (s := o') ⟨h1, h2⟩
          rcases wh_inv hQ.op ts (fun z => eo z.symm) (by omega) (by omega) c.1 with z | ⟨q, hq, z⟩
          · exact no hQ (by omega) (by omega) z c.2
          · -- a part of s is beside t, so beside s
            have hq' : q ∈ P := hq
            have d1 := pts_depth (l := wh o P) (p := q) hq'
            have z2 := cl_trans (by omega) (by omega) (by omega) z c.2
            refine no hP (by omega) (by omega) (x := wh o P) ⟨q, hq', ?_⟩ (cl_refl (by omega))
            unfold cl at z2 ⊢
            rcases hP.op with rfl | rfl <;> rcases hQ.op with rfl | rfl
            · exact absurd rfl eo
            · rw [if_pos rfl] at z2; rw [if_neg and_or]; exact z2
            · rw [if_neg and_or] at z2; rw [if_pos rfl]; exact z2
            · exact absurd rfl eo
end FvF


/-! least forms: the steps on parts -/
namespace FvF
open PySem PySem.Spec PyProof.Rows L2 Fv FvD FvG TL
theorem tk_of {d : PyData} (h : 1 ≤ lmeas 9 d) (t : lmeas 9 d ≤ 600) : Tk d := ⟨h, t, gd_le (gd_lm 9 d h (by omega)) (by decide)⟩
def lvs (P : List PyData) : Nat := (P.map lv).sum
theorem lvs_cons {p : PyData} {P : List PyData} : lvs (p :: P) = lv p + lvs P := by unfold lvs; rw [List.map_cons, List.sum_cons]
theorem lvs_app {P Q : List PyData} : lvs (P ++ Q) = lvs P + lvs Q := by unfold lvs; rw [List.map_append, List.sum_append]
theorem lvs_perm {P Q : List PyData} (h : P.Perm Q) : lvs P = lvs Q := by unfold lvs; exact (h.map lv).sum_nat
theorem lvs_mem {p : PyData} {P : List PyData} (h : p ∈ P) : lv p ≤ lvs P := by
  obtain ⟨a, b, rfl⟩ := List.append_of_mem h
  rw [lvs_app, lvs_cons]
  omega
theorem lv_lm {d : PyData} (h : 1 ≤ lmeas 9 d) : ((lv d : Nat) : Int) = lmeas 9 d := by unfold lv; omega
theorem wh_lm {n : Nat} {s : Str} {P : List PyData} (o : opS s) (h2 : 2 ≤ P.length) (hn : n + 1 ≤ 9) (h1 : ∀ p ∈ P, 1 ≤ lmeas n p) : 1 ≤ lmeas (n + 1) (wh s P) ∧ lv (wh s P) = lvs P := by
  have go : ∀ P : List PyData, (∀ p ∈ P, 1 ≤ lmeas n p) → (P.map (lmeas n)).sum = ((lvs P : Nat) : Int) := fun P => by
    induction P with
    | nil => intro _; rfl
    | cons p P ih =>
      intro h
      have a := h p List.mem_cons_self
      have b := lmeas_toF (m := 9) a (by omega)
      rw [List.map_cons, List.sum_cons, lvs_cons, ih fun q hq => h q (List.mem_cons_of_mem _ hq), Int.natCast_add, lv_lm (by omega), b]
  have e := lmeas_tup (n := n) (op := s) (ds := P) (by rcases o with rfl | rfl <;> decide +kernel) h2 h1 (go P h1)
  have one : 1 ≤ lmeas (n + 1) (wh s P) := lmeas_make o h2 h1
  have up : lmeas 9 (wh s P) = lmeas (n + 1) (wh s P) := lmeas_toF (m := 9) one hn
  have e : lmeas (n + 1) (wh s P) = ((lvs P : Nat) : Int) := e
  refine ⟨one, ?_⟩
  have := lv_lm (d := wh s P) (by omega)
  omega
/-! ### the same as a whole -/
structure EqW (s : Str) (P : List PyData) (t : PyData) : Prop where
  le : ∀ p ∈ P, cl s p t = true
  ge : ∀ x, x.depth ≤ 9 → (∀ p ∈ P, cl s p x = true) → cl s t x = true
/-- parts that are least, none of them of the operator -/
structure PtW (n : Nat) (s : Str) (P : List PyData) : Prop where
  ls : ∀ p ∈ P, Lst n p
  sg : ∀ p ∈ P, sgd p ≠ s
  tk : ∀ p ∈ P, Tk p
theorem EqW.init {s : Str} (o : opS s) {ds fs : List PyData} (h9 : (wh s ds).depth ≤ 9) (hl : fs.length = ds.length) (h : ∀ (i : Nat) (d f : PyData), ds[i]? = some d → fs[i]? = some f → f.depth ≤ 9 ∧ lawB f d = true ∧ lawB d f = true) : EqW s fs (wh s ds) := by
  refine ⟨fun f hf => ?_, fun x hx all => cl_whole o h9 hx fun d hd => ?_⟩
  · obtain ⟨i, hi⟩ := List.getElem?_of_mem hf
    have lt : i < ds.length := by rw [← hl]; exact (List.getElem?_eq_some_iff.mp hi).1
    obtain ⟨a, b, c⟩ := h i _ f (List.getElem?_eq_getElem lt) hi
    have pd := pts_depth (l := wh s ds) (p := ds[i]) (List.getElem_mem lt)
    exact cl_trans a (by omega) h9 (eq_cl ⟨b, c⟩).1 (cl_part o (List.getElem_mem lt) h9)
  · obtain ⟨i, hi⟩ := List.getElem?_of_mem hd
    have lt : i < fs.length := by rw [hl]; exact (List.getElem?_eq_some_iff.mp hi).1
    obtain ⟨a, b, c⟩ := h i d _ hi (List.getElem?_eq_getElem lt)
    have pd := pts_depth (l := wh s ds) (p := d) hd
    exact cl_trans (by omega) a hx (eq_cl ⟨c, b⟩).1 (all _ (List.getElem_mem lt))
def mg (s : Str) (p : PyData) : List PyData := if sgd p = s then pts p else [p]
def mrg (s : Str) (P : List PyData) : List PyData := P.flatMap (mg s)
theorem mg_inv {n : Nat} {s : Str} (o : opS s) {p : PyData} (hp : Lst n p) : (sgd p ≠ s ∧ mg s p = [p]) ∨ ∃ m Q, n = m + 1 ∧ p = wh s Q ∧ LsP (Lst m) s Q ∧ mg s p = Q := by
  by_cases e : sgd p = s
  · cases n with
    | zero => exact hp.elim
    | succ n =>
      rcases hp with ⟨x, rfl, hx⟩ | ⟨s', Q, rfl, h⟩
      · have e' : x = s := e
        rcases o with z | z <;> (rw [e', z] at hx; exact absurd hx (by decide +kernel))
      · have e' : s' = s := e
        subst e'
        exact .inr ⟨n, Q, rfl, rfl, h, by unfold mg; rw [if_pos e]; rfl⟩
  · exact .inl ⟨e, by unfold mg; rw [if_neg e]⟩
theorem mrg_ok {n : Nat} {s : Str} (o : opS s) (hn : n ≤ 9) {P : List PyData} {t : PyData} (ht : t.depth ≤ 9) (hl : ∀ p ∈ P, Lst n p) (tk : ∀ p ∈ P, Tk p) (E : EqW s P t) : PtW n s (mrg s P) ∧ EqW s (mrg s P) t ∧ lvs (mrg s P) = lvs P ∧ (P ≠ [] → mrg s P ≠ []) := by
  have inv := fun p hp => mg_inv (s := s) o (hl p hp)
  refine ⟨⟨fun q hq => ?_, fun q hq => ?_, fun q hq => ?_⟩, ⟨fun q hq => ?_, fun x hx all => E.ge x hx fun p hp => ?_⟩, ?_, fun ne => ?_⟩
  · obtain ⟨p, hp, hq⟩ := List.mem_flatMap.mp hq
    rcases inv p hp with ⟨_, e⟩ | ⟨m, Q, rfl, rfl, h, e⟩
    · rw [e] at hq; rw [List.mem_singleton.mp hq]; exact hl p hp
    · rw [e] at hq; exact (h.ls q hq).up
  · obtain ⟨p, hp, hq⟩ := List.mem_flatMap.mp hq
    rcases inv p hp with ⟨ne, e⟩ | ⟨m, Q, rfl, rfl, h, e⟩
    · rw [e] at hq; rw [List.mem_singleton.mp hq]; exact ne
    · rw [e] at hq; exact h.sg q hq
  · obtain ⟨p, hp, hq⟩ := List.mem_flatMap.mp hq
    rcases inv p hp with ⟨ne, e⟩ | ⟨m, Q, rfl, rfl, h, e⟩
    · rw [e] at hq; rw [List.mem_singleton.mp hq]; exact tk p hp
    · rw [e] at hq; exact (lv_part (tk _ hp) hq).1
  · obtain ⟨p, hp, hq⟩ := List.mem_flatMap.mp hq
    have dp := (hl p hp).dep
    rcases inv p hp with ⟨ne, e⟩ | ⟨m, Q, rfl, rfl, h, e⟩
    · rw [e] at hq; rw [List.mem_singleton.mp hq]; exact E.le p hp
    · rw [e] at hq
      have pd := pts_depth (l := wh s Q) (p := q) hq
      exact cl_trans (by omega) (by omega) ht (cl_part o hq (by omega)) (E.le _ hp)
  · have dp := (hl p hp).dep
    rcases inv p hp with ⟨ne, e⟩ | ⟨m, Q, rfl, rfl, h, e⟩
    · exact all p (List.mem_flatMap.mpr ⟨p, hp, by rw [e]; exact List.mem_singleton.mpr rfl⟩)
    · exact cl_whole o (by omega) hx fun q hq => all q (List.mem_flatMap.mpr ⟨_, hp, by rw [e]; exact hq⟩)
  · have go : ∀ P : List PyData, (∀ p ∈ P, Lst n p) → (∀ p ∈ P, Tk p) → lvs (mrg s P) = lvs P := fun P => by
      induction P with
      | nil => intro _ _; rfl
      | cons p P ih =>
        intro h1 h2
        have : mrg s (p :: P) = mg s p ++ mrg s P := by unfold mrg; rw [List.flatMap_cons]
        rw [this, lvs_app, lvs_cons, ih (fun q hq => h1 q (List.mem_cons_of_mem _ hq)) fun q hq => h2 q (List.mem_cons_of_mem _ hq)]
        rcases mg_inv (s := s) o (h1 p List.mem_cons_self) with ⟨_, e⟩ | ⟨m, Q, rfl, rfl, h, e⟩
        · rw [e, lvs_cons]
          simp [lvs]
        · rw [e, (lv_tup (h2 _ List.mem_cons_self)).2.2]
          rfl
    exact go P hl tk
  · obtain ⟨p, hp⟩ := List.exists_mem_of_ne_nil P ne
    have : ∃ q, q ∈ mg s p := by
      rcases inv p hp with ⟨_, e⟩ | ⟨m, Q, rfl, rfl, h, e⟩
      · exact ⟨p, by rw [e]; exact List.mem_singleton.mpr rfl⟩
      · rw [e]
        exact List.exists_mem_of_ne_nil Q fun z => by have := h.two; rw [z] at this; simp at this
    obtain ⟨q, hq⟩ := this
    exact List.ne_nil_of_mem (List.mem_flatMap.mpr ⟨p, hp, hq⟩)
/-- what outer_parts gives -/
structure OutR (s : Str) (ds es : List PyData) : Prop where
  sub : ∀ e ∈ es, e ∈ ds
  cov : ∀ p ∈ ds, ∃ e ∈ es, cl s p e = true
  an : es.Pairwise fun a b => cl s a b = false ∧ cl s b a = false
  lvs : lvs es ≤ lvs ds
  len : es.length ≤ ds.length
theorem OutR.ok {n : Nat} {s : Str} {ds es : List PyData} {t : PyData} (hn : n ≤ 9) (R : OutR s ds es) (p : PtW n s ds) (E : EqW s ds t) : PtW n s es ∧ EqW s es t ∧ (ds ≠ [] → es ≠ []) := by
  refine ⟨⟨fun q hq => p.ls q (R.sub q hq), fun q hq => p.sg q (R.sub q hq), fun q hq => p.tk q (R.sub q hq)⟩, ⟨fun q hq => E.le q (R.sub q hq), fun x hx all => E.ge x hx fun q hq => ?_⟩, fun ne => ?_⟩
  · obtain ⟨e, he, c⟩ := R.cov q hq
    have d1 := (p.ls q hq).dep
    have d2 := (p.ls e (R.sub e he)).dep
    exact cl_trans (by omega) (by omega) hx c (all e he)
  · obtain ⟨q, hq⟩ := List.exists_mem_of_ne_nil ds ne
    obtain ⟨e, he, _⟩ := R.cov q hq
    exact List.ne_nil_of_mem he
/-- one part replaced by a part of it -/
theorem clo_ok {n i : Nat} {s : Str} (o : opS s) (hn : n + 1 ≤ 9) {ds : List PyData} {t p q : PyData} (ht : t.depth ≤ 9) (h2 : 2 ≤ ds.length) (P : PtW n s ds) (E : EqW s ds t) (hp : ds[i]? = some p) (hq : q ∈ pts p) (c : cl s q (wh s ds) = true) :
    (∀ x ∈ ds.take i ++ [q] ++ ds.drop (i + 1), Lst n x ∧ Tk x) ∧ EqW s (ds.take i ++ [q] ++ ds.drop (i + 1)) t ∧ lvs (ds.take i ++ [q] ++ ds.drop (i + 1)) + 1 ≤ lvs ds := by
  have mp := List.mem_of_getElem? hp
  have lp := P.ls p mp
  have dw : (wh s ds).depth ≤ 9 := by
    have := lmeas_depth (n + 1) (wh s ds) (lmeas_make o h2 fun x hx => (P.ls x hx).meas)
    omega
  obtain ⟨tq, lq⟩ := lv_part (P.tk p mp) hq
  have eds : ds = ds.take i ++ p :: ds.drop (i + 1) := by
    have lt := (List.getElem?_eq_some_iff.mp hp)
    obtain ⟨l, e⟩ := lt
    rw [← e, List.getElem_cons_drop, List.take_append_drop]
  -- p is composed, of the other operator
  obtain ⟨m, s', Q, rfl, rfl, hQ⟩ : ∃ m s' Q, n = m + 1 ∧ p = wh s' Q ∧ LsP (Lst m) s' Q := by
    cases n with
    | zero => exact lp.elim
    | succ m =>
      rcases lp with ⟨x, rfl, _⟩ | ⟨s', Q, rfl, h⟩
      · cases hq
      · exact ⟨m, s', Q, rfl, rfl, h⟩
  have ns : s' ≠ s := P.sg _ mp
  have dp := lp.dep
  have dq := pts_depth hq
  have mem : ∀ x, x ∈ ds.take i ++ [q] ++ ds.drop (i + 1) → x = q ∨ x ∈ ds := fun x hx => by
    rcases List.mem_append.mp hx with z | z
    · rcases List.mem_append.mp z with z | z
      · exact .inr (List.mem_of_mem_take z)
      · exact .inl (List.mem_singleton.mp z)
    · exact .inr (List.mem_of_mem_drop z)
  refine ⟨fun x hx => ?_, ⟨fun x hx => ?_, fun x hx all => E.ge x hx fun y hy => ?_⟩, ?_⟩
  · rcases mem x hx with rfl | z
    · exact ⟨(hQ.ls _ hq).up, tq⟩
    · exact ⟨P.ls x z, P.tk x z⟩
  · rcases mem x hx with rfl | z
    · exact cl_trans (by omega) dw ht c (cl_whole o dw ht E.le)
    · exact E.le x z
  · rw [eds] at hy
    rcases List.mem_append.mp hy with z | z
    · exact all y (List.mem_append_left _ (List.mem_append_left _ z))
    · rcases List.mem_cons.mp z with z | z
      · rw [z]
        exact cl_trans (by omega) (by omega) hx (cl_piece o hQ.op ns hq (by omega)) (all q (List.mem_append_left _ (List.mem_append_right _ (List.mem_singleton.mpr rfl))))
      · exact all y (List.mem_append_right _ z)
  · have e : lvs ds = lvs (ds.take i) + (lv (wh s' Q) + lvs (ds.drop (i + 1))) := by
      conv => lhs; rw [eds]
      rw [lvs_app, lvs_cons]
    rw [e, lvs_app, lvs_app, lvs_cons]
    have : lvs ([] : List PyData) = 0 := rfl
    omega
/-- the end: one part -/
theorem end_one {s : Str} {p t : PyData} (hp : p.depth ≤ 9) (E : EqW s [p] t) : lawB p t = true ∧ lawB t p = true :=
  cl_eq (E.le p (List.mem_singleton.mpr rfl)) (E.ge p hp fun q hq => by rw [List.mem_singleton.mp hq]; exact cl_refl hp)
/-- the end: several parts -/
theorem end_all {n : Nat} {s : Str} (o : opS s) (hn : n + 1 ≤ 9) {ds es : List PyData} {t : PyData} (ht : t.depth ≤ 9) (h2 : 2 ≤ ds.length) (P : PtW n s ds) (E : EqW s ds t) (an : ds.Pairwise fun a b => cl s a b = false ∧ cl s b a = false) (pc : ∀ p ∈ ds, ∀ q ∈ pts p, cl s q (wh s ds) = false) (pm : es.Perm ds) (srt : sortedS (es.map txt) = true) :
    Lst (n + 1) (wh s es) ∧ lawB (wh s es) t = true ∧ lawB t (wh s es) = true ∧ lv (wh s es) = lvs ds := by
  have dw : ∀ {P' : List PyData}, P'.Perm ds → (wh s P').depth ≤ 9 := fun {P'} pm' => by
    have := lmeas_depth (n + 1) (wh s P') (lmeas_make o (by rw [pm'.length_eq]; exact h2) fun x hx => (P.ls x (pm'.mem_iff.mp hx)).meas)
    omega
  have de := dw pm
  have dd := dw (List.Perm.refl ds)
  have dep : ∀ p ∈ ds, p.depth ≤ 9 := fun p hp => Nat.le_trans (P.ls p hp).dep (by omega)
  have nd : ds.Nodup := an.imp_of_mem fun {a b} ha hb h z => by
    rw [z] at h
    rw [cl_refl (dep b hb)] at h
    cases h.1
  have an' : ∀ a ∈ ds, ∀ b ∈ ds, a ≠ b → cl s a b = false := fun a ha b hb ne => by
    obtain ⟨i, hi⟩ := List.getElem?_of_mem ha
    obtain ⟨j, hj⟩ := List.getElem?_of_mem hb
    obtain ⟨li, ei⟩ := List.getElem?_eq_some_iff.mp hi
    obtain ⟨lj, ej⟩ := List.getElem?_eq_some_iff.mp hj
    rcases Nat.lt_trichotomy i j with z | z | z
    · have := (List.pairwise_iff_getElem.mp an i j li lj z).1
      rwa [ei, ej] at this
    · subst z; exact absurd (ei.symm.trans ej) ne
    · have := (List.pairwise_iff_getElem.mp an j i lj li z).2
      rwa [ei, ej] at this
  have up : cl s (wh s es) (wh s ds) = true := cl_whole o de dd fun p hp => cl_part o (pm.mem_iff.mp hp) dd
  have me := fun (x : PyData) => pm.mem_iff (a := x)
  have L : LsP (Lst n) s es := ⟨o, by rw [pm.length_eq]; exact h2, srt, by
    have nde := pm.nodup_iff.mpr nd
    refine List.pairwise_map.mpr (List.Pairwise.imp_of_mem (fun {a b} ha hb h z => h ?_) nde)
    exact txt_injF (P.tk a ((me a).mp ha)).one (P.tk b ((me b).mp hb)).one z, fun p hp => P.sg p ((me p).mp hp), fun p hp => P.ls p ((me p).mp hp), fun a ha b hb => an' a ((me a).mp ha) b ((me b).mp hb), fun p hp q hq => by
      cases h : cl s q (wh s es) with
      | false => rfl
      | true =>
        have pd := pts_depth hq
        have := dep p ((me p).mp hp)
        have z := cl_trans (by omega) de dd h up
        rw [pc p ((me p).mp hp) q hq] at z
        cases z⟩
  have b := cl_eq (s := s) (cl_whole o de ht fun p hp => E.le p ((me p).mp hp)) (E.ge _ de fun p hp => cl_part o ((me p).mpr hp) de)
  exact ⟨.inr ⟨s, es, rfl, L⟩, b.1, b.2, by rw [(wh_lm o L.two hn fun p hp => (L.ls p hp).meas).2, lvs_perm pm]⟩
end FvF


/-! counts_less, merged_parts -/
namespace FvF
open PySem PySem.Spec PyProof.Rows L2 Fv FvD FvG FvX FvW TL
-- top 23  slots: 0:order 1:sign 2:one 3:other
abbrev s_counts_less : Stmt := topS 23
abbrev N_counts_less : List Str := ["order", "sign", "one", "other"]
theorem sc_counts_less : FnScope N_counts_less ["order", "sign", "one", "other"] (defScope s_counts_less) := ⟨rfl, rfl, rfl, by decide +kernel, rfl, by decide +kernel, by decide +kernel⟩

-- top 24  slots: 0:sign 1:parts 2:merged 3:part
abbrev s_merged_parts : Stmt := topS 24
abbrev N_merged_parts : List Str := ["sign", "parts", "merged", "part"]
theorem sc_merged_parts : FnScope N_merged_parts ["sign", "parts"] (defScope s_merged_parts) := ⟨rfl, rfl, rfl, by decide +kernel, rfl, by decide +kernel, by decide +kernel⟩

-- top 25  slots: 0:order 1:sign 2:parts 3:found 4:part 5:other
abbrev s_outer_parts : Stmt := topS 25
abbrev N_outer_parts : List Str := ["order", "sign", "parts", "found", "part", "other"]
theorem sc_outer_parts : FnScope N_outer_parts ["order", "sign", "parts"] (defScope s_outer_parts) := ⟨rfl, rfl, rfl, by decide +kernel, rfl, by decide +kernel, by decide +kernel⟩

-- top 26  slots: 0:order 1:sign 2:parts 3:whole 4:at 5:part 6:inner 7:piece
abbrev s_closer_parts : Stmt := topS 26
abbrev N_closer_parts : List Str := ["order", "sign", "parts", "whole", "at", "part", "inner", "piece"]
theorem sc_closer_parts : FnScope N_closer_parts ["order", "sign", "parts"] (defScope s_closer_parts) := ⟨rfl, rfl, rfl, by decide +kernel, rfl, by decide +kernel, by decide +kernel⟩

-- top 22  slots: 0:order 1:term 2:sign 3:parts 4:part 5:closer
abbrev s_least : Stmt := topS 22
abbrev N_least : List Str := ["order", "term", "sign", "parts", "part", "closer"]
theorem sc_least : FnScope N_least ["order", "term"] (defScope s_least) := ⟨rfl, rfl, rfl, by decide +kernel, rfl, by decide +kernel, by decide +kernel⟩

-- top 21  slots: 0:term
abbrev s_least_form : Stmt := topS 21
abbrev N_least_form : List Str := ["term"]
theorem sc_least_form : FnScope N_least_form ["term"] (defScope s_least_form) := ⟨rfl, rfl, rfl, by decide +kernel, rfl, by decide +kernel, by decide +kernel⟩


theorem mt_or2 {X : Cx} {id : String} {r1 r2 : V → List V → Hp → VK → Prop} (h1 : MtM X id r1) (h2 : MtM X id r2) : MtM X id (fun x vs H Q => r1 x vs H Q ∨ r2 x vs H Q) := fun pins s σ H x vs v us Q I rx rv h =>
  h.elim (h1 pins s σ H x vs v us Q I rx rv) (h2 pins s σ H x vs v us Q I rx rv)
theorem FAt.more {K : PySem.W.Frag} {w : World} {C : Addr} {M : List Addr} {H : Hp} {c d : Addr} {kvs : List NKV} {A B A' B' : List PyData} (h : FAt K w C M H c d kvs A B) (a : ∀ x ∈ A, x ∈ A') (b : ∀ x ∈ B, x ∈ B') : FAt K w C M H c d kvs A' B' := by
  obtain ⟨ob, dc, ky, vl, nd, ne, dM, tr⟩ := h
  exact ⟨ob, dc, ky, fun p hp => let ⟨l, r, e, m1, m2, z⟩ := vl p hp; ⟨l, r, e, a _ m1, b _ m2, z⟩, nd, ne, dM, tr⟩
def spCn (K : PySem.W.Frag) (w : World) (C : Addr) : Sp := fun vs H Q _ => ∃ (c d : Addr) (M : List Addr) (kvs : List NKV) (A : List PyData) (s : Str) (v1 v2 : V) (x y : PyData), vs = [.ref c, .str s, v1, v2] ∧ FAt K w C M H c d kvs A A ∧ Un A ∧ Dp K (hide M H) v1 x ∧ Dp K (hide M H) v2 y ∧ x ∈ A ∧ y ∈ A ∧ x.depth + y.depth < 12 ∧
  ∀ H' kvs', FAt K w C M H' c d kvs' A A → SmX [d] H H' → Q (.bl (cl s x y)) H'
def spMg (K : PySem.W.Frag) : Sp := fun vs H Q _ => ∃ (p : Addr) (M : List Addr) (s : Str) (xs : List V) (ds : List PyData), vs = [.str s, .ref p] ∧ Trk M H ∧ SqL K (hide M H) p xs ∧ DpAll K (hide M H) xs ds ∧ (∀ d ∈ ds, Tk d) ∧ lvs ds ≤ 600 ∧ isL s = false ∧
  ∀ (H' : Hp) (q : Addr) (ys : List V), Same H H' → H q = none → H' q = some (.lst ys) → DpAll K (hide M H') ys (mrg s ds) → Q (.ref q) H'
theorem mg_len {s : Str} {d : PyData} (t : Tk d) : (mg s d).length ≤ lv d := by
  unfold mg
  split
  · rcases t.inv with ⟨x, rfl, _⟩ | ⟨o, ds, rfl, _⟩
    · exact Nat.zero_le _
    · obtain ⟨al, _, e⟩ := lv_tup t
      rw [e]
      have : ∀ l : List PyData, (∀ q ∈ l, Tk q) → l.length ≤ (l.map lv).sum := fun l => by
        induction l with
        | nil => intro _; simp
        | cons x l ih =>
          intro h
          have a := lv_pos (h x List.mem_cons_self)
          have b := ih fun y hy => h y (List.mem_cons_of_mem _ hy)
          rw [List.map_cons, List.sum_cons, List.length_cons]
          omega
      exact this ds al
  · exact lv_pos t
theorem mrg_len {s : Str} : ∀ {ds : List PyData}, (∀ d ∈ ds, Tk d) → (mrg s ds).length ≤ lvs ds
  | [], _ => Nat.zero_le _
  | d :: ds, h => by
    have a := mg_len (s := s) (h d List.mem_cons_self)
    have b := mrg_len (s := s) (ds := ds) fun x hx => h x (List.mem_cons_of_mem _ hx)
    have e : mrg s (d :: ds) = mg s d ++ mrg s ds := by unfold mrg; rw [List.flatMap_cons]
    rw [e, List.length_append, lvs_cons]
    omega
theorem lvs_take {ds : List PyData} (i : Nat) : lvs (ds.take i) ≤ lvs ds := by
  have : lvs ds = lvs (ds.take i) + lvs (ds.drop i) := by rw [← lvs_app, List.take_append_drop]
  omega
section
variable {P : Program} {w : World} {K : PySem.W.Frag} {mg' : Str → Option Value} {base : Heap} {C : Addr}
theorem ok_counts {f : Addr} {fd : FuncData} {k : Nat} (F : Fun K "counts_less" "counts_less" s_counts_less f fd) (M_holds : C8.Met P w K mg' base k C "holds" (spHo K w C 12) []) :
    FnOk P w K mg' base CX0 (k + 1) f fd ["order", "sign", "one", "other"] (spCn K w C) := by
  refine F.ok sc_counts_less (fun vs H Q E h => ?_) (fun cdv A0 outer s H vs Q E hr h => ?_)
  · obtain ⟨c, d, M, kvs, A, s, v1, v2, x, y, rfl, _⟩ := h
    rfl
  · obtain ⟨c, d, M, kvs, A, sg, v1, v2, x, y, rfl, hF, uA, hx, hy, mx, my, hd, good⟩ := h
    refine ⟨_, (pss_one (ps_ret (pe_ifExp (pt_cmpR op_eq (pv 1) pe_str (nomark _)) (C8.pe_mt M_holds hr (by omega) (pv 0) (pa_cons (pv 2) (pa_cons (pv 3) pa_nil))) (C8.pe_mt M_holds hr (by omega) (pv 0) (pa_cons (pv 3) (pa_cons (pv 2) pa_nil)))))), ?_⟩
    obtain ⟨dx, ob⟩ := hF.ob
    refine ⟨_, rfl, rfl, _, rfl, ?_⟩
    refine ite2 (fun cs => ?_) (fun cs => ?_)
    · have e : sg = "|" := by have := of_decide_eq_true cs; injection this
      refine ⟨_, rfl, c, dx, _, rfl, ob, rfl, _, rfl, _, rfl, c, d, M, kvs, A, A, v1, v2, x, y, rfl, hF, uA, uA, hx, hy, mx, my, hd, fun H' kvs' hF' sm => ?_⟩
      have g := good H' kvs' hF' sm
      unfold cl at g
      rw [if_pos e] at g
      rw [le_law 12 x y hd (by decide)]
      exact g
    · have e : sg ≠ "|" := fun z => cs (decide_eq_true (by rw [z]))
      refine ⟨_, rfl, c, dx, _, rfl, ob, rfl, _, rfl, _, rfl, c, d, M, kvs, A, A, v2, v1, y, x, rfl, hF, uA, uA, hy, hx, my, mx, (by omega), fun H' kvs' hF' sm => ?_⟩
      have g := good H' kvs' hF' sm
      unfold cl at g
      rw [if_neg e] at g
      rw [le_law 12 y x (by omega) (by decide)]
      exact g
theorem ok_merged {f : Addr} {fd : FuncData} {k : Nat} (F : Fun K "merged_parts" "merged_parts" s_merged_parts f fd) :
    FnOk P w K mg' base CX0 (k + 1) f fd ["sign", "parts"] (spMg K) := by
  refine F.ok sc_merged_parts (fun vs H Q E h => ?_) (fun cdv A0 outer s H vs Q E hr h => ?_)
  · obtain ⟨p, M, s, xs, ds, rfl, _⟩ := h
    rfl
  · obtain ⟨p, M, sg, xs, ds, rfl, tM, hp, hxs, tk, l6, sgl, good⟩ := h
    refine ⟨_, (pss_cons (ps_set (i := 2) sc_merged_parts.nd rfl (by first | exact .inl rfl | exact .inr rfl) (pe_lst pa_nil))
      (pss_cons (ps_for PassesOwn.never rfl (pi_list (pv 1)) (pg_name (i := 3) sc_merged_parts.nd rfl (by first | exact .inl rfl | exact .inr rfl))
        (pss_one (ps_expr (pe_bm PySem.F.plainAttrs_list PySem.F.slot_list_extend PySem.F.type_list_extend (mt_or2 mt_extend FvG.mt_extendT) (pv 2) (pa_cons (pe_ifExp (pt_cmpR op_eq (pe_ix (FvW.ix_or2 ix_str ix_tup) (pv 3) pe_int (fun _ _ => rfl)) (pv 0) (nomark _)) (pe_slice sl_tup (pv 3) (po_some pe_int) po_none) (pe_lst (pa_cons (pv 3) pa_nil))) pa_nil)))))
      (pss_one (ps_ret (pv 2))))), ?_⟩
    refine ⟨(by exact Nat.zero_le _), fun q nq => ?_⟩
    have s1 := same_upd (o := .lst []) nq
    have lx := dpAll_len hxs
    refine ⟨_, rfl, p, rfl, ⟨_, s1.seq (hide_same.seq hp)⟩, for_it (walk_list (xs := xs)) (fun i σ H' => ∃ (y3 : Option V) (ys : List V), σ = [some (.str sg), some (.ref p), some (.ref q), y3] ∧ Same H H' ∧ H' q = some (.lst ys) ∧ DpAll K (hide (q :: M) H') ys (mrg sg (ds.take i))) ?_ ?_ ?_ ?_⟩
    · exact ⟨_, [], rfl, s1, upd_same, .nil⟩
    · rintro i σ H' _ ⟨_, _, _, sm, _⟩
      exact sm.seq (hide_same.seq hp)
    · rintro i z σ Hx H' hi ⟨y3, ys, rfl, sm, hq, hys⟩ ⟨rfl, hz⟩
      obtain ⟨d, hd, hDz⟩ := dpAll_get hxs hz
      have td := tk d (List.mem_of_getElem? hd)
      have hz' : Dp K (hide (q :: M) H') z d := dp_same (hid_more nq sm) _ _ hDz
      have tM' : Trk (q :: M) H' := trk_cons tM sm hq
      have mq : q ∈ q :: M := List.mem_cons_self
      have lys := dpAll_len hys
      have lm := mrg_len (s := sg) (ds := ds.take i) fun x hx => tk x (List.mem_of_mem_take hx)
      have lt := lvs_take (ds := ds) i
      have lm1 := mg_len (s := sg) td
      have lv1 := lvs_mem (List.mem_of_getElem? hd)
      have et : mrg sg (ds.take (i + 1)) = mrg sg (ds.take i) ++ mg sg d := by
        unfold mrg
        rw [List.take_add_one, hd, List.flatMap_append]
        simp
      refine ⟨_, rfl, .inl ⟨rfl, ys, SqL.of hq⟩, ⟨_, rfl, ix_sg (dp_same hide_same _ _ hz') td ⟨_, rfl, rfl, _, rfl, ?_⟩⟩⟩
      refine ite2 (fun c => ?_) (fun c => ?_)
      · refine sl_pts (i := 3) rfl tM' hz' td sgl (of_decide_eq_true c) fun T H2 xs2 s2 hT hx2 => ?_
        have e : mg sg d = pts d := by
          unfold mg
          rw [if_pos (by have := of_decide_eq_true c; injection this)]
        rw [e] at lm1 et
        refine .inr ⟨q, T, ys, xs2, rfl, rfl, s2 _ _ hq, same_seqT hide_same hT, by have := dpAll_len hx2; rw [sizeLine_eq]; omega, ?_⟩
        refine ⟨_, _, rfl, fun b o e => by rw [upd_ne (ne_of_none e nq)]; exact s2 _ _ (sm _ _ e), upd_same, ?_⟩
        rw [et, hideF_upd mq]
        exact dpAll_app (dpAll_same (SmX.of_same s2).hid _ _ hys) hx2
      · have e : mg sg d = [d] := by
          unfold mg
          rw [if_neg (fun z => c (decide_eq_true (by rw [z])))]
        rw [e] at lm1 et
        refine ⟨_, rfl, (by show 1 ≤ sizeLine; decide), fun T nT => ?_⟩
        have s2 := same_upd (o := .lst [z]) nT
        obtain ⟨hT, sT⟩ := new_in (o := .lst [z]) tM' nT
        refine .inl ⟨q, T, ys, [z], rfl, rfl, s2 _ _ hq, upd_same, by rw [sizeLine_eq]; show ys.length + 1 ≤ _; omega, ?_⟩
        refine ⟨_, _, rfl, fun b o e => by rw [upd_ne (ne_of_none e nq)]; exact s2 _ _ (sm _ _ e), upd_same, ?_⟩
        rw [et, hideF_upd mq]
        exact dpAll_app (dpAll_same sT _ _ hys) (.cons (dp_same sT _ _ hz') .nil)
    · rintro σ H' ⟨y3, ys, rfl, sm, hq, hys⟩
      rw [lx, List.take_length] at hys
      exact ⟨_, rfl, good H' q ys sm nq hq (dpAll_same (hide_sub fun b hb => List.mem_cons_of_mem _ hb) _ _ hys)⟩
end
end FvF


/-! outer_parts, closer_parts -/
namespace FvF
open PySem PySem.Spec PyProof.Rows L2 Fv FvD FvG FvX FvW TL
theorem outR_nil {s : Str} : OutR s [] [] := ⟨(fun e he => nomatch he), (fun p hp => nomatch hp), .nil, Nat.le_refl _, Nat.le_refl _⟩
theorem outR_in {s : Str} {ds es : List PyData} {z : PyData} (R : OutR s ds es) (h : es.any (fun o => cl s z o) = true) : OutR s (ds ++ [z]) es := by
  refine ⟨fun e he => List.mem_append_left _ (R.sub e he), fun p hp => ?_, R.an, by rw [lvs_app]; have := R.lvs; omega, by rw [List.length_append]; have := R.len; omega⟩
  rcases List.mem_append.mp hp with y | y
  · exact R.cov p y
  · rw [List.mem_singleton.mp y]
    obtain ⟨e, he, c⟩ := List.any_eq_true.mp h
    exact ⟨e, he, c⟩
theorem outR_put {s : Str} {ds es : List PyData} {z : PyData} (R : OutR s ds es) (d9 : ∀ p ∈ ds, p.depth ≤ 9) (z9 : z.depth ≤ 9) (h : es.any (fun o => cl s z o) = false) : OutR s (ds ++ [z]) (es.filter (fun o => !cl s o z) ++ [z]) := by
  have no : ∀ e ∈ es, cl s z e = false := fun e he => by
    cases c : cl s z e with
    | false => rfl
    | true => rw [List.any_eq_true.mpr ⟨e, he, c⟩] at h; cases h
  refine ⟨fun e he => ?_, fun p hp => ?_, ?_, ?_, by rw [List.length_append, List.length_append]; have := R.len; have := List.length_filter_le (fun o => !cl s o z) es; omega⟩
  · rcases List.mem_append.mp he with y | y
    · exact List.mem_append_left _ (R.sub e (List.mem_filter.mp y).1)
    · exact List.mem_append_right _ y
  · rcases List.mem_append.mp hp with y | y
    · obtain ⟨e, he, c⟩ := R.cov p y
      cases ce : cl s e z with
      | false => exact ⟨e, List.mem_append_left _ (List.mem_filter.mpr ⟨he, by rw [ce]; rfl⟩), c⟩
      | true => exact ⟨z, List.mem_append_right _ (List.mem_singleton.mpr rfl), cl_trans (d9 p y) (d9 e (R.sub e he)) z9 c ce⟩
    · rw [List.mem_singleton.mp y]
      exact ⟨z, List.mem_append_right _ (List.mem_singleton.mpr rfl), cl_refl z9⟩
  · rw [List.pairwise_append]
    refine ⟨R.an.filter _, List.pairwise_singleton _ _, fun a ha b hb => ?_⟩
    rw [List.mem_singleton.mp hb]
    have := (List.mem_filter.mp ha).2
    exact ⟨by simpa using this, no a (List.mem_filter.mp ha).1⟩
  · have fl : ∀ l : List PyData, lvs (l.filter fun o => !cl s o z) ≤ lvs l := fun l => by
      induction l with
      | nil => exact Nat.le_refl _
      | cons x l ih =>
        rw [List.filter_cons]
        split
        · rw [lvs_cons, lvs_cons]; omega
        · rw [lvs_cons]; omega
    have := fl es
    have := R.lvs
    rw [lvs_app, lvs_app]
    omega
def spOu (K : PySem.W.Frag) (w : World) (C : Addr) : Sp := fun vs H Q _ => ∃ (c d p : Addr) (M : List Addr) (kvs : List NKV) (A : List PyData) (s : Str) (xs : List V) (ds : List PyData), vs = [.ref c, .str s, .ref p] ∧ FAt K w C M H c d kvs A A ∧ Un A ∧ SqL K (hide M H) p xs ∧ DpAll K (hide M H) xs ds ∧ (∀ x ∈ ds, x ∈ A ∧ x.depth ≤ 5) ∧ ds.length ≤ 600 ∧
  ∀ H' kvs' q ys es, FAt K w C M H' c d kvs' A A → SmX [d] H H' → H q = none → H' q = some (.lst ys) → DpAll K (hide M H') ys es → OutR s ds es → Q (.ref q) H'
def spCo (K : PySem.W.Frag) (w : World) (C : Addr) : Sp := fun vs H Q _ => ∃ (c d p : Addr) (M : List Addr) (kvs : List NKV) (A : List PyData) (s : Str) (xs : List V) (ds : List PyData), vs = [.ref c, .str s, .ref p] ∧ FAt K w C M H c d kvs A A ∧ Un A ∧ opS s ∧ SqL K (hide M H) p xs ∧ DpAll K (hide M H) xs ds ∧ (∀ x ∈ ds, x ∈ A ∧ x.depth ≤ 5) ∧ (∀ x ∈ ds, Tk x) ∧ 2 ≤ ds.length ∧ lvs ds ≤ 24 ∧ A.length < 1200 ∧ (∀ x ∈ ds, 1 ≤ lmeas 5 x) ∧
  (∀ H' kvs', FAt K w C M H' c d kvs' (wh s ds :: A) (wh s ds :: A) → SmX [d] H H' → (∀ p ∈ ds, ∀ q ∈ pts p, cl s q (wh s ds) = false) → Q .non H') ∧
  ∀ H' kvs' i p q r ys, FAt K w C M H' c d kvs' (wh s ds :: A) (wh s ds :: A) → SmX [d] H H' → ds[i]? = some p → q ∈ pts p → cl s q (wh s ds) = true → H r = none → H' r = some (.lst ys) → DpAll K (hide M H') ys (mrg s (ds.take i ++ [q] ++ ds.drop (i + 1))) → Q (.ref r) H'
theorem lvs_len : ∀ {l : List PyData}, (∀ x ∈ l, Tk x) → l.length ≤ lvs l
  | [], _ => Nat.zero_le _
  | x :: l, h => by
    have := lv_pos (h x List.mem_cons_self)
    have := lvs_len (l := l) fun y hy => h y (List.mem_cons_of_mem _ hy)
    rw [List.length_cons, lvs_cons]
    omega
theorem cut_dropN (xs : List V) (i : Nat) : cutV xs (some ((i : Nat) + 1 : Int)) none = xs.drop (i + 1) := by
  unfold cutV
  rw [show HT.sIx xs.length 0 (some ((i : Nat) + 1 : Int)) = min (i + 1) xs.length from by exact_mod_cast HT.sIx_nat _ 0 (i + 1)]
  show ((xs.drop (min (i + 1) xs.length)).take (xs.length - min (i + 1) xs.length)) = _
  rcases Nat.le_total (i + 1) xs.length with h | h
  · rw [Nat.min_eq_left h, List.take_of_length_le (by rw [List.length_drop]; omega)]
  · rw [Nat.min_eq_right h, List.drop_of_length_le (Nat.le_refl _), List.drop_of_length_le h]
    exact List.take_nil
section
variable {P : Program} {w : World} {K : PySem.W.Frag} {mg' : Str → Option Value} {base : Heap} {C : Addr}
set_option maxHeartbeats 1600000 in
theorem ok_outer {f : Addr} {fd : FuncData} {k : Nat} (F : Fun K "outer_parts" "outer_parts" s_outer_parts f fd) (m_any : mg' "any" = none) (C_counts_less : Own P w K mg' base k "counts_less" ["order", "sign", "one", "other"] (spCn K w C)) :
    FnOk P w K mg' base CX0 (k + 1) f fd ["order", "sign", "parts"] (spOu K w C) := by
  refine F.ok sc_outer_parts (fun vs H Q E h => ?_) (fun cdv A0 outer s H vs Q E hr h => ?_)
  · obtain ⟨c, d, p, M, kvs, A, s, xs, ds, rfl, _⟩ := h
    rfl
  · obtain ⟨c, d, p, M, kvs, A, sg, xs, ds, rfl, hF, uA, hp, hxs, hds, l6, good⟩ := h
    refine ⟨_, (pss_cons (ps_set (i := 3) sc_outer_parts.nd rfl (by first | exact .inl rfl | exact .inr rfl) (pe_lst pa_nil))
      (pss_cons (ps_for PassesOwn.never rfl (pi_list (pv 2)) (pg_name (i := 4) sc_outer_parts.nd rfl (by first | exact .inl rfl | exact .inr rfl))
        (pss_one (ps_if (pt_not (pt_val (pe_callB (cr_any rfl) (by rfl) m_any (by decide +kernel) (pa_cons (pe_lc (own := [("other", 5)]) (g := gName 5) (by rfl) sc_outer_parts.nd (pi_list (pv 3)) (blkOk_by (own := [("other", 5)]) (N := N_outer_parts) (sc := defScope s_outer_parts) (by decide +kernel)) (fun _ _ _ _ _ => pg_name (i := 5) sc_outer_parts.nd rfl (Or.inl rfl)) (fun _ _ _ _ _ => pts_nil) (fun _ _ _ _ _ => (pe_own C_counts_less (hr.mono (by omega)) (by rfl) (pa_cons (pv 0) (pa_cons (pv 1) (pa_cons (pv 4) (pa_cons (pv 5) pa_nil))))))) pa_nil))))
          (pss_cons (ps_setLc (i := 3) (own := [("other", 5)]) (g := gName 5) (by rfl) sc_outer_parts.nd rfl rfl (sw_true rfl rfl rfl (by decide +kernel)) (pi_list (pv 3)) (blkOk_by (own := [("other", 5)]) (N := N_outer_parts) (sc := defScope s_outer_parts) (by decide +kernel)) (fun _ _ _ _ _ => pg_name (i := 5) sc_outer_parts.nd rfl (Or.inl rfl)) (fun _ _ _ _ _ => pts_one (pt_not (pt_val (pe_own C_counts_less (hr.mono (by omega)) (by rfl) (pa_cons (pv 0) (pa_cons (pv 1) (pa_cons (pv 5) (pa_cons (pv 4) pa_nil)))))))) (fun _ _ _ _ _ => (pv 5)))
          (pss_one (ps_expr (pe_bm PySem.F.plainAttrs_list PySem.F.slot_list_append PySem.F.type_list_append mt_append (pv 3) (pa_cons (pv 4) pa_nil)))))
          pss_nil)))
      (pss_one (ps_ret (pv 3))))), ?_⟩
    refine ⟨(by exact Nat.zero_le _), fun q0 nq0 => ?_⟩
    have s1 := same_upd (o := .lst []) nq0
    have lx := dpAll_len hxs
    have lf : ∀ {X Y : Hp}, SmX [d] X Y → Same (hide M X) (hide M Y) := fun z => hF.lft z
    refine ⟨_, rfl, p, rfl, ⟨_, s1.seq (hide_same.seq hp)⟩, for_it (walk_list (xs := xs)) (fun i σ H' => ∃ (q : Addr) (y4 y5 : Option V) (kvs' : List NKV) (ys : List V) (es : List PyData), σ = [some (.ref c), some (.str sg), some (.ref p), some (.ref q), y4, y5] ∧ FAt K w C M H' c d kvs' A A ∧ SmX [d] H H' ∧ H q = none ∧ H' q = some (.lst ys) ∧ DpAll K (hide M H') ys es ∧ OutR sg (ds.take i) es) ?_ ?_ ?_ ?_⟩
    · exact ⟨q0, _, _, kvs, [], [], rfl, hF.same s1, SmX.of_same s1, nq0, upd_same, .nil, outR_nil⟩
    · rintro i σ H' _ ⟨_, _, _, _, _, _, _, _, sm, _⟩
      exact hide_same.seq ((lf sm).seq hp)
    · rintro i z σ Hx H1 hi ⟨q, y4, y5, kvs1, ys, es, rfl, hF1, sm1, nq, hq, hys, R⟩ ⟨rfl, hz⟩
      obtain ⟨e0, he0, hDz⟩ := dpAll_get hxs hz
      have hz1 : Dp K (hide M H1) z e0 := dp_same (lf sm1) _ _ hDz
      obtain ⟨mz, dz⟩ := hds e0 (List.mem_of_getElem? he0)
      have ly := dpAll_len hys
      have qM : q ∉ M := hF.tr.ne nq
      have lt : (ds.take i).length ≤ 600 := by rw [List.length_take]; omega
      have les : es.length ≤ 600 := Nat.le_trans R.len lt
      have em : ∀ e ∈ es, e ∈ A ∧ e.depth ≤ 5 := fun e he => hds e (List.mem_of_mem_take (R.sub e he))
      have et : ds.take (i + 1) = ds.take i ++ [e0] := by rw [List.take_add_one, he0]; rfl
      refine ⟨_, rfl, q, rfl, ⟨_, SqL.of hq⟩, fun E1 nE1 => ?_⟩
      have up : ∀ {D : Addr} {X Y : Hp}, X D = none → SmX [d] X Y → Same (hide M X) (hide (D :: M) Y) := fun {D X Y} nX z b o e => by
        obtain ⟨m, e'⟩ := hide_some e
        rw [hide_ne (fun y => by
          rcases List.mem_cons.mp y with y | y
          · rw [y, nX] at e'; cases e'
          · exact m y)]
        exact (hide_some (lf z _ _ e)).2
      have frm : ∀ {D : Addr} {X : Hp} {kvs' : List NKV}, FAt K w C (D :: M) X c d kvs' A A → FAt K w C M X c d kvs' A A := fun h => h.go (hide_sub fun b hb => List.mem_cons_of_mem _ hb) (fun o e => e) (fun o e => e) hF.dM (fun b hb => h.tr b (List.mem_cons_of_mem _ hb))
      have to : ∀ {D : Addr} {X : Hp} {kvs' : List NKV}, X D = none → FAt K w C M X c d kvs' A A → FAt K w C (D :: M) (upd X D (.lst [])) c d kvs' A A := fun {D X kvs'} nX h => h.go (up nX (SmX.of_same (same_upd nX))) (fun o => same_upd nX _ _) (fun o => same_upd nX _ _) (List.mem_cons_of_mem _ hF.dM) (trk_cons h.tr (same_upd nX) upd_same)
      have ne_d : ∀ {D : Addr} {X : Hp} {kvs' : List NKV}, X D = none → FAt K w C M X c d kvs' A A → D ≠ d ∧ D ≠ c := fun {D X kvs'} nX h => ⟨(fun z => by rw [z, h.dc] at nX; cases nX), (fun z => by obtain ⟨dx, e⟩ := h.ob; rw [z, e] at nX; cases nX)⟩
      obtain ⟨E1d, E1c⟩ := ne_d nE1 hF1
      have qd : q ≠ d := fun z => qM (by rw [z]; exact hF.dM)
      refine lc_list (xs := ys) (fun j H' => ∃ kvs', FAt K w C (E1 :: M) H' c d kvs' A A ∧ SmX [d] H1 H' ∧ H' E1 = some (.lst (((es.take j).map fun o => cl sg e0 o).map V.bl))) ?_ ?_ ?_ ?_
      · exact ⟨kvs1, to nE1 hF1, SmX.of_same (same_upd nE1), upd_same⟩
      · rintro j H' _ ⟨_, _, sm, _⟩
        exact SqL.of (sm q _ (fun z => qd (List.mem_singleton.mp z)) hq)
      · rintro j y H' hy ⟨kvs', hF', sm, hE⟩
        obtain ⟨e, he, hDy⟩ := dpAll_get hys hy
        obtain ⟨me, de⟩ := em e (List.mem_of_getElem? he)
        refine ⟨rfl, ?_⟩
        dsimp only [tYes]
        rw [if_pos rfl]
        refine ⟨_, rfl, _, rfl, _, rfl, _, rfl, c, d, E1 :: M, kvs', A, sg, z, y, e0, e, rfl, hF', uA, dp_same (up nE1 sm) _ _ hz1, dp_same (up nE1 sm) _ _ hDy, mz, me, by omega, fun H4 kvs4 hF4 sm4 => ⟨_, sm4 _ _ (fun z => E1d (List.mem_singleton.mp z)) hE, ?_, kvs4, hF4.mvd List.mem_cons_self (Ne.symm E1d) (Ne.symm E1c), fun b o m e => by rw [upd_ne (ne_of_none e nE1)]; exact (sm.trans sm4) b o m e, ?_⟩⟩
        · rw [List.length_map, List.length_map, List.length_take]
          exact small1000 (by omega)
        · rw [upd_same, List.take_add_one, he, List.map_append, List.map_append]
          rfl
      · rintro H2 ⟨kvs2, hF2, sm2, hE2⟩
        rw [ly, List.take_length] at hE2
        have hF2 := frm hF2
        have hq2 : H2 q = some (.lst ys) := sm2 q _ (fun z => qd (List.mem_singleton.mp z)) hq
        have hys2 := dpAll_same (lf sm2) _ _ hys
        have hz2 := dp_same (lf sm2) _ _ hz1
        refine ⟨E1, es.map fun o => cl sg e0 o, rfl, SqL.of hE2, _, rfl, ?_⟩
        rw [List.any_map, show (id ∘ fun o => cl sg e0 o) = fun o => cl sg e0 o from rfl]
        cases ha : es.any fun o => cl sg e0 o with
        | true =>
          refine iteF ⟨q, _, _, kvs2, ys, es, rfl, hF2, sm1.trans sm2, nq, hq2, hys2, ?_⟩
          rw [et]
          exact outR_in R ha
        | false =>
          refine iteT ⟨_, rfl, q, rfl, ⟨_, SqL.of hq2⟩, fun E2 nE2 => ?_⟩
          obtain ⟨E2d, E2c⟩ := ne_d nE2 hF2
          have E2q : H E2 = none := by
            cases e : H E2 with
            | none => rfl
            | some o => rw [(sm1.trans sm2) E2 _ (fun z => E2d (List.mem_singleton.mp z)) e] at nE2; cases nE2
          refine lc_list (xs := ys) (fun j H' => ∃ kvs' zs, FAt K w C (E2 :: M) H' c d kvs' A A ∧ SmX [d] H2 H' ∧ H' E2 = some (.lst zs) ∧ DpAll K (hide (E2 :: M) H') zs ((es.take j).filter fun o => !cl sg o e0)) ?_ ?_ ?_ ?_
          · exact ⟨kvs2, [], to nE2 hF2, SmX.of_same (same_upd nE2), upd_same, .nil⟩
          · rintro j H' _ ⟨_, _, _, sm, _⟩
            exact SqL.of (sm q _ (fun z => qd (List.mem_singleton.mp z)) hq2)
          · rintro j y H' hy ⟨kvs', zs, hF', sm, hE, hzs⟩
            obtain ⟨e, he, hDy⟩ := dpAll_get hys2 hy
            obtain ⟨me, de⟩ := em e (List.mem_of_getElem? he)
            have lz := dpAll_len hzs
            have lz2 := List.length_filter_le (fun o => !cl sg o e0) (es.take j)
            rw [List.length_take] at lz2
            have ej : ((es.take (j + 1)).filter fun o => !cl sg o e0) = ((es.take j).filter fun o => !cl sg o e0) ++ (if (!cl sg e e0) = true then [e] else []) := by
              rw [List.take_add_one, he, List.filter_append]
              cases hh : cl sg e e0 <;> simp [hh]
            refine ⟨rfl, ⟨_, rfl, _, rfl, _, rfl, _, rfl, c, d, E2 :: M, kvs', A, sg, y, z, e, e0, rfl, hF', uA, dp_same (up nE2 sm) _ _ hDy, dp_same (up nE2 sm) _ _ hz2, me, mz, by omega, fun H4 kvs4 hF4 sm4 => ⟨_, rfl, ?_⟩⟩⟩
            have sm' := sm.trans sm4
            have hE4 := sm4 _ _ (fun z => E2d (List.mem_singleton.mp z)) hE
            have l4 : Same (hide (E2 :: M) H') (hide (E2 :: M) H4) := hF'.lft sm4
            cases cc : cl sg e e0 with
            | true =>
              rw [cc] at ej
              refine iteF ⟨kvs4, zs, hF4, sm', hE4, ?_⟩
              rw [ej]
              simp only [Bool.not_true, Bool.false_eq_true, if_false, List.append_nil]
              exact dpAll_same l4 _ _ hzs
            | false =>
              rw [cc] at ej
              refine iteT ⟨_, rfl, zs, hE4, small1000 (by omega), kvs4, zs ++ [y], hF4.mvd List.mem_cons_self (Ne.symm E2d) (Ne.symm E2c), fun b o m e => by rw [upd_ne (ne_of_none e nE2)]; exact sm' b o m e, upd_same, ?_⟩
              rw [ej, hideF_upd List.mem_cons_self]
              exact dpAll_app (dpAll_same l4 _ _ hzs) (.cons (dp_same (up nE2 sm') _ _ hDy) .nil)
          · rintro H3 ⟨kvs3, zs, hF3, sm3, hE3, hzs⟩
            rw [ly, List.take_length] at hzs
            have lz := dpAll_len hzs
            have lz2 := List.length_filter_le (fun o => !cl sg o e0) es
            refine ⟨_, rfl, .inl ⟨rfl, zs, SqL.of hE3⟩, ⟨_, rfl, E2, zs, z, rfl, rfl, hE3, small1000 (by omega), ?_⟩⟩
            refine ⟨E2, _, _, kvs3, zs ++ [z], _, rfl, frm (hF3.mvd List.mem_cons_self (Ne.symm E2d) (Ne.symm E2c)), fun b o m e => ?_, E2q, upd_same, ?_, by rw [et]; exact outR_put R (fun p hp => by have := (hds p (List.mem_of_mem_take hp)).2; omega) (by omega) ha⟩
            · rw [upd_ne (ne_of_none e E2q)]
              exact ((sm1.trans sm2).trans sm3) b o m e
            · refine dpAll_same (hide_sub fun b hb => List.mem_cons_of_mem E2 hb) _ _ ?_
              rw [hideF_upd List.mem_cons_self]
              exact dpAll_app hzs (.cons (dp_same (up nE2 sm3) _ _ hz2) .nil)
    · rintro σ H' ⟨q, y4, y5, kvs', ys, es, rfl, hF', sm, nq, hq, hys, R⟩
      rw [lx, List.take_length] at R
      exact ⟨_, rfl, good H' kvs' q ys es hF' sm nq hq hys R⟩
set_option maxHeartbeats 1600000 in
theorem ok_closer {f : Addr} {fd : FuncData} {k : Nat} (F : Fun K "closer_parts" "closer_parts" s_closer_parts f fd) (hk : 2 ≤ k) (m_enumerate : mg' "enumerate" = none) (C_counts_less : Own P w K mg' base k "counts_less" ["order", "sign", "one", "other"] (spCn K w C)) (C_is_letter : Own P w K mg' base 1 "is_letter" ["value"] (spIsLetter K)) (C_merged_parts : Own P w K mg' base 1 "merged_parts" ["sign", "parts"] (spMg K)) :
    FnOk P w K mg' base CX0 (k + 1) f fd ["order", "sign", "parts"] (spCo K w C) := by
  refine F.ok sc_closer_parts (fun vs H Q E h => ?_) (fun cdv A0 outer s H vs Q E hr h => ?_)
  · obtain ⟨c, d, p, M, kvs, A, s, xs, ds, rfl, _⟩ := h
    rfl
  · obtain ⟨c, d, p, M, kvs, A, sg, xs, ds, rfl, hF, uA, op, hp, hxs, hds, tk, h2, l24, lA, hw, no, yes⟩ := h
    refine ⟨_, (pss_cons (ps_set (i := 3) sc_closer_parts.nd rfl (by first | exact .inl rfl | exact .inr rfl) (pe_tup (pa_cons (pv 1) (StX.pa_star (pv 2) pa_nil))))
      (pss_cons (ps_for PassesOwn.never rfl (pi_enum (by rfl) m_enumerate (pa_cons (pv 2) pa_nil)) (pg_tup rfl (pgs_cons (pg_name (i := 4) sc_closer_parts.nd rfl (by first | exact .inl rfl | exact .inr rfl)) (pgs_cons (pg_name (i := 5) sc_closer_parts.nd rfl (by first | exact .inl rfl | exact .inr rfl)) pgs_nil)))
        (pss_cons (ps_set (i := 6) sc_closer_parts.nd rfl (by first | exact .inl rfl | exact .inr rfl) (pe_ifExp (pt_val (pe_own C_is_letter (hr.mono (by omega)) (by rfl) (pa_cons (pv 5) pa_nil))) (pe_tup pa_nil) (pe_slice sl_tup (pv 5) (po_some pe_int) po_none)))
        (pss_one (ps_for PassesOwn.never rfl (pi_tup (pv 6)) (pg_name (i := 7) sc_closer_parts.nd rfl (by first | exact .inl rfl | exact .inr rfl))
          (pss_one (ps_if (pt_val (pe_own C_counts_less (hr.mono (by omega)) (by rfl) (pa_cons (pv 0) (pa_cons (pv 1) (pa_cons (pv 7) (pa_cons (pv 3) pa_nil))))))
            (pss_one (ps_ret (pe_own C_merged_parts (hr.mono (by omega)) (by rfl) (pa_cons (pv 1) (pa_cons (pe_lst (StX.pa_star (pe_slice sl_list (pv 2) po_none (po_some (pv 4))) (pa_cons (pv 7) (StX.pa_star (pe_slice sl_list (pv 2) (po_some (pe_op op_add (pv 4) pe_int)) po_none) pa_nil)))) pa_nil)))))
            pss_nil))))))
      (pss_one (ps_ret pe_non)))), ?_⟩
    have lx := dpAll_len hxs
    have lf : ∀ {X Y : Hp}, SmX [d] X Y → Same (hide M X) (hide M Y) := fun z => hF.lft z
    have dw : (wh sg ds).depth ≤ 6 := lmeas_depth 6 (wh sg ds) (lmeas_make op h2 hw)
    obtain ⟨w1, w2⟩ := wh_lm (n := 5) op h2 (by decide) hw
    have w1 : 1 ≤ lmeas 6 (wh sg ds) := w1
    have w9 : lmeas 9 (wh sg ds) = lmeas 6 (wh sg ds) := lmeas_toF w1 (by decide)
    have tw : Tk (wh sg ds) := tk_of (by omega) (by have := lv_lm (d := wh sg ds) (by omega); omega)
    have mW : wh sg ds ∈ wh sg ds :: A := List.mem_cons_self
    have mA : ∀ {x : PyData}, x ∈ A → x ∈ wh sg ds :: A := fun h => List.mem_cons_of_mem _ h
    have uW : Un (wh sg ds :: A) := ⟨fun x hx => by
      rcases List.mem_cons.mp hx with rfl | z
      · exact ⟨tw, kd_meas 7 _ (by rw [lmeas_toF w1 (by decide)]; exact w1), by omega⟩
      · exact uA.tk x z, fun x hx q hq => by
      rcases List.mem_cons.mp hx with rfl | z
      · exact mA (hds q hq).1
      · exact mA (uA.cl x z q hq), by rw [List.length_cons]; omega⟩
    have lds : ds.length ≤ 24 := Nat.le_trans (lvs_len tk) l24
    refine ⟨_, rfl, _, rfl, p, xs, rfl, .inr (hide_same.seq hp), (by show (V.str sg :: (xs ++ [])).length ≤ sizeLine; rw [List.length_cons, List.append_nil]; exact Nat.le_of_lt (small1000 (by omega))), fun T nT => ?_⟩
    show gName 3 (.ref T) (L2.start N_closer_parts [V.ref c, V.str sg, V.ref p]) (upd H T (.tup (V.str sg :: (xs ++ [])))) _
    rw [List.append_nil]
    have s1 := same_upd (o := .tup (V.str sg :: xs)) nT
    obtain ⟨hT, sT⟩ := new_in (o := .tup (V.str sg :: xs)) hF.tr nT
    have hW1 : Dp K (hide M (upd H T (.tup (V.str sg :: xs)))) (.ref T) (wh sg ds) := .tup (SqT.of hT) (.cons (.str _) (dpAll_same sT _ _ hxs))
    have hF1 : FAt K w C M (upd H T (.tup (V.str sg :: xs))) c d kvs (wh sg ds :: A) (wh sg ds :: A) := (hF.same s1).more (fun _ => mA) fun _ => mA
    have hp1 := sT.seq hp
    have hxs1 := dpAll_same sT _ _ hxs
    generalize upd H T (.tup (V.str sg :: xs)) = H1 at *
    have sgl : isL sg = false := by rcases op with rfl | rfl <;> decide +kernel
    refine ⟨_, rfl, p, xs, rfl, hide_same.seq hp1, for_it (walk_enum (xs := xs)) (fun i σ H' => ∃ (y4 y5 y6 y7 : Option V) (kvs' : List NKV), σ = [some (.ref c), some (.str sg), some (.ref p), some (.ref T), y4, y5, y6, y7] ∧ FAt K w C M H' c d kvs' (wh sg ds :: A) (wh sg ds :: A) ∧ SmX [d] H1 H' ∧ ∀ j, j < i → ∀ e, ds[j]? = some e → ∀ q ∈ pts e, cl sg q (wh sg ds) = false) ?_ ?_ ?_ ?_⟩
    · exact ⟨_, _, _, _, kvs, rfl, hF1, SmX.refl _ _, fun j hj => absurd hj (Nat.not_lt_zero _)⟩
    · rintro i σ H' _ ⟨_, _, _, _, _, _, _, sm, _⟩
      exact hide_same.seq ((lf sm).seq hp1)
    · rintro i z σ H' H2 hi ⟨y4, y5, y6, y7, kvs', rfl, hF', sm, hno⟩ ⟨T2, x1, v1, rfl, nT2, rfl, e1, e2⟩
      cases e1
      obtain ⟨e0, he0, hDz⟩ := dpAll_get hxs1 e2
      obtain ⟨me, de⟩ := hds e0 (List.mem_of_getElem? he0)
      have te := tk e0 (List.mem_of_getElem? he0)
      have s2 := same_upd (o := .tup [V.int ((i : Nat) : Int), v1]) nT2
      have hT2 : upd H' T2 (.tup [V.int ((i : Nat) : Int), v1]) T2 = some (.tup [V.int ((i : Nat) : Int), v1]) := upd_same
      have sm2 := sm.trans (SmX.of_same s2)
      have hF2 := hF'.same s2
      generalize upd H' T2 (.tup [V.int ((i : Nat) : Int), v1]) = H2 at *
      refine ⟨T2, [_, _], rfl, .inl (.inl hT2), rfl, _, [_], rfl, _, [], rfl, rfl, ?_⟩
      have hz2 := dp_same (lf sm2) _ _ hDz
      -- the parts of a part
      have inn : ∀ (QQ : VK), (∀ T3 H3 xs3, Same H2 H3 → SqT K (hide M H3) T3 xs3 → DpAll K (hide M H3) xs3 (pts e0) → QQ (.ref T3) H3) → tIf (tB (tCall (spIsLetter K) [] C8.E0 (tCons (tVar 5) tNil))) (tTup tNil) (tSl (rSlT K) (tVar 5) (tPart (tC (.int 1))) tNoPart) [some (.ref c), some (.str sg), some (.ref p), some (.ref T), some (.int ((i : Nat) : Int)), some v1, y6, y7] H2 QQ := fun QQ qq => by
        refine ⟨_, rfl, v1, e0, rfl, dp_same hide_same _ _ hz2, te.gd, _, rfl, ?_⟩
        rcases te.inv with ⟨x, rfl, hx⟩ | ⟨o, es, rfl, hc, _⟩
        · rw [show isLd (.str x) = true from hx]
          refine iteT ⟨(by exact Nat.zero_le _), fun T3 n3 => ?_⟩
          obtain ⟨h3, s3⟩ := new_in (o := .tup []) hF2.tr n3
          exact qq T3 _ [] (same_upd n3) (SqT.of h3) .nil
        · rw [show isLd (.tuple (.str o :: es)) = false from rfl]
          have lo : isL o = false := by
            rcases lmeas_inv te.one with ⟨x, hx, _⟩ | ⟨o', es', hd, _, ho, _⟩
            · cases hx
            · cases hd
              rcases ho with rfl | rfl <;> decide +kernel
          exact iteF (sl_pts (i := 5) rfl hF2.tr hz2 te lo rfl qq)
      refine inn _ fun T3 H3 xs3 s3 hT3 hx3 => ?_
      have hF3 := hF2.same s3
      have sm3 := sm2.trans (SmX.of_same s3)
      have lx3 := dpAll_len hx3
      refine ⟨_, rfl, T3, rfl, ⟨_, same_seqT hide_same hT3⟩, for_it (walk_tup (xs := xs3)) (fun j σ H' => ∃ (y7 : Option V) (kvs' : List NKV), σ = [some (.ref c), some (.str sg), some (.ref p), some (.ref T), some (.int ((i : Nat) : Int)), some v1, some (.ref T3), y7] ∧ FAt K w C M H' c d kvs' (wh sg ds :: A) (wh sg ds :: A) ∧ SmX [d] H3 H' ∧ ∀ q ∈ (pts e0).take j, cl sg q (wh sg ds) = false) ?_ ?_ ?_ ?_⟩
      · exact ⟨_, kvs', rfl, hF3, SmX.refl _ _, fun q hq => by rw [List.take_zero] at hq; cases hq⟩
      · rintro j σ H' _ ⟨_, _, _, _, sm, _⟩
        exact same_seqT ((lf sm).trans hide_same) hT3
      · rintro j y σ Hx H4 hj ⟨y7, kvs4, rfl, hF4, sm4, hq4⟩ ⟨rfl, hy⟩
        obtain ⟨q, hq, hDy⟩ := dpAll_get hx3 hy
        have mq := List.mem_of_getElem? hq
        have pd := pts_depth mq
        have sm14 := sm3.trans sm4
        refine ⟨_, rfl, _, rfl, _, rfl, _, rfl, c, d, M, kvs4, wh sg ds :: A, sg, y, .ref T, q, wh sg ds, rfl, hF4, uW, dp_same (lf sm4) _ _ hDy, dp_same (lf sm14) _ _ hW1, mA (uA.cl e0 me q mq), mW, by omega, fun H5 kvs5 hF5 sm5 => ⟨_, rfl, ?_⟩⟩
        have sm15 := sm14.trans sm5
        cases cc : cl sg q (wh sg ds) with
        | false =>
          refine iteF ⟨_, kvs5, rfl, hF5, sm4.trans sm5, fun r hr => ?_⟩
          rw [List.take_add_one, hq] at hr
          rcases List.mem_append.mp hr with z | z
          · exact hq4 r z
          · rw [show r = q by simpa using z]; exact cc
        | true =>
          refine iteT ⟨_, rfl, _, rfl, _, rfl, (i : Int), rfl, p, xs, rfl, hide_same.seq ((lf sm15).seq hp1), fun L1 nL1 => ?_⟩
          have ec1 : cutV xs none (some ((i : Nat) : Int)) = xs.take i := by
            rw [cut_take _ (Int.natCast_nonneg _), Int.toNat_natCast]
          rw [ec1]
          have s6 := same_upd (o := .lst (xs.take i)) nL1
          have hL1 : upd H5 L1 (.lst (xs.take i)) L1 = some (.lst (xs.take i)) := upd_same
          generalize upd H5 L1 (.lst (xs.take i)) = H6 at s6 hL1
          have sm6 := sm15.trans (SmX.of_same s6)
          refine ⟨L1, xs.take i, rfl, .inr (SqL.of hL1), _, rfl, _, rfl, _, rfl, _, _, rfl, rfl, _, rfl, p, xs, rfl, hide_same.seq ((lf sm6).seq hp1), fun L2 nL2 => ?_⟩
          rw [show cutV xs (some (((i : Nat) : Int) + 1)) none = xs.drop (i + 1) from cut_dropN xs i]
          have s7 := same_upd (o := .lst (xs.drop (i + 1))) nL2
          have hL2 : upd H6 L2 (.lst (xs.drop (i + 1))) L2 = some (.lst (xs.drop (i + 1))) := upd_same
          generalize upd H6 L2 (.lst (xs.drop (i + 1))) = H7 at s7 hL2
          have eL : xs.take i ++ (y :: (xs.drop (i + 1) ++ [])) = xs.take i ++ [y] ++ xs.drop (i + 1) := by rw [List.append_nil, List.append_assoc]; rfl
          refine ⟨L2, xs.drop (i + 1), rfl, .inr (SqL.of hL2), ?_⟩
          show (xs.take i ++ (y :: (xs.drop (i + 1) ++ []))).length ≤ sizeLine ∧ ∀ p2, H7 p2 = none → _
          rw [eL]
          have ll : (xs.take i ++ [y] ++ xs.drop (i + 1)).length ≤ 1000 := by
            rw [List.length_append, List.length_append, List.length_take, List.length_drop, List.length_singleton]
            omega
          refine ⟨Nat.le_trans ll (by rw [sizeLine_eq]; decide), fun L3 nL3 => ?_⟩
          have s8 := same_upd (o := .lst (xs.take i ++ [y] ++ xs.drop (i + 1))) nL3
          have sm7 := sm6.trans (SmX.of_same s7)
          have hF7 := (hF5.same s6).same s7
          obtain ⟨hL3, sL3⟩ := new_in (o := .lst (xs.take i ++ [y] ++ xs.drop (i + 1))) hF7.tr nL3
          have hF8 := hF7.same s8
          have sm8 := sm7.trans (SmX.of_same s8)
          generalize upd H7 L3 (.lst (xs.take i ++ [y] ++ xs.drop (i + 1))) = H8 at *
          have dall : DpAll K (hide M H8) (xs.take i ++ [y] ++ xs.drop (i + 1)) (ds.take i ++ [q] ++ ds.drop (i + 1)) := by
            have hx8 := dpAll_same (lf sm8) _ _ hxs1
            have hy8 : Dp K (hide M H8) y q := dp_same (lf ((sm4.trans sm5).trans ((SmX.of_same (s6.trans (s7.trans s8)))))) _ _ hDy
            have tk' : ∀ (n : Nat) (vs : List V) (es : List PyData), DpAll K (hide M H8) vs es → DpAll K (hide M H8) (vs.take n) (es.take n) ∧ DpAll K (hide M H8) (vs.drop n) (es.drop n) := fun n => by
              induction n with
              | zero => exact fun vs es h => ⟨.nil, h⟩
              | succ n ih =>
                intro vs es h
                cases h with
                | nil => exact ⟨.nil, .nil⟩
                | cons h1 h2 => exact ⟨.cons h1 (ih _ _ h2).1, (ih _ _ h2).2⟩
            exact dpAll_app (dpAll_app (tk' i _ _ hx8).1 (.cons hy8 .nil)) (tk' (i + 1) _ _ hx8).2
          have PW : ∀ e ∈ ds.take i ++ [q] ++ ds.drop (i + 1), Tk e := fun e he => by
            rcases List.mem_append.mp he with z | z
            · rcases List.mem_append.mp z with z | z
              · exact tk e (List.mem_of_mem_take z)
              · rw [List.mem_singleton.mp z]; exact (lv_part te mq).1
            · exact tk e (List.mem_of_mem_drop z)
          have lw : lvs (ds.take i ++ [q] ++ ds.drop (i + 1)) ≤ 600 := by
            have eds : ds = ds.take i ++ e0 :: ds.drop (i + 1) := by
              obtain ⟨l, e⟩ := List.getElem?_eq_some_iff.mp he0
              rw [← e, List.getElem_cons_drop, List.take_append_drop]
            have e1 : lvs ds = lvs (ds.take i) + (lv e0 + lvs (ds.drop (i + 1))) := by
              conv => lhs; rw [eds]
              rw [lvs_app, lvs_cons]
            have := (lv_part te mq).2
            rw [lvs_app, lvs_app, lvs_cons]
            have : lvs ([] : List PyData) = 0 := rfl
            omega
          refine ⟨L3, M, sg, _, _, rfl, hF8.tr, SqL.of hL3, dall, PW, lw, sgl, fun H9 r9 ys9 s9 n9 h9 d9 => ?_⟩
          have sm9 := sm8.trans (SmX.of_same s9)
          have n1 : ∀ {X Y : Hp}, SmX [d] X Y → Y r9 = none → X r9 = none ∨ r9 = d := fun {X Y} z ny => by
            by_cases e : r9 = d
            · exact .inr e
            · left
              cases hh : X r9 with
              | none => rfl
              | some o => rw [z r9 o (fun y => e (List.mem_singleton.mp y)) hh] at ny; cases ny
          have nd9 : r9 ≠ d := fun z => by rw [z, hF8.dc] at n9; cases n9
          have n0 : H r9 = none := ((n1 ((SmX.of_same s1).trans sm8) n9).resolve_right nd9)
          exact yes H9 _ i e0 q r9 ys9 (hF8.same s9) ((SmX.of_same s1).trans sm9) he0 mq cc n0 h9 d9
      · rintro σ H' ⟨y7, kvs4, rfl, hF4, sm4, hq4⟩
        rw [lx3, List.take_length] at hq4
        refine ⟨_, _, _, _, kvs4, rfl, hF4, sm3.trans sm4, fun j hj e hej q hq => ?_⟩
        by_cases hji : j < i
        · exact hno j hji e hej q hq
        · have : j = i := by omega
          subst this
          rw [he0] at hej
          cases hej
          exact hq4 q hq
    · rintro σ H' ⟨y4, y5, y6, y7, kvs', rfl, hF', sm, hno⟩
      rw [lx] at hno
      refine no H' kvs' hF' ((SmX.of_same s1).trans sm) fun e he q hq => ?_
      obtain ⟨j, hj⟩ := List.getElem?_of_mem he
      exact hno j (List.getElem?_eq_some_iff.mp hj).1 e hj q hq
end
end FvF


/-! least -/
namespace FvF
open PySem PySem.Spec PyProof.Rows L2 Fv FvD FvG FvX FvW TL
def spLs (K : PySem.W.Frag) (w : World) (C : Addr) (n : Nat) : Sp := fun vs H Q _ => ∃ (c d : Addr) (M : List Addr) (kvs : List NKV) (A : List PyData) (v : V) (t : PyData), vs = [.ref c, v] ∧ FAt K w C M H c d kvs A A ∧ Un A ∧ Dp K (hide M H) v t ∧ 1 ≤ lmeas n t ∧ n ≤ 5 ∧ Tk t ∧ lv t ≤ 24 ∧ A.length + 40 * lv t ≤ 1200 ∧
  ∀ H' kvs' A' v' F, FAt K w C M H' c d kvs' A' A' → Un A' → (∀ x ∈ A, x ∈ A') → A'.length + 30 ≤ A.length + 40 * lv t → F ∈ A' → Dp K (hide M H') v' F → Lst n F → Tk F → lv F ≤ lv t → lawB F t = true → lawB t F = true → SmX [d] H H' → Q v' H'
theorem ls_zero {P : Program} {w : World} {K : PySem.W.Frag} {mg : Str → Option Value} {base : Heap} {f C : Addr} {fd : FuncData} {k : Nat} {ps : List Str} : FnOk P w K mg base CX0 k f fd ps (spLs K w C 0) := by
  have no : ∀ vs H Q E, ¬ spLs K w C 0 vs H Q E := fun vs H Q E h => by
    obtain ⟨_, _, _, _, _, _, _, _, _, _, _, h1, _⟩ := h
    simp only [lmeas] at h1
    omega
  exact ⟨fun vs H Q E h => absurd h (no vs H Q E), fun A outer s H args us vs Q E _ _ _ _ h => absurd h (no vs H Q E)⟩
theorem un_cons {A : List PyData} {x : PyData} (u : Un A) (t : Tk x) (k : 1 ≤ lmeas 6 x) (p : ∀ q ∈ pts x, q ∈ A) (l : A.length < 1200) : Un (x :: A) := ⟨fun y hy => by
    rcases List.mem_cons.mp hy with rfl | z
    · exact ⟨t, kd_meas 7 _ (by rw [lmeas_toF k (by decide)]; exact k), Nat.le_trans (lmeas_depth 6 _ k) (by decide)⟩
    · exact u.tk y z, fun y hy q hq => by
    rcases List.mem_cons.mp hy with rfl | z
    · exact List.mem_cons_of_mem _ (p q hq)
    · exact List.mem_cons_of_mem _ (u.cl y z q hq), by rw [List.length_cons]; omega⟩
/-- a list of terms and what became of them -/
structure FsR (n : Nat) (A : List PyData) (ds fs : List PyData) : Prop where
  ln : fs.length = ds.length
  at_ : ∀ (i : Nat) (d f : PyData), ds[i]? = some d → fs[i]? = some f → Lst n f ∧ Tk f ∧ f ∈ A ∧ lv f ≤ lv d ∧ lawB f d = true ∧ lawB d f = true
theorem FsR.nil {n : Nat} {A : List PyData} : FsR n A [] [] := ⟨rfl, fun i d f h => by cases h⟩
theorem FsR.snoc {n : Nat} {A A' : List PyData} {ds fs : List PyData} {d f : PyData} (h : FsR n A ds fs) (sub : ∀ x ∈ A, x ∈ A') (g : Lst n f ∧ Tk f ∧ f ∈ A' ∧ lv f ≤ lv d ∧ lawB f d = true ∧ lawB d f = true) : FsR n A' (ds ++ [d]) (fs ++ [f]) := by
  refine ⟨by rw [List.length_append, List.length_append, h.ln]; rfl, fun i d' f' h1 h2 => ?_⟩
  by_cases c : i < ds.length
  · rw [List.getElem?_append_left c] at h1
    rw [List.getElem?_append_left (by rw [h.ln]; exact c)] at h2
    obtain ⟨a, b, c, e⟩ := h.at_ i d' f' h1 h2
    exact ⟨a, b, sub _ c, e⟩
  · have := (List.getElem?_eq_some_iff.mp h1).1
    rw [List.length_append, List.length_singleton] at this
    have e : i = ds.length := by omega
    subst e
    rw [List.getElem?_append_right (Nat.le_refl _), Nat.sub_self] at h1
    rw [List.getElem?_append_right (by rw [h.ln]; exact Nat.le_refl _), h.ln, Nat.sub_self] at h2
    cases h1
    cases h2
    exact g
theorem FsR.mem {n : Nat} {A ds fs : List PyData} (h : FsR n A ds fs) : ∀ f ∈ fs, Lst n f ∧ Tk f ∧ f ∈ A := fun f hf => by
  obtain ⟨i, hi⟩ := List.getElem?_of_mem hf
  have lt : i < ds.length := by rw [← h.ln]; exact (List.getElem?_eq_some_iff.mp hi).1
  obtain ⟨a, b, c, _⟩ := h.at_ i _ f (List.getElem?_eq_getElem lt) hi
  exact ⟨a, b, c⟩
theorem FsR.lvs : ∀ {ds fs : List PyData} {n : Nat} {A : List PyData}, FsR n A ds fs → lvs fs ≤ lvs ds
  | [], [], _, _, _ => Nat.le_refl _
  | [], f :: fs, _, _, h => by have := h.ln; simp at this
  | d :: ds, [], _, _, h => by have := h.ln; simp at this
  | d :: ds, f :: fs, n, A, h => by
    have a := (h.at_ 0 d f rfl rfl).2.2.2.1
    have b := FsR.lvs (ds := ds) (fs := fs) (n := n) (A := A) ⟨by have := h.ln; simpa using this, fun i d' f' h1 h2 => h.at_ (i + 1) d' f' h1 h2⟩
    rw [lvs_cons, lvs_cons]
    omega
section
variable {P : Program} {w : World} {K : PySem.W.Frag} {mg' : Str → Option Value} {base : Heap} {C : Addr}
set_option maxHeartbeats 1600000 in
theorem ok_least {f ft : Addr} {fd : FuncData} {k n : Nat} (F : Fun K "least" "least" s_least f fd) (hk : 53 ≤ k) (m_len : mg' "len" = none) (m_sorted : mg' "sorted" = none) (g_tt : mg' "term_text" = some (.ref ft)) (F_tt : FnR P w K mg' base CX0 21 ft (spText K 10)) (C_is_letter : Own P w K mg' base 1 "is_letter" ["value"] (spIsLetter K)) (C_merged_parts : Own P w K mg' base 1 "merged_parts" ["sign", "parts"] (spMg K))
    (C_outer_parts : Own P w K mg' base 54 "outer_parts" ["order", "sign", "parts"] (spOu K w C)) (C_closer_parts : Own P w K mg' base 54 "closer_parts" ["order", "sign", "parts"] (spCo K w C)) (hk2 : 54 ≤ k) (C_least : Own P w K mg' base k "least" ["order", "term"] (spLs K w C n)) :
    FnOk P w K mg' base CX0 (k + 1) f fd ["order", "term"] (spLs K w C (n + 1)) := by
  refine F.ok sc_least (fun vs H Q E h => ?_) (fun cdv A0 outer s H vs Q E hr h => ?_)
  · obtain ⟨c, d, M, kvs, A, v, t, rfl, _⟩ := h
    rfl
  · obtain ⟨c, d, M, kvs, A, v, t, rfl, hF, uA, hv, lt, n5, tk, l24, lA, good⟩ := h
    refine ⟨_, (pss_cons (ps_if (pt_val (pe_own C_is_letter (hr.mono (by omega)) (by rfl) (pa_cons (pv 1) pa_nil)))
        (pss_one (ps_ret (pv 1)))
        pss_nil)
      (pss_cons (ps_set (i := 2) sc_least.nd rfl (by first | exact .inl rfl | exact .inr rfl) (pe_ix ix_tup (pv 1) pe_int (fun _ _ => rfl)))
      (pss_cons (ps_set (i := 3) sc_least.nd rfl (by first | exact .inl rfl | exact .inr rfl) (pe_own C_merged_parts (hr.mono (by omega)) (by rfl) (pa_cons (pv 2) (pa_cons (pe_lc (own := [("part", 4)]) (g := gName 4) (by rfl) sc_least.nd (pi_tup (pe_slice sl_tup (pv 1) (po_some pe_int) po_none)) (blkOk_by (own := [("part", 4)]) (N := N_least) (sc := defScope s_least) (by decide +kernel)) (fun _ _ _ _ _ => pg_name (i := 4) sc_least.nd rfl (Or.inl rfl)) (fun _ _ _ _ _ => pts_nil) (fun _ _ _ _ _ => (pe_own C_least (hr.mono (by omega)) (by rfl) (pa_cons (pv 0) (pa_cons (pv 4) pa_nil))))) pa_nil))))
      (pss_one (ps_while PassesOwn.never (pt_val pe_bl)
        (pss_cons (ps_set (i := 3) sc_least.nd rfl (by first | exact .inl rfl | exact .inr rfl) (pe_own C_outer_parts (hr.mono (by omega)) (by rfl) (pa_cons (pv 0) (pa_cons (pv 2) (pa_cons (pv 3) pa_nil)))))
        (pss_cons (ps_if (pt_cmpR op_eq (pe_callB call_len_seq (by rfl) m_len (by decide +kernel) (pa_cons (pv 3) pa_nil)) pe_int (nomark _))
          (pss_one (ps_ret (pe_ix ix_list (pv 3) pe_int (fun _ _ => rfl))))
          pss_nil)
        (pss_cons (ps_set (i := 5) sc_least.nd rfl (by first | exact .inl rfl | exact .inr rfl) (pe_own C_closer_parts (hr.mono (by omega)) (by rfl) (pa_cons (pv 0) (pa_cons (pv 2) (pa_cons (pv 3) pa_nil)))))
        (pss_cons (ps_if (pt_cmpR op_isN (pv 5) pe_non (nomark _))
          (pss_one (ps_ret (pe_tup (pa_cons (pv 2) (StX.pa_star (pe_callBK (FvW.call_sortKey F_tt (hr.mono (by omega))) (by rfl) m_sorted (by decide +kernel) (pa_cons (pv 3) pa_nil) (pk_cons (pe_glob (v := .ref ft) (by rfl) g_tt rfl) pk_nil)) pa_nil)))))
          pss_nil)
        (pss_one (ps_set (i := 3) sc_least.nd rfl (by first | exact .inl rfl | exact .inr rfl) (pv 5)))))))))))), ?_⟩
    refine ⟨_, rfl, v, t, rfl, dp_same hide_same _ _ hv, tk.gd, _, rfl, ?_⟩
    have lf : ∀ {X Y : Hp}, SmX [d] X Y → Same (hide M X) (hide M Y) := fun z => hF.lft z
    have lp := lv_pos tk
    rcases lmeas_inv lt with ⟨x, rfl, hx⟩ | ⟨sg, ds, rfl, hnl, op, h2, all1, el⟩
    · rw [show isLd (.str x) = true from hx]
      have l1 : lmeas 6 (.str x) = 1 := by
        show (if isLd (.str x) = true then (1 : Int) else _) = 1
        rw [if_pos (show isLd (.str x) = true from hx)]
      refine iteT ⟨_, rfl, good H kvs (.str x :: A) v (.str x) (hF.more (fun _ h => List.mem_cons_of_mem _ h) fun _ h => List.mem_cons_of_mem _ h) (un_cons uA tk (by omega) (fun q hq => nomatch hq) (by omega)) (fun _ h => List.mem_cons_of_mem _ h) (by rw [List.length_cons]; omega) List.mem_cons_self hv (.inl ⟨x, rfl, hx⟩) tk (Nat.le_refl _) ?_ ?_ (SmX.refl _ _)⟩
      · exact Lw.refl lawB_ok (by simp [PyData.depth])
      · exact Lw.refl lawB_ok (by simp [PyData.depth])
    · rw [hnl]
      have op' : opS sg := op
      have sgl : isL sg = false := by rcases op with rfl | rfl <;> decide +kernel
      obtain ⟨alk, _, elv⟩ := lv_tup tk
      have elv : lv (PyData.tuple (.str sg :: ds)) = lvs ds := elv
      rw [elv] at l24 lA lp good
      cases hv with
      | @tup wa wxs _ hwa hwx =>
      cases hwx with
      | @cons w0 xs _ _ h0 hxs =>
      cases h0
      have lx := dpAll_len hxs
      refine iteF ⟨_, rfl, wa, _, _, _, rfl, rfl, same_seqT hide_same hwa, at0, ?_⟩
      refine ⟨_, rfl, ?_⟩
      have ds0 : 2 ≤ ds.length := h2
      refine sl_pts (i := 1) (y := sg) (l := wh sg ds) rfl hF.tr (.tup hwa (.cons (.str _) hxs)) tk sgl rfl fun T1 H1 xs1 s1 hT1 hx1 => ?_
      have hx1 : DpAll K (hide M H1) xs1 ds := hx1
      have hF1 := hF.same s1
      have lx1 := dpAll_len hx1
      refine ⟨T1, rfl, ⟨_, same_seqT hide_same hT1⟩, fun E1 nE1 => ?_⟩
      have E1d : E1 ≠ d := fun z => by rw [z, hF1.dc] at nE1; cases nE1
      have E1c : E1 ≠ c := fun z => by obtain ⟨dx, e⟩ := hF1.ob; rw [z, e] at nE1; cases nE1
      have E1M : E1 ∉ M := hF1.tr.ne nE1
      have up : ∀ {Y : Hp}, SmX [d] H1 Y → Same (hide M H1) (hide (E1 :: M) Y) := fun {Y} z b o e => by
        obtain ⟨m, e'⟩ := hide_some e
        rw [hide_ne (fun y => by
          rcases List.mem_cons.mp y with y | y
          · rw [y, nE1] at e'; cases e'
          · exact m y)]
        exact (hide_some (lf z _ _ e)).2
      have tkl : ∀ i, lvs (ds.take i) ≤ lvs ds := fun i => lvs_take i
      refine lc_tup (xs := xs1) (fun i H' => ∃ kvs' A' zs fs, FAt K w C (E1 :: M) H' c d kvs' A' A' ∧ Un A' ∧ (∀ x ∈ A, x ∈ A') ∧ A'.length + 30 * i ≤ A.length + 40 * lvs (ds.take i) ∧ SmX [d] H1 H' ∧ H' E1 = some (.lst zs) ∧ DpAll K (hide (E1 :: M) H') zs fs ∧ FsR n A' (ds.take i) fs) ?_ ?_ ?_ ?_
      · have s2 := same_upd (o := .lst []) nE1
        exact ⟨kvs, A, [], [], hF1.go (up (SmX.of_same s2)) (fun o => s2 _ _) (fun o => s2 _ _) (List.mem_cons_of_mem _ hF.dM) (trk_cons hF1.tr s2 upd_same), uA, fun x h => h, Nat.le_add_right _ _, SmX.of_same s2, upd_same, .nil, FsR.nil⟩
      · rintro i H' _ ⟨_, _, _, _, _, _, _, _, sm, _⟩
        exact same_seqT ((lf sm).trans hide_same) hT1
      · rintro i y H' hy ⟨kvs', A', zs, fs, hF', uA', sub, bd, sm, hE, hzs, R⟩
        obtain ⟨e, he, hDy⟩ := dpAll_get hx1 hy
        have me := List.mem_of_getElem? he
        have et : ds.take (i + 1) = ds.take i ++ [e] := by rw [List.take_add_one, he]; rfl
        have lt1 : lvs (ds.take i) + lv e ≤ lvs ds := by
          have := tkl (i + 1)
          rw [et, lvs_app, lvs_cons] at this
          exact this
        refine ⟨rfl, ?_⟩
        dsimp only [tYes]
        rw [if_pos rfl]
        refine ⟨_, rfl, _, rfl, c, d, E1 :: M, kvs', A', y, e, rfl, hF', uA', dp_same (up sm) _ _ hDy, all1 e me, by omega, alk e me, by omega, by omega, fun H4 kvs4 A4 v4 F4 hF4 uA4 sub4 bd4 mF4 hv4 ls4 tk4 lv4 le4 ge4 sm4 => ⟨_, sm4 _ _ (fun z => E1d (List.mem_singleton.mp z)) hE, ?_, kvs4, A4, zs ++ [v4], fs ++ [F4], hF4.mvd List.mem_cons_self (Ne.symm E1d) (Ne.symm E1c), uA4, fun x hx => sub4 x (sub x hx), ?_, fun b o m e => by rw [upd_ne (ne_of_none e nE1)]; exact (sm.trans sm4) b o m e, upd_same, ?_, ?_⟩⟩
        · have := dpAll_len hzs
          have := R.ln
          rw [List.length_take] at this
          have := lvs_len alk
          exact small1000 (by omega)
        · rw [et, lvs_app, lvs_cons]
          have : lvs ([] : List PyData) = 0 := rfl
          omega
        · rw [hideF_upd List.mem_cons_self]
          exact dpAll_app (dpAll_same (hF'.lft sm4) _ _ hzs) (.cons hv4 .nil)
        · rw [et]
          exact R.snoc sub4 ⟨ls4, tk4, mF4, lv4, le4, ge4⟩
      · rintro H2 ⟨kvs2, A2, zs, fs, hF2, uA2, sub2, bd2, sm2, hE2, hzs, R⟩
        rw [lx1, List.take_length] at bd2 R
        have s22 : Same (hide (E1 :: M) H2) (hide M H2) := hide_sub fun b hb => List.mem_cons_of_mem _ hb
        have hF2 := hF2.go s22 (fun o e => e) (fun o e => e) hF.dM (fun b hb => hF2.tr b (List.mem_cons_of_mem _ hb))
        have hzs := dpAll_same s22 _ _ hzs
        have Rm := R.mem
        have Rl := R.lvs
        have td : (wh sg ds).depth ≤ 9 := Nat.le_trans (lmeas_depth (n + 1) _ lt) (by omega)
        have E0 : EqW sg fs (wh sg ds) := EqW.init op' td R.ln fun i a b h1 h2 => by
          obtain ⟨a1, _, _, _, a2, a3⟩ := R.at_ i a b h1 h2
          exact ⟨Nat.le_trans a1.dep (by omega), a2, a3⟩
        have fne : fs ≠ [] := fun z => by have := R.ln; rw [z] at this; simp at this; omega
        obtain ⟨P1, Q1, l1, ne1⟩ := mrg_ok op' (show n ≤ 9 by omega) td (fun f hf => (Rm f hf).1) (fun f hf => (Rm f hf).2.1) E0
        have ne1 := ne1 fne
        have m1 : ∀ x ∈ mrg sg fs, x ∈ A2 := fun x hx => by
          obtain ⟨f, hf, hx⟩ := List.mem_flatMap.mp hx
          unfold mg at hx
          split at hx
          · exact uA2.cl f (Rm f hf).2.2 x hx
          · rw [List.mem_singleton.mp hx]; exact (Rm f hf).2.2
        refine ⟨E1, M, sg, zs, fs, rfl, hF2.tr, SqL.of (by rw [hide_ne E1M]; exact hE2), hzs, fun f hf => (Rm f hf).2.1, by omega, sgl, fun H3 q3 ys3 s3 nq3 hq3 hys3 => ?_⟩
        have hF3 := hF2.same s3
        have sm3 : SmX [d] H H3 := (SmX.of_same s1).trans (sm2.trans (SmX.of_same s3))
        have q3M : q3 ∉ M := hF2.tr.ne nq3
        have bd3 : A2.length + 60 + lvs (mrg sg fs) ≤ A.length + 40 * lvs ds + 24 := by omega
        have le3 : lvs (mrg sg fs) ≤ lvs ds := by omega
        generalize mrg sg fs = es3 at *
        clear hzs hE2 Rm Rl R E0 fne bd2
        refine ⟨fun m σ H' => ∃ (p : Addr) (y4 y5 : Option V) (kvs' : List NKV) (A' : List PyData) (ys : List V) (es : List PyData), σ = [some (.ref c), some (.ref wa), some (.str sg), some (.ref p), y4, y5] ∧ m = lvs es ∧ FAt K w C M H' c d kvs' A' A' ∧ Un A' ∧ (∀ x ∈ A, x ∈ A') ∧ A'.length + 60 + lvs es ≤ A.length + 40 * lvs ds + 24 ∧ PtW n sg es ∧ EqW sg es (wh sg ds) ∧ lvs es ≤ lvs ds ∧ es ≠ [] ∧ (∀ x ∈ es, x ∈ A') ∧ SqL K (hide M H') p ys ∧ DpAll K (hide M H') ys es ∧ SmX [d] H H', ⟨_, q3, _, _, kvs2, A2, ys3, es3, rfl, rfl, hF3, uA2, sub2, bd3, P1, Q1, le3, ne1, m1, SqL.of (by rw [hide_ne q3M]; exact hq3), hys3, sm3⟩, ?_⟩
        clear hF3 sm3 q3M bd3 le3 ne1 m1 P1 Q1 hq3 hys3 nq3 hF2 uA2 sub2
        rintro m σ H4 ⟨p, y4, y5, kvs4, A4, ys, es, rfl, rfl, hF4, uA4, sub4, bd4, P4, Q4, le4, ne4, m4, hp4, hys4, sm4⟩
        have d5 : ∀ x ∈ es, x.depth ≤ 5 := fun x hx => Nat.le_trans (P4.ls x hx).dep (by omega)
        have ly4 := lvs_len P4.tk
        refine ⟨_, rfl, iteT ⟨fun σ' H' => ∃ m', m' < lvs es ∧ _, fun σ' H' h => h, ?_⟩⟩
        refine ⟨_, rfl, _, rfl, _, rfl, c, d, p, M, kvs4, A4, sg, ys, es, rfl, hF4, uA4, hp4, hys4, (fun x hx => ⟨m4 x hx, d5 x hx⟩), by omega, fun H5 kvs5 q5 ys5 es5 hF5 sm5 nq5 hq5 hys5 R5 => ?_⟩
        obtain ⟨P5, Q5, ne5⟩ := R5.ok (show n ≤ 9 by omega) P4 Q4
        have ne5 := ne5 ne4
        have l5 := R5.lvs
        have an5 := R5.an
        have m5 : ∀ x ∈ es5, x ∈ A4 := fun x hx => m4 x (R5.sub x hx)
        have d5' : ∀ x ∈ es5, x.depth ≤ 5 := fun x hx => d5 x (R5.sub x hx)
        have ly5 := dpAll_len hys5
        have q5M : q5 ∉ M := hF4.tr.ne nq5
        have sm45 := sm4.trans sm5
        have ls5 := lvs_len P5.tk
        refine ⟨_, rfl, q5, ys5, rfl, .inl (SqL.of hq5), rfl, _, rfl, ?_⟩
        refine ite2 (fun c1 => ?_) (fun c1 => ?_)
        · -- one part is left
          have e1 : ys5.length = 1 := by
            have := of_decide_eq_true c1
            injection this with this
            omega
          match es5, ys5, hys5, ly5 with
          | [F5], [v5], hys5, _ =>
            cases hys5 with
            | cons hv5 _ =>
            have mF := List.mem_singleton.mpr (rfl : F5 = F5)
            have b := end_one (Nat.le_trans (d5' F5 mF) (by decide)) Q5
            have lF : lv F5 ≤ lvs ds := by
              have : lvs [F5] = lv F5 := by rw [lvs_cons]; rfl
              omega
            exact ⟨_, rfl, q5, [v5], 0, v5, rfl, rfl, SqL.of hq5, at0, good H5 kvs5 A4 v5 F5 hF5 uA4 sub4 (by omega) (m5 F5 mF) hv5 (P5.ls F5 mF).up (P5.tk F5 mF) lF b.1 b.2 sm45⟩
          | [], _, _, _ => exact absurd rfl ne5
          | _ :: _ :: _, [], h, _ => cases h
          | _ :: _ :: _, [_], h, _ => cases h with | cons _ h => cases h
          | [_], [], h, _ => cases h
          | [_], _ :: _ :: _, h, _ => cases h with | cons _ h => cases h
        · have two : 2 ≤ es5.length := by
            have : es5.length ≠ 0 := fun z => ne5 (List.length_eq_zero_iff.mp z)
            have : ys5.length ≠ 1 := fun z => c1 (by rw [z]; exact decide_eq_true rfl)
            omega
          have lm5 : ∀ x ∈ es5, 1 ≤ lmeas 5 x := fun x hx => by
            have := (P5.ls x hx).meas
            rw [lmeas_toF this (show n ≤ 5 by omega)]; exact this
          refine ⟨_, rfl, _, rfl, _, rfl, c, d, q5, M, kvs5, A4, sg, ys5, es5, rfl, hF5, uA4, op', SqL.of (by rw [hide_ne q5M]; exact hq5), hys5, (fun x hx => ⟨m5 x hx, d5' x hx⟩), P5.tk, two, by omega, by omega, lm5, fun H6 kvs6 hF6 sm6 pc6 => ?_, fun H6 kvs6 i6 p6 q6 r6 ys6 hF6 sm6 hp6 hq6 cc6 nr6 hr6 hys6 => ?_⟩
          · -- nothing is closer
            refine ⟨_, rfl, rfl, _, rfl, ?_⟩
            have hq6 : H6 q5 = some (.lst ys5) := sm6 q5 _ (fun z => q5M (by rw [List.mem_singleton.mp z]; exact hF.dM)) hq5
            have hys6 := dpAll_same (lf sm6) _ _ hys5
            refine iteT ⟨_, rfl, _, rfl, q5, ys5, es5.map txt, rfl, rfl, SqL.of hq6, by rw [List.length_map]; exact ly5.symm, fun i y x hy0 hx0 H7 s7 R hR => ?_, fun ps H7 q7 hpm hsr s7 nq7 hq7 => ?_⟩
            · obtain ⟨e, he, hDe⟩ := dpAll_get hys6 hy0
              rw [List.getElem?_map, he] at hx0
              obtain rfl : txt e = x := Option.some.inj hx0
              have te := P5.tk e (List.mem_of_getElem? he)
              exact ⟨y, e, 9, rfl, dp_same s7 _ _ (dp_same hide_same _ _ hDe), te.gd, by decide, te.one, by have := te.top; omega, hR⟩
            · obtain ⟨es7, p1, p2⟩ := perm_pair hpm (zip_txt hys6)
              obtain ⟨b1, b2⟩ := zip_back p2
              have srt : sortedS (es7.map txt) = true := by rw [b2]; exact hsr
              obtain ⟨L8, le8, ge8, lv8⟩ := end_all op' (show n + 1 ≤ 9 by omega) td two P5 Q5 an5 pc6 p1 srt
              have hF7 := hF6.same s7
              have b7 := dpAll_same (SmX.of_same (M := M) s7).hid _ _ b1
              refine ⟨q7, ps.map (·.2), rfl, .inr (SqL.of hq7), ?_⟩
              show (V.str sg :: (ps.map (·.2) ++ [])).length ≤ sizeLine ∧ ∀ T8, H7 T8 = none → _
              rw [List.append_nil]
              have l7 := dpAll_len b7
              have l7' := p1.length_eq
              refine ⟨by rw [List.length_cons, l7]; exact Nat.le_of_lt (small1000 (by omega)), fun T8 nT8 => ?_⟩
              have s8 := same_upd (o := .tup (V.str sg :: ps.map (·.2))) nT8
              obtain ⟨hT8, sT8⟩ := new_in (o := .tup (V.str sg :: ps.map (·.2))) hF7.tr nT8
              have hF8 := hF7.same s8
              have sm8 := sm45.trans (sm6.trans (SmX.of_same (s7.trans s8)))
              have dF : Dp K (hide M (upd H7 T8 (.tup (V.str sg :: ps.map (·.2))))) (.ref T8) (wh sg es7) := .tup (SqT.of hT8) (.cons (.str _) (dpAll_same sT8 _ _ b7))
              have Lm := L8.meas
              have L9 : 1 ≤ lmeas 9 (PyData.tuple (.str sg :: es7)) := by
                have := lmeas_toF (m := 9) Lm (by omega)
                rw [show lmeas 9 (PyData.tuple (.str sg :: es7)) = lmeas (n + 1) (wh sg es7) from this]
                exact Lm
              have L6 : 1 ≤ lmeas 6 (PyData.tuple (.str sg :: es7)) := by
                have := lmeas_toF (m := 6) Lm (by omega)
                rw [show lmeas 6 (PyData.tuple (.str sg :: es7)) = lmeas (n + 1) (wh sg es7) from this]
                exact Lm
              have lv8 : lv (PyData.tuple (.str sg :: es7)) = lvs es5 := lv8
              have tF : Tk (PyData.tuple (.str sg :: es7)) := tk_of L9 (by have := lv_lm L9; omega)
              have uF := un_cons (x := PyData.tuple (.str sg :: es7)) uA4 tF L6 (fun q hq => m5 q (p1.mem_iff.mp hq)) (by omega)
              have dW : 1 ≤ lmeas 6 (PyData.tuple (.str sg :: es5)) := lmeas_make op' two lm5
              have eW := wh_lm (n := 5) op' two (by decide) lm5
              have W9 : 1 ≤ lmeas 9 (PyData.tuple (.str sg :: es5)) := by
                rw [show lmeas 9 (PyData.tuple (.str sg :: es5)) = lmeas 6 (PyData.tuple (.str sg :: es5)) from lmeas_toF dW (by decide)]
                exact dW
              have eW2 : lv (PyData.tuple (.str sg :: es5)) = lvs es5 := eW.2
              have tW : Tk (PyData.tuple (.str sg :: es5)) := tk_of W9 (by have := lv_lm W9; omega)
              have uW := un_cons (x := PyData.tuple (.str sg :: es5)) uF tW dW (fun q hq => List.mem_cons_of_mem _ (m5 q hq)) (by rw [List.length_cons]; omega)
              have inc : ∀ x ∈ wh sg es5 :: A4, x ∈ wh sg es5 :: wh sg es7 :: A4 := fun x hx => by
                rcases List.mem_cons.mp hx with z | z
                · rw [z]; exact List.mem_cons_self
                · exact List.mem_cons_of_mem _ (List.mem_cons_of_mem _ z)
              exact good _ kvs6 (wh sg es5 :: wh sg es7 :: A4) _ _ (hF8.more inc inc) uW (fun x hx => List.mem_cons_of_mem _ (List.mem_cons_of_mem _ (sub4 x hx))) (by rw [List.length_cons, List.length_cons]; omega) (List.mem_cons_of_mem _ List.mem_cons_self) dF L8 tF (by omega) le8 ge8 sm8
          · obtain ⟨a1, Q6, l6⟩ := clo_ok op' (show n + 1 ≤ 9 by omega) td two P5 Q5 hp6 hq6 cc6
            obtain ⟨P7, Q7, l7, ne7⟩ := mrg_ok op' (show n ≤ 9 by omega) td (fun x hx => (a1 x hx).1) (fun x hx => (a1 x hx).2) Q6
            refine ⟨_, rfl, rfl, _, rfl, ?_⟩
            rw [decide_eq_false (show ¬ V.ref r6 = V.non from fun z => by cases z)]
            have dW : 1 ≤ lmeas 6 (PyData.tuple (.str sg :: es5)) := lmeas_make op' two lm5
            have eW := wh_lm (n := 5) op' two (by decide) lm5
            have W9 : 1 ≤ lmeas 9 (PyData.tuple (.str sg :: es5)) := by
              rw [show lmeas 9 (PyData.tuple (.str sg :: es5)) = lmeas 6 (PyData.tuple (.str sg :: es5)) from lmeas_toF dW (by decide)]
              exact dW
            have eW2 : lv (PyData.tuple (.str sg :: es5)) = lvs es5 := eW.2
            have tW : Tk (PyData.tuple (.str sg :: es5)) := tk_of W9 (by have := lv_lm W9; omega)
            have uW := un_cons (x := PyData.tuple (.str sg :: es5)) uA4 tW dW (fun q hq => m5 q hq) (by omega)
            have sm46 := sm45.trans sm6
            have r6M : r6 ∉ M := hF5.tr.ne nr6
            have memA : ∀ x ∈ mrg sg (es5.take i6 ++ [q6] ++ es5.drop (i6 + 1)), x ∈ wh sg es5 :: A4 := fun x hx => by
              refine List.mem_cons_of_mem _ ?_
              obtain ⟨f, hf, hx⟩ := List.mem_flatMap.mp hx
              have mf : f ∈ A4 := by
                rcases List.mem_append.mp hf with z | z
                · rcases List.mem_append.mp z with z | z
                  · exact m5 f (List.mem_of_mem_take z)
                  · rw [List.mem_singleton.mp z]; exact uA4.cl p6 (m5 p6 (List.mem_of_getElem? hp6)) q6 hq6
                · exact m5 f (List.mem_of_mem_drop z)
              unfold mg at hx
              split at hx
              · exact uA4.cl f mf x hx
              · rw [List.mem_singleton.mp hx]; exact mf
            refine iteF ⟨_, rfl, _, ?_, r6, _, _, kvs6, wh sg es5 :: A4, ys6, _, rfl, rfl, hF6, uW, fun x hx => List.mem_cons_of_mem _ (sub4 x hx), ?_, P7, Q7, by omega, ne7 (by simp), memA, SqL.of (by rw [hide_ne r6M]; exact hr6), hys6, sm46⟩
            · omega
            · rw [List.length_cons]
              omega
end
end FvF


/-! least_form, is_least -/
namespace FvF
open PySem PySem.Spec PyProof.Rows L2 Fv FvD FvG FvX FvW TL
/-- a term and its least form -/
structure LfR (d F : PyData) : Prop where
  ls : Lst 5 F
  tk : Tk F
  tm : tmB F = true
  lvl : lv F ≤ lv d
  le : lawB F d = true
  ge : lawB d F = true
theorem LfR.uniq {d e F G : PyData} (h : LfR d F) (g : LfR e G) (td : tmB d = true) (te : tmB e = true) (h1 : lawB d e = true) (h2 : lawB e d = true) : F = G := by
  have a := depth_tm td
  have b := depth_tm te
  have c := h.ls.dep
  have e' := g.ls.dep
  refine lst_uniq 5 (by decide) F G h.ls g.ls h.tk g.tk ?_ ?_
  · exact Lw.trans lawB_ok 59 (Nat.le_refl _) F e G (by omega) (Lw.trans lawB_ok 59 (Nat.le_refl _) F d e (by omega) h.le h1) g.ge
  · exact Lw.trans lawB_ok 59 (Nat.le_refl _) G d F (by omega) (Lw.trans lawB_ok 59 (Nat.le_refl _) G e d (by omega) g.le h2) h.ge
theorem LfR.self {d F : PyData} (h : LfR d F) : LfR F F := ⟨h.ls, h.tk, h.tm, Nat.le_refl _, Lw.refl lawB_ok (by have := h.ls.dep; omega), Lw.refl lawB_ok (by have := h.ls.dep; omega)⟩
theorem LfR.idem {d F G : PyData} (h : LfR d F) (g : LfR F G) : G = F := g.uniq h.self h.tm h.tm h.self.le h.self.le
def spLF (K : PySem.W.Frag) (CT : Addr) : Sp := fun vs H Q E => ∃ (v : V) (d : PyData), vs = [v] ∧ Dp K H v d ∧ gd 20 d = true ∧ (tmB d = false → errAt CT "InvalidTerm" H E) ∧ (tmB d = true → ∀ H' v' F, Same H H' → Dp K H' v' F → LfR d F → Q v' H')
def spIL (K : PySem.W.Frag) (CT : Addr) : Sp := fun vs H Q E => ∃ (v : V) (d : PyData), vs = [v] ∧ Dp K H v d ∧ gd 20 d = true ∧ (tmB d = false → errAt CT "InvalidTerm" H E) ∧ (tmB d = true → ∀ H' F, Same H H' → LfR d F → Q (.bl (PyData.eqv F d)) H')
section
variable {P : Program} {w : World} {K : PySem.W.Frag} {mg' : Str → Option Value} {base : Heap} {C CT : Addr}
theorem ok_least_form {f : Addr} {fd : FuncData} {k : Nat} (F : Fun K "least_form" "least_form" s_least_form f fd) (hk : 61 ≤ k) (C_checked_term : OwnR P w K mg' base 27 "checked_term" (spChecked K CT)) (Mk_FreeOrder : C8.Mak P w K mg' base 1 "FreeOrder" C (spFi K w C) []) (C_least : Own P w K mg' base 60 "least" ["order", "term"] (spLs K w C 5)) :
    FnOk P w K mg' base (L2.CX P w) (k + 1) f fd ["term"] (spLF K CT) := by
  refine F.okX sc_least_form (fun vs H Q E h => ?_) (fun cdv A0 outer s H vs Q E hr h => ?_)
  · obtain ⟨v, t, rfl, _⟩ := h
    rfl
  · obtain ⟨v, t, rfl, hv, gt, er, good⟩ := h
    refine ⟨_, (pss_one (ps_ret (pe_own C_least (hr.mono (by omega)) (by rfl) (pa_cons (pe_mk0 Mk_FreeOrder hr (by omega) (by rfl)) (pa_cons (pe_ownR C_checked_term (hr.mono (by omega)) (by rfl) passX (pa_cons (pv 0) pa_nil)) pa_nil))))), ?_⟩
    intro x dx nx ndx ne
    have sm0 := made (C := C) nx ndx
    refine ⟨x, dx, rfl, upd_same, fun H1 d hF nd sm => ⟨rfl, _, rfl, v, t, rfl, ?_⟩⟩
    have d0 : H d = none := by
      cases e : H d with
      | none => rfl
      | some o => rw [sm0 _ _ e] at nd; cases nd
    have s1 : Same H H1 := fun b o e => sm b o (fun z => ne_of_none e nx (List.mem_singleton.mp z)) (sm0 _ _ e)
    refine ⟨dp_same s1 _ _ hv, gt, fun tm H2 s2 => ?_, fun tm => (er tm).mono s1⟩
    have sh : Same H (hide [d] H2) := fun b o e => by
      rw [hide_ne (fun z => ne_of_none e d0 (List.mem_singleton.mp z))]
      exact s2 _ _ (s1 _ _ e)
    have tt := (tmB_iff t).mp tm
    have l5 : lv t = (lmeas 5 t).toNat := by unfold lv; rw [lmeas_toF tt.1 (by decide)]
    refine ⟨x, d, [d], [], [], v, t, rfl, (hF _ _).same s2, ⟨(fun x hx => nomatch hx), (fun x hx => nomatch hx), Nat.zero_le _⟩, dp_same sh _ _ hv, tt.1, by decide, tk_tm tm, by omega, by show 0 + 40 * lv t ≤ 1200; omega, fun H3 kvs3 A3 v3 F3 hF3 uA3 sub3 bd3 mF3 hv3 ls3 tk3 lv3 le3 ge3 sm3 => ?_⟩
    refine good tm H3 v3 F3 (fun b o e => (hide_some (dp_hid sm3 sh b o e)).2) (dp_same hide_same _ _ hv3) ⟨ls3, tk3, (tmB_iff F3).mpr ⟨ls3.meas, ?_⟩, lv3, le3, ge3⟩
    have l6 : lv F3 = (lmeas 5 F3).toNat := by unfold lv; rw [lmeas_toF ls3.meas (by decide)]
    omega
end
end FvF


namespace Fv
open PySem PySem.Spec PyProof.Rows L2 FvX TL
/-! ### truth under a case -/
def tOr (dec : Bool) (vs : List (Option Bool)) : Option Bool := if some dec ∈ vs then some dec else if none ∈ vs then none else some (!dec)
def isBar : PyData → Bool
  | .str s => decide (s = "|")
  | _ => false
def tru (cs : Str → Option Bool) : Nat → PyData → Option Bool
  | 0, _ => none
  | _ + 1, .str x => cs x
  | n + 1, .tuple (o :: ds) => tOr (isBar o) (ds.map (tru cs n))
  | _ + 1, _ => none
def oV : Option Bool → V
  | none => .non
  | some b => .bl b
theorem inV_bl (b : Bool) : ∀ vs : List (Option Bool), inV (.bl b) (vs.map oV) = decide (some b ∈ vs)
  | [] => rfl
  | v :: vs => by
    have ih := inV_bl b vs
    unfold inV at ih ⊢
    rw [List.map_cons, List.any_cons, ih]
    cases v with
    | none => simp [oV, eqV]
    | some c => cases b <;> cases c <;> simp [oV, eqV]
theorem inV_non : ∀ vs : List (Option Bool), inV .non (vs.map oV) = decide (none ∈ vs)
  | [] => rfl
  | v :: vs => by
    have ih := inV_non vs
    unfold inV at ih ⊢
    rw [List.map_cons, List.any_cons, ih]
    cases v with
    | none => simp [oV, eqV]
    | some c => simp [oV, eqV]
theorem flat_oV (vs : List (Option Bool)) : (vs.map oV).all flatV = true := by
  rw [List.all_map]
  exact List.all_eq_true.mpr fun v _ => by cases v <;> rfl
theorem flat_o (v : Option Bool) : flatV (oV v) = true := by cases v <;> rfl



def caseOf (kvs : List (Key × V)) (cs : Str → Option Bool) : Prop := ∀ x, valV kvs (Sum.inr x) = (cs x).map V.bl
def spTru (K : PySem.W.Frag) (n : Nat) : Sp := fun vs H Q _ => ∃ (v : V) (c : Addr) (d : PyData) (m : Nat) (kvs : List (Key × V)) (cs : Str → Option Bool), vs = [v, .ref c] ∧ Dp K H v d ∧ gd 20 d = true ∧ m < n ∧ 1 ≤ lmeas m d ∧ H c = some (.dK kvs) ∧ caseOf kvs cs ∧
  ∀ H', Same H H' → Q (oV (tru cs m d)) H'
def spTruth (K : PySem.W.Frag) (CT : Addr) : Sp := fun vs H Q E => ∃ (v : V) (c : Addr) (d : PyData) (kvs : List (Key × V)) (cs : Str → Option Bool), vs = [v, .ref c] ∧ Dp K H v d ∧ gd 20 d = true ∧ H c = some (.dK kvs) ∧ caseOf kvs cs ∧
  ((meas 9 d 600).isSome = true → ∀ H', Same H H' → Q (oV (tru cs 9 d)) H') ∧ (meas 9 d 600 = none → errAt CT "InvalidTerm" H E)
theorem getD_case {kvs : List (Key × V)} {cs : Str → Option Bool} (h : caseOf kvs cs) (x : Str) : (valV kvs (Sum.inr x)).getD .non = oV (cs x) := by
  rw [h x]
  cases cs x <;> rfl
theorem bar_dec (o : Str) : decide (V.str o = V.str "|") = isBar (.str o) := by
  show _ = decide (o = "|")
  rw [Bool.eq_iff_iff, decide_eq_true_eq, decide_eq_true_eq]
  exact ⟨V.str.inj, congrArg V.str⟩
/-- the last two statements of a truth -/
theorem tOr_eq (dec : Bool) (vs : List (Option Bool)) : tOr dec vs = if some dec ∈ vs then some dec else if none ∈ vs then none else some (!dec) := rfl
theorem any_dec (dec : Bool) (vs : List (Option Bool)) : (vs.map fun v => !decide (oV v = V.non) && decide (oV v = V.bl dec)).any id = decide (some dec ∈ vs) := by
  induction vs with
  | nil => rfl
  | cons v vs ih =>
    rw [List.map_cons, List.any_cons, ih]
    cases v with
    | none => simp [oV]
    | some c => cases dec <;> cases c <;> simp [oV]
theorem any_isN (vs : List (Option Bool)) : (vs.map fun v => decide (oV v = V.non)).any id = decide (none ∈ vs) := by
  induction vs with
  | nil => rfl
  | cons v vs ih =>
    rw [List.map_cons, List.any_cons, ih]
    cases v <;> simp [oV]
section
variable {P : Program} {w : World} {K : PySem.W.Frag} {mg : Str → Option Value} {base : Heap} {CT : Addr}
theorem tru_zero {f : Addr} {fd : FuncData} {k : Nat} {ps : List Str} : FnOk P w K mg base CX0 k f fd ps (spTru K 0) := by
  have no : ∀ vs H Q E, ¬ spTru K 0 vs H Q E := fun vs H Q E h => by
    obtain ⟨v, c, d, m, kvs, cs, _, _, _, h, _⟩ := h
    omega
  exact ⟨fun vs H Q E h => absurd h (no vs H Q E), fun A outer s H args us vs Q E _ _ _ _ h => absurd h (no vs H Q E)⟩
end
end Fv


namespace Fv
open PySem PySem.Spec PyProof.Rows L2 FvX
/-! ### dicts from texts to truth values -/
def kvB (ps : List (Str × Bool)) : List (Key × V) := ps.map fun p => (Sum.inr p.1, V.bl p.2)
def csB (ps : List (Str × Bool)) (x : Str) : Option Bool := (ps.find? fun p => decide (p.1 = x)).map (·.2)
theorem putK_newQ {kvs : List (Key × V)} {k : Key} {v : V} (h : ∀ kv ∈ kvs, kv.1 ≠ k) : putK kvs k v = kvs ++ [(k, v)] := by
  unfold putK
  rw [if_neg]
  intro z
  rw [List.any_eq_true] at z
  obtain ⟨kv, hk, e⟩ := z
  exact h kv hk (of_decide_eq_true e)
theorem merge_app : ∀ (more kvs : List (Key × V)), ((kvs ++ more).map (·.1)).Nodup → mergeK kvs more = kvs ++ more
  | [], kvs, _ => by rw [List.append_nil]; rfl
  | kv :: more, kvs, h => by
    have e : mergeK kvs (kv :: more) = mergeK (putK kvs kv.1 kv.2) more := rfl
    have h' : (((kvs ++ [kv]) ++ more).map (·.1)).Nodup := by rw [List.append_assoc]; exact h
    rw [e, putK_newQ, merge_app more (kvs ++ [kv]) h', List.append_assoc]
    · rfl
    · intro p hp z
      rw [List.map_append, List.map_cons] at h
      have := (List.nodup_append.mp h).2.2 p.1 (List.mem_map.mpr ⟨p, hp, rfl⟩) kv.1 (List.mem_cons_self ..)
      exact this z
theorem kvB_nodup {ps : List (Str × Bool)} (h : (ps.map (·.1)).Nodup) : ((kvB ps).map (·.1)).Nodup := by
  unfold kvB
  rw [List.map_map]
  have e : ps.map ((fun x : Key × V => x.1) ∘ fun p : Str × Bool => (Sum.inr p.1, V.bl p.2)) = (ps.map (·.1)).map (fun x => (Sum.inr x : Key)) := by
    rw [List.map_map]; rfl
  rw [e]
  exact List.Pairwise.map _ (fun a b hab z => hab (Sum.inr.inj z)) h
theorem merge_kvB {ps : List (Str × Bool)} (h : (ps.map (·.1)).Nodup) : mergeK [] (kvB ps) = kvB ps := by
  rw [merge_app _ _ (by rw [List.nil_append]; exact kvB_nodup h), List.nil_append]
theorem val_kvB : ∀ (ps : List (Str × Bool)) (x : Str), valV (kvB ps) (Sum.inr x) = (csB ps x).map V.bl
  | [], x => rfl
  | p :: ps, x => by
    have ih := val_kvB ps x
    unfold valV csB kvB at ih ⊢
    rw [List.map_cons, List.find?_cons, List.find?_cons]
    by_cases e : p.1 = x
    · rw [show decide ((Sum.inr p.1 : Key) = Sum.inr x) = true from decide_eq_true (congrArg _ e), decide_eq_true e]
      rfl
    · rw [show decide ((Sum.inr p.1 : Key) = Sum.inr x) = false from decide_eq_false (fun z => e (Sum.inr.inj z)), decide_eq_false e]
      exact ih
theorem cs_mem : ∀ {ps : List (Str × Bool)}, (ps.map (·.1)).Nodup → ∀ p ∈ ps, csB ps p.1 = some p.2
  | q :: ps, h, p, hp => by
    rw [List.map_cons, List.nodup_cons] at h
    unfold csB
    rw [List.find?_cons]
    rcases List.mem_cons.mp hp with e | e
    · subst e
      rw [decide_eq_true rfl]
      rfl
    · rw [decide_eq_false (fun z : q.1 = p.1 => h.1 (by rw [z]; exact List.mem_map.mpr ⟨p, e, rfl⟩))]
      exact cs_mem h.2 p e
theorem kvB_all {ps : List (Str × Bool)} (h : (ps.map (·.1)).Nodup) : ∀ p ∈ kvB ps, valV (kvB ps) p.1 = some p.2 ∧ flatB p.2 = true := fun p hp => by
  obtain ⟨q, hq, rfl⟩ := List.mem_map.mp hp
  exact ⟨by rw [val_kvB, cs_mem h q hq]; rfl, rfl⟩
/-! ### pairs that stay -/
theorem paired_smx {M : List Addr} {H H' : Hp} (s : SmX M H H') (hM : ∀ b ∈ M, ∃ xs, H b = some (.lst xs)) : ∀ {ps : List Addr} {kvs : List (Key × V)}, Paired (fun p kv => H p = some (.tup [kV kv.1, kv.2])) ps kvs → Paired (fun p kv => H' p = some (.tup [kV kv.1, kv.2])) ps kvs
  | _, _, .nil => .nil
  | _, _, .cons h t => .cons (s _ _ (fun hb => by
      obtain ⟨xs, e⟩ := hM _ hb
      rw [h] at e
      cases e) h) (paired_smx s hM t)
theorem paired_sqT {K : PySem.W.Frag} {H : Hp} : ∀ {ps : List Addr} {kvs : List (Key × V)}, Paired (fun p kv => H p = some (.tup [kV kv.1, kv.2])) ps kvs → Paired (fun p kv => SqT K H p [kV kv.1, kv.2]) ps kvs
  | _, _, .nil => .nil
  | _, _, .cons h t => .cons (SqT.of h) (paired_sqT t)
theorem paired_len {α β : Type} {F : α → β → Prop} : ∀ {ps : List α} {kvs : List β}, Paired F ps kvs → ps.length = kvs.length
  | _, _, .nil => rfl
  | _, _, .cons _ t => by rw [List.length_cons, List.length_cons, paired_len t]
/-! ### rows of texts -/
theorem lett_strs0 : ∀ {ys : List V}, (∀ y ∈ ys, lett y) → ∃ ss : List Str, ys = ss.map V.str ∧ ∀ x ∈ ss, x ∈ (["a", "b", "c", "d", "e", "f", "g", "h"] : List Str)
  | [], _ => ⟨[], rfl, fun x hx => nomatch hx⟩
  | y :: ys, h => by
    obtain ⟨x, rfl, hx⟩ := lett_data (h y (List.mem_cons_self ..))
    obtain ⟨ss, e, hs⟩ := lett_strs0 fun z hz => h z (List.mem_cons_of_mem _ hz)
    refine ⟨x :: ss, by rw [e]; rfl, fun z hz => ?_⟩
    rcases List.mem_cons.mp hz with q | q
    · rw [q]; exact hx
    · exact hs z q
theorem lett_strs {ys : List V} (h : ∀ y ∈ ys, lett y) (nd : ys.Nodup) : ∃ ss : List Str, ys = ss.map V.str ∧ ss.Nodup ∧ ∀ x ∈ ss, x ∈ (["a", "b", "c", "d", "e", "f", "g", "h"] : List Str) := by
  obtain ⟨ss, e, hs⟩ := lett_strs0 h
  refine ⟨ss, e, ?_, hs⟩
  rw [e] at nd
  exact List.Pairwise.of_map V.str (fun a b hab z => hab (congrArg V.str z)) nd
theorem inV_strs (x : Str) : ∀ ss : List Str, inV (.str x) (ss.map V.str) = decide (x ∈ ss)
  | [] => rfl
  | s :: ss => by
    have ih := inV_strs x ss
    unfold inV at ih ⊢
    rw [List.map_cons, List.any_cons, ih]
    show ((s == x) || decide (x ∈ ss)) = decide (x ∈ s :: ss)
    by_cases e : s = x
    · subst e; simp
    · have e1 : (s == x) = false := beq_eq_false_iff_ne.mpr e
      rw [e1, Bool.false_or]
      simp [List.mem_cons, show ¬ x = s from fun z => e z.symm]
theorem flat_strs (ss : List Str) : (ss.map V.str).all flatV = true := by
  rw [List.all_map]
  exact List.all_eq_true.mpr fun _ _ => rfl
end Fv


namespace Fv
open PySem PySem.Spec PyProof.Rows L2 FvX TL
/-! ### a def with **more as its callers see it -/
structure OwnW (P : Program) (w : World) (K : PySem.W.Frag) (mg : Str → Option Value) (base : Heap) (k : Nat) (x : Str) (n : Nat) (ks : List Str) (sp : Sp) : Prop where
  ex : ∃ f : Addr, mg x = some (.ref f) ∧ PySem.W.keepIn K (.ref f) = true ∧ FnW P w K mg base (L2.CX P w) k f n ks sp
theorem pe_ownW {X : Cx} {k n : Nat} {ks : List Str} {sp : Sp} {E : XK} {x : Str} {p pos : Pos} {e : Expr} {es : List Expr} {kws : List Keyword} {t tk : TA} (C : OwnW X.prog X.w X.K X.mg X.base k x n ks sp) (hr : Room k X.A) (hg : Gl X x) (hx : Passes (L2.CX X.prog X.w) X E) (ha : PA X (e :: es) t) (hkw : PK X kws tk)
    (hall : (backToKw pos (keywordEach kws X.env)).all (·.1.isSome) = true := by rfl) (hks : (backToKw pos (keywordEach kws X.env)).filterMap (·.1) = ks := by rfl) (hdb : (x == ("__debug__" : Str)) = false := by decide)
    (he : starEach (e :: es) X.env = (false, eval e X.env) :: starEach es X.env := by rfl) (hpl : ((backTo pos (starEach (e :: es) X.env)).any (·.1) || (backToKw pos (keywordEach kws X.env)).any (·.1.isNone)) = false := by rfl) :
    PE X (.Call (.Name x p) (e :: es) kws pos) (tCallW n ks sp E t tk) := by
  obtain ⟨f, h1, h2, h3⟩ := C.ex
  exact pe_callW h3 hr hg h1 h2 hx ha hkw hall hks hdb he hpl
/-! ### displays -/
theorem merge_new : ∀ (more kvs : List (Key × V)), ((kvs ++ more).map (·.1)).Nodup → mergeK kvs more = kvs ++ more
  | [], kvs, _ => by rw [List.append_nil]; rfl
  | kv :: more, kvs, h => by
    have h' : (((kvs ++ [kv]) ++ more).map (·.1)).Nodup := by rw [List.append_assoc]; exact h
    show mergeK (putK kvs kv.1 kv.2) more = _
    have hn : valV kvs kv.1 = none := by
      cases z : valV kvs kv.1 with
      | none => rfl
      | some u =>
        have a := valV_any kv.1 kvs
        rw [z] at a
        obtain ⟨p, hp, e⟩ := List.any_eq_true.mp a
        rw [List.map_append, List.map_cons] at h
        exact absurd (of_decide_eq_true e) ((List.nodup_append.mp h).2.2 p.1 (List.mem_map.mpr ⟨p, hp, rfl⟩) kv.1 (List.mem_cons_self ..))
    rw [putK_new kv.2 hn, merge_new more (kvs ++ [kv]) h', List.append_assoc]
    rfl
theorem merge_0 {kvs : List (Key × V)} (h : (kvs.map (·.1)).Nodup) : mergeK [] kvs = kvs := merge_new kvs [] h
/-! ### tables of letters -/
def fOf : List (Str × PyData) → Str → Option PyData
  | [], _ => none
  | (k, e) :: r, x => if k = x then some e else fOf r x
def kvOf : List (Str × V) → List (Key × V)
  | [] => []
  | (k, v) :: r => (.inr k, v) :: kvOf r
/-- keys, values, data side by side -/
inductive Tb (K : PySem.W.Frag) (H : Hp) : List (Str × V) → List (Str × PyData) → Prop
  | nil : Tb K H [] []
  | cons {k : Str} {v : V} {e : PyData} {r : List (Str × V)} {s : List (Str × PyData)} (h : Dp K H v e) (t : Tb K H r s) : Tb K H ((k, v) :: r) ((k, e) :: s)
theorem Tb.tab {K : PySem.W.Frag} {H : Hp} {r : List (Str × V)} {s : List (Str × PyData)} (h : Tb K H r s) : tabOf K H (kvOf r) (fOf s) := fun x => by
  induction h with
  | nil => exact .inl ⟨rfl, rfl⟩
  | @cons k v e r s hd t ih =>
    unfold kvOf fOf
    by_cases c : k = x
    · rw [if_pos c, valV_pos (p := (Sum.inr k, v)) (congrArg Sum.inr c)]
      exact .inr ⟨e, v, rfl, rfl, hd⟩
    · rw [if_neg c, valV_neg (p := (Sum.inr k, v)) (fun z => c (Sum.inr.inj z))]
      exact ih
theorem fOf_mem {s : List (Str × PyData)} {x : Str} {e : PyData} (h : fOf s x = some e) : (x, e) ∈ s := by
  induction s with
  | nil => cases h
  | cons p s ih =>
    obtain ⟨k, d⟩ := p
    unfold fOf at h
    by_cases c : k = x
    · rw [if_pos c] at h
      rw [← c, ← Option.some.inj h]
      exact List.mem_cons_self ..
    · rw [if_neg c] at h
      exact List.mem_cons_of_mem _ (ih h)
theorem lmeas_swp {f : Str → Option PyData} (hf : ∀ x e, f x = some e → ∃ y, e = .str y ∧ isL y = true) : ∀ (n : Nat) (d : PyData), 1 ≤ lmeas n d → lmeas n (swp f n d) = lmeas n d
  | 0, d, h => by simp only [lmeas] at h; omega
  | n + 1, d, h => by
    have one : ∀ y, isL y = true → lmeas (n + 1) (.str y) = 1 := fun y hy => by
      show (if isL y = true then (1 : Int) else _) = 1
      rw [if_pos hy]
    rcases lmeas_inv h with ⟨x, rfl, hx⟩ | ⟨o, ds, rfl, _, ho, h2, all1, e⟩
    · show lmeas (n + 1) ((f x).getD (.str x)) = _
      cases hx' : f x with
      | none => rfl
      | some e =>
        obtain ⟨y, rfl, hy⟩ := hf x e hx'
        rw [one x hx]
        exact one y hy
    · rw [e]
      show lmeas (n + 1) (.tuple (.str o :: ds.map (swp f n))) = _
      refine lmeas_tup (isOp_of ho) (by rw [List.length_map]; exact h2) (fun y hy => ?_) ?_
      · obtain ⟨d', hd', rfl⟩ := List.mem_map.mp hy
        rw [lmeas_swp hf n d' (all1 d' hd')]
        exact all1 d' hd'
      · rw [List.map_map]
        exact congrArg List.sum (List.map_congr_left fun x hx => lmeas_swp hf n x (all1 x hx))
theorem lmeas_to {n m : Nat} {d : PyData} (h : 1 ≤ lmeas n d) (hm : n ≤ m) : lmeas m d = lmeas n d := by
  induction hm with
  | refl => rfl
  | step _ ih => rw [lmeas_up _ _ (by rw [ih]; exact h), ih]
theorem tm_not {d : PyData} (h : lmeas 9 d = 0) : tmB d = false := by
  cases ht : tmB d with
  | false => rfl
  | true =>
    have l1 := ((tmB_iff d).mp ht).1
    rw [lmeas_to l1 (by decide)] at h
    omega
/-! ### what substituted gives a caller who catches its errors -/
def badT : PyData := .tuple [.none, .str "InvalidTerm"]
def subE (d : PyData) : PyData := if tmB d = true then .tuple [d, .str ""] else badT
theorem kw_kvOf {ks : List Str} {zs : List V} : kwKV ks zs = kvOf (ks.zip zs) := by
  unfold kwKV
  generalize ks.zip zs = l
  induction l with
  | nil => rfl
  | cons p l ih => rw [List.map_cons, ih]; rfl
theorem kvOf_keys {l : List (Str × V)} : (kvOf l).map (·.1) = (l.map (·.1)).map Sum.inr := by
  induction l with
  | nil => rfl
  | cons p l ih =>
    obtain ⟨k, v⟩ := p
    show Sum.inr k :: (kvOf l).map (·.1) = _
    rw [ih]
    rfl
theorem sub_any {K : PySem.W.Frag} {CT CL CF : Addr} {H : Hp} {M : List Addr} {v : V} {d e : PyData} {l : List (Str × V)} {ls : List (Str × PyData)} {R Q : VK} {E : XK} (hd : Dp K (hide M H) v d) (hg : gd 20 d = true) (hT : Tb K (hide M H) l ls) (tM : Trk M H) (ll : l.length < 64)
    (hks : ∀ y ∈ l.map (·.1), gd 20 (.str y) = true ∧ (reprText y).length ≤ 100000) (hgv : ∀ p ∈ ls, gd 20 p.2 = true)
    (exm : PySem.W.exmOne K (.ref CT) (.ref CF) = some true) (xf : XfC K CT) (fnd : PySem.W.findIn K (.ref CT) "code" = some none)
    (hR : ∀ v H', (∀ p, H' p = none → Q (.ref p) (upd H' p (.tup [v, .str ""]))) → R v H')
    (hE : ∀ (C dd : Addr) (H' : Hp) (fs : List (Str × V)) (v : V), PySem.W.exmOne K (.ref C) (.ref CF) = some true → XfC K C → PySem.W.findIn K (.ref C) "code" = some none → H' dd = some (.xd fs) → fs.lookup ("code" : Str) = some v → (∀ p, H' p = none → Q (.ref p) (upd H' p (.tup [.non, v]))) → E (.ref C) (some dd) H')
    (h1 : tmB d = false → e = badT) (h2 : tmB d = true → ∀ y ∈ l.map (·.1), isL y = true) (h3 : tmB d = true → ∀ y x, fOf ls y = some x → tmB x = false → e = badT)
    (h4 : tmB d = true → (∀ y x, fOf ls y = some x → tmB x = true) → e = subE (swp (fOf ls) 5 d)) (fin : ∀ p H', Same H H' → Dp K (hide M H') (.ref p) e → Q (.ref p) H') :
    ∀ c, H c = none → spSub K CT CL [v, .ref c] (upd H c (.dK (kvOf l))) R E := by
  intro c nc
  have sc := same_upd (o := .dK (kvOf l)) nc
  have bad : e = badT → errAt CT "InvalidTerm" (upd H c (.dK (kvOf l))) E := fun eb H' dd s' hdd => by
    refine hE CT dd H' _ _ exm xf fnd hdd rfl fun p np => ?_
    have sp := same_upd (o := .tup [.non, .str "InvalidTerm"]) np
    refine fin p _ (sc.trans (s'.trans sp)) ?_
    rw [eb]
    exact .tup (SqT.of (hid_at (tM.same (sc.trans s')) np)) (.cons .non (.cons (.str _) .nil))
  refine ⟨v, c, d, kvOf l, l.map (·.1), fOf ls, M, rfl, dp_same (hide_same.trans sc) _ _ hd, hg, upd_same, kvOf_keys, by rw [List.length_map]; exact ll, hks, hT.tab.same (SmX.of_same sc).hid, fun x e h => hgv _ (fOf_mem h), tM.same sc, fun ht => bad (h1 ht), fun ht ys hp _ => ?_⟩
  have all : ∀ y ∈ ys, isL y = true := fun y hy => h2 ht y (hp.mem_iff.mp hy)
  refine ⟨fun zs y rs ey _ hy => ?_, fun _ y _ x hx hf => bad (h3 ht y x hx hf), fun _ allf hs => bad ?_, fun _ allf hs H' v' s' hv' => hR v' H' fun p np => ?_⟩
  · have := all y (by rw [ey]; exact List.mem_append_right _ (List.mem_cons_self ..))
    rw [hy] at this
    cases this
  · rw [h4 ht allf]
    unfold subE
    rw [hs]
    rfl
  · have sp := same_upd (o := .tup [v', .str ""]) np
    refine fin p _ (sc.trans (s'.trans sp)) ?_
    rw [h4 ht allf]
    unfold subE
    rw [if_pos hs]
    exact .tup (SqT.of (hid_at (tM.same (sc.trans s')) np)) (.cons (dp_same (SmX.of_same sp).hid _ _ hv') (.cons (.str _) .nil))
/-! ### the names of the last call, in order -/
def nm4 : List Str := ["zz", "ab", "c", "q"]
theorem ab4 : ∀ x ∈ nm4, ∀ y ∈ nm4, ∀ z ∈ nm4, ∀ u ∈ nm4, [x, y, z, u].Nodup → sortedS [x, y, z, u] = true → x = "ab" := by decide +kernel
theorem ab_first {ys zs rs : List Str} {y : Str} (hp : ys.Perm nm4) (hs : sortedS ys = true) (e : ys = zs ++ y :: rs) (hz : ∀ z ∈ zs, isL z = true) : y = "ab" := by
  have hl : ys.length = 4 := hp.length_eq
  have hn : ys.Nodup := hp.nodup_iff.mpr (by decide +kernel)
  match ys, hl with
  | [a, b, c, d], _ =>
    have m : ∀ x ∈ [a, b, c, d], x ∈ nm4 := fun x hx => hp.mem_iff.mp hx
    have ea := ab4 a (m a (by simp)) b (m b (by simp)) c (m c (by simp)) d (m d (by simp)) hn hs
    cases zs with
    | nil =>
      rw [List.nil_append] at e
      rw [← (List.cons.inj e).1]
      exact ea
    | cons z zs =>
      rw [List.cons_append] at e
      have := hz z (List.mem_cons_self ..)
      rw [← (List.cons.inj e).1, ea] at this
      exact absurd this (by decide +kernel)
end Fv


/-! dict(zip(texts, values)) of two lists -/
namespace FvZ
open PySem PySem.Spec PyProof.Rows L2
def kvZ (ks : List Str) (ys : List V) : List (Key × V) := (ks.zip ys).map fun q => (Sum.inr q.1, q.2)
def tDZ (K : PySem.W.Frag) (ta : TA) : TE := fun σ H Q => ta σ H fun vs H1 => ∃ (a b : Addr) (ks : List Str) (ys : List V), vs = [.ref a, .ref b] ∧ SqL K H1 a (ks.map V.str) ∧ SqL K H1 b ys ∧ ks.length = ys.length ∧ ∀ p, H1 p = none → Q (.ref p) (upd H1 p (.dK (mergeK [] (kvZ ks ys))))
theorem kv_zip : ∀ {ks : List Str} {ys : List V} {us vs : List Value}, Vals (ks.map V.str) us → Vals ys vs → ∃ rs : List (Key × Value), KV (kvZ ks ys) rs ∧ rs.length = min us.length vs.length ∧ ∀ (i : Nat) (key v : Value), us[i]? = some key → vs[i]? = some v → ∃ k, rs[i]? = some (k, v) ∧ keyIs k key = true
  | [], ys, us, vs, h, g => by
    cases h
    exact ⟨[], .nil, by simp, fun i key v z => by cases z⟩
  | k :: ks, [], us, vs, h, g => by
    cases g
    exact ⟨[], .nil, by simp, fun i key v _ z => by cases z⟩
  | k :: ks, y :: ys, us, vs, h, g => by
    cases h with
    | @cons _ u _ us h1 h2 =>
    cases g with
    | @cons _ v _ vs g1 g2 =>
    obtain ⟨rs, a, b, c⟩ := kv_zip h2 g2
    obtain ⟨t, rfl⟩ : ∃ t, u = Value.str k t := h1
    refine ⟨(Sum.inr k, v) :: rs, .cons ⟨rfl, g1⟩ a, by rw [List.length_cons, List.length_cons, List.length_cons, b]; omega, fun i key v' e1 e2 => ?_⟩
    cases i with
    | zero =>
      cases e1
      cases e2
      refine ⟨Sum.inr k, rfl, ?_⟩
      show Value.isStrOf k (Value.str k t) = true
      simp [Value.isStrOf]
    | succ i => exact c i key v' e1 e2
theorem pe_dictZip {X : Cx} {e e2 : Expr} {ta : TA} {p p2 pos pos2 : Pos} (hcalm : X.calm = true) (hg : Gl X "dict") (hm : X.mg "dict" = none) (hg2 : Gl X "zip") (hm2 : X.mg "zip" = none) (ha : PA X [e, e2] ta)
    (hs : starEach [e, e2] X.env = (false, eval e X.env) :: starEach [e2] X.env := by rfl) (hpl : (backTo pos2 (starEach [e2] X.env)).any (·.1) = false := by rfl)
    (hs1 : starEach [.Call (.Name "zip" p2) [e, e2] [] pos2] X.env = [(false, eval (.Call (.Name "zip" p2) [e, e2] [] pos2) X.env)] := by rfl) :
    PE X (.Call (.Name "dict" p) [.Call (.Name "zip" p2) [e, e2] [] pos2] [] pos) (tDZ X.K ta) := by
  refine ⟨fun pins s σ H Q I h => ?_⟩
  refine wpAny_Call_Name_kw (ld_blt I hg hm (u := .type "dict") (by decide +kernel) ?_)
  refine PyProof.Rows.callWith_type1 ?_ hs1 rfl
  rw [hs1]
  show wpAny _ _ (spliced ((false, eval (.Call (.Name "zip" p2) [e, e2] [] pos2) X.env) :: [])) _ _ s
  refine Calls.spliced_cons ?_
  refine wpAny_Call_Name_kw (ld_blt I hg2 hm2 PyProof.Rows.boot_zip (PyProof.Rows.callWith_type1 (thn (ha.run pos2 pins s σ H _ I h) fun us s1 hq => ?_) hs hpl))
  obtain ⟨vs, H1, I1, r1, a, b, ks, ys, rfl, hqa, hqb, hl, q⟩ := hq
  cases r1 with
  | cons r rr =>
  cases rr with
  | cons r' rr =>
  cases rr
  cases r
  cases r'
  obtain ⟨its, rv, p1, hz1⟩ := I1.list hqa
  obtain ⟨its2, rv2, p2', hz2⟩ := I1.list hqb
  refine call_zip_2 p1.isList p2'.isList fun h' hz hTI hTO h1 h2 hsz hk => ?_
  refine Calls.spliced_nil ?_
  have D := PySem.W.ktu_apart s1.heap.objs.size a b p1.lt p2'.lt
  have I2 : Inv X pins σ H1 { s1 with heap := h' } := I1.kept (t' := s1.toks) hk
  obtain ⟨rs, ra, rb, rc⟩ := kv_zip rv rv2
  have l1 := rv.length
  have l2 := rv2.length
  rw [List.length_map] at l1 hz1
  have e1 : min its.toArray.size its2.toArray.size = its.length := by rw [List.size_toArray, List.size_toArray]; omega
  refine PySem.call_dict_pairs (knd := mixKind X.prog X.w) (kvs := rs) (PairArg.zip _ _ _ _ _ a b D its.toArray its2.toArray) (I2.ok.hd hcalm) ⟨hz, hTI, ⟨_, _, hTO⟩, h1, h2, p1.isList.at (fun o e => hk _ o e), p2'.isList.at (fun o e => hk _ o e)⟩ ⟨by rw [List.size_toArray, List.size_toArray]; exact rb, fun i key v hr => ?_⟩ (by rw [e1, ← l1]; exact hz1) fun h3 tk hd hk3 => ?_
  · obtain ⟨x1, x2⟩ := hr
    rw [List.getElem?_toArray] at x1 x2
    exact rc i key v x1 x2
  · have big : s1.heap.objs.size ≤ h'.objs.size := by rw [hsz]; omega
    have nw : ∀ b o, s1.heap.get? b = some o → b ∉ [s1.heap.objs.size + 4, s1.heap.objs.size + 3, s1.heap.objs.size, s1.heap.objs.size + 1] := fun b o e hb => by
      have := Heap.lt_size e
      simp only [List.mem_cons, List.not_mem_nil, or_false] at hb
      have hb' : s1.heap.objs.size ≤ b := by rcases hb with z | z | z | z <;> rw [z] <;> first | exact Nat.le_refl _ | exact Nat.le_add_right _ _
      exact absurd this (Nat.not_lt.mpr hb')
    have keep : ∀ b o, s1.heap.get? b = some o → h3.get? b = some o := fun b o e => hk3 b o (nw b o e) (hk b o e)
    have hm : (h'.objs.size == sysModules) = false := beq_eq_false_iff_ne.mpr (Nat.ne_of_gt (Nat.lt_of_lt_of_le I1.big big))
    have lk : (kvZ ks ys).length ≤ sizeLine := by
      unfold kvZ
      rw [List.length_map, List.length_zip]
      omega
    have hlen : (mergeK [] (kvZ ks ys)).length ≤ sizeLine := by
      refine Nat.le_trans (length_mergeK _ []) ?_
      rw [List.length_nil, Nat.zero_add]
      exact lk
    exact ⟨.ref h'.objs.size, upd H1 h'.objs.size (.dK (mergeK [] (kvZ ks ys))), I1.laid (t' := tk) keep big (show ObjOk X.prog X.w _ _ _ (.dK (mergeK [] (kvZ ks ys))) from ⟨hlen, hm, merged [] rs, KV.merge ra .nil, hd⟩), rfl, q _ (I1.hok.fresh big)⟩
end FvZ


/-! the order under turning, and under other letters -/
namespace FvF
open PySem PySem.Spec PyProof.Rows L2 Fv FvD FvG FvX TL
/-- what is a term, seen at five -/
def T5 (d : PyData) : Prop := 1 ≤ lmeas 5 d
theorem T5.inv {d : PyData} (h : T5 d) : (∃ x, d = .str x ∧ isL x = true) ∨ ∃ o ds, d = wh o ds ∧ opS o ∧ 2 ≤ ds.length ∧ ∀ p ∈ ds, 1 ≤ lmeas 4 p := by
  rcases lmeas_inv h with ⟨x, e, hx⟩ | ⟨o, ds, e, _, ho, h2, al, _⟩
  · exact .inl ⟨x, e, hx⟩
  · exact .inr ⟨o, ds, e, ho, h2, al⟩
theorem T5.of4 {p : PyData} (h : 1 ≤ lmeas 4 p) : T5 p := by
  unfold T5
  rw [lmeas_toF h (by decide)]
  exact h
theorem T5.dep {d : PyData} (h : T5 d) : d.depth ≤ 5 := lmeas_depth 5 d h
theorem tnd_st : ∀ (m k : Nat) (d : PyData), 1 ≤ lmeas m d → m ≤ k → tnd k d = tnd m d
  | 0, _, d, h, _ => by simp only [lmeas] at h; omega
  | m + 1, 0, _, _, hk => absurd hk (by omega)
  | m + 1, k + 1, d, h, hk => by
    rcases lmeas_inv h with ⟨x, rfl, hx⟩ | ⟨o, ds, rfl, _, ho, h2, al, _⟩
    · rfl
    · show PyData.tuple (.str (opT o) :: ds.map (tnd k)) = PyData.tuple (.str (opT o) :: ds.map (tnd m))
      rw [List.map_congr_left fun p hp => tnd_st m k p (al p hp) (by omega)]
theorem swp_st {f : Str → Option PyData} : ∀ (m k : Nat) (d : PyData), 1 ≤ lmeas m d → m ≤ k → swp f k d = swp f m d
  | 0, _, d, h, _ => by simp only [lmeas] at h; omega
  | m + 1, 0, _, _, hk => absurd hk (by omega)
  | m + 1, k + 1, d, h, hk => by
    rcases lmeas_inv h with ⟨x, rfl, hx⟩ | ⟨o, ds, rfl, _, ho, h2, al, _⟩
    · rfl
    · show PyData.tuple (.str o :: ds.map (swp f k)) = PyData.tuple (.str o :: ds.map (swp f m))
      rw [List.map_congr_left fun p hp => swp_st m k p (al p hp) (by omega)]
theorem tnd_wh {o : Str} {ds : List PyData} (al : ∀ p ∈ ds, 1 ≤ lmeas 4 p) : tnd 5 (wh o ds) = wh (opT o) (ds.map (tnd 5)) := by
  show PyData.tuple (.str (opT o) :: ds.map (tnd 4)) = _
  rw [List.map_congr_left fun p hp => (tnd_st 4 5 p (al p hp) (by decide)).symm]
theorem swp_wh {f : Str → Option PyData} {o : Str} {ds : List PyData} (al : ∀ p ∈ ds, 1 ≤ lmeas 4 p) : swp f 5 (wh o ds) = wh o (ds.map (swp f 5)) := by
  show PyData.tuple (.str o :: ds.map (swp f 4)) = _
  rw [List.map_congr_left fun p hp => (swp_st 4 5 p (al p hp) (by decide)).symm]
theorem T5.tnd {d : PyData} (h : T5 d) : T5 (tnd 5 d) := by unfold T5; rw [lmeas_tnd 5 d h]; exact h
theorem jm_of {d : PyData} (h : T5 d) : (isJ d = true → ∃ ds, d = wh "|" ds ∧ ∀ p ∈ ds, 1 ≤ lmeas 4 p) ∧ (isM d = true → ∃ ds, d = wh "&" ds ∧ ∀ p ∈ ds, 1 ≤ lmeas 4 p) := by
  rcases h.inv with ⟨x, rfl, _⟩ | ⟨o, ds, rfl, op, _, al⟩
  · exact ⟨(fun z => by cases z), (fun z => by cases z)⟩
  · refine ⟨fun z => ?_, fun z => ?_⟩
    · have : o = "|" := of_decide_eq_true z
      subst this; exact ⟨ds, rfl, al⟩
    · have : o = "&" := of_decide_eq_true z
      subst this; exact ⟨ds, rfl, al⟩
theorem opT_amp : opT "&" = "|" := rfl
theorem opT_bar : opT "|" = "&" := by decide +kernel
/-- below, turned -/
theorem law_tnd : ∀ n : Nat, ∀ l r : PyData, l.depth + r.depth < n → T5 l → T5 r → lawB l r = true → lawB (tnd 5 r) (tnd 5 l) = true
  | 0, _, _, h, _, _, _ => absurd h (Nat.not_lt_zero _)
  | n + 1, l, r, hd, tl', tr, h => by
    have dl := tl'.dep
    have dr := tr.dep
    have dtl := tl'.tnd.dep
    have dtr := tr.tnd.dep
    rcases Lw.cases lawB_ok (by omega) h with e | ⟨j, all⟩ | ⟨_, m, all⟩ | ⟨_, _, jr, p, hp, z⟩ | ⟨_, _, ml, p, hp, z⟩
    · rw [e]; exact Lw.refl lawB_ok (by omega)
    · obtain ⟨ds, rfl, al⟩ := (jm_of tl').1 j
      rw [tnd_wh al, opT_bar] at dtl ⊢
      refine law_met (by omega) _ _ (Nat.lt_succ_self _) (by omega) fun q hq => ?_
      obtain ⟨p, hp, rfl⟩ := List.mem_map.mp hq
      exact law_tnd n p r (by have := pts_depth (l := wh "|" ds) (p := p) hp; omega) (.of4 (al p hp)) tr (all p hp)
    · obtain ⟨ds, rfl, al⟩ := (jm_of tr).2 m
      rw [tnd_wh al, opT_amp] at dtr ⊢
      refine Lw.joined lawB_ok (by omega) (by rw [isJ_wh]; exact decide_eq_true rfl) fun q hq => ?_
      obtain ⟨p, hp, rfl⟩ := List.mem_map.mp hq
      exact law_tnd n l p (by have := pts_depth (l := wh "&" ds) (p := p) hp; omega) tl' (.of4 (al p hp)) (all p hp)
    · obtain ⟨ds, rfl, al⟩ := (jm_of tr).1 jr
      have hp : p ∈ ds := hp
      have ih := law_tnd n l p (by have := pts_depth (l := wh "|" ds) (p := p) hp; omega) tl' (.of4 (al p hp)) z
      rw [tnd_wh al, opT_bar] at dtr ⊢
      exact (Lw.um lawB_ok 59 (Nat.le_refl _)).1 _ (tnd 5 p) _ (by omega) (by rw [isM_wh]; exact decide_eq_true rfl) (List.mem_map_of_mem hp) ih
    · obtain ⟨ds, rfl, al⟩ := (jm_of tl').2 ml
      have hp : p ∈ ds := hp
      have ih := law_tnd n p r (by have := pts_depth (l := wh "&" ds) (p := p) hp; omega) (.of4 (al p hp)) tr z
      rw [tnd_wh al, opT_amp] at dtl ⊢
      exact Lw.up lawB_ok 59 (Nat.le_refl _) _ (tnd 5 p) _ (by omega) (by rw [isJ_wh]; exact decide_eq_true rfl) (List.mem_map_of_mem hp) ih
/-- below, with other letters -/
theorem law_swp {f : Str → Option PyData} (hf : ∀ x e, f x = some e → ∃ y, e = .str y ∧ isL y = true) : ∀ n : Nat, ∀ l r : PyData, l.depth + r.depth < n → T5 l → T5 r → lawB l r = true → lawB (swp f 5 l) (swp f 5 r) = true
  | 0, _, _, h, _, _, _ => absurd h (Nat.not_lt_zero _)
  | n + 1, l, r, hd, tl', tr, h => by
    have dl := tl'.dep
    have dr := tr.dep
    have ts : ∀ {d : PyData}, T5 d → T5 (swp f 5 d) := fun {d} h => by unfold T5; rw [lmeas_swp hf 5 d h]; exact h
    have dtl := (ts tl').dep
    have dtr := (ts tr).dep
    rcases Lw.cases lawB_ok (by omega) h with e | ⟨j, all⟩ | ⟨_, m, all⟩ | ⟨_, _, jr, p, hp, z⟩ | ⟨_, _, ml, p, hp, z⟩
    · rw [e]; exact Lw.refl lawB_ok (by omega)
    · obtain ⟨ds, rfl, al⟩ := (jm_of tl').1 j
      rw [swp_wh al] at dtl ⊢
      refine Lw.joined lawB_ok (by omega) (by rw [isJ_wh]; exact decide_eq_true rfl) fun q hq => ?_
      obtain ⟨p, hp, rfl⟩ := List.mem_map.mp hq
      exact law_swp hf n p r (by have := pts_depth (l := wh "|" ds) (p := p) hp; omega) (.of4 (al p hp)) tr (all p hp)
    · obtain ⟨ds, rfl, al⟩ := (jm_of tr).2 m
      rw [swp_wh al] at dtr ⊢
      refine law_met (by omega) _ _ (Nat.lt_succ_self _) (by omega) fun q hq => ?_
      obtain ⟨p, hp, rfl⟩ := List.mem_map.mp hq
      exact law_swp hf n l p (by have := pts_depth (l := wh "&" ds) (p := p) hp; omega) tl' (.of4 (al p hp)) (all p hp)
    · obtain ⟨ds, rfl, al⟩ := (jm_of tr).1 jr
      have hp : p ∈ ds := hp
      have ih := law_swp hf n l p (by have := pts_depth (l := wh "|" ds) (p := p) hp; omega) tl' (.of4 (al p hp)) z
      rw [swp_wh al] at dtr ⊢
      exact Lw.up lawB_ok 59 (Nat.le_refl _) _ (swp f 5 p) _ (by omega) (by rw [isJ_wh]; exact decide_eq_true rfl) (List.mem_map_of_mem hp) ih
    · obtain ⟨ds, rfl, al⟩ := (jm_of tl').2 ml
      have hp : p ∈ ds := hp
      have ih := law_swp hf n p r (by have := pts_depth (l := wh "&" ds) (p := p) hp; omega) (.of4 (al p hp)) tr z
      rw [swp_wh al] at dtl ⊢
      exact (Lw.um lawB_ok 59 (Nat.le_refl _)).1 _ (swp f 5 p) _ (by omega) (by rw [isM_wh]; exact decide_eq_true rfl) (List.mem_map_of_mem hp) ih
end FvF


namespace FvF
open PySem PySem.Spec PyProof.Rows L2 Fv FvD FvG FvX FvW FvZ TL
-- top 44  slots: 0:_law_script 1:_law_source_here 2:_law_turn 3:_law_one 4:_law_two 5:_law_late 6:_law_first 7:_law_same 8:_law_table
abbrev s_law : Stmt := topS 44
abbrev N_law : List Str := ["_law_script", "_law_source_here", "_law_turn", "_law_one", "_law_two", "_law_late", "_law_first", "_law_same", "_law_table"]
theorem sc_law : FnScope N_law ["_law_script"] (defScope s_law) := ⟨rfl, rfl, rfl, by decide +kernel, rfl, by decide +kernel, by decide +kernel⟩

def spLaw (K : PySem.W.Frag) : Sp := fun vs H Q _ => ∃ (a : Addr) (ns : List Int), vs = [.ref a] ∧ SqL K H a (ns.map V.int) ∧ ns.length ≤ 63 ∧ ∀ H', Q (.bl true) H'
theorem LAt.nil {w : World} {H : Hp} {d : Addr} (h : H d = some (NdO w d [])) {A : List PyData} : LAt w H d [] A := ⟨h, (fun p hp => nomatch hp), .nil⟩
theorem stay_a {H : Hp} {a L : Addr} {ns : List Int} (s : Src H a L ns) : Stay H (hide [a] H) := by
  obtain ⟨_, _, _, _, ha, _⟩ := s
  exact ⟨fun c xs e => by rw [hide_ne (fun z => by rw [List.mem_singleton.mp z, ha] at e; cases e)]; exact e, fun c o u e => by rw [hide_ne (fun z => by rw [List.mem_singleton.mp z, ha] at e; cases e)]; exact e⟩
theorem un2 {x y : PyData} (tx : tmB x = true) (ty : tmB y = true) : (∀ z ∈ pre x ++ pre y, Tk z ∧ z.depth ≤ 20 ∧ ∀ p ∈ pts z, p ∈ pre x ++ pre y) ∧ (pre x ++ pre y).length ≤ 1200 := by
  have U1 := un_tm tx
  have U2 := un_tm ty
  have pl : ∀ {x : PyData}, tmB x = true → (pre x).length ≤ 48 := fun {x} h => by
    have a1 := pre_len 9 x (tk_tm h).one (tk_tm h)
    have a2 := lmeas_toF (m := 9) ((tmB_iff x).mp h).1 (by decide)
    have a3 := ((tmB_iff x).mp h).2
    omega
  refine ⟨fun z hz => ?_, by rw [List.length_append]; have := pl tx; have := pl ty; omega⟩
  rcases List.mem_append.mp hz with m | m
  · exact ⟨(U1.tk z m).1, (U1.tk z m).2.2, fun p hp => List.mem_append_left _ (U1.cl z m p hp)⟩
  · exact ⟨(U2.tk z m).1, (U2.tk z m).2.2, fun p hp => List.mem_append_right _ (U2.cl z m p hp)⟩
theorem new_hid {X : Hp} {d : Addr} {o : HO} (nd : X d = none) : Same X (hide [d] (upd X d o)) := fun b ob e => by
  rw [hide_ne (fun z => ne_of_none e nd (List.mem_singleton.mp z))]
  exact same_upd nd _ _ e
theorem back_hid {X X' : Hp} {d : Addr} {o : HO} (nd : X d = none) (s : SmX [d] (upd X d o) X') : Same X X' := fun b ob e => s b ob (fun z => ne_of_none e nd (List.mem_singleton.mp z)) (same_upd nd _ _ e)
/-- a table of letters -/
noncomputable def fT (kvs : List (Key × V)) (x : Str) : Option PyData := match valV kvs (.inr x) with
  | some (.str y) => some (.str y)
  | _ => none
theorem fT_ok {K : PySem.W.Frag} {H : Hp} {ks : List Str} {ys : List V} (nd : ks.Nodup) (hy : ∀ y ∈ ys, ∃ z, y = .str z ∧ isL z = true) :
    tabOf K H (mergeK [] (kvZ ks ys)) (fT (mergeK [] (kvZ ks ys))) ∧ ∀ x e, fT (mergeK [] (kvZ ks ys)) x = some e → ∃ y, e = .str y ∧ isL y = true := by
  have ndk : ((kvZ ks ys).map (·.1)).Nodup := by
    have go : ∀ (ks : List Str) (ys : List V), ks.Nodup → ((kvZ ks ys).map (·.1)).Nodup ∧ ∀ k ∈ (kvZ ks ys).map (·.1), ∃ x ∈ ks, k = Sum.inr x := fun ks => by
      induction ks with
      | nil => intro ys _; exact ⟨.nil, fun k hk => by cases hk⟩
      | cons k ks ih =>
        intro ys h
        cases ys with
        | nil => exact ⟨.nil, fun k hk => by cases hk⟩
        | cons y ys =>
          obtain ⟨h1, h2⟩ := List.nodup_cons.mp h
          obtain ⟨a, b⟩ := ih ys h2
          refine ⟨List.nodup_cons.mpr ⟨fun z => ?_, a⟩, fun q hq => ?_⟩
          · obtain ⟨x, hx, e⟩ := b _ z
            injection e with e
            have e : k = x := e
            exact h1 (by rw [e]; exact hx)
          · rcases List.mem_cons.mp hq with z | z
            · exact ⟨k, List.mem_cons_self, z⟩
            · obtain ⟨x, hx, e⟩ := b _ z
              exact ⟨x, List.mem_cons_of_mem _ hx, e⟩
    exact (go ks ys nd).1
  have em : mergeK [] (kvZ ks ys) = kvZ ks ys := by rw [merge_app _ _ (by rw [List.nil_append]; exact ndk), List.nil_append]
  rw [em]
  have val : ∀ x v, valV (kvZ ks ys) (.inr x) = some v → ∃ z, v = .str z ∧ isL z = true := fun x v h => by
    unfold valV at h
    obtain ⟨q, hq, e⟩ := Option.map_eq_some_iff.mp h
    have mq := List.mem_of_find?_eq_some hq
    obtain ⟨r, hr, e2⟩ := List.mem_map.mp mq
    have := List.of_mem_zip (a := r.1) (b := r.2) hr
    rw [← e, ← e2]
    exact hy _ this.2
  refine ⟨fun x => ?_, fun x e h => ?_⟩
  · cases hv : valV (kvZ ks ys) (.inr x) with
    | none => exact .inl ⟨by unfold fT; rw [hv], rfl⟩
    | some v =>
      obtain ⟨z, rfl, _⟩ := val x v hv
      exact .inr ⟨.str z, .str z, by unfold fT; rw [hv], rfl, .str z⟩
  · unfold fT at h
    cases hv : valV (kvZ ks ys) (.inr x) with
    | none => rw [hv] at h; cases h
    | some v =>
      obtain ⟨z, rfl, hz⟩ := val x v hv
      rw [hv] at h
      cases h
      exact ⟨z, rfl, hz⟩
section
variable {P : Program} {w : World} {K : PySem.W.Frag} {mg : Str → Option Value} {base : Heap} {CT : Addr}
set_option maxHeartbeats 1600000 in
theorem ok_law {f : Addr} {fd : FuncData} {k : Nat} (F : Fun K "law" "law" s_law f fd) (hk : 66 ≤ k) (m_range : mg "range" = none) (m_list : mg "list" = none) (m_dict : mg "dict" = none) (m_zip : mg "zip" = none)
    (C_law_source : Own P w K mg base 1 "_law_source" ["_law_script"] (spSource K)) (C_law_take : Own P w K mg base 1 "_law_take" ["_law_source_here", "_law_many"] spTake) (C_law_mixed : Own P w K mg base 2 "_law_mixed" ["_law_source_here", "_law_row"] spMixed)
    (C_law_two_words : Own P w K mg base 23 "_law_two_words" ["_law_source_here"] (spTW K)) (C_law_rewritten : Own P w K mg base 22 "_law_rewritten" ["_law_source_here", "_law_word", "_law_many"] (spRw K))
    (C_law_below : Own P w K mg base 36 "_law_below" ["_law_one", "_law_other", "_law_known"] (spBl K w 12))
    (C_law_swap : Own P w K mg base 10 "_law_swap" ["_law_word", "_law_table"] (spSwp K 10)) (C_law_turned : Own P w K mg base 10 "_law_turned" ["_law_word"] (spTnd K 10))
    (C_equal_everywhere : OwnR P w K mg base 56 "equal_everywhere" (spEE K CT))
    (C_least_form : OwnR P w K mg base 62 "least_form" (spLF K CT)) :
    FnOk P w K mg base CX0 (k + 1) f fd ["_law_script"] (spLaw K) := by
  refine F.ok sc_law (fun vs H Q E h => ?_) (fun cdv A0 outer s H vs Q E hr h => ?_)
  · obtain ⟨a, ns, rfl, _⟩ := h
    rfl
  · obtain ⟨sc, ns, rfl, hS, h63, done⟩ := h
    refine ⟨_, (pss_cons (ps_set (i := 1) sc_law.nd rfl (by first | exact .inl rfl | exact .inr rfl) (pe_own C_law_source (hr.mono (by omega)) (by rfl) (pa_cons (pv 0) pa_nil)))
      (pss_cons (ps_for PassesOwn.never rfl (pi_range1 (by rfl) m_range (pa_cons pe_int pa_nil)) (pg_name (i := 2) sc_law.nd rfl (by first | exact .inl rfl | exact .inr rfl))
        (pss_cons (ps_asg (pe_own C_law_two_words (hr.mono (by omega)) (by rfl) (pa_cons (pv 1) pa_nil)) (pg_tup rfl (pgs_cons (pg_name (i := 3) sc_law.nd rfl (by first | exact .inl rfl | exact .inr rfl)) (pgs_cons (pg_name (i := 4) sc_law.nd rfl (by first | exact .inl rfl | exact .inr rfl)) pgs_nil))))
        (pss_cons (ps_set (i := 5) sc_law.nd rfl (by first | exact .inl rfl | exact .inr rfl) (pe_own C_law_rewritten (hr.mono (by omega)) (by rfl) (pa_cons (pv 1) (pa_cons (pv 3) (pa_cons (pe_op op_add pe_int (pe_own C_law_take (hr.mono (by omega)) (by rfl) (pa_cons (pv 1) (pa_cons pe_int pa_nil)))) pa_nil)))))
        (pss_cons (ps_set (i := 6) sc_law.nd rfl (by first | exact .inl rfl | exact .inr rfl) (pe_ownR C_least_form (hr.mono (by omega)) (by rfl) passE0 (pa_cons (pv 3) pa_nil)))
        (pss_cons (ps_if (PW.pt (pw_or (pt_cmpR (op_neD hr.units) (pe_ownR C_least_form (hr.mono (by omega)) (by rfl) passE0 (pa_cons (pv 5) pa_nil)) (pv 6) (nomark _)) (pw_or1 (pt_not (pt_val (pe_ownR C_equal_everywhere (hr.mono (by omega)) (by rfl) passE0 (pa_cons (pv 3) (pa_cons (pv 5) pa_nil))))))))
          (pss_one (ps_ret pe_bl))
          pss_nil)
        (C8.pss_cut (ps_set (i := 7) sc_law.nd rfl (by first | exact .inl rfl | exact .inr rfl) (pe_and (pe_own C_law_below (hr.mono (by omega)) (by rfl) (pa_cons (pv 3) (pa_cons (pv 4) (pa_cons (FvD.pe_dnewN) pa_nil)))) (pe_one (pe_own C_law_below (hr.mono (by omega)) (by rfl) (pa_cons (pv 4) (pa_cons (pv 3) (pa_cons (FvD.pe_dnewN) pa_nil)))))))
        (pss_cons (ps_if (pt_cmpR op_ne (pe_cmpR (op_eqD hr.units) (pe_ownR C_least_form (hr.mono (by omega)) (by rfl) passE0 (pa_cons (pv 4) pa_nil)) (pv 6) (nomark _)) (pv 7) (nomark _))
          (pss_one (ps_ret pe_bl))
          pss_nil)
        (pss_cons (ps_set (i := 8) sc_law.nd rfl (by first | exact .inl rfl | exact .inr rfl) (FvZ.pe_dictZip rfl (by rfl) m_dict (by rfl) m_zip (pa_cons (pe_callTy (call_listStr hr.hd) (by rfl) m_list (by decide +kernel) (pa_cons pe_str pa_nil)) (pa_cons (pe_own C_law_mixed (hr.mono (by omega)) (by rfl) (pa_cons (pv 1) (pa_cons (pe_callTy (call_listStr hr.hd) (by rfl) m_list (by decide +kernel) (pa_cons pe_str pa_nil)) pa_nil))) pa_nil))))
        (pss_cons (ps_if (pt_cmpR (op_neD hr.units) (pe_ownR C_least_form (hr.mono (by omega)) (by rfl) passE0 (pa_cons (pe_own C_law_swap (hr.mono (by omega)) (by rfl) (pa_cons (pv 6) (pa_cons (pv 8) pa_nil))) pa_nil)) (pe_ownR C_least_form (hr.mono (by omega)) (by rfl) passE0 (pa_cons (pe_own C_law_swap (hr.mono (by omega)) (by rfl) (pa_cons (pv 3) (pa_cons (pv 8) pa_nil))) pa_nil)) (nomark _))
          (pss_one (ps_ret pe_bl))
          pss_nil)
        (pss_one (ps_if (pt_cmpR (op_neD hr.units) (pe_ownR C_least_form (hr.mono (by omega)) (by rfl) passE0 (pa_cons (pe_own C_law_turned (hr.mono (by omega)) (by rfl) (pa_cons (pv 6) pa_nil)) pa_nil)) (pe_ownR C_least_form (hr.mono (by omega)) (by rfl) passE0 (pa_cons (pe_own C_law_turned (hr.mono (by omega)) (by rfl) (pa_cons (pv 3) pa_nil)) pa_nil)) (nomark _))
          (pss_one (ps_ret pe_bl))
          pss_nil)))))))))))
      (pss_one (ps_ret pe_bl)))), ?_⟩
    refine ⟨_, rfl, sc, ns, rfl, hS, h63, fun H0 a L s0 na nL hs0 => ?_⟩
    have u : ∀ {M : List Addr} {X : Hp} {v : V} {x : PyData}, Dp K (hide M X) v x → Dp K X v x := fun h => dp_same hide_same _ _ h
    have tS : ∀ {X : Hp}, Src X a L ns → Trk [a] X := fun z b hb => by
      rw [List.mem_singleton.mp hb]
      obtain ⟨_, _, _, _, h1, _⟩ := z
      exact ⟨_, h1⟩
    have sh : ∀ {X Y : Hp}, Same X Y → Same (hide [a] X) (hide [a] Y) := fun z => (SmX.of_same z).hid
    refine ⟨3, rfl, by decide, by decide, for_range (lo := 0) (n := (3 : Int).toNat) (fun i σ Hi => ∃ (y2 y3 y4 y5 y6 y7 y8 : Option V), σ = [some (.ref sc), some (.ref a), y2, y3, y4, y5, y6, y7, y8] ∧ Src Hi a L ns) ?_ ?_ ?_⟩
    · exact ⟨_, _, _, _, _, _, _, rfl, hs0⟩
    · rintro i σ Hi hi ⟨y2, y3, y4, y5, y6, y7, y8, rfl, hsi⟩
      refine ⟨_, rfl, a, L, ns, [a], rfl, hsi, List.mem_cons_self, tS hsi, fun H1 p v1 v2 d1 d2 hp hv1 hv2 t1 t2 _ hs1 sm1 => ?_⟩
      refine ⟨p, _, rfl, SqT.of (hide_same _ _ hp), rfl, _, _, rfl, _, _, rfl, rfl, ?_⟩
      clear hp sm1 hsi
      refine ⟨_, rfl, _, rfl, _, rfl, a, L, ns, 5, rfl, hs1, by decide, by decide, fun H2 m0 mz m5 hs2 off2 => ⟨_, _, rfl, rfl, ?_⟩⟩
      have sm2 : SmX [a] H1 H2 := SmX.at off2 (List.mem_singleton.mpr rfl)
      have hv1 := dp_same sm2.hid _ _ hv1
      have hv2 := dp_same sm2.hid _ _ hv2
      refine ⟨a, L, ns, v1, d1, [a], 1 + m0, rfl, by omega, by omega, hs2, hv1, t1, List.mem_cons_self, tS hs2, fun H3 v3 W hv3 tW eW hs3 sm3 => ?_⟩
      have hv1 := dp_same sm3.hid _ _ hv1
      have hv2 := dp_same sm3.hid _ _ hv2
      clear sm2 sm3 hs1 hs2 off2
      have D1 := depth_tm t1
      have D2 := depth_tm t2
      have DW := depth_tm tW
      have g1 : gd 20 d1 = true := (tk_tm t1).gd
      have g2 : gd 20 d2 = true := (tk_tm t2).gd
      have gW : gd 20 W = true := (tk_tm tW).gd
      have no1 : ∀ {X : Prop}, tmB d1 = false → X := fun z => by rw [t1] at z; cases z
      have no2 : ∀ {X : Prop}, tmB d2 = false → X := fun z => by rw [t2] at z; cases z
      have noW : ∀ {X : Prop}, tmB W = false → X := fun z => by rw [tW] at z; cases z
      -- the least form
      refine ⟨_, rfl, v1, d1, rfl, u hv1, g1, fun z => no1 z, fun _ H4 v4 F s4 hF R => ?_⟩
      have gF : gd 20 F = true := R.tk.gd
      have kF := R.tk.kd
      have rr : PyData.eqv F F = true := (eqv_iff 8 8 F F kF kF).mpr rfl
      have hs4 := hs3.same s4
      have hF4 := kdp_stay (stay_a hs4) 8 _ _ kF hF
      have hv1 := dp_same (sh s4) _ _ hv1
      have hv2 := dp_same (sh s4) _ _ hv2
      have hv3 := dp_same (sh s4) _ _ hv3
      clear hF hs3 s4
      refine ⟨_, rfl, v3, W, rfl, u hv3, gW, fun z => noW z, fun _ H5 v5 G s5 hG RG => ?_⟩
      have eG : G = F := RG.uniq R tW t1 eW.2 eW.1
      rw [eG] at hG
      refine ⟨_, rfl, F, F, hG, dp_same s5 _ _ (u hF4), gd_shaped gF (by decide), gd_shaped gF (by decide), _, rfl, ?_⟩
      rw [rr]
      have hs5 := hs4.same s5
      have hF5 := dp_same (sh s5) _ _ hF4
      have hv1 := dp_same (sh s5) _ _ hv1
      have hv2 := dp_same (sh s5) _ _ hv2
      have hv3 := dp_same (sh s5) _ _ hv3
      clear hF4 hs4 s5 hG RG eG
      refine iteF ⟨_, rfl, _, rfl, v1, v3, d1, W, rfl, u hv1, u hv3, g1, gW, ⟨fun z => no1 z, fun _ z => noW z, fun _ _ H6 s6 => ⟨_, rfl, ?_⟩⟩⟩
      rw [le_law 12 d1 W (by omega) (by decide), le_law 12 W d1 (by omega) (by decide), eW.1, eW.2]
      have hs6 := hs5.same s6
      have hF6 := dp_same (sh s6) _ _ hF5
      have hv1 := dp_same (sh s6) _ _ hv1
      have hv2 := dp_same (sh s6) _ _ hv2
      clear hF5 hs5 s6 hv3
      refine iteF ?_
      -- below, both ways
      obtain ⟨uA, lA⟩ := un2 t1 t2
      have mA1 : d1 ∈ pre d1 ++ pre d2 := List.mem_append_left _ (own_pre d1)
      have mA2 : d2 ∈ pre d1 ++ pre d2 := List.mem_append_right _ (own_pre d2)
      generalize pre d1 ++ pre d2 = A at uA lA mA1 mA2
      refine ⟨fun σ' H' => σ' = [some (.ref sc), some (.ref a), some (.int (0 + (i : Nat))), some v1, some v2, some v3, some v4, some (.bl (lawB d1 d2 && lawB d2 d1)), y8] ∧ Same H6 H', ?_, ?_⟩
      · refine ⟨_, rfl, _, rfl, fun dA nA => ?_⟩
        refine ⟨dA, [], A, v1, v2, d1, d2, rfl, LAt.nil upd_same, uA, lA, dp_same (new_hid nA) _ _ (u hv1), dp_same (new_hid nA) _ _ (u hv2), mA1, mA2, by omega, fun H7 kvs7 hL7 sm7 => ⟨_, rfl, ?_⟩⟩
        have s7 := back_hid nA sm7
        cases lawB d1 d2 with
        | false => exact iteF ⟨rfl, s7⟩
        | true =>
          refine iteT ⟨_, rfl, _, rfl, fun dB nB => ?_⟩
          refine ⟨dB, [], A, v2, v1, d2, d1, rfl, LAt.nil upd_same, uA, lA, dp_same (s7.trans (new_hid nB)) _ _ (u hv2), dp_same (s7.trans (new_hid nB)) _ _ (u hv1), mA2, mA1, by omega, fun H8 kvs8 hL8 sm8 => ?_⟩
          exact ⟨rfl, s7.trans (back_hid nB sm8)⟩
      rintro σ' H7 ⟨rfl, s7⟩
      have hs7 := hs6.same s7
      have hF7 := dp_same (sh s7) _ _ hF6
      have hv1 := dp_same (sh s7) _ _ hv1
      have hv2 := dp_same (sh s7) _ _ hv2
      clear hF6 hs6 s7 uA lA mA1 mA2
      refine ⟨_, rfl, v2, d2, rfl, u hv2, g2, fun z => no2 z, fun _ H8 v8 G2 s8 hG2 R2 => ?_⟩
      have gG2 : gd 20 G2 = true := R2.tk.gd
      refine ⟨_, rfl, G2, F, hG2, dp_same s8 _ _ (u hF7), gd_shaped gG2 (by decide), gd_shaped gF (by decide), _, rfl, rfl, _, rfl, ?_⟩
      have same : PyData.eqv G2 F = (lawB d1 d2 && lawB d2 d1) := by
        have dF := R.ls.dep
        by_cases e : G2 = F
        · rw [show PyData.eqv G2 F = true from (eqv_iff 8 8 _ _ R2.tk.kd kF).mpr (by rw [e])]
          have b1 : lawB d1 d2 = true := Lw.trans lawB_ok 59 (Nat.le_refl _) d1 F d2 (by omega) R.ge (by rw [← e]; exact R2.le)
          have b2 : lawB d2 d1 = true := Lw.trans lawB_ok 59 (Nat.le_refl _) d2 F d1 (by omega) (by rw [← e]; exact R2.ge) R.le
          rw [b1, b2]
          rfl
        · rw [show PyData.eqv G2 F = false from Bool.eq_false_iff.mpr fun z => e (nk_inj 8 8 _ _ R2.tk.kd kF ((eqv_iff 8 8 _ _ R2.tk.kd kF).mp z))]
          symm
          rw [Bool.eq_false_iff]
          intro z
          rw [Bool.and_eq_true] at z
          exact e (R2.uniq R t2 t1 z.2 z.1)
      rw [same, decide_eq_true rfl]
      have hs8 := hs7.same s8
      have hF8 := dp_same (sh s8) _ _ hF7
      have hv1 := dp_same (sh s8) _ _ hv1
      clear hF7 hs7 s8 hG2 hv2
      -- the table
      refine iteF ⟨_, rfl, by decide +kernel, fun r1 n1 => ⟨_, rfl, _, rfl, by decide +kernel, fun r2 n2 => ?_⟩⟩
      have s9 := same_upd (o := .lst (Fv.signs "abcdefgh")) n1
      have hr1 : upd H8 r1 (.lst (Fv.signs "abcdefgh")) r1 = some (.lst (Fv.signs "abcdefgh")) := upd_same
      have r1a : r1 ≠ a := fun z => by
        obtain ⟨_, _, _, _, h1, _⟩ := hs8
        rw [z, h1] at n1; cases n1
      generalize upd H8 r1 (.lst (Fv.signs "abcdefgh")) = H9 at *
      have hs9 := hs8.same s9
      have r2a : r2 ≠ a := fun z => by
        obtain ⟨_, _, _, _, h1, _⟩ := hs9
        rw [z, h1] at n2; cases n2
      have s10 := same_upd (o := .lst (Fv.signs "abcdefgh")) n2
      refine ⟨a, L, r2, ns, _, rfl, hs9.same s10, r2a, upd_same, by decide +kernel, fun H11 p11 ys pm np11 hp11 hs11 off11 => ?_⟩
      have hr1' := s10 _ _ hr1
      generalize upd H9 r2 (.lst (Fv.signs "abcdefgh")) = H10 at *
      have r1p : r1 ≠ p11 := fun z => by rw [← z, hr1'] at np11; cases np11
      have sm11 : SmX [a] H8 H11 := (SmX.of_same (s9.trans s10)).trans fun b o m e => by
        rw [off11 b (fun z => m (List.mem_singleton.mpr z)) (ne_of_none e np11)]; exact e
      have hr11 : H11 r1 = some (.lst (Fv.signs "abcdefgh")) := by rw [off11 r1 r1a r1p]; exact hr1'
      have hF11 := dp_same sm11.hid _ _ hF8
      have hv1 := dp_same sm11.hid _ _ hv1
      have ly : ys.length = (Fv.signs "abcdefgh").length := pm.length_eq
      have yl : ∀ y ∈ ys, ∃ z, y = V.str z ∧ isL z = true := fun y hy => by
        obtain ⟨c, hc, e⟩ := List.mem_map.mp (pm.mem_iff.mp hy)
        exact ⟨_, e.symm, (show ∀ c ∈ ("abcdefgh" : Str).cps.toList, isL ⟨#[c]⟩ = true by decide +kernel) c hc⟩
      clear hF8 hs8 s9 s10 n1 n2 hr1 hr1' hs9 off11 np11 r1p sm11
      refine ⟨r1, p11, ("abcdefgh" : Str).cps.toList.map fun c => ⟨#[c]⟩, ys, rfl, SqL.of (by rw [List.map_map]; exact hr11), SqL.of hp11, by rw [ly]; decide +kernel, fun c nc => ?_⟩
      obtain ⟨tb, tf⟩ := fT_ok (K := K) (H := hide [a] (upd H11 c (.dK (mergeK [] (kvZ (("abcdefgh" : Str).cps.toList.map fun c => ⟨#[c]⟩) ys))))) (ks := ("abcdefgh" : Str).cps.toList.map fun c => ⟨#[c]⟩) (ys := ys) (by decide +kernel) yl
      have s12 := same_upd (o := .dK (mergeK [] (kvZ (("abcdefgh" : Str).cps.toList.map fun c => ⟨#[c]⟩) ys))) nc
      have hc12 : upd H11 c (.dK (mergeK [] (kvZ (("abcdefgh" : Str).cps.toList.map fun c => ⟨#[c]⟩) ys))) c = some (.dK (mergeK [] (kvZ (("abcdefgh" : Str).cps.toList.map fun c => ⟨#[c]⟩) ys))) := upd_same
      show gName 8 (.ref c) _ (upd H11 c (.dK (mergeK [] (kvZ (("abcdefgh" : Str).cps.toList.map fun c => ⟨#[c]⟩) ys)))) _
      generalize upd H11 c (.dK (mergeK [] (kvZ (("abcdefgh" : Str).cps.toList.map fun c => ⟨#[c]⟩) ys))) = H12 at *
      generalize mergeK [] (kvZ (("abcdefgh" : Str).cps.toList.map fun c => ⟨#[c]⟩) ys) = tkv at *
      have hs12 := hs11.same s12
      have hF12 := dp_same (sh s12) _ _ hF11
      have hv1 := dp_same (sh s12) _ _ hv1
      clear hF11 hs11 s12 hr11 hp11 nc pm ly yl
      have l5F := ((tmB_iff F).mp R.tm).1
      have l51 := ((tmB_iff d1).mp t1).1
      have dF := R.ls.dep
      have tsw : ∀ {x : PyData}, tmB x = true → tmB (swp (fT tkv) 5 x) = true := fun {x} h => by
        have e := lmeas_swp tf 5 x ((tmB_iff x).mp h).1
        rw [tmB_iff, e]
        exact (tmB_iff x).mp h
      have ttn : ∀ {x : PyData}, tmB x = true → tmB (tnd 5 x) = true := fun {x} h => by
        have e := lmeas_tnd 5 x ((tmB_iff x).mp h).1
        rw [tmB_iff, e]
        exact (tmB_iff x).mp h
      have tb' : ∀ {X : Hp}, Same H12 X → tabOf K (hide [a] X) tkv (fT tkv) := fun z => tb.same (sh z)
      -- other letters
      refine ⟨_, rfl, _, rfl, v4, c, F, 5, [a], tkv, fT tkv, rfl, u hF12, gF, by decide, l5F, tS hs12, hc12, tb, fun H13 v13 s13 hw13 => ?_⟩
      refine ⟨v13, swp (fT tkv) 5 F, rfl, u hw13, (tk_tm (tsw R.tm)).gd, fun z => (by rw [tsw R.tm] at z; cases z), fun _ H14 v14 G14 s14 hG14 R14 => ?_⟩
      have s24 := s13.trans s14
      have hs14 := hs12.same s24
      refine ⟨_, rfl, _, rfl, v1, c, d1, 5, [a], tkv, fT tkv, rfl, dp_same s24 _ _ (u hv1), g1, by decide, l51, tS hs14, s24 _ _ hc12, tb' s24, fun H15 v15 s15 hw15 => ?_⟩
      refine ⟨v15, swp (fT tkv) 5 d1, rfl, u hw15, (tk_tm (tsw t1)).gd, fun z => (by rw [tsw t1] at z; cases z), fun _ H16 v16 G16 s16 hG16 R16 => ?_⟩
      have e16 : G16 = G14 := R16.uniq R14 (tsw t1) (tsw R.tm) (law_swp tf 20 d1 F (by omega) l51 l5F R.ge) (law_swp tf 20 F d1 (by omega) l5F l51 R.le)
      rw [e16] at hG16
      have g14 : gd 20 G14 = true := R14.tk.gd
      refine ⟨G14, G14, dp_same (s15.trans s16) _ _ hG14, hG16, gd_shaped g14 (by decide), gd_shaped g14 (by decide), _, rfl, ?_⟩
      rw [show PyData.eqv G14 G14 = true from (eqv_iff 8 8 _ _ R14.tk.kd R14.tk.kd).mpr rfl]
      have s26 := s24.trans (s15.trans s16)
      have hs16 := hs12.same s26
      have hF16 := dp_same (sh s26) _ _ hF12
      have hv1 := dp_same (sh s26) _ _ hv1
      clear hF12 hs12 hs14 hw13 hw15 s13 s14 s15 s16 s24 s26 hG14 hG16 R14 R16 e16 hc12 tb tb'
      -- turned
      refine iteF ⟨_, rfl, v4, F, 5, [a], rfl, u hF16, gF, by decide, l5F, tS hs16, fun H17 v17 s17 hw17 => ?_⟩
      refine ⟨v17, tnd 5 F, rfl, u hw17, (tk_tm (ttn R.tm)).gd, fun z => (by rw [ttn R.tm] at z; cases z), fun _ H18 v18 G18 s18 hG18 R18 => ?_⟩
      have s28 := s17.trans s18
      have hs18 := hs16.same s28
      refine ⟨_, rfl, v1, d1, 5, [a], rfl, dp_same s28 _ _ (u hv1), g1, by decide, l51, tS hs18, fun H19 v19 s19 hw19 => ?_⟩
      refine ⟨v19, tnd 5 d1, rfl, u hw19, (tk_tm (ttn t1)).gd, fun z => (by rw [ttn t1] at z; cases z), fun _ H20 v20 G20 s20 hG20 R20 => ?_⟩
      have e20 : G20 = G18 := R20.uniq R18 (ttn t1) (ttn R.tm) (law_tnd 20 F d1 (by omega) l5F l51 R.le) (law_tnd 20 d1 F (by omega) l51 l5F R.ge)
      rw [e20] at hG20
      have g18 : gd 20 G18 = true := R18.tk.gd
      refine ⟨G18, G18, dp_same (s19.trans s20) _ _ hG18, hG20, gd_shaped g18 (by decide), gd_shaped g18 (by decide), _, rfl, ?_⟩
      rw [show PyData.eqv G18 G18 = true from (eqv_iff 8 8 _ _ R18.tk.kd R18.tk.kd).mpr rfl]
      exact iteF ⟨_, _, _, _, _, _, _, rfl, hs18.same (s19.trans s20)⟩
    · rintro σ Hi ⟨y2, y3, y4, y5, y6, y7, y8, rfl, hsi⟩
      exact done Hi
end
end FvF


namespace Fv
open PySem PySem.Spec PyProof.Rows L2 FvX
open FvF (ok_law spLaw ok_below ok_below_now bl_zero ok_same_word sw_zero ok_rewritten ok_two_words ok_always ok_equal ok_finit ok_holds ok_way_of ok_found_way ok_way_all ho_zero spHo spWy spWa spFi spBl spSW spRw spTW spAB spEE ok_counts ok_merged ok_outer ok_closer ok_least ls_zero spLs ok_least_form spLF s_law s_law_below s_law_below_now s_law_same_word s_law_rewritten s_law_two_words s_always_below s_equal_everywhere s_counts_less s_merged_parts s_outer_parts s_closer_parts s_least s_least_form sc_law)
abbrev s_InvalidTerm : Stmt := inClass (topS 4) 0
def q_InvalidTerm : ErrPos := { p0 := ⟨46, 8, 46, 13⟩, p1 := ⟨46, 8, 46, 15⟩, p2 := ⟨46, 8, 46, 24⟩, p3 := ⟨46, 25, 46, 45⟩, p4 := ⟨46, 8, 46, 46⟩, p5 := ⟨46, 8, 46, 46⟩, p6 := ⟨47, 8, 47, 12⟩, p7 := ⟨47, 8, 47, 17⟩, p8 := ⟨47, 20, 47, 33⟩, p9 := ⟨47, 8, 47, 33⟩, pp := ⟨45, 17, 45, 21⟩ }
theorem kw_all {K : PySem.W.Frag} {D : Addr} {kws : List (Str × V)} (h : ∀ q ∈ kws, ∃ u, PySem.W.nsIn K D q.1 = some (some u) ∧ RelV q.2 u) : ∀ q ∈ kws, ∃ u, PySem.W.nsIn K D q.1 = some (some u) ∧ RelV q.2 u := h
set_option maxHeartbeats 8000000 in
theorem all_mk {l : PySem.W.OpenLaw} {w : World} {K : PySem.W.Frag} {h : Heap} {mg : Str → Option Value} {fa : Addr} (X : K.In h) (G : h.Ns mainGlobals mg) (hfa : mg "law" = some (.ref fa))
    {f1 : Addr} {od1 an1 : Option Addr} {sl1 : Array (Option Value)} {oc1 dc1 pm1 cd1 ct1 : Value}
    {kV1 : Value}
    {f2 : Addr} {od2 an2 : Option Addr} {sl2 : Array (Option Value)} {oc2 dc2 pm2 cd2 ct2 : Value}
    {kV2 : Value}
    {f3 : Addr} {od3 an3 : Option Addr} {sl3 : Array (Option Value)} {oc3 dc3 pm3 cd3 ct3 : Value}
    {kV3 : Value}
    {f4 : Addr} {od4 an4 : Option Addr} {sl4 : Array (Option Value)} {oc4 dc4 pm4 cd4 ct4 : Value}
    {D4 : Addr} {w4_0 : Tok} {w4_1 : Tok}
    {f5 : Addr} {od5 an5 : Option Addr} {sl5 : Array (Option Value)} {oc5 dc5 pm5 cd5 ct5 : Value}
    {kV5 : Value}
    {f6 : Addr} {od6 an6 : Option Addr} {sl6 : Array (Option Value)} {oc6 dc6 pm6 cd6 ct6 : Value}
    {kV6 : Value}
    {f7 : Addr} {od7 an7 : Option Addr} {sl7 : Array (Option Value)} {oc7 dc7 pm7 cd7 ct7 : Value}
    {kV7 : Value}
    {f8 : Addr} {od8 an8 : Option Addr} {sl8 : Array (Option Value)} {oc8 dc8 pm8 cd8 ct8 : Value}
    {kV8 : Value}
    {f9 : Addr} {od9 an9 : Option Addr} {sl9 : Array (Option Value)} {oc9 dc9 pm9 cd9 ct9 : Value}
    {kV9 : Value}
    {f10 : Addr} {od10 an10 : Option Addr} {sl10 : Array (Option Value)} {oc10 dc10 pm10 cd10 ct10 : Value}
    {kV10 : Value}
    {f11 : Addr} {od11 an11 : Option Addr} {sl11 : Array (Option Value)} {oc11 dc11 pm11 cd11 ct11 : Value}
    {kV11 : Value}
    {f12 : Addr} {od12 an12 : Option Addr} {sl12 : Array (Option Value)} {oc12 dc12 pm12 cd12 ct12 : Value}
    {kV12 : Value}
    {f13 : Addr} {od13 an13 : Option Addr} {sl13 : Array (Option Value)} {oc13 dc13 pm13 cd13 ct13 : Value}
    {kV13 : Value}
    {f14 : Addr} {od14 an14 : Option Addr} {sl14 : Array (Option Value)} {oc14 dc14 pm14 cd14 ct14 : Value}
    {kV14 : Value}
    {f15 : Addr} {od15 an15 : Option Addr} {sl15 : Array (Option Value)} {oc15 dc15 pm15 cd15 ct15 : Value}
    {kV15 : Value}
    {f16 : Addr} {od16 an16 : Option Addr} {sl16 : Array (Option Value)} {oc16 dc16 pm16 cd16 ct16 : Value}
    {kV16 : Value}
    {f17 : Addr} {od17 an17 : Option Addr} {sl17 : Array (Option Value)} {oc17 dc17 pm17 cd17 ct17 : Value}
    {kV17 : Value}
    {f18 : Addr} {od18 an18 : Option Addr} {sl18 : Array (Option Value)} {oc18 dc18 pm18 cd18 ct18 : Value}
    {kV18 : Value}
    {f19 : Addr} {od19 an19 : Option Addr} {sl19 : Array (Option Value)} {oc19 dc19 pm19 cd19 ct19 : Value}
    {kV19 : Value}
    {f20 : Addr} {od20 an20 : Option Addr} {sl20 : Array (Option Value)} {oc20 dc20 pm20 cd20 ct20 : Value}
    {kV20 : Value}
    {f21 : Addr} {od21 an21 : Option Addr} {sl21 : Array (Option Value)} {oc21 dc21 pm21 cd21 ct21 : Value}
    {kV21 : Value}
    {f22 : Addr} {od22 an22 : Option Addr} {sl22 : Array (Option Value)} {oc22 dc22 pm22 cd22 ct22 : Value}
    {kV22 : Value}
    {f23 : Addr} {od23 an23 : Option Addr} {sl23 : Array (Option Value)} {oc23 dc23 pm23 cd23 ct23 : Value}
    {kV23 : Value}
    {f24 : Addr} {od24 an24 : Option Addr} {sl24 : Array (Option Value)} {oc24 dc24 pm24 cd24 ct24 : Value}
    {kV24 : Value}
    {f25 : Addr} {od25 an25 : Option Addr} {sl25 : Array (Option Value)} {oc25 dc25 pm25 cd25 ct25 : Value}
    {kV25 : Value}
    {f26 : Addr} {od26 an26 : Option Addr} {sl26 : Array (Option Value)} {oc26 dc26 pm26 cd26 ct26 : Value}
    {kV26 : Value}
    {f27 : Addr} {od27 an27 : Option Addr} {sl27 : Array (Option Value)} {oc27 dc27 pm27 cd27 ct27 : Value}
    {kV27 : Value}
    {f28 : Addr} {od28 an28 : Option Addr} {sl28 : Array (Option Value)} {oc28 dc28 pm28 cd28 ct28 : Value}
    {kV28 : Value}
    {f29 : Addr} {od29 an29 : Option Addr} {sl29 : Array (Option Value)} {oc29 dc29 pm29 cd29 ct29 : Value}
    {kV29 : Value}
    {f30 : Addr} {od30 an30 : Option Addr} {sl30 : Array (Option Value)} {oc30 dc30 pm30 cd30 ct30 : Value}
    {kV30 : Value}
    {f31 : Addr} {od31 an31 : Option Addr} {sl31 : Array (Option Value)} {oc31 dc31 pm31 cd31 ct31 : Value}
    {kV31 : Value}
    {f32 : Addr} {od32 an32 : Option Addr} {sl32 : Array (Option Value)} {oc32 dc32 pm32 cd32 ct32 : Value}
    {kV32 : Value}
    {ctLETTERS : Tok}
    {oA1 : Addr} {ob1 : Option Addr} {on1 : Nat} {os1 : Array (Option Value)} {ot1_0 : Tok} {ot1_1 : Tok}
    {ctMAX_DEPTH : Tok}
    {ctMAX_SIZE : Tok}
    {CF : Addr}
    {C_InvalidTerm f_InvalidTerm : Addr} {eoc_InvalidTerm : Value} {eod_InvalidTerm ean_InvalidTerm : Option Addr} {eosl_InvalidTerm : Array (Option Value)} {ekV_InvalidTerm edoc_InvalidTerm epm_InvalidTerm ect_InvalidTerm : Value} {cda_InvalidTerm ecc_InvalidTerm : Addr} {eccl_InvalidTerm ecl_InvalidTerm : Value} {ecdd_InvalidTerm ecld_InvalidTerm : Option Addr} {evs_InvalidTerm : Array Value} {eccs_InvalidTerm ecsl_InvalidTerm : Array (Option Value)} {efile_InvalidTerm : Str} {etf_InvalidTerm : Tok}
    {nm_InvalidTerm eq_InvalidTerm : Str} {eN_InvalidTerm : Addr} {ebs_InvalidTerm ebm_InvalidTerm : List Value} {esn_InvalidTerm : List Str} {esub_InvalidTerm : List Value} {eab_InvalidTerm : Bool} {ecol_InvalidTerm : Option Bool} {edd_InvalidTerm : Option Addr} {ek0_InvalidTerm ek1_InvalidTerm ek2_InvalidTerm ek3_InvalidTerm ek5_InvalidTerm : Option Value}
    {C_FreeOrder : Addr}
    {f_FreeOrder_init : Addr} {od_FreeOrder_init an_FreeOrder_init : Option Addr} {sl_FreeOrder_init : Array (Option Value)} {oc_FreeOrder_init kV_FreeOrder_init dc_FreeOrder_init pm_FreeOrder_init cd_FreeOrder_init ct_FreeOrder_init : Value}
    {f_FreeOrder_holds : Addr} {od_FreeOrder_holds an_FreeOrder_holds : Option Addr} {sl_FreeOrder_holds : Array (Option Value)} {oc_FreeOrder_holds kV_FreeOrder_holds dc_FreeOrder_holds pm_FreeOrder_holds cd_FreeOrder_holds ct_FreeOrder_holds : Value}
    {f_FreeOrder_way_of : Addr} {od_FreeOrder_way_of an_FreeOrder_way_of : Option Addr} {sl_FreeOrder_way_of : Array (Option Value)} {oc_FreeOrder_way_of kV_FreeOrder_way_of dc_FreeOrder_way_of pm_FreeOrder_way_of cd_FreeOrder_way_of ct_FreeOrder_way_of : Value}
    {f_FreeOrder_found_way : Addr} {od_FreeOrder_found_way an_FreeOrder_found_way : Option Addr} {sl_FreeOrder_found_way : Array (Option Value)} {oc_FreeOrder_found_way kV_FreeOrder_found_way dc_FreeOrder_found_way pm_FreeOrder_found_way cd_FreeOrder_found_way ct_FreeOrder_found_way : Value}
    {f_FreeOrder_way_of_all : Addr} {od_FreeOrder_way_of_all an_FreeOrder_way_of_all : Option Addr} {sl_FreeOrder_way_of_all : Array (Option Value)} {oc_FreeOrder_way_of_all kV_FreeOrder_way_of_all dc_FreeOrder_way_of_all pm_FreeOrder_way_of_all cd_FreeOrder_way_of_all ct_FreeOrder_way_of_all : Value}
    (a1 : PySem.W.nsIn K mainGlobals "is_letter" = some (some (.ref f1))) (l1 : K.lookup f1 = some ⟨oc1, od1, .func (PySem.W.fnOf "is_letter" "is_letter" (defArgs s_is_letter) (defBody s_is_letter) (defScope s_is_letter) .none kV1 dc1 pm1 an1 cd1 ct1), sl1⟩) (c1 : PySem.W.codeIn K cd1 "is_letter" = true) (k1 : PySem.W.keepIn K (.ref f1) = true)
    (a2 : PySem.W.nsIn K mainGlobals "is_compound" = some (some (.ref f2))) (l2 : K.lookup f2 = some ⟨oc2, od2, .func (PySem.W.fnOf "is_compound" "is_compound" (defArgs s_is_compound) (defBody s_is_compound) (defScope s_is_compound) .none kV2 dc2 pm2 an2 cd2 ct2), sl2⟩) (c2 : PySem.W.codeIn K cd2 "is_compound" = true) (k2 : PySem.W.keepIn K (.ref f2) = true)
    (a3 : PySem.W.nsIn K mainGlobals "measured" = some (some (.ref f3))) (l3 : K.lookup f3 = some ⟨oc3, od3, .func (PySem.W.fnOf "measured" "measured" (defArgs s_measured) (defBody s_measured) (defScope s_measured) .none kV3 dc3 pm3 an3 cd3 ct3), sl3⟩) (c3 : PySem.W.codeIn K cd3 "measured" = true) (k3 : PySem.W.keepIn K (.ref f3) = true)
    (a4 : PySem.W.nsIn K mainGlobals "is_term" = some (some (.ref f4))) (l4 : K.lookup f4 = some ⟨oc4, od4, .func (PySem.W.fnOf "is_term" "is_term" (defArgs s_is_term) (defBody s_is_term) (defScope s_is_term) .none (.ref D4) dc4 pm4 an4 cd4 ct4), sl4⟩) (c4 : PySem.W.codeIn K cd4 "is_term" = true) (k4 : PySem.W.keepIn K (.ref f4) = true)
    (x4_0 : PySem.W.nsIn K D4 "max_depth" = some (some (.int 5 w4_0)))
    (x4_1 : PySem.W.nsIn K D4 "max_size" = some (some (.int 24 w4_1)))
    (a5 : PySem.W.nsIn K mainGlobals "checked_term" = some (some (.ref f5))) (l5 : K.lookup f5 = some ⟨oc5, od5, .func (PySem.W.fnOf "checked_term" "checked_term" (defArgs s_checked_term) (defBody s_checked_term) (defScope s_checked_term) .none kV5 dc5 pm5 an5 cd5 ct5), sl5⟩) (c5 : PySem.W.codeIn K cd5 "checked_term" = true) (k5 : PySem.W.keepIn K (.ref f5) = true)
    (a6 : PySem.W.nsIn K mainGlobals "term_text" = some (some (.ref f6))) (l6 : K.lookup f6 = some ⟨oc6, od6, .func (PySem.W.fnOf "term_text" "term_text" (defArgs s_term_text) (defBody s_term_text) (defScope s_term_text) .none kV6 dc6 pm6 an6 cd6 ct6), sl6⟩) (c6 : PySem.W.codeIn K cd6 "term_text" = true) (k6 : PySem.W.keepIn K (.ref f6) = true)
    (a7 : PySem.W.nsIn K mainGlobals "part_text" = some (some (.ref f7))) (l7 : K.lookup f7 = some ⟨oc7, od7, .func (PySem.W.fnOf "part_text" "part_text" (defArgs s_part_text) (defBody s_part_text) (defScope s_part_text) .none kV7 dc7 pm7 an7 cd7 ct7), sl7⟩) (c7 : PySem.W.codeIn K cd7 "part_text" = true) (k7 : PySem.W.keepIn K (.ref f7) = true)
    (a8 : PySem.W.nsIn K mainGlobals "always_below" = some (some (.ref f8))) (l8 : K.lookup f8 = some ⟨oc8, od8, .func (PySem.W.fnOf "always_below" "always_below" (defArgs s_always_below) (defBody s_always_below) (defScope s_always_below) .none kV8 dc8 pm8 an8 cd8 ct8), sl8⟩) (c8 : PySem.W.codeIn K cd8 "always_below" = true) (k8 : PySem.W.keepIn K (.ref f8) = true)
    (a9 : PySem.W.nsIn K mainGlobals "equal_everywhere" = some (some (.ref f9))) (l9 : K.lookup f9 = some ⟨oc9, od9, .func (PySem.W.fnOf "equal_everywhere" "equal_everywhere" (defArgs s_equal_everywhere) (defBody s_equal_everywhere) (defScope s_equal_everywhere) .none kV9 dc9 pm9 an9 cd9 ct9), sl9⟩) (c9 : PySem.W.codeIn K cd9 "equal_everywhere" = true) (k9 : PySem.W.keepIn K (.ref f9) = true)
    (a10 : PySem.W.nsIn K mainGlobals "least_form" = some (some (.ref f10))) (l10 : K.lookup f10 = some ⟨oc10, od10, .func (PySem.W.fnOf "least_form" "least_form" (defArgs s_least_form) (defBody s_least_form) (defScope s_least_form) .none kV10 dc10 pm10 an10 cd10 ct10), sl10⟩) (c10 : PySem.W.codeIn K cd10 "least_form" = true) (k10 : PySem.W.keepIn K (.ref f10) = true)
    (a11 : PySem.W.nsIn K mainGlobals "least" = some (some (.ref f11))) (l11 : K.lookup f11 = some ⟨oc11, od11, .func (PySem.W.fnOf "least" "least" (defArgs s_least) (defBody s_least) (defScope s_least) .none kV11 dc11 pm11 an11 cd11 ct11), sl11⟩) (c11 : PySem.W.codeIn K cd11 "least" = true) (k11 : PySem.W.keepIn K (.ref f11) = true)
    (a12 : PySem.W.nsIn K mainGlobals "counts_less" = some (some (.ref f12))) (l12 : K.lookup f12 = some ⟨oc12, od12, .func (PySem.W.fnOf "counts_less" "counts_less" (defArgs s_counts_less) (defBody s_counts_less) (defScope s_counts_less) .none kV12 dc12 pm12 an12 cd12 ct12), sl12⟩) (c12 : PySem.W.codeIn K cd12 "counts_less" = true) (k12 : PySem.W.keepIn K (.ref f12) = true)
    (a13 : PySem.W.nsIn K mainGlobals "merged_parts" = some (some (.ref f13))) (l13 : K.lookup f13 = some ⟨oc13, od13, .func (PySem.W.fnOf "merged_parts" "merged_parts" (defArgs s_merged_parts) (defBody s_merged_parts) (defScope s_merged_parts) .none kV13 dc13 pm13 an13 cd13 ct13), sl13⟩) (c13 : PySem.W.codeIn K cd13 "merged_parts" = true) (k13 : PySem.W.keepIn K (.ref f13) = true)
    (a14 : PySem.W.nsIn K mainGlobals "outer_parts" = some (some (.ref f14))) (l14 : K.lookup f14 = some ⟨oc14, od14, .func (PySem.W.fnOf "outer_parts" "outer_parts" (defArgs s_outer_parts) (defBody s_outer_parts) (defScope s_outer_parts) .none kV14 dc14 pm14 an14 cd14 ct14), sl14⟩) (c14 : PySem.W.codeIn K cd14 "outer_parts" = true) (k14 : PySem.W.keepIn K (.ref f14) = true)
    (a15 : PySem.W.nsIn K mainGlobals "closer_parts" = some (some (.ref f15))) (l15 : K.lookup f15 = some ⟨oc15, od15, .func (PySem.W.fnOf "closer_parts" "closer_parts" (defArgs s_closer_parts) (defBody s_closer_parts) (defScope s_closer_parts) .none kV15 dc15 pm15 an15 cd15 ct15), sl15⟩) (c15 : PySem.W.codeIn K cd15 "closer_parts" = true) (k15 : PySem.W.keepIn K (.ref f15) = true)
    (a16 : PySem.W.nsIn K mainGlobals "_law_source" = some (some (.ref f16))) (l16 : K.lookup f16 = some ⟨oc16, od16, .func (PySem.W.fnOf "_law_source" "_law_source" (defArgs s_law_source) (defBody s_law_source) (defScope s_law_source) .none kV16 dc16 pm16 an16 cd16 ct16), sl16⟩) (c16 : PySem.W.codeIn K cd16 "_law_source" = true) (k16 : PySem.W.keepIn K (.ref f16) = true)
    (a17 : PySem.W.nsIn K mainGlobals "_law_take" = some (some (.ref f17))) (l17 : K.lookup f17 = some ⟨oc17, od17, .func (PySem.W.fnOf "_law_take" "_law_take" (defArgs s_law_take) (defBody s_law_take) (defScope s_law_take) .none kV17 dc17 pm17 an17 cd17 ct17), sl17⟩) (c17 : PySem.W.codeIn K cd17 "_law_take" = true) (k17 : PySem.W.keepIn K (.ref f17) = true)
    (a18 : PySem.W.nsIn K mainGlobals "_law_pick" = some (some (.ref f18))) (l18 : K.lookup f18 = some ⟨oc18, od18, .func (PySem.W.fnOf "_law_pick" "_law_pick" (defArgs s_law_pick) (defBody s_law_pick) (defScope s_law_pick) .none kV18 dc18 pm18 an18 cd18 ct18), sl18⟩) (c18 : PySem.W.codeIn K cd18 "_law_pick" = true) (k18 : PySem.W.keepIn K (.ref f18) = true)
    (a19 : PySem.W.nsIn K mainGlobals "_law_mixed" = some (some (.ref f19))) (l19 : K.lookup f19 = some ⟨oc19, od19, .func (PySem.W.fnOf "_law_mixed" "_law_mixed" (defArgs s_law_mixed) (defBody s_law_mixed) (defScope s_law_mixed) .none kV19 dc19 pm19 an19 cd19 ct19), sl19⟩) (c19 : PySem.W.codeIn K cd19 "_law_mixed" = true) (k19 : PySem.W.keepIn K (.ref f19) = true)
    (a20 : PySem.W.nsIn K mainGlobals "_law_text" = some (some (.ref f20))) (l20 : K.lookup f20 = some ⟨oc20, od20, .func (PySem.W.fnOf "_law_text" "_law_text" (defArgs s_law_text) (defBody s_law_text) (defScope s_law_text) .none kV20 dc20 pm20 an20 cd20 ct20), sl20⟩) (c20 : PySem.W.codeIn K cd20 "_law_text" = true) (k20 : PySem.W.keepIn K (.ref f20) = true)
    (a21 : PySem.W.nsIn K mainGlobals "_law_turned" = some (some (.ref f21))) (l21 : K.lookup f21 = some ⟨oc21, od21, .func (PySem.W.fnOf "_law_turned" "_law_turned" (defArgs s_law_turned) (defBody s_law_turned) (defScope s_law_turned) .none kV21 dc21 pm21 an21 cd21 ct21), sl21⟩) (c21 : PySem.W.codeIn K cd21 "_law_turned" = true) (k21 : PySem.W.keepIn K (.ref f21) = true)
    (a22 : PySem.W.nsIn K mainGlobals "_law_swap" = some (some (.ref f22))) (l22 : K.lookup f22 = some ⟨oc22, od22, .func (PySem.W.fnOf "_law_swap" "_law_swap" (defArgs s_law_swap) (defBody s_law_swap) (defScope s_law_swap) .none kV22 dc22 pm22 an22 cd22 ct22), sl22⟩) (c22 : PySem.W.codeIn K cd22 "_law_swap" = true) (k22 : PySem.W.keepIn K (.ref f22) = true)
    (a23 : PySem.W.nsIn K mainGlobals "_law_term" = some (some (.ref f23))) (l23 : K.lookup f23 = some ⟨oc23, od23, .func (PySem.W.fnOf "_law_term" "_law_term" (defArgs s_law_term) (defBody s_law_term) (defScope s_law_term) .none kV23 dc23 pm23 an23 cd23 ct23), sl23⟩) (c23 : PySem.W.codeIn K cd23 "_law_term" = true) (k23 : PySem.W.keepIn K (.ref f23) = true)
    (a24 : PySem.W.nsIn K mainGlobals "_law_signs" = some (some (.ref f24))) (l24 : K.lookup f24 = some ⟨oc24, od24, .func (PySem.W.fnOf "_law_signs" "_law_signs" (defArgs s_law_signs) (defBody s_law_signs) (defScope s_law_signs) .none kV24 dc24 pm24 an24 cd24 ct24), sl24⟩) (c24 : PySem.W.codeIn K cd24 "_law_signs" = true) (k24 : PySem.W.keepIn K (.ref f24) = true)
    (a25 : PySem.W.nsIn K mainGlobals "_law_below" = some (some (.ref f25))) (l25 : K.lookup f25 = some ⟨oc25, od25, .func (PySem.W.fnOf "_law_below" "_law_below" (defArgs s_law_below) (defBody s_law_below) (defScope s_law_below) .none kV25 dc25 pm25 an25 cd25 ct25), sl25⟩) (c25 : PySem.W.codeIn K cd25 "_law_below" = true) (k25 : PySem.W.keepIn K (.ref f25) = true)
    (a26 : PySem.W.nsIn K mainGlobals "_law_below_now" = some (some (.ref f26))) (l26 : K.lookup f26 = some ⟨oc26, od26, .func (PySem.W.fnOf "_law_below_now" "_law_below_now" (defArgs s_law_below_now) (defBody s_law_below_now) (defScope s_law_below_now) .none kV26 dc26 pm26 an26 cd26 ct26), sl26⟩) (c26 : PySem.W.codeIn K cd26 "_law_below_now" = true) (k26 : PySem.W.keepIn K (.ref f26) = true)
    (a27 : PySem.W.nsIn K mainGlobals "_law_measure" = some (some (.ref f27))) (l27 : K.lookup f27 = some ⟨oc27, od27, .func (PySem.W.fnOf "_law_measure" "_law_measure" (defArgs s_law_measure) (defBody s_law_measure) (defScope s_law_measure) .none kV27 dc27 pm27 an27 cd27 ct27), sl27⟩) (c27 : PySem.W.codeIn K cd27 "_law_measure" = true) (k27 : PySem.W.keepIn K (.ref f27) = true)
    (a28 : PySem.W.nsIn K mainGlobals "_law_fits" = some (some (.ref f28))) (l28 : K.lookup f28 = some ⟨oc28, od28, .func (PySem.W.fnOf "_law_fits" "_law_fits" (defArgs s_law_fits) (defBody s_law_fits) (defScope s_law_fits) .none kV28 dc28 pm28 an28 cd28 ct28), sl28⟩) (c28 : PySem.W.codeIn K cd28 "_law_fits" = true) (k28 : PySem.W.keepIn K (.ref f28) = true)
    (a29 : PySem.W.nsIn K mainGlobals "_law_same_word" = some (some (.ref f29))) (l29 : K.lookup f29 = some ⟨oc29, od29, .func (PySem.W.fnOf "_law_same_word" "_law_same_word" (defArgs s_law_same_word) (defBody s_law_same_word) (defScope s_law_same_word) .none kV29 dc29 pm29 an29 cd29 ct29), sl29⟩) (c29 : PySem.W.codeIn K cd29 "_law_same_word" = true) (k29 : PySem.W.keepIn K (.ref f29) = true)
    (a30 : PySem.W.nsIn K mainGlobals "_law_rewritten" = some (some (.ref f30))) (l30 : K.lookup f30 = some ⟨oc30, od30, .func (PySem.W.fnOf "_law_rewritten" "_law_rewritten" (defArgs s_law_rewritten) (defBody s_law_rewritten) (defScope s_law_rewritten) .none kV30 dc30 pm30 an30 cd30 ct30), sl30⟩) (c30 : PySem.W.codeIn K cd30 "_law_rewritten" = true) (k30 : PySem.W.keepIn K (.ref f30) = true)
    (a31 : PySem.W.nsIn K mainGlobals "_law_two_words" = some (some (.ref f31))) (l31 : K.lookup f31 = some ⟨oc31, od31, .func (PySem.W.fnOf "_law_two_words" "_law_two_words" (defArgs s_law_two_words) (defBody s_law_two_words) (defScope s_law_two_words) .none kV31 dc31 pm31 an31 cd31 ct31), sl31⟩) (c31 : PySem.W.codeIn K cd31 "_law_two_words" = true) (k31 : PySem.W.keepIn K (.ref f31) = true)
    (a32 : PySem.W.nsIn K mainGlobals "law" = some (some (.ref f32))) (l32 : K.lookup f32 = some ⟨oc32, od32, .func (PySem.W.fnOf "law" "law" (defArgs s_law) (defBody s_law) (defScope s_law) .none kV32 dc32 pm32 an32 cd32 ct32), sl32⟩) (c32 : PySem.W.codeIn K cd32 "law" = true) (k32 : PySem.W.keepIn K (.ref f32) = true)
    (y0 : PySem.W.nsIn K mainGlobals "LETTERS" = some (some (.str "abcdefgh" ctLETTERS)))
    (y1 : PySem.W.nsIn K mainGlobals "OPERATORS" = some (some (.ref oA1))) (yl1 : K.lookup oA1 = some ⟨.type "tuple", ob1, .seq #[.str "&" ot1_0, .str "|" ot1_1] on1, os1⟩)
    (y2 : PySem.W.nsIn K mainGlobals "MAX_DEPTH" = some (some (.int 5 ctMAX_DEPTH)))
    (y3 : PySem.W.nsIn K mainGlobals "MAX_SIZE" = some (some (.int 24 ctMAX_SIZE)))
    (z_len : PySem.W.nsIn K mainGlobals "len" = some none)
    (z_int : PySem.W.nsIn K mainGlobals "int" = some none)
    (z_list : PySem.W.nsIn K mainGlobals "list" = some none)
    (z_str : PySem.W.nsIn K mainGlobals "str" = some none)
    (z_tuple : PySem.W.nsIn K mainGlobals "tuple" = some none)
    (z_isinstance : PySem.W.nsIn K mainGlobals "isinstance" = some none)
    (z_dict : PySem.W.nsIn K mainGlobals "dict" = some none)
    (z_all : PySem.W.nsIn K mainGlobals "all" = some none)
    (z_any : PySem.W.nsIn K mainGlobals "any" = some none)
    (z_zip : PySem.W.nsIn K mainGlobals "zip" = some none)
    (z_sum : PySem.W.nsIn K mainGlobals "sum" = some none)
    (z_max : PySem.W.nsIn K mainGlobals "max" = some none)
    (z_range : PySem.W.nsIn K mainGlobals "range" = some none)
    (z_super : PySem.W.nsIn K mainGlobals "super" = some none)
    (z_sorted : PySem.W.nsIn K mainGlobals "sorted" = some none)
    (z_enumerate : PySem.W.nsIn K mainGlobals "enumerate" = some none)
    (e1 : PySem.W.nsIn K mainGlobals "FaultError" = some (some (.ref CF)))
    (e23a : PySem.W.subIn K (.ref CF) (.type "BaseException") = some true)
    (e23b : PySem.W.isClsIn K CF = true)
    (e23c : PySem.W.typeIn K (.ref CF) = some (.type "type"))
    (e20 : PySem.W.nsIn K cStatics "thirdparty.any" = some none)
    (e27 : (l.prog.main.scope.names.lookup ("super" : Str)).isSome = false)
    (e2_InvalidTerm : PySem.W.nsIn K mainGlobals "InvalidTerm" = some (some (.ref C_InvalidTerm)))
    (e3_InvalidTerm : K.lookup C_InvalidTerm = some (excClassObj nm_InvalidTerm eq_InvalidTerm C_InvalidTerm eN_InvalidTerm ebs_InvalidTerm ebm_InvalidTerm true esn_InvalidTerm esub_InvalidTerm eab_InvalidTerm ecol_InvalidTerm edd_InvalidTerm ek0_InvalidTerm ek1_InvalidTerm ek2_InvalidTerm ek3_InvalidTerm ek5_InvalidTerm "ValueError.__new__"))
    (e4_InvalidTerm : PySem.HandSPX.refsVE ebm_InvalidTerm = true)
    (e5_InvalidTerm : PySem.W.findIn K (.ref C_InvalidTerm) "__setattr__" = some (some (.builtin "object.__setattr__")))
    (e6_InvalidTerm : PySem.W.subIn K (.ref C_InvalidTerm) (.type "BaseException") = some true)
    (e7_InvalidTerm : PySem.W.typeIn K (.ref C_InvalidTerm) = some (.type "type"))
    (e8_InvalidTerm : PySem.W.keepIn K (.ref C_InvalidTerm) = true)
    (e13_InvalidTerm : PySem.W.findIn K (.ref C_InvalidTerm) "__init__" = some (some (.ref f_InvalidTerm)))
    (e9_InvalidTerm : K.lookup f_InvalidTerm = some ⟨eoc_InvalidTerm, eod_InvalidTerm, .func (PySem.W.ksFn "__init__" "InvalidTerm.__init__" (defArgs s_InvalidTerm) (defBody s_InvalidTerm) (defScope s_InvalidTerm) .none ekV_InvalidTerm edoc_InvalidTerm epm_InvalidTerm ean_InvalidTerm (.ref cda_InvalidTerm) ect_InvalidTerm ecc_InvalidTerm), eosl_InvalidTerm⟩)
    (e10_InvalidTerm : PySem.W.codeIn K (.ref cda_InvalidTerm) "InvalidTerm.__init__" = true)
    (e11_InvalidTerm : K.lookup cda_InvalidTerm = some ⟨eccl_InvalidTerm, ecdd_InvalidTerm, .fields evs_InvalidTerm, eccs_InvalidTerm⟩)
    (e12_InvalidTerm : evs_InvalidTerm[2]? = some (.str efile_InvalidTerm etf_InvalidTerm))
    (e14_InvalidTerm : (l.prog.main.file == efile_InvalidTerm) = true)
    (e15_InvalidTerm : K.lookup ecc_InvalidTerm = some ⟨ecl_InvalidTerm, ecld_InvalidTerm, .cell (some (.ref C_InvalidTerm)), ecsl_InvalidTerm⟩)
    (e16_InvalidTerm : PySem.W.ks_superIn K C_InvalidTerm C_InvalidTerm "__init__" = some (some (.builtin "ValueError.__init__")))
    (e17_InvalidTerm : PySem.W.mroIn K C_InvalidTerm (.ref C_InvalidTerm) = some true)
    (e18_InvalidTerm : PySem.W.subIn K (.ref C_InvalidTerm) (.type "ValueError") = some true)
    (e19t_InvalidTerm : PySem.W.excTail FvX.veTail4 ebm_InvalidTerm = true)
    (e21_InvalidTerm : PySem.W.findIn K (.ref C_InvalidTerm) "code" = some none)
    (e22_InvalidTerm : PySem.W.typeIn K (.ref f_InvalidTerm) = some (.type "function"))
    (e23d_InvalidTerm : PySem.W.subIn K (.ref C_InvalidTerm) (.ref CF) = some true)
    (e24_InvalidTerm : PySem.W.findIn K (.ref C_InvalidTerm) "__getattribute__" = some (some (.builtin "BaseException.__getattribute__")))
    (e25_InvalidTerm : PySem.W.findIn K (.ref C_InvalidTerm) "__getattr__" = some none)
    (e26_InvalidTerm : PySem.W.hasDictIn K C_InvalidTerm = true)
    (aC_FreeOrder : PySem.W.nsIn K mainGlobals "FreeOrder" = some (some (.ref C_FreeOrder)))
    (pg_FreeOrder : PySem.W.plainGet K C_FreeOrder Str.empty = true)
    (hd_FreeOrder : PySem.W.hasDictIn K C_FreeOrder = true)
    (po_FreeOrder : PySem.W.plainOver K C_FreeOrder = true)
    (sa_FreeOrder : PySem.W.findIn K (.ref C_FreeOrder) "__setattr__" = some (some (.builtin "object.__setattr__")))
    (mk_FreeOrder : PySem.W.makesIn K C_FreeOrder = true)
    (kc_FreeOrder : PySem.W.keepIn K (.ref C_FreeOrder) = true)
    (na_FreeOrder_ways : PySem.W.findIn K (.ref C_FreeOrder) "ways" = some none)
    (a_FreeOrder_init : PySem.W.findIn K (.ref C_FreeOrder) "__init__" = some (some (.ref f_FreeOrder_init)))
    (i_FreeOrder_init : PySem.W.isFn K (.ref f_FreeOrder_init) = true)
    (l_FreeOrder_init : K.lookup f_FreeOrder_init = some ⟨oc_FreeOrder_init, od_FreeOrder_init, .func (PySem.W.fnOf "__init__" "FreeOrder.__init__" (defArgs FvF.s_init__of__FreeOrder) (defBody FvF.s_init__of__FreeOrder) (defScope FvF.s_init__of__FreeOrder) .none kV_FreeOrder_init dc_FreeOrder_init pm_FreeOrder_init an_FreeOrder_init cd_FreeOrder_init ct_FreeOrder_init), sl_FreeOrder_init⟩)
    (c_FreeOrder_init : PySem.W.codeIn K cd_FreeOrder_init "FreeOrder.__init__" = true)
    (k_FreeOrder_init : PySem.W.keepIn K (.ref f_FreeOrder_init) = true)
    (a_FreeOrder_holds : PySem.W.findIn K (.ref C_FreeOrder) "holds" = some (some (.ref f_FreeOrder_holds)))
    (i_FreeOrder_holds : PySem.W.isFn K (.ref f_FreeOrder_holds) = true)
    (l_FreeOrder_holds : K.lookup f_FreeOrder_holds = some ⟨oc_FreeOrder_holds, od_FreeOrder_holds, .func (PySem.W.fnOf "holds" "FreeOrder.holds" (defArgs FvF.s_holds__of__FreeOrder) (defBody FvF.s_holds__of__FreeOrder) (defScope FvF.s_holds__of__FreeOrder) .none kV_FreeOrder_holds dc_FreeOrder_holds pm_FreeOrder_holds an_FreeOrder_holds cd_FreeOrder_holds ct_FreeOrder_holds), sl_FreeOrder_holds⟩)
    (c_FreeOrder_holds : PySem.W.codeIn K cd_FreeOrder_holds "FreeOrder.holds" = true)
    (k_FreeOrder_holds : PySem.W.keepIn K (.ref f_FreeOrder_holds) = true)
    (a_FreeOrder_way_of : PySem.W.findIn K (.ref C_FreeOrder) "way_of" = some (some (.ref f_FreeOrder_way_of)))
    (i_FreeOrder_way_of : PySem.W.isFn K (.ref f_FreeOrder_way_of) = true)
    (l_FreeOrder_way_of : K.lookup f_FreeOrder_way_of = some ⟨oc_FreeOrder_way_of, od_FreeOrder_way_of, .func (PySem.W.fnOf "way_of" "FreeOrder.way_of" (defArgs FvF.s_way_of__of__FreeOrder) (defBody FvF.s_way_of__of__FreeOrder) (defScope FvF.s_way_of__of__FreeOrder) .none kV_FreeOrder_way_of dc_FreeOrder_way_of pm_FreeOrder_way_of an_FreeOrder_way_of cd_FreeOrder_way_of ct_FreeOrder_way_of), sl_FreeOrder_way_of⟩)
    (c_FreeOrder_way_of : PySem.W.codeIn K cd_FreeOrder_way_of "FreeOrder.way_of" = true)
    (k_FreeOrder_way_of : PySem.W.keepIn K (.ref f_FreeOrder_way_of) = true)
    (a_FreeOrder_found_way : PySem.W.findIn K (.ref C_FreeOrder) "found_way" = some (some (.ref f_FreeOrder_found_way)))
    (i_FreeOrder_found_way : PySem.W.isFn K (.ref f_FreeOrder_found_way) = true)
    (l_FreeOrder_found_way : K.lookup f_FreeOrder_found_way = some ⟨oc_FreeOrder_found_way, od_FreeOrder_found_way, .func (PySem.W.fnOf "found_way" "FreeOrder.found_way" (defArgs FvF.s_found_way__of__FreeOrder) (defBody FvF.s_found_way__of__FreeOrder) (defScope FvF.s_found_way__of__FreeOrder) .none kV_FreeOrder_found_way dc_FreeOrder_found_way pm_FreeOrder_found_way an_FreeOrder_found_way cd_FreeOrder_found_way ct_FreeOrder_found_way), sl_FreeOrder_found_way⟩)
    (c_FreeOrder_found_way : PySem.W.codeIn K cd_FreeOrder_found_way "FreeOrder.found_way" = true)
    (k_FreeOrder_found_way : PySem.W.keepIn K (.ref f_FreeOrder_found_way) = true)
    (a_FreeOrder_way_of_all : PySem.W.findIn K (.ref C_FreeOrder) "way_of_all" = some (some (.ref f_FreeOrder_way_of_all)))
    (i_FreeOrder_way_of_all : PySem.W.isFn K (.ref f_FreeOrder_way_of_all) = true)
    (l_FreeOrder_way_of_all : K.lookup f_FreeOrder_way_of_all = some ⟨oc_FreeOrder_way_of_all, od_FreeOrder_way_of_all, .func (PySem.W.fnOf "way_of_all" "FreeOrder.way_of_all" (defArgs FvF.s_way_of_all__of__FreeOrder) (defBody FvF.s_way_of_all__of__FreeOrder) (defScope FvF.s_way_of_all__of__FreeOrder) .none kV_FreeOrder_way_of_all dc_FreeOrder_way_of_all pm_FreeOrder_way_of_all an_FreeOrder_way_of_all cd_FreeOrder_way_of_all ct_FreeOrder_way_of_all), sl_FreeOrder_way_of_all⟩)
    (c_FreeOrder_way_of_all : PySem.W.codeIn K cd_FreeOrder_way_of_all "FreeOrder.way_of_all" = true)
    (k_FreeOrder_way_of_all : PySem.W.keepIn K (.ref f_FreeOrder_way_of_all) = true)
    : ∃ fd : FuncData, (∀ (s : Shared) (v : Value), BindsTo s fd ⟨[v], []⟩ [("_law_script", v)]) ∧ ∀ base : Heap, K.In base → base.Ns mainGlobals mg → FnOk l.prog w K mg base CX0 67 fa fd ["_law_script"] (spLaw K) := by
  have e := hfa.symm.trans (PySem.W.mg_of X G a32)
  cases e
  have F1 := fun_mk (st := s_is_letter) l1 c1 k1
  have g1 := PySem.W.mg_of X G a1
  have b1 := F1.binds (ps := ["value"]) fun _ _ _ _ _ _ us hl => match us, hl with | [_], _ => rfl
  have F2 := fun_mk (st := s_is_compound) l2 c2 k2
  have g2 := PySem.W.mg_of X G a2
  have b2 := F2.binds (ps := ["value"]) fun _ _ _ _ _ _ us hl => match us, hl with | [_], _ => rfl
  have F3 := fun_mk (st := s_measured) l3 c3 k3
  have g3 := PySem.W.mg_of X G a3
  have b3 := F3.binds (ps := ["value", "max_depth", "max_size"]) fun _ _ _ _ _ _ us hl => match us, hl with | [_, _, _], _ => rfl
  have F4 : FunD K "is_term" "is_term" (defArgs s_is_term) (defBody s_is_term) (defScope s_is_term) [] [("max_depth", .int 5), ("max_size", .int 24)] f4 _ := ⟨⟨_, _, _, _, _, _, _, _, _, _, rfl, l4, c4, .inl ⟨rfl, rfl⟩, .inr ⟨D4, rfl, kw_all (by
    simp only [List.mem_cons, List.not_mem_nil, or_false, forall_eq_or_imp, forall_eq]
    exact ⟨⟨_, x4_0, ⟨_, rfl⟩⟩, ⟨_, x4_1, ⟨_, rfl⟩⟩⟩)⟩⟩, k4⟩
  have g4 := PySem.W.mg_of X G a4
  have F5 := fun_mk (st := s_checked_term) l5 c5 k5
  have g5 := PySem.W.mg_of X G a5
  have b5 := F5.binds (ps := ["value"]) fun _ _ _ _ _ _ us hl => match us, hl with | [_], _ => rfl
  have F6 := fun_mk (st := s_term_text) l6 c6 k6
  have g6 := PySem.W.mg_of X G a6
  have b6 := F6.binds (ps := ["term"]) fun _ _ _ _ _ _ us hl => match us, hl with | [_], _ => rfl
  have F7 := fun_mk (st := s_part_text) l7 c7 k7
  have g7 := PySem.W.mg_of X G a7
  have b7 := F7.binds (ps := ["part"]) fun _ _ _ _ _ _ us hl => match us, hl with | [_], _ => rfl
  have F8 := fun_mk (st := s_always_below) l8 c8 k8
  have g8 := PySem.W.mg_of X G a8
  have b8 := F8.binds (ps := ["left", "right"]) fun _ _ _ _ _ _ us hl => match us, hl with | [_, _], _ => rfl
  have F9 := fun_mk (st := s_equal_everywhere) l9 c9 k9
  have g9 := PySem.W.mg_of X G a9
  have b9 := F9.binds (ps := ["one", "other"]) fun _ _ _ _ _ _ us hl => match us, hl with | [_, _], _ => rfl
  have F10 := fun_mk (st := s_least_form) l10 c10 k10
  have g10 := PySem.W.mg_of X G a10
  have b10 := F10.binds (ps := ["term"]) fun _ _ _ _ _ _ us hl => match us, hl with | [_], _ => rfl
  have F11 := fun_mk (st := s_least) l11 c11 k11
  have g11 := PySem.W.mg_of X G a11
  have b11 := F11.binds (ps := ["order", "term"]) fun _ _ _ _ _ _ us hl => match us, hl with | [_, _], _ => rfl
  have F12 := fun_mk (st := s_counts_less) l12 c12 k12
  have g12 := PySem.W.mg_of X G a12
  have b12 := F12.binds (ps := ["order", "sign", "one", "other"]) fun _ _ _ _ _ _ us hl => match us, hl with | [_, _, _, _], _ => rfl
  have F13 := fun_mk (st := s_merged_parts) l13 c13 k13
  have g13 := PySem.W.mg_of X G a13
  have b13 := F13.binds (ps := ["sign", "parts"]) fun _ _ _ _ _ _ us hl => match us, hl with | [_, _], _ => rfl
  have F14 := fun_mk (st := s_outer_parts) l14 c14 k14
  have g14 := PySem.W.mg_of X G a14
  have b14 := F14.binds (ps := ["order", "sign", "parts"]) fun _ _ _ _ _ _ us hl => match us, hl with | [_, _, _], _ => rfl
  have F15 := fun_mk (st := s_closer_parts) l15 c15 k15
  have g15 := PySem.W.mg_of X G a15
  have b15 := F15.binds (ps := ["order", "sign", "parts"]) fun _ _ _ _ _ _ us hl => match us, hl with | [_, _, _], _ => rfl
  have F16 := fun_mk (st := s_law_source) l16 c16 k16
  have g16 := PySem.W.mg_of X G a16
  have b16 := F16.binds (ps := ["_law_script"]) fun _ _ _ _ _ _ us hl => match us, hl with | [_], _ => rfl
  have F17 := fun_mk (st := s_law_take) l17 c17 k17
  have g17 := PySem.W.mg_of X G a17
  have b17 := F17.binds (ps := ["_law_source_here", "_law_many"]) fun _ _ _ _ _ _ us hl => match us, hl with | [_, _], _ => rfl
  have F18 := fun_mk (st := s_law_pick) l18 c18 k18
  have g18 := PySem.W.mg_of X G a18
  have b18 := F18.binds (ps := ["_law_source_here", "_law_row"]) fun _ _ _ _ _ _ us hl => match us, hl with | [_, _], _ => rfl
  have F19 := fun_mk (st := s_law_mixed) l19 c19 k19
  have g19 := PySem.W.mg_of X G a19
  have b19 := F19.binds (ps := ["_law_source_here", "_law_row"]) fun _ _ _ _ _ _ us hl => match us, hl with | [_, _], _ => rfl
  have F20 := fun_mk (st := s_law_text) l20 c20 k20
  have g20 := PySem.W.mg_of X G a20
  have b20 := F20.binds (ps := ["_law_word"]) fun _ _ _ _ _ _ us hl => match us, hl with | [_], _ => rfl
  have F21 := fun_mk (st := s_law_turned) l21 c21 k21
  have g21 := PySem.W.mg_of X G a21
  have b21 := F21.binds (ps := ["_law_word"]) fun _ _ _ _ _ _ us hl => match us, hl with | [_], _ => rfl
  have F22 := fun_mk (st := s_law_swap) l22 c22 k22
  have g22 := PySem.W.mg_of X G a22
  have b22 := F22.binds (ps := ["_law_word", "_law_table"]) fun _ _ _ _ _ _ us hl => match us, hl with | [_, _], _ => rfl
  have F23 := fun_mk (st := s_law_term) l23 c23 k23
  have g23 := PySem.W.mg_of X G a23
  have b23 := F23.binds (ps := ["_law_source_here", "_law_signs_here", "_law_deep", "_law_room"]) fun _ _ _ _ _ _ us hl => match us, hl with | [_, _, _, _], _ => rfl
  have F24 := fun_mk (st := s_law_signs) l24 c24 k24
  have g24 := PySem.W.mg_of X G a24
  have b24 := F24.binds (ps := ["_law_source_here", "_law_most"]) fun _ _ _ _ _ _ us hl => match us, hl with | [_, _], _ => rfl
  have F25 := fun_mk (st := s_law_below) l25 c25 k25
  have g25 := PySem.W.mg_of X G a25
  have b25 := F25.binds (ps := ["_law_one", "_law_other", "_law_known"]) fun _ _ _ _ _ _ us hl => match us, hl with | [_, _, _], _ => rfl
  have F26 := fun_mk (st := s_law_below_now) l26 c26 k26
  have g26 := PySem.W.mg_of X G a26
  have b26 := F26.binds (ps := ["_law_one", "_law_other", "_law_known"]) fun _ _ _ _ _ _ us hl => match us, hl with | [_, _, _], _ => rfl
  have F27 := fun_mk (st := s_law_measure) l27 c27 k27
  have g27 := PySem.W.mg_of X G a27
  have b27 := F27.binds (ps := ["_law_word", "_law_deep"]) fun _ _ _ _ _ _ us hl => match us, hl with | [_, _], _ => rfl
  have F28 := fun_mk (st := s_law_fits) l28 c28 k28
  have g28 := PySem.W.mg_of X G a28
  have b28 := F28.binds (ps := ["_law_word"]) fun _ _ _ _ _ _ us hl => match us, hl with | [_], _ => rfl
  have F29 := fun_mk (st := s_law_same_word) l29 c29 k29
  have g29 := PySem.W.mg_of X G a29
  have b29 := F29.binds (ps := ["_law_source_here", "_law_word", "_law_known"]) fun _ _ _ _ _ _ us hl => match us, hl with | [_, _, _], _ => rfl
  have F30 := fun_mk (st := s_law_rewritten) l30 c30 k30
  have g30 := PySem.W.mg_of X G a30
  have b30 := F30.binds (ps := ["_law_source_here", "_law_word", "_law_many"]) fun _ _ _ _ _ _ us hl => match us, hl with | [_, _, _], _ => rfl
  have F31 := fun_mk (st := s_law_two_words) l31 c31 k31
  have g31 := PySem.W.mg_of X G a31
  have b31 := F31.binds (ps := ["_law_source_here"]) fun _ _ _ _ _ _ us hl => match us, hl with | [_], _ => rfl
  have F32 := fun_mk (st := s_law) l32 c32 k32
  have g32 := PySem.W.mg_of X G a32
  have g_LETTERS := PySem.W.mg_of X G y0
  have h_OPERATORS : ∀ H, SqT K H oA1 [.str "&", .str "|"] := fun H => .inr ⟨_, _, _, yl1, rfl, rfl, (Nat.le_of_ble_eq_true rfl), (.cons ⟨_, rfl⟩ (.cons ⟨_, rfl⟩ .nil))⟩
  have g_OPERATORS := PySem.W.mg_of X G y1
  have g_MAX_DEPTH := PySem.W.mg_of X G y2
  have g_MAX_SIZE := PySem.W.mg_of X G y3
  have m_len := PySem.W.mg_none_of X G z_len
  have m_int := PySem.W.mg_none_of X G z_int
  have m_list := PySem.W.mg_none_of X G z_list
  have m_str := PySem.W.mg_none_of X G z_str
  have m_tuple := PySem.W.mg_none_of X G z_tuple
  have m_isinstance := PySem.W.mg_none_of X G z_isinstance
  have m_dict := PySem.W.mg_none_of X G z_dict
  have m_all := PySem.W.mg_none_of X G z_all
  have m_any := PySem.W.mg_none_of X G z_any
  have m_zip := PySem.W.mg_none_of X G z_zip
  have m_sum := PySem.W.mg_none_of X G z_sum
  have m_max := PySem.W.mg_none_of X G z_max
  have m_range := PySem.W.mg_none_of X G z_range
  have m_super := PySem.W.mg_none_of X G z_super
  have m_sorted := PySem.W.mg_none_of X G z_sorted
  have m_enumerate := PySem.W.mg_none_of X G z_enumerate
  have g_FE := PySem.W.mg_of X G e1
  have e19_InvalidTerm : PySem.W.excInitIn K C_InvalidTerm FvX.veTail4 "ValueError.__new__" = true := by
    unfold PySem.W.excInitIn
    rw [e3_InvalidTerm]
    simp [excClassObj, e19t_InvalidTerm]
  have ex23_InvalidTerm : PySem.W.exmOne K (.ref C_InvalidTerm) (.ref CF) = some true := by
    unfold PySem.W.exmOne PySem.W.kitCls
    simp [e23a, show (PySem.W.clsIn K CF).isSome = true from e23b, e23c, e23d_InvalidTerm]
  have g_E_InvalidTerm := PySem.W.mg_of X G e2_InvalidTerm
  have OX_InvalidTerm : L2.OexC K C_InvalidTerm := ⟨⟨_, _, _, _, _, _, _, _, _, _, _, _, _, _, _, e3_InvalidTerm, e4_InvalidTerm⟩, e5_InvalidTerm, e6_InvalidTerm, e7_InvalidTerm, e8_InvalidTerm⟩
  have TI_InvalidTerm : FvX.ErrC l.prog.main.file K C_InvalidTerm f_InvalidTerm "InvalidTerm.__init__" q_InvalidTerm "this is not a term" "InvalidTerm" 0 0 := ⟨OX_InvalidTerm, ⟨_, _, _, _, _, _, _, _, _, _, _, _, _, _, _, _, _, _, _, e9_InvalidTerm, e10_InvalidTerm, e11_InvalidTerm, e12_InvalidTerm, e14_InvalidTerm, e15_InvalidTerm⟩, e16_InvalidTerm, e17_InvalidTerm, e18_InvalidTerm, e19_InvalidTerm, e20, e21_InvalidTerm, e13_InvalidTerm, e22_InvalidTerm⟩
  have LI_InvalidTerm : FvX.LineOk q_InvalidTerm "this is not a term" 0 := fun env => ⟨_, rfl⟩
  have XF_InvalidTerm : XfC K C_InvalidTerm := ⟨e24_InvalidTerm, e25_InvalidTerm, e6_InvalidTerm, e26_InvalidTerm⟩
  have gC_FreeOrder := PySem.W.mg_of X G aC_FreeOrder
  have T_FreeOrder : FvF.TxF K C_FreeOrder := ⟨⟨pg_FreeOrder, hd_FreeOrder, po_FreeOrder, sa_FreeOrder⟩, na_FreeOrder_ways⟩
  have me_FreeOrder_init : Meth K C_FreeOrder "__init__" f_FreeOrder_init := ⟨a_FreeOrder_init, i_FreeOrder_init, k_FreeOrder_init⟩
  have F_FreeOrder_init := fun_mk (st := FvF.s_init__of__FreeOrder) l_FreeOrder_init c_FreeOrder_init k_FreeOrder_init
  have b_FreeOrder_init := F_FreeOrder_init.binds (ps := ["self"]) fun _ _ _ _ _ _ us hl => match us, hl with | [_], _ => rfl
  have me_FreeOrder_holds : Meth K C_FreeOrder "holds" f_FreeOrder_holds := ⟨a_FreeOrder_holds, i_FreeOrder_holds, k_FreeOrder_holds⟩
  have F_FreeOrder_holds := fun_mk (st := FvF.s_holds__of__FreeOrder) l_FreeOrder_holds c_FreeOrder_holds k_FreeOrder_holds
  have b_FreeOrder_holds := F_FreeOrder_holds.binds (ps := ["self", "left", "right"]) fun _ _ _ _ _ _ us hl => match us, hl with | [_, _, _], _ => rfl
  have me_FreeOrder_way_of : Meth K C_FreeOrder "way_of" f_FreeOrder_way_of := ⟨a_FreeOrder_way_of, i_FreeOrder_way_of, k_FreeOrder_way_of⟩
  have F_FreeOrder_way_of := fun_mk (st := FvF.s_way_of__of__FreeOrder) l_FreeOrder_way_of c_FreeOrder_way_of k_FreeOrder_way_of
  have b_FreeOrder_way_of := F_FreeOrder_way_of.binds (ps := ["self", "left", "right"]) fun _ _ _ _ _ _ us hl => match us, hl with | [_, _, _], _ => rfl
  have me_FreeOrder_found_way : Meth K C_FreeOrder "found_way" f_FreeOrder_found_way := ⟨a_FreeOrder_found_way, i_FreeOrder_found_way, k_FreeOrder_found_way⟩
  have F_FreeOrder_found_way := fun_mk (st := FvF.s_found_way__of__FreeOrder) l_FreeOrder_found_way c_FreeOrder_found_way k_FreeOrder_found_way
  have b_FreeOrder_found_way := F_FreeOrder_found_way.binds (ps := ["self", "left", "right"]) fun _ _ _ _ _ _ us hl => match us, hl with | [_, _, _], _ => rfl
  have me_FreeOrder_way_of_all : Meth K C_FreeOrder "way_of_all" f_FreeOrder_way_of_all := ⟨a_FreeOrder_way_of_all, i_FreeOrder_way_of_all, k_FreeOrder_way_of_all⟩
  have F_FreeOrder_way_of_all := fun_mk (st := FvF.s_way_of_all__of__FreeOrder) l_FreeOrder_way_of_all c_FreeOrder_way_of_all k_FreeOrder_way_of_all
  have b_FreeOrder_way_of_all := F_FreeOrder_way_of_all.binds (ps := ["self", "word", "pairs"]) fun _ _ _ _ _ _ us hl => match us, hl with | [_, _, _], _ => rfl
  refine ⟨PySem.W.fnOf "law" "law" (defArgs s_law) (defBody s_law) (defScope s_law) .none kV32 dc32 pm32 an32 cd32 ct32, fun s v => .of_eq rfl, fun base _ _ => ?_⟩
  have own : ∀ {k : Nat} {x : Str} {f : Addr} {fd : FuncData} {ps : List Str} {sp : Sp}, mg x = some (.ref f) → PySem.W.keepIn K (.ref f) = true → Binds K fd ps [] → FnOk l.prog w K mg base CX0 k f fd ps sp → Own l.prog w K mg base k x ps sp := fun a b c d => ⟨_, _, a, b, c, d⟩
  have ownR : ∀ {k : Nat} {x : Str} {f : Addr} {sp : Sp}, mg x = some (.ref f) → PySem.W.keepIn K (.ref f) = true → FnR l.prog w K mg base (L2.CX l.prog w) k f sp → OwnR l.prog w K mg base k x sp := fun a b c => ⟨_, a, b, c⟩
  have raw : ∀ {k : Nat} {f : Addr} {fd : FuncData} {ps : List Str} {sp : Sp}, FnOk l.prog w K mg base (L2.CX l.prog w) k f fd ps sp → Binds K fd ps [] → FnR l.prog w K mg base (L2.CX l.prog w) k f sp := fun F b => (FnOk.raw F b .nil).imp fun vs H Q E h => by rw [List.append_nil]; exact h
  have Csource := own g16 k16 b16 (ok_source (k := 0) F16 m_list)
  have Ctake := own g17 k17 b17 (ok_take (k := 0) F17 m_len m_int)
  have Cpick := own g18 k18 b18 (ok_pick (k := 1) F18 m_len Ctake)
  have Cmixed := own g19 k19 b19 (ok_mixed (k := 1) F19 m_len Ctake)
  have Ctake2 : Own l.prog w K mg base 2 _ _ spTake := own g17 k17 b17 (ok_take (k := 1) F17 m_len m_int)
  have Csigns := own g24 k24 b24 (ok_signs (k := 2) F24 m_list Ctake2 Cmixed)
  have Tn : ∀ n : Nat, FnOk l.prog w K mg base CX0 (2 + n) f23 _ _ (spTerm K n) := fun n => by
    induction n with
    | zero => exact term_zero
    | succ n ih => exact ok_term F23 m_tuple m_range (Nat.le_add_right 2 n) Ctake Cpick (own g23 k23 b23 ih)
  have Cterm := own g23 k23 b23 (Tn 5)
  have Mn : ∀ n : Nat, FnOk l.prog w K mg base CX0 (n) f27 _ _ (spMeasure K n) := fun n => by
    induction n with
    | zero => exact measure_zero
    | succ n ih => exact ok_measure F27 m_isinstance m_str m_tuple m_len m_int m_sum (own g27 k27 b27 ih)
  have Cmeasure := own g27 k27 b27 (Mn 20)
  have Cfits := own g28 k28 b28 (ok_fits (k := 20) F28 Cmeasure)
  have Clet := own g1 k1 b1 (ok_is_letter (k := 0) F1 m_isinstance m_str m_len g_LETTERS)
  have Ccom := own g2 k2 b2 (ok_is_compound (k := 0) F2 m_isinstance m_tuple m_len g_OPERATORS h_OPERATORS)
  have Dn : ∀ n : Nat, FnOk l.prog w K mg base CX0 (1 + n) f3 _ _ (spMeas K n) := fun n => by
    induction n with
    | zero => exact meas_zero
    | succ n ih => exact ok_measured F3 m_max (Nat.le_add_right 1 n) Clet Ccom (own g3 k3 b3 ih)
  have Cmeasd := own g3 k3 b3 (Dn 20)
  have T := ok_is_term (P := l.prog) (w := w) (mg := mg) (base := base) (k := 21) F4 Cmeasd
  obtain ⟨ds0, vd0, bd0⟩ := binds_T F4
  have CT0 : OwnD l.prog w K mg base 22 "is_term" PsT [.int 5, .int 24] (spIsTerm K) := ⟨_, _, _, g4, k4, bd0, vd0, T⟩
  have Xn : ∀ n : Nat, FnOk l.prog w K mg base CX0 (n) f20 _ _ (spText K n) := fun n => by
    induction n with
    | zero => exact text_zero
    | succ n ih => exact ok_law_text F20 m_isinstance m_str (own g20 k20 b20 ih)
  have Ctext := own g20 k20 b20 (Xn 10)
  have TTn : ∀ n : Nat, FnOk l.prog w K mg base CX0 (2 * n + 1) f6 _ _ (spText K n) := fun n => by
    induction n with
    | zero => exact text_zero
    | succ n ih => exact ok_term_text (k := 2 * n + 2) F6 Clet (by omega) (own g7 k7 b7 (ok_part_text (k := 2 * n + 1) F7 Clet (by omega) (own g6 k6 b6 ih)))
  have Ctt := own g6 k6 b6 ((TTn 10).mono (k := 22) (by decide))
  have met : ∀ {k : Nat} {m : Str} {f : Addr} {fd : FuncData} {ps : List Str} {sp : Sp}, Meth K C_FreeOrder m f → Binds K fd ps [] → FnOk l.prog w K mg base CX0 k f fd ps sp → C8.Met l.prog w K mg base k C_FreeOrder m sp [] := fun a b c => ⟨_, _, _, _, T_FreeOrder.cl, a, c, b, .nil⟩
  have Ho : ∀ n : Nat, n ≤ 50 → FnOk l.prog w K mg base CX0 (4 * n) f_FreeOrder_holds _ _ (spHo K w C_FreeOrder n) := fun n => by
    induction n with
    | zero => exact fun _ => ho_zero
    | succ n ih =>
      intro hn
      have H0 := ih (by omega)
      have W0 := ok_way_all (k := 4 * n) F_FreeOrder_way_of_all T_FreeOrder (met me_FreeOrder_holds b_FreeOrder_holds (H0))
      have W1 := ok_found_way (k := 4 * n + 1) F_FreeOrder_found_way T_FreeOrder (n := n) (by omega) (met me_FreeOrder_holds b_FreeOrder_holds (H0.mono (by omega))) (met me_FreeOrder_way_of_all b_FreeOrder_way_of_all (W0))
      have W2 := ok_way_of (k := 4 * n + 2) F_FreeOrder_way_of T_FreeOrder (met me_FreeOrder_found_way b_FreeOrder_found_way (W1))
      exact ok_holds (k := 4 * n + 3) F_FreeOrder_holds T_FreeOrder (met me_FreeOrder_way_of b_FreeOrder_way_of (W2))
  have Mho := met me_FreeOrder_holds b_FreeOrder_holds ((Ho 12 (by decide)).mono (k := 52) (by decide))
  have Mkf : C8.Mak l.prog w K mg base 1 "FreeOrder" C_FreeOrder (spFi K w C_FreeOrder) [] := ⟨_, _, _, _, ⟨mk_FreeOrder, a_FreeOrder_init, i_FreeOrder_init, kc_FreeOrder⟩, ok_finit (k := 0) F_FreeOrder_init T_FreeOrder, gC_FreeOrder, b_FreeOrder_init, .nil⟩
  have Cck := ownR g5 k5 (raw ((ok_checked (k := 22) F5 (by decide) TI_InvalidTerm LI_InvalidTerm e27 m_super g_E_InvalidTerm CT0).mono (k := 27) (by decide)) b5)
  have Ccn := own g12 k12 b12 (ok_counts (k := 52) F12 Mho)
  have Cmg := own g13 k13 b13 (ok_merged (k := 0) F13)
  have Cou := own g14 k14 b14 (ok_outer (k := 53) F14 m_any Ccn)
  have Cco := own g15 k15 b15 (ok_closer (k := 53) F15 (by decide) m_enumerate Ccn Clet Cmg)
  have Rtt : FnR l.prog w K mg base CX0 21 f6 (spText K 10) := (FnOk.raw (TTn 10) b6 .nil).imp fun vs H Q E h => by rw [List.append_nil]; exact h
  have Ls : ∀ n : Nat, FnOk l.prog w K mg base CX0 (54 + n) f11 _ _ (spLs K w C_FreeOrder n) := fun n => by
    induction n with
    | zero => exact ls_zero
    | succ n ih => exact ok_least (k := 54 + n) F11 (by omega) m_len m_sorted g6 Rtt Clet Cmg Cou Cco (by omega) (own g11 k11 b11 ih)
  have Cls := own g11 k11 b11 ((Ls 5).mono (k := 60) (by decide))
  have Flf := ok_least_form (k := 61) F10 (by decide) Cck Mkf Cls
  have Bl : ∀ n : Nat, n ≤ 50 → FnOk l.prog w K mg base CX0 (10 + 2 * n) f25 _ _ (spBl K w n) := fun n => by
    induction n with
    | zero => exact fun _ => bl_zero
    | succ n ih =>
      intro hn
      exact ok_below (k := 10 + 2 * n + 1) F25 (by omega) (Ctext) (own g26 k26 b26 (ok_below_now (k := 10 + 2 * n) F26 (n := n) (by omega) m_all m_any (own g25 k25 b25 (ih (by omega)))))
  have Cbl := own g25 k25 b25 ((Bl 12 (by decide)).mono (k := 36) (by decide))
  have Sw : ∀ n : Nat, FnOk l.prog w K mg base CX0 (2 + n) f29 _ _ (spSW K n) := fun n => by
    induction n with
    | zero => exact sw_zero
    | succ n ih => exact ok_same_word (k := 2 + n) F29 (by omega) m_isinstance m_str m_tuple m_list m_len Ctake Cpick (own g19 k19 b19 ((ok_mixed (k := 1) F19 m_len Ctake))) (own g29 k29 b29 ih)
  have Csw := own g29 k29 b29 (Sw 5)
  have Crw := own g30 k30 b30 (ok_rewritten (k := 21) F30 (by decide) m_range Csw Cfits)
  have Ctw := own g31 k31 b31 (ok_two_words (k := 22) F31 (by decide) Ctake Cpick Csigns Cterm Cfits Crw)
  have Fal := ok_always (k := 54) F8 (by decide) Cck Mkf Mho
  have Feq := ok_equal (k := 55) F9 (by decide) (ownR g8 k8 (raw Fal b8))
  have Tt : ∀ n : Nat, FnOk l.prog w K mg base CX0 n f21 _ _ (spTnd K n) := fun n => by
    induction n with
    | zero => exact tnd_zero
    | succ n ih => exact ok_lturned (k := n) F21 m_isinstance m_str m_tuple m_int (own g21 k21 b21 ih)
  have Ctt2 := own g21 k21 b21 (Tt 10)
  have Ss : ∀ n : Nat, FnOk l.prog w K mg base CX0 n f22 _ _ (spSwp K n) := fun n => by
    induction n with
    | zero => exact swp_zero
    | succ n ih => exact ok_lswap (k := n) F22 m_isinstance m_str m_tuple (own g22 k22 b22 ih)
  have Css := own g22 k22 b22 (Ss 10)
  exact ok_law (k := 66) F32 (by decide) m_range m_list m_dict m_zip Csource Ctake Cmixed Ctw Crw Cbl Css Ctt2 (ownR g9 k9 (raw Feq b9)) (ownR g10 k10 (raw Flf b10))
theorem walk {l : PySem.W.OpenLaw} {q : Program} {loose : List Str} {XP : (Str → Option Value) → Heap → Prop} {YP : World → Heap → Prop} {d : DefRec} {K : Params → PySem.W.Frag} (hn : l.most = some 63) (hdf : d.params.defaults = [])
    (hY : ∀ (w : World) (h : Heap), YP w h → (K w.params).In h)
    (F : ∀ (w : World) (mg : Str → Option Value) (fa : Addr) (h : Heap), (K w.params).In h → h.Ns mainGlobals mg → mg d.name = some (.ref fa) →
      ∃ fd : FuncData, (∀ (s : Shared) (u : Value), BindsTo s fd ⟨[u], []⟩ [("_law_script", u)]) ∧ ∀ base : Heap, (K w.params).In base → base.Ns mainGlobals mg → FnOk l.prog w (K w.params) mg base CX0 67 fa fd ["_law_script"] (spLaw (K w.params))) :
    PySem.W.WalkO q loose XP YP l.row.toRowW d [] (fun f vs => PySem.call f vs) :=
  L2.walk_of (n := 63) (k := 67) (x := "_law_script") (CX := fun _ => CX0) (sp := fun w => spLaw (K w.params)) hn (by decide) hdf ⟨rfl, by decide, by decide⟩ hY F (fun _ _ a ns hl _ hS => ⟨a, ns, rfl, hS, hl, fun _ => rfl⟩) fun _ _ _ _ _ z => z
end Fv
open PySem PySem.W PyProof.Rows
set_option maxRecDepth 100000 in
set_option maxHeartbeats 0 in
theorem PySem.Challenge.cw_fivefault_k45_whole_equal_terms_have_one_holds : PySem.Challenge.rw_fivefault_k45_whole_equal_terms_have_one.Holds := by
  refine PySem.W.headK.2 ?_
  unfold PySem.W.headK
  dsimp only []
  k_fill
  refine Fv.walk (l := PySem.Challenge.rw_fivefault_k45_whole_equal_terms_have_one) rfl rfl (fun w h Y => PySem.W.kIn_of Y) ?F
  case F =>
    intro w mg fa h KX G hmg
    refine' Fv.all_mk KX G hmg ?a1 ?l1 ?c1 ?k1 ?a2 ?l2 ?c2 ?k2 ?a3 ?l3 ?c3 ?k3 ?a4 ?l4 ?c4 ?k4 ?x4_0 ?x4_1 ?a5 ?l5 ?c5 ?k5 ?a6 ?l6 ?c6 ?k6 ?a7 ?l7 ?c7 ?k7 ?a8 ?l8 ?c8 ?k8 ?a9 ?l9 ?c9 ?k9 ?a10 ?l10 ?c10 ?k10 ?a11 ?l11 ?c11 ?k11 ?a12 ?l12 ?c12 ?k12 ?a13 ?l13 ?c13 ?k13 ?a14 ?l14 ?c14 ?k14 ?a15 ?l15 ?c15 ?k15 ?a16 ?l16 ?c16 ?k16 ?a17 ?l17 ?c17 ?k17 ?a18 ?l18 ?c18 ?k18 ?a19 ?l19 ?c19 ?k19 ?a20 ?l20 ?c20 ?k20 ?a21 ?l21 ?c21 ?k21 ?a22 ?l22 ?c22 ?k22 ?a23 ?l23 ?c23 ?k23 ?a24 ?l24 ?c24 ?k24 ?a25 ?l25 ?c25 ?k25 ?a26 ?l26 ?c26 ?k26 ?a27 ?l27 ?c27 ?k27 ?a28 ?l28 ?c28 ?k28 ?a29 ?l29 ?c29 ?k29 ?a30 ?l30 ?c30 ?k30 ?a31 ?l31 ?c31 ?k31 ?a32 ?l32 ?c32 ?k32 ?y0 ?y1 ?yl1 ?y2 ?y3 ?z_len ?z_int ?z_list ?z_str ?z_tuple ?z_isinstance ?z_dict ?z_all ?z_any ?z_zip ?z_sum ?z_max ?z_range ?z_super ?z_sorted ?z_enumerate ?e1 ?e23a ?e23b ?e23c ?e20 ?e27 ?e2_InvalidTerm ?e3_InvalidTerm ?e4_InvalidTerm ?e5_InvalidTerm ?e6_InvalidTerm ?e7_InvalidTerm ?e8_InvalidTerm ?e13_InvalidTerm ?e9_InvalidTerm ?e10_InvalidTerm ?e11_InvalidTerm ?e12_InvalidTerm ?e14_InvalidTerm ?e15_InvalidTerm ?e16_InvalidTerm ?e17_InvalidTerm ?e18_InvalidTerm ?e19t_InvalidTerm ?e21_InvalidTerm ?e22_InvalidTerm ?e23d_InvalidTerm ?e24_InvalidTerm ?e25_InvalidTerm ?e26_InvalidTerm ?aC_FreeOrder ?pg_FreeOrder ?hd_FreeOrder ?po_FreeOrder ?sa_FreeOrder ?mk_FreeOrder ?kc_FreeOrder ?na_FreeOrder_ways ?a_FreeOrder_init ?i_FreeOrder_init ?l_FreeOrder_init ?c_FreeOrder_init ?k_FreeOrder_init ?a_FreeOrder_holds ?i_FreeOrder_holds ?l_FreeOrder_holds ?c_FreeOrder_holds ?k_FreeOrder_holds ?a_FreeOrder_way_of ?i_FreeOrder_way_of ?l_FreeOrder_way_of ?c_FreeOrder_way_of ?k_FreeOrder_way_of ?a_FreeOrder_found_way ?i_FreeOrder_found_way ?l_FreeOrder_found_way ?c_FreeOrder_found_way ?k_FreeOrder_found_way ?a_FreeOrder_way_of_all ?i_FreeOrder_way_of_all ?l_FreeOrder_way_of_all ?c_FreeOrder_way_of_all ?k_FreeOrder_way_of_all
    (case a1 => k_is)
    (case l1 => k_is)
    (case c1 => k_is)
    (case k1 => k_is)
    (case a2 => k_is)
    (case l2 => k_is)
    (case c2 => k_is)
    (case k2 => k_is)
    (case a3 => k_is)
    (case l3 => k_is)
    (case c3 => k_is)
    (case k3 => k_is)
    (case a4 => k_is)
    (case l4 => k_is)
    (case c4 => k_is)
    (case k4 => k_is)
    (case x4_0 => k_is)
    (case x4_1 => k_is)
    (case a5 => k_is)
    (case l5 => k_is)
    (case c5 => k_is)
    (case k5 => k_is)
    (case a6 => k_is)
    (case l6 => k_is)
    (case c6 => k_is)
    (case k6 => k_is)
    (case a7 => k_is)
    (case l7 => k_is)
    (case c7 => k_is)
    (case k7 => k_is)
    (case a8 => k_is)
    (case l8 => k_is)
    (case c8 => k_is)
    (case k8 => k_is)
    (case a9 => k_is)
    (case l9 => k_is)
    (case c9 => k_is)
    (case k9 => k_is)
    (case a10 => k_is)
    (case l10 => k_is)
    (case c10 => k_is)
    (case k10 => k_is)
    (case a11 => k_is)
    (case l11 => k_is)
    (case c11 => k_is)
    (case k11 => k_is)
    (case a12 => k_is)
    (case l12 => k_is)
    (case c12 => k_is)
    (case k12 => k_is)
    (case a13 => k_is)
    (case l13 => k_is)
    (case c13 => k_is)
    (case k13 => k_is)
    (case a14 => k_is)
    (case l14 => k_is)
    (case c14 => k_is)
    (case k14 => k_is)
    (case a15 => k_is)
    (case l15 => k_is)
    (case c15 => k_is)
    (case k15 => k_is)
    (case a16 => k_is)
    (case l16 => k_is)
    (case c16 => k_is)
    (case k16 => k_is)
    (case a17 => k_is)
    (case l17 => k_is)
    (case c17 => k_is)
    (case k17 => k_is)
    (case a18 => k_is)
    (case l18 => k_is)
    (case c18 => k_is)
    (case k18 => k_is)
    (case a19 => k_is)
    (case l19 => k_is)
    (case c19 => k_is)
    (case k19 => k_is)
    (case a20 => k_is)
    (case l20 => k_is)
    (case c20 => k_is)
    (case k20 => k_is)
    (case a21 => k_is)
    (case l21 => k_is)
    (case c21 => k_is)
    (case k21 => k_is)
    (case a22 => k_is)
    (case l22 => k_is)
    (case c22 => k_is)
    (case k22 => k_is)
    (case a23 => k_is)
    (case l23 => k_is)
    (case c23 => k_is)
    (case k23 => k_is)
    (case a24 => k_is)
    (case l24 => k_is)
    (case c24 => k_is)
    (case k24 => k_is)
    (case a25 => k_is)
    (case l25 => k_is)
    (case c25 => k_is)
    (case k25 => k_is)
    (case a26 => k_is)
    (case l26 => k_is)
    (case c26 => k_is)
    (case k26 => k_is)
    (case a27 => k_is)
    (case l27 => k_is)
    (case c27 => k_is)
    (case k27 => k_is)
    (case a28 => k_is)
    (case l28 => k_is)
    (case c28 => k_is)
    (case k28 => k_is)
    (case a29 => k_is)
    (case l29 => k_is)
    (case c29 => k_is)
    (case k29 => k_is)
    (case a30 => k_is)
    (case l30 => k_is)
    (case c30 => k_is)
    (case k30 => k_is)
    (case a31 => k_is)
    (case l31 => k_is)
    (case c31 => k_is)
    (case k31 => k_is)
    (case a32 => k_is)
    (case l32 => k_is)
    (case c32 => k_is)
    (case k32 => k_is)
    (case y0 => k_is)
    (case y1 => k_is)
    (case yl1 => k_is)
    (case y2 => k_is)
    (case y3 => k_is)
    (case z_len => k_is)
    (case z_int => k_is)
    (case z_list => k_is)
    (case z_str => k_is)
    (case z_tuple => k_is)
    (case z_isinstance => k_is)
    (case z_dict => k_is)
    (case z_all => k_is)
    (case z_any => k_is)
    (case z_zip => k_is)
    (case z_sum => k_is)
    (case z_max => k_is)
    (case z_range => k_is)
    (case z_super => k_is)
    (case z_sorted => k_is)
    (case z_enumerate => k_is)
    (case e1 => k_is)
    (case e23a => k_is)
    (case e23b => k_is)
    (case e23c => k_is)
    (case e20 => k_is)
    (case e27 => decide +kernel)
    (case e2_InvalidTerm => k_is)
    (case e3_InvalidTerm => k_is)
    (case e4_InvalidTerm => decide +kernel)
    (case e5_InvalidTerm => k_is)
    (case e6_InvalidTerm => k_is)
    (case e7_InvalidTerm => k_is)
    (case e8_InvalidTerm => k_is)
    (case e13_InvalidTerm => k_is)
    (case e9_InvalidTerm => k_is)
    (case e10_InvalidTerm => k_is)
    (case e11_InvalidTerm => k_is)
    (case e12_InvalidTerm => exact rfl)
    (case e14_InvalidTerm => decide +kernel)
    (case e15_InvalidTerm => k_is)
    (case e16_InvalidTerm => ks_is)
    (case e17_InvalidTerm => k_is)
    (case e18_InvalidTerm => k_is)
    (case e19t_InvalidTerm => decide +kernel)
    (case e21_InvalidTerm => k_is)
    (case e22_InvalidTerm => k_is)
    (case e23d_InvalidTerm => k_is)
    (case e24_InvalidTerm => k_is)
    (case e25_InvalidTerm => k_is)
    (case e26_InvalidTerm => k_is)
    (case aC_FreeOrder => k_is)
    (case pg_FreeOrder => k_is)
    (case hd_FreeOrder => k_is)
    (case po_FreeOrder => k_is)
    (case sa_FreeOrder => k_is)
    (case mk_FreeOrder => k_is)
    (case kc_FreeOrder => k_is)
    (case na_FreeOrder_ways => k_is)
    (case a_FreeOrder_init => k_is)
    (case i_FreeOrder_init => k_is)
    (case l_FreeOrder_init => k_is)
    (case c_FreeOrder_init => k_is)
    (case k_FreeOrder_init => k_is)
    (case a_FreeOrder_holds => k_is)
    (case i_FreeOrder_holds => k_is)
    (case l_FreeOrder_holds => k_is)
    (case c_FreeOrder_holds => k_is)
    (case k_FreeOrder_holds => k_is)
    (case a_FreeOrder_way_of => k_is)
    (case i_FreeOrder_way_of => k_is)
    (case l_FreeOrder_way_of => k_is)
    (case c_FreeOrder_way_of => k_is)
    (case k_FreeOrder_way_of => k_is)
    (case a_FreeOrder_found_way => k_is)
    (case i_FreeOrder_found_way => k_is)
    (case l_FreeOrder_found_way => k_is)
    (case c_FreeOrder_found_way => k_is)
    (case k_FreeOrder_found_way => k_is)
    (case a_FreeOrder_way_of_all => k_is)
    (case i_FreeOrder_way_of_all => k_is)
    (case l_FreeOrder_way_of_all => k_is)
    (case c_FreeOrder_way_of_all => k_is)
    (case k_FreeOrder_way_of_all => k_is)
