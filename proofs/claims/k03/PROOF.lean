import PyProof.Rows.All
import Wide.All
import OpenK.AllK
import Wide.FinOn
import PyProof.ReprRoads
import HandS.ForMost
import HandS.DeepEq
import HandS.DictTup
import KE.KDictPairs
import KE.KDictKeyed
import KE.KeyNested
import KE.KDictItemsList
import KE.GoesNewDict
import HandS.Ends
import HandS.Wide
import HandS.Codes
import KE.KEqNest
import HandS.IsInst
import HandS.TupAny
import HandS.Conv
import KE.SortData
import PyProof.DictUpdate
import KE.KItemsList
import KE.KDictSum
import HandS.Strs
import HandS.SetFor
import HandS.SortInts
import KE.GoesMore
import KE.GoesEnum
import HandS.Iter
import HandS.Walk
import KE.GoesNew
import HandS.Zip
import HandS.Sort
import PyProof.SumWalkG
import HandS.TupMul
import HandS.More
import HandS.Text
import HandS.TupLen
import KE.KIntText
import PyProof.EqKinds
import PyProof.IsiFacts
import PyProof.FactsAll.dict_1
import HandS.Steps
import HandS.DictComp
import HandS.SetTxt0
import HandS.Set
import HandS.SetKeys
import KE.DatumOrd
import HandS.Style
import PySem.Challenge.RW_nightstairs_k03_lots_cuts_amounts_flows
set_option Elab.async false
set_option linter.all false
set_option maxRecDepth 100000
set_option pp.maxSteps 150
set_option pp.deepTerms false
set_option maxHeartbeats 8000000
/-! MX1: dicts whose keys are of any kind (nested): looked up, stored. -/
namespace Mx
open PySem PySem.Spec PyProof.Rows
abbrev NK := NestedKey
/-- an entry -/
def entN (w : World) (x : NK × Value × Value) : DictEntry := ⟨x.1.hash w, x.2.1, x.2.2⟩
/-- a key and its value put in -/
def putX {α β : Type} (xs : List (NK × α × β)) (k : NK) (a : α) (b : β) : List (NK × α × β) := if k ∈ xs.map (·.1) then xs.map (fun x => if x.1 = k then (x.1, x.2.1, b) else x) else xs ++ [(k, a, b)]
theorem putX_keys {α β : Type} (xs : List (NK × α × β)) (k : NK) (a : α) (b : β) : (putX xs k a b).map (·.1) = if k ∈ xs.map (·.1) then xs.map (·.1) else xs.map (·.1) ++ [k] := by
  unfold putX
  split
  · rw [List.map_map]
    refine List.map_congr_left fun x _ => ?_
    by_cases h : x.1 = k <;> simp [h]
  · simp
theorem putX_nodup {α β : Type} {xs : List (NK × α × β)} (h : (xs.map (·.1)).Nodup) (k : NK) (a : α) (b : β) : ((putX xs k a b).map (·.1)).Nodup := by
  rw [putX_keys]
  split
  · exact h
  · rename_i hk
    rw [List.nodup_append]
    exact ⟨h, by simp, fun x hx y hy => by rw [List.mem_singleton.mp hy]; exact fun e => hk (e ▸ hx)⟩
theorem putX_len {α β : Type} (xs : List (NK × α × β)) (k : NK) (a : α) (b : β) : (putX xs k a b).length ≤ xs.length + 1 := by
  unfold putX
  split
  · rw [List.length_map]; omega
  · simp
/-- a key that the dict has kept its own value; one that is new came with k -/
theorem mem_putX {α β : Type} {xs : List (NK × α × β)} {k : NK} {a : α} {b : β} {x : NK × α × β} (h : x ∈ putX xs k a b) : (∃ y ∈ xs, x.1 = y.1 ∧ x.2.1 = y.2.1 ∧ (x.2.2 = y.2.2 ∨ x.2.2 = b)) ∨ x = (k, a, b) := by
  unfold putX at h
  split at h
  · obtain ⟨y, hy, rfl⟩ := List.mem_map.mp h
    refine .inl ⟨y, hy, ?_⟩
    split
    · exact ⟨rfl, rfl, .inr rfl⟩
    · exact ⟨rfl, rfl, .inl rfl⟩
  · rcases List.mem_append.mp h with h | h
    · exact .inl ⟨x, h, rfl, rfl, .inl rfl⟩
    · exact .inr (List.mem_singleton.mp h)
theorem idx_uniq {α : Type} {xs : List (NK × α)} (hn : (xs.map (·.1)).Nodup) {i j : Nat} {x y : NK × α} (hi : xs[i]? = some x) (hj : xs[j]? = some y) (e : x.1 = y.1) : i = j := by
  have hi' : (xs.map (·.1))[i]? = some x.1 := by rw [List.getElem?_map, hi]; rfl
  have hj' : (xs.map (·.1))[j]? = some x.1 := by rw [List.getElem?_map, hj, e]; rfl
  exact (List.getElem?_inj (List.getElem?_eq_some_iff.mp hi').1 hn).mp (hi'.trans hj'.symm)
theorem mem_places {n : Nat} {f : Nat → Option Int} {h : Int} {j : Nat} : j ∈ placesWithHash n f h ↔ j < n ∧ f j = some h := by
  unfold placesWithHash
  rw [List.mem_filter, List.mem_range, beq_iff_eq]
theorem places_nodup {n : Nat} {f : Nat → Option Int} {h : Int} : (placesWithHash n f h).Nodup := List.Pairwise.filter _ List.nodup_range
section
variable {prog : Program} {w : World} {A : Around} {E : Value → Shared → Prop} {s : Shared} {d : Addr} {o : Obj} {es : Array DictEntry} {ep : Nat} {xs : List (NK × Value × Value)} {k : NK} {v : Value}
/-- the dict's entries are xs -/
structure Ents (w : World) (h : Heap) (d : Addr) (o : Obj) (es : Array DictEntry) (ep : Nat) (xs : List (NK × Value × Value)) : Prop where
  at_ : h.get? d = some o
  dat : o.data = .dict es ep
  ent : es.toList = xs.map (entN w)
  is : ∀ x ∈ xs, NestedIs h x.1 x.2.1 ∧ x.1.depth ≤ 8
  nd : (xs.map (·.1)).Nodup
theorem Ents.get (D : Ents w s.heap d o es ep xs) (j : Nat) : es[j]? = (xs[j]?).map (entN w) := by rw [← Array.getElem?_toList, D.ent, List.getElem?_map]
theorem Ents.size (D : Ents w s.heap d o es ep xs) : es.size = xs.length := by rw [← Array.length_toList, D.ent, List.length_map]
theorem Ents.place (D : Ents w s.heap d o es ep xs) {j : Nat} {x : NK × Value × Value} (h : xs[j]? = some x) (e : x.1 = k) : j ∈ placesWithHash es.size (fun i => es[i]?.map (·.hash)) (k.hash w) := by
  refine mem_places.mpr ⟨by rw [D.size]; exact (List.getElem?_eq_some_iff.mp h).1, ?_⟩
  rw [D.get, h, ← e]
  rfl
theorem Ents.of_place (D : Ents w s.heap d o es ep xs) {j : Nat} (h : j ∈ placesWithHash es.size (fun i => es[i]?.map (·.hash)) (k.hash w)) : ∃ x, xs[j]? = some x ∧ es[j]? = some (entN w x) ∧ x.1.hash w = k.hash w := by
  obtain ⟨h1, h2⟩ := mem_places.mp h
  rw [D.size] at h1
  refine ⟨xs[j], List.getElem?_eq_getElem h1, by rw [D.get, List.getElem?_eq_getElem h1]; rfl, ?_⟩
  rw [D.get, List.getElem?_eq_getElem h1] at h2
  exact Option.some.inj h2
theorem eqb {a b : NK} {u v : Value} {Q : Bool → Shared → Prop} (hu : A.units + 9 < cLine) (ha : NestedIs s.heap a u) (hb : NestedIs s.heap b v) (hd : a.depth ≤ 8) (h : Q (decide (a = b)) s) : wpAny (model prog w) A (eqBool u v) Q E s :=
  eqAt_key a b A s u v ha hb (by omega) _ _ _ _ (by rw [← NestedKey.decide_eq]; exact h)
/-- keys carried by value: the plain walk -/
theorem nwalk {P : List Nat} {Q : Option Nat → Shared → Prop} (hu : A.units + 9 < cLine) (D : Ents w s.heap d o es ep xs) (hk : NestedIs s.heap k v) (hP : P = placesWithHash es.size (fun i => es[i]?.map (·.hash)) (k.hash w))
    (hnone : k ∉ xs.map (·.1) → Q none s) (hsome : ∀ (j : Nat) (x : NK × Value × Value), xs[j]? = some x → x.1 = k → Q (some j) s) :
    wpAny (model prog w) A (dictWalkPlain d v (k.hash w) es P) Q E s := by
  unfold dictWalkPlain
  refine wpAny_bind ?_
  refine wpAny_forIn_list _ (fun rest b s' => s' = s ∧ b = (none, ()) ∧ ∃ pre, P = pre ++ rest ∧ ∀ j ∈ pre, ∀ x, xs[j]? = some x → x.1 ≠ k) _ ?_ ?_ _ _ ⟨rfl, rfl, [], rfl, fun _ h => nomatch h⟩
  · rintro j rest b s' ⟨rfl, rfl, pre, hp, hno⟩
    obtain ⟨x, hx, he, hh⟩ := D.of_place (k := k) (j := j) (by rw [← hP, hp]; simp)
    rw [he]
    dsimp only
    rw [if_pos (show ((entN w x).hash == k.hash w) = true from by rw [show (entN w x).hash = x.1.hash w from rfl, hh, beq_self_eq_true])]
    obtain ⟨i1, i2⟩ := D.is x (List.mem_of_getElem? hx)
    refine wpAny_bind (wpAny_dictEpoch D.at_ D.dat (wpAny_bind (eqb hu i1 hk i2 (wpAny_bind (wpAny_dictEpoch D.at_ D.dat ?_)))))
    show wpAny _ _ (if (ep != ep) = true then _ else _) _ E _
    rw [if_neg (by simp)]
    by_cases e : x.1 = k
    · rw [decide_eq_true e]
      exact wpAny_bind (wpAny_rule (wpAny_pure (wpAny_pure (hsome j x hx e))))
    · rw [decide_eq_false e]
      refine wpAny_bind (wpAny_rule (wpAny_pure ⟨rfl, rfl, pre ++ [j], by rw [hp]; simp, fun i hi y hy => ?_⟩))
      rcases List.mem_append.mp hi with h | h
      · exact hno i h y hy
      · rw [List.mem_singleton.mp h, hx] at hy
        cases hy
        exact e
  · rintro b s' ⟨rfl, rfl, pre, hp, hno⟩
    refine wpAny_pure (hnone fun hm => ?_)
    obtain ⟨x, hx, e⟩ := List.mem_map.mp hm
    obtain ⟨j, hj⟩ := List.mem_iff_getElem?.mp hx
    have := D.place hj e
    rw [← hP, hp, List.append_nil] at this
    exact hno j this x hj e
theorem quiet_stored {P : List Nat} {Q : Bool → Shared → Prop} (D : Ents w s.heap d o es ep xs) (hk : NestedIs s.heap k v) (hkd : k.depth ≤ 8) (h : Q false s) :
    wpAny (model prog w) A (tableMayTell v (P.filterMap fun i => es[i]?.map (·.key))) Q E s := by
  have all : ∀ u ∈ P.filterMap (fun i => es[i]?.map (·.key)), ∃ k' : NK, NestedIs s.heap k' u ∧ k'.depth ≤ 8 := fun u hu => by
    obtain ⟨i, _, hi⟩ := List.mem_filterMap.mp hu
    rw [D.get] at hi
    cases q : xs[i]? with
    | none => rw [q] at hi; cases hi
    | some x =>
      rw [q] at hi
      obtain rfl : x.2.1 = u := Option.some.inj hi
      exact ⟨x.1, D.is x (List.mem_of_getElem? q)⟩
  generalize (P.filterMap fun i => es[i]?.map (·.key)) = st at all ⊢
  unfold tableMayTell
  split
  · exact wpAny_pure h
  · refine wpAny_bind (quiet_key k v 8 s hk hkd _ _ _ ?_)
    simp only [Bool.not_true, Bool.false_eq_true, if_false]
    refine wpAny_bind ?_
    refine wpAny_forIn_list _ (fun rest r s' => s' = s ∧ r = (none, ()) ∧ ∀ u ∈ rest, ∃ k' : NK, NestedIs s.heap k' u ∧ k'.depth ≤ 8) _ ?_ ?_ _ _ ⟨rfl, rfl, all⟩
    · rintro u rest r s' ⟨rfl, rfl, hr⟩
      obtain ⟨k', g1, g2⟩ := hr u List.mem_cons_self
      refine wpAny_bind (quiet_key k' u 8 s' g1 g2 _ _ _ ?_)
      simp only [Bool.not_true, Bool.false_eq_true, if_false]
      exact wpAny_pure ⟨rfl, rfl, fun y hy => hr y (List.mem_cons_of_mem _ hy)⟩
    · rintro r s' ⟨rfl, rfl, _⟩
      exact wpAny_pure h
/-- where the key stands -/
theorem nfind {Q : Option Nat → Shared → Prop} (hu : A.units + 9 < cLine) (D : Ents w s.heap d o es ep xs) (hk : NestedIs s.heap k v) (hkd : k.depth ≤ 8)
    (hnone : k ∉ xs.map (·.1) → Q none s) (hsome : ∀ (j : Nat) (x : NK × Value × Value), xs[j]? = some x → x.1 = k → Q (some j) s) :
    wpAny (model prog w) A (dictFind d v (k.hash w)) Q E s := by
  have plain := nwalk (prog := prog) (E := E) (A := A) hu D hk rfl hnone hsome
  have tail : ∀ (P : List Nat) (stored : List Value), P = placesWithHash es.size (fun i => es[i]?.map (·.hash)) (k.hash w) → stored = P.filterMap (fun i => es[i]?.map (·.key)) → wpAny (model prog w) A (do
      let tells ← if stored == [v] then pure false else tableMayTell v stored
      if tells && stored.length ≥ 2 then unsupported "dict.find:order-among-keys-of-one-hash"
      let mut hit : Option Nat := none
      for i in P do
        if let some e := es[i]? then
          if e.hash == k.hash w then
            let before ← dictEpoch d (keyPart v)
            let same ← eqBool e.key v
            if (← dictEpoch d (keyPart v)) != before then unsupported "dict.changed-during-lookup"
            if same then
              if hit.isSome then unsupported "dict.find:order-among-keys-of-one-hash"
              rule "dict.find.hit"
              if stored.length < 2 then return some i
              hit := some i
            else
              rule "dict.find.same-hash-other-key"
              if tells && !(0 ≤ k.hash w && k.hash w < 32) then unsupported "dict.find:asked-again-or-not-hangs-on-the-table"
      return hit) Q E s := fun P stored hP hst => by
    have nd : P.Nodup := by rw [hP]; exact places_nodup
    subst hst
    by_cases hone : ((P.filterMap (fun i => es[i]?.map (·.key))) == [v]) = true <;>
    (first | rw [if_pos hone] | rw [if_neg hone]) <;> (first | refine wpAny_bind (wpAny_pure ?_) | refine wpAny_bind (quiet_stored D hk hkd ?_)) <;> (
      dsimp only
      rw [if_neg (by simp)]
      refine wpAny_bind ?_
      refine wpAny_forIn_list _ (fun rest b s' => s' = s ∧ ∃ pre hit, b = (none, hit) ∧ P = pre ++ rest ∧ ((hit = none ∧ ∀ j ∈ pre, ∀ x, xs[j]? = some x → x.1 ≠ k) ∨ ∃ j x, hit = some j ∧ j ∈ pre ∧ xs[j]? = some x ∧ x.1 = k)) _ ?_ ?_ _ _
        ⟨rfl, [], none, rfl, rfl, .inl ⟨rfl, fun _ h => nomatch h⟩⟩
      · rintro j rest b s' ⟨rfl, pre, hit, rfl, hp, hH⟩
        obtain ⟨x, hx, he, hh⟩ := D.of_place (k := k) (j := j) (by rw [← hP, hp]; simp)
        rw [he]
        dsimp only
        rw [if_pos (show ((entN w x).hash == k.hash w) = true from by rw [show (entN w x).hash = x.1.hash w from rfl, hh, beq_self_eq_true])]
        obtain ⟨i1, i2⟩ := D.is x (List.mem_of_getElem? hx)
        refine wpAny_bind (wpAny_dictEpoch D.at_ D.dat (wpAny_bind (eqb hu i1 hk i2 (wpAny_bind (wpAny_dictEpoch D.at_ D.dat ?_)))))
        show wpAny _ _ (if (ep != ep) = true then _ else _) _ E _
        rw [if_neg (by simp)]
        have hp' : P = (pre ++ [j]) ++ rest := by rw [hp]; simp
        by_cases e : x.1 = k
        · rw [decide_eq_true e]
          rcases hH with ⟨rfl, hno⟩ | ⟨i, y, rfl, hi, hy, ey⟩
          · first | rw [if_pos rfl] | skip
            simp only [Option.isSome_none, Bool.false_eq_true, if_false]
            first | refine wpAny_bind (wpAny_pure ?_) | skip
            refine wpAny_bind (wpAny_rule ?_)
            split
            · exact wpAny_pure (wpAny_pure (hsome j x hx e))
            · exact wpAny_pure ⟨rfl, pre ++ [j], some j, rfl, hp', .inr ⟨j, x, rfl, by simp, hx, e⟩⟩
          · have ij : i = j := idx_uniq D.nd hy hx (ey.trans e.symm)
            rw [hp, ← ij] at nd
            exact absurd rfl ((List.nodup_append.mp nd).2.2 i hi i List.mem_cons_self)
        · rw [decide_eq_false e]
          simp only [Bool.false_eq_true, if_false]
          refine wpAny_bind (wpAny_rule ?_)
          first | rw [if_neg (by simp)] | skip
          have go : (hit = none ∧ ∀ i ∈ pre ++ [j], ∀ y, xs[i]? = some y → y.1 ≠ k) ∨ ∃ i y, hit = some i ∧ i ∈ pre ++ [j] ∧ xs[i]? = some y ∧ y.1 = k := by
            rcases hH with ⟨h0, hno⟩ | ⟨i, y, h1, hi, hy, ey⟩
            · refine .inl ⟨h0, fun i hi y hy => ?_⟩
              rcases List.mem_append.mp hi with h | h
              · exact hno i h y hy
              · rw [List.mem_singleton.mp h, hx] at hy
                cases hy
                exact e
            · exact .inr ⟨i, y, h1, List.mem_append_left _ hi, hy, ey⟩
          first
            | exact wpAny_pure ⟨rfl, pre ++ [j], hit, rfl, hp', go⟩
            | exact wpAny_bind (wpAny_pure (wpAny_pure ⟨rfl, pre ++ [j], hit, rfl, hp', go⟩))
      · rintro b s' ⟨rfl, pre, hit, rfl, hp, hH⟩
        rw [List.append_nil] at hp
        rcases hH with ⟨rfl, hno⟩ | ⟨j, x, rfl, _, hx, e⟩
        · refine wpAny_pure (hnone fun hm => ?_)
          obtain ⟨x, hx, e⟩ := List.mem_map.mp hm
          obtain ⟨j, hj⟩ := List.mem_iff_getElem?.mp hx
          have := D.place hj e
          rw [← hP, hp] at this
          exact hno j this x hj e
        · exact wpAny_pure (hsome j x hx e))
  have tail' := tail _ _ rfl rfl
  clear tail
  have byv : ∀ (u : Value), NestedIs s.heap k u → (∀ a, u ≠ .ref a) → carriedByValue u = true := fun u h n => by
    cases h <;> first | rfl | exact absurd rfl (n _)
  unfold dictFind
  try with_reducible refine wpAny_holding ?_
  refine wpAny_bind (wpAny_dictEntries D.at_ D.dat ?_)
  have str : ∀ (x : Str) (t : Tok), v = .str x t → k = .text x → (es.all fun e => isExactStrKey e.key) = true → wpAny (model prog w) A (foundByValue d v es x) Q E s := fun x t ev ek hs => by
    have same : ∀ (y : NK × Value × Value), y ∈ xs → (y.2.1.isStr x = true ↔ y.1 = k) := fun y hy => by
      have hm : entN w y ∈ es := by rw [← Array.mem_toList_iff, D.ent]; exact List.mem_map.mpr ⟨y, hy, rfl⟩
      have g1 := Array.all_eq_true'.mp hs _ hm
      have g2 := (D.is y hy).1
      have g1' : isExactStrKey y.2.1 = true := g1
      generalize y.2.1 = u at g1' g2 ⊢
      cases u <;> first | (cases g1'; done) | skip
      rename_i z t2
      generalize y.1 = k2 at g2 ⊢
      cases g2
      rw [ek]
      show decide (z = x) = true ↔ _
      rw [decide_eq_true_eq]
      exact ⟨fun e => by rw [e], fun e => by injection e⟩
    unfold foundByValue
    cases hf : es.findIdx? (fun e => e.key.isStr x) with
    | none =>
      refine wpAny_pure (hnone fun hm => ?_)
      obtain ⟨y, hy, e⟩ := List.mem_map.mp hm
      have hm : entN w y ∈ es := by rw [← Array.mem_toList_iff, D.ent]; exact List.mem_map.mpr ⟨y, hy, rfl⟩
      have := Array.findIdx?_eq_none_iff.mp hf _ hm
      rw [show (entN w y).key.isStr x = y.2.1.isStr x from rfl, (same y hy).mpr e] at this
      cases this
    | some j =>
      obtain ⟨hlt, hi, _⟩ := Array.findIdx?_eq_some_iff_getElem.mp hf
      have hlt' : j < xs.length := by rw [← D.size]; exact hlt
      have hx : xs[j]? = some xs[j] := List.getElem?_eq_getElem hlt'
      have he : es[j]? = some (entN w xs[j]) := by rw [D.get, hx]; rfl
      have he' : es[j] = entN w xs[j] := by rw [Array.getElem?_eq_getElem hlt] at he; exact Option.some.inj he
      rw [he'] at hi
      have ek := (same _ (List.getElem_mem hlt')).mp hi
      dsimp only
      rw [he]
      dsimp only
      obtain ⟨i1, i2⟩ := D.is _ (List.getElem_mem hlt')
      refine wpAny_bind (wpAny_dictEpoch D.at_ D.dat (wpAny_bind (eqb hu i1 hk i2 (wpAny_bind (wpAny_dictEpoch D.at_ D.dat ?_)))))
      show wpAny _ _ (if (ep != ep) = true then _ else _) _ E _
      rw [if_neg (by simp), decide_eq_true ek]
      exact wpAny_bind (wpAny_rule (wpAny_pure (hsome j _ hx ek)))
  have any : ∀ a, v = .ref a → ¬ (es.any fun e => e.key == v && e.hash != k.hash w) = true := fun a ev => by
    rw [← Array.any_toList, List.any_eq_true]
    rintro ⟨e, hin, hc⟩
    rw [D.ent] at hin
    obtain ⟨x, hx, rfl⟩ := List.mem_map.mp hin
    simp only [entN, Bool.and_eq_true, beq_iff_eq, bne_iff_ne, ne_eq] at hc
    have g := (D.is x hx).1
    rw [hc.1] at g
    exact hc.2 (by rw [NestedIs.inj _ _ _ g hk])
  cases hk with
  | none =>
    dsimp only
    by_cases hall : (Value.none :: (placesWithHash es.size (fun i => es[i]?.map (·.hash)) (NestedKey.none.hash w)).filterMap fun i => es[i]?.map (·.key)).all carriedByValue = true
    · rw [if_pos hall]; exact plain
    · rw [if_neg hall]; exact tail'
  | @bool b i e =>
    dsimp only
    by_cases hall : (Value.bool b :: (placesWithHash es.size (fun i => es[i]?.map (·.hash)) ((NestedKey.num i).hash w)).filterMap fun i => es[i]?.map (·.key)).all carriedByValue = true
    · rw [if_pos hall]; exact plain
    · rw [if_neg hall]; exact tail'
  | int i t =>
    dsimp only
    by_cases hall : (Value.int i t :: (placesWithHash es.size (fun i => es[i]?.map (·.hash)) ((NestedKey.num i).hash w)).filterMap fun i => es[i]?.map (·.key)).all carriedByValue = true
    · rw [if_pos hall]; exact plain
    · rw [if_neg hall]; exact tail'
  | @tup a ob vs n ks h1 h2 h3 h4 =>
    dsimp only
    rw [if_neg (show ¬ (Value.ref a :: (placesWithHash es.size (fun i => es[i]?.map (·.hash)) ((NestedKey.tup ks).hash w)).filterMap fun i => es[i]?.map (·.key)).all carriedByValue = true by simp [carriedByValue]), if_neg (any a rfl)]
    exact tail'
  | text x t =>
    dsimp only
    by_cases hs : (es.all fun e => isExactStrKey e.key) = true
    · rw [if_pos hs]
      exact str x t rfl rfl hs
    · rw [if_neg hs]
      by_cases hall : (Value.str x t :: (placesWithHash es.size (fun i => es[i]?.map (·.hash)) ((NestedKey.text x).hash w)).filterMap fun i => es[i]?.map (·.key)).all carriedByValue = true
      · rw [if_pos hall]; exact plain
      · rw [if_neg hall]; exact tail'
theorem nget {Q : Option Value → Shared → Prop} (hu : A.units + 9 < cLine) (D : Ents w s.heap d o es ep xs) (hk : NestedIs s.heap k v) (hkd : k.depth ≤ 8)
    (hnone : k ∉ xs.map (·.1) → Q none { s with toks := s.toks + k.draws }) (hsome : ∀ (j : Nat) (x : NK × Value × Value), xs[j]? = some x → x.1 = k → Q (some x.2.2) { s with toks := s.toks + k.draws }) :
    wpAny (model prog w) A (dictGet d v) Q E s := by
  unfold dictGet
  try with_reducible refine wpAny_holding ?_
  refine wpAny_bind (pyHash_key k v A s _ hk (by omega) (wpAny_bind (nfind (s := { s with toks := s.toks + k.draws }) hu D hk hkd (fun h => wpAny_pure (hnone h)) fun j x hx e => ?_)))
  refine wpAny_bind (wpAny_dictEntries (s := { s with toks := s.toks + k.draws }) D.at_ D.dat ?_)
  rw [D.get, hx]
  exact wpAny_pure (hsome j x hx e)
theorem rep_modify {f : DictEntry → DictEntry} {j : Nat} {x : NK × Value × Value} {b : Value} (hn : (xs.map (·.1)).Nodup) (hx : xs[j]? = some x) (hf : ∀ y : NK × Value × Value, f (entN w y) = entN w (y.1, y.2.1, b)) :
    (xs.map (entN w)).modify j f = (xs.map fun y => if y.1 = x.1 then (y.1, y.2.1, b) else y).map (entN w) := by
  refine List.ext_getElem? fun i => ?_
  rw [List.getElem?_modify, List.getElem?_map, List.getElem?_map, List.getElem?_map]
  cases hi : xs[i]? with
  | none => simp
  | some y =>
    by_cases e : j = i
    · subst e
      rw [hx] at hi
      cases hi
      simp [hf]
    · have ne : y.1 ≠ x.1 := fun z => e (idx_uniq hn hx hi z.symm)
      simp [e, ne]
theorem nset {u : Value} {Q : Unit → Shared → Prop} (hu : A.units + 9 < cLine) (D : Ents w s.heap d o es ep xs) (hx : o.ExactDict) (hk : NestedIs s.heap k v) (hkd : k.depth ≤ 8)
    (hQ : ∀ h' o' es' ep', h'.get? d = some o' → o'.ExactDict → o'.data = .dict es' ep' → es'.toList = (putX xs k v u).map (entN w) → Heap.SameBut d s.heap h' → Q () { s with heap := h', toks := s.toks + k.draws })
    (hsz : xs.length ≤ sizeLine) : wpAny (model prog w) A (dictSet d v u) Q E s := by
  unfold dictSet
  try with_reducible refine wpAny_holding ?_
  refine wpAny_bind (pyHash_key k v A s _ hk (by omega) ?_)
  unfold dictSetHashed
  try with_reducible refine wpAny_holding ?_
  refine wpAny_bind (nfind (s := { s with toks := s.toks + k.draws }) hu D hk hkd (fun hno => ?_) fun j x hx' e => ?_)
  · refine wpAny_bind (wpAny_rule (wpAny_updateDictKeys (hz := by rw [D.size]; exact hsz) (s := { s with toks := s.toks + k.draws }) D.at_ D.dat
      (hQ _ _ _ (ep + 1) (Heap.get?_update_self _ D.at_ (Obj.isFreed_of_dict (Obj.data_mapDictKeys D.dat _))) (hx.mapDictKeys _) (Obj.data_mapDictKeys D.dat _) ?_ (Heap.SameBut.update ..))))
    unfold putX
    rw [if_neg hno]
    simp [D.ent, entN]
  · refine wpAny_bind (wpAny_rule (wpAny_bind (wpAny_updateDict (s := { s with toks := s.toks + k.draws }) D.at_ D.dat (wpAny_point
      (hQ _ _ _ ep (Heap.get?_update_self _ D.at_ (Obj.isFreed_of_dict (Obj.data_mapDict D.dat _))) (hx.mapDict _) (Obj.data_mapDict D.dat _) ?_ (Heap.SameBut.update ..))))))
    unfold putX
    rw [if_pos (List.mem_map.mpr ⟨x, List.mem_of_getElem? hx', e⟩), ← e, ← rep_modify (f := fun en => { en with val := u }) D.nd hx' (fun _ => rfl), ← D.ent]
    obtain ⟨l⟩ := es
    simp
end
end Mx

/-! MX2: such dicts over the abstract heap. -/
namespace Mx
open PySem PySem.Spec PyProof.Rows L2
/-- the object at a is o -/
def objO (a : Addr) (o : Obj) : HO := .ext fun h => h.get? a = some o
theorem objO_ok {P : Program} {w : World} {H : Hp} {h : Heap} {a : Addr} {o : Obj} (e : h.get? a = some o) : ObjOk P w H h a (objO a o) := ⟨e, ⟨o, e⟩, fun h1 h2 x k => k o x⟩
theorem objO_at {X : Cx} {pins : List (Addr × Obj)} {σ : L2.St} {H : Hp} {s : Shared} {a : Addr} {o : Obj} (I : Inv X pins σ H s) (e : H a = some (objO a o)) : s.heap.get? a = some o :=
  (show ObjOk X.prog X.w H s.heap a (objO a o) from I.hok a _ e).1
mutual
/-- the value is the key -/
inductive KeyV (K : PySem.W.Frag) (H : Hp) : V → NK → Prop
  | int (i : Int) : KeyV K H (.int i) (.num i)
  | str (x : Str) : KeyV K H (.str x) (.text x)
  | tup {a : Addr} {xs : List V} {ks : List NK} : H a = some (.tup xs) → KeyA K H xs ks → KeyV K H (.ref a) (.tup ks)
inductive KeyA (K : PySem.W.Frag) (H : Hp) : List V → List NK → Prop
  | nil : KeyA K H [] []
  | cons {x : V} {k : NK} {xs : List V} {ks : List NK} : KeyV K H x k → KeyA K H xs ks → KeyA K H (x :: xs) (k :: ks)
end
theorem sqt_up {K : PySem.W.Frag} {H H' : Hp} {a : Addr} {xs : List V} (m : Same H H') (h : SqT K H a xs) : SqT K H' a xs := h.elim (fun z => .inl (z.elim (fun z => .inl (m _ _ z)) fun ⟨o, z⟩ => .inr ⟨o, m _ _ z⟩)) .inr
mutual
theorem KeyV.more {K : PySem.W.Frag} {H H' : Hp} (m : Same H H') : ∀ {x : V} {k : NK}, KeyV K H x k → KeyV K H' x k
  | _, _, .int i => .int i
  | _, _, .str x => .str x
  | _, _, .tup h t => .tup (m _ _ h) (t.more m)
theorem KeyA.more {K : PySem.W.Frag} {H H' : Hp} (m : Same H H') : ∀ {xs : List V} {ks : List NK}, KeyA K H xs ks → KeyA K H' xs ks
  | _, _, .nil => .nil
  | _, _, .cons h t => .cons (h.more m) (t.more m)
end
section
variable {X : Cx} {pins : List (Addr × Obj)} {σ : L2.St} {H : Hp} {s : Shared}
mutual
theorem key_is (I : Inv X pins σ H s) : ∀ {x : V} {k : NK}, KeyV X.K H x k → ∀ {v : Value}, RelV x v → NestedIs s.heap k v
  | _, _, .int i, v, r => by obtain ⟨t, rfl⟩ := (show ∃ t, v = Value.int i t from r); exact .int i t
  | _, _, .str x, v, r => by obtain ⟨t, rfl⟩ := (show ∃ t, v = Value.str x t from r); exact .text x t
  | _, _, .tup (a := a) h t, v, r => by
    cases (show v = Value.ref a from r)
    obtain ⟨its, rv, ⟨o, h1, h2, n, h3⟩, _⟩ := I.tuple (SqT.of h)
    exact .tup h1 h2 h3 (by simpa using keys_is I t rv)
theorem keys_is (I : Inv X pins σ H s) : ∀ {xs : List V} {ks : List NK}, KeyA X.K H xs ks → ∀ {us : List Value}, Vals xs us → NestedAll s.heap ks us
  | _, _, .nil, us, r => by cases r; exact .nil
  | _, _, .cons h t, us, r => by
    cases r with
    | cons r1 r2 => exact .cons (key_is I h r1) (keys_is I t r2)
end
end
/-- rows of keys and values: abstract, and as they are -/
def KX (kvs : List (NK × V × V)) (xs : List (NK × Value × Value)) : Prop := Paired (fun (p : NK × V × V) (q : NK × Value × Value) => p.1 = q.1 ∧ RelV p.2.1 q.2.1 ∧ RelV p.2.2 q.2.2) kvs xs
theorem KX.keys : ∀ {kvs : List (NK × V × V)} {xs : List (NK × Value × Value)}, KX kvs xs → kvs.map (·.1) = xs.map (·.1)
  | _, _, .nil => rfl
  | _, _, .cons h t => by rw [List.map_cons, List.map_cons, h.1, KX.keys t]
theorem KX.at_ : ∀ {kvs : List (NK × V × V)} {xs : List (NK × Value × Value)}, KX kvs xs → ∀ {j : Nat} {x : NK × Value × Value}, xs[j]? = some x → ∃ p, kvs[j]? = some p ∧ p.1 = x.1 ∧ RelV p.2.1 x.2.1 ∧ RelV p.2.2 x.2.2
  | _, _, .cons (a := p) h t, 0, x, e => by cases e; exact ⟨p, rfl, h⟩
  | _, _, .cons h t, j + 1, x, e => KX.at_ t e
theorem KX.to : ∀ {kvs : List (NK × V × V)} {xs : List (NK × Value × Value)}, KX kvs xs → ∀ {j : Nat} {p : NK × V × V}, kvs[j]? = some p → ∃ x, xs[j]? = some x ∧ p.1 = x.1 ∧ RelV p.2.1 x.2.1 ∧ RelV p.2.2 x.2.2
  | _, _, .cons (b := q) h t, 0, x, e => by cases e; exact ⟨q, rfl, h⟩
  | _, _, .cons h t, j + 1, x, e => KX.to t e
theorem KX.vals : ∀ {kvs : List (NK × V × V)} {xs : List (NK × Value × Value)}, KX kvs xs → Vals (kvs.map (·.2.2)) (xs.map (·.2.2))
  | _, _, .nil => .nil
  | _, _, .cons h t => .cons h.2.2 (KX.vals t)
theorem KX.keyV : ∀ {kvs : List (NK × V × V)} {xs : List (NK × Value × Value)}, KX kvs xs → Vals (kvs.map (·.2.1)) (xs.map (·.2.1))
  | _, _, .nil => .nil
  | _, _, .cons h t => .cons h.2.1 (KX.keyV t)
theorem KX.len {kvs : List (NK × V × V)} {xs : List (NK × Value × Value)} (h : KX kvs xs) : kvs.length = xs.length := Paired.length h
theorem KX.rep {k : NK} {b : V} {v : Value} (r2 : RelV b v) : ∀ {kvs : List (NK × V × V)} {xs : List (NK × Value × Value)}, KX kvs xs → KX (kvs.map fun x => if x.1 = k then (x.1, x.2.1, b) else x) (xs.map fun x => if x.1 = k then (x.1, x.2.1, v) else x)
  | _, _, .nil => .nil
  | _, _, .cons (a := p) (b := q) g t => by
    rw [List.map_cons, List.map_cons]
    refine .cons ?_ (KX.rep r2 t)
    obtain ⟨g1, g2, g3⟩ := g
    by_cases e : p.1 = k
    · rw [if_pos e, if_pos (g1.symm.trans e)]; exact ⟨g1, g2, r2⟩
    · rw [if_neg e, if_neg (fun z => e (g1.trans z))]; exact ⟨g1, g2, g3⟩
theorem KX.app : ∀ {kvs : List (NK × V × V)} {xs : List (NK × Value × Value)}, KX kvs xs → ∀ {kvs' : List (NK × V × V)} {xs' : List (NK × Value × Value)}, KX kvs' xs' → KX (kvs ++ kvs') (xs ++ xs')
  | _, _, .nil, _, _, h => h
  | _, _, .cons g t, _, _, h => .cons g (KX.app t h)
theorem KX.put {kvs : List (NK × V × V)} {xs : List (NK × Value × Value)} (h : KX kvs xs) {k : NK} {a b : V} {u v : Value} (r1 : RelV a u) (r2 : RelV b v) : KX (putX kvs k a b) (putX xs k u v) := by
  unfold putX
  rw [h.keys]
  split
  · exact KX.rep r2 h
  · exact KX.app h (.cons ⟨rfl, r1, r2⟩ .nil)
/-- the object is a dict with these keys and values -/
def DxO (w : World) (o : Obj) (kvs : List (NK × V × V)) : Prop := o.ExactDict ∧ kvs.length ≤ sizeLine ∧ (kvs.map (·.1)).Nodup ∧ ∃ es ep xs, o.data = .dict es ep ∧ es.toList = xs.map (entN w) ∧ KX kvs xs
/-- .. whatever the keys' hashes are -/
def DxE (o : Obj) (kvs : List (NK × V × V)) : Prop := o.ExactDict ∧ kvs.length ≤ sizeLine ∧ ∃ (es : Array DictEntry) (ep : Nat) (xs : List (NK × Value × Value)), o.data = .dict es ep ∧ es.toList.map (·.key) = xs.map (·.2.1) ∧ es.toList.map (·.val) = xs.map (·.2.2) ∧ KX kvs xs
theorem DxO.e {w : World} {o : Obj} {kvs : List (NK × V × V)} (h : DxO w o kvs) : DxE o kvs := by
  obtain ⟨h1, h2, _, es, ep, xs, h3, h4, h5⟩ := h
  refine ⟨h1, h2, es, ep, xs, h3, ?_, ?_, h5⟩
  · rw [h4, List.map_map]; rfl
  · rw [h4, List.map_map]; rfl
/-- at a stands a dict with these keys and values -/
def Dx (w : World) (K : PySem.W.Frag) (H : Hp) (a : Addr) (kvs : List (NK × V × V)) : Prop := ∃ o, H a = some (objO a o) ∧ DxO w o kvs ∧ (a == sysModules) = false ∧ ∀ p ∈ kvs, KeyV K H p.2.1 p.1 ∧ p.1.depth ≤ 8
theorem Dx.more {w : World} {K : PySem.W.Frag} {H H' : Hp} {a : Addr} {kvs : List (NK × V × V)} (m : Same H H') (h : Dx w K H a kvs) : Dx w K H' a kvs := by
  obtain ⟨o, h1, h2, h3, h4⟩ := h
  exact ⟨o, m _ _ h1, h2, h3, fun p hp => ⟨(h4 p hp).1.more m, (h4 p hp).2⟩⟩
section
variable {X : Cx} {pins : List (Addr × Obj)} {σ : L2.St} {H : Hp} {s : Shared} {a : Addr} {kvs : List (NK × V × V)}
theorem keys_at (I : Inv X pins σ H s) : ∀ {kvs : List (NK × V × V)} {xs : List (NK × Value × Value)}, KX kvs xs → (∀ p ∈ kvs, KeyV X.K H p.2.1 p.1 ∧ p.1.depth ≤ 8) → ∀ x ∈ xs, NestedIs s.heap x.1 x.2.1 ∧ x.1.depth ≤ 8
  | _, _, .nil, _, x, hx => nomatch hx
  | _, _, .cons (a := p) (b := q) h t, g, x, hx => by
    rcases List.mem_cons.mp hx with e | e
    · obtain ⟨g1, g2⟩ := g p List.mem_cons_self
      rw [e, ← h.1]
      exact ⟨key_is I g1 h.2.1, g2⟩
    · exact keys_at I t (fun y hy => g y (List.mem_cons_of_mem _ hy)) x e
theorem Dx.ents (I : Inv X pins σ H s) (h : Dx X.w X.K H a kvs) : ∃ o es ep xs, Ents X.w s.heap a o es ep xs ∧ o.ExactDict ∧ KX kvs xs := by
  obtain ⟨o, h1, ⟨g1, g2, g3, es, ep, xs, g4, g5, g6⟩, h3, h4⟩ := h
  exact ⟨o, es, ep, xs, ⟨objO_at I h1, g4, g5, keys_at I g6 h4, by rw [← g6.keys]; exact g3⟩, g1, g6⟩
end
end Mx

/-! NsA: data as a whole over the abstract heap; its repr; its ==. -/
namespace Ns
open PySem PySem.Spec PyProof.Rows L2 Mx

/-- a key as data -/
def kD : Key → PyData
  | .inl i => .int i
  | .inr x => .str x

mutual
/-- the value x is the datum d -/
inductive DatV (K : PySem.W.Frag) (H : Hp) : V → PyData → Prop
  | non : DatV K H .non .none
  | bl (b : Bool) : DatV K H (.bl b) (.bool b)
  | int (i : Int) : DatV K H (.int i) (.int i)
  | str (x : Str) : DatV K H (.str x) (.str x)
  | lst {a : Addr} {xs : List V} {ds : List PyData} : SqL K H a xs → DatA K H xs ds → DatV K H (.ref a) (.list ds)
  | tup {a : Addr} {xs : List V} {ds : List PyData} : SqT K H a xs → DatA K H xs ds → DatV K H (.ref a) (.tuple ds)
  | dix {a : Addr} {o : Obj} {kvs : List (NK × V × V)} {ks ds : List PyData} : H a = some (objO a o) → DxE o kvs → (a == sysModules) = false → DatA K H (kvs.map (·.2.1)) ks → DatA K H (kvs.map (·.2.2)) ds → DatV K H (.ref a) (.dict (ks.zip ds))
inductive DatA (K : PySem.W.Frag) (H : Hp) : List V → List PyData → Prop
  | nil : DatA K H [] []
  | cons {x : V} {d : PyData} {xs : List V} {ds : List PyData} : DatV K H x d → DatA K H xs ds → DatA K H (x :: xs) (d :: ds)
end

theorem DatA.len {K : PySem.W.Frag} {H : Hp} : ∀ {xs : List V} {ds : List PyData}, DatA K H xs ds → xs.length = ds.length
  | _, _, .nil => rfl
  | _, _, .cons _ t => by rw [List.length_cons, List.length_cons, t.len]

mutual
/-- what stood stands: the datum too -/
theorem DatV.more {K : PySem.W.Frag} {H H' : Hp} (m : Same H H') : ∀ {x : V} {d : PyData}, DatV K H x d → DatV K H' x d
  | _, _, .non => .non
  | _, _, .bl b => .bl b
  | _, _, .int i => .int i
  | _, _, .str x => .str x
  | _, _, .lst h t => .lst (m.seq h) (t.more m)
  | _, _, .tup h t => .tup (h.elim (fun z => .inl (z.elim (fun z => .inl (m _ _ z)) fun ⟨o, z⟩ => .inr ⟨o, m _ _ z⟩)) .inr) (t.more m)
  | _, _, .dix h e sy tk t => .dix (m _ _ h) e sy (tk.more m) (t.more m)
theorem DatA.more {K : PySem.W.Frag} {H H' : Hp} (m : Same H H') : ∀ {xs : List V} {ds : List PyData}, DatA K H xs ds → DatA K H' xs ds
  | _, _, .nil => .nil
  | _, _, .cons h t => .cons (h.more m) (t.more m)
end

theorem map_fst_zip {α β : Type} : ∀ {as : List α} {bs : List β}, as.length = bs.length → (as.zip bs).map (·.1) = as
  | [], [], _ => rfl
  | a :: as, b :: bs, h => by
    have h' : as.length = bs.length := by simpa using h
    simp [map_fst_zip h']
theorem map_snd_zip {α β : Type} : ∀ {as : List α} {bs : List β}, as.length = bs.length → (as.zip bs).map (·.2) = bs
  | [], [], _ => rfl
  | a :: as, b :: bs, h => by
    have h' : as.length = bs.length := by simpa using h
    simp [map_snd_zip h']

section
variable {X : Cx} {pins : List (Addr × Obj)} {σ : L2.St} {H : Hp} {s : Shared}

/-- the keys of a dict's entries are read -/
theorem keys_read {h : Heap} {P : Program} {w : World} : ∀ {es : List DictEntry} {vs : List (Key × Value)}, Pairs (mixKind P w) es vs → ReadsAll h (es.map (·.key)) (vs.map fun p => kD p.1) []
  | _, _, .nil => .nil
  | e :: es, kv :: vs, .cons h1 _ t => by
    have q : Reads h e.key (kD kv.1) [] := by
      rcases keyIs_shape (show keyIs kv.1 e.key = true from h1) with ⟨i, t, ek, ev⟩ | ⟨x, t, ek, ev⟩
      · rw [ek, ev]; exact .int i t
      · rw [ek, ev]; exact .str x t
    exact ReadsAll.cons (as := []) (bs := []) q (keys_read t)
theorem pairs_vals {P : Program} {w : World} : ∀ {es : List DictEntry} {vs : List (Key × Value)}, Pairs (mixKind P w) es vs → es.map (·.val) = vs.map (·.2)
  | _, _, .nil => rfl
  | e :: es, kv :: vs, .cons _ h2 t => by
    rw [List.map_cons, List.map_cons, h2, pairs_vals t]
theorem kv_fst : ∀ {ks : List (Key × V)} {vs : List (Key × Value)}, KV ks vs → vs.map (fun p => kD p.1) = ks.map fun p => kD p.1
  | _, _, .nil => rfl
  | _, _, .cons h t => by rw [List.map_cons, List.map_cons, h.1, kv_fst t]
theorem kv_vals : ∀ {ks : List (Key × V)} {vs : List (Key × Value)}, KV ks vs → Vals (ks.map (·.2)) (vs.map (·.2))
  | _, _, .nil => .nil
  | _, _, .cons h t => .cons h.2 (kv_vals t)

mutual
/-- what the heap reads of it -/
theorem reads_of (I : Inv X pins σ H s) : ∀ {x : V} {d : PyData}, DatV X.K H x d → ∀ {v : Value}, RelV x v → ∃ as, Reads s.heap v d as
  | _, _, .non, v, r => by cases (show v = Value.none from r); exact ⟨_, .none⟩
  | _, _, .bl b, v, r => by cases (show v = Value.bool b from r); exact ⟨_, .bool b⟩
  | _, _, .int i, v, r => by obtain ⟨t, rfl⟩ := (show ∃ t, v = Value.int i t from r); exact ⟨_, .int i t⟩
  | _, _, .str x, v, r => by obtain ⟨t, rfl⟩ := (show ∃ t, v = Value.str x t from r); exact ⟨_, .str x t⟩
  | _, _, .lst (a := a) h t, v, r => by
    cases (show v = Value.ref a from r)
    obtain ⟨its, rv, ⟨o, n, h1, h2, h3, h4⟩, _⟩ := I.list h
    obtain ⟨as, q⟩ := readsA_of I t rv
    exact ⟨_, .list h1 h2 (by first | exact h3 | exact h4) (by simpa using q)⟩
  | _, _, .tup (a := a) h t, v, r => by
    cases (show v = Value.ref a from r)
    obtain ⟨its, rv, ⟨o, h1, h2, n, h3⟩, _⟩ := I.tuple h
    obtain ⟨as, q⟩ := readsA_of I t rv
    exact ⟨_, .tuple h1 h2 h3 (by simpa using q)⟩
  | _, _, .dix (a := a) (kvs := kvs) (ks := ks) (ds := ds) h e sy tk t, v, r => by
    cases (show v = Value.ref a from r)
    obtain ⟨h2, hz, es, ep, xs, h3, e1, e2, kx⟩ := e
    obtain ⟨as, q1⟩ := readsA_of I tk kx.keyV
    obtain ⟨bs, q2⟩ := readsA_of I t kx.vals
    have hl : ks.length = ds.length := by
      have z1 := tk.len
      have z2 := t.len
      rw [List.length_map] at z1 z2
      omega
    exact ⟨_, Reads.dict (as := as) (bs := bs) (objO_at I h) h2.1 h3 (by rw [map_fst_zip hl, e1]; exact q1) (by rw [map_snd_zip hl, e2]; exact q2)⟩
theorem readsA_of (I : Inv X pins σ H s) : ∀ {xs : List V} {ds : List PyData}, DatA X.K H xs ds → ∀ {us : List Value}, Vals xs us → ∃ as, ReadsAll s.heap us ds as
  | _, _, .nil, us, r => by cases r; exact ⟨_, .nil⟩
  | _, _, .cons h t, us, r => by
    cases r with
    | cons r1 r2 =>
      obtain ⟨as, q⟩ := reads_of I h r1
      obtain ⟨bs, q2⟩ := readsA_of I t r2
      exact ⟨_, .cons q q2⟩
end
end
end Ns

/-! NsB: repr of data. -/
namespace Ns
open PySem PySem.Spec PyProof.Rows L2 Mx
section
variable {X : Cx} {pins : List (Addr × Obj)} {σ : L2.St} {H : Hp} {s : Shared}

theorem zip_kv : ∀ {as : List Key} {ds : List PyData}, as.length = ds.length → ((as.map kD).zip ds).map (·.1) = as.map kD := fun {as ds} h => map_fst_zip (by rw [List.length_map]; exact h)

theorem kv_of_zip {α : Type} {f : α → PyData} {l : List α} {ds : List PyData} (h : l.length = ds.length) : (((l.map f).zip ds).map (·.1) = l.map f) ∧ (((l.map f).zip ds).map (·.2) = ds) :=
  ⟨map_fst_zip (by rw [List.length_map]; exact h), map_snd_zip (by rw [List.length_map]; exact h)⟩

/-- keys show themselves, whatever stands -/
theorem keys_shown {P : Program} {w : World} {h : Heap} {n : Nat} : ∀ {es : List DictEntry} {vs : List (Key × Value)}, Pairs (mixKind P w) es vs → (∀ p ∈ vs, (kD p.1).showable = true ∧ (kD p.1).shown.length ≤ sizeLine) →
    ReprAllK P w [] h n (es.map (·.key)) (PyData.shownAll (vs.map fun p => kD p.1))
  | _, _, .nil, _ => by simp only [List.map_nil, PyData.shownAll]; exact .nil
  | e :: es, kv :: vs, .cons h1 _ t, hz => by
    rw [List.map_cons, List.map_cons, PyData.shownAll_cons]
    obtain ⟨z1, z2⟩ := hz kv List.mem_cons_self
    refine .cons (ReprK.of_is ?_ _ _ _) (keys_shown t fun p hp => hz p (List.mem_cons_of_mem _ hp))
    rcases keyIs_shape (show keyIs kv.1 e.key = true from h1) with ⟨i, tk, ek, ev⟩ | ⟨x, tk, ek, ev⟩
    · rw [ek] at z1 ⊢
      rw [ev]
      show ReprIs P w _ (PyData.int i).shown
      rw [PyData.shown_int]
      exact ReprIs.int tk (of_decide_eq_true (by simpa [kD, PyData.showable] using z1))
    · rw [ek] at z2 ⊢
      rw [ev]
      show ReprIs P w _ (PyData.str x).shown
      have z2' : (PyData.str x).shown.length ≤ sizeLine := z2
      rw [PyData.shown_str] at z2' ⊢
      exact ReprIs.str x tk z2'

theorem all_of : ∀ {l : List PyData}, PyData.showableAll l = true → ∀ d ∈ l, d.showable = true
  | [], _, _, hd => nomatch hd
  | x :: l, h, d, hd => by
    have h' : x.showable = true ∧ PyData.showableAll l = true := by simpa [PyData.showableAll] using h
    rcases List.mem_cons.mp hd with e | e
    · rw [e]; exact h'.1
    · exact all_of h'.2 d e
theorem shown_mem : ∀ {l : List PyData} {d : PyData}, d ∈ l → d.shown ∈ PyData.shownAll l
  | [], _, h => nomatch h
  | x :: l, d, h => by
    rw [PyData.shownAll_cons]
    rcases List.mem_cons.mp h with e | e
    · rw [e]; exact List.mem_cons_self
    · exact List.mem_cons_of_mem _ (shown_mem e)

mutual
theorem reprK_of (I : Inv X pins σ H s) : ∀ {x : V} {d : PyData}, DatV X.K H x d → ∀ {v : Value}, RelV x v → d.showable = true → d.shown.length ≤ sizeLine →
    ∃ bs, ReadAtMost s.heap d.depth bs ∧ ReprK X.prog X.w bs s.heap d.depth v d.shown
  | _, _, .non, v, r, _, _ => by
    cases (show v = Value.none from r)
    exact ⟨[], (fun _ z => nomatch z), by rw [PyData.shown_none]; exact .of_is ReprIs.none _ _ _⟩
  | _, _, .bl b, v, r, _, _ => by
    cases (show v = Value.bool b from r)
    refine ⟨[], (fun _ z => nomatch z), ?_⟩
    simp only [PyData.shown]
    exact .of_is (ReprIs.bool b) _ _ _
  | _, _, .int i, v, r, hs, _ => by
    obtain ⟨t, rfl⟩ := (show ∃ t, v = Value.int i t from r)
    refine ⟨[], (fun _ z => nomatch z), ?_⟩
    rw [PyData.shown_int]
    exact .of_is (ReprIs.int t (by simpa [PyData.showable] using hs)) _ _ _
  | _, _, .str x, v, r, _, hz => by
    obtain ⟨t, rfl⟩ := (show ∃ t, v = Value.str x t from r)
    refine ⟨[], (fun _ z => nomatch z), ?_⟩
    rw [PyData.shown_str] at hz ⊢
    exact .of_is (ReprIs.str x t hz) _ _ _
  | _, _, .lst (a := a) (ds := ds) h t, v, r, hs, hz => by
    cases (show v = Value.ref a from r)
    have hz1 : (listText (PyData.shownAll ds)).length ≤ sizeLine := by simpa only [PyData.shown] using hz
    have hs1 : PyData.showableAll ds = true := by simpa [PyData.showable] using hs
    obtain ⟨as, rd⟩ := reads_of I (.lst h t) (v := .ref a) rfl
    obtain ⟨its, rv, ⟨o, n, h1, h2, h3, h4⟩, _⟩ := I.list h
    have h5 : o.data = .seq its.toArray n := by first | exact h3 | exact h4
    obtain ⟨bs, hb, hk⟩ := reprA_of I t rv hs1 fun u hu => Nat.le_trans (listText_mem_le hu) hz1
    have dp : (PyData.list ds).depth = PyData.depthAll ds + 1 := by simp only [PyData.depth] <;> omega
    have hna : a ∉ bs := not_mem_of_deeper rd (by rw [dp]; omega) hb
    refine ⟨a :: bs, ReadAtMost.cons rd (by rw [dp]; omega) hb, ?_⟩
    rw [dp]
    simp only [PyData.shown]
    cases its with
    | nil =>
      have e0 : PyData.shownAll ds = [] := List.length_eq_zero_iff.mp (by simpa using hk.length_eq)
      rw [e0, listText_nil]
      exact ReprK.listEmpty h1 h2 h5
    | cons y l => exact ReprK.list h1 h2 h5 hna (by simpa using hk.length_eq) fun i u e => hk.item i u (by simpa using e)
  | _, _, .tup (a := a) (ds := ds) h t, v, r, hs, hz => by
    cases (show v = Value.ref a from r)
    have hz1 : (tupleText (PyData.shownAll ds)).length ≤ sizeLine := by simpa only [PyData.shown] using hz
    have hs1 : PyData.showableAll ds = true := by simpa [PyData.showable] using hs
    obtain ⟨as, rd⟩ := reads_of I (.tup h t) (v := .ref a) rfl
    obtain ⟨its, rv, ⟨o, h1, h2, n, h3⟩, _⟩ := I.tuple h
    obtain ⟨bs, hb, hk⟩ := reprA_of I t rv hs1 fun u hu => Nat.le_trans (tupleText_mem_le hu) hz1
    have dp : (PyData.tuple ds).depth = PyData.depthAll ds + 1 := by simp only [PyData.depth] <;> omega
    have hna : a ∉ bs := not_mem_of_deeper rd (by rw [dp]; omega) hb
    refine ⟨a :: bs, ReadAtMost.cons rd (by rw [dp]; omega) hb, ?_⟩
    rw [dp]
    simp only [PyData.shown]
    exact ReprK.tuple h1 h2 h3 hna (by simpa using hk)
  | _, _, .dix (a := a) (kvs := kvs) (ks := ks) (ds := ds) h e sy tk t, v, r, hs, hz => by
    cases (show v = Value.ref a from r)
    have hl : ks.length = ds.length := by
      have z1 := tk.len
      have z2 := t.len
      rw [List.length_map] at z1 z2
      omega
    have e1 : (ks.zip ds).map (·.1) = ks := map_fst_zip hl
    have e2 : (ks.zip ds).map (·.2) = ds := map_snd_zip hl
    have hz1 : (dictText (PyData.shownKv (ks.zip ds))).length ≤ sizeLine := by simpa only [PyData.shown] using hz
    have hs1 : PyData.showableKv (ks.zip ds) = true := by simpa [PyData.showable] using hs
    obtain ⟨s1, s2⟩ := PyData.showableKv_split _ hs1
    rw [e1] at s1
    rw [e2] at s2
    obtain ⟨as, rd⟩ := reads_of I (.dix h e sy tk t) (v := .ref a) rfl
    obtain ⟨h2, _, es, ep, xs, h3, g1, g2, kx⟩ := id e
    have vl : ∀ u ∈ PyData.shownAll ds, u.length ≤ sizeLine := fun u hu => by
      obtain ⟨p, hp, hq⟩ := PyData.shownKv_val_le _ u (by rw [e2]; exact hu)
      exact Nat.le_trans hq (Nat.le_trans (dictText_mem_le hp) hz1)
    have kl : ∀ u ∈ PyData.shownAll ks, u.length ≤ sizeLine := fun u hu => by
      obtain ⟨p, hp, hq⟩ := PyData.shownKv_key_le _ u (by rw [e1]; exact hu)
      exact Nat.le_trans hq (Nat.le_trans (dictText_mem_le hp) hz1)
    obtain ⟨bk, hbk, hkk⟩ := reprA_of I tk kx.keyV s1 kl
    obtain ⟨bs, hb, hk⟩ := reprA_of I t kx.vals s2 vl
    have dv : PyData.depthAll ds ≤ PyData.depthKv (ks.zip ds) := by
      have z := PyData.depthAll_vals_le (ks.zip ds)
      rw [e2] at z
      exact z
    have dk : PyData.depthAll ks ≤ PyData.depthKv (ks.zip ds) := by
      have z := PyData.depthAll_keys_le (ks.zip ds)
      rw [e1] at z
      exact z
    have hb2 : ReadAtMost s.heap (PyData.depthKv (ks.zip ds)) (bk ++ bs) := (hbk.mono dk).append (hb.mono dv)
    have dp : (PyData.dict (ks.zip ds)).depth = PyData.depthKv (ks.zip ds) + 1 := by simp only [PyData.depth] <;> omega
    have hna : a ∉ bk ++ bs := not_mem_of_deeper rd (by rw [dp]; omega) hb2
    refine ⟨a :: (bk ++ bs), ReadAtMost.cons rd (by rw [dp]; omega) hb2, ?_⟩
    rw [dp]
    simp only [PyData.shown, PyData.shownKv_eq]
    rw [e1, e2]
    refine ReprK.dict (objO_at I h) h2.1 h3 sy hna (ReprEntriesK.of_two es.toList _ _ ?_ ?_)
    · rw [g1]
      exact hkk.more_le (fun b z => List.mem_append_left _ z) dk
    · rw [g2]
      exact hk.more_le (fun b z => List.mem_append_right _ z) dv
theorem reprA_of (I : Inv X pins σ H s) : ∀ {xs : List V} {ds : List PyData}, DatA X.K H xs ds → ∀ {us : List Value}, Vals xs us → PyData.showableAll ds = true → (∀ t ∈ PyData.shownAll ds, t.length ≤ sizeLine) →
    ∃ bs, ReadAtMost s.heap (PyData.depthAll ds) bs ∧ ReprAllK X.prog X.w bs s.heap (PyData.depthAll ds) us (PyData.shownAll ds)
  | _, _, .nil, us, r, _, _ => by
    cases r
    exact ⟨[], (fun _ z => nomatch z), by simp only [PyData.shownAll]; exact .nil⟩
  | _, _, .cons (d := d) (ds := ds) h t, us, r, hs, hz => by
    cases r with
    | cons r1 r2 =>
      have hs1 : d.showable = true ∧ PyData.showableAll ds = true := by simpa [PyData.showableAll] using hs
      rw [PyData.shownAll_cons] at hz ⊢
      obtain ⟨b1, g1, k1⟩ := reprK_of I h r1 hs1.1 (hz _ List.mem_cons_self)
      obtain ⟨b2, g2, k2⟩ := reprA_of I t r2 hs1.2 fun u hu => hz u (List.mem_cons_of_mem _ hu)
      have dp : PyData.depthAll (d :: ds) = max d.depth (PyData.depthAll ds) := by simp only [PyData.depthAll]
      refine ⟨b1 ++ b2, ?_, ?_⟩
      · rw [dp]
        exact (g1.mono (Nat.le_max_left _ _)).append (g2.mono (Nat.le_max_right _ _))
      · rw [dp]
        exact .cons ((k1.more fun b z => List.mem_append_left _ z).level_le (Nat.le_max_left _ _)) (k2.more_le (fun b z => List.mem_append_right _ z) (Nat.le_max_right _ _))
end
theorem dict_entries (I : Inv X pins σ H s) {a : Addr} {o : Obj} {kvs : List (NK × V × V)} {ks ds : List PyData} (h : H a = some (objO a o)) (e : DxE o kvs) (sy : (a == sysModules) = false) (tk : DatA X.K H (kvs.map (·.2.1)) ks) (t : DatA X.K H (kvs.map (·.2.2)) ds)
    (hs : (PyData.dict (ks.zip ds)).showable = true) (hz : (PyData.dict (ks.zip ds)).shown.length ≤ sizeLine) :
    ∃ es ep n bs, o.data = .dict es ep ∧ a ∉ bs ∧ ReprEntriesK X.prog X.w bs s.heap n es.toList (PyData.shownKv (ks.zip ds)) ∧ n + 1 ≤ (PyData.dict (ks.zip ds)).depth := by
  have hl : ks.length = ds.length := by
    have z1 := tk.len
    have z2 := t.len
    rw [List.length_map] at z1 z2
    omega
  have e1 : (ks.zip ds).map (·.1) = ks := map_fst_zip hl
  have e2 : (ks.zip ds).map (·.2) = ds := map_snd_zip hl
  have hz1 : (dictText (PyData.shownKv (ks.zip ds))).length ≤ sizeLine := by simpa only [PyData.shown] using hz
  have hs1 : PyData.showableKv (ks.zip ds) = true := by simpa [PyData.showable] using hs
  obtain ⟨s1, s2⟩ := PyData.showableKv_split _ hs1
  rw [e1] at s1
  rw [e2] at s2
  obtain ⟨as, rd⟩ := reads_of I (.dix h e sy tk t) (v := .ref a) rfl
  obtain ⟨h2, _, es, ep, xs, h3, g1, g2, kx⟩ := id e
  obtain ⟨bk, hbk, hkk⟩ := reprA_of I tk kx.keyV s1 fun u hu => by
    obtain ⟨p, hp, hq⟩ := PyData.shownKv_key_le _ u (by rw [e1]; exact hu)
    exact Nat.le_trans hq (Nat.le_trans (dictText_mem_le hp) hz1)
  obtain ⟨bs, hb, hk⟩ := reprA_of I t kx.vals s2 fun u hu => by
    obtain ⟨p, hp, hq⟩ := PyData.shownKv_val_le _ u (by rw [e2]; exact hu)
    exact Nat.le_trans hq (Nat.le_trans (dictText_mem_le hp) hz1)
  have dv : PyData.depthAll ds ≤ PyData.depthKv (ks.zip ds) := by
    have z := PyData.depthAll_vals_le (ks.zip ds)
    rw [e2] at z
    exact z
  have dk : PyData.depthAll ks ≤ PyData.depthKv (ks.zip ds) := by
    have z := PyData.depthAll_keys_le (ks.zip ds)
    rw [e1] at z
    exact z
  have dp : (PyData.dict (ks.zip ds)).depth = PyData.depthKv (ks.zip ds) + 1 := by simp only [PyData.depth] <;> omega
  have hb2 : ReadAtMost s.heap (PyData.depthKv (ks.zip ds)) (bk ++ bs) := (hbk.mono dk).append (hb.mono dv)
  have hna : a ∉ bk ++ bs := not_mem_of_deeper rd (by rw [dp]; omega) hb2
  refine ⟨es, ep, _, bk ++ bs, h3, hna, ?_, Nat.le_of_eq dp.symm⟩
  rw [PyData.shownKv_eq, e1, e2]
  refine ReprEntriesK.of_two es.toList _ _ ?_ ?_
  · rw [g1]
    exact hkk.more_le (fun b z => List.mem_append_left _ z) dk
  · rw [g2]
    exact hk.more_le (fun b z => List.mem_append_right _ z) dv
end
end Ns

/-! NsC: the call of repr; == of equal data. -/
namespace Ns
open PySem PySem.Spec PyProof.Rows L2 Mx
section
variable {X : Cx} {pins : List (Addr × Obj)} {σ : L2.St} {H : Hp} {s : Shared}

theorem repr_run (I : Inv X pins σ H s) {A : Around} (hg : A.guards = some []) {x : V} {d : PyData} (D : DatV X.K H x d) {v : Value} (r : RelV x v) (hs : d.showable = true) (hz : d.shown.length ≤ sizeLine) (hu : A.units + (d.depth + 2) < cLine)
    {E Q : Value → Shared → Prop} (q : ∀ h' u tk, (∀ b o, s.heap.get? b = some o → h'.get? b = some o) → Q (.str d.shown u) { s with heap := h', toks := tk }) :
    wpAny (model X.prog X.w) A (call (.builtin "repr") [v]) Q E s := by
  cases D with
  | non =>
    cases (show v = Value.none from r)
    rw [PyData.shown_none] at q
    exact PySem.P.repr_of_none (q s.heap _ _ fun _ _ e => e)
  | bl b =>
    cases (show v = Value.bool b from r)
    rw [PyData.shown_bool] at q
    exact PySem.P.repr_of_bool (q s.heap _ _ fun _ _ e => e)
  | int i =>
    obtain ⟨t, rfl⟩ := (show ∃ t, v = Value.int i t from r)
    rw [PyData.shown_int] at q
    exact PySem.P.repr_of_int (of_decide_eq_true (by simpa [PyData.showable] using hs)) (q s.heap _ _ fun _ _ e => e)
  | str y =>
    obtain ⟨t, rfl⟩ := (show ∃ t, v = Value.str y t from r)
    rw [PyData.shown_str] at q hz
    exact PySem.P.repr_of_str (q s.heap _ _ fun _ _ e => e) hz
  | @lst a xs ds h t =>
    cases (show v = Value.ref a from r)
    have hz1 : (listText (PyData.shownAll ds)).length ≤ sizeLine := by simpa only [PyData.shown] using hz
    have hs1 : PyData.showableAll ds = true := by simpa [PyData.showable] using hs
    obtain ⟨as, rd⟩ := reads_of I (.lst h t) (v := .ref a) rfl
    obtain ⟨its, rv, ⟨o, n, h1, h2, h3, h4⟩, _⟩ := I.list h
    have h5 : o.data = .seq its.toArray n := by first | exact h3 | exact h4
    obtain ⟨bs, hb, hk⟩ := reprA_of I t rv hs1 fun u hu => Nat.le_trans (listText_mem_le hu) hz1
    have dp : (PyData.list ds).depth = PyData.depthAll ds + 1 := by simp only [PyData.depth] <;> omega
    have hna : a ∉ bs := not_mem_of_deeper rd (by rw [dp]; omega) hb
    simp only [PyData.shown] at q
    rw [dp] at hu
    refine call_repr_slot (by omega) ⟨o, h1, h2⟩ F.slot_list_repr.toG ?_
    cases its with
    | nil =>
      have e0 : PyData.shownAll ds = [] := List.length_eq_zero_iff.mp (by simpa using hk.length_eq)
      rw [e0, listText_nil] at q
      exact call_list_repr_empty ⟨o, h1, h2⟩ h1 h5 ⟨_, _, rfl, q s.heap _ _ fun _ _ e => e⟩
    | cons y l =>
      exact call_list_reprK (A := A.in1) (g := []) h1 h2 h5 hna (by simpa using hk.length_eq) (fun i u e => hk.item i u (by simpa using e)) hg (fun b _ => Clear.nil b) (by show A.units + 1 + _ < _; omega) (fun _ _ e => e)
        (fun h' u tk k => ⟨_, _, rfl, q h' u tk k⟩) hz1
  | @tup a xs ds h t =>
    cases (show v = Value.ref a from r)
    have hz1 : (tupleText (PyData.shownAll ds)).length ≤ sizeLine := by simpa only [PyData.shown] using hz
    have hs1 : PyData.showableAll ds = true := by simpa [PyData.showable] using hs
    obtain ⟨as, rd⟩ := reads_of I (.tup h t) (v := .ref a) rfl
    obtain ⟨its, rv, ⟨o, h1, h2, n, h3⟩, _⟩ := I.tuple h
    obtain ⟨bs, hb, hk⟩ := reprA_of I t rv hs1 fun u hu => Nat.le_trans (tupleText_mem_le hu) hz1
    have dp : (PyData.tuple ds).depth = PyData.depthAll ds + 1 := by simp only [PyData.depth] <;> omega
    have hna : a ∉ bs := not_mem_of_deeper rd (by rw [dp]; omega) hb
    simp only [PyData.shown] at q
    rw [dp] at hu
    refine call_repr_slot (by omega) ⟨o, h1, h2⟩ F.slot_tuple_repr ?_
    exact call_tuple_reprK (A := A.in1) (g := []) h1 h2 h3 hna (by simpa using hk) hg (fun b _ => Clear.nil b) (by show A.units + 1 + _ < _; omega) (fun _ _ e => e)
      (fun h' u tk k => ⟨_, _, rfl, q h' u tk k⟩) hz1
  | @dix a o kvs ks ds h e sy tk t =>
    cases (show v = Value.ref a from r)
    obtain ⟨es, ep, n, bs, h3, hna, hE, hd⟩ := dict_entries I h e sy tk t hs hz
    simp only [PyData.shown] at q hz
    refine call_repr_slot (by omega) ⟨o, objO_at I h, e.1.1⟩ F.slot_dict_repr ?_
    exact call_dict_reprK (A := A.in1) (g := []) (objO_at I h) e.1.1 h3 sy hna hE hg (fun b _ => Clear.nil b) (by show A.units + 1 + _ < _; omega) (fun _ _ e => e)
      (fun h' u tk k => ⟨_, _, rfl, q h' u tk k⟩) hz

/-- repr(x), x data -/
def rRep (K : PySem.W.Frag) : List V → Hp → VK → Prop := fun xs H Q => ∃ x d, xs = [x] ∧ DatV K H x d ∧ d.showable = true ∧ d.shown.length ≤ sizeLine ∧ d.depth ≤ 60 ∧ Q (.str d.shown) H
theorem call_reprD (hg : X.A.guards = some []) (hu : X.A.units + 64 < cLine) : CallR X (.builtin "repr") (rRep X.K) := by
  intro pins s σ H xs us Q I r h
  obtain ⟨x, d, rfl, D, hs, hz, hd, q⟩ := h
  obtain ⟨u, rfl, r1⟩ := vals1 r
  exact repr_run I hg D r1 hs hz (by omega) fun h' u tk k => ⟨.str d.shown, H, I.kept (t' := tk) k, ⟨u, rfl⟩, q⟩
end
end Ns

/-! NsG: defs that are called where no repr is under way (the guards are known to be none); xs[i] op= e of a list; the end of a law over such a def. -/
namespace Ns
open PySem PySem.Spec PyProof.Rows L2

/-- as FnOk, for calls with no guard around -/
structure GnOk (P : Program) (w : World) (K : PySem.W.Frag) (mg : Str → Option Value) (base : Heap) (k : Nat) (f : Addr) (fd : FuncData) (ps : List Str) (sp : Sp) : Prop where
  glen : ∀ as H Q E, sp as H Q E → as.length = ps.length
  grun : ∀ (A : Around) (outer : List Env) (s : Shared) (H : Hp) (args : Args) (us : List Value) (as : List V) (Q : VK) (E : XK), Room k A → A.guards = some [] → Env0 P w K mg base A outer s H →
    BindsTo s fd args (ps.zip us) → Vals as us → sp as H Q E → codeAny (model P w) A (.call (.ref f) args) (CR CX0 outer P w H s Q E) s
theorem FnOk.guarded {P : Program} {w : World} {K : PySem.W.Frag} {mg : Str → Option Value} {base : Heap} {k : Nat} {f : Addr} {fd : FuncData} {ps : List Str} {sp : Sp} (F : FnOk P w K mg base CX0 k f fd ps sp) : GnOk P w K mg base k f fd ps sp :=
  ⟨F.len, fun A outer s H args us as Q E hr _ e b v h => F.run A outer s H args us as Q E hr e b v h⟩

section
variable {X : Cx} {k : Nat} {f : Addr} {fd : FuncData} {ps : List Str} {sp : Sp} {x : Str} {p pos : Pos} {e : Expr} {es : List Expr} {t : TA}
theorem run_g {pins : List (Addr × Obj)} {σ : L2.St} {H : Hp} {s : Shared} {Q : VK} {us : List Value} {as : List V} (F : GnOk X.prog X.w X.K X.mg X.base k f fd ps sp) (hr : Room k X.A) (hgd : X.A.guards = some []) (hb : Binds X.K fd ps [])
    (I : Inv X pins σ H s) (r : Vals as us) (h : sp as H Q E0) : wpAny (model X.prog X.w) X.A (call (.ref f) us) (EP X pins σ Q) X.xe s := by
  have hl : us.length = ps.length := r.length.symm.trans (F.glen _ _ _ _ h)
  have bb := hb s us I.kIn (by rw [List.append_nil]; exact hl)
  rw [List.append_nil] at bb
  refine wpAny_call (codeAny_mono (F.grun X.A X.stack s H ⟨us, []⟩ us as Q E0 hr hgd I.env0 bb r h) fun z s' hz => ?_)
  match z, hz with
  | .error _, hz => exact (show False from hz).elim
  | .ok (.ret u), hz => exact I.after hz
  | .ok .next, hz => exact (show False from hz).elim
  | .ok .brk, hz => exact (show False from hz).elim
  | .ok .cont, hz => exact (show False from hz).elim
theorem pe_callG (F : GnOk X.prog X.w X.K X.mg X.base k f fd ps sp) (hr : Room k X.A) (hgd : X.A.guards = some []) (hg : Gl X x) (hm : X.mg x = some (.ref f)) (hk : PySem.W.keepIn X.K (.ref f) = true) (hb : Binds X.K fd ps [])
    (ha : PA X (e :: es) t) (hdb : (x == ("__debug__" : Str)) = false := by decide) (he : starEach (e :: es) X.env = (false, eval e X.env) :: starEach es X.env := by rfl) (hpl : (backTo pos (starEach es X.env)).any (·.1) = false := by rfl) :
    PE X (.Call (.Name x p) (e :: es) [] pos) (tCall sp [] E0 t) :=
  ⟨fun pins s σ H Q I h => wpAny_Call_Name_kw (ld_glob I hg hm (PySem.W.callWith_K (h₀ := X.base) I.ok.mod.kin hk (thn (ha.run pos pins s σ H _ I h) fun us s1 ⟨as, H1, I1, r, q⟩ => ⟨I1.kIn, run_g F hr hgd hb I1 r (by have q' : sp (as ++ []) H1 Q E0 := q; rw [List.append_nil] at q'; exact q')⟩) he hpl) hdb)⟩
end

/-- the def by its body: the guards are known within -/
theorem Fun.okG {P : Program} {w : World} {K : PySem.W.Frag} {mg : Str → Option Value} {base : Heap} {x qual : Str} {st : Stmt} {f : Addr} {fd : FuncData} {N ps : List Str} {k : Nat} {sp : Sp} (F : Fun K x qual st f fd) (S : FnScope N ps (defScope st))
    (len : ∀ as H Q E, sp as H Q E → as.length = ps.length)
    (body : ∀ (cdv : Value) (A : Around) (outer : List Env) (s : Shared) (H : Hp) (as : List V) (Q : VK) (E : XK), Room k (A.deeper (envOfC qual (defScope st) s.heap.objs.size f cdv)) → (A.deeper (envOfC qual (defScope st) s.heap.objs.size f cdv)).guards = some [] → sp as H Q E →
      ∃ t, PSs (cxOf CX0 P w K mg base N qual (defScope st) f cdv A outer s H E).nox (defBody st) t ∧ t { nx := fun _ H' => Q .non H', rt := Q } (start N as) H) : GnOk P w K mg base (k + 1) f fd ps sp := by
  obtain ⟨oc, od, kV, doc, pm, an, cdv, ct, osl, rfl, lk, hcd⟩ := F.ex
  refine ⟨len, fun A outer s H args us as Q E hr hgd e0 hb r hsp => ?_⟩
  have old : ∀ b o, base.get? b = some o → s.heap.get? b = some o := fun b o z => (e0.bs b o z).1
  have kin : K.In s.heap := e0.mod.kin.keeps old
  refine codeAny_call_function hr.depth (kin _ _ lk) rfl S.co S.gen rfl (PySem.W.codeRec_of kin hcd) (hb _ _ _ _ (wpAny_newFunctionEnv_cells S.kind (fun y hy => ?_) fun env he s1 x => ?_))
  · have hm := (List.of_mem_zip (show (y.1, y.2) ∈ ps.zip us from hy)).1
    exact (S.par y.1 hm).imp (fun z => z) fun z => ⟨z, PySem.W.cellsFrom_some _ _ _ (.inl z)⟩
  · cases he
    refine ⟨(e0.mod.nolimit.keeps old).keeps x.toInCall.keep, codeAny_func ?_⟩
    obtain ⟨t, ht, hq⟩ := body cdv A outer s H as Q E (hr.deeper _) hgd hsp
    have J := inv_start (CX := CX0) (E := E) S hr.hd e0 (len _ _ _ _ hsp) r x
    refine wpAny_mono (ht.nox.run [] s1 (start N as) H _ J hq) (fun fl s' hs => ?_) fun e s' hs => hs
    match fl, hs with
    | .ret u, ⟨v, _, H', J', rv, q⟩ => exact ⟨v, H', J'.os, J'.bare, J'.base, J'.hok, rv, q⟩
    | .next, ⟨_, H', J', q⟩ => exact ⟨V.non, H', J'.os, J'.bare, J'.base, J'.hok, rfl, q⟩
    | .brk, ⟨_, _, _, q⟩ => exact (show False from q).elim
    | .cont, ⟨_, _, _, q⟩ => exact (show False from q).elim
end Ns

/-! NsH: the end of a law over a guarded def; xs[i] op= e. -/
namespace Ns
open PySem PySem.Spec PyProof.Rows L2

/-- what a law's def promises: of a list of ints, True -/
def spTop (K : PySem.W.Frag) : Sp := fun as H Q _ => ∃ (a : Addr) (ns : List Int), as = [.ref a] ∧ SqL K H a (ns.map V.int) ∧ ns.length ≤ 63 ∧ ∀ H', Q (.bl true) H'

/-- the abstract heap at the entry: the script at a alone, unless it is a written object -/
theorem entry_core {P : Program} {w : World} {K : PySem.W.Frag} {mg mb : Str → Option Value} {k : Nat} {fa a : Addr} {fd : FuncData} {s : Shared} {vs : List Value} {ns : List Int} (kin : K.In s.heap) (gl : s.heap.Ns mainGlobals mg)
    (bl : s.heap.Ns builtinsNs mb) (bb : ∀ x : Str, x ≠ "__name__" → mb x = bootBuiltins x) (nl : s.heap.NoLimit) (ge : s.gens = #[]) (sc : s.heap.get? a = some { cls := .type "list", data := .seq vs.toArray }) (l63 : ns.length ≤ 63)
    (hr : Room k callerA) (F : ∀ base : Heap, K.In base → base.Ns mainGlobals mg → GnOk P w K mg base k fa fd ["script"] (spTop K)) (bd : ∀ (z : Shared) (u : Value), BindsTo z fd ⟨[u], []⟩ [("script", u)])
    (H : Hp) (only : ∀ b o, H b = some o → b = a ∧ ∃ ob xs, o = .frz ob (.lst xs)) (free : H a ≠ none → K.lookup a = none) (hok : HOk P w H s.heap) (sq : SqL K H a (ns.map V.int)) :
    codeAny (model P w) callerA (.call (.ref fa) ⟨[.ref a], []⟩) (fun r s' => r = .ok (.ret (.bool true)) ∧ OldK s.heap s'.heap ∧ s'.os = s.os ∧ AllBare s'.gens) s := by
  have noD : ∀ {b : Addr} {o : Obj} {es : Array DictEntry} {n : Nat}, s.heap.get? b = some o → o.data = .dict es n → H b = none := by
    intro b o es n e d
    cases q : H b with
    | none => rfl
    | some u =>
      obtain ⟨rfl, _⟩ := only b u q
      rw [sc] at e
      cases e
      cases d
  have ns' : ∀ {b : Addr} {m : Str → Option Value}, s.heap.Ns b m → (hidT s.heap H).Ns b m := by
    rintro b m ⟨o, es, n, e, d, r⟩
    exact ⟨o, es, n, hidT_get e (noD e d), d, r⟩
  have kin' : K.In (hidT s.heap H) := by
    intro b o e
    refine hidT_get (kin b o e) ?_
    cases q : H b with
    | none => rfl
    | some u =>
      obtain ⟨rfl, _⟩ := only b u q
      rw [free (by rw [q]; exact fun z => nomatch z)] at e
      cases e
  have md : Mod K mg (hidT s.heap H) := by
    obtain ⟨mc, n1, n2⟩ := nl
    exact { kin := kin', glob := ns' gl, blt := ⟨mb, ns' bl, bb⟩, nolimit := ⟨mc, ns' n1, n2⟩ }
  have e0 : Env0 P w K mg (hidT s.heap H) callerA [] s H :=
    { frames := rfl, mod := md, bs := fun b o e => of_hidT e, bsz := Nat.le_of_eq (hidT_size _ _), funs := trivial, frf := fun b hb => (List.not_mem_nil hb).elim, hok := hok, bare := .of_eq ge }
  have run := (F _ kin' (ns' gl)).grun callerA [] s H ⟨[.ref a], []⟩ [.ref a] [.ref a] (fun v _ => v = .bl true) E0 hr rfl e0 (bd s (.ref a)) (.cons rfl .nil) ⟨a, ns, rfl, sq, l63, fun _ => rfl⟩
  refine codeAny_mono run fun r s' h => ?_
  match r, h with
  | .error _, h => exact (show False from h).elim
  | .ok .next, h => exact (show False from h).elim
  | .ok .brk, h => exact (show False from h).elim
  | .ok .cont, h => exact (show False from h).elim
  | .ok (.ret u), ⟨v, H', o', bare, un, hok', rv, q⟩ =>
    have q' : v = .bl true := q
    rw [q'] at rv
    have eu : u = Value.bool true := rv
    rw [eu]
    refine ⟨rfl, OldK.of_keep fun b o e => ?_, o', bare⟩
    cases z : H b with
    | none => exact un.keep b o e z (fun y => List.not_mem_nil y) List.not_mem_nil
    | some u' =>
      obtain ⟨_, ob, xs, rfl⟩ := only b u' z
      have h1 : s.heap.get? b = some ob := (hok b _ z).1
      have h2 : s'.heap.get? b = some ob := (hok' b _ (un.frzs b ob _ z)).1
      rw [e] at h1
      cases h1
      exact h2

theorem walk_ofG {l : PySem.W.OpenLaw} {k : Nat} {q : Program} {loose : List Str} {XP : (Str → Option Value) → Heap → Prop} {YP : World → Heap → Prop} {d : DefRec} {K : Params → PySem.W.Frag} (hn : l.most = some 63) (hdf : d.params.defaults = []) (hr : Room k callerA)
    (hY : ∀ (w : World) (h : Heap), YP w h → (K w.params).In h)
    (F : ∀ (w : World) (mg : Str → Option Value) (fa : Addr) (h : Heap), (K w.params).In h → h.Ns mainGlobals mg → mg d.name = some (.ref fa) →
      ∃ fd : FuncData, (∀ (z : Shared) (u : Value), BindsTo z fd ⟨[u], []⟩ [("script", u)]) ∧ ∀ base : Heap, (K w.params).In base → base.Ns mainGlobals mg → GnOk l.prog w (K w.params) mg base k fa fd ["script"] (spTop (K w.params))) :
    PySem.W.WalkO q loose XP YP l.row.toRowW d [] (fun f vs => PySem.call f vs) := by
  refine Att.attach_call hn hdf ?_
  intro w s0 s mg mb fa o pm cd doc a vs ns G Y ho hd hcd hmg hobj hints hlen hg
  obtain ⟨fd, bd, hF⟩ := F w mg fa _ (hY w _ Y) G.T.g hmg
  have rv := vals_ints hints
  have hz : (ns.map V.int).length ≤ sizeLine := by
    rw [List.length_map]
    exact Nat.le_trans hlen (by decide)
  have go := entry_core (P := l.prog) (w := w) (a := a) (ns := ns) (hY w _ Y) G.T.g G.T.b G.T.builtins G.T.nolimit hg hobj hlen hr hF bd
  cases hk : (K w.params).lookup a with
  | some ok =>
    have e := hY w _ Y a ok hk
    rw [hobj] at e
    cases e
    refine go (fun _ => none) (fun b o z => nomatch z) (fun z => absurd rfl z) (fun b u z => nomatch z) (.inr ⟨_, vs.toArray, _, hk, rfl, rfl, rfl, ?_, by simpa using rv⟩)
    rw [List.size_toArray, ← rv.length]
    exact hz
  | none =>
    have at_a : (fun b => if b = a then some (HO.frz { cls := .type "list", data := .seq vs.toArray } (.lst (ns.map V.int))) else none) a = some (HO.frz { cls := .type "list", data := .seq vs.toArray } (.lst (ns.map V.int))) := if_pos rfl
    have un_a : ∀ (b : Addr) (u : HO), (if b = a then some (HO.frz { cls := .type "list", data := .seq vs.toArray } (.lst (ns.map V.int))) else none) = some u → b = a ∧ u = HO.frz { cls := .type "list", data := .seq vs.toArray } (.lst (ns.map V.int)) := by
      intro b u z
      by_cases hb : b = a
      · rw [if_pos hb] at z
        exact ⟨hb, (Option.some.inj z).symm⟩
      · rw [if_neg hb] at z
        cases z
    refine go (fun b => if b = a then some (HO.frz { cls := .type "list", data := .seq vs.toArray } (.lst (ns.map V.int))) else none) (fun b u z => ?_) (fun _ => hk) (fun b u z => ?_) (.inl (.inr ⟨_, at_a⟩))
    · obtain ⟨e1, e2⟩ := un_a b u z
      exact ⟨e1, _, _, e2⟩
    · obtain ⟨e1, e2⟩ := un_a b u z
      subst e1
      subst e2
      exact ⟨hobj, hz, vs, _, rv, hobj⟩

/-- o[i] of a list, by values -/
theorem get_list {X : Cx} : PGet X (rIxL X.K) := by
  intro pins s σ H o i ov iv Q I ro ri h
  obtain ⟨p, xs, j, v, rfl, rfl, hS, hat, q⟩ := h
  cases (show ov = Value.ref p from ro)
  obtain ⟨t, rfl⟩ := (show ∃ t, iv = Value.int j t from ri)
  obtain ⟨its, rv, pl, hz⟩ := I.list hS
  obtain ⟨n, h1, h2, h3, h4, h5⟩ := atI_get hat
  obtain ⟨u, eu, ru⟩ := rv.get h2
  have ln := rv.length
  have l63 := line63
  have done : EP X pins σ Q u s := ⟨v, H, I, ru, q⟩
  rcases Int.lt_or_le j 0 with c | c
  · refine wpAny_getItem_list_neg pl.isList (by omega) (by rw [List.size_toArray]; omega) (by omega) ?_ done
    have e : (j + (its.toArray.size : Int)).toNat = n := by
      rw [seqIndex_neg (by omega) h4] at h1
      rw [List.size_toArray, ← ln]
      exact Option.some.inj h1
    rw [e]
    simpa using eu
  · refine wpAny_getItem_list pl.isList c (by omega) ?_ done
    have e : j.toNat = n := by
      rw [seqIndex_of c h5] at h1
      exact Option.some.inj h1
    rw [e]
    simpa using eu
end Ns

/-! the tops of the text -/
namespace Y
open PySem PySem.Spec PyProof.Rows L2 Ns
def top (i : Nat) : Stmt := PySem.Challenge.pw_nightstairs_k03_lots_cuts_amounts_flows.main.body.getD i (.Pass ⟨0, 0, 0, 0⟩)
abbrev sIsInteger : Stmt := top 1
abbrev sIsCount : Stmt := top 2
abbrev sIsPositive : Stmt := top 3
abbrev sIsTupleOf : Stmt := top 4
abbrev sIsRising : Stmt := top 5
abbrev sIsLotOf : Stmt := top 6
abbrev sIsCarLot : Stmt := top 7
abbrev sKnotsIn : Stmt := top 8
abbrev sIsCut : Stmt := top 9
abbrev sIsAmounts : Stmt := top 10
abbrev sIsFlow : Stmt := top 11
abbrev sIsCouple : Stmt := top 12
abbrev sIsCopies : Stmt := top 13
abbrev sIsCopy : Stmt := top 14
abbrev sBag : Stmt := top 16
abbrev sTake : Stmt := top 17
abbrev sSome : Stmt := top 18
abbrev sMixed : Stmt := top 19
abbrev sAlike : Stmt := top 20
abbrev sName : Stmt := top 21
abbrev sNames : Stmt := top 22
abbrev sSize : Stmt := top 23
abbrev sCables : Stmt := top 24
abbrev sCars : Stmt := top 25
abbrev sYardOf : Stmt := top 26
abbrev sSmall : Stmt := top 27
abbrev sWide : Stmt := top 28
abbrev sKnots : Stmt := top 29
abbrev sAllCars : Stmt := top 30
abbrev sWhole : Stmt := top 31
abbrev sAreAmounts : Stmt := top 32
abbrev sOdd : Stmt := top 33
abbrev sBentWord : Stmt := top 34
abbrev sBent : Stmt := top 35
abbrev sLIsLotOf : Stmt := top 36
abbrev sIsFlowOf : Stmt := top 37
abbrev sLIsCopies : Stmt := top 38
abbrev sDictOf : Stmt := top 39
abbrev sBentDict : Stmt := top 40
abbrev sThings : Stmt := top 41
abbrev sLaw : Stmt := top 42
end Y

/-! the bag over the heap -/
namespace Y
open PySem PySem.Spec PyProof.Rows L2 Ns
/-- the heap but for b -/
def wo (H : Hp) (b : Addr) : Hp := fun c => if c = b then none else H c
theorem wo_ne {H : Hp} {b c : Addr} (h : c ≠ b) : wo H b c = H c := if_neg h
theorem wo_at {H : Hp} {b : Addr} : wo H b b = none := if_pos rfl
theorem wo_of {H : Hp} {b c : Addr} {o : HO} (h : wo H b c = some o) : c ≠ b ∧ H c = some o := by
  by_cases e : c = b
  · rw [e, wo_at] at h
    cases h
  · exact ⟨e, (wo_ne e).symm.trans h⟩
theorem wo_sub (H : Hp) (b : Addr) : Same (wo H b) H := fun _ _ h => (wo_of h).2
/-- all but b stands; b keeps its row of numbers -/
def Sb (b : Addr) (H H' : Hp) : Prop := Same (wo H b) (wo H' b) ∧ ∀ (n0 n1 n2 : Int) (l : Addr), H b = some (.lst [.int n0, .int n1, .int n2, .ref l]) → ∃ m0 m1 m2 : Int, H' b = some (.lst [.int m0, .int m1, .int m2, .ref l])
theorem Sb.refl (b : Addr) (H : Hp) : Sb b H H := ⟨Same.refl _, fun n0 n1 n2 _ h => ⟨n0, n1, n2, h⟩⟩
theorem Sb.trans {b : Addr} {H H1 H2 : Hp} (h : Sb b H H1) (g : Sb b H1 H2) : Sb b H H2 := ⟨Same.trans h.1 g.1, fun n0 n1 n2 l e => by
  obtain ⟨m0, m1, m2, e1⟩ := h.2 n0 n1 n2 l e
  exact g.2 _ _ _ _ e1⟩
theorem Sb.get {b c : Addr} {H H' : Hp} {o : HO} (h : Sb b H H') (e : H c = some o) (n : c ≠ b) : H' c = some o := (wo_of (h.1 c o ((wo_ne n).trans e))).2
theorem Sb.new {b p : Addr} {H H' : Hp} {o : HO} (h : Sb b H H') (n : H' p = none) : Sb b H (upd H' p o) := ⟨fun c u e => by
  have q := h.1 c u e
  obtain ⟨q1, q2⟩ := wo_of q
  rw [wo_ne q1, upd_ne (ne_of_none q2 n)]
  exact q2, fun n0 n1 n2 l e => by
  obtain ⟨m0, m1, m2, e1⟩ := h.2 n0 n1 n2 l e
  exact ⟨m0, m1, m2, by rw [upd_ne (ne_of_none e1 n)]; exact e1⟩⟩
theorem Sb.put {b l : Addr} {H H' : Hp} {n0 n1 n2 m0 m1 m2 : Int} (h : Sb b H H') (e0 : H' b = some (.lst [.int n0, .int n1, .int n2, .ref l])) : Sb b H (upd H' b (.lst [.int m0, .int m1, .int m2, .ref l])) := ⟨fun c u e => by
  obtain ⟨q1, q2⟩ := wo_of (h.1 c u e)
  rw [wo_ne q1, upd_ne q1]
  exact q2, fun k0 k1 k2 l' e => by
  obtain ⟨j0, j1, j2, e1⟩ := h.2 _ _ _ _ e
  rw [e0] at e1
  cases e1
  exact ⟨m0, m1, m2, upd_same⟩⟩
theorem Sb.same {b : Addr} {H H' H2 : Hp} (h : Sb b H H') (m : Same H' H2) : Sb b H H2 := ⟨fun c u e => by
  obtain ⟨q1, q2⟩ := wo_of (h.1 c u e)
  rw [wo_ne q1]
  exact m _ _ q2, fun n0 n1 n2 l e => by
  obtain ⟨m0, m1, m2, e1⟩ := h.2 n0 n1 n2 l e
  exact ⟨m0, m1, m2, m _ _ e1⟩⟩
/-- the bag at b -/
def Bag (H : Hp) (b : Addr) : Prop := ∃ (n0 n1 n2 : Int) (l : Addr) (ns : List Int), H b = some (.lst [.int n0, .int n1, .int n2, .ref l]) ∧ H l = some (.lst (ns.map V.int)) ∧ l ≠ b ∧ 0 ≤ n0 ∧ 0 ≤ n1 ∧ n1 < 2147483647 ∧ 0 ≤ n2 ∧ (∀ n ∈ ns, 0 ≤ n) ∧ ns.length ≤ 63
theorem Bag.new {H : Hp} {b p : Addr} {o : HO} (h : Bag H b) (n : H p = none) : Bag (upd H p o) b := by
  obtain ⟨n0, n1, n2, l, ns, h1, h2, r⟩ := h
  exact ⟨n0, n1, n2, l, ns, by rw [upd_ne (ne_of_none h1 n)]; exact h1, by rw [upd_ne (ne_of_none h2 n)]; exact h2, r⟩
theorem Bag.keep {H H' : Hp} {b : Addr} (h : Bag H b) (m : Same H H') : Bag H' b := by
  obtain ⟨n0, n1, n2, l, ns, h1, h2, r⟩ := h
  exact ⟨n0, n1, n2, l, ns, m _ _ h1, m _ _ h2, r⟩
theorem Bag.ne {H : Hp} {b p : Addr} (h : Bag H b) (n : H p = none) : p ≠ b := fun e => by
  obtain ⟨_, _, _, _, _, h1, _⟩ := h
  rw [e, h1] at n
  cases n
/-- a place that was free at first is written: the bag stands -/
theorem Bag.wr {H H' : Hp} {b p : Addr} {o : HO} (h : Bag H b) (n : H p = none) (s : Sb b H H') (g : Bag H' b) : Bag (upd H' p o) b := by
  obtain ⟨n0, n1, n2, l, ns, h1, h2, h3, _⟩ := id h
  obtain ⟨k0, k1, k2, l', ns', g1, g2, r⟩ := g
  obtain ⟨m0, m1, m2, e⟩ := s.2 _ _ _ _ h1
  rw [g1] at e
  cases e
  exact ⟨_, _, _, _, ns', by rw [upd_ne (h.ne n).symm]; exact g1, by rw [upd_ne (ne_of_none h2 n)]; exact g2, r⟩
theorem Sb.wr {b p : Addr} {H H' : Hp} {o : HO} (s : Sb b H H') (n : H p = none) : Sb b H (upd H' p o) := ⟨fun c u e => by
  obtain ⟨q1, q2⟩ := wo_of (s.1 c u e)
  rw [wo_ne q1, upd_ne (ne_of_none (wo_of e).2 n)]
  exact q2, fun n0 n1 n2 l e => by
  obtain ⟨m0, m1, m2, e1⟩ := s.2 n0 n1 n2 l e
  exact ⟨m0, m1, m2, by rw [upd_ne (ne_of_none e n)]; exact e1⟩⟩
theorem Sb.free {b p : Addr} {H H' : Hp} (h : Sb b H H') (hp : H' p = none) (n : p ≠ b) : H p = none := by
  cases e : H p with
  | none => rfl
  | some o => rw [h.get e n] at hp; cases hp
/-- what stood but for the bag: lists, tuples -/
theorem Sb.sl {K : PySem.W.Frag} {b a : Addr} {H H' : Hp} {xs : List V} (s : Sb b H H') (h : SqL K (wo H b) a xs) : SqL K (wo H' b) a xs := Same.seq s.1 h
theorem wo_same {H H' : Hp} {b : Addr} (m : Same H H') : Same (wo H b) (wo H' b) := fun c o e => by
  obtain ⟨q1, q2⟩ := wo_of e
  rw [wo_ne q1]
  exact m _ _ q2
theorem ints_at {ns : List Int} {i : Nat} {v : V} (h : (ns.map V.int)[i]? = some v) : ∃ z, ns[i]? = some z ∧ v = .int z := by
  rw [List.getElem?_map] at h
  obtain ⟨z, e, q⟩ := Option.map_eq_some_iff.mp h
  exact ⟨z, e, q.symm⟩
theorem cut_ints (ns : List Int) (lo hi : Option Int) : ∃ ms : List Int, cutV (ns.map V.int) lo hi = ms.map V.int ∧ (∀ n ∈ ms, n ∈ ns) ∧ ms.length ≤ ns.length := by
  refine ⟨(ns.drop (HT.sIx (ns.map V.int).length 0 lo)).take (HT.sIx (ns.map V.int).length (ns.map V.int).length hi - HT.sIx (ns.map V.int).length 0 lo), ?_, fun n h => List.mem_of_mem_drop (List.mem_of_mem_take h), ?_⟩
  · unfold cutV
    rw [List.map_take, List.map_drop]
  · rw [List.length_take, List.length_drop]
    omega
theorem same_new {H H' : Hp} {p : Addr} {o : HO} (h : Same H H') (n : H' p = none) : Same H (upd H' p o) := fun c u e => by
  rw [upd_ne (ne_of_none (h c u e) n)]
  exact h c u e
theorem same_put {H H' : Hp} {p : Addr} {o : HO} (h : Same H H') (n : H p = none) : Same H (upd H' p o) := fun c u e => by
  rw [upd_ne (ne_of_none e n)]
  exact h c u e
/-- a thing put amid is among -/
theorem put_perm {α : Type} {xs ys : List α} {x : α} {i j : Nat} (h : ys.Perm (xs.take i)) (hx : xs[i]? = some x) : (ys.take j ++ [x] ++ ys.drop j).Perm (xs.take (i + 1)) := by
  have e : xs.take (i + 1) = xs.take i ++ [x] := by rw [List.take_succ, hx]; rfl
  rw [e]
  have p1 : (ys.take j ++ [x] ++ ys.drop j).Perm (x :: ys) := by
    rw [List.append_assoc, List.singleton_append]
    refine List.perm_middle.trans ?_
    rw [List.take_append_drop]
  exact p1.trans ((h.cons x).trans (List.perm_append_singleton x (xs.take i)).symm)
/-- what the top has left of the built-in names -/
structure Nat0 (mg : Str → Option Value) : Prop where
  abs : mg "abs" = none
  int : mg "int" = none
  len : mg "len" = none
  repr : mg "repr" = none
  isi : mg "isinstance" = none
  range : mg "range" = none
  sorted : mg "sorted" = none
  tuple : mg "tuple" = none
  list_ : mg "list" = none
  dict : mg "dict" = none
  set_ : mg "set" = none
  sum : mg "sum" = none
  max : mg "max" = none
  min : mg "min" = none
  str : mg "str" = none
  all : mg "all" = none
  any : mg "any" = none
  zip : mg "zip" = none
end Y

namespace Y
open PySem PySem.Spec PyProof.Rows L2 Ns
open C8 (pss_cut)
def spBag (K : PySem.W.Frag) : Sp := fun as H Q _ => ∃ (a : Addr) (ns : List Int), as = [.ref a] ∧ SqL K H a (ns.map V.int) ∧ ns.length ≤ 63 ∧ ∀ (b : Addr) (H' : Hp), Bag H' b → H b = none → Same H H' → Q (.ref b) H'
def spTake : Sp := fun as H Q _ => ∃ (b : Addr) (m : Int), as = [.ref b, .int m] ∧ Bag H b ∧ 0 < m ∧ m.natAbs < 2 ^ 200 ∧ ∀ (v : Int) (H' : Hp), 0 ≤ v → v < m → Bag H' b → Sb b H H' → Q (.int v) H'
section
variable {P : Program} {w : World} {K : PySem.W.Frag} {mg : Str → Option Value} {base : Heap}
theorem scB : FnScope ["script", "cell"] ["script"] (defScope sBag) := ⟨rfl, rfl, rfl, by decide +kernel, rfl, by decide +kernel, by decide +kernel⟩
theorem ok_bag {f : Addr} {fd : FuncData} (F : Fun K "_law_bag" "_law_bag" sBag f fd) (T : Nat0 mg) : FnOk P w K mg base CX0 1 f fd ["script"] (spBag K) := by
  refine F.ok scB (fun as H Q E h => ?_) (fun cdv A outer s H as Q E hr h => ?_)
  · obtain ⟨a, ns, rfl, _⟩ := h
    rfl
  · obtain ⟨a, ns, rfl, hS, hl, k⟩ := h
    refine ⟨_, pss_one (ps_ret (pe_lst (pa_cons pe_int (pa_cons pe_int (pa_cons pe_int (pa_cons
      (pe_lc (own := [("cell", 1)]) (g := gName 1) (tt := tYes) rfl scB.nd (pi_list (pe_slice sl_list (pv 0) po_none (po_some pe_int))) (blkOk_by (N := ["script", "cell"]) (sc := defScope sBag) (by decide +kernel)) (fun _ _ _ _ _ => pg_name (i := 1) scB.nd rfl (Or.inl rfl)) (fun _ _ _ _ _ => pts_nil)
        (fun _ _ _ _ _ => pe_callB call_abs (by rfl) T.abs (by decide +kernel) (pa_cons (pv 1) pa_nil))) pa_nil)))))), ?_⟩
    obtain ⟨ms, ec, hin, hlm⟩ := cut_ints ns none (some 63)
    refine ⟨_, rfl, _, rfl, a, _, rfl, hS, fun p hp => ?_⟩
    rw [ec]
    have lm : ms.length ≤ 63 := Nat.le_trans hlm hl
    refine ⟨p, rfl, ⟨_, .inl (.inl upd_same)⟩, fun D hD => ?_⟩
    refine lc_list (K := K) (a := p) (xs := ms.map V.int) (fun i H' => ∃ ks : List Int, H' D = some (.lst (ks.map V.int)) ∧ ks.length = i ∧ (∀ n ∈ ks, 0 ≤ n) ∧ H' p = some (.lst (ms.map V.int)) ∧ Same H H') ?_ ?_ ?_ ?_
    · have npd : p ≠ D := fun e => by rw [← e, upd_same] at hD; cases hD
      refine ⟨[], upd_same, rfl, (fun _ z => nomatch z), by rw [upd_ne npd, upd_same], fun c o e => ?_⟩
      have hD' : H D = none := by rw [upd_ne npd.symm] at hD; exact hD
      rw [upd_ne (ne_of_none e hD'), upd_ne (ne_of_none e hp)]
      exact e
    · rintro i H' hi ⟨ks, _, _, _, h, _⟩
      exact .inl (.inl h)
    · rintro i x H' hx ⟨ks, h1, h2, h3, h4, h5⟩
      obtain ⟨z, hz, rfl⟩ := ints_at hx
      have hi : i < ms.length := (List.getElem?_eq_some_iff.mp hz).1
      refine ⟨rfl, _, rfl, z, rfl, ks.map V.int, h1, by rw [List.length_map, h2]; exact small1000 (by omega), ks ++ [if z < 0 then -z else z], ?_, ?_, ?_, ?_, ?_⟩
      · rw [upd_same, List.map_append]
        rfl
      · rw [List.length_append, h2]
        rfl
      · intro n hn
        rcases List.mem_append.mp hn with q | q
        · exact h3 n q
        · rw [List.mem_singleton] at q
          subst q
          split <;> omega
      · have npd : p ≠ D := fun e => by rw [← e, upd_same] at hD; cases hD
        rw [upd_ne npd]
        exact h4
      · intro c o e
        have hD' : H D = none := by
          have npd : p ≠ D := fun e => by rw [← e, upd_same] at hD; cases hD
          rw [upd_ne npd.symm] at hD
          exact hD
        rw [upd_ne (ne_of_none e hD')]
        exact h5 c o e
    · rintro H' ⟨ks, h1, h2, h3, h4, h5⟩
      rw [List.length_map] at h2
      refine ⟨by show 4 ≤ sizeLine; decide, fun b hb => ?_⟩
      refine k b _ ⟨0, 1234567891, 0, D, ks, upd_same, by rw [upd_ne (ne_of_none h1 hb)]; exact h1, ne_of_none h1 hb, by decide, by decide, by decide, by decide, h3, by omega⟩ (h5.free hb) fun c o e => ?_
      rw [upd_ne (ne_of_none (h5 c o e) hb)]
      exact h5 c o e
end
section
variable {P : Program} {w : World} {K : PySem.W.Frag} {mg : Str → Option Value} {base : Heap}
theorem scT : FnScope ["bag", "many", "cell", "stirred", "value", "begin", "second"] ["bag", "many"] (defScope sTake) := ⟨rfl, rfl, rfl, by decide +kernel, rfl, by decide +kernel, by decide +kernel⟩
theorem at0 {α : Type} {x : α} {xs : List α} : atI (x :: xs) (0 : Int) = some x := atI_nat (j := 0) rfl
theorem at1 {α : Type} {x y : α} {xs : List α} : atI (x :: y :: xs) (1 : Int) = some y := atI_nat (j := 1) rfl
theorem at2 {α : Type} {x y z : α} {xs : List α} : atI (x :: y :: z :: xs) (2 : Int) = some z := atI_nat (j := 2) rfl
theorem at3 {α : Type} {x y z u : α} {xs : List α} : atI (x :: y :: z :: u :: xs) (3 : Int) = some u := atI_nat (j := 3) rfl
theorem fm {x m : Int} (h : 0 < m) : 0 ≤ x.fmod m ∧ x.fmod m < m := by
  rw [Int.fmod_eq_emod_of_nonneg x (by omega)]
  exact ⟨Int.emod_nonneg _ (by omega), Int.emod_lt_of_pos _ h⟩
theorem head_int {ms : List Int} (h : ∀ n ∈ ms, 0 ≤ n) : ∃ z : Int, 0 ≤ z ∧ atI (ms.map V.int ++ [V.int 0]) (0 : Int) = some (.int z) := by
  cases ms with
  | nil => exact ⟨0, by decide, at0⟩
  | cons n ms => exact ⟨n, h n List.mem_cons_self, at0⟩
theorem ok_take {f : Addr} {fd : FuncData} (F : Fun K "_law_take" "_law_take" sTake f fd) (T : Nat0 mg) : FnOk P w K mg base CX0 1 f fd ["bag", "many"] spTake := by
  refine F.ok scT (fun as H Q E h => ?_) (fun cdv A outer s H as Q E hr h => ?_)
  · obtain ⟨b, m, rfl, _⟩ := h
    rfl
  · obtain ⟨b, m, rfl, hB, hm, hmz, k⟩ := h
    refine ⟨_, pss_cut (ps_if (pt_cmpR op_eq (pe_ix ix_list (pv 0) pe_int (fun _ _ => rfl)) pe_int (nomark _))
        (pss_cons (ps_set (i := 2) scT.nd rfl (.inl rfl) (pe_ix ix_list (pe_op op_cat (pe_slice sl_list (pe_ix ix_list (pv 0) pe_int (fun _ _ => rfl)) (po_some (pe_ix ix_list (pv 0) pe_int (fun _ _ => rfl))) po_none) (pe_lst (pa_cons pe_int pa_nil))) pe_int (fun _ _ => rfl)))
        (pss_cons (ps_augS (pv 0) pe_int get_list pe_int ip_add set_list)
        (pss_cut (ps_if (pt_cmpR op_ge (pv 2) (pe_op op_pow pe_int pe_int) (nomark _)) (pss_one (ps_asg (pv 2) (pg_sub (pv 0) pe_int set_list))) pss_nil)
        (pss_cons (ps_set (i := 3) scT.nd rfl (.inl rfl) (pe_op op_add (pe_op op_add (pe_op op_mul (pe_ix ix_list (pv 0) pe_int (fun _ _ => rfl)) pe_int)
            (pe_op op_modN (pe_callTy call_int1 (by rfl) T.int (by decide +kernel) (pa_cons (pv 2) pa_nil)) pe_int)) (pe_op op_mul pe_int (pe_ix ix_list (pv 0) pe_int (fun _ _ => rfl)))))
        (pss_one (ps_asg (pe_op op_modN (pe_callTy call_int1 (by rfl) T.int (by decide +kernel) (pa_cons (pv 3) pa_nil)) pe_int) (pg_sub (pv 0) pe_int set_list))))))) pss_nil)
      (pss_cons (ps_if (pt_cmpR op_gt (pe_ix ix_list (pv 0) pe_int (fun _ _ => rfl)) pe_int (nomark _))
        (pss_cons (ps_set (i := 4) scT.nd rfl (.inl rfl) (pe_op op_modN (pe_callTy call_int1 (by rfl) T.int (by decide +kernel) (pa_cons (pe_ix ix_list (pv 0) pe_int (fun _ _ => rfl)) pa_nil)) (pv 1)))
        (pss_cons (ps_asg (pe_op op_fdivW (pe_callTy call_int1 (by rfl) T.int (by decide +kernel) (pa_cons (pe_ix ix_list (pv 0) pe_int (fun _ _ => rfl)) pa_nil)) (pv 1)) (pg_sub (pv 0) pe_int set_list))
        (pss_one (ps_ret (pv 4))))) pss_nil)
      (pss_cons (ps_set (i := 5) scT.nd rfl (.inl rfl) (pe_op op_modN (pe_callTy call_int1 (by rfl) T.int (by decide +kernel) (pa_cons (pe_op op_mul (pe_op op_add (pe_ix ix_list (pv 0) pe_int (fun _ _ => rfl)) pe_int) pe_int) pa_nil)) pe_int))
      (pss_cons (ps_set (i := 6) scT.nd rfl (.inl rfl) (pe_op op_modN (pe_callTy call_int1 (by rfl) T.int (by decide +kernel) (pa_cons (pe_op op_mul (pe_op op_modN (pe_callTy call_int1 (by rfl) T.int (by decide +kernel) (pa_cons (pe_op op_mul (pv 5) (pv 5)) pa_nil)) pe_int) pe_int) pa_nil)) pe_int))
      (pss_one (ps_ret (pe_op op_modN (pe_callTy call_int1 (by rfl) T.int (by decide +kernel) (pa_cons (pe_op op_fdivN (pv 6) pe_int) pa_nil)) (pv 1))))))), ?_⟩
    refine ⟨fun σ' H' => ∃ c s : Option V, σ' = [some (.ref b), some (.int m), c, s, none, none, none] ∧ Bag H' b ∧ Sb b H H', ?_, ?_⟩
    · obtain ⟨n0, n1, n2, l, ns, h1, h2, hlb, z0, z1, z1', z2, hn, hlen⟩ := id hB
      refine ⟨_, rfl, b, _, _, _, rfl, rfl, SqL.of h1, at0, rfl, _, rfl, ?_⟩
      refine ite2 (fun c => ?_) (fun c => ⟨none, none, rfl, hB, Sb.refl _ _⟩)
      obtain ⟨ms, ec, hin, hlm⟩ := cut_ints ns (some n2) none
      refine ⟨_, rfl, b, _, _, _, rfl, rfl, SqL.of h1, at3, _, rfl, b, _, _, _, rfl, rfl, SqL.of h1, at2, n2, rfl, l, _, rfl, SqL.of h2, fun p hp => ?_⟩
      rw [ec]
      refine ⟨by show 1 ≤ sizeLine; decide, fun q hq => ?_⟩
      have npq : p ≠ q := fun e => by rw [← e, upd_same] at hq; cases hq
      have lmz : (ms.map V.int).length + [V.int 0].length ≤ sizeLine := by
        rw [List.length_map]
        exact Nat.le_of_lt (small1000 (show ms.length + 1 ≤ 1000 by omega))
      refine ⟨p, q, _, _, rfl, rfl, by rw [upd_ne npq, upd_same], upd_same, lmz, fun r hr => ?_⟩
      obtain ⟨z, hz, hat⟩ := head_int (ms := ms) fun n h => hn n (hin n h)
      refine ⟨r, _, _, _, rfl, rfl, SqL.of upd_same, hat, ?_⟩
      have hb3 : upd (upd (upd H p (.lst (ms.map V.int))) q (.lst [V.int 0])) r (.lst (ms.map V.int ++ [V.int 0])) b = some (.lst [.int n0, .int n1, .int n2, .ref l]) := by
        have e1 : upd H p (.lst (ms.map V.int)) b = some (.lst [.int n0, .int n1, .int n2, .ref l]) := by rw [upd_ne (ne_of_none h1 hp)]; exact h1
        have e2 : upd (upd H p (.lst (ms.map V.int))) q (.lst [V.int 0]) b = some (.lst [.int n0, .int n1, .int n2, .ref l]) := by rw [upd_ne (ne_of_none e1 hq)]; exact e1
        rw [upd_ne (ne_of_none e2 hr)]
        exact e2
      have hl3 : upd (upd (upd H p (.lst (ms.map V.int))) q (.lst [V.int 0])) r (.lst (ms.map V.int ++ [V.int 0])) l = some (.lst (ns.map V.int)) := by
        have e1 : upd H p (.lst (ms.map V.int)) l = some (.lst (ns.map V.int)) := by rw [upd_ne (ne_of_none h2 hp)]; exact h2
        have e2 : upd (upd H p (.lst (ms.map V.int))) q (.lst [V.int 0]) l = some (.lst (ns.map V.int)) := by rw [upd_ne (ne_of_none e1 hq)]; exact e1
        rw [upd_ne (ne_of_none e2 hr)]
        exact e2
      have sb3 : Sb b H (upd (upd (upd H p (.lst (ms.map V.int))) q (.lst [V.int 0])) r (.lst (ms.map V.int ++ [V.int 0]))) := (((Sb.refl b H).new hp).new hq).new hr
      generalize upd (upd (upd H p (.lst (ms.map V.int))) q (.lst [V.int 0])) r (.lst (ms.map V.int ++ [V.int 0])) = H3 at hb3 hl3 sb3 ⊢
      refine ⟨_, rfl, b, _, _, _, rfl, rfl, SqL.of hb3, at2, n2, 1, rfl, rfl, b, _, _, 2, rfl, rfl, hb3, rfl, ?_⟩
      refine ⟨fun σ' H' => ∃ n0' : Int, σ' = [some (.ref b), some (.int m), some (.int z), none, none, none, none] ∧ H' b = some (.lst [.int n0', .int n1, .int (n2 + 1), .ref l]) ∧ H' l = some (.lst (ns.map V.int)) ∧ 0 ≤ n0' ∧ Sb b H H', ?_, ?_⟩
      · have hb4 : upd H3 b (.lst (([.int n0, .int n1, .int n2, .ref l] : List V).set 2 (.int (n2 + 1)))) b = some (.lst [.int n0, .int n1, .int (n2 + 1), .ref l]) := upd_same
        have hl4 : upd H3 b (.lst (([.int n0, .int n1, .int n2, .ref l] : List V).set 2 (.int (n2 + 1)))) l = some (.lst (ns.map V.int)) := by rw [upd_ne hlb]; exact hl3
        have sb4 : Sb b H (upd H3 b (.lst (([.int n0, .int n1, .int n2, .ref l] : List V).set 2 (.int (n2 + 1))))) := sb3.put hb3
        generalize upd H3 b (.lst (([.int n0, .int n1, .int n2, .ref l] : List V).set 2 (.int (n2 + 1)))) = H4 at hb4 hl4 sb4 ⊢
        refine ⟨_, rfl, 10, 18, rfl, rfl, ⟨by decide, by decide, by decide⟩, z, _, rfl, rfl, _, rfl, ?_⟩
        refine ite2 (fun _ => ?_) (fun _ => ⟨n0, rfl, hb4, hl4, z0, sb4⟩)
        exact ⟨_, rfl, _, rfl, b, _, _, 0, rfl, rfl, hb4, rfl, z, rfl, upd_same, by rw [upd_ne hlb]; exact hl4, hz, sb4.put hb4⟩
      · rintro σ' H' ⟨n0', rfl, hb5, hl5, z0', sb5⟩
        refine ⟨_, rfl, b, _, _, _, rfl, rfl, SqL.of hb5, at1, n1, _, rfl, rfl, .inl ⟨by omega, by omega⟩, _, rfl, .inl ⟨z, rfl, z, _, rfl, rfl, (show (2147483647 : Int) ≠ 0 by decide), _, _, rfl, rfl, _, rfl, b, _, _, _, rfl, rfl, SqL.of hb5, at2, 7919, _, rfl, rfl, .inl ⟨by decide, by decide⟩, _, _, rfl, rfl, ?_⟩⟩
        refine ⟨_, rfl, .inl ⟨_, rfl, _, _, rfl, rfl, (show (2147483647 : Int) ≠ 0 by decide), _, rfl, b, _, _, 1, rfl, rfl, hb5, rfl, ?_⟩⟩
        exact ⟨_, _, rfl, ⟨n0', _, n2 + 1, l, ns, upd_same, by rw [upd_ne hlb]; exact hl5, hlb, z0', (fm (by decide)).1, (fm (by decide)).2, by omega, hn, hlen⟩, sb5.put hb5⟩
    · rintro σ' H' ⟨c, s', rfl, hB', sb⟩
      obtain ⟨n0, n1, n2, l, ns, h1, h2, hlb, z0, z1, z1', z2, hn, hlen⟩ := id hB'
      refine ⟨_, rfl, b, _, _, _, rfl, rfl, SqL.of h1, at0, _, _, rfl, rfl, _, rfl, ?_⟩
      refine ite2 (fun _ => ?_) (fun _ => ?_)
      · refine ⟨_, rfl, b, _, _, _, rfl, rfl, SqL.of h1, at0, .inl ⟨n0, rfl, _, rfl, n0, m, rfl, rfl, by omega, ?_⟩⟩
        refine ⟨_, rfl, b, _, _, _, rfl, rfl, SqL.of h1, at0, .inl ⟨n0, rfl, _, rfl, n0, m, rfl, rfl, wide_div hm hmz (by decide) (by decide), _, rfl, b, _, _, 0, rfl, rfl, h1, rfl, ?_⟩⟩
        refine ⟨_, rfl, k _ _ (fm hm).1 (fm hm).2 ⟨n0 / m, n1, n2, l, ns, upd_same, by rw [upd_ne hlb]; exact h2, hlb, Int.ediv_nonneg z0 (by omega), z1, z1', z2, hn, hlen⟩ (sb.put h1)⟩
      · have b1 := fm (x := (n1 + 1) * 39373) (m := 1000000007) (by decide)
        refine ⟨_, rfl, b, _, _, _, rfl, rfl, SqL.of h1, at1, n1, 1, rfl, rfl, n1 + 1, _, rfl, rfl, .inl ⟨by omega, by omega⟩, .inl ⟨_, rfl, _, _, rfl, rfl, (show (1000000007 : Int) ≠ 0 by decide), ?_⟩⟩
        have b2 := fm (x := ((n1 + 1) * 39373).fmod 1000000007 * ((n1 + 1) * 39373).fmod 1000000007) (m := 998244353) (by decide)
        refine ⟨_, rfl, _, rfl, _, _, rfl, rfl, .inl ⟨by omega, by omega⟩, .inl ⟨_, rfl, _, _, rfl, rfl, (show (998244353 : Int) ≠ 0 by decide), _, _, rfl, rfl, .inl ⟨by omega, by omega⟩, .inl ⟨_, rfl, _, _, rfl, rfl, (show (998244353 : Int) ≠ 0 by decide), ?_⟩⟩⟩
        exact ⟨_, rfl, _, _, rfl, rfl, ⟨by decide, by decide⟩, .inl ⟨_, rfl, _, rfl, _, m, rfl, rfl, by omega, k _ _ (fm hm).1 (fm hm).2 hB' sb⟩⟩
end
end Y

namespace Y
open PySem PySem.Spec PyProof.Rows L2 Ns
open C8 (pss_cut)
def spSome (K : PySem.W.Frag) : Sp := fun as H Q _ => ∃ (b a : Addr) (xs : List V), as = [.ref b, .ref a] ∧ Bag H b ∧ SqL K (wo H b) a xs ∧ xs ≠ [] ∧ xs.length ≤ 1000000 ∧ ∀ (x : V) (H' : Hp), x ∈ xs → Bag H' b → Sb b H H' → Q x H'
section
variable {P : Program} {w : World} {K : PySem.W.Frag} {mg : Str → Option Value} {base : Heap}
theorem scS : FnScope ["bag", "things"] ["bag", "things"] (defScope sSome) := ⟨rfl, rfl, rfl, by decide +kernel, rfl, by decide +kernel, by decide +kernel⟩
theorem ok_some {f fT : Addr} {fd fdT : FuncData} (F : Fun K "_law_some" "_law_some" sSome f fd) (T : Nat0 mg) (FT : Fun K "_law_take" "_law_take" sTake fT fdT) (mT : mg "_law_take" = some (.ref fT)) (bT : Binds K fdT ["bag", "many"] []) :
    FnOk P w K mg base CX0 2 f fd ["bag", "things"] (spSome K) := by
  have GT : FnOk P w K mg base CX0 1 fT fdT ["bag", "many"] spTake := ok_take FT T
  refine F.ok scS (fun as H Q E h => ?_) (fun cdv A outer s H as Q E hr h => ?_)
  · obtain ⟨b, a, xs, rfl, _⟩ := h
    rfl
  · obtain ⟨b, a, xs, rfl, hB, hS, hne, hl, k⟩ := h
    have pos : 0 < xs.length := List.length_pos_iff.mpr hne
    refine ⟨_, pss_one (ps_ret (pe_ix ix_list (pv 1) (pe_call GT hr rfl mT FT.kp bT .nil pass0 (pa_cons (pv 0) (pa_cons (pe_callB call_len_seq (by rfl) T.len PySem.boot_len (pa_cons (pv 1) pa_nil)) pa_nil))) (fun _ _ => rfl))), ?_⟩
    refine ⟨_, rfl, _, rfl, _, rfl, a, _, rfl, .inl ((wo_sub H b).seq hS), b, _, rfl, hB, by omega, ?_, fun v H' h0 h1 hB' sb => ?_⟩
    · exact Nat.lt_of_le_of_lt (show ((xs.length : Int)).natAbs ≤ 1000000 by omega) (by decide)
    · have hi : v.toNat < xs.length := by omega
      have e : v = ((v.toNat : Nat) : Int) := by omega
      have hx : xs[v.toNat]? = some xs[v.toNat] := List.getElem?_eq_getElem hi
      obtain ⟨x, ex⟩ : ∃ x, xs[v.toNat]? = some x := ⟨_, hx⟩
      exact ⟨a, xs, v, x, rfl, rfl, (wo_sub H' b).seq (sb.sl hS), by rw [e]; exact atI_nat ex, k _ _ (List.mem_of_getElem? ex) hB' sb⟩
end
end Y

/-! NsD: how long the text of data is. -/
namespace Ns
open PySem PySem.Spec PyProof.Rows L2
/-- shown in at most m signs, nested at most k deep -/
def Fit (m k : Nat) (d : PyData) : Prop := d.showable = true ∧ d.shown.length ≤ m ∧ d.depth ≤ k
theorem Fit.mono {m m' k k' : Nat} {d : PyData} (h : Fit m k d) (hm : m ≤ m') (hk : k ≤ k') : Fit m' k' d := ⟨h.1, Nat.le_trans h.2.1 hm, Nat.le_trans h.2.2 hk⟩
theorem sum_le {m : Nat} : ∀ {l : List Nat}, (∀ n ∈ l, n ≤ m) → l.sum ≤ l.length * m
  | [], _ => Nat.zero_le _
  | n :: l, h => by
    have h1 := h n List.mem_cons_self
    have h2 := sum_le (l := l) fun k hk => h k (List.mem_cons_of_mem _ hk)
    rw [List.sum_cons, List.length_cons, Nat.succ_mul]
    omega
theorem depthAll_le {k : Nat} : ∀ {ds : List PyData}, (∀ d ∈ ds, d.depth ≤ k) → PyData.depthAll ds ≤ k
  | [], _ => by simp [PyData.depthAll]
  | d :: ds, h => by
    simp only [PyData.depthAll]
    exact Nat.max_le.mpr ⟨h d List.mem_cons_self, depthAll_le fun e he => h e (List.mem_cons_of_mem _ he)⟩
theorem mem_shown : ∀ {ds : List PyData} {t : Str}, t ∈ PyData.shownAll ds → ∃ d ∈ ds, t = d.shown
  | [], t, h => by rw [PyData.shownAll_nil] at h; exact nomatch h
  | d :: ds, t, h => by
    rw [PyData.shownAll_cons] at h
    rcases List.mem_cons.mp h with e | e
    · exact ⟨d, List.mem_cons_self, e⟩
    · obtain ⟨d', h1, h2⟩ := mem_shown e
      exact ⟨d', List.mem_cons_of_mem _ h1, h2⟩
theorem lens_le {m k : Nat} {ds : List PyData} (h : ∀ d ∈ ds, Fit m k d) : ((PyData.shownAll ds).map (·.length)).sum ≤ ds.length * m := by
  have e : ((PyData.shownAll ds).map (·.length)).length = ds.length := by rw [List.length_map, PyData.shownAll_length]
  have z := sum_le (l := (PyData.shownAll ds).map (·.length)) (m := m) fun n hn => by
    obtain ⟨t, ht, rfl⟩ := List.mem_map.mp hn
    obtain ⟨d, hd, rfl⟩ := mem_shown ht
    exact (h d hd).2.1
  rw [e] at z
  exact z
theorem fit_list {m k : Nat} {ds : List PyData} (h : ∀ d ∈ ds, Fit m k d) : Fit (ds.length * (m + 2) + 3) (k + 1) (.list ds) := by
  refine ⟨?_, ?_, ?_⟩
  · simp only [PyData.showable]
    exact showableAll_of fun d hd => (h d hd).1
  · simp only [PyData.shown]
    have z1 := listText_len_le (PyData.shownAll ds)
    have z2 := lens_le h
    rw [PyData.shownAll_length] at z1
    rw [Nat.mul_add]
    omega
  · have e : (PyData.list ds).depth = PyData.depthAll ds + 1 := by simp only [PyData.depth] <;> omega
    rw [e]
    exact Nat.succ_le_succ (depthAll_le fun d hd => (h d hd).2.2)
theorem fit_tuple {m k : Nat} {ds : List PyData} (h : ∀ d ∈ ds, Fit m k d) : Fit (ds.length * (m + 2) + 3) (k + 1) (.tuple ds) := by
  refine ⟨?_, ?_, ?_⟩
  · simp only [PyData.showable]
    exact showableAll_of fun d hd => (h d hd).1
  · simp only [PyData.shown]
    have z1 := tupleText_len_le (PyData.shownAll ds)
    have z2 := lens_le h
    rw [PyData.shownAll_length] at z1
    rw [Nat.mul_add]
    omega
  · have e : (PyData.tuple ds).depth = PyData.depthAll ds + 1 := by simp only [PyData.depth] <;> omega
    rw [e]
    exact Nat.succ_le_succ (depthAll_le fun d hd => (h d hd).2.2)
theorem kvs_le {m k : Nat} : ∀ {kvs : List (PyData × PyData)}, (∀ p ∈ kvs, Fit m k p.1 ∧ Fit m k p.2) → ((PyData.shownKv kvs).map (·.length)).sum ≤ kvs.length * (2 * m + 2) ∧ PyData.depthKv kvs ≤ k
  | [], _ => by simp [PyData.shownKv, PyData.depthKv]
  | (a, b) :: r, h => by
    obtain ⟨h1, h2⟩ := h (a, b) List.mem_cons_self
    obtain ⟨z1, z2⟩ := kvs_le (kvs := r) fun p hp => h p (List.mem_cons_of_mem _ hp)
    have e : (a.shown ++ ": " ++ b.shown).length = a.shown.length + 2 + b.shown.length := by
      rw [strLen_append, strLen_append]
      rfl
    have y1 := h1.2.1
    have y2 := h2.2.1
    refine ⟨?_, ?_⟩
    · rw [PyData.shownKv_cons, List.map_cons, List.sum_cons, List.length_cons, Nat.succ_mul, e]
      have y1' : a.shown.length ≤ m := y1
      have y2' : b.shown.length ≤ m := y2
      omega
    · have y3 : a.depth ≤ k := h1.2.2
      have y4 : b.depth ≤ k := h2.2.2
      simp only [PyData.depthKv]
      omega
theorem fit_dict {m k : Nat} {kvs : List (PyData × PyData)} (h : ∀ p ∈ kvs, Fit m k p.1 ∧ Fit m k p.2) : Fit (kvs.length * (2 * m + 4) + 3) (k + 1) (.dict kvs) := by
  obtain ⟨z1, z2⟩ := kvs_le h
  refine ⟨?_, ?_, ?_⟩
  · simp only [PyData.showable]
    exact showableKv_of fun p hp => ⟨(h p hp).1.1, (h p hp).2.1⟩
  · simp only [PyData.shown]
    have y := dictText_len_le (PyData.shownKv kvs)
    rw [PyData.shownKv_length] at y
    have e : kvs.length * (2 * m + 4) = kvs.length * (2 * m + 2) + 2 * kvs.length := by
      rw [Nat.mul_add, Nat.mul_add]
      omega
    omega
  · have e : (PyData.dict kvs).depth = PyData.depthKv kvs + 1 := by simp only [PyData.depth] <;> omega
    omega
theorem fit_int {i : Int} {n : Nat} (h0 : 0 < n) (h : i.natAbs < 10 ^ n) (hn : n ≤ 500) : Fit (n + 1) 0 (.int i) := by
  have z : (10 : Nat) ^ n < 2 ^ 1920 := Nat.lt_of_le_of_lt (Nat.pow_le_pow_right (by decide) hn) (by decide +kernel)
  refine ⟨decide_eq_true (log2_small (Nat.lt_trans h z)), ?_, by simp [PyData.depth]⟩
  rw [PyData.shown_int, PySem.ofString_length]
  exact int_text_length_le10 h0 h
/-- a datum is equal to itself -/
theorem eqv_self {K : PySem.W.Frag} {H : Hp} {x : V} {d : PyData} (D : DatV K H x d) (n : Nat) : EqV K H (n + 1) x x := by
  cases D with
  | non => exact .inl ⟨rfl, rfl⟩
  | bl b => exact .inl ⟨rfl, rfl⟩
  | int i => exact .inl ⟨rfl, rfl⟩
  | str y => exact .inl ⟨rfl, rfl⟩
  | lst _ _ => exact .inr (.inl ⟨_, rfl, rfl⟩)
  | tup _ _ => exact .inr (.inl ⟨_, rfl, rfl⟩)
  | dix _ _ _ _ _ => exact .inr (.inl ⟨_, rfl, rfl⟩)
theorem paired_rep {α β : Type} {F : α → β → Prop} {a : α} {b : β} (h : F a b) : ∀ n : Nat, Paired F (List.replicate n a) (List.replicate n b)
  | 0 => .nil
  | n + 1 => .cons h (paired_rep h n)
theorem datA_rep {K : PySem.W.Frag} {H : Hp} {x : V} {d : PyData} (D : DatV K H x d) : ∀ n : Nat, DatA K H (List.replicate n x) (List.replicate n d)
  | 0 => .nil
  | n + 1 => .cons D (datA_rep D n)
end Ns

/-! NsE: == of equal nested lists, tuples and dicts. -/
namespace Ns
open PySem PySem.Spec PyProof.Rows L2
/-- two tuples of equal items -/
def EqU (K : PySem.W.Frag) (H : Hp) (E : V → V → Prop) (x y : V) : Prop := ∃ a b xs ys, x = .ref a ∧ y = .ref b ∧ SqT K H a xs ∧ SqT K H b ys ∧ Paired E xs ys
/-- equal, of nesting below n, tuples too -/
def EqT (K : PySem.W.Frag) (H : Hp) : Nat → V → V → Prop
  | 0 => fun _ _ => False
  | n + 1 => fun x y => (x = y ∧ flatB x = true) ∨ (∃ a, x = .ref a ∧ y = .ref a) ∨ EqR K H (EqT K H n) x y ∨ EqU K H (EqT K H n) x y
section
variable {X : Cx} {pins : List (Addr × Obj)} {σ : L2.St} {H : Hp} {s : Shared}
theorem eqU_run (I : Inv X pins σ H s) {A : Around} {F : V → V → Prop} (hu : A.units < cLine) (ih : ∀ x y v u, F x y → RelV x v → RelV y u → SeqAt.EqP X.prog X.w A.in1 s v u true) {x y : V} {v u : Value} (h : EqU X.K H F x y) (rx : RelV x v) (ry : RelV y u)
    (E Q : Value → Shared → Prop) (q : Q (.bool true) s) : wpAny (model X.prog X.w) A (richCompare .Eq v u) Q E s := by
  obtain ⟨a, b, xs, ys, rfl, rfl, ha, hb, hp⟩ := h
  cases (show v = Value.ref a from rx)
  cases (show u = Value.ref b from ry)
  obtain ⟨us, r1, ⟨o1, h1, h2, n1, h3⟩, _⟩ := I.tuple ha
  obtain ⟨ws, r2, ⟨o2, g1, g2, n2, g3⟩, _⟩ := I.tuple hb
  have hsz : us.toArray.size = ws.toArray.size := by
    rw [List.size_toArray, List.size_toArray, ← r1.length, ← r2.length]
    exact Paired.length hp
  refine SeqAt.rcIn_tuples (e := fun _ => true) ⟨o1, h1, h2, n1, h3⟩ ⟨o2, g1, g2, n2, g3⟩ hu (fun j h1 h2 => ?_) ?_
  · have k := items_run ih hp r1 r2 j (by simpa using h1) (by simpa using h2)
    simp only [List.getElem_toArray]
    exact fun E Q q => k E Q q
  · rw [hsz, show ((List.range (min ws.toArray.size ws.toArray.size)).all fun _ => true) = true from List.all_eq_true.mpr fun _ _ => rfl]
    simpa using q
theorem eqT_run (I : Inv X pins σ H s) : ∀ (n : Nat) (A : Around), A.units + n < cLine → ∀ (x y : V) (v u : Value), EqT X.K H n x y → RelV x v → RelV y u → SeqAt.EqP X.prog X.w A s v u true
  | 0, _, _, _, _, _, _, h, _, _ => (show False from h).elim
  | n + 1, A, hu, x, y, v, u, h, rx, ry => by
    have ih := eqT_run I n A.in1 (by show A.units + 1 + n < cLine; omega)
    rcases h with ⟨rfl, f⟩ | ⟨a, rfl, rfl⟩ | h | h
    · exact (eqAt_same rx ry f).eqP
    · cases (show v = Value.ref a from rx)
      cases (show u = Value.ref a from ry)
      exact (SeqAt.EqAt.same _).eqP
    · have step := eqR_run I (A := A) (by omega) ih h rx ry
      obtain ⟨a, b, rfl, rfl⟩ : ∃ a b, x = .ref a ∧ y = .ref b := by
        rcases h with ⟨a, b, _, _, e1, e2, _⟩ | ⟨a, b, _, _, e1, e2, _⟩
        · exact ⟨a, b, e1, e2⟩
        · exact ⟨a, b, e1, e2⟩
      cases (show v = Value.ref a from rx)
      cases (show u = Value.ref b from ry)
      by_cases e : a = b
      · subst e
        exact (SeqAt.EqAt.same _).eqP
      · exact SeqAt.eqP_refs e step
    · have step := eqU_run I (A := A) (by omega) ih h rx ry
      obtain ⟨a, b, _, _, rfl, rfl, _⟩ := h
      cases (show v = Value.ref a from rx)
      cases (show u = Value.ref b from ry)
      by_cases e : a = b
      · subst e
        exact (SeqAt.EqAt.same _).eqP
      · exact SeqAt.eqP_refs e step
end
/-- flat, or a list, a tuple, a dict, the two of them equal -/
def EqS (K : PySem.W.Frag) (H : Hp) (n : Nat) (x y : V) : Prop := EqR K H (EqT K H n) x y ∨ EqU K H (EqT K H n) x y
section
variable {X : Cx}
/-- a == b, equal: flat ones, or lists, tuples, dicts -/
def rEqT (K : PySem.W.Frag) : R2 := fun x y H Q => ((x = y ∧ ((∃ i, x = .int i) ∨ (∃ z, x = .str z) ∨ x = .non ∨ ∃ b, x = .bl b)) ∨ ∃ n, n ≤ 60 ∧ EqS K H n x y) ∧ Q (.bl true) H
theorem op_eqT (hu : X.A.units + 64 < cLine) : OpR X (compareOp .Eq) (rEqT X.K) := by
  intro pins s σ H x y v u Q I rx ry h
  obtain ⟨h, q⟩ := h
  have qq : EP X pins σ Q (Value.bool true) s := ⟨.bl true, H, I, rfl, q⟩
  rcases h with ⟨rfl, ⟨i, rfl⟩ | ⟨z, rfl⟩ | rfl | ⟨b, rfl⟩⟩ | ⟨n, hn, h | h⟩
  · obtain ⟨t, rfl⟩ := (show ∃ t, v = Value.int i t from rx)
    obtain ⟨t', rfl⟩ := (show ∃ t, u = Value.int i t from ry)
    exact SeqAt.RcAt.int_int i t i t' _ _ _ _ (by rw [beq_self_eq_true]; exact qq)
  · obtain ⟨t, rfl⟩ := (show ∃ t, v = Value.str z t from rx)
    obtain ⟨t', rfl⟩ := (show ∃ t, u = Value.str z t from ry)
    exact SeqAt.RcAt.str_str z t z t' _ _ _ _ (by rw [beq_self_eq_true]; exact qq)
  · cases (show v = Value.none from rx)
    cases (show u = Value.none from ry)
    exact SeqAt.RcAt.none_none _ _ _ _ qq
  · cases (show v = Value.bool b from rx)
    cases (show u = Value.bool b from ry)
    exact SeqAt.RcAt.bool_bool b b _ _ _ _ (by rw [beq_self_eq_true]; exact qq)
  · exact eqR_run I (A := X.A) (by omega) (eqT_run I n X.A.in1 (by show X.A.units + 1 + n < cLine; omega)) h rx ry _ _ qq
  · exact eqU_run I (A := X.A) (by omega) (eqT_run I n X.A.in1 (by show X.A.units + 1 + n < cLine; omega)) h rx ry _ _ qq
end
end Ns

namespace Y
open PySem PySem.Spec PyProof.Rows L2 Ns
/-- equal data: True -/
def spAlike (K : PySem.W.Frag) : Sp := fun as H Q _ => ∃ (x y : V) (d : PyData), as = [x, y] ∧ ((x = y ∧ ((∃ i, x = .int i) ∨ (∃ z, x = .str z) ∨ x = .non ∨ ∃ b, x = .bl b)) ∨ ∃ n, n ≤ 60 ∧ EqS K H n x y) ∧ DatV K H x d ∧ DatV K H y d ∧ d.showable = true ∧ d.shown.length ≤ sizeLine ∧ d.depth ≤ 60 ∧ Q (.bl true) H
section
variable {P : Program} {w : World} {K : PySem.W.Frag} {mg : Str → Option Value} {base : Heap}
theorem scA : FnScope ["found", "due"] ["found", "due"] (defScope sAlike) := ⟨rfl, rfl, rfl, by decide +kernel, rfl, by decide +kernel, by decide +kernel⟩
theorem ok_alike {f : Addr} {fd : FuncData} (F : Fun K "_law_alike" "_law_alike" sAlike f fd) (T : Nat0 mg) : GnOk P w K mg base 1 f fd ["found", "due"] (spAlike K) := by
  refine Fun.okG F scA (fun as H Q E h => ?_) (fun cdv A outer s H as Q E hr hgd h => ?_)
  · obtain ⟨x, y, d, rfl, _⟩ := h
    rfl
  · obtain ⟨x, y, d, rfl, he, dx, dy, hs, hz, hd, k⟩ := h
    have hu : (A.deeper (envOfC "_law_alike" (defScope sAlike) s.heap.objs.size f cdv)).units + 64 < cLine := hr.units
    refine ⟨_, pss_one (ps_ret (pe_and (pe_cmpR (op_eqT hu) (pv 0) (pv 1) (nomark _)) (pe_one (pe_cmpR op_eq
      (pe_callB (call_reprD hgd hu) (by rfl) T.repr (by decide +kernel) (pa_cons (pv 0) pa_nil)) (pe_callB (call_reprD hgd hu) (by rfl) T.repr (by decide +kernel) (pa_cons (pv 1) pa_nil)) (nomark _))))), ?_⟩
    refine ⟨_, rfl, _, rfl, he, true, rfl, ?_⟩
    refine iteT ?_
    refine ⟨_, rfl, x, d, rfl, dx, hs, hz, hd, _, rfl, y, d, rfl, dy, hs, hz, hd, rfl, ?_⟩
    rw [decide_eq_true rfl]
    exact k
end
end Y

/-! NsS: sorted(xs) of data that are alike; sorted(d), d with pairs of texts as keys. -/
namespace Ns
open PySem PySem.Spec PyProof.Rows L2
open PySem.W (dataLe AllAlike Sortable EachIs)
section
variable {X : Cx}
theorem each_vals {bs : List (V × PyData)} : ∀ {out : List Value}, EachIs (fun v (b : V × PyData) => RelV b.1 v) out bs → Vals (bs.map (·.1)) out
  | _, .nil => .nil
  | _, .cons h t => .cons h (each_vals t)
theorem vals_each {bs : List (V × PyData)} : ∀ {us : List Value}, Vals (bs.map (·.1)) us → EachIs (fun v (b : V × PyData) => RelV b.1 v) us bs := by
  induction bs with
  | nil => intro us r; cases r; exact .nil
  | cons b bs ih => intro us r; cases r with
    | cons h t => exact .cons h (ih t)
theorem each_and {α β : Type} {R S : α → β → Prop} : ∀ {as : List α} {bs : List β}, EachIs R as bs → (∀ b ∈ bs, ∀ a, R a b → S a b) → EachIs S as bs
  | _, _, .nil, _ => .nil
  | _, _, .cons h t, k => .cons (k _ List.mem_cons_self _ h) (each_and t fun b hb => k b (List.mem_cons_of_mem _ hb))
/-- sorted(xs): alike data in Python's order -/
def rSortG (K : PySem.W.Frag) : List V → Hp → VK → Prop := fun vs H Q => ∃ (a : Addr) (bs : List (V × PyData)), vs = [V.ref a] ∧ SqL K H a (bs.map (·.1)) ∧ (∀ p ∈ bs, DatV K H p.1 p.2 ∧ p.2.depth ≤ 60) ∧ AllAlike (bs.map (·.2)) ∧ Sortable (bs.map (·.2)) ∧ bs.length ≤ sizeLine ∧
  ∀ p, H p = none → Q (.ref p) (upd H p (.lst ((bs.mergeSort (dataLe false (·.2))).map (·.1))))
theorem cr_sortG (hu : X.A.units + 64 < cLine) : CallR X (.builtin "sorted") (rSortG X.K) := by
  intro pins s σ H vs us Q I r h
  obtain ⟨a, bs, rfl, hs, hD, ha, hk, hz, q⟩ := h
  obtain ⟨its, rv, hl, _⟩ := I.list hs
  rw [Vals.ref1 r]
  have e := vals_each rv
  refine PySem.W.sorted_data (enc := fun b : V × PyData => b.2) hl.isList e (each_and e fun b hb v rb => reads_of I (hD b hb).1 rb) ha hk hz (fun b hb => by have := (hD b hb).2; omega) fun out hlo ho => ?_
  obtain ⟨ep, he'⟩ := PyProof.Rows.sortedAll_at s.heap its out.toArray
  have hlen : ((bs.mergeSort (dataLe false (·.2))).map (·.1)).length ≤ sizeLine := by rw [List.length_map, List.length_mergeSort]; exact hz
  exact ⟨.ref _, upd H (s.heap.objs.size + 1) (.lst ((bs.mergeSort (dataLe false (·.2))).map (·.1))), I.laid (t' := s.toks) (fun _ _ => PyProof.Rows.sortedAll_old) (Nat.le_succ _) ⟨hlen, out, ep, each_vals ho, by simpa using he'⟩, rfl, q _ (I.hok.fresh (Nat.le_succ _))⟩
/-- two rows of one length that agree at each place -/
theorem rows_same {α β : Type} {f : α → β} : ∀ {xs : List β} {ks : List α}, xs.length = ks.length → (∀ (j : Nat) (v : β) (b : α), xs[j]? = some v → ks[j]? = some b → v = f b) → xs = ks.map f
  | [], [], _, _ => rfl
  | v :: xs, b :: ks, hl, h => by
    rw [List.map_cons, h 0 v b rfl rfl, rows_same (Nat.succ.inj hl) fun j u c h1 h2 => h (j + 1) u c h1 h2]
/-- a pair of texts as data -/
def pD (k : Str × Str) : PyData := .tuple [.str k.1, .str k.2]
def pK (k : Str × Str) : List Key := [.inr k.1, .inr k.2]
/-- sorted(d), d with pairs of texts as keys: the keys' own tuples -/
def rSortDT : List V → Hp → VK → Prop := fun vs H Q => ∃ (a : Addr) (kvs : List (List Key × V)) (ks : List (Str × Str)), vs = [V.ref a] ∧ Rd H a (.dT kvs) ∧ kvs.map (·.1) = ks.map pK ∧ ks.length ≤ 1000 ∧
  ∀ (p : Addr) (qs : List Addr), H p = none → Paired (fun (q : Addr) (k : Str × Str) => H q = some (.tup [.str k.1, .str k.2])) qs (ks.mergeSort (dataLe false pD)) → Q (.ref p) (upd H p (.lst (qs.map V.ref)))
theorem isKeys_pairs {H : Hp} : ∀ {kvs : List (List Key × V)} {bs : List Addr} {ks : List (Str × Str)}, IsKeys H kvs bs → kvs.map (·.1) = ks.map pK → Paired (fun (q : Addr) (k : Str × Str) => H q = some (.tup [.str k.1, .str k.2])) bs ks
  | [], _, [], .nil, _ => .nil
  | [], _, _ :: _, _, e => by cases e
  | _ :: _, _, [], _, e => by cases e
  | kv :: kvs, _, k :: ks, .cons h t, e => by
    injection e with e1 e2
    refine .cons ?_ (isKeys_pairs t e2)
    rw [show kv.1 = pK k from e1] at h
    exact h
theorem pair_each {R : Addr → Str × Str → Prop} : ∀ {qs : List Addr} {ks : List (Str × Str)}, Paired R qs ks → EachIs (fun v k => ∃ q, v = Value.ref q ∧ R q k) (qs.map Value.ref) ks
  | _, _, .nil => .nil
  | _, _, .cons h t => .cons ⟨_, rfl, h⟩ (pair_each t)
theorem each_pair {R : Addr → Str × Str → Prop} : ∀ {out : List Value} {ks : List (Str × Str)}, EachIs (fun v k => ∃ q, v = Value.ref q ∧ R q k) out ks → ∃ qs : List Addr, out = qs.map Value.ref ∧ Paired R qs ks
  | _, _, .nil => ⟨[], rfl, .nil⟩
  | _, _, .cons ⟨q, e, h⟩ t => by
    obtain ⟨qs, e2, p⟩ := each_pair t
    exact ⟨q :: qs, by rw [e, e2]; rfl, .cons h p⟩
theorem alike_pD (ks : List (Str × Str)) : AllAlike (ks.map pD) := AllAlike.of fun _ _ => by simp [PySem.W.alike, PySem.W.alikeAll, pD]
theorem sortable_pD (ks : List (Str × Str)) : Sortable (ks.map pD) := Sortable.tuples fun _ => ⟨_, _, rfl⟩
theorem cr_sortDT (hc : X.calm = true) (hu : X.A.units + 64 < cLine) : CallR X (.builtin "sorted") rSortDT := by
  intro pins s σ H xs us Q I r h
  obtain ⟨d, kvs, kk, rfl, hd, hkk, h1000, q⟩ := h
  obtain ⟨u, rfl, rx⟩ := r.one
  cases rx
  obtain ⟨z, hs, ks, pr, o, es, ep, ho, hx, hdt, he, hn⟩ := (show ObjOk X.prog X.w H s.heap d (.dT kvs) from hd.ok I.hok)
  have l1 : es.size = ks.length := size_of_entries he
  have l2 : kvs.length = ks.length := Paired.length pr
  have l3 : kvs.length = kk.length := by
    have := congrArg List.length hkk
    rw [List.length_map, List.length_map] at this
    exact this
  have z16 : sizeLine = 16777216 := sizeLine_eq
  refine Calls.call_function_entry PyProof.Rows.kind_sorted PyProof.Rows.plain_sorted PyProof.Rows.entry_sorted (PyProof.Rows.args_sorted1 _) ?_
  unfold Builtin.«sorted»
  refine wpAny_bind (m := checkCount "sorted" 1 1 _) (wpAny_pure ?_)
  refine wpAny_bind (PySem.W.kdu_collect (A := X.A.in1) (kdl_raw hs hx hdt) (I.ok.hd hc) ho (by omega) fun h' tk acc hk it => ?_)
  have hsz : acc.toList.length = ks.length := (Array.length_toList).trans (it.1.trans l1)
  have ea : acc.toList = ks.map fun x => Value.ref x.2.1 := by
    refine rows_same hsz fun j v b hv hb => ?_
    obtain ⟨en, hen, rfl⟩ := it.2 j v ((Array.getElem?_toList).symm.trans hv)
    have q := (entry_at he j).symm.trans hen
    rw [hb] at q
    cases q
    rfl
  have eb : acc.toList = (ks.map fun x => x.2.1).map Value.ref := by rw [ea, List.map_map]; all_goals rfl
  have hP := isKeys_pairs (isKeys_of pr) hkk
  have hal : acc.toList.length = kk.length := by rw [Array.length_toList, it.1, l1, ← l2, l3]
  have I1 : Inv X pins σ H { s with heap := h', toks := tk } := I.kept hk
  refine wpAny_bind (wpAny_newList ?_ (by rw [hal]; omega))
  have hoL : (h'.push (seqObj "list" acc.toList.toArray 0)).get? h'.objs.size = some (seqObj "list" acc.toList.toArray 0) := Heap.get?_push_size _ rfl
  show wpAny _ _ _ _ _ { s with heap := h'.push (seqObj "list" acc.toList.toArray 0), toks := tk }
  have e0 : EachIs (fun v (k : Str × Str) => ∃ q, v = Value.ref q ∧ H q = some (.tup [.str k.1, .str k.2])) acc.toList kk := by
    rw [eb]
    exact pair_each hP
  refine wpAny_bind (wpAny_holding (PySem.W.list_sort_data (enc := pD) (s := { s with heap := h'.push (seqObj "list" acc.toList.toArray 0), toks := tk }) hoL e0 (each_and e0 fun k _ v rv => ?_) (alike_pD kk) (sortable_pD kk) (by omega) (fun k _ => ?_) fun out hlo hO => ?_))
  · obtain ⟨q, rfl, hq⟩ := rv
    obtain ⟨_, its, rv2, ot, hot, hct, nt, hdtt⟩ := (show ObjOk X.prog X.w H h' q (.tup [.str k.1, .str k.2]) from I1.hok q _ hq)
    obtain ⟨u1, u2, rfl, r1, r2⟩ := rv2.two
    obtain ⟨t1, rfl⟩ := r1
    obtain ⟨t2, rfl⟩ := r2
    refine ⟨[], Reads.tuple (Heap.get?_push_of_some _ hot) hct hdtt ?_, fun z => nomatch z⟩
    exact ReadsAll.cons (as := []) (bs := []) (.str _ _) (ReadsAll.cons (as := []) (bs := []) (.str _ _) .nil)
  · have : (pD k).depth = 1 := by simp [pD, PyData.depth, PyData.depthAll]
    show X.A.units + 1 + 1 + _ < _
    omega
  · obtain ⟨qs, eo, pq⟩ := each_pair hO
    obtain ⟨e', he'⟩ := PyProof.Rows.sortedHeap_at (vs := acc.toList) (out := out.toArray) hoL
    have hlen : (qs.map V.ref).length ≤ sizeLine := by
      have : out.length = qs.length := by rw [eo, List.length_map]
      rw [List.length_map]
      omega
    refine wpAny_pure ⟨_, rfl, .ref h'.objs.size, upd H h'.objs.size (.lst (qs.map V.ref)), I1.laid (t' := tk) (fun b u e => ?_) (Nat.le_refl _)
      (show ObjOk X.prog X.w _ _ _ (.lst (qs.map V.ref)) from ⟨hlen, out, e', by rw [eo]; exact vals_refs qs, by simpa using he'⟩), rfl, q _ qs (I1.hok.fresh (Nat.le_refl _)) pq⟩
    have hb : b < h'.objs.size := Heap.lt_size e
    rw [PyProof.Rows.sortedHeap_old (Nat.ne_of_lt hb) (by rw [size_push']; exact Nat.lt_succ_of_lt hb)]
    exact Heap.get?_push_of_some _ e
end
end Ns

/-! NsU: d.update(e), two dicts; the values and the items of a dict. -/
namespace Ns
open PySem PySem.Spec PyProof.Rows L2
open L2.DX (itemsO itemsO_ok takeT)
theorem mergeK_len : ∀ (more kvs : List (Key × V)), (mergeK kvs more).length ≤ kvs.length + more.length
  | [], kvs => Nat.le_refl _
  | p :: more, kvs => by
    have h1 := mergeK_len more (putK kvs p.1 p.2)
    have h2 := length_putK kvs p.1 p.2
    show (mergeK (putK kvs p.1 p.2) more).length ≤ _
    rw [List.length_cons]
    omega
section
variable {X : Cx}
def rDUpd : V → List V → Hp → VK → Prop := fun x xs H Q => ∃ (a b : Addr) (kvs more : List (Key × V)), x = .ref a ∧ xs = [.ref b] ∧ a ≠ b ∧ H a = some (.dK kvs) ∧ H b = some (.dK more) ∧ kvs.length + more.length ≤ sizeLine ∧ Q .non (upd H a (.dK (mergeK kvs more)))
theorem mt_dupd : MtR X "dict.update" rDUpd := by
  intro pins s σ H x xs v us Q I rx rxs h
  obtain ⟨a, b, kvs, more, rfl, rfl, hab, ha, hb, hz, q⟩ := h
  cases rx
  obtain ⟨u, rfl, ru⟩ := vals1 rxs
  cases ru
  obtain ⟨_, da, va, ka, oa⟩ := dk_of I.hok ha
  obtain ⟨_, db, vb, kb, ob⟩ := dk_of I.hok hb
  have lens : va.length + vb.length ≤ sizeLine := by rw [← ka.length, ← kb.length]; exact hz
  refine call_meetsIn PySem.F.slot_dict_update oa.typeIs PySem.F.entry_dict_update (PySem.F.args_dict_update_2 _ _) (meets_dict_update (mixKind X.prog X.w) a b hab db) ⟨va, vb, oa, ob, lens, fun h' m1 _ sb => ?_⟩
  have there : ∃ q, h'.get? a = some q := by
    obtain ⟨q, _, _, hq, _⟩ := m1
    exact ⟨q, hq⟩
  exact ⟨.non, _, d_write (t' := s.toks) I (by rw [ha]; trivial) sb there (dk_new (Nat.le_trans (mergeK_len more kvs) hz) da (KV.merge kb ka) m1), rfl, q⟩
/-- the view d.values() at p -/
def valsO (p d : Addr) : HO := .ext fun h => h.IsValuesView p d
theorem valsO_ok {P : Program} {w : World} {H : Hp} {h : Heap} {p d : Addr} (e : h.get? p = some { cls := .type "dict_values", data := .fields #[.ref d] }) : ObjOk P w H h p (valsO p d) :=
  ⟨⟨_, e, rfl, rfl⟩, ⟨_, e⟩, fun h1 h2 x k => by
    obtain ⟨o, ho, r⟩ := x
    exact ⟨o, k o ho, r⟩⟩
def rItemsK : V → List V → Hp → VK → Prop := fun x xs H Q => ∃ (a : Addr) (kvs : List (Key × V)), x = .ref a ∧ xs = [] ∧ H a = some (.dK kvs) ∧ ∀ p, H p = none → Q (.ref p) (upd H p (itemsO p a))
def rValsK : V → List V → Hp → VK → Prop := fun x xs H Q => ∃ (a : Addr) (kvs : List (Key × V)), x = .ref a ∧ xs = [] ∧ H a = some (.dK kvs) ∧ ∀ p, H p = none → Q (.ref p) (upd H p (valsO p a))
theorem mt_itemsK : MtR X "dict.items" rItemsK := by
  intro pins s σ H x xs v us Q I rx rxs h
  obtain ⟨a, kvs, rfl, rfl, ha, q⟩ := h
  cases rx
  cases rxs
  obtain ⟨_, da, va, ka, oa⟩ := dk_of I.hok ha
  refine call_meetsIn PySem.F.slot_dict_items oa.typeIs PySem.F.entry_dict_items (PySem.F.args_dict_items_1 _) (meets_dict_items (mixKind X.prog X.w) a da) ⟨⟨va, oa⟩, ?_⟩
  exact ⟨.ref s.heap.objs.size, upd H s.heap.objs.size (itemsO s.heap.objs.size a), I.laid (t' := s.toks) (fun b u e => Heap.get?_push_of_some _ e) (Nat.le_refl _) (itemsO_ok (Heap.get?_push_size _ rfl)), rfl, q _ (I.hok.fresh (Nat.le_refl _))⟩
theorem mt_valsK : MtR X "dict.values" rValsK := by
  intro pins s σ H x xs v us Q I rx rxs h
  obtain ⟨a, kvs, rfl, rfl, ha, q⟩ := h
  cases rx
  cases rxs
  obtain ⟨_, da, va, ka, oa⟩ := dk_of I.hok ha
  refine call_meetsIn PySem.F.slot_dict_values oa.typeIs PySem.F.entry_dict_values (PySem.F.args_dict_values_1 _) (meets_dict_values (mixKind X.prog X.w) a da) ⟨⟨va, oa⟩, ?_⟩
  exact ⟨.ref s.heap.objs.size, upd H s.heap.objs.size (valsO s.heap.objs.size a), I.laid (t' := s.toks) (fun b u e => Heap.get?_push_of_some _ e) (Nat.le_refl _) (valsO_ok (Heap.get?_push_size _ rfl)), rfl, q _ (I.hok.fresh (Nat.le_refl _))⟩
/-- sum(d.values()), whole numbers -/
def rSumVals : List V → Hp → VK → Prop := fun xs H Q => ∃ (p a : Addr) (kvs : List (Key × V)) (ns : List Int), xs = [.ref p] ∧ H p = some (valsO p a) ∧ H a = some (.dK kvs) ∧ kvs.map (·.2) = ns.map V.int ∧ Q (.int ns.sum) H
theorem preSum_eq : ∀ ns : List Int, preSum (fun i => ns.getD i 0) ns.length = ns.sum
  | [] => rfl
  | n :: ns => by
    rw [List.length_cons, PySem.W.kdu_shift]
    have ih := preSum_eq ns
    show n + preSum (fun i => ns.getD i 0) ns.length = _
    rw [ih, List.sum_cons]
theorem vals_num {ns : List Int} : ∀ {us : List Value}, Vals (ns.map V.int) us → ∀ (j : Nat) (u : Value), us[j]? = some u → ∃ t, u = .int (ns.getD j 0) t := by
  induction ns with
  | nil => intro us r j u h; cases r; cases h
  | cons n ns ih =>
    intro us r j u h
    cases r with
    | cons a b =>
      cases j with
      | zero =>
        cases h
        exact a
      | succ j => exact ih b j u h
theorem call_sumVals (hc : X.calm = true) : CallR X (.builtin "sum") rSumVals := by
  intro pins s σ H xs us Q I r h
  obtain ⟨p, a, kvs, ns, rfl, hp, ha, hn, q⟩ := h
  obtain rfl := Vals.ref1 r
  have view : s.heap.IsValuesView p a := (show ObjOk X.prog X.w H s.heap p (valsO p a) from I.hok p _ hp).1
  obtain ⟨_, da, va, ka, oa⟩ := dk_of I.hok ha
  obtain ⟨ep, hat⟩ := oa.dictAt
  have src := PySem.W.kdl_values (prog := X.prog) (w := X.w) (knd := mixKind X.prog X.w) (kvs := va) (ep := ep) (r := p) (d := a)
  have ok : s.heap.IsValuesView p a ∧ s.heap.DictAt (mixKind X.prog X.w) a va ep := ⟨view, hat⟩
  have nums := kv_vals ka
  rw [hn] at nums
  have ln : va.length = ns.length := by
    have := nums.length
    rw [List.length_map, List.length_map] at this
    exact this.symm
  refine call_sum_walkAnyS ?_
  obtain ⟨ob, St, step, W, st⟩ := src.iter X.A.in1 s (I.ok.hd hc) ok
  refine step _ _ ⟨s.heap.objs.size, _, _, _, va.length, _, _, fun i => ns.getD i 0, rfl, W.toS, st, fun b hb => ?_, fun i v hv => ?_, fun s' t' hm => ?_⟩
  · have there := src.there _ ok
    have up : s.heap.objs.size < (s.heap.push ob).objs.size := by rw [size_push']; omega
    rcases List.mem_cons.mp hb with e | e
    · rw [e]; exact up
    · rw [List.mem_singleton.mp e]
      exact Nat.lt_trans there.2 up
  · obtain ⟨k, hk⟩ := hv
    exact vals_num nums i v (by rw [List.getElem?_map, hk]; rfl)
  · have kept : ∀ b o, s.heap.get? b = some o → s'.heap.get? b = some o := fun b o e => by
      refine hm.heap b o (fun z => ?_) (Heap.get?_push_of_some _ e)
      have := Heap.lt_size e
      rw [List.mem_singleton.mp z] at this
      exact Nat.lt_irrefl _ this
    rw [Moved.eq_with hm, ln, preSum_eq]
    exact ⟨.int ns.sum, H, I.kept kept, ⟨_, rfl⟩, q⟩
/-- list(d.items()): new pairs -/
def rListItems : List V → Hp → VK → Prop := fun xs H Q => ∃ (p a : Addr) (kvs : List (Key × V)), xs = [.ref p] ∧ H p = some (itemsO p a) ∧ H a = some (.dK kvs) ∧
  ∀ (l : Addr) (ts : List Addr) (H' : Hp), H l = none → Same H H' → H' l = some (.lst (ts.map V.ref)) → Paired (fun (t : Addr) (kv : Key × V) => H' t = some (.tup [kV kv.1, kv.2]) ∧ H t = none) ts kvs → Q (.ref l) H'
theorem key_rel {P : Program} {w : World} {k : Key} {u : Value} (h : (mixKind P w).is k u = true) : RelV (kV k) u := by
  rcases keyIs_shape (show keyIs k u = true from h) with ⟨i, t, rfl, rfl⟩ | ⟨x, t, rfl, rfl⟩
  · exact ⟨t, rfl⟩
  · exact ⟨t, rfl⟩
theorem kv_at : ∀ {ks : List (Key × V)} {vs : List (Key × Value)}, KV ks vs → ∀ {j : Nat} {k : Key} {x : Value}, vs[j]? = some (k, x) → ∃ v, ks[j]? = some (k, v) ∧ RelV v x
  | _, _, .cons (a := a) h t, 0, k, x, e => by
    cases e
    obtain ⟨h1, h2⟩ := h
    have h1' : a.1 = k := h1
    exact ⟨a.2, by rw [← h1']; rfl, h2⟩
  | _, _, .cons h t, j + 1, k, x, e => kv_at t e
theorem pair_rows {R : Addr → Key × V → Prop} : ∀ {ts : List Addr} {kvs : List (Key × V)}, ts.length = kvs.length → (∀ (j : Nat) (t : Addr) (kv : Key × V), ts[j]? = some t → kvs[j]? = some kv → R t kv) → Paired R ts kvs
  | [], [], _, _ => .nil
  | t :: ts, kv :: kvs, hl, h => .cons (h 0 t kv rfl rfl) (pair_rows (Nat.succ.inj hl) fun j a b h1 h2 => h (j + 1) a b h1 h2)
theorem call_listItems (hc : X.calm = true) : CallR X (.type "list") rListItems := by
  intro pins s σ H xs us Q I r h
  obtain ⟨p, a, kvs, rfl, hp, ha, q⟩ := h
  obtain rfl := Vals.ref1 r
  have view : s.heap.IsItemsView p a := (show ObjOk X.prog X.w H s.heap p (itemsO p a) from I.hok p _ hp).1
  obtain ⟨hz, da, va, ka, oa⟩ := dk_of I.hok ha
  obtain ⟨ep, hat⟩ := oa.dictAt
  have lv : kvs.length = va.length := ka.length
  refine PySem.W.kdx_call (I.ok.hd hc) view hat (by rw [← lv]; exact hz) fun h' tk acc c ts kept hS hl hG hacc => ?_
  have nd : ts.Nodup := List.Pairwise.imp (fun h => Nat.ne_of_lt h) hG.rise
  have fr : H s.heap.objs.size = none := I.hok.fresh (Nat.le_refl _)
  have lz : (ts.map V.ref).length ≤ sizeLine := by rw [List.length_map, hl, ← lv]; exact hz
  have I1 : Inv X pins σ (upd H s.heap.objs.size (.lst (ts.map V.ref))) { s with heap := h', toks := tk } :=
    I.laid (t' := tk) kept (Nat.le_refl _) ⟨lz, acc.toList, c, by rw [hacc]; exact vals_refs ts, by rw [Array.toArray_toList]; exact hS⟩
  have made : ∀ (j : Nat) (t : Addr), ts[j]? = some t → ∃ (k : Key) (v : V), kvs[j]? = some (k, v) ∧ ∀ H2, ObjOk X.prog X.w H2 h' t (.tup [kV k, v]) := fun j t ht => by
    obtain ⟨key, k, x, e1, e2, e3⟩ := hG.pairs j t ht
    obtain ⟨v, e4, rv⟩ := kv_at ka e1
    exact ⟨k, v, e4, fun H2 => ⟨(by rw [sizeLine_eq]; show 2 ≤ 16777216; omega), [key, x], .cons (key_rel e2) (.cons rv .nil), ⟨_, e3, rfl, 0, rfl⟩⟩⟩
  obtain ⟨H2, I3, g, qt⟩ := takeT (P := fun t vs => ∃ (j : Nat) (k : Key) (v : V), ts[j]? = some t ∧ kvs[j]? = some (k, v) ∧ vs = [kV k, v]) I ts _ I1 nd fun t ht => by
    obtain ⟨j, hj⟩ := List.mem_iff_getElem?.mp ht
    obtain ⟨k, v, e1, e2⟩ := made j t hj
    have above := hG.above t ht
    exact ⟨Nat.le_of_lt above, by rw [upd_ne (Nat.ne_of_gt above)]; exact I.hok.fresh (Nat.le_of_lt above), [kV k, v], ⟨j, k, v, hj, e1, rfl⟩, e2⟩
  refine ⟨.ref s.heap.objs.size, H2, I3, rfl, q _ ts H2 fr (fun b o e => g b o (by rw [upd_ne (ne_of_none e fr)]; exact e)) (g _ _ upd_same) (pair_rows (by rw [hl, lv]) fun j t kv h1 h2 => ?_)⟩
  obtain ⟨vs, ⟨i, k, v, e1, e2, rfl⟩, e3⟩ := qt t (List.mem_of_getElem? h1)
  have ij : i = j := (List.getElem?_inj (List.getElem?_eq_some_iff.mp e1).1 nd).mp (e1.trans h1.symm)
  rw [ij, h2] at e2
  cases e2
  exact ⟨e3, I.hok.fresh (Nat.le_of_lt (hG.above t (List.mem_of_getElem? h1)))⟩
end
end Ns

/-! NsI: set(xs) of whole numbers, xs a list. -/
namespace Ns
open PySem PySem.Spec PyProof.Rows L2
/-- a set as it is made -/
abbrev setN (w : World) : Obj := { cls := .type "set", dict := none, data := .set #[] 0 (.fresh 0 0 (!w.params.followText "set-order")) }
section
variable {P : Program} {w : World} {A : Around} {E : Value → Shared → Prop} {s : Shared}
set_option maxHeartbeats 3200000 in
theorem set_ofI {l : Addr} {items : Array Value} (ns : List Int) {Q : Value → Shared → Prop} (hh : A.handled = none) (hl : s.heap.IsList l items) (rel : IntsAre items.toList ns) (room : ns.length + 1 < scanBound)
    (q : ∀ (h' : Heap) (tk c : Nat), (∀ b o, s.heap.get? b = some o → h'.get? b = some o) → SetR w h' s.heap.objs.size (fun j => decide (j ∈ ns)) c → c ≤ ns.length → Q (.ref s.heap.objs.size) { s with heap := h', toks := tk }) :
    wpAny (model P w) A (call (.type "set") [.ref l]) Q E s := by
  have sz : items.size = ns.length := by
    have e := IntsAre.length rel
    rw [Array.length_toList] at e
    exact e
  obtain ⟨c, tl, hmro⟩ := F.called_set.mro
  have f1 := F.called_set.made
  have f2 := F.called_set.sub
  have f3 := F.called_set.notType
  have f4 := F.called_set.canCreate
  have f5 := F.typeCall_set_1 (.ref l)
  refine wpAny_call (codeAny_of_tree ?_)
  show wpAny _ _ (callAny (.type "set") _) _ _ _
  refine wpAny_pure ⟨Code.quiet_builtin _ (by decide +kernel), codeAny_builtin F.entry_type_call ?_⟩
  rw [Around.under_plain (weight_type_call_type "set" [.ref l] []) rfl]
  repeat (any_goals (first | assumption | wp_step))
  refine codeAny_mono (code_set_led1 (.ref l) (E := E) (Q₁ := fun obj s₁ => obj = .ref s.heap.objs.size ∧ s₁ = { s with heap := s.heap.push (setN w) }) ⟨rfl, rfl⟩) fun r s₁ hr => ?_
  rcases r with e | fl
  · exact hr
  cases fl with
  | ret obj =>
    obtain ⟨rfl, rfl⟩ := hr
    have at0 : (s.heap.push (setN w)).get? s.heap.objs.size = some (setN w) := Heap.get?_push_size _ rfl
    have ty0 : Shared.TypeIs { s with heap := s.heap.push (setN w) } (.ref s.heap.objs.size) "set" := ⟨_, at0, rfl⟩
    have f6 := F.called_set.init.lookup
    have f7 := F.called_set.init.bind (.ref s.heap.objs.size)
    repeat (any_goals (first | assumption | wp_step))
    refine codeAny_mono (codeAny_call_builtin (R := wants (fun r s₂ => r = .none ∧ ∃ h' tk c, s₂ = { s with heap := h', toks := tk } ∧ (∀ c o, s.heap.get? c = some o → h'.get? c = some o) ∧ SetR w h' s.heap.objs.size (fun j => decide (j ∈ ns)) c ∧ c ≤ ns.length) E)
      F.called_set.init.plain F.entry_set_init (check_set_init_1 ty0 ?_)) fun r₂ s₂ hr₂ => ?_
    · obtain ⟨⟨ocls, odict, odata, oslots⟩, hol, hcl, nl, hdl⟩ := hl
      simp only at hcl hdl
      subst hcl; subst hdl
      have lS : l < s.heap.objs.size := Heap.lt_size hol
      have hol' : (s.heap.push (setN w)).get? l = some { cls := .type "list", dict := odict, data := .seq items nl, slots := oslots } := Heap.get?_push_of_some _ hol
      have g1 := F.sub_list_set
      have g2 := F.sub_list_frozenset
      have g3 : (Value.type "list" == Value.type "dict") = false := by decide
      have isl : (s.heap.push (setN w)).IsList l items := ⟨_, hol', rfl, nl, rfl⟩
      unfold Builtin.«set.__init__» noKeywords Builtin.Frozenset.updateFrom
      generalize keep : pyIter = PI
      wp_walk
      subst keep
      refine wpAny_pyIter_list isl (wpAny_bind (wpAny_runValue ?_))
      have up : (s.heap.push (setN w)).objs.size = s.heap.objs.size + 1 := size_push' _ _
      have nI : l ≠ (s.heap.push (setN w)).objs.size := by rw [up]; exact Nat.ne_of_lt (Nat.lt_succ_of_lt lS)
      have nS : s.heap.objs.size ∉ [(s.heap.push (setN w)).objs.size, l] := fun z => by
        rw [up] at z
        rcases List.mem_cons.mp z with e | e
        · exact Nat.ne_of_lt (Nat.lt_succ_self _) e
        · exact Nat.ne_of_gt lS (List.mem_singleton.mp e)
      have hval : ∀ (i : Nat) (v : Value), items[i]? = some v → ∃ k t, ns[i]? = some k ∧ v = .int k t := fun i v hv => by
        have hi : i < ns.length := by rw [← sz]; exact (Array.getElem?_eq_some_iff.mp hv).1
        obtain ⟨t, e⟩ := IntsAre.int_at rel i v (by rw [Array.getElem?_toList]; exact hv)
        refine ⟨ns[i], t, List.getElem?_eq_getElem hi, ?_⟩
        rw [e, List.getD_eq_getElem?_getD, List.getElem?_eq_getElem hi]
        all_goals rfl
      refine set_update_ints ((Walks.list (by simp [hh]) _ l nI items).toS) s.heap.objs.size nS ns sz room hval items.size 0 _ (Nat.sub_zero _) (Nat.zero_le _) ⟨⟨_, Heap.get?_push_size _ rfl, rfl, rfl⟩, isl.push _⟩
        ⟨0, Nat.le_refl 0, setR_new_at (Heap.get?_push_of_some _ at0)⟩ fun s' c' hm hc hS => ?_
      obtain ⟨h', g', d', tk', os'⟩ := s'
      have e1 : g' = s.gens := hm.gens
      have e2 : d' = s.drawn := hm.drawn
      have e3 : os' = s.os := hm.os
      subst e1
      subst e2
      subst e3
      refine wpAny_pure (wpAny_pure ⟨rfl, h', tk', c', rfl, fun b o e => ?_, hS, by rw [← sz]; exact hc⟩)
      have cl : b < s.heap.objs.size := Heap.lt_size e
      refine hm.heap b o (fun z => ?_) (Heap.get?_push_of_some _ (Heap.get?_push_of_some _ e))
      rcases List.mem_cons.mp z with e | e
      · exact Nat.ne_of_lt cl e
      · rw [List.mem_singleton, up] at e
        exact Nat.ne_of_lt (Nat.lt_succ_of_lt cl) e
    · rcases r₂ with e | fl₂
      · exact hr₂
      cases fl₂ with
      | ret r =>
        obtain ⟨rfl, h', tk, c', rfl, kp, X, m⟩ := hr₂
        repeat (any_goals (first | assumption | wp_step))
        exact q h' tk c' kp X m
      | _ => exact hr₂.elim
  | _ => exact hr.elim
end
section
variable {X : Cx}
/-- set(xs): whole numbers -/
def rSetI (K : PySem.W.Frag) (w : World) : List V → Hp → VK → Prop := fun xs H Q => ∃ (a : Addr) (ns : List Int), xs = [.ref a] ∧ SqL K H a (ns.map V.int) ∧ ns.length ≤ 1000 ∧ ∀ (p : Addr) (c : Nat), c ≤ ns.length → H p = none → Q (.ref p) (upd H p (SetO w p (fun j => decide (j ∈ ns)) c))
theorem vals_ints {ns : List Int} : ∀ {us : List Value}, Vals (ns.map V.int) us → IntsAre us ns := by
  induction ns with
  | nil => intro us r; cases r; exact .nil
  | cons n ns ih => intro us r; cases r with
    | cons h t =>
      obtain ⟨tk, rfl⟩ := h
      exact .cons n tk (ih t)
theorem call_setI (hc : X.calm = true) : CallR X (.type "set") (rSetI X.K X.w) := by
  intro pins s σ H xs us Q I r h
  obtain ⟨a, ns, rfl, hs, hz, q⟩ := h
  obtain ⟨its, rv, hl, _⟩ := I.list hs
  rw [Vals.ref1 r]
  refine set_ofI ns (I.ok.hd hc) hl.isList (by simpa using vals_ints rv) (Nat.lt_of_le_of_lt (show ns.length + 1 ≤ 1001 by omega) (by decide)) fun h' tk c kp R hcl => ?_
  exact ⟨.ref s.heap.objs.size, upd H s.heap.objs.size (SetO X.w s.heap.objs.size (fun j => decide (j ∈ ns)) c), I.laid (t' := tk) kp (Nat.le_refl _) (setO_new R), rfl, q _ c hcl (I.hok.fresh (Nat.le_refl _))⟩
end
end Ns

/-! NsJ: sorted(t) of a tuple of ints. -/
namespace Ns
open PySem PySem.Spec PyProof.Rows L2
section
variable {prog : Program} {w : World} {A : Around} {E : Value → Shared → Prop} {s : Shared}
/-- the heap behind the gathering of a tuple's items -/
abbrev gath (h : Heap) (vs : List Value) : Heap := (h.push (seqObj "list" #[] 0)).update h.objs.size (Obj.mapSeq (· ++ vs.toArray))
theorem gather_tup {l : Addr} {vs : List Value} {Q : List Value → Shared → Prop} (hl : IsTup s.heap l vs.toArray) (hz : vs.length ≤ sizeLine) (h : Q vs { s with heap := gath s.heap vs }) : wpAny (model prog w) A (collect (.ref l)) Q E s := by
  obtain ⟨o, e, cl, n, d⟩ := hl
  have e1 : (s.heap.push (seqObj "list" #[] 0)).get? l = some o := Heap.get?_push_of_some _ e
  have e2 : (s.heap.push (seqObj "list" #[] 0)).get? s.heap.objs.size = some (seqObj "list" #[] 0) := Heap.get?_push_size _ rfl
  have t0 : (Value.type "tuple" == Value.type "tuple") = true := rfl
  unfold collect
  refine wpAny_bind (wpAny_runValue (codeAny_builtin entry_proto_collect' ?_)); show wpAny _ _ (do again (.builtin "list.__iadd__" ⟨[← newList [], .ref l], []⟩)) _ _ s
  refine wpAny_bind (wpAny_newList (wpAny_pure ⟨Code.quiet_builtin _ (by decide +kernel), codeAny_builtin entry_list_iadd' ?_⟩)); show wpAny _ _ (Builtin.List.listExtendWith (.ref s.heap.objs.size) (.ref l) (.ref s.heap.objs.size)) _ _ { s with heap := s.heap.push (seqObj "list" #[] 0) }
  unfold Builtin.List.listExtendWith
  refine wpAny_bind (wpAny_typeOf (T := "tuple") ⟨o, e1, cl⟩ ?_)
  rw [if_pos (by rw [t0, Bool.or_true])]
  refine wpAny_bind (listItems_at e1 d (wpAny_bind (listItems_at (xs := #[]) (n := 0) e2 rfl ?_)))
  rw [if_neg (by simp)]
  refine wpAny_bind (listUpdate_at (xs := #[]) (n := 0) e2 rfl (wpAny_pure ?_) (Nat.zero_le _) (by rw [Array.empty_append, List.size_toArray]; omega))
  show wpAny (model prog w) A (do let q ← load s.heap.objs.size; match q.data with | .seq xs _ => pure xs.toList | _ => unsupported "internal:collect") Q E { s with heap := gath s.heap vs }
  refine wpAny_bind (wpAny_load (get?_update_seq e2 _) ?_)
  show wpAny _ _ (pure ((#[] : Array Value) ++ vs.toArray).toList) Q E _
  have ev : ((#[] : Array Value) ++ vs.toArray).toList = vs := by simp
  rw [ev]
  exact wpAny_pure h
theorem sorted_tupI {l : Addr} {vs : List Value} {ns : List Int} {Q : Value → Shared → Prop} (hl : IsTup s.heap l vs.toArray) (hi : IntsAre vs ns) (hz : vs.length ≤ sizeLine)
    (h : ∀ out : List Value, SrtO.Srtd SrtO.ltIv out → SrtO.Stb SrtO.ltIv out vs → Q (.ref (s.heap.objs.size + 1)) { s with heap := PyProof.Rows.sortedAll s.heap vs out.toArray }) : wpAny (model prog w) A (call (.builtin "sorted") [.ref l]) Q E s := by
  have sz : (gath s.heap vs).objs.size = s.heap.objs.size + 1 := by rw [Heap.size_update, size_push']
  have at1 : ((gath s.heap vs).push (seqObj "list" vs.toArray 0)).get? (s.heap.objs.size + 1) = some (seqObj "list" vs.toArray 0) := by rw [← sz]; exact Heap.get?_push_size _ rfl
  refine Calls.call_function_entry kind_sorted plain_sorted entry_sorted (args_sorted1 _) ?_; unfold Builtin.«sorted»
  refine wpAny_bind (m := checkCount "sorted" 1 1 _) (wpAny_pure (wpAny_bind (gather_tup hl hz (wpAny_bind (wpAny_newList ?_ hz)))))
  show wpAny _ _ _ _ _ { s with heap := (gath s.heap vs).push (seqObj "list" vs.toArray 0) }
  rw [sz]
  have srt := @SrtO.list_sort_ord prog w
  refine wpAny_bind (wpAny_holding (wpAny_call_entry slot_list_sort ⟨_, at1, rfl⟩ entry_list_sort (srt (s := { s with heap := (gath s.heap vs).push (seqObj "list" vs.toArray 0) }) SrtO.swo_int at1 hz (fun two => SrtO.ints_sortable hi two) fun o a b => ⟨_, rfl, ?_⟩) (args_list_sort _)))
  exact wpAny_pure ⟨_, rfl, h o a b⟩
end
/-- sorted(t), a tuple of ints -/
def rSortedTI (K : PySem.W.Frag) : List V → Hp → VK → Prop := fun vs H Q => ∃ (a : Addr) (ns : List Int), vs = [.ref a] ∧ SqT K H a (ns.map V.int) ∧ ∀ (ms : List Int) (p : Addr), ms.Perm ns → ms.Pairwise (· ≤ ·) → H p = none → Q (.ref p) (upd H p (.lst (ms.map V.int)))
theorem cr_sortedTI {X : Cx} : CallR X (.builtin "sorted") (rSortedTI X.K) := by
  intro pins s σ H vs us Q I r h
  obtain ⟨a, ns, rfl, hs, q⟩ := h
  obtain ⟨its, rv, hl, hz⟩ := I.tuple hs
  have hi := rv.ints
  rw [Vals.ref1 r]
  refine sorted_tupI hl hi (by rw [← rv.length]; exact hz) fun out h1 h2 => ?_
  obtain ⟨k1, k2, k3⟩ := SrtO.ints_out hi h1 h2
  obtain ⟨ep, he⟩ := PyProof.Rows.sortedAll_at s.heap its out.toArray
  have len : ((out.map SrtO.iv).map V.int).length ≤ sizeLine := by
    rw [List.length_map, k2.length_eq, ← List.length_map (f := V.int)]
    exact hz
  refine ⟨.ref _, upd H (s.heap.objs.size + 1) (.lst ((out.map SrtO.iv).map V.int)), I.laid (t' := s.toks) (fun _ _ => PyProof.Rows.sortedAll_old) (Nat.le_succ _) ⟨len, out, ep, vals_of_ints k1, he⟩, rfl, ?_⟩
  exact q _ _ k2 k3 (I.hok.fresh (Nat.le_succ _))
end Ns

/-! NsK: enumerate(t), a tuple. -/
namespace Ns
open PySem PySem.Spec PyProof.Rows L2
set_option maxHeartbeats 4000000 in
theorem meets_enum1 {v : Value} {o : Obj} {H : Heap → Prop} (B : Begins v o H) :
    Meets (Builtin.«enumerate.__new__» ⟨[.type "enumerate", v], []⟩) (fun _ R s => H s.heap ∧
      R (.ok (.ret (.ref (s.heap.push o).objs.size))) { s with heap := (s.heap.push o).push { cls := .type "enumerate", data := .fields #[.none, .bool false, .ref s.heap.objs.size, rawInt 0, .none, .none] } }) :=
  .of_wp fun prog w A R s h => by
    obtain ⟨hp, g, d, tk, os⟩ := s; obtain ⟨h1, h⟩ := h
    have hsub := sub_enumerate
    have q1 : ∀ {A' : Around} {E : Value → Shared → Prop} {Q : Value → Shared → Prop}, Q (.ref hp.objs.size) ⟨hp.push o, g, d, tk, os⟩ → wpAny (model prog w) A' (pyIter v) Q E ⟨hp, g, d, tk, os⟩ :=
      fun q => B.iter prog w _ _ ⟨hp, g, d, tk, os⟩ _ h1 q
    wp_walk using q1
    refine wpAny_stack_any fun st => wpAny_pure ?_
    split
    · rename_i c _ _ _ _ _
      cases (c == Value.type "enumerate")
      · wp_walk using q1
        exact ⟨_, rfl, h⟩
      · wp_walk using q1
        exact ⟨_, rfl, h⟩
    · wp_walk using q1
      exact ⟨_, rfl, h⟩
section
variable {prog : Program} {w : World} {A : Around} {E : Value → Shared → Prop} {s : Shared}
theorem call_enum1 {v : Value} {o : Obj} {H : Heap → Prop} {Q : Value → Shared → Prop} (B : Begins v o H) (h1 : H s.heap)
    (h : ∀ h', IsEnum h' (s.heap.objs.size + 1) s.heap.objs.size 0 .none → h'.get? s.heap.objs.size = some o → h'.objs.size = s.heap.objs.size + 2 →
      (∀ b o, s.heap.get? b = some o → h'.get? b = some o) → Q (.ref (s.heap.objs.size + 1)) { s with heap := h' }) :
    wpAny (model prog w) A (call (.type "enumerate") [v]) Q E s := by
  refine callType_new F.called_enumerate (by decide) (F.typeCall_enumerate_1 _) (F.newCall_enumerate_1 _) (fun obj => F.args_object_init_2 obj _) F.entry_enumerate_new
    (meets_enum1 B) ⟨h1, ?_⟩
  have hz : (s.heap.push o).objs.size = s.heap.objs.size + 1 := Heap.size_push ..
  show _ ∧ _
  rw [hz]
  have he : IsEnum ((s.heap.push o).push { cls := .type "enumerate", data := .fields #[.none, .bool false, .ref s.heap.objs.size, rawInt 0, .none, .none] }) (s.heap.objs.size + 1) s.heap.objs.size 0 .none := by
    have := Heap.get?_push_size (s.heap.push o) (o := { cls := .type "enumerate", data := .fields #[.none, .bool false, .ref s.heap.objs.size, rawInt 0, .none, .none] }) rfl
    rw [hz] at this; exact this
  refine ⟨⟨_, he, rfl⟩, h _ he (Heap.get?_push_of_some _ (Heap.get?_push_size _ B.free)) (by rw [Heap.size_push, hz]) fun b o x => Heap.get?_push_of_some _ (Heap.get?_push_of_some _ x)⟩
end
/-- the tuple at a, each item in a new pair -/
def IteT (K : PySem.W.Frag) (a : Addr) : It :=
  ⟨fun i H => ∃ (xs : List V) (x : V), SqT K H a xs ∧ xs[i]? = some x, fun i H v H' => ∃ T x, v = .ref T ∧ H T = none ∧ H' = upd H T (.tup [.int (i : Nat), x]) ∧ ∀ xs, SqT K H a xs → xs[i]? = some x, fun i H => ∃ xs : List V, SqT K H a xs ∧ xs.length ≤ i⟩
theorem turn_enumT {P : Program} {w : World} {K : PySem.W.Frag} {elts : List Expr} {kk : Nat} {tpos : Pos} (a e it : Addr) :
    Turn P w K (.Tuple elts kk tpos) (IteT K a) [e, it] e (fun i h => (∃ old, IsEnum h e it ((i : Nat) : Int) old) ∧ h.IsTupleIter it a i ∧ e ≠ it) where
  mem := by simp
  obj := fun i h st b hb => by
    obtain ⟨⟨old, he⟩, ⟨o, ho, hc, hd⟩, _⟩ := st
    have e' : b = e ∨ b = it := by simpa using hb
    rcases e' with z | z
    · rw [z]; exact ⟨_, he, fun v q => nomatch q⟩
    · rw [z]; exact ⟨o, ho, fun v q => by rw [hd] at q; cases q⟩
  keep := fun i h h' st k => let ⟨⟨old, he⟩, hi, hne⟩ := st; ⟨⟨old, k e (by simp) _ he⟩, hi.at fun o q => k it (by simp) o q, hne⟩
  item := by
    intro X hP hw hK hc i pins s σ H E I hf st hg
    subst hP hw hK
    obtain ⟨⟨old, he⟩, hit, hne⟩ := st
    obtain ⟨xs, x, hq, hx⟩ := hg
    obtain ⟨its, rv, p, hz⟩ := I.tuple hq
    obtain ⟨u, hu, ru⟩ := rv.get hx
    have p' : s.heap.IsTuple a its.toArray := p
    have hel : e < s.heap.objs.size := Heap.lt_size he
    have hil : it < s.heap.objs.size := by obtain ⟨_, q, _⟩ := hit; exact Heap.lt_size q
    have nai : a ≠ it := fun z => by
      obtain ⟨o, e1, c1, _⟩ := p'
      obtain ⟨o2, e2, c2, _⟩ := hit
      rw [z, e2] at e1
      cases e1
      rw [c1] at c2
      injection c2 with c3
      exact absurd c3 (by decide)
    have nea : e ≠ a := fun z => by
      obtain ⟨o, e1, c1, _⟩ := p'
      have e2 : s.heap.get? e = _ := he
      rw [z, e1] at e2
      have := congrArg (fun z => z.map Obj.cls) e2
      have c2 : o.cls = .type "enumerate" := Option.some.inj this
      rw [c1] at c2
      injection c2 with c3
      exact absurd c3 (by decide)
    have D := Draws.tuple (prog := X.prog) (w := X.w) (A := X.A.in1) (I.ok.hd hc) it a nai its.toArray
    have hi : i < its.toArray.size := by
      have := (List.getElem?_eq_some_iff.mp hu).1
      simpa using this
    refine wpAny_pyNext_enum_itemD D he ⟨hit, p'⟩ hi hne (by simp [hne, nea]) fun x' h' tk hP ho hit' hT hsz hk => ?_
    have ex : x' = u := by
      have hP : its.toArray[i]? = some x' := hP
      have h2 : its.toArray[i]? = some u := by simpa using hu
      rw [h2] at hP
      exact (Option.some.inj hP).symm
    subst ex
    refine ⟨_, rfl, wpAny_letOwnedTupleGo_enum (s := { s with heap := h', toks := tk + 1 }) ho fun h'' he' sb => ?_⟩
    have hT2 : h''.get? s.heap.objs.size = some { cls := .type "tuple", data := .seq #[.int i tk, x'] } := (sb.2 _ (Nat.ne_of_gt hel)).trans hT
    have new : ObjOk X.prog X.w (upd H s.heap.objs.size (.tup [.int (i : Nat), x])) h'' s.heap.objs.size (.tup [.int (i : Nat), x]) :=
      ⟨by show 2 ≤ sizeLine; decide, [.int i tk, x'], .cons ⟨_, rfl⟩ (.cons ru .nil), ⟨_, hT2, rfl, _, rfl⟩⟩
    have I1 : Inv X pins σ (upd H s.heap.objs.size (.tup [.int (i : Nat), x])) { s with heap := h'', toks := tk + 1 } :=
      I.turnedNew (ch := [e, it]) (fun b ob hb q => (sb.2 b (fun z => hb (by simp [z]))).trans (hk b ob (fun z => hb (by simp [z])) (fun z => hb (by simp [z])) q)) hf (Nat.le_refl _) new
    refine ⟨.ref s.heap.objs.size, _, I1, rfl, ⟨_, x, rfl, I.hok.fresh (Nat.le_refl _), rfl, fun ys hy => by rw [I.tuple_inj hy hq]; exact hx⟩, ⟨⟨x', ?_⟩, hit'.1.at fun o q => (sb.2 it (Ne.symm hne)).trans q, hne⟩, fun b hb => ?_⟩
    · have e1 : ((i + 1 : Nat) : Int) = (i : Int) + 1 := by omega
      rw [e1]; exact he'
    · have hb' : b < s.heap.objs.size := by
        have e' : b = e ∨ b = it := by simpa using hb
        rcases e' with z | z
        · rw [z]; exact hel
        · rw [z]; exact hil
      rw [upd_ne (Nat.ne_of_lt hb')]
      exact (hf b hb).1
  done := by
    intro X hP hw hK hc i pins s σ H E I hf st hg
    subst hP hw hK
    obtain ⟨⟨old, he⟩, hit, hne⟩ := st
    obtain ⟨xs, hq, hx⟩ := hg
    obtain ⟨its, rv, p, hz⟩ := I.tuple hq
    have p' : s.heap.IsTuple a its.toArray := p
    obtain ⟨f0, f1, f2, f3, f4, f5⟩ := hf it (by simp)
    have hl := rv.length
    have hT : s.TypeIs (.ref e) "enumerate" := ⟨_, he, rfl⟩
    unfold pyNext
    refine wpAny_bind (wpAny_attempt (wpAny_callSpecial?_slot (name := Str.ofString "__next__") hT F.slot_enumerate_next
      (wpAny_call_entry F.slot_enumerate_next hT F.entry_enumerate_next ?_ (F.args_enumerate_next_1 _))))
    show wpAny _ _ (field (.ref e) 2 >>= _) _ _ _
    refine wpAny_bind (wpAny_field he rfl (x := .ref it) rfl ?_)
    refine wpAny_bind (wpAny_nextOf_tuple_end (I.ok.hd hc) hit p' (by simp; omega) fun h' x he' hx' => ?_)
    obtain ⟨o, ho, hc'⟩ := hx'
    refine wpAny_bind (wpAny_isInstance (T := "StopIteration") (b := true) ⟨o, ho, hc'⟩ isSubtype_stop ?_)
    exact wpAny_pure ⟨rfl, I.turned (t' := s.toks) (fun b o hb q => he' b o hb q) f0 f1 f3 f4 f5⟩
  self := fun A i s Q E st h => let ⟨⟨_, he⟩, _⟩ := st; wpAny_pyIter_enum he h
def iEnumT (K : PySem.W.Frag) (ta : TA) : TI := fun σ H R => ta σ H fun vs H1 => ∃ a xs, vs = [.ref a] ∧ SqT K H1 a xs ∧ R (IteT K a) H1
theorem pi_enumT {X : Cx} {e : Expr} {ta : TA} {p pos tpos : Pos} {elts : List Expr} {kk : Nat} (hg : Gl X "enumerate") (hm : X.mg "enumerate" = none) (ha : PA X [e] ta) (hs : starEach [e] X.env = [(false, eval e X.env)] := by rfl) :
    PI X (.Tuple elts kk tpos) (.Call (.Name "enumerate" p) [e] [] pos) (iEnumT X.K ta) := by
  refine ⟨fun pins s σ H R I h => ?_⟩
  refine Call_ (ld_blt I hg hm boot_enumerate (PyProof.Rows.callWith_type1 (thn (ha.run pos pins s σ H _ I h) fun us s1 ⟨vs, H1, I1, r1, q1⟩ => ?_) hs rfl))
  obtain ⟨a, xs, ex, hq, q⟩ := q1
  subst ex
  cases r1 with
  | cons r rr =>
    cases rr
    cases r
    obtain ⟨its, rv, p', hz⟩ := I1.tuple hq
    have pT : s1.heap.IsTuple a its.toArray := p'
    refine call_enum1 (begins_tuple a its.toArray) pT fun h' he hit hsz hk => wpAny_pyIter_enum he ?_
    have I2 : Inv X pins σ H1 { s1 with heap := h' } := I1.kept (t' := s1.toks) hk
    refine ⟨s1.heap.objs.size + 1, [s1.heap.objs.size + 1, s1.heap.objs.size], _, _, H1, rfl, I2, turn_enumT a (s1.heap.objs.size + 1) s1.heap.objs.size, ⟨⟨.none, he⟩, ⟨_, hit, rfl, rfl⟩, Nat.succ_ne_self _⟩, fun b hb => ?_, q⟩
    have e' : b = s1.heap.objs.size + 1 ∨ b = s1.heap.objs.size := by simpa using hb
    have hle : s1.heap.objs.size ≤ b := by
      rcases e' with z | z
      · rw [z]; exact Nat.le_add_right _ _
      · rw [z]; exact Nat.le_refl _
    exact I1.fpOk hle (I1.hok.fresh hle)
theorem walk_enumT {K : PySem.W.Frag} {a : Addr} {xs : List V} : Walk (IteT K a) xs.length (fun H => SqT K H a xs) (YPair (fun i => some (.int (i : Nat))) (fun i => xs[i]?)) := by
  refine ⟨fun i _ hi q => ⟨xs, xs[i], q, by simp [hi]⟩, fun _ q => ⟨xs, q, Nat.le_refl _⟩, fun i H v H' _ q y => ?_⟩
  obtain ⟨T, x, h1, h2, h3, h4⟩ := y
  exact ⟨T, .int (i : Nat), x, h1, h2, h3, rfl, h4 xs q⟩
end Ns

/-! NsP: three plain local names stored at once. -/
namespace Ns
open PySem PySem.Spec PyProof.Rows L2
def tPar3 (i j k : Nat) (ta : TA) : TS := fun D σ H => ta σ H fun vs H1 => ∃ v w z, vs = [v, w, z] ∧ D.nx (((σ.set i (some v)).set j (some w)).set k (some z)) H1
theorem ps_par3 {X : Cx} {i j k : Nat} {x y z : Str} {a b c : Expr} {ta : TA} {px py pz pt pos : Pos} {kt k2 pt2} (hc : X.calm = true) (hN : X.N.Nodup) (hi : X.N[i]? = some x) (hj : X.N[j]? = some y) (hk : X.N[k]? = some z) (hij : i ≠ j) (hik : i ≠ k) (hjk : j ≠ k)
    (hx : X.env.scope.names.lookup x = some .local) (hy : X.env.scope.names.lookup y = some .local) (hz : X.env.scope.names.lookup z = some .local) (ha : PA X [a, b, c] ta)
    (hw : swappedStores [.Tuple [.Name x px, .Name y py, .Name z pz] kt pt] (.Tuple [a, b, c] k2 pt2) X.env = pure (some [x, y, z]))
    (hs : swapsWithSole [.Tuple [.Name x px, .Name y py, .Name z pz] kt pt] (.Tuple [a, b, c] k2 pt2) pos.line X.env = pure false := by rfl) :
    PS X (.Assign [.Tuple [.Name x px, .Name y py, .Name z pz] kt pt] (.Tuple [a, b, c] k2 pt2) pos) (tPar3 i j k ta) := by
  refine ⟨fun pins s σ H D I h => ?_⟩
  rw [exec_Assign_arm]
  refine wpAny_bind (wpAny_standAt ?_)
  rw [hs]
  refine wpAny_bind (wpAny_pure ?_)
  rw [if_neg (by decide)]
  refine wpAny_bind (Tuple_ (thn (ha.run _ pins s σ H _ I h) fun us s1 ⟨vs, H1, I1, r1, q1⟩ => ?_))
  obtain ⟨v1, v2, v3, e1, q1⟩ := q1
  subst e1
  obtain ⟨u1, u2, u3, rfl, t1, t2, t3⟩ : ∃ u1 u2 u3, us = [u1, u2, u3] ∧ RelV v1 u1 ∧ RelV v2 u2 ∧ RelV v3 u3 := by
    cases r1 with
    | cons p q => cases q with
      | cons p' q' => cases q' with
        | cons p'' q'' =>
          cases q''
          exact ⟨_, _, _, rfl, p, p', p''⟩
  refine wpAny_newObj_type ?_ (by show 3 ≤ sizeLine; decide)
  have I2 : Inv X pins σ H1 { s1 with heap := s1.heap.push { cls := .type "tuple", data := .seq [u1, u2, u3].toArray } } := I1.kept (t' := s1.toks) fun b o e => Heap.get?_push_of_some _ e
  rw [hw]
  refine wpAny_bind (wpAny_pure ?_)
  show wpAny (model X.prog X.w) X.A (do rule "assign.swapped-stores"; let items ← unpackItems (.ref s1.heap.objs.size) 3 none; assignInOrder [fun v => bindName X.env z v, fun v => bindName X.env y v, fun v => bindName X.env x v] items.reverse; pure Flow.next) _ _ _
  refine wpAny_bind (wpAny_rule (wpAny_bind (unpackItems_tuple (items := #[u1, u2, u3]) (I.ok.hd hc) (IsTup.new s1.heap _) fun h' hx' => ?_)))
  have I3 := I2.kept (h' := h') (t' := s1.toks) fun b o e => hx' b o (Nat.ne_of_lt (Heap.lt_size e)) e
  show wpAny _ _ (assignInOrder [fun v => bindName X.env z v, fun v => bindName X.env y v, fun v => bindName X.env x v] [u3, u2, u1] >>= fun _ => pure Flow.next) _ _ _
  refine wpAny_bind (assignInOrder_cons (wpAny_bindName (store_ok I3 hN hk (.inl hz) t3 (fun s2 I4 => ?_) (.inr hz))))
  refine assignInOrder_cons (wpAny_bindName (store_ok I4 hN hj (.inl hy) t2 (fun s3 I5 => ?_) (.inr hy)))
  refine assignInOrder_cons (wpAny_bindName (store_ok I5 hN hi (.inl hx) t1 (fun s4 I6 => assignInOrder_nil (wpAny_pure ?_)) (.inr hx)))
  have e : ((σ.set k (some v3)).set j (some v2)).set i (some v1) = ((σ.set i (some v1)).set j (some v2)).set k (some v3) := by
    rw [List.set_comm _ _ (Ne.symm hjk), List.set_comm _ _ (Ne.symm hik), List.set_comm _ _ (Ne.symm hij)]
  rw [e] at I6
  exact ⟨_, H1, I6, q1⟩
end Ns

/-! NsQ: zip of a tuple, a tuple and a list. -/
namespace Ns
open PySem PySem.Spec PyProof.Rows L2
def Itz3 (K : PySem.W.Frag) (a b c : Addr) : It :=
  ⟨fun i H => ∃ (xs ys zs : List V) (x y z : V), SqT K H a xs ∧ SqT K H b ys ∧ SqL K H c zs ∧ xs[i]? = some x ∧ ys[i]? = some y ∧ zs[i]? = some z,
    fun i H v H' => ∃ T x y z, v = .ref T ∧ H T = none ∧ H' = upd H T (.tup [x, y, z]) ∧ (∀ xs, SqT K H a xs → xs[i]? = some x) ∧ (∀ ys, SqT K H b ys → ys[i]? = some y) ∧ ∀ zs, SqL K H c zs → zs[i]? = some z,
    fun i H => ∃ xs ys zs : List V, SqT K H a xs ∧ SqT K H b ys ∧ SqL K H c zs ∧ xs.length = i ∧ ys.length = i ∧ i ≤ zs.length⟩
theorem turn_zip3 {P : Program} {w : World} {K : PySem.W.Frag} {elts : List Expr} {kk : Nat} {tpos : Pos} {a b c z TI TO i1 i2 i3 : Addr} (S : ZipSep3 z TI TO i1 i2 i3 [i1, a] [i2, b] [i3, c]) (na : a ≠ i1) (nb : b ≠ i2) (nc : c ≠ i3) :
    Turn P w K (.Tuple elts kk tpos) (Itz3 K a b c) [z, TI, TO, i1, i2, i3] z (fun i h => IsZip h z TI TO .none ∧ IsTupOf3 h TI (.ref i1) (.ref i2) (.ref i3) ∧ (∃ a1 a2 a3, IsTupOf3 h TO a1 a2 a3) ∧ h.IsTupleIter i1 a i ∧ h.IsTupleIter i2 b i ∧ h.IsListIter i3 c i) where
  mem := by simp
  obj := fun i h st d hd => by
    obtain ⟨hz, hTI, ⟨x, y, u, hTO⟩, ⟨o1, e1, _, d1⟩, ⟨o2, e2, _, d2⟩, ⟨o3, e3, _, d3⟩⟩ := st
    have e' : d = z ∨ d = TI ∨ d = TO ∨ d = i1 ∨ d = i2 ∨ d = i3 := by simpa using hd
    rcases e' with q | q | q | q | q | q
    · rw [q]; exact ⟨_, hz, fun v q => nomatch q⟩
    · rw [q]; exact ⟨_, hTI, fun v q => nomatch q⟩
    · rw [q]; exact ⟨_, hTO, fun v q => nomatch q⟩
    · rw [q]; exact ⟨o1, e1, fun v q => by rw [d1] at q; cases q⟩
    · rw [q]; exact ⟨o2, e2, fun v q => by rw [d2] at q; cases q⟩
    · rw [q]; exact ⟨o3, e3, fun v q => by rw [d3] at q; cases q⟩
  keep := fun i h h' st k => by
    obtain ⟨hz, hTI, ⟨x, y, u, hTO⟩, h1, h2, h3⟩ := st
    exact ⟨k z (by simp) _ hz, k TI (by simp) _ hTI, ⟨x, y, u, k TO (by simp) _ hTO⟩, h1.at fun o q => k i1 (by simp) o q, h2.at fun o q => k i2 (by simp) o q, h3.at fun o q => k i3 (by simp) o q⟩
  item := by
    intro X hP hw hK hc i pins s σ H E I hf st hg
    subst hP hw hK
    have low : ∀ d ∈ [z, TI, TO, i1, i2, i3], d < s.heap.objs.size := fun d hd => by
      obtain ⟨hz, hTI, ⟨x, y, u, hTO⟩, ⟨o1, e1, _⟩, ⟨o2, e2, _⟩, ⟨o3, e3, _⟩⟩ := st
      have e' : d = z ∨ d = TI ∨ d = TO ∨ d = i1 ∨ d = i2 ∨ d = i3 := by simpa using hd
      rcases e' with q | q | q | q | q | q
      · rw [q]; exact Heap.lt_size hz
      · rw [q]; exact Heap.lt_size hTI
      · rw [q]; exact Heap.lt_size hTO
      · rw [q]; exact Heap.lt_size e1
      · rw [q]; exact Heap.lt_size e2
      · rw [q]; exact Heap.lt_size e3
    obtain ⟨hz, hTI, hTO, h1, h2, h3⟩ := st
    obtain ⟨xs, ys, zs, x, y, u, hqx, hqy, hqz, hx, hy, hu⟩ := hg
    obtain ⟨its, rv, p, _⟩ := I.tuple hqx
    obtain ⟨its2, rv2, p2, _⟩ := I.tuple hqy
    obtain ⟨its3, rv3, p3, _⟩ := I.list hqz
    obtain ⟨v1, hv1, rx⟩ := rv.get hx
    obtain ⟨v2, hv2, ry⟩ := rv2.get hy
    obtain ⟨v3, hv3, ru⟩ := rv3.get hu
    have W := GoesN.zip3 (prog := X.prog) (w := X.w) (A := X.A) (elts := elts) (x1 := kk) (pos := tpos) S (Draws.tuple (prog := X.prog) (w := X.w) (A := X.A.in1) (I.ok.hd hc) i1 a na its.toArray) (Draws.tuple (prog := X.prog) (w := X.w) (A := X.A.in1) (I.ok.hd hc) i2 b nb its2.toArray) (Draws.list (prog := X.prog) (w := X.w) (A := X.A.in1) (I.ok.hd hc) i3 c nc its3.toArray)
    have b1 := (List.getElem?_eq_some_iff.mp hv1).1
    have b2 := (List.getElem?_eq_some_iff.mp hv2).1
    have b3 := (List.getElem?_eq_some_iff.mp hv3).1
    refine W.goes i s _ E (by simp; omega) ⟨hz, hTI, hTO, ⟨h1, p⟩, ⟨h2, p2⟩, ⟨h3, p3.isList⟩⟩ fun v h' tk hY st' hk htk => ?_
    obtain ⟨T, x', y', u', rfl, hT, P1, P2, P3, tup⟩ := hY
    have ex : x' = v1 := by
      have P1 : its.toArray[i]? = some x' := P1
      rw [show its.toArray[i]? = some v1 by simpa using hv1] at P1
      exact (Option.some.inj P1).symm
    have ey : y' = v2 := by
      have P2 : its2.toArray[i]? = some y' := P2
      rw [show its2.toArray[i]? = some v2 by simpa using hv2] at P2
      exact (Option.some.inj P2).symm
    have eu : u' = v3 := by
      have P3 : its3.toArray[i]? = some u' := P3
      rw [show its3.toArray[i]? = some v3 by simpa using hv3] at P3
      exact (Option.some.inj P3).symm
    subst ex ey eu
    have new : ObjOk X.prog X.w (upd H T (.tup [x, y, u])) h' T (.tup [x, y, u]) :=
      ⟨by show 3 ≤ sizeLine; decide, [x', y', u'], .cons rx (.cons ry (.cons ru .nil)), tup⟩
    have sub : ∀ d ∈ [z, TO, i1, i2, i3], d ∈ [z, TI, TO, i1, i2, i3] := fun d hd => by
      simp only [List.mem_cons, List.not_mem_nil, or_false] at hd ⊢
      rcases hd with q | q | q | q | q <;> simp [q]
    have I1 : Inv X pins σ (upd H T (.tup [x, y, u])) { s with heap := h', toks := tk } :=
      I.turnedNew (ch := [z, TO, i1, i2, i3]) hk (fun d hd => hf d (sub d hd)) hT new
    obtain ⟨z1, z2, z3, z4, z5, z6⟩ := st'
    refine ⟨.ref T, _, I1, rfl, ⟨T, x, y, u, rfl, I.hok.fresh hT, rfl, fun l hl => by rw [I.tuple_inj hl hqx]; exact hx, fun l hl => by rw [I.tuple_inj hl hqy]; exact hy, fun l hl => by rw [I.list_inj hl hqz]; exact hu⟩, ⟨z1, z2, z3, z4.1, z5.1, z6.1⟩, fun d hd => ?_⟩
    rw [upd_ne (Nat.ne_of_lt (Nat.lt_of_lt_of_le (low d hd) hT))]
    exact (hf d hd).1
  done := by
    intro X hP hw hK hc i pins s σ H E I hf st hg
    subst hP hw hK
    obtain ⟨hz, hTI, hTO, h1, h2, h3⟩ := st
    obtain ⟨xs, ys, zs, hqx, hqy, hqz, l1, l2, l3⟩ := hg
    obtain ⟨its, rv, p, _⟩ := I.tuple hqx
    obtain ⟨its2, rv2, p2, _⟩ := I.tuple hqy
    obtain ⟨its3, rv3, p3, _⟩ := I.list hqz
    have k1 := rv.length
    have k2 := rv2.length
    have k3 := rv3.length
    have W := GoesN.zip3 (prog := X.prog) (w := X.w) (A := X.A) (elts := elts) (x1 := kk) (pos := tpos) S (Draws.tuple (prog := X.prog) (w := X.w) (A := X.A.in1) (I.ok.hd hc) i1 a na its.toArray) (Draws.tuple (prog := X.prog) (w := X.w) (A := X.A.in1) (I.ok.hd hc) i2 b nb its2.toArray) (Draws.list (prog := X.prog) (w := X.w) (A := X.A.in1) (I.ok.hd hc) i3 c nc its3.toArray)
    have en : min (min its.toArray.size its2.toArray.size) its3.toArray.size = i := by simp; omega
    have sub : ∀ d ∈ [z, TO, i1, i2, i3], d ∈ [z, TI, TO, i1, i2, i3] := fun d hd => by
      simp only [List.mem_cons, List.not_mem_nil, or_false] at hd ⊢
      rcases hd with q | q | q | q | q <;> simp [q]
    refine W.stops s _ E (by rw [en]; exact ⟨hz, hTI, hTO, ⟨h1, p⟩, ⟨h2, p2⟩, ⟨h3, p3.isList⟩⟩) fun h' tk hk htk => ?_
    exact I.turnedL (t' := tk) (ch := [z, TO, i1, i2, i3]) hk (fun d hd => hf d (sub d hd))
  self := fun A i s Q E st h => wpAny_pyIter_zip st.1 h
def iZip3 (K : PySem.W.Frag) (ta : TA) : TI := fun σ H R => ta σ H fun vs H1 => ∃ a b c xs ys zs, vs = [.ref a, .ref b, .ref c] ∧ SqT K H1 a xs ∧ SqT K H1 b ys ∧ SqL K H1 c zs ∧ R (Itz3 K a b c) H1
theorem pi_zip3 {X : Cx} {e e2 e3 : Expr} {ta : TA} {p pos tpos : Pos} {elts : List Expr} {kk : Nat} (hg : Gl X "zip") (hm : X.mg "zip" = none) (ha : PA X [e, e2, e3] ta)
    (hs : starEach [e, e2, e3] X.env = (false, eval e X.env) :: starEach [e2, e3] X.env := by rfl) (hpl : (backTo pos (starEach [e2, e3] X.env)).any (·.1) = false := by rfl) :
    PI X (.Tuple elts kk tpos) (.Call (.Name "zip" p) [e, e2, e3] [] pos) (iZip3 X.K ta) := by
  refine ⟨fun pins s σ H R I h => ?_⟩
  refine Call_ (ld_blt I hg hm PyProof.Rows.boot_zip (PyProof.Rows.callWith_type1 (thn (ha.run pos pins s σ H _ I h) fun us s1 ⟨vs, H1, I1, r1, q1⟩ => ?_) hs hpl))
  obtain ⟨a, b, c, xs, ys, zs, ex, hqx, hqy, hqz, q⟩ := q1
  subst ex
  obtain ⟨rfl⟩ : us = [.ref a, .ref b, .ref c] := by
    cases r1 with
    | cons r rr => cases rr with
      | cons r' rr => cases rr with
        | cons r'' rr =>
          cases rr
          cases r
          cases r'
          cases r''
          rfl
  have fresh6 : ∀ d, d ∈ [s1.heap.objs.size + 5, s1.heap.objs.size + 3, s1.heap.objs.size + 4, s1.heap.objs.size, s1.heap.objs.size + 1, s1.heap.objs.size + 2] → FpOk X pins H1 d := fun d hd => by
    have e' : d = s1.heap.objs.size + 5 ∨ d = s1.heap.objs.size + 3 ∨ d = s1.heap.objs.size + 4 ∨ d = s1.heap.objs.size ∨ d = s1.heap.objs.size + 1 ∨ d = s1.heap.objs.size + 2 := by simpa using hd
    have hle : s1.heap.objs.size ≤ d := by
      rcases e' with z | z | z | z | z | z <;> rw [z]
      · exact Nat.le_add_right _ _
      · exact Nat.le_add_right _ _
      · exact Nat.le_add_right _ _
      · exact Nat.le_refl _
      · exact Nat.le_add_right _ _
      · exact Nat.le_add_right _ _
    exact I1.fpOk hle (I1.hok.fresh hle)
  obtain ⟨its, rv, p1, _⟩ := I1.tuple hqx
  obtain ⟨its2, rv2, p2, _⟩ := I1.tuple hqy
  obtain ⟨its3, rv3, p3, _⟩ := I1.list hqz
  obtain ⟨o1, ho1, _⟩ := id p1
  obtain ⟨o2, ho2, _⟩ := id p2
  have la := Heap.lt_size ho1
  have lb := Heap.lt_size ho2
  have lc := p3.lt
  refine zip_begins3 (begins_tuple a its.toArray) (begins_tuple b its2.toArray) (begins_list c its3.toArray) p1 p2 p3.isList fun h' hz hTI hTO e1 e2 e3 hsz hk => wpAny_pyIter_zip hz ?_
  have I2 : Inv X pins σ H1 { s1 with heap := h' } := I1.kept (t' := s1.toks) hk
  have S := zip_sep3 (N := s1.heap.objs.size) (fp1 := [a]) (fp2 := [b]) (fp3 := [c]) (fun d hd => by rw [List.mem_singleton.mp hd]; exact la) (fun d hd => by rw [List.mem_singleton.mp hd]; exact lb) (fun d hd => by rw [List.mem_singleton.mp hd]; exact lc)
  exact ⟨s1.heap.objs.size + 5, [s1.heap.objs.size + 5, s1.heap.objs.size + 3, s1.heap.objs.size + 4, s1.heap.objs.size, s1.heap.objs.size + 1, s1.heap.objs.size + 2], _, _, H1, rfl, I2, turn_zip3 S (Nat.ne_of_lt la) (Nat.ne_of_lt (Nat.lt_succ_of_lt lb)) (Nat.ne_of_lt (Nat.lt_succ_of_lt (Nat.lt_succ_of_lt lc))), ⟨hz, hTI, ⟨_, _, _, hTO⟩, ⟨_, e1, rfl, rfl⟩, ⟨_, e2, rfl, rfl⟩, ⟨_, e3, rfl, rfl⟩⟩, fresh6, q⟩
section
variable {K : PySem.W.Frag} {a b c : Addr} {xs ys zs : List V}
theorem walk_zip3 {n : Nat} (h1 : xs.length = n) (h2 : ys.length = n) (h3 : n ≤ zs.length) : Walk (Itz3 K a b c) n (fun H => SqT K H a xs ∧ SqT K H b ys ∧ SqL K H c zs) (fun i H v H' => ∃ T x y z, v = .ref T ∧ H T = none ∧ H' = upd H T (.tup [x, y, z]) ∧ xs[i]? = some x ∧ ys[i]? = some y ∧ zs[i]? = some z) := by
  subst h1
  refine ⟨fun i _ hi q => ⟨xs, ys, zs, xs[i], ys[i], zs[i]'(by omega), q.1, q.2.1, q.2.2, by simp [hi], by simp [h2, hi], List.getElem?_eq_getElem (by omega)⟩, fun _ q => ⟨xs, ys, zs, q.1, q.2.1, q.2.2, rfl, h2, h3⟩, fun i H v H' _ q y => ?_⟩
  obtain ⟨T, x, y, z, h1, h2, h3, h4, h5, h6⟩ := y
  exact ⟨T, x, y, z, h1, h2, h3, h4 xs q.1, h5 ys q.2.1, h6 zs q.2.2⟩
end
end Ns

/-! NsR: sum of the values of a dict of ints. -/
namespace Ns
open PySem PySem.Spec PyProof.Rows L2
def tSumVals (td : TE) : TE := fun σ H Q => td σ H fun x H1 => ∃ (a : Addr) (kvs : List (Key × V)) (is : List Int), x = V.ref a ∧ H1 a = some (.dK kvs) ∧ kvs.map (·.2) = is.map V.int ∧ Q (.int is.sum) H1
theorem preSum_is : ∀ (is : List Int) (n : Nat), n ≤ is.length → preSum (fun i => is.getD i 0) n = (is.take n).sum
  | is, 0, _ => by
    rw [List.take_zero]
    rfl
  | is, n + 1, h => by
    have ih := preSum_is is n (by omega)
    obtain ⟨x, hx⟩ : ∃ x, is[n]? = some x := ⟨_, List.getElem?_eq_getElem (by omega)⟩
    have e1 : is.getD n 0 = x := by rw [List.getD_eq_getElem?_getD, hx]; rfl
    rw [List.take_succ, hx, List.sum_append, ← ih]
    show preSum (fun i => is.getD i 0) n + is.getD n 0 = _
    rw [e1]
    simp
section
variable {X : Cx} {o : Expr} {p pos apos mpos : Pos} {td : TE}
theorem pe_sumVals (hc : X.calm = true) (hg : Gl X "sum") (hm : X.mg "sum" = none) (hd : PE X o td) (hbase : attributeBase o "values" X.env (eval o X.env) = eval o X.env := by rfl) (hline : (apos.endLine == mpos.line) = true := by rfl)
    (hse : starEach [Expr.Call (.Attribute o "values" apos) [] [] mpos] X.env = [(false, eval (Expr.Call (.Attribute o "values" apos) [] [] mpos) X.env)] := by rfl) :
    PE X (.Call (.Name "sum" p) [.Call (.Attribute o "values" apos) [] [] mpos] [] pos) (tSumVals td) := by
  refine ⟨fun pins s σ H Q I h => ?_⟩
  refine wpAny_Call_Name_kw (ld_blt I hg hm (u := .builtin "sum") (by first | rfl | decide +kernel) ?_ (by first | decide +kernel | decide) (by first | decide +kernel | decide))
  rw [hse]
  refine PySem.callWith_builtin1 (wpAny_Call_method0_late hbase hline (thn (hd.run pins s σ H _ I h) fun v s1 ⟨x, H1, I1, r1, a, kvs, is, ex, ha, hv, q⟩ => ?_))
  subst ex
  obtain rfl : v = Value.ref a := r1
  obtain ⟨_, hsys, vs, rel, dof⟩ := dk_of I1.hok ha
  obtain ⟨ep, dat⟩ := dof.dictAt
  obtain ⟨ob, es, ho, ex, _⟩ := id dat
  refine ⟨"dict", "dict.values", F.plainAttrs_dict, F.slot_dict_values, F.type_dict_values, ⟨ob, ho, ex.1⟩, fun b e => by cases e; exact ⟨ob, ho, ex.2.1⟩, Calls.callWith_builtin rfl (PySem.evalArgs_none ?_)⟩
  refine call_meetsIn F.slot_dict_values ⟨ob, ho, ex.1⟩ F.entry_dict_values (F.args_dict_values_1 _) (meets_dict_values (mixKind X.prog X.w) a hsys) ⟨⟨vs, dof⟩, ?_⟩
  have lt := Heap.lt_size ho
  have grow : ∀ b u, s1.heap.get? b = some u → (s1.heap.push { cls := .type "dict_values", data := .fields #[.ref a] }).get? b = some u := fun b u e => Heap.get?_push_of_some _ e
  have dat2 := dat.keep grow
  have sz : (s1.heap.push { cls := .type "dict_values", data := .fields #[.ref a] }).objs.size = s1.heap.objs.size + 1 := Heap.size_push _ _
  have same : vs.length = is.length := by
    have e1 := congrArg List.length hv
    rw [List.length_map, List.length_map] at e1
    exact (KV.length rel).symm.trans e1
  have look : ∀ (i : Nat) (v : Value), (∃ k, vs[i]? = some (k, v)) → ∃ t, v = Value.int (is.getD i 0) t := fun i v ⟨k, hk⟩ => by
    obtain ⟨x, h1, h2⟩ := KV.at' rel hk
    have e1 : (is.map V.int)[i]? = some x := by rw [← hv, List.getElem?_map, h1]; rfl
    rw [List.getElem?_map] at e1
    obtain ⟨j, hj, e2⟩ := Option.map_eq_some_iff.mp e1
    subst e2
    obtain ⟨t, e3⟩ := h2
    exact ⟨t, by rw [e3, List.getD_eq_getElem?_getD, hj]; rfl⟩
  refine call_sum_walkG (wpAny_pyIter_values (v := s1.heap.objs.size) (d := a) ⟨_, Heap.get?_push_size _ rfl, rfl, rfl⟩ dat2 ?_)
  refine ⟨_, _, _, _, _, _, fun i => is.getD i 0, rfl, Walks.dictValues (knd := mixKind X.prog X.w) (A := X.A.in1) (I.ok.hd hc) (s1.heap.push { cls := .type "dict_values", data := .fields #[.ref a] }).objs.size a (by rw [sz]; exact Nat.ne_of_lt (Nat.lt_succ_of_lt lt)) vs ep,
    ⟨⟨_, Heap.get?_push_size _ rfl, rfl, rfl⟩, dat2.keep fun b u e => Heap.get?_push_of_some _ e⟩, fun b hb => ?_, look, fun h' tk t' hk => ?_⟩
  · show b < ((s1.heap.push _).push _).objs.size
    rw [Heap.size_push, Heap.size_push]
    rw [sz] at hb
    rcases List.mem_cons.mp hb with e | hb
    · rw [e]
      exact Nat.lt_succ_self _
    · rw [List.mem_singleton.mp hb]
      exact Nat.lt_succ_of_lt (Nat.lt_succ_of_lt lt)
  · refine ⟨.int is.sum, H1, I1.kept (t' := tk) fun b u e => hk b u (fun hmem => ?_) (Heap.get?_push_of_some _ (grow b u e)), ⟨t', ?_⟩, q⟩
    · have e1 : b = (s1.heap.push { cls := .type "dict_values", data := .fields #[.ref a] }).objs.size := List.mem_singleton.mp hmem
      have e2 := Heap.lt_size e
      rw [sz] at e1
      rw [e1] at e2
      exact absurd e2 (Nat.not_lt.mpr (Nat.le_succ _))
    · rw [preSum_is is _ (Nat.le_of_eq same), same, List.take_length]
end
end Ns

/-! NsV: a tuple times 0 or 1. -/
namespace Ns
open PySem PySem.Spec PyProof.Rows L2
theorem tup_mul1 (l : Addr) (items : Array Value) (n : Nat) (dd : Option Addr) (sl : Array (Option Value)) (u : Tok) :
    Meets (Builtin.«tuple.__mul__» ⟨[.ref l, .int 1 u], []⟩) (fun _ R s => s.heap.get? l = some { cls := .type "tuple", dict := dd, data := .seq items n, slots := sl } ∧ R (.ok (.ret (Value.ref l))) s) :=
  .of_wp fun prog w A R s h => by
    obtain ⟨hp, g, d, tk, os⟩ := s
    obtain ⟨hl, h⟩ := h
    have f1 := AutoSeq1.idx_int
    wp_walk using wpAny_loadPart' hl
    exact ⟨_, rfl, h⟩
theorem tup_mul0 (l : Addr) (items : Array Value) (n : Nat) (dd : Option Addr) (sl : Array (Option Value)) (u : Tok) (hi : items.isEmpty = false) :
    Meets (Builtin.«tuple.__mul__» ⟨[.ref l, .int 0 u], []⟩) (fun _ R s => s.heap.get? l = some { cls := .type "tuple", dict := dd, data := .seq items n, slots := sl } ∧
      R (.ok (.ret (Value.ref s.heap.objs.size))) { s with heap := s.heap.push { cls := Value.type "tuple", data := Data.seq #[] }, toks := s.toks }) :=
  .of_wp fun prog w A R s h => by
    obtain ⟨hp, g, d, tk, os⟩ := s
    obtain ⟨hl, h⟩ := h
    have f1 := AutoSeq1.idx_int
    wp_walk using wpAny_loadPart' hl
    exact ⟨_, rfl, h⟩
def rRep01 (K : PySem.W.Frag) : R2 := fun x y H Q => ∃ (l : Addr) (k : Int) (xs : List V), x = .ref l ∧ y = .int k ∧ SqT K H l xs ∧ xs ≠ [] ∧ (k = 0 ∨ k = 1) ∧ (k = 1 → Q (.ref l) H) ∧ (k = 0 → ∀ p, H p = none → Q (.ref p) (upd H p (.tup [])))
theorem op_rep01 {X : Cx} : OpR X (binaryOp .Mult) (rRep01 X.K) := by
  intro pins s σ H x y v u Q I rx ry h
  obtain ⟨l, k, xs, rfl, rfl, hT, hne, hk, q1, q0⟩ := h
  cases rx
  obtain ⟨t, rfl⟩ := ry
  obtain ⟨its, r, ⟨⟨cls, dd, data, sl⟩, ho, hc, n, hd⟩, hs⟩ := I.tuple hT
  simp only at hc hd
  subst hc hd
  have hi : its.toArray.isEmpty = false := by
    cases its with
    | nil => exact absurd (List.eq_nil_of_length_eq_zero r.length) hne
    | cons a b => rfl
  rcases hk with rfl | rfl
  · refine wpAny_binaryOp_repeat_ref (T := "tuple") (U := "int") (by decide) ⟨_, ho, rfl⟩ (fun s' => typeIs_int s' 0 t) noFill_tuple_mul F.fills_int_mul F.slot_int_rmul repeat_tuple F.slot_int_index.lookup
      (call_meets F.slot_int_rmul (typeIs_int s 0 t) F.entry_int_rmul (F.args_int_rmul_2 _ _) (int_rmul_tuple 0 t l its.toArray n dd sl)
        ⟨ho, rfl, ⟨_, ho, rfl⟩, call_meets F.slot_tuple_mul ⟨_, ho, rfl⟩ F.entry_tuple_mul (F.args_tuple_mul_2 _ _) (tup_mul0 l its.toArray n dd sl t hi) ⟨ho, ?_⟩⟩)
    exact ⟨.ref s.heap.objs.size, _, I.laid (t' := s.toks) (o := .tup []) (fun b ob q => Heap.get?_push_of_some _ q) (Nat.le_refl _) ⟨by show 0 ≤ sizeLine; decide, [], .nil, IsTup.new _ _⟩, rfl, q0 rfl _ (I.hok.fresh (Nat.le_refl _))⟩
  · refine wpAny_binaryOp_repeat_ref (T := "tuple") (U := "int") (by decide) ⟨_, ho, rfl⟩ (fun s' => typeIs_int s' 1 t) noFill_tuple_mul F.fills_int_mul F.slot_int_rmul repeat_tuple F.slot_int_index.lookup
      (call_meets F.slot_int_rmul (typeIs_int s 1 t) F.entry_int_rmul (F.args_int_rmul_2 _ _) (int_rmul_tuple 1 t l its.toArray n dd sl)
        ⟨ho, rfl, ⟨_, ho, rfl⟩, call_meets F.slot_tuple_mul ⟨_, ho, rfl⟩ F.entry_tuple_mul (F.args_tuple_mul_2 _ _) (tup_mul1 l its.toArray n dd sl t) ⟨ho, ?_⟩⟩)
    exact ⟨.ref l, H, I, rfl, q1 rfl⟩
end Ns

/-! NsW: isinstance of data; t != (); t[::-1]; t * k; 'b' * k. -/
namespace Ns
open PySem PySem.Spec PyProof.Rows L2 Mx
/-- the name of a datum's class -/
def tyN : PyData → String
  | .none => "NoneType"
  | .bool _ => "bool"
  | .int _ => "int"
  | .str _ => "str"
  | .list _ => "list"
  | .tuple _ => "tuple"
  | .dict _ => "dict"
theorem tyX_lst {K : PySem.W.Frag} {H : Hp} {a : Addr} {xs : List V} (h : SqL K H a xs) : TyX K H (.ref a) (.type "list") := by
  rcases h with (h | ⟨o, h⟩) | ⟨o, _, _, h, c, _⟩
  · exact .base (.lst h)
  · exact .base (.frz h)
  · exact .kList h c
theorem tyX_tup {K : PySem.W.Frag} {H : Hp} {a : Addr} {xs : List V} (h : SqT K H a xs) : TyX K H (.ref a) (.type "tuple") := by
  rcases h with (h | ⟨o, h⟩) | ⟨o, _, _, h, c, _⟩
  · exact .base (.tup h)
  · exact .fTuple h
  · exact .kTuple h c
theorem tyX_dat {K : PySem.W.Frag} {H : Hp} {x : V} {d : PyData} (D : DatV K H x d) (n : ∀ kvs, d ≠ .dict kvs) : TyX K H x (.type (tyN d)) := by
  cases D with
  | non => exact .base .non
  | bl b => exact .base (.bl b)
  | int i => exact .base (.int i)
  | str z => exact .base (.str z)
  | lst h _ => exact tyX_lst h
  | tup h _ => exact tyX_tup h
  | dix _ _ _ _ _ => exact absurd rfl (n _)
section
variable {X : Cx}
/-- isinstance(x, T), x any datum -/
def rIsD (K : PySem.W.Frag) (t : String) (f : PyData → Bool) : List V → Hp → VK → Prop := fun xs H Q => ∃ (x : V) (d : PyData), xs = [x, .ty t] ∧ DatV K H x d ∧ Q (.bl (f d)) H
theorem call_isD {t : String} {f : PyData → Bool} (hf : ∀ d, kitB (tyN d) t = some (f d)) : CallR X (.builtin "isinstance") (rIsD X.K t f) := by
  intro pins s σ H xs us Q I r h
  obtain ⟨x, d, rfl, D, q⟩ := h
  by_cases n : ∀ kvs, d ≠ .dict kvs
  · exact call_isi pins s σ H _ us Q I r ⟨x, .ty t, _, _, f d, rfl, .ty t, tyX_dat D n, kit_ty (hf d), q⟩
  · cases D with
    | @dix a o kvs ks ds h e sy tk t2 =>
      obtain ⟨u1, u2, rfl, r1, r2⟩ := vals2 r
      cases (show u1 = Value.ref a from r1)
      have k := (ClsV.ty t).eq r2
      subst k
      exact PySem.W.kia_one PySem.W.kitx_dict I.kIn ⟨o, objO_at I h, e.1.1⟩ (kit_ty (hf (.dict (ks.zip ds)))) (fun z => nomatch z) fun tk => ⟨.bl (f _), H, I.tok tk, rfl, q⟩
    | _ => exact absurd (fun kvs z => nomatch z) n
def qT : PyData → Bool | .tuple _ => true | _ => false
def qI : PyData → Bool | .int _ => true | .bool _ => true | _ => false
def qB : PyData → Bool | .bool _ => true | _ => false
def qS : PyData → Bool | .str _ => true | _ => false
def qD : PyData → Bool | .dict _ => true | _ => false
theorem kit_T : ∀ d, kitB (tyN d) "tuple" = some (qT d) := fun d => by cases d <;> simp only [tyN, qT, qI, qB, qS, qD] <;> decide +kernel
theorem kit_I : ∀ d, kitB (tyN d) "int" = some (qI d) := fun d => by cases d <;> simp only [tyN, qT, qI, qB, qS, qD] <;> decide +kernel
theorem kit_B : ∀ d, kitB (tyN d) "bool" = some (qB d) := fun d => by cases d <;> simp only [tyN, qT, qI, qB, qS, qD] <;> decide +kernel
theorem kit_S : ∀ d, kitB (tyN d) "str" = some (qS d) := fun d => by cases d <;> simp only [tyN, qT, qI, qB, qS, qD] <;> decide +kernel
theorem kit_D : ∀ d, kitB (tyN d) "dict" = some (qD d) := fun d => by cases d <;> simp only [tyN, qT, qI, qB, qS, qD] <;> decide +kernel
/-- t != (), any tuple -/
def rNeE (K : PySem.W.Frag) : R2 := fun x y H Q => ∃ (a b : Addr) (xs : List V), x = .ref a ∧ y = .ref b ∧ SqT K H a xs ∧ SqT K H b [] ∧ Q (.bl (!decide (xs = []))) H
theorem op_neE (hu : X.A.units + 64 < cLine) : OpR X (compareOp .NotEq) (rNeE X.K) := by
  intro pins s σ H x y v u Q I rx ry h
  obtain ⟨a, b, xs, rfl, rfl, ha, hb, q⟩ := h
  cases (show v = Value.ref a from rx)
  cases (show u = Value.ref b from ry)
  obtain ⟨us, r1, ⟨o1, h1, h2, n1, h3⟩, _⟩ := I.tuple ha
  obtain ⟨ws, r2, ⟨o2, g1, g2, n2, g3⟩, _⟩ := I.tuple hb
  have z : ws = [] := by cases r2; rfl
  subst z
  refine SeqAt.RcNeAt.tuples (e := fun _ => true) ⟨o1, h1, h2, n1, h3⟩ ⟨o2, g1, g2, n2, g3⟩ (by omega) (fun j _ j2 => absurd j2 (Nat.not_lt_zero j)) _ _ _ _ ?_
  have e : (!((List.range (min us.toArray.size ([] : List Value).toArray.size)).all (fun _ => true) && us.toArray.size == ([] : List Value).toArray.size)) = !decide (xs = []) := by
    have l1 := r1.length
    cases xs with
    | nil => cases us with
      | nil => rfl
      | cons _ _ => cases l1
    | cons _ _ => cases us with
      | nil => cases l1
      | cons _ _ => simp
  exact ⟨.bl (!decide (xs = [])), H, I, congrArg Value.bool e, q⟩
end
theorem filterMap_some {α β : Type} {f : α → Option β} {g : α → β} : ∀ {l : List α}, (∀ k ∈ l, f k = some (g k)) → l.filterMap f = l.map g
  | [], _ => rfl
  | a :: l, h => by
    rw [List.filterMap_cons, h a List.mem_cons_self, List.map_cons, filterMap_some fun k hk => h k (List.mem_cons_of_mem _ hk)]
section
variable {prog : Program} {w : World} {A : Around} {E : Value → Shared → Prop} {s : Shared}
theorem pick_back (xs : Array Value) : (List.range xs.size).filterMap (fun k : Nat => xs[((xs.size : Int) - 1 + (k : Int) * (-1)).toNat]?) = xs.toList.reverse := by
  refine List.ext_getElem? fun i => ?_
  have e : (List.range xs.size).filterMap (fun k : Nat => xs[((xs.size : Int) - 1 + (k : Int) * (-1)).toNat]?) = (List.range xs.size).map (fun k : Nat => (xs.toList.reverse)[k]?.getD .none) := by
    refine filterMap_some fun k hk => ?_
    have hk' := List.mem_range.mp hk
    have e1 : ((xs.size : Int) - 1 + (k : Int) * (-1)).toNat = xs.size - 1 - k := by omega
    have e2 : xs[xs.size - 1 - k]? = some xs[xs.size - 1 - k] := Array.getElem?_eq_getElem (by omega)
    rw [e1, e2]
    have e3 : xs.toList.reverse[k]? = some xs[xs.size - 1 - k] := by
      rw [List.getElem?_reverse (by rw [Array.length_toList]; exact hk'), Array.length_toList, Array.getElem?_toList, e2]
    rw [e3]
    rfl
  rw [e, List.getElem?_map]
  by_cases h : i < xs.size
  · rw [List.getElem?_range h]
    have : i < xs.toList.reverse.length := by rw [List.length_reverse, Array.length_toList]; exact h
    rw [List.getElem?_eq_getElem this]
    show some (xs.toList.reverse[i]?.getD .none) = _
    rw [List.getElem?_eq_getElem this]
    rfl
  · rw [List.getElem?_eq_none (by rw [List.length_range]; omega), List.getElem?_eq_none (by rw [List.length_reverse, Array.length_toList]; omega)]
    rfl
theorem applied_back {p : Addr} {u : Tok} {n : Nat} {Q : Int × Int × Nat → Shared → Prop} (hp : s.heap.IsSliceOf p .none .none (.int (-1) u)) (h : Q ((n : Int) - 1, -1, n) s) : wpAny (model prog w) A (Builtin.Slice.sliceApplied (.ref p) (pure (n : Int))) Q E s := by
  obtain ⟨o, e1, e2, e3⟩ := id hp
  unfold Builtin.Slice.sliceApplied Builtin.Slice.sliceFields
  refine wpAny_bind (wpAny_bind (wpAny_field e1 e3 (x := .none) rfl (wpAny_bind (wpAny_field e1 e3 (x := .none) rfl (wpAny_bind (wpAny_field e1 e3 (x := .int (-1) u) rfl (wpAny_pure ?_)))))))
  refine wpAny_bind (slicePart_int ?_)
  have nz : ¬ (((some (-1 : Int)).getD 1 == 0) = true) := by decide
  rw [if_neg nz]
  refine wpAny_bind (slicePart_none (wpAny_bind (slicePart_none (wpAny_bind (wpAny_pure (wpAny_pure ?_))))))
  have e4 : Builtin.Slice.slicePlaces ((n : Int) - 1) (-1) (-1) = n := by
    unfold Builtin.Slice.slicePlaces
    rw [if_neg (by decide)]
    split
    · rw [Int.neg_neg, Int.ediv_one]; omega
    · omega
  have e5 : Builtin.Slice.slicePlaces (Builtin.Slice.sliceAdjust none none (-1) (n : Int)).1 (Builtin.Slice.sliceAdjust none none (-1) (n : Int)).2 (-1) = n := e4
  show Q ((Builtin.Slice.sliceAdjust none none (-1) (n : Int)).1, -1, Builtin.Slice.slicePlaces (Builtin.Slice.sliceAdjust none none (-1) (n : Int)).1 (Builtin.Slice.sliceAdjust none none (-1) (n : Int)).2 (-1)) s
  rw [e5]
  exact h
theorem tup_back {t p : Addr} {its : Array Value} {u : Tok} {Q : Value → Shared → Prop} (ht : IsTup s.heap t its) (hp : s.heap.IsSliceOf p .none .none (.int (-1) u)) (hz : its.size ≤ sizeLine)
    (h : Q (.ref s.heap.objs.size) { s with heap := s.heap.push { cls := .type "tuple", data := .seq its.toList.reverse.toArray } }) : wpAny (model prog w) A (getItem (.ref t) (.ref p)) Q E s := by
  have ok : sizeOk (.seq its.toList.reverse.toArray) := by
    show its.toList.reverse.toArray.size ≤ sizeLine
    rw [List.size_toArray, List.length_reverse, Array.length_toList]
    exact hz
  have ty : s.TypeIs (.ref p) "slice" := by
    obtain ⟨o, e1, e2, _⟩ := hp
    exact ⟨o, e1, e2⟩
  unfold getItem
  refine wpAny_holding ?_
  refine wpAny_bind (wpAny_sequenceKey ht.typeIs (by decide) ?_)
  refine wpAny_bind (wpAny_callSpecial?_slot (name := Str.ofString "__getitem__") ht.typeIs PyProof.Rows.slot_tuple_getitem (wpAny_call_entry PyProof.Rows.slot_tuple_getitem ht.typeIs entry_tuple_getitem ?_ (args_tuple_getitem _ _)))
  show wpAny _ _ (Builtin.Tuple.tupleItemsOf (.ref t) >>= _) _ _ s
  refine wpAny_bind (tupleItemsOf_ ht (wpAny_bind (wpAny_typeOf ty ?_)))
  rw [if_pos (by decide)]
  refine wpAny_bind (applied_back hp ?_)
  have no : ¬ ((((its.size : Int) - 1 == 0) && ((-1 : Int) == 1) && (its.size == its.size)) = true) := by simp
  show wpAny _ _ (if (((its.size : Int) - 1 == 0) && ((-1 : Int) == 1) && (its.size == its.size)) = true then _ else _) _ _ s
  rw [if_neg no, pick_back]
  first
    | exact wpAny_bind (m := Builtin.Tuple.tupleExact _) (wpAny_newObj_type (wpAny_pure ⟨_, rfl, wpAny_pure h⟩) ok)
    | exact wpAny_bind (m := Builtin.Tuple.tupleExact _) (wpAny_newObj_type (wpAny_bind (wpAny_pure (wpAny_pure ⟨_, rfl, wpAny_pure h⟩))) ok)
    | exact wpAny_bind (wpAny_bind (m := Builtin.Tuple.tupleExact _) (wpAny_newObj_type (wpAny_pure (wpAny_pure ⟨_, rfl, wpAny_pure h⟩)) ok))
    | exact wpAny_bind (wpAny_bind (m := Builtin.Tuple.tupleExact _) (wpAny_newObj_type (wpAny_pure ⟨_, rfl, wpAny_pure h⟩) ok))
end
section
variable {X : Cx}
/-- t[::-1] -/
def tRevT (K : PySem.W.Frag) (te : TE) : TE := fun σ H Q => te σ H fun x H1 => ∃ a xs, x = .ref a ∧ SqT K H1 a xs ∧ ∀ p, H1 p = none → Q (.ref p) (upd H1 p (.tup xs.reverse))
theorem pe_revT {e : Expr} {te : TE} {k : Nat} {p1 p2 p3 pos : Pos} (he : PE X e te) : PE X (.Subscript e (.Slice none none (some (.UnaryOp .USub (.Constant (.int 1) k p1) p2)) p3) pos) (tRevT X.K te) := by
  constructor
  intro pins s σ H Q I h
  have st : PO X (some (.UnaryOp .USub (.Constant (.int 1) k p1) p2)) (tPart (tUn (rU fun i => .int (-i)) (tC (.int 1)))) := po_some (pe_un un_neg pe_int)
  refine Subscript_ (thn (he.run pins s σ H _ I h) ?_)
  rintro v s1 ⟨x, H1, I1, r1, a, xs, rfl, hx, q⟩
  cases (show v = Value.ref a from r1)
  refine wpAny_Slice (wpAny_pure (wpAny_pure (thn (st.run pins s1 σ H1 (fun o H4 => o = some (-1) ∧ H4 = H1) I1 ⟨1, rfl, -1, rfl, rfl, rfl⟩) ?_)))
  rintro vs s4 ⟨o, H4, I4, ps, rfl, rfl⟩
  obtain ⟨u, rfl⟩ : ∃ u, vs = .int (-1) u := by cases ps; exact ⟨_, rfl⟩
  have I5 : Inv X pins σ H4 { s4 with heap := s4.heap.push { cls := .type "slice", data := .fields #[.none, .none, .int (-1) u] } } := I4.kept (t' := s4.toks) fun b ob q => Heap.get?_push_of_some _ q
  obtain ⟨its, r, ht, hz⟩ := I5.tuple hx
  have ln := r.length
  show wpAny (model X.prog X.w) X.A (subscriptTail e (.Slice none none (some (.UnaryOp .USub (.Constant (.int 1) k p1) p2)) p3) (.ref a) (.ref s4.heap.objs.size)) (EP X pins σ Q) X.xe { s4 with heap := s4.heap.push { cls := .type "slice", data := .fields #[.none, .none, .int (-1) u] } }
  refine tail_any (ops := [.ref a, .ref s4.heap.objs.size]) ht.typeIs (PyProof.Rows.slot_tuple_getitem.lookup) ?_ (by with_unfolding_all rfl)
  refine tup_back ht (Heap.IsSliceOf.new _ .none .none (.int (-1) u)) (by rw [List.size_toArray, ← ln]; exact hz) ?_
  refine ⟨.ref _, _, I5.laid (t' := s4.toks) (o := .tup xs.reverse) (fun b ob q => Heap.get?_push_of_some _ q) (Nat.le_refl _) ?_, rfl, q _ (I5.hok.fresh (Nat.le_refl _))⟩
  exact ⟨by rw [List.length_reverse]; exact hz, _, r.reverse, IsTup.new _ _⟩
/-- t * k, k from 0 on, t not empty -/
def rRepN (K : PySem.W.Frag) : R2 := fun x y H Q => ∃ (l : Addr) (k : Nat) (xs : List V), x = .ref l ∧ y = .int k ∧ SqT K H l xs ∧ xs ≠ [] ∧ k ≤ 1000 ∧ xs.length ≤ 1000 ∧ ∀ (p : Addr) (H' : Hp), Same H H' → SqT K H' p (List.replicate k xs).flatten → Q (.ref p) H'
theorem op_repN : OpR X (binaryOp .Mult) (rRepN X.K) := by
  intro pins s σ H x y v u Q I rx ry h
  obtain ⟨l, k, xs, rfl, rfl, hT, hne, h1, h2, q⟩ := h
  have nw : ∀ (p : Addr) (ys : List V), H p = none → Same H (upd H p (.tup ys)) := fun p ys hp c o e => by rw [upd_ne (ne_of_none e hp)]; exact e
  by_cases c : 2 ≤ k
  · refine op_repT pins s σ H _ _ v u Q I rx ry ⟨l, (k : Int), xs, rfl, rfl, hT, hne, by omega, by omega, h2, fun p hp => ?_⟩
    exact q p _ (nw p _ hp) (SqT.of upd_same)
  · refine op_rep01 pins s σ H _ _ v u Q I rx ry ⟨l, (k : Int), xs, rfl, rfl, hT, hne, by omega, fun e => ?_, fun e p hp => ?_⟩
    · have e1 : k = 1 := by omega
      subst e1
      exact q l H (Same.refl H) (by simpa using hT)
    · have e1 : k = 0 := by omega
      subst e1
      exact q p _ (nw p _ hp) (SqT.of upd_same)
theorem fold_size {α : Type} (a : Array α) : ∀ (k : Nat) (b : Array α), ((List.replicate k a).foldl (· ++ ·) b).size = b.size + k * a.size
  | 0, b => by simp
  | k + 1, b => by
    rw [List.replicate_succ, List.foldl_cons, fold_size a k, Array.size_append, Nat.succ_mul]
    omega
theorem mulS_len (z : Str) (k : Nat) : (⟨(List.replicate k z.cps).foldl (· ++ ·) #[]⟩ : Str).length = k * z.length := by
  have := fold_size z.cps k #[]
  show Array.size _ = k * z.cps.size
  rw [this]
  simp
/-- 'b' * k -/
def rMulS : R2 := fun x y H Q => ∃ (z : Str) (k : Nat), x = .str z ∧ y = .int k ∧ 2 ≤ k ∧ k ≤ 1000 ∧ 1 ≤ z.length ∧ z.length ≤ 1000 ∧ Q (.str ⟨(List.replicate k z.cps).foldl (· ++ ·) #[]⟩) H
theorem op_mulStr : OpR X (binaryOp .Mult) rMulS := by
  intro pins s σ H x y v u Q I rx ry h
  obtain ⟨z, k, rfl, rfl, h1, h2, h3, h4, q⟩ := h
  obtain ⟨t, rfl⟩ := (show ∃ t, v = Value.str z t from rx)
  obtain ⟨t2, rfl⟩ := (show ∃ t, u = Value.int k t from ry)
  have hm : z.length * k ≤ 1000 * 1000 := Nat.mul_le_mul h4 h2
  have no : (((k : Int) == 1) || (z.length == 0)) = false := by
    rw [Bool.or_eq_false_iff]
    exact ⟨beq_eq_false_iff_ne.mpr (by omega), beq_eq_false_iff_ne.mpr (by omega)⟩
  refine P.mul_str ?_ (fun _ _ => ?_) (fun _ _ => ?_) ?_
  · rw [decide_eq_false (by omega), decide_eq_false (by omega)]; rfl
  · have : (1000 : Int) ≤ (2 ^ 63 - 1) / (k : Int) := Int.le_ediv_of_mul_le (by omega) (by omega)
    omega
  · unfold Builtin.Str.tooLong
    rw [sizeLine_eq, Int.toNat_natCast]
    exact decide_eq_false (by omega)
  · rw [if_neg (by omega), no]
    exact ⟨by rw [Int.toNat_natCast, mulS_len, Nat.mul_comm, sizeLine_eq]; omega, ⟨.str _, H, I.tok _, ⟨_, rfl⟩, by rw [Int.toNat_natCast]; exact q⟩⟩
end
end Ns

/-! OB: data within bounds; data in a heap but for the bag. -/
namespace Y
open PySem PySem.Spec PyProof.Rows L2 Ns
mutual
/-- no row, text or number is longer than w -/
def Bd (w : Nat) : PyData → Prop
  | .none => True
  | .bool _ => True
  | .int i => i.natAbs < 10 ^ w
  | .str z => z.length ≤ w
  | .list ds => ds.length ≤ w ∧ BdA w ds
  | .tuple ds => ds.length ≤ w ∧ BdA w ds
  | .dict kvs => kvs.length ≤ w
def BdA (w : Nat) : List PyData → Prop
  | [] => True
  | d :: ds => Bd w d ∧ BdA w ds
end
theorem bdA_iff {w : Nat} : ∀ {ds : List PyData}, BdA w ds ↔ ∀ d ∈ ds, Bd w d
  | [] => by simp [BdA]
  | d :: ds => by
    have ih := bdA_iff (w := w) (ds := ds)
    simp only [BdA, List.mem_cons, forall_eq_or_imp, ih]
theorem pow_up {i w w' : Nat} (h : i < 10 ^ w) (hw : w ≤ w') : i < 10 ^ w' := Nat.lt_of_lt_of_le h (Nat.pow_le_pow_right (by decide) hw)
mutual
theorem Bd.up {w w' : Nat} (hw : w ≤ w') : ∀ {d : PyData}, Bd w d → Bd w' d
  | .none, _ => by simp only [Bd]
  | .bool _, _ => by simp only [Bd]
  | .int i, h => by simp only [Bd] at h ⊢; exact pow_up h hw
  | .str z, h => by simp only [Bd] at h ⊢; omega
  | .list ds, h => by simp only [Bd] at h ⊢; exact ⟨by omega, BdA.up hw h.2⟩
  | .tuple ds, h => by simp only [Bd] at h ⊢; exact ⟨by omega, BdA.up hw h.2⟩
  | .dict kvs, h => by simp only [Bd] at h ⊢; omega
theorem BdA.up {w w' : Nat} (hw : w ≤ w') : ∀ {ds : List PyData}, BdA w ds → BdA w' ds
  | [], _ => by simp only [BdA]
  | d :: ds, h => by simp only [BdA] at h ⊢; exact ⟨Bd.up hw h.1, BdA.up hw h.2⟩
end
theorem datA_mem {K : PySem.W.Frag} {H : Hp} : ∀ {xs : List V} {ds : List PyData}, DatA K H xs ds → ∀ {x : V}, x ∈ xs → ∃ d ∈ ds, DatV K H x d
  | _, _, .cons (d := d) h t, x, hx => by
    rcases List.mem_cons.mp hx with e | e
    · exact ⟨d, List.mem_cons_self, by rw [e]; exact h⟩
    · obtain ⟨d', h1, h2⟩ := datA_mem t e
      exact ⟨d', List.mem_cons_of_mem _ h1, h2⟩
theorem datA_at {K : PySem.W.Frag} {H : Hp} : ∀ {xs : List V} {ds : List PyData}, DatA K H xs ds → ∀ {i : Nat} {x : V}, xs[i]? = some x → ∃ d, ds[i]? = some d ∧ DatV K H x d
  | _, _, .cons (d := d) h _, 0, x, e => by
    rw [List.getElem?_cons_zero] at e
    cases e
    exact ⟨d, rfl, h⟩
  | _, _, .cons _ t, i + 1, x, e => by
    rw [List.getElem?_cons_succ] at e
    exact datA_at t e
theorem datA_app {K : PySem.W.Frag} {H : Hp} : ∀ {xs : List V} {ds : List PyData}, DatA K H xs ds → ∀ {ys : List V} {es : List PyData}, DatA K H ys es → DatA K H (xs ++ ys) (ds ++ es)
  | _, _, .nil, _, _, h => h
  | _, _, .cons h t, _, _, g => .cons h (datA_app t g)
theorem datA_take {K : PySem.W.Frag} {H : Hp} : ∀ {xs : List V} {ds : List PyData}, DatA K H xs ds → ∀ n : Nat, DatA K H (xs.take n) (ds.take n)
  | _, _, .nil, n => by rw [List.take_nil, List.take_nil]; exact .nil
  | _, _, .cons _ _, 0 => .nil
  | _, _, .cons h t, n + 1 => .cons h (datA_take t n)
theorem datA_drop {K : PySem.W.Frag} {H : Hp} : ∀ {xs : List V} {ds : List PyData}, DatA K H xs ds → ∀ n : Nat, DatA K H (xs.drop n) (ds.drop n)
  | _, _, .nil, n => by rw [List.drop_nil, List.drop_nil]; exact .nil
  | _, _, .cons h t, 0 => .cons h t
  | _, _, .cons _ t, n + 1 => datA_drop t n
theorem datA_rev {K : PySem.W.Frag} {H : Hp} : ∀ {xs : List V} {ds : List PyData}, DatA K H xs ds → DatA K H xs.reverse ds.reverse
  | _, _, .nil => .nil
  | _, _, .cons h t => by
    rw [List.reverse_cons, List.reverse_cons]
    exact datA_app (datA_rev t) (.cons h .nil)
theorem datA_ints {K : PySem.W.Frag} {H : Hp} : ∀ ns : List Int, DatA K H (ns.map V.int) (ns.map PyData.int)
  | [] => .nil
  | n :: ns => .cons (.int n) (datA_ints ns)
theorem sqt_wo' {K : PySem.W.Frag} {H : Hp} {b p : Addr} {xs : List V} (h : SqT K H p xs) (B : Bag H b) : SqT K (wo H b) p xs := by
  have nb : ∀ {o : HO}, H p = some o → (∀ l, o ≠ .lst l) → p ≠ b := fun {o} e n z => by
    obtain ⟨_, _, _, _, _, h1, _⟩ := B
    rw [z, h1] at e
    exact n _ (Option.some.inj e).symm
  rcases h with (h | ⟨o, h⟩) | h
  · exact .inl (.inl ((wo_ne (nb h (fun l z => by cases z))).trans h))
  · exact .inl (.inr ⟨o, (wo_ne (nb h (fun l z => by cases z))).trans h⟩)
  · exact .inr h
/-- t[lo:hi], the result by what stands at it -/
def rSlP (K : PySem.W.Frag) : V → Option Int → Option Int → Hp → VK → Prop := fun x lo hi H Q => ∃ a xs, x = .ref a ∧ SqT K H a xs ∧ ∀ (p : Addr) (H' : Hp), Same H H' → SqT K H' p (cutV xs lo hi) → Q (.ref p) H'
theorem cut_all {xs : List V} {lo hi : Option Int} (h : HT.sIx xs.length 0 lo = 0 ∧ HT.sIx xs.length xs.length hi = xs.length) : cutV xs lo hi = xs := by
  unfold cutV
  rw [h.1, h.2, List.drop_zero, Nat.sub_zero, List.take_length]
theorem sl_tupP {X : Cx} : SlR X (rSlP X.K) := by
  intro pins s σ H x v vl vu lo hi sl Q I rx hs pl pu h
  obtain ⟨a, xs, rfl, hx, q⟩ := h
  exact sl_tupA pins s σ H _ v vl vu lo hi sl Q I rx hs pl pu ⟨a, xs, rfl, hx, fun e => q a H (Same.refl H) (by rw [cut_all e]; exact hx), fun _ p hp => q p _ (same_new (Same.refl H) hp) (SqT.of upd_same)⟩
/-- t + u, the result by what stands at it -/
def rCatP (K : PySem.W.Frag) : R2 := fun x y H Q => ∃ a b xs ys, x = .ref a ∧ y = .ref b ∧ SqT K H a xs ∧ SqT K H b ys ∧ xs.length + ys.length ≤ sizeLine ∧ ∀ (p : Addr) (H' : Hp), Same H H' → SqT K H' p (xs ++ ys) → Q (.ref p) H'
theorem op_catP {X : Cx} : OpR X (binaryOp .Add) (rCatP X.K) := by
  intro pins s σ H x y v u Q I rx ry h
  obtain ⟨a, b, xs, ys, rfl, rfl, ha, hb, hz, q⟩ := h
  refine op_catA pins s σ H _ _ v u Q I rx ry ⟨a, b, xs, ys, rfl, rfl, ha, hb, hz, fun e => q b H (Same.refl H) (by rw [e]; exact hb), fun _ e => q a H (Same.refl H) (by rw [e, List.append_nil]; exact ha), fun _ _ p hp => q p _ (same_new (Same.refl H) hp) (SqT.of upd_same)⟩
end Y

namespace Y
open PySem PySem.Spec PyProof.Rows L2 Ns
open C8 (pss_cut)
/-- the things in some order: a new list -/
def spMixed (K : PySem.W.Frag) : Sp := fun as H Q _ => ∃ (b a : Addr) (xs : List V), as = [.ref b, .ref a] ∧ Bag H b ∧ SqL K (wo H b) a xs ∧ xs.length ≤ 1000 ∧
  ∀ (p : Addr) (ys : List V) (H' : Hp), ys.Perm xs → H' p = some (.lst ys) → H p = none → p ≠ b → Bag H' b → Sb b H H' → Q (.ref p) H'
/-- one sign of a text -/
def spSomeS : Sp := fun as H Q _ => ∃ (b : Addr) (z : Str), as = [.ref b, .str z] ∧ Bag H b ∧ z.length ≠ 0 ∧ z.length ≤ 1000 ∧ ∀ (c : Nat) (H' : Hp), c ∈ z.cps.toList → Bag H' b → Sb b H H' → Q (.str ⟨#[c]⟩) H'
section
variable {P : Program} {w : World} {K : PySem.W.Frag} {mg : Str → Option Value} {base : Heap}
theorem scM : FnScope ["bag", "things", "found", "thing"] ["bag", "things"] (defScope sMixed) := ⟨rfl, rfl, rfl, by decide +kernel, rfl, by decide +kernel, by decide +kernel⟩
theorem ok_mixed {f fT : Addr} {fd fdT : FuncData} (F : Fun K "_law_mixed" "_law_mixed" sMixed f fd) (T : Nat0 mg) (FT : Fun K "_law_take" "_law_take" sTake fT fdT) (mT : mg "_law_take" = some (.ref fT)) (bT : Binds K fdT ["bag", "many"] []) :
    FnOk P w K mg base CX0 2 f fd ["bag", "things"] (spMixed K) := by
  have GT : FnOk P w K mg base CX0 1 fT fdT ["bag", "many"] spTake := ok_take FT T
  refine F.ok scM (fun as H Q E h => ?_) (fun cdv A outer s H as Q E hr h => ?_)
  · obtain ⟨b, a, xs, rfl, _⟩ := h
    rfl
  · obtain ⟨b, a, xs, rfl, hB, hS, hl, k⟩ := h
    refine ⟨_, pss_cons (ps_set (i := 2) scM.nd rfl (.inl rfl) (pe_lst pa_nil))
      (pss_cons (ps_for PassesOwn.never rfl (pi_list (pv 1)) (pg_name (i := 3) scM.nd rfl (.inl rfl))
        (pss_one (ps_expr (pe_bm PySem.F.plainAttrs_list PySem.F.slot_list_insert PySem.F.type_list_insert mt_insert (pv 2)
          (pa_cons (pe_call GT hr rfl mT FT.kp bT .nil pass0 (pa_cons (pv 0) (pa_cons (pe_op op_add (pe_callB call_len_seq (by rfl) T.len PySem.boot_len (pa_cons (pv 2) pa_nil)) pe_int) pa_nil))) (pa_cons (pv 3) pa_nil))))))
      (pss_one (ps_ret (pv 2)))), ?_⟩
    refine ⟨by show 0 ≤ sizeLine; decide, fun p hp => ?_⟩
    have npb : p ≠ b := hB.ne hp
    have hS0 : SqL K (upd H p (.lst [])) a xs := Same.seq (same_new (Same.refl H) hp) ((wo_sub H b).seq hS)
    refine ⟨_, rfl, a, rfl, ⟨_, hS0⟩, ?_⟩
    refine for_list (K := K) (a := a) (xs := xs) (fun i σ H' => ∃ (v : Option V) (ys : List V), σ = [some (.ref b), some (.ref a), some (.ref p), v] ∧ H' p = some (.lst ys) ∧ ys.Perm (xs.take i) ∧ Bag H' b ∧ Sb b H H') ?_ ?_ ?_ ?_
    · exact ⟨none, [], rfl, upd_same, by rw [List.take_zero], hB.new hp, (Sb.refl b H).new hp⟩
    · rintro i σ H' _ ⟨v, ys, _, _, _, _, s⟩
      exact (wo_sub H' b).seq (s.sl hS)
    · rintro i x σ H' hx ⟨v, ys, rfl, h1, h2, h3, h4⟩
      have hi : i < xs.length := (List.getElem?_eq_some_iff.mp hx).1
      have hyl : ys.length = i := by rw [h2.length_eq, List.length_take]; omega
      refine ⟨_, rfl, .inl ⟨rfl, _, SqL.of h1⟩, _, rfl, _, rfl, p, _, rfl, .inl (SqL.of h1), ys.length, 1, rfl, rfl, b, _, rfl, h3, by omega, Nat.lt_of_le_of_lt (show ((ys.length : Int) + 1).natAbs ≤ 2000 by omega) (by decide), fun j H2 h0 hj hB2 sb2 => ?_⟩
      have e2 := sb2.get h1 npb
      refine ⟨_, rfl, p, ys, j, x, rfl, rfl, e2, small1000 (by omega), h0, by omega, some x, _, rfl, upd_same, put_perm h2 hx, ?_, ?_⟩
      · exact hB.wr hp (h4.trans sb2) hB2
      · exact (h4.trans sb2).wr hp
    · rintro σ H' ⟨v, ys, rfl, h1, h2, h3, h4⟩
      rw [List.take_length] at h2
      exact ⟨_, rfl, k p ys H' h2 h1 hp npb h3 h4⟩
theorem ok_someS {f fT : Addr} {fd fdT : FuncData} (F : Fun K "_law_some" "_law_some" sSome f fd) (T : Nat0 mg) (FT : Fun K "_law_take" "_law_take" sTake fT fdT) (mT : mg "_law_take" = some (.ref fT)) (bT : Binds K fdT ["bag", "many"] []) :
    FnOk P w K mg base CX0 2 f fd ["bag", "things"] spSomeS := by
  have GT : FnOk P w K mg base CX0 1 fT fdT ["bag", "many"] spTake := ok_take FT T
  refine F.ok scS (fun as H Q E h => ?_) (fun cdv A outer s H as Q E hr h => ?_)
  · obtain ⟨b, z, rfl, _⟩ := h
    rfl
  · obtain ⟨b, z, rfl, hB, hne, hl, k⟩ := h
    refine ⟨_, pss_one (ps_ret (pe_ix ix_str (pv 1) (pe_call GT hr rfl mT FT.kp bT .nil pass0 (pa_cons (pv 0) (pa_cons (pe_callB call_len_str (by rfl) T.len PySem.boot_len (pa_cons (pv 1) pa_nil)) pa_nil))) (fun _ _ => rfl))), ?_⟩
    refine ⟨_, rfl, _, rfl, _, rfl, z, rfl, Nat.le_of_lt (small1000 hl), b, _, rfl, hB, by omega, ?_, fun v H' h0 h1 hB' sb => ?_⟩
    · exact Nat.lt_of_le_of_lt (show ((z.length : Int)).natAbs ≤ 1000 by omega) (by decide)
    · have hi : v.toNat < z.cps.toList.length := by
        have e : z.cps.toList.length = z.length := by first | rfl | simp [PySem.Str.length]
        omega
      have ev : v = ((v.toNat : Nat) : Int) := by omega
      obtain ⟨c, ec⟩ : ∃ c, z.cps.toList[v.toNat]? = some c := ⟨_, List.getElem?_eq_getElem hi⟩
      refine ⟨z, v, c, rfl, rfl, Nat.le_of_lt (small1000 hl), by rw [ev]; exact atI_nat ec, ?_⟩
      exact k c H' (List.mem_of_getElem? ec) hB' sb
end
end Y

/-! names, as texts: what is one, and that a row of tries comes to a new one -/
namespace Y
open PySem PySem.Spec PyProof.Rows L2 Ns
def isL (c : Nat) : Prop := 97 ≤ c ∧ c ≤ 122
def isD (c : Nat) : Prop := 48 ≤ c ∧ c ≤ 57
def isS (c : Nat) : Prop := isL c ∨ isD c
instance (c : Nat) : Decidable (isL c) := inferInstanceAs (Decidable (_ ∧ _))
instance (c : Nat) : Decidable (isD c) := inferInstanceAs (Decidable (_ ∧ _))
instance (c : Nat) : Decidable (isS c) := inferInstanceAs (Decidable (_ ∨ _))
/-- the signs of a name -/
def NmL (n : List Nat) : Prop := ∃ c r, n = c :: r ∧ isL c ∧ (∀ d ∈ r, isS d) ∧ r.length ≤ 19
def Nm (x : Str) : Prop := NmL x.cps.toList
abbrev letters : Str := "abcdefghijklmnopqrstuvwxyz"
abbrev signs : Str := "abcdefghijklmnopqrstuvwxyz0123456789"
theorem letters_ok : ∀ c ∈ letters.cps.toList, isL c := by decide +kernel
theorem signs_ok : ∀ c ∈ signs.cps.toList, isS c := by decide +kernel
theorem len_cps (z : Str) : z.cps.toList.length = z.length := by first | rfl | simp [PySem.Str.length]
theorem str_ext {x y : Str} (h : x.cps.toList = y.cps.toList) : x = y := by
  cases x
  cases y
  exact congrArg PySem.Str.mk (Array.toList_inj.mp h)
theorem Nm.len {x : Str} (h : Nm x) : 1 ≤ x.length ∧ x.length ≤ 20 := by
  obtain ⟨c, r, e, _, _, h⟩ := h
  rw [← len_cps, e, List.length_cons]
  omega
theorem nm_one {c : Nat} (h : isL c) : Nm ⟨#[c]⟩ := ⟨c, [], rfl, h, (fun _ z => nomatch z), by decide⟩
theorem nm_snoc {x : Str} {c : Nat} (h : Nm x) (hl : x.length ≤ 19) (hc : isS c) : Nm (x ++ ⟨#[c]⟩) := by
  obtain ⟨d, r, e, h1, h2, h3⟩ := h
  refine ⟨d, r ++ [c], by rw [cps_toList_append, e]; rfl, h1, fun k hk => ?_, ?_⟩
  · rcases List.mem_append.mp hk with q | q
    · exact h2 k q
    · rw [List.mem_singleton] at q
      rw [q]; exact hc
  · have q : x.cps.toList.length ≤ 19 := by rw [len_cps]; exact hl
    rw [e, List.length_cons] at q
    rw [List.length_append, List.length_singleton]
    omega
theorem cut_list (z : Str) (k : Nat) : (cutS z none (some (k : Int))).cps.toList = z.cps.toList.take k := by
  have e : HT.sIx z.length 0 none = 0 := rfl
  unfold cutS
  show ((z.cps.toList.drop (HT.sIx z.length 0 none)).take (HT.sIx z.length z.length (some (k : Int)) - HT.sIx z.length 0 none)) = _
  rw [e, List.drop_zero, Nat.sub_zero]
  have h : HT.sIx z.length z.length (some (k : Int)) = min k z.length := by
    unfold HT.sIx
    simp
    try omega
  rw [h, ← len_cps]
  rw [List.take_eq_take_iff]
  omega
theorem nm_cut {x : Str} {k : Nat} (h : Nm x) (hk : 1 ≤ k) : Nm (cutS x none (some (k : Int))) ∧ (cutS x none (some (k : Int))).length ≤ k := by
  obtain ⟨c, r, e, h1, h2, h3⟩ := h
  have q := cut_list x k
  obtain ⟨m, rfl⟩ : ∃ m, k = m + 1 := ⟨k - 1, by omega⟩
  rw [e, List.take_succ_cons] at q
  refine ⟨⟨c, r.take m, q, h1, fun d hd => h2 d (List.mem_of_mem_take hd), ?_⟩, ?_⟩
  · rw [List.length_take]; omega
  · rw [← len_cps, q, List.length_cons, List.length_take]; omega
/-- the digits of a number -/
def Dg (k : Nat) : List Nat := (toString (k : Int) : PySem.Str).cps.toList
theorem dg_digits : ∀ k, k < 101 → (∀ c ∈ Dg k, isD c) ∧ (Dg k).length ≤ 3 := by decide +kernel
theorem dg_inj : ∀ j, j < 101 → ∀ k, k < 101 → Dg j = Dg k → j = k := by decide +kernel
theorem not_both {c : Nat} (h : isL c) (g : isD c) : False := by
  unfold isL at h
  unfold isD at g
  omega
theorem split_same : ∀ {a b : List Nat} {c d : Nat} {r t : List Nat}, (∀ x ∈ a, isD x) → (∀ x ∈ b, isD x) → isL c → isL d → a ++ c :: r = b ++ d :: t → a = b
  | [], [], _, _, _, _, _, _, _, _, _ => rfl
  | [], y :: b, c, d, r, t, _, hb, hc, _, h => by
    injection h with h1 h2
    rw [h1] at hc
    exact (not_both hc (hb y List.mem_cons_self)).elim
  | x :: a, [], c, d, r, t, ha, _, _, hd, h => by
    injection h with h1 h2
    rw [← h1] at hd
    exact (not_both hd (ha x List.mem_cons_self)).elim
  | x :: a, y :: b, c, d, r, t, ha, hb, hc, hd, h => by
    injection h with h1 h2
    rw [h1, split_same (fun z hz => ha z (List.mem_cons_of_mem _ hz)) (fun z hz => hb z (List.mem_cons_of_mem _ hz)) hc hd h2]
/-- the k-th try -/
def Tr (k : Nat) (x : Str) : Prop := ∃ c r, isL c ∧ x.cps.toList = 120 :: (Dg k ++ c :: r)
theorem tr_inj {j k : Nat} {x : Str} (hj : j < 101) (hk : k < 101) (h : Tr j x) (g : Tr k x) : j = k := by
  obtain ⟨c, r, h1, h2⟩ := h
  obtain ⟨d, t, g1, g2⟩ := g
  rw [h2] at g2
  injection g2 with _ e
  exact dg_inj j hj k hk (split_same (dg_digits j hj).1 (dg_digits k hk).1 h1 g1 e)
def tryOf (k : Nat) (x : Str) : Str := ("x" : Str) ++ toString (k : Int) ++ cutS x none (some (16 : Int))
theorem tryOf_cps (k : Nat) (x : Str) : (tryOf k x).cps.toList = 120 :: (Dg k ++ x.cps.toList.take 16) := by
  unfold tryOf
  rw [cps_toList_append, cps_toList_append, show (16 : Int) = ((16 : Nat) : Int) from rfl, cut_list]
  rfl
theorem tr_try {k : Nat} {x : Str} (h : Nm x) : Tr k (tryOf k x) := by
  obtain ⟨c, r, e, h1, _⟩ := h
  exact ⟨c, r.take 15, h1, by rw [tryOf_cps, e]; rfl⟩
theorem nm_try {k : Nat} {x : Str} (h : Nm x) (hk : k < 101) : Nm (tryOf k x) := by
  obtain ⟨c, r, e, h1, h2, h3⟩ := h
  obtain ⟨d1, d2⟩ := dg_digits k hk
  refine ⟨120, Dg k ++ x.cps.toList.take 16, tryOf_cps k x, by decide, fun d hd => ?_, ?_⟩
  · rcases List.mem_append.mp hd with q | q
    · exact .inr (d1 d q)
    · have q' := List.mem_of_mem_take q
      rw [e] at q'
      rcases List.mem_cons.mp q' with z | z
      · rw [z]; exact .inl h1
      · exact h2 d z
  · rw [List.length_append, List.length_take]
    omega
abbrev feed : Str := "feed"
theorem tr_feed {k : Nat} {x : Str} (h : Tr k x) : x ≠ feed := by
  rintro rfl
  obtain ⟨c, r, _, e⟩ := h
  have e' : feed.cps.toList = [102, 101, 101, 100] := by decide +kernel
  rw [e'] at e
  cases e
theorem sub_len {α : Type} [DecidableEq α] : ∀ {l m : List α}, l.Nodup → (∀ x ∈ l, x ∈ m) → l.length ≤ m.length
  | [], _, _, _ => Nat.zero_le _
  | x :: l, m, hn, hs => by
    have hx := hs x List.mem_cons_self
    have q := sub_len (l := l) (m := m.erase x) (List.nodup_cons.mp hn).2 fun y hy => by
      have ne : y ≠ x := fun e => (List.nodup_cons.mp hn).1 (e ▸ hy)
      exact (List.mem_erase_of_ne ne).mpr (hs y (List.mem_cons_of_mem _ hy))
    rw [List.length_erase_of_mem hx] at q
    have := List.length_pos_of_mem hx
    rw [List.length_cons]
    omega
/-- ahead of the i-th turn -/
def Ahead (taken : List Str) (i : Nat) (x : Str) : Prop := Nm x ∧ ((x ∉ taken ∧ x ≠ feed) ∨ i = 0 ∨ ∃ seen : List Str, seen.length + 1 = i ∧ seen.Nodup ∧ (∀ s ∈ seen, s ∈ taken ∧ ∃ k, k + 1 < i ∧ Tr k s) ∧ Tr (i - 1) x)
theorem ahead_good {taken : List Str} {i : Nat} {x : Str} (h : Nm x) (h1 : x ∉ taken) (h2 : x ≠ feed) : Ahead taken (i + 1) x := ⟨h, .inl ⟨h1, h2⟩⟩
theorem ahead_bad {taken : List Str} {i : Nat} {x : Str} (hi : i < 101) (h : Ahead taken i x) (hb : x ∈ taken ∨ x = feed) : Ahead taken (i + 1) (tryOf i x) := by
  obtain ⟨n, h⟩ := h
  refine ⟨nm_try n hi, ?_⟩
  rcases h with ⟨h1, h2⟩ | rfl | ⟨seen, h1, h2, h3, h4⟩
  · rcases hb with q | q
    · exact absurd q h1
    · exact absurd q h2
  · exact .inr (.inr ⟨[], rfl, List.nodup_nil, (fun _ z => nomatch z), tr_try n⟩)
  · have hx : x ∈ taken := by
      rcases hb with q | q
      · exact q
      · exact absurd q (tr_feed h4)
    refine .inr (.inr ⟨x :: seen, by rw [List.length_cons]; omega, List.nodup_cons.mpr ⟨fun hm => ?_, h2⟩, fun s hs => ?_, tr_try n⟩)
    · obtain ⟨_, k, hk, ht⟩ := h3 x hm
      have := tr_inj (by omega) (by omega) ht h4
      omega
    · rcases List.mem_cons.mp hs with e | e
      · rw [e]
        exact ⟨hx, i - 1, by omega, h4⟩
      · obtain ⟨g1, k, g2, g3⟩ := h3 s e
        exact ⟨g1, k, by omega, g3⟩
theorem ahead_end {taken : List Str} {x : Str} (hl : taken.length ≤ 100) (h : Ahead taken (taken.length + 1) x) : Nm x ∧ x ∉ taken ∧ x ≠ feed := by
  obtain ⟨n, h⟩ := h
  refine ⟨n, ?_⟩
  rcases h with h | h | ⟨seen, h1, h2, h3, h4⟩
  · exact h
  · cases h
  · refine ⟨fun hx => ?_, tr_feed h4⟩
    have q := sub_len (l := x :: seen) (m := taken) (List.nodup_cons.mpr ⟨fun hm => ?_, h2⟩) fun s hs => by
      rcases List.mem_cons.mp hs with e | e
      · rw [e]; exact hx
      · exact (h3 s e).1
    · rw [List.length_cons] at q
      omega
    · obtain ⟨_, k, hk, ht⟩ := h3 x hm
      have := tr_inj (by omega) (by omega) ht h4
      omega
end Y

namespace Y
open PySem PySem.Spec PyProof.Rows L2 Ns
open C8 (pss_cut)
def txs (l : List Str) : List V := l.map V.str
def spName (K : PySem.W.Frag) : Sp := fun as H Q _ => ∃ (b a : Addr) (ts : List Str), as = [.ref b, .ref a] ∧ Bag H b ∧ SqL K (wo H b) a (txs ts) ∧ ts.length ≤ 100 ∧ (∀ t ∈ ts, Nm t) ∧ ∀ (x : Str) (H' : Hp), Nm x → x ∉ ts → x ≠ feed → Bag H' b → Sb b H H' → Q (.str x) H'
theorem dp_txs {K : PySem.W.Frag} {H : Hp} : ∀ ts : List Str, DpAll K H (txs ts) (ts.map PyData.str)
  | [] => .nil
  | t :: ts => .cons (.str t) (dp_txs ts)
theorem nm_ok {t : Str} (h : Nm t) : PyData.strOk t = true := by
  obtain ⟨c, r, e, h1, h2, _⟩ := h
  unfold PyData.strOk
  rw [Array.all_eq_true_iff_forall_mem]
  intro x hx
  have hx' : x ∈ t.cps.toList := by simpa using hx
  rw [e] at hx'
  refine decide_eq_true ?_
  rcases List.mem_cons.mp hx' with q | q
  · rw [q]; unfold isL at h1; omega
  · rcases h2 x q with z | z
    · unfold isL at z; omega
    · unfold isD at z; omega
theorem lay_txs : ∀ ts : List Str, (∀ t ∈ ts, Nm t) → PyData.canLayAll0 (ts.map PyData.str) = true ∧ PyData.depthAll (ts.map PyData.str) = 0
  | [], _ => ⟨rfl, rfl⟩
  | t :: ts, h => by
    obtain ⟨h1, h2⟩ := lay_txs ts fun t ht => h t (List.mem_cons_of_mem _ ht)
    exact ⟨by simp [PyData.canLayAll0, PyData.canLay0, h1, nm_ok (h t List.mem_cons_self)], by simp [PyData.depthAll, PyData.depth, h2]⟩
theorem shaped_txs {ts : List Str} (h : ∀ t ∈ ts, Nm t) : SeqAt.shaped (.list (ts.map PyData.str)) = true := by
  obtain ⟨h1, h2⟩ := lay_txs ts h
  simp [SeqAt.shaped, PyData.canLay0, PyData.depth, h1, h2]
theorem flat_txs (ts : List Str) : (txs ts).all flatV = true := by
  rw [List.all_eq_true]
  intro x hx
  obtain ⟨t, _, rfl⟩ := List.mem_map.mp hx
  rfl
theorem in_txs {x : Str} {ts : List Str} : inV (.str x) (txs ts) = true ↔ x ∈ ts := by
  unfold inV txs
  rw [List.any_map, List.any_eq_true]
  constructor
  · rintro ⟨y, hy, h⟩
    have e : y = x := by simpa [L2.eqV] using h
    rw [← e]; exact hy
  · intro h
    exact ⟨x, h, by simp [L2.eqV]⟩
theorem hx20 {x : Str} (h : Nm x) : x.length ≤ sizeLine := Nat.le_of_lt (small1000 (show x.length ≤ 1000 by have := h.len; omega))
section
variable {P : Program} {w : World} {K : PySem.W.Frag} {mg : Str → Option Value} {base : Heap}
theorem scN : FnScope ["bag", "taken", "letters", "signs", "name", "way", "k", "near"] ["bag", "taken"] (defScope sName) := ⟨rfl, rfl, rfl, by decide +kernel, rfl, by decide +kernel, by decide +kernel⟩
theorem ok_name {f fT fS : Addr} {fd fdT fdS : FuncData} (F : Fun K "_law_name" "_law_name" sName f fd) (T : Nat0 mg) (FT : Fun K "_law_take" "_law_take" sTake fT fdT) (mT : mg "_law_take" = some (.ref fT)) (bT : Binds K fdT ["bag", "many"] [])
    (FS : Fun K "_law_some" "_law_some" sSome fS fdS) (mS : mg "_law_some" = some (.ref fS)) (bS : Binds K fdS ["bag", "things"] []) :
    FnOk P w K mg base CX0 3 f fd ["bag", "taken"] (spName K) := by
  have GT : FnOk P w K mg base CX0 1 fT fdT ["bag", "many"] spTake := ok_take FT T
  have GS : FnOk P w K mg base CX0 2 fS fdS ["bag", "things"] (spSome K) := ok_some FS T FT mT bT
  have GZ : FnOk P w K mg base CX0 2 fS fdS ["bag", "things"] spSomeS := ok_someS FS T FT mT bT
  refine F.ok scN (fun as H Q E h => ?_) (fun cdv A outer s H as Q E hr h => ?_)
  · obtain ⟨b, a, ts, rfl, _⟩ := h
    rfl
  · obtain ⟨b, a, ts, rfl, hB, hS, hl, hn, k⟩ := h
    have hr1 : Room 1 _ := hr.mono (by decide)
    refine ⟨_, pss_cons (ps_asg (pe_tup (pa_cons pe_str (pa_cons pe_str pa_nil))) (pg_tup (by rfl) (pgs_cons (pg_name (i := 2) scN.nd rfl (.inl rfl)) (pgs_cons (pg_name (i := 3) scN.nd rfl (.inl rfl)) pgs_nil))))
      (pss_cons (ps_par (i := 4) (j := 5) rfl scN.nd rfl rfl (by decide) rfl rfl (pa_cons (pe_call GZ hr rfl mS FS.kp bS .nil pass0 (pa_cons (pv 0) (pa_cons (pv 2) pa_nil))) (pa_cons (pe_call GT hr1 rfl mT FT.kp bT .nil pass0 (pa_cons (pv 0) (pa_cons pe_int pa_nil))) pa_nil)) (by rfl))
      (pss_cons (ps_for PassesOwn.never rfl (pi_range1 (by rfl) T.range (pa_cons (pe_ix ix_list (pe_lst (pa_cons pe_int (pa_cons pe_int (pa_cons pe_int (pa_cons pe_int (pa_cons pe_int (pa_cons pe_int pa_nil))))))) (pv 5) (fun _ _ => rfl)) pa_nil)) (pg_name (i := 6) scN.nd rfl (.inl rfl))
        (pss_one (ps_set (i := 4) scN.nd rfl (.inl rfl) (pe_op op_add_str (pv 4) (pe_call GZ hr rfl mS FS.kp bS .nil pass0 (pa_cons (pv 0) (pa_cons (pv 3) pa_nil)))))))
      (pss_cut (ps_if (PW.pt (pw_and (pt_cmpR (op_neD hr.units) (pv 1) (pe_lst pa_nil) (nomark _)) (pw_and1 (pt_cmpR op_eq (pe_call GT hr1 rfl mT FT.kp bT .nil pass0 (pa_cons (pv 0) (pa_cons pe_int pa_nil))) pe_int (nomark _)))))
        (pss_cons (ps_set (i := 7) scN.nd rfl (.inl rfl) (pe_call GS hr rfl mS FS.kp bS .nil pass0 (pa_cons (pv 0) (pa_cons (pv 1) pa_nil))))
        (pss_one (ps_set (i := 4) scN.nd rfl (.inl rfl) (pe_op op_add_str (pe_ifExp (pt_cmpR op_eq (pe_call GT hr1 rfl mT FT.kp bT .nil pass0 (pa_cons (pv 0) (pa_cons pe_int pa_nil))) pe_int (nomark _)) (pe_slice sl_str (pv 7) po_none (po_some pe_int)) (pe_slice sl_str (pv 7) po_none (po_some pe_int)))
          (pe_call GZ hr rfl mS FS.kp bS .nil pass0 (pa_cons (pv 0) (pa_cons (pv 3) pa_nil))))))) pss_nil)
      (pss_cons (ps_for PassesOwn.never rfl (pi_range1 (by rfl) T.range (pa_cons (pe_op op_add (pe_callB call_len_seq (by rfl) T.len PySem.boot_len (pa_cons (pv 1) pa_nil)) pe_int) pa_nil)) (pg_name (i := 6) scN.nd rfl (.inl rfl))
        (pss_one (ps_if (PW.pt (pw_or (pt_cmpR op_in_seq (pv 4) (pv 1) (by rfl)) (pw_or1 (pt_cmpR op_eq (pv 4) pe_str (nomark _)))))
          (pss_one (ps_set (i := 4) scN.nd rfl (.inl rfl) (pe_op op_add_str (pe_op op_add_str pe_str (pe_callTy call_str_int (by rfl) T.str (by decide +kernel) (pa_cons (pv 6) pa_nil))) (pe_slice sl_str (pv 4) po_none (po_some pe_int))))) pss_nil)))
      (pss_one (ps_ret (pv 4))))))), ?_⟩
    refine ⟨by show 2 ≤ sizeLine; decide, fun p hp => ?_⟩
    refine ⟨p, _, rfl, SqT.of upd_same, rfl, ?_⟩
    have hB0 : Bag (upd H p (.tup [.str letters, .str signs])) b := hB.new hp
    have s0 : Sb b H (upd H p (.tup [.str letters, .str signs])) := (Sb.refl b H).new hp
    refine ⟨_, _, rfl, _, _, rfl, rfl, ?_⟩
    refine ⟨_, rfl, _, rfl, b, letters, rfl, hB0, by decide, by decide, fun c0 H1 hc0 hB1 s1 => ?_⟩
    refine ⟨_, rfl, b, 6, rfl, hB1, by decide, by decide, fun way H2 w0 w1 hB2 s2 => ?_⟩
    refine ⟨_, _, rfl, ?_⟩
    have s02 := (s0.trans s1).trans s2
    refine ⟨by show 6 ≤ sizeLine; decide, fun q hq => ⟨_, rfl, ?_⟩⟩
    obtain ⟨m, hm, hat⟩ : ∃ m : Nat, m ≤ 19 ∧ atI [V.int 0, V.int 1, V.int 2, V.int 5, V.int 12, V.int 19] way = some (.int m) := by
      have : way = 0 ∨ way = 1 ∨ way = 2 ∨ way = 3 ∨ way = 4 ∨ way = 5 := by omega
      rcases this with rfl | rfl | rfl | rfl | rfl | rfl
      · exact ⟨0, by decide, atI_nat (j := 0) rfl⟩
      · exact ⟨1, by decide, atI_nat (j := 1) rfl⟩
      · exact ⟨2, by decide, atI_nat (j := 2) rfl⟩
      · exact ⟨5, by decide, atI_nat (j := 3) rfl⟩
      · exact ⟨12, by decide, atI_nat (j := 4) rfl⟩
      · exact ⟨19, by decide, atI_nat (j := 5) rfl⟩
    refine ⟨q, _, way, _, rfl, rfl, SqL.of upd_same, hat, ?_⟩
    have hB3 := hB2.new (o := .lst [V.int 0, V.int 1, V.int 2, V.int 5, V.int 12, V.int 19]) hq
    have s3 := s02.new (o := .lst [V.int 0, V.int 1, V.int 2, V.int 5, V.int 12, V.int 19]) hq
    refine ⟨m, rfl, by omega, by omega, for_range (n := (m : Int).toNat) (fun i σ H' => ∃ (x : Str) (kk : Option V), σ = [some (.ref b), some (.ref a), some (.str letters), some (.str signs), some (.str x), some (.int way), kk, none] ∧ Nm x ∧ x.length ≤ i + 1 ∧ Bag H' b ∧ Sb b H H') ?_ ?_ ?_⟩
    · exact ⟨⟨#[c0]⟩, none, rfl, nm_one (letters_ok c0 hc0), Nat.le_refl 1, hB3, s3⟩
    · rintro i σ H' hi ⟨x, kk, rfl, hx, hxl, hB4, s4⟩
      refine ⟨_, rfl, _, rfl, _, rfl, b, signs, rfl, hB4, by decide, by decide, fun c H5 hc hB5 s5 => ?_⟩
      have hz : x.length ≤ 19 := by omega
      refine ⟨x, ⟨#[c]⟩, rfl, rfl, ?_, x ++ ⟨#[c]⟩, _, rfl, nm_snoc hx hz (signs_ok c hc), ?_, hB5, s4.trans s5⟩
      · exact Nat.le_of_lt (small1000 (show x.length + 1 ≤ 1000 by omega))
      · rw [strLen_append]
        show x.length + 1 ≤ _
        omega
    rintro σ H' ⟨x, kk, rfl, hx, hxl, hB4, s4⟩
    refine ⟨fun σ' H' => ∃ (x : Str) (kk nn : Option V), σ' = [some (.ref b), some (.ref a), some (.str letters), some (.str signs), some (.str x), some (.int way), kk, nn] ∧ Nm x ∧ Bag H' b ∧ Sb b H H', ?_, ?_⟩
    · refine ⟨_, rfl, by show 0 ≤ sizeLine; decide, fun r hr' => ?_⟩
      have hB5 := hB4.new (o := .lst []) hr'
      have s5 := s4.new (o := .lst []) hr'
      have hSn : SqL K (upd H' r (.lst [])) a (txs ts) := (wo_sub _ b).seq (s5.sl hS)
      refine ⟨.list (ts.map PyData.str), .list [], .lst hSn (dp_txs ts), .lst (SqL.of upd_same) .nil, shaped_txs hn, by decide +kernel, _, rfl, ?_⟩
      refine ite2 (fun hne => ?_) (fun _ => ⟨x, _, _, rfl, hx, hB5, s5⟩)
      have ne : txs ts ≠ [] := by
        rintro e
        have e' : ts = [] := List.map_eq_nil_iff.mp e
        rw [e'] at hne
        revert hne
        decide
      refine ⟨_, rfl, b, 3, rfl, hB5, by decide, by decide, fun v H6 v0 v1 hB6 s6 => ⟨rfl, _, rfl, ?_⟩⟩
      refine ite2 (fun _ => ?_) (fun _ => ⟨x, _, _, rfl, hx, hB6, s5.trans s6⟩)
      have s06 := s5.trans s6
      refine ⟨_, rfl, _, rfl, b, a, _, rfl, hB6, s06.sl hS, ne, ?_, fun y H7 hy hB7 s7 => ?_⟩
      · rw [show (txs ts).length = ts.length from List.length_map _]
        omega
      obtain ⟨t, ht, rfl⟩ := List.mem_map.mp hy
      have nt := hn t ht
      have s07 := s06.trans s7
      have tl : t.length ≤ sizeLine := Nat.le_of_lt (small1000 (show t.length ≤ 1000 by have := nt.len; omega))
      refine ⟨_, rfl, b, 2, rfl, hB7, by decide, by decide, fun v2 H8 v20 v21 hB8 s8 => ⟨rfl, _, rfl, ?_⟩⟩
      have s08 := s07.trans s8
      refine ite2 (fun _ => ?_) (fun _ => ?_)
      · refine ⟨_, rfl, _, rfl, t, rfl, tl, _, rfl, _, rfl, b, signs, rfl, hB8, by decide, by decide, fun c H9 hc hB9 s9 => ?_⟩
        obtain ⟨n1, n2⟩ : Nm (cutS t none (some (19 : Int))) ∧ (cutS t none (some (19 : Int))).length ≤ 19 := nm_cut nt (k := 19) (by decide)
        refine ⟨_, _, rfl, rfl, ?_, _, _, _, rfl, nm_snoc n1 n2 (signs_ok c hc), hB9, s08.trans s9⟩
        exact Nat.le_of_lt (small1000 (show _ + 1 ≤ 1000 by omega))
      · refine ⟨_, rfl, _, rfl, t, rfl, tl, _, rfl, _, rfl, b, signs, rfl, hB8, by decide, by decide, fun c H9 hc hB9 s9 => ?_⟩
        obtain ⟨n1, n2⟩ : Nm (cutS t none (some (1 : Int))) ∧ (cutS t none (some (1 : Int))).length ≤ 1 := nm_cut nt (k := 1) (by decide)
        refine ⟨_, _, rfl, rfl, ?_, _, _, _, rfl, nm_snoc n1 (Nat.le_trans n2 (by decide)) (signs_ok c hc), hB9, s08.trans s9⟩
        exact Nat.le_of_lt (small1000 (show _ + 1 ≤ 1000 by omega))
    rintro σ' H5 ⟨x, kk, nn, rfl, hx, hB5, s5⟩
    have tz : (txs ts).length = ts.length := List.length_map _
    refine ⟨_, rfl, a, _, rfl, .inl ((wo_sub _ b).seq (s5.sl hS)), ((txs ts).length : Nat), 1, rfl, rfl, ?_⟩
    refine ⟨_, rfl, by omega, by omega, for_range (n := (((txs ts).length : Int) + 1).toNat) (fun i σ H' => ∃ (x : Str) (kk : Option V), σ = [some (.ref b), some (.ref a), some (.str letters), some (.str signs), some (.str x), some (.int way), kk, nn] ∧ Ahead ts i x ∧ Bag H' b ∧ Sb b H H') ?_ ?_ ?_⟩
    · exact ⟨x, kk, rfl, ⟨hx, .inr (.inl rfl)⟩, hB5, s5⟩
    · rintro i σ H' hi ⟨x, kk, rfl, hA, hB6, s6⟩
      refine ⟨_, rfl, _, rfl, a, _, rfl, .inl ((wo_sub _ b).seq (s6.sl hS)), rfl, flat_txs ts, _, rfl, ?_⟩
      have i100 : i < 101 := by omega
      have xl := hx20 hA.1
      have go : ∀ (Z : Str → Hp → Prop), Z (tryOf i x) H' → Z ("x" ++ toString (0 + (i : Int)) ++ cutS x none (some 16)) H' := fun Z z => by rw [Int.zero_add]; exact z
      have l1 : (0 + (i : Int)).natAbs.log2 < 1920 := log2_small (Nat.lt_of_le_of_lt (show (0 + (i : Int)).natAbs ≤ 100 by omega) (by decide +kernel))
      have l2 : ("x" : Str).length + (toString (0 + (i : Int)) : Str).length ≤ sizeLine := by
        rw [Int.zero_add]
        have := (dg_digits i i100).2
        unfold Dg at this
        rw [len_cps] at this
        exact Nat.le_of_lt (small1000 (show 1 + _ ≤ 1000 by omega))
      have l3 : (("x" : Str) ++ (toString (0 + (i : Int)) : Str)).length + (cutS x none (some 16)).length ≤ sizeLine := by
        rw [Int.zero_add, strLen_append]
        have := (dg_digits i i100).2
        unfold Dg at this
        rw [len_cps] at this
        have : (cutS x none (some (16 : Int))).length ≤ 16 := (nm_cut hA.1 (k := 16) (by decide)).2
        exact Nat.le_of_lt (small1000 (show 1 + _ + _ ≤ 1000 by omega))
      refine ite2 (fun hin => ?_) (fun hin => ?_)
      · refine iteT ?_
        refine ⟨_, rfl, _, rfl, l1, _, _, rfl, rfl, l2, _, rfl, _, rfl, _, rfl, xl, _, _, rfl, rfl, l3, _, _, rfl, ?_, hB6, s6⟩
        rw [Int.zero_add]
        exact ahead_bad i100 hA (.inl (in_txs.mp hin))
      · refine ⟨_, rfl, rfl, _, rfl, ?_⟩
        refine ite2 (fun heq => ?_) (fun hne => ?_)
        · refine ⟨_, rfl, _, rfl, l1, _, _, rfl, rfl, l2, _, rfl, _, rfl, _, rfl, xl, _, _, rfl, rfl, l3, _, _, rfl, ?_, hB6, s6⟩
          rw [Int.zero_add]
          exact ahead_bad i100 hA (.inr (by simpa using heq))
        · exact ⟨x, _, rfl, ahead_good hA.1 (fun z => hin (in_txs.mpr z)) (by simpa using hne), hB6, s6⟩
    · rintro σ H' ⟨x, kk, rfl, hA, hB6, s6⟩
      obtain ⟨n1, n2, n3⟩ := ahead_end (x := x) hl (by rw [tz] at hA; exact hA)
      exact ⟨_, rfl, k x H' n1 n2 n3 hB6 s6⟩
end
end Y

namespace Y
open PySem PySem.Spec PyProof.Rows L2 Ns
open C8 (pss_cut)
theorem cut_from (xs : List V) (k : Nat) : cutV xs (some (k : Int)) none = xs.drop k := by
  unfold cutV
  rw [HT.sIx_nat, HT.sIx_none]
  rcases Nat.lt_or_ge xs.length k with h | h
  · rw [Nat.min_eq_right (Nat.le_of_lt h), Nat.sub_self, List.take_zero, List.drop_of_length_le (Nat.le_of_lt h)]
  · rw [Nat.min_eq_left h]
    exact List.take_of_length_le (by rw [List.length_drop]; exact Nat.le_refl _)
theorem cut_upto (xs : List V) (k : Nat) : cutV xs none (some (k : Int)) = xs.take k := by
  unfold cutV
  rw [HT.sIx_nat, HT.sIx_none, List.drop_zero, Nat.sub_zero]
  rw [List.take_eq_take_iff]
  omega
/-- a list that stands apart from the bag -/
theorem sql_new {K : PySem.W.Frag} {H : Hp} {b p : Addr} {xs : List V} (e : H p = some (.lst xs)) (n : p ≠ b) : SqL K (wo H b) p xs := SqL.of ((wo_ne n).trans e)
theorem sqt_new {K : PySem.W.Frag} {H : Hp} {b p : Addr} {xs : List V} (e : H p = some (.tup xs)) (n : p ≠ b) : SqT K (wo H b) p xs := SqT.of ((wo_ne n).trans e)
/-- new names -/
structure Nms (ts xs : List Str) : Prop where
  nm : ∀ x ∈ xs, Nm x
  nodup : xs.Nodup
  off : ∀ x ∈ xs, x ∉ ts ∧ x ≠ feed
def spNames (K : PySem.W.Frag) : Sp := fun as H Q _ => ∃ (b a : Addr) (m : Nat) (ts : List Str), as = [.ref b, .int m, .ref a] ∧ Bag H b ∧ SqL K (wo H b) a (txs ts) ∧ ts.length + m ≤ 100 ∧ (∀ t ∈ ts, Nm t) ∧
  ∀ (p : Addr) (xs : List Str) (H' : Hp), xs.length = m → Nms ts xs → H' p = some (.lst (txs xs)) → H p = none → Bag H' b → Sb b H H' → Q (.ref p) H'
def spSize : Sp := fun as H Q _ => ∃ (b : Addr) (m : Int), as = [.ref b, .int m] ∧ Bag H b ∧ 0 ≤ m ∧ m ≤ 10 ^ 13 ∧ ∀ (v : Int) (H' : Hp), 0 ≤ v → v ≤ m → Bag H' b → Sb b H H' → Q (.int v) H'
section
variable {P : Program} {w : World} {K : PySem.W.Frag} {mg : Str → Option Value} {base : Heap}
theorem scNs : FnScope ["bag", "many", "taken", "found", "k"] ["bag", "many", "taken"] (defScope sNames) := ⟨rfl, rfl, rfl, by decide +kernel, rfl, by decide +kernel, by decide +kernel⟩
theorem ok_names {f fN : Addr} {fd fdN : FuncData} (F : Fun K "_law_names" "_law_names" sNames f fd) (T : Nat0 mg) (GN : FnOk P w K mg base CX0 3 fN fdN ["bag", "taken"] (spName K)) (FN : Fun K "_law_name" "_law_name" sName fN fdN) (mN : mg "_law_name" = some (.ref fN)) (bN : Binds K fdN ["bag", "taken"] []) :
    FnOk P w K mg base CX0 4 f fd ["bag", "many", "taken"] (spNames K) := by
  refine F.ok scNs (fun as H Q E h => ?_) (fun cdv A outer s H as Q E hr h => ?_)
  · obtain ⟨b, a, m, ts, rfl, _⟩ := h
    rfl
  · obtain ⟨b, a, m, ts, rfl, hB, hS, hl, hn, k⟩ := h
    refine ⟨_, pss_cons (ps_set (i := 3) scNs.nd rfl (.inl rfl) (pe_callTy call_list_of (by rfl) T.list_ (by decide +kernel) (pa_cons (pv 2) pa_nil)))
      (pss_cons (ps_for PassesOwn.never rfl (pi_range1 (by rfl) T.range (pa_cons (pv 1) pa_nil)) (pg_name (i := 4) scNs.nd rfl (.inl rfl))
        (pss_one (ps_expr (pe_bm PySem.F.plainAttrs_list PySem.F.slot_list_append PySem.F.type_list_append mt_append (pv 3) (pa_cons (pe_call GN hr rfl mN FN.kp bN .nil pass0 (pa_cons (pv 0) (pa_cons (pv 3) pa_nil))) pa_nil)))))
      (pss_one (ps_ret (pe_slice sl_list (pv 3) (po_some (pe_callB call_len_seq (by rfl) T.len PySem.boot_len (pa_cons (pv 2) pa_nil))) po_none)))), ?_⟩
    refine ⟨_, rfl, a, _, rfl, .inl ((wo_sub H b).seq hS), fun p hp => ?_⟩
    have npb : p ≠ b := hB.ne hp
    refine ⟨_, rfl, m, rfl, by omega, by omega, for_range (n := ((m : Int)).toNat) (fun i σ H' => ∃ (kk : Option V) (xs : List Str), σ = [some (.ref b), some (.int m), some (.ref a), some (.ref p), kk] ∧ xs.length = i ∧ Nms ts xs ∧ H' p = some (.lst (txs (ts ++ xs))) ∧ Bag H' b ∧ Sb b H H') ?_ ?_ ?_⟩
    · exact ⟨none, [], rfl, rfl, ⟨(fun _ z => nomatch z), List.nodup_nil, (fun _ z => nomatch z)⟩, by rw [upd_same, List.append_nil], hB.new hp, (Sb.refl b H).new hp⟩
    · rintro i σ H' hi ⟨kk, xs, rfl, hx, N, e, hB1, s1⟩
      have hlen : (ts ++ xs).length ≤ 100 := by rw [List.length_append]; omega
      refine ⟨_, rfl, .inl ⟨rfl, _, SqL.of e⟩, _, rfl, _, rfl, b, p, ts ++ xs, rfl, hB1, sql_new e npb, hlen, fun t ht => ?_, fun x H2 nx n1 n2 hB2 s2 => ?_⟩
      · rcases List.mem_append.mp ht with q | q
        · exact hn t q
        · exact N.nm t q
      · have e2 := s2.get e npb
        refine ⟨p, _, _, rfl, rfl, e2, small1000 ?_, ⟨_, xs ++ [x], rfl, by rw [List.length_append, hx]; rfl, ⟨fun y hy => ?_, ?_, fun y hy => ?_⟩, ?_, hB.wr hp (s1.trans s2) hB2, (s1.trans s2).wr hp⟩⟩
        · rw [show (txs (ts ++ xs)).length = (ts ++ xs).length from List.length_map _]
          omega
        · rcases List.mem_append.mp hy with q | q
          · exact N.nm y q
          · rw [List.mem_singleton.mp q]; exact nx
        · rw [List.nodup_append]
          refine ⟨N.nodup, List.nodup_cons.mpr ⟨(fun z => nomatch z), List.nodup_nil⟩, fun y hy z hz => ?_⟩
          rw [List.mem_singleton.mp hz]
          rintro rfl
          exact n1 (List.mem_append_right _ hy)
        · rcases List.mem_append.mp hy with q | q
          · exact N.off y q
          · rw [List.mem_singleton.mp q]
            exact ⟨fun z => n1 (List.mem_append_left _ z), n2⟩
        · rw [upd_same, ← List.append_assoc]
          unfold txs
          rw [List.map_append (l₁ := ts ++ xs)]
          rfl
    · rintro σ H' ⟨kk, xs, rfl, hx, N, e, hB1, s1⟩
      refine ⟨_, rfl, _, rfl, a, _, rfl, .inl ((wo_sub H' b).seq (s1.sl hS)), _, rfl, p, _, rfl, SqL.of e, fun q hq => ?_⟩
      have e4 : cutV (txs (ts ++ xs)) (some (((txs ts).length : Nat) : Int)) none = txs xs := by
        rw [cut_from]
        unfold txs
        rw [List.map_append, List.drop_left]
      rw [e4]
      exact k q xs _ (by omega) N upd_same (s1.free hq (hB1.ne hq)) (hB1.new hq) (s1.new hq)
theorem scZ : FnScope ["bag", "most", "small"] ["bag", "most"] (defScope sSize) := ⟨rfl, rfl, rfl, by decide +kernel, rfl, by decide +kernel, by decide +kernel⟩
theorem ok_size {f fT fS : Addr} {fd fdT fdS : FuncData} (F : Fun K "_law_size" "_law_size" sSize f fd) (T : Nat0 mg) (FT : Fun K "_law_take" "_law_take" sTake fT fdT) (mT : mg "_law_take" = some (.ref fT)) (bT : Binds K fdT ["bag", "many"] [])
    (FS : Fun K "_law_some" "_law_some" sSome fS fdS) (mS : mg "_law_some" = some (.ref fS)) (bS : Binds K fdS ["bag", "things"] []) :
    FnOk P w K mg base CX0 3 f fd ["bag", "most"] spSize := by
  have GT : FnOk P w K mg base CX0 1 fT fdT ["bag", "many"] spTake := ok_take FT T
  have GS : FnOk P w K mg base CX0 2 fS fdS ["bag", "things"] (spSome K) := ok_some FS T FT mT bT
  refine F.ok scZ (fun as H Q E h => ?_) (fun cdv A outer s H as Q E hr h => ?_)
  · obtain ⟨b, m, rfl, _⟩ := h
    rfl
  · obtain ⟨b, m, rfl, hB, h0, h1, k⟩ := h
    have hr1 : Room 1 _ := hr.mono (by decide)
    refine ⟨_, pss_cons (ps_set (i := 2) scZ.nd rfl (.inl rfl) (pe_call GT hr1 rfl mT FT.kp bT .nil pass0 (pa_cons (pv 0) (pa_cons (pe_op op_add (pe_callB (call_min2 rfl) (by rfl) T.min (by decide +kernel) (pa_cons (pv 1) (pa_cons pe_int pa_nil))) pe_int) pa_nil))))
      (pss_one (ps_ret (pe_call GS hr rfl mS FS.kp bS .nil pass0 (pa_cons (pv 0) (pa_cons (pe_lst (pa_cons (pv 2) (pa_cons (pv 2) (pa_cons (pv 2) (pa_cons (pe_callB (call_min2 rfl) (by rfl) T.min (by decide +kernel) (pa_cons (pv 1) (pa_cons pe_int pa_nil)))
        (pa_cons (pe_call GT hr1 rfl mT FT.kp bT .nil pass0 (pa_cons (pv 0) (pa_cons (pe_op op_add (pv 1) pe_int) pa_nil))) (pa_cons (pv 1) pa_nil))))))) pa_nil))))), ?_⟩
    have big : ((10 : Int) ^ 13 + 1).natAbs < 2 ^ 200 := by decide +kernel
    refine ⟨_, rfl, _, rfl, m, 6, rfl, _, 1, rfl, rfl, b, _, rfl, hB, ?_, ?_, fun v H1 v0 v1 hB1 s1 => ?_⟩
    · split <;> omega
    · refine Nat.lt_of_le_of_lt ?_ big
      split <;> omega
    refine ⟨_, rfl, _, rfl, _, rfl, _, rfl, _, rfl, m, 1, rfl, _, rfl, _, rfl, m, 1, rfl, rfl, b, _, rfl, hB1, by omega, Nat.lt_of_le_of_lt (show (m + 1).natAbs ≤ _ by omega) big, fun u H2 u0 u1 hB2 s2 => ?_⟩
    refine ⟨_, rfl, by show 6 ≤ sizeLine; decide, fun p hp => ?_⟩
    refine ⟨b, p, _, rfl, hB2.new hp, sql_new upd_same (hB2.ne hp), (fun z => nomatch z), by show 6 ≤ 1000000; decide, fun x H' hx hB' s' => ?_⟩
    have fin : ∀ i : Int, x = .int i → 0 ≤ i → i ≤ m → Q x H' := fun i e g0 g1 => by
      rw [e]
      exact k i H' g0 g1 hB' (((s1.trans s2).new hp).trans s')
    have v1' : v ≤ m := by
      by_cases c : (6 : Int) < m
      · rw [if_pos c] at v1; omega
      · rw [if_neg c] at v1; omega
    simp only [List.mem_cons, List.not_mem_nil, or_false] at hx
    rcases hx with rfl | rfl | rfl | rfl | rfl | rfl
    · exact fin v rfl v0 v1'
    · exact fin v rfl v0 v1'
    · exact fin v rfl v0 v1'
    · refine fin _ rfl ?_ ?_ <;> split <;> omega
    · exact fin u rfl u0 (by omega)
    · exact fin m rfl h0 (Int.le_refl m)
end
end Y

/-! MX3: such dicts made, read, walked. -/
namespace Mx
open PySem PySem.Spec PyProof.Rows L2 Ns
/-- a key of one of the two plain kinds -/
def nk : Key → NK
  | .inl i => .num i
  | .inr x => .text x
def lift (kvs : List (Key × V)) : List (NK × V × V) := kvs.map fun p => (nk p.1, kV p.1, p.2)
theorem nk_inj {a b : Key} (h : nk a = nk b) : a = b := by
  cases a <;> cases b <;> first | (injection h with h; rw [h]) | (cases h)
theorem nodup_map_inj {α β : Type} {f : α → β} (hf : ∀ a b, f a = f b → a = b) : ∀ {l : List α}, l.Nodup → (l.map f).Nodup
  | [], _ => by simp
  | a :: l, h => by
    obtain ⟨h1, h2⟩ := List.nodup_cons.mp h
    rw [List.map_cons, List.nodup_cons]
    refine ⟨fun hm => ?_, nodup_map_inj hf h2⟩
    obtain ⟨b, hb, e⟩ := List.mem_map.mp hm
    exact h1 (hf _ _ e ▸ hb)
theorem lift_ent {P : Program} {w : World} : ∀ {es : List DictEntry} {vs : List (Key × Value)} {kvs : List (Key × V)}, Pairs (mixKind P w) es vs → KV kvs vs → (∀ e ∈ es, ∃ k, (mixKind P w).is k e.key = true ∧ e.hash = (mixKind P w).hash k) → ∃ xs, es = xs.map (entN w) ∧ KX (lift kvs) xs
  | _, _, _, .nil, .nil, _ => ⟨[], rfl, .nil⟩
  | e :: es, kv :: vs, p :: kvs, .cons h1 h2 t, .cons g1 t1, hh => by
    obtain ⟨xs, e1, e2⟩ := lift_ent t t1 fun x hx => hh x (List.mem_cons_of_mem _ hx)
    obtain ⟨k, hk1, hk2⟩ := hh e List.mem_cons_self
    have ek : k = kv.1 := (mixKind P w).inj _ _ _ hk1 h1
    subst ek
    obtain ⟨eh, ekey, ev⟩ := e
    simp only at h1 h2 hk1 hk2
    refine ⟨(nk kv.1, ekey, ev) :: xs, ?_, .cons ⟨congrArg nk g1.1, ?_, by rw [h2]; exact g1.2⟩ e2⟩
    · rw [List.map_cons, ← e1]
      congr 1
      unfold entN
      rw [hk2]
      congr 1
      obtain ⟨kk, vv⟩ := kv
      cases kk <;> rfl
    · show RelV (kV p.1) ekey
      rw [g1.1]
      exact key_rel h1
section
variable {X : Cx} {e : Expr} {t : TE}
/-- a dict of the plain kind that was just made, seen as one of any kind -/
def tFix (w : World) (t : TE) : TE := fun σ H Q => t σ H fun x H1 => ∃ (a : Addr) (kvs : List (Key × V)), x = .ref a ∧ H1 a = some (.dK kvs) ∧ ∀ o, DxO w o (lift kvs) → (a == sysModules) = false → Q x (upd H1 a (objO a o))
theorem pe_fix (h : PE X e t) : PE X e (tFix X.w t) := by
  refine ⟨fun pins s σ H Q I q => ?_⟩
  refine thn (h.run pins s σ H _ I q) fun u s1 ⟨x, H1, I1, rx, a, kvs, ex, ha, q1⟩ => ?_
  subst ex
  obtain ⟨z, sy, vs, rv, o, es, ep, h1, h2, h3, h4, h5, h6⟩ := (show ObjOk X.prog X.w H1 s1.heap a (.dK kvs) from I1.hok a _ ha)
  have nd : ((lift kvs).map (·.1)).Nodup := by
    have e1 : (lift kvs).map (·.1) = (kvs.map (·.1)).map nk := by
      unfold lift
      rw [List.map_map, List.map_map]
      rfl
    rw [e1, rv.keys]
    exact nodup_map_inj (fun _ _ => nk_inj) h6
  obtain ⟨xs, g1, g2⟩ := lift_ent h5 rv fun en hen => h4 en (Array.mem_toList_iff.mp hen)
  have d : DxO X.w o (lift kvs) := ⟨h2, by unfold lift; rw [List.length_map]; exact z, nd, es, ep, xs, h3, g1, g2⟩
  have I2 : Inv X pins σ (upd H1 a (objO a o)) { s1 with heap := s1.heap, toks := s1.toks } := d_write I1 (by rw [ha]; exact True.intro) ⟨rfl, fun _ _ => rfl⟩ ⟨o, h1⟩ (objO_ok h1)
  exact ⟨.ref a, _, I2, rx, q1 o d sy⟩
end
end Mx

/-! OC: _law_odd. -/
namespace Y
open PySem PySem.Spec PyProof.Rows L2 Ns Mx
def bs : Str := ⟨(List.replicate 21 ("b" : Str).cps).foldl (· ++ ·) #[]⟩
theorem bs_len : bs.length ≤ 40 := by
  show (⟨(List.replicate 21 ("b" : Str).cps).foldl (· ++ ·) #[]⟩ : Str).length ≤ 40
  rw [mulS_len]
  decide
def oddDs : List PyData := [.none, .bool true, .bool false, .int (-1), .int 0, .int 1, .int (10 ^ Int.toNat 39), .str "", .str "a", .str "feed", .str "A", .str "a b", .str "7b", .str "a_b", .str bs, .tuple [], .list [], .dict [], .tuple [.str "a"], .tuple [.str "a", .str "b"], .tuple [.str "a", .str "b", .int 1], .list [.int 0], .tuple [.int 0], .tuple [.none], .tuple [.tuple []], .tuple [.tuple [], .tuple []], .dict [(.str "a", .int 1)], .str "\n", .tuple [.int 0, .int 1]]
theorem odd_bd : ∀ d ∈ oddDs, Bd 40 d := bdA_iff.mp (by
  unfold oddDs
  simp only [BdA, Bd, and_true, true_and]
  repeat (first | exact bs_len | (refine ⟨?_, ?_⟩) | decide)
  )
def Cd (z : Str) : Prop := ∀ c ∈ z.cps.toList, c < 200
/-- the keys that come here -/
def KP (k : NK) : Prop := (∃ z, k = .text z ∧ Cd z ∧ z.length ≤ 20) ∨ k = .num 0 ∨ ∃ zs : List Str, zs.length ≤ 2 ∧ (∀ z ∈ zs, Cd z ∧ z.length ≤ 20) ∧ k = .tup (zs.map NestedKey.text)
/-- a datum whose dict, if it is one, can be asked -/
def Th (w : World) (K : PySem.W.Frag) (H : Hp) (x : V) (d : PyData) : Prop := DatV K H x d ∧ ∀ m, d = .dict m → ∃ (a : Addr) (kvs : List (NK × V × V)) (ds : List PyData), x = .ref a ∧ Dx w K H a kvs ∧ (∀ p ∈ kvs, KP p.1) ∧ DatA K H (kvs.map (·.2.2)) ds ∧ m = (kvs.map fun p => p.1.data).zip ds
theorem th0 {w : World} {K : PySem.W.Frag} {H : Hp} {x : V} {d : PyData} (D : DatV K H x d) (n : ∀ m, d ≠ .dict m) : Th w K H x d := ⟨D, fun m e => absurd e (n m)⟩
theorem Th.more {w : World} {K : PySem.W.Frag} {H H' : Hp} {x : V} {d : PyData} (m : Same H H') (h : Th w K H x d) : Th w K H' x d := ⟨h.1.more m, fun k e => by
  obtain ⟨a, kvs, ds, h1, h2, hp, h3, h4⟩ := h.2 k e
  exact ⟨a, kvs, ds, h1, h2.more m, hp, h3.more m, h4⟩⟩
mutual
theorem key_dat {K : PySem.W.Frag} {H : Hp} : ∀ {x : V} {k : NK}, KeyV K H x k → DatV K H x k.data
  | _, _, .int i => .int i
  | _, _, .str x => .str x
  | _, _, .tup h t => by
    rw [NestedKey.data]
    exact .tup (SqT.of h) (keys_dat t)
theorem keys_dat {K : PySem.W.Frag} {H : Hp} : ∀ {xs : List V} {ks : List NK}, KeyA K H xs ks → DatA K H xs (NestedKey.datas ks)
  | _, _, .nil => .nil
  | _, _, .cons h t => .cons (key_dat h) (keys_dat t)
end
theorem keysA {K : PySem.W.Frag} {H : Hp} : ∀ {kvs : List (NK × V × V)}, (∀ p ∈ kvs, KeyV K H p.2.1 p.1 ∧ p.1.depth ≤ 8) → DatA K H (kvs.map (·.2.1)) (kvs.map fun p => p.1.data)
  | [], _ => .nil
  | p :: kvs, h => .cons (key_dat (h p List.mem_cons_self).1) (keysA fun q hq => h q (List.mem_cons_of_mem _ hq))
/-- a dict is such a thing -/
theorem th_dx {w : World} {K : PySem.W.Frag} {H : Hp} {a : Addr} {kvs : List (NK × V × V)} {ds : List PyData} (h : Dx w K H a kvs) (hp : ∀ p ∈ kvs, KP p.1) (t : DatA K H (kvs.map (·.2.2)) ds) : Th w K H (.ref a) (.dict ((kvs.map fun p => p.1.data).zip ds)) := by
  obtain ⟨o, h1, h2, h3, h4⟩ := id h
  exact ⟨.dix h1 h2.e h3 (keysA h4) t, fun m e => ⟨a, kvs, ds, rfl, h, hp, t, by injection e with e; exact e.symm⟩⟩
theorem th_at {w : World} {K : PySem.W.Frag} {H : Hp} : ∀ {xs : List V} {ds : List PyData}, Paired (Th w K H) xs ds → ∀ {x : V}, x ∈ xs → ∃ d ∈ ds, Th w K H x d
  | _, _, .cons (b := d) h t, x, hx => by
    rcases List.mem_cons.mp hx with e | e
    · exact ⟨d, List.mem_cons_self, by rw [e]; exact h⟩
    · obtain ⟨d', h1, h2⟩ := th_at t e
      exact ⟨d', List.mem_cons_of_mem _ h1, h2⟩
theorem fit_txt {z : Str} {n : Nat} (h : Cd z) (hn : 10 * z.length + 2 ≤ n) : Fit n 0 (.str z) := by
  refine ⟨by simp [PyData.showable], ?_, by simp [PyData.depth]⟩
  rw [PyData.shown_str]
  have := PySem.StrLaws.reprText_len z fun c hc => Nat.lt_trans (h c hc) (by decide)
  omega
theorem bs_cd : Cd bs := by
  show ∀ c ∈ bs.cps.toList, c < 200
  decide +kernel
theorem odd_fit : ∀ d ∈ oddDs, Fit 1000 3 d := by
  have s0 : ∀ z : Str, Cd z → z.length ≤ 40 → Fit 1000 3 (.str z) := fun z h l => (fit_txt (n := 1000) h (by omega)).mono (Nat.le_refl _) (by decide)
  intro d hd
  unfold oddDs at hd
  simp only [List.mem_cons, List.not_mem_nil, or_false] at hd
  rcases hd with rfl | rfl | rfl | rfl | rfl | rfl | rfl | rfl | rfl | rfl | rfl | rfl | rfl | rfl | rfl | rfl | rfl | rfl | rfl | rfl | rfl | rfl | rfl | rfl | rfl | rfl | rfl | rfl | rfl
  all_goals first | exact ⟨by decide +kernel, by decide +kernel, by decide +kernel⟩ | exact s0 _ bs_cd bs_len
def spOddT (w : World) (K : PySem.W.Frag) : Sp := fun as H Q _ => ∃ (b : Addr), as = [.ref b] ∧ Bag H b ∧ ∀ (x : V) (d : PyData) (H' : Hp), Th w K (wo H' b) x d → Bd 40 d → Fit 1000 3 d → Bag H' b → Sb b H H' → Q x H'
def spOdd (K : PySem.W.Frag) : Sp := fun as H Q _ => ∃ (b : Addr), as = [.ref b] ∧ Bag H b ∧ ∀ (x : V) (d : PyData) (H' : Hp), DatV K (wo H' b) x d → Bd 40 d → Bag H' b → Sb b H H' → Q x H'
section
variable {P : Program} {w : World} {K : PySem.W.Frag} {mg : Str → Option Value} {base : Heap}
theorem scO : FnScope ["bag", "some", "more"] ["bag"] (defScope sOdd) := ⟨rfl, rfl, rfl, by decide +kernel, rfl, by decide +kernel, by decide +kernel⟩
theorem ok_oddT {f fS : Addr} {fd dS : FuncData} (F : Fun K "_law_odd" "_law_odd" sOdd f fd) (FS : Fun K "_law_some" "_law_some" sSome fS dS) (mS : mg "_law_some" = some (.ref fS)) (bS : Binds K dS ["bag", "things"] [])
    (GS : FnOk P w K mg base CX0 2 fS dS ["bag", "things"] (spSome K)) : FnOk P w K mg base CX0 3 f fd ["bag"] (spOddT w K) := by
  refine F.ok scO (fun as H Q E h => ?_) (fun cdv A outer s H0 as Q E hr h => ?_)
  · obtain ⟨b, rfl, _⟩ := h
    rfl
  · obtain ⟨b, rfl, b0, k⟩ := h
    refine ⟨_, pss_cons (ps_set (i := 1) scO.nd rfl (.inl rfl) (pe_lst (pa_cons pe_non (pa_cons pe_bl (pa_cons pe_bl (pa_cons (pe_un un_neg pe_int) (pa_cons pe_int (pa_cons pe_int (pa_cons (pe_op op_pow pe_int pe_int) (pa_cons pe_str (pa_cons pe_str (pa_cons pe_str (pa_cons pe_str (pa_cons pe_str (pa_cons pe_str (pa_cons pe_str (pa_cons (pe_op op_mulStr pe_str pe_int) (pa_cons (pe_tup pa_nil) (pa_cons (pe_lst pa_nil) (pa_cons (pe_fix pe_dnewK) pa_nil))))))))))))))))))))
      (pss_cons (ps_set (i := 2) scO.nd rfl (.inl rfl) (pe_lst (pa_cons (pe_tup (pa_cons pe_str pa_nil)) (pa_cons (pe_tup (pa_cons pe_str (pa_cons pe_str pa_nil))) (pa_cons (pe_tup (pa_cons pe_str (pa_cons pe_str (pa_cons pe_int pa_nil)))) (pa_cons (pe_lst (pa_cons pe_int pa_nil)) (pa_cons (pe_tup (pa_cons pe_int pa_nil)) (pa_cons (pe_tup (pa_cons pe_non pa_nil)) (pa_cons (pe_tup (pa_cons (pe_tup pa_nil) pa_nil)) (pa_cons (pe_tup (pa_cons (pe_tup pa_nil) (pa_cons (pe_tup pa_nil) pa_nil))) (pa_cons (pe_fix (pe_disp (pps_cons pe_str pe_int pps_nil) (by rfl) (by rfl) (fun z => by cases z) (by decide))) (pa_cons pe_str (pa_cons (pe_tup (pa_cons pe_int (pa_cons pe_int pa_nil))) pa_nil)))))))))))))
      (pss_one (ps_ret (pe_call GS hr rfl mS FS.kp bS .nil pass0 (pa_cons (pv 0) (pa_cons (pe_op op_cat (pv 1) (pv 2)) pa_nil)))))), ?_⟩
    refine ⟨1, rfl, ?_⟩
    refine ⟨10, 39, rfl, rfl, ⟨by decide, by decide, by decide⟩, ?_⟩
    refine ⟨"b", 21, rfl, rfl, by decide, by decide, by decide, by decide, ?_⟩
    refine ⟨by show 0 ≤ sizeLine; decide, fun t1 u1 => ?_⟩
    have m1 := same_new (o := .tup []) (Same.refl H0) u1
    have e1 : upd H0 t1 (.tup []) t1 = some (.tup []) := upd_same
    have b1 := b0.new (o := .tup []) u1
    have n1 : t1 ≠ b := b0.ne u1
    generalize upd H0 t1 (.tup []) = H1 at m1 e1 b1 ⊢
    refine ⟨by show 0 ≤ sizeLine; decide, fun t2 u2 => ?_⟩
    have m2 := same_new (o := .lst []) (Same.refl H1) u2
    have e2 : upd H1 t2 (.lst []) t2 = some (.lst []) := upd_same
    have b2 := b1.new (o := .lst []) u2
    have n2 : t2 ≠ b := b1.ne u2
    generalize upd H1 t2 (.lst []) = H2 at m2 e2 b2 ⊢
    refine fun t3 u3 => ⟨t3, [], rfl, upd_same, fun o3 x3 s3 => ?_⟩
    rw [upd_upd]
    have m3 := same_new (o := objO t3 o3) (Same.refl H2) u3
    have e3 : upd H2 t3 (objO t3 o3) t3 = some (objO t3 o3) := upd_same
    have b3 := b2.new (o := objO t3 o3) u3
    have n3 : t3 ≠ b := b2.ne u3
    generalize upd H2 t3 (objO t3 o3) = H3 at m3 e3 b3 ⊢
    refine ⟨by show 18 ≤ sizeLine; decide, fun t4 u4 => ?_⟩
    have m4 := same_new (o := .lst [.non, .bl true, .bl false, .int (-1), .int 0, .int 1, .int (10 ^ Int.toNat 39), .str "", .str "a", .str "feed", .str "A", .str "a b", .str "7b", .str "a_b", .str ⟨(List.replicate 21 (Str.ofString "b").cps).foldl (fun x1 x2 => x1 ++ x2) #[]⟩, .ref t1, .ref t2, .ref t3]) (Same.refl H3) u4
    have e4 : upd H3 t4 (.lst [.non, .bl true, .bl false, .int (-1), .int 0, .int 1, .int (10 ^ Int.toNat 39), .str "", .str "a", .str "feed", .str "A", .str "a b", .str "7b", .str "a_b", .str ⟨(List.replicate 21 (Str.ofString "b").cps).foldl (fun x1 x2 => x1 ++ x2) #[]⟩, .ref t1, .ref t2, .ref t3]) t4 = some (.lst [.non, .bl true, .bl false, .int (-1), .int 0, .int 1, .int (10 ^ Int.toNat 39), .str "", .str "a", .str "feed", .str "A", .str "a b", .str "7b", .str "a_b", .str ⟨(List.replicate 21 (Str.ofString "b").cps).foldl (fun x1 x2 => x1 ++ x2) #[]⟩, .ref t1, .ref t2, .ref t3]) := upd_same
    have b4 := b3.new (o := .lst [.non, .bl true, .bl false, .int (-1), .int 0, .int 1, .int (10 ^ Int.toNat 39), .str "", .str "a", .str "feed", .str "A", .str "a b", .str "7b", .str "a_b", .str ⟨(List.replicate 21 (Str.ofString "b").cps).foldl (fun x1 x2 => x1 ++ x2) #[]⟩, .ref t1, .ref t2, .ref t3]) u4
    have n4 : t4 ≠ b := b3.ne u4
    generalize upd H3 t4 (.lst [.non, .bl true, .bl false, .int (-1), .int 0, .int 1, .int (10 ^ Int.toNat 39), .str "", .str "a", .str "feed", .str "A", .str "a b", .str "7b", .str "a_b", .str ⟨(List.replicate 21 (Str.ofString "b").cps).foldl (fun x1 x2 => x1 ++ x2) #[]⟩, .ref t1, .ref t2, .ref t3]) = H4 at m4 e4 b4 ⊢
    refine ⟨by show 1 ≤ sizeLine; decide, fun t5 u5 => ?_⟩
    have m5 := same_new (o := .tup [.str "a"]) (Same.refl H4) u5
    have e5 : upd H4 t5 (.tup [.str "a"]) t5 = some (.tup [.str "a"]) := upd_same
    have b5 := b4.new (o := .tup [.str "a"]) u5
    have n5 : t5 ≠ b := b4.ne u5
    generalize upd H4 t5 (.tup [.str "a"]) = H5 at m5 e5 b5 ⊢
    refine ⟨by show 2 ≤ sizeLine; decide, fun t6 u6 => ?_⟩
    have m6 := same_new (o := .tup [.str "a", .str "b"]) (Same.refl H5) u6
    have e6 : upd H5 t6 (.tup [.str "a", .str "b"]) t6 = some (.tup [.str "a", .str "b"]) := upd_same
    have b6 := b5.new (o := .tup [.str "a", .str "b"]) u6
    have n6 : t6 ≠ b := b5.ne u6
    generalize upd H5 t6 (.tup [.str "a", .str "b"]) = H6 at m6 e6 b6 ⊢
    refine ⟨by show 3 ≤ sizeLine; decide, fun t7 u7 => ?_⟩
    have m7 := same_new (o := .tup [.str "a", .str "b", .int 1]) (Same.refl H6) u7
    have e7 : upd H6 t7 (.tup [.str "a", .str "b", .int 1]) t7 = some (.tup [.str "a", .str "b", .int 1]) := upd_same
    have b7 := b6.new (o := .tup [.str "a", .str "b", .int 1]) u7
    have n7 : t7 ≠ b := b6.ne u7
    generalize upd H6 t7 (.tup [.str "a", .str "b", .int 1]) = H7 at m7 e7 b7 ⊢
    refine ⟨by show 1 ≤ sizeLine; decide, fun t8 u8 => ?_⟩
    have m8 := same_new (o := .lst [.int 0]) (Same.refl H7) u8
    have e8 : upd H7 t8 (.lst [.int 0]) t8 = some (.lst [.int 0]) := upd_same
    have b8 := b7.new (o := .lst [.int 0]) u8
    have n8 : t8 ≠ b := b7.ne u8
    generalize upd H7 t8 (.lst [.int 0]) = H8 at m8 e8 b8 ⊢
    refine ⟨by show 1 ≤ sizeLine; decide, fun t9 u9 => ?_⟩
    have m9 := same_new (o := .tup [.int 0]) (Same.refl H8) u9
    have e9 : upd H8 t9 (.tup [.int 0]) t9 = some (.tup [.int 0]) := upd_same
    have b9 := b8.new (o := .tup [.int 0]) u9
    have n9 : t9 ≠ b := b8.ne u9
    generalize upd H8 t9 (.tup [.int 0]) = H9 at m9 e9 b9 ⊢
    refine ⟨by show 1 ≤ sizeLine; decide, fun t10 u10 => ?_⟩
    have m10 := same_new (o := .tup [.non]) (Same.refl H9) u10
    have e10 : upd H9 t10 (.tup [.non]) t10 = some (.tup [.non]) := upd_same
    have b10 := b9.new (o := .tup [.non]) u10
    have n10 : t10 ≠ b := b9.ne u10
    generalize upd H9 t10 (.tup [.non]) = H10 at m10 e10 b10 ⊢
    refine ⟨by show 0 ≤ sizeLine; decide, fun t11 u11 => ?_⟩
    have m11 := same_new (o := .tup []) (Same.refl H10) u11
    have e11 : upd H10 t11 (.tup []) t11 = some (.tup []) := upd_same
    have b11 := b10.new (o := .tup []) u11
    have n11 : t11 ≠ b := b10.ne u11
    generalize upd H10 t11 (.tup []) = H11 at m11 e11 b11 ⊢
    refine ⟨by show 1 ≤ sizeLine; decide, fun t12 u12 => ?_⟩
    have m12 := same_new (o := .tup [.ref t11]) (Same.refl H11) u12
    have e12 : upd H11 t12 (.tup [.ref t11]) t12 = some (.tup [.ref t11]) := upd_same
    have b12 := b11.new (o := .tup [.ref t11]) u12
    have n12 : t12 ≠ b := b11.ne u12
    generalize upd H11 t12 (.tup [.ref t11]) = H12 at m12 e12 b12 ⊢
    refine ⟨by show 0 ≤ sizeLine; decide, fun t13 u13 => ?_⟩
    have m13 := same_new (o := .tup []) (Same.refl H12) u13
    have e13 : upd H12 t13 (.tup []) t13 = some (.tup []) := upd_same
    have b13 := b12.new (o := .tup []) u13
    have n13 : t13 ≠ b := b12.ne u13
    generalize upd H12 t13 (.tup []) = H13 at m13 e13 b13 ⊢
    refine ⟨by show 0 ≤ sizeLine; decide, fun t14 u14 => ?_⟩
    have m14 := same_new (o := .tup []) (Same.refl H13) u14
    have e14 : upd H13 t14 (.tup []) t14 = some (.tup []) := upd_same
    have b14 := b13.new (o := .tup []) u14
    have n14 : t14 ≠ b := b13.ne u14
    generalize upd H13 t14 (.tup []) = H14 at m14 e14 b14 ⊢
    refine ⟨by show 2 ≤ sizeLine; decide, fun t15 u15 => ?_⟩
    have m15 := same_new (o := .tup [.ref t13, .ref t14]) (Same.refl H14) u15
    have e15 : upd H14 t15 (.tup [.ref t13, .ref t14]) t15 = some (.tup [.ref t13, .ref t14]) := upd_same
    have b15 := b14.new (o := .tup [.ref t13, .ref t14]) u15
    have n15 : t15 ≠ b := b14.ne u15
    generalize upd H14 t15 (.tup [.ref t13, .ref t14]) = H15 at m15 e15 b15 ⊢
    refine fun t16 u16 => ⟨upd_same, [((Sum.inr "a" : Key), V.int 1)], rfl, by decide, ?_⟩
    rw [upd_upd, show mergeK [] [((Sum.inr "a" : Key), V.int 1)] = [((Sum.inr "a" : Key), V.int 1)] from rfl]
    refine ⟨t16, [((Sum.inr "a" : Key), V.int 1)], rfl, upd_same, fun o16 x16 s16 => ?_⟩
    rw [upd_upd]
    have m16 := same_new (o := objO t16 o16) (Same.refl H15) u16
    have e16 : upd H15 t16 (objO t16 o16) t16 = some (objO t16 o16) := upd_same
    have b16 := b15.new (o := objO t16 o16) u16
    have n16 : t16 ≠ b := b15.ne u16
    generalize upd H15 t16 (objO t16 o16) = H16 at m16 e16 b16 ⊢
    refine ⟨by show 2 ≤ sizeLine; decide, fun t17 u17 => ?_⟩
    have m17 := same_new (o := .tup [.int 0, .int 1]) (Same.refl H16) u17
    have e17 : upd H16 t17 (.tup [.int 0, .int 1]) t17 = some (.tup [.int 0, .int 1]) := upd_same
    have b17 := b16.new (o := .tup [.int 0, .int 1]) u17
    have n17 : t17 ≠ b := b16.ne u17
    generalize upd H16 t17 (.tup [.int 0, .int 1]) = H17 at m17 e17 b17 ⊢
    refine ⟨by show 11 ≤ sizeLine; decide, fun t18 u18 => ?_⟩
    have m18 := same_new (o := .lst [.ref t5, .ref t6, .ref t7, .ref t8, .ref t9, .ref t10, .ref t12, .ref t15, .ref t16, .str "\n", .ref t17]) (Same.refl H17) u18
    have e18 : upd H17 t18 (.lst [.ref t5, .ref t6, .ref t7, .ref t8, .ref t9, .ref t10, .ref t12, .ref t15, .ref t16, .str "\n", .ref t17]) t18 = some (.lst [.ref t5, .ref t6, .ref t7, .ref t8, .ref t9, .ref t10, .ref t12, .ref t15, .ref t16, .str "\n", .ref t17]) := upd_same
    have b18 := b17.new (o := .lst [.ref t5, .ref t6, .ref t7, .ref t8, .ref t9, .ref t10, .ref t12, .ref t15, .ref t16, .str "\n", .ref t17]) u18
    have n18 : t18 ≠ b := b17.ne u18
    generalize upd H17 t18 (.lst [.ref t5, .ref t6, .ref t7, .ref t8, .ref t9, .ref t10, .ref t12, .ref t15, .ref t16, .str "\n", .ref t17]) = H18 at m18 e18 b18 ⊢
    refine ⟨_, rfl, _, rfl, _, rfl, t4, t18, _, _, rfl, rfl, (m5.trans (m6.trans (m7.trans (m8.trans (m9.trans (m10.trans (m11.trans (m12.trans (m13.trans (m14.trans (m15.trans (m16.trans (m17.trans (m18.trans (Same.refl H18))))))))))))))) _ _ e4, e18, by show 18 + 11 ≤ sizeLine; decide, fun q hq => ?_⟩
    have f1 := (m2.trans (m3.trans (m4.trans (m5.trans (m6.trans (m7.trans (m8.trans (m9.trans (m10.trans (m11.trans (m12.trans (m13.trans (m14.trans (m15.trans (m16.trans (m17.trans (m18.trans (Same.refl H18)))))))))))))))))) _ _ e1
    have f2 := (m3.trans (m4.trans (m5.trans (m6.trans (m7.trans (m8.trans (m9.trans (m10.trans (m11.trans (m12.trans (m13.trans (m14.trans (m15.trans (m16.trans (m17.trans (m18.trans (Same.refl H18))))))))))))))))) _ _ e2
    have f3 := (m4.trans (m5.trans (m6.trans (m7.trans (m8.trans (m9.trans (m10.trans (m11.trans (m12.trans (m13.trans (m14.trans (m15.trans (m16.trans (m17.trans (m18.trans (Same.refl H18)))))))))))))))) _ _ e3
    have f5 := (m6.trans (m7.trans (m8.trans (m9.trans (m10.trans (m11.trans (m12.trans (m13.trans (m14.trans (m15.trans (m16.trans (m17.trans (m18.trans (Same.refl H18)))))))))))))) _ _ e5
    have f6 := (m7.trans (m8.trans (m9.trans (m10.trans (m11.trans (m12.trans (m13.trans (m14.trans (m15.trans (m16.trans (m17.trans (m18.trans (Same.refl H18))))))))))))) _ _ e6
    have f7 := (m8.trans (m9.trans (m10.trans (m11.trans (m12.trans (m13.trans (m14.trans (m15.trans (m16.trans (m17.trans (m18.trans (Same.refl H18)))))))))))) _ _ e7
    have f8 := (m9.trans (m10.trans (m11.trans (m12.trans (m13.trans (m14.trans (m15.trans (m16.trans (m17.trans (m18.trans (Same.refl H18))))))))))) _ _ e8
    have f9 := (m10.trans (m11.trans (m12.trans (m13.trans (m14.trans (m15.trans (m16.trans (m17.trans (m18.trans (Same.refl H18)))))))))) _ _ e9
    have f10 := (m11.trans (m12.trans (m13.trans (m14.trans (m15.trans (m16.trans (m17.trans (m18.trans (Same.refl H18))))))))) _ _ e10
    have f11 := (m12.trans (m13.trans (m14.trans (m15.trans (m16.trans (m17.trans (m18.trans (Same.refl H18)))))))) _ _ e11
    have f12 := (m13.trans (m14.trans (m15.trans (m16.trans (m17.trans (m18.trans (Same.refl H18))))))) _ _ e12
    have f13 := (m14.trans (m15.trans (m16.trans (m17.trans (m18.trans (Same.refl H18)))))) _ _ e13
    have f14 := (m15.trans (m16.trans (m17.trans (m18.trans (Same.refl H18))))) _ _ e14
    have f15 := (m16.trans (m17.trans (m18.trans (Same.refl H18)))) _ _ e15
    have f16 := (m17.trans (m18.trans (Same.refl H18))) _ _ e16
    have f17 := (m18.trans (Same.refl H18)) _ _ e17
    have M : Same H0 H18 := (m1.trans (m2.trans (m3.trans (m4.trans (m5.trans (m6.trans (m7.trans (m8.trans (m9.trans (m10.trans (m11.trans (m12.trans (m13.trans (m14.trans (m15.trans (m16.trans (m17.trans (m18.trans (Same.refl H18)))))))))))))))))))
    have D : Paired (Th w K (wo H18 b)) ([.non, .bl true, .bl false, .int (-1), .int 0, .int 1, .int (10 ^ Int.toNat 39), .str "", .str "a", .str "feed", .str "A", .str "a b", .str "7b", .str "a_b", .str ⟨(List.replicate 21 (Str.ofString "b").cps).foldl (fun x1 x2 => x1 ++ x2) #[]⟩, .ref t1, .ref t2, .ref t3] ++ [.ref t5, .ref t6, .ref t7, .ref t8, .ref t9, .ref t10, .ref t12, .ref t15, .ref t16, .str "\n", .ref t17]) oddDs := (.cons (th0 .non (fun _ z => nomatch z))
      (.cons (th0 (.bl _) (fun _ z => nomatch z))
      (.cons (th0 (.bl _) (fun _ z => nomatch z))
      (.cons (th0 (.int _) (fun _ z => nomatch z))
      (.cons (th0 (.int _) (fun _ z => nomatch z))
      (.cons (th0 (.int _) (fun _ z => nomatch z))
      (.cons (th0 (.int _) (fun _ z => nomatch z))
      (.cons (th0 (.str _) (fun _ z => nomatch z))
      (.cons (th0 (.str _) (fun _ z => nomatch z))
      (.cons (th0 (.str _) (fun _ z => nomatch z))
      (.cons (th0 (.str _) (fun _ z => nomatch z))
      (.cons (th0 (.str _) (fun _ z => nomatch z))
      (.cons (th0 (.str _) (fun _ z => nomatch z))
      (.cons (th0 (.str _) (fun _ z => nomatch z))
      (.cons (th0 (.str _) (fun _ z => nomatch z))
      (.cons (th0 (.tup (sqt_new f1 n1) .nil) (fun _ z => nomatch z))
      (.cons (th0 (.lst (sql_new f2 n2) .nil) (fun _ z => nomatch z))
      (.cons (th_dx (kvs := []) ⟨o3, (wo_ne n3).trans f3, x3, s3, fun _ h => nomatch h⟩ (fun _ h => nomatch h) .nil)
      (.cons (th0 (.tup (sqt_new f5 n5) (.cons (.str _) .nil)) (fun _ z => nomatch z))
      (.cons (th0 (.tup (sqt_new f6 n6) (.cons (.str _) (.cons (.str _) .nil))) (fun _ z => nomatch z))
      (.cons (th0 (.tup (sqt_new f7 n7) (.cons (.str _) (.cons (.str _) (.cons (.int _) .nil)))) (fun _ z => nomatch z))
      (.cons (th0 (.lst (sql_new f8 n8) (.cons (.int _) .nil)) (fun _ z => nomatch z))
      (.cons (th0 (.tup (sqt_new f9 n9) (.cons (.int _) .nil)) (fun _ z => nomatch z))
      (.cons (th0 (.tup (sqt_new f10 n10) (.cons .non .nil)) (fun _ z => nomatch z))
      (.cons (th0 (.tup (sqt_new f12 n12) (.cons (.tup (sqt_new f11 n11) .nil) .nil)) (fun _ z => nomatch z))
      (.cons (th0 (.tup (sqt_new f15 n15) (.cons (.tup (sqt_new f13 n13) .nil) (.cons (.tup (sqt_new f14 n14) .nil) .nil))) (fun _ z => nomatch z))
      (.cons (th_dx (kvs := [(.text "a", .str "a", .int 1)]) ⟨o16, (wo_ne n16).trans f16, x16, s16, fun p hp => by rw [List.mem_singleton.mp hp]; exact ⟨.str _, by decide⟩⟩ (fun p hp => by rw [List.mem_singleton.mp hp]; exact .inl ⟨_, rfl, by show ∀ c ∈ ("a" : Str).cps.toList, c < 200; decide +kernel, by decide +kernel⟩) (.cons (.int 1) .nil))
      (.cons (th0 (.str _) (fun _ z => nomatch z))
      (.cons (th0 (.tup (sqt_new f17 n17) (.cons (.int _) (.cons (.int _) .nil))) (fun _ z => nomatch z))
      .nil)))))))))))))))))))))))))))))
    clear m1 e1 m2 e2 m3 e3 m4 e4 m5 e5 m6 e6 m7 e7 m8 e8 m9 e9 m10 e10 m11 e11 m12 e12 m13 e13 m14 e14 m15 e15 m16 e16 m17 e17
    refine ⟨b, q, _, rfl, b18.new hq, sql_new upd_same (b18.ne hq), (fun z => nomatch z), by show 29 ≤ 1000000; decide, fun x H' hx hB' s' => ?_⟩
    obtain ⟨d, hd, Dx⟩ := th_at D hx
    exact k x d H' ((Dx.more (wo_same (same_new (Same.refl _) hq))).more s'.1) (odd_bd d hd) (odd_fit d hd) hB' (((Sb.refl b H0).same (same_new M hq)).trans s')
theorem ok_odd {f fS : Addr} {fd dS : FuncData} (F : Fun K "_law_odd" "_law_odd" sOdd f fd) (FS : Fun K "_law_some" "_law_some" sSome fS dS) (mS : mg "_law_some" = some (.ref fS)) (bS : Binds K dS ["bag", "things"] [])
    (GS : FnOk P w K mg base CX0 2 fS dS ["bag", "things"] (spSome K)) : FnOk P w K mg base CX0 3 f fd ["bag"] (spOdd K) := by
  refine (ok_oddT F FS mS bS GS).imp fun vs H Q E h => ?_
  obtain ⟨b, rfl, b0, k⟩ := h
  exact ⟨b, rfl, b0, fun x d H' t bd _ => k x d H' t.1 bd⟩
end
end Y


/-! OD: whole numbers and counts among any values. -/
namespace Y
open PySem PySem.Spec PyProof.Rows L2 Ns
def isInt : PyData → Bool | .int _ => true | _ => false
def isCnt : PyData → Bool | .int i => decide (0 ≤ i) | _ => false
theorem isInt_and (d : PyData) : isInt d = (qI d && !qB d) := by cases d <;> rfl
/-- what tells something of any value -/
def spTells (K : PySem.W.Frag) (f : PyData → Bool) : Sp := fun as H Q _ => ∃ (x : V) (d : PyData), as = [x] ∧ DatV K H x d ∧ Q (.bl (f d)) H
section
variable {P : Program} {w : World} {K : PySem.W.Frag} {mg : Str → Option Value} {base : Heap}
theorem scWh : FnScope ["thing"] ["thing"] (defScope sWhole) := ⟨rfl, rfl, rfl, by decide +kernel, rfl, by decide +kernel, by decide +kernel⟩
theorem ok_whole {f : Addr} {fd : FuncData} (F : Fun K "_law_whole" "_law_whole" sWhole f fd) (T : Nat0 mg) (hB : mg "bool" = none) : FnOk P w K mg base CX0 1 f fd ["thing"] (spTells K isInt) := by
  refine F.ok scWh (fun as H Q E h => ?_) (fun cdv A outer s H as Q E hr h => ?_)
  · obtain ⟨x, d, rfl, _⟩ := h
    rfl
  · obtain ⟨x, d, rfl, D, k⟩ := h
    refine ⟨_, pss_one (ps_ret (pe_and (pe_callB (call_isD kit_I) (by rfl) T.isi (by decide +kernel) (pa_cons (pv 0) (pa_cons (pe_bltn (v := .ty "int") (by rfl) T.int (by decide +kernel) rfl) pa_nil)))
      (pe_one (pe_not (pe_callB (call_isD kit_B) (by rfl) T.isi (by decide +kernel) (pa_cons (pv 0) (pa_cons (pe_bltn (v := .ty "bool") (by rfl) hB (by decide +kernel) rfl) pa_nil))))))), ?_⟩
    rw [isInt_and] at k
    refine ⟨_, rfl, x, d, rfl, D, qI d, rfl, ?_⟩
    refine ite2 (fun h => ?_) (fun h => ?_)
    · refine ⟨_, rfl, x, d, rfl, D, qB d, rfl, ?_⟩
      rw [h] at k
      exact k
    · rw [Bool.eq_false_iff.mpr h] at k
      exact k
theorem scII : FnScope ["thing"] ["thing"] (defScope sIsInteger) := ⟨rfl, rfl, rfl, by decide +kernel, rfl, by decide +kernel, by decide +kernel⟩
theorem ok_isInteger {f : Addr} {fd : FuncData} (F : Fun K "is_integer" "is_integer" sIsInteger f fd) (T : Nat0 mg) (hB : mg "bool" = none) : FnOk P w K mg base CX0 1 f fd ["thing"] (spTells K isInt) := by
  refine F.ok scII (fun as H Q E h => ?_) (fun cdv A outer s H as Q E hr h => ?_)
  · obtain ⟨x, d, rfl, _⟩ := h
    rfl
  · obtain ⟨x, d, rfl, D, k⟩ := h
    refine ⟨_, pss_one (ps_ret (pe_and (pe_callB (call_isD kit_I) (by rfl) T.isi (by decide +kernel) (pa_cons (pv 0) (pa_cons (pe_bltn (v := .ty "int") (by rfl) T.int (by decide +kernel) rfl) pa_nil)))
      (pe_one (pe_not (pe_callB (call_isD kit_B) (by rfl) T.isi (by decide +kernel) (pa_cons (pv 0) (pa_cons (pe_bltn (v := .ty "bool") (by rfl) hB (by decide +kernel) rfl) pa_nil))))))), ?_⟩
    rw [isInt_and] at k
    refine ⟨_, rfl, x, d, rfl, D, qI d, rfl, ?_⟩
    refine ite2 (fun h => ?_) (fun h => ?_)
    · refine ⟨_, rfl, x, d, rfl, D, qB d, rfl, ?_⟩
      rw [h] at k
      exact k
    · rw [Bool.eq_false_iff.mpr h] at k
      exact k
theorem isInt_int {d : PyData} (h : isInt d = true) : ∃ i, d = .int i := by cases d <;> first | exact ⟨_, rfl⟩ | cases h
theorem dat_int {K : PySem.W.Frag} {H : Hp} {x : V} {i : Int} (D : DatV K H x (.int i)) : x = .int i := by cases D; rfl
theorem scIC : FnScope ["thing"] ["thing"] (defScope sIsCount) := ⟨rfl, rfl, rfl, by decide +kernel, rfl, by decide +kernel, by decide +kernel⟩
theorem ok_isCount {f fI : Addr} {fd dI : FuncData} (F : Fun K "is_count" "is_count" sIsCount f fd) (GI : FnOk P w K mg base CX0 1 fI dI ["thing"] (spTells K isInt)) (FI : Fun K "is_integer" "is_integer" sIsInteger fI dI) (mI : mg "is_integer" = some (.ref fI)) (bI : Binds K dI ["thing"] []) :
    FnOk P w K mg base CX0 2 f fd ["thing"] (spTells K isCnt) := by
  refine F.ok scIC (fun as H Q E h => ?_) (fun cdv A outer s H as Q E hr h => ?_)
  · obtain ⟨x, d, rfl, _⟩ := h
    rfl
  · obtain ⟨x, d, rfl, D, k⟩ := h
    refine ⟨_, pss_one (ps_ret (pe_and (pe_call GI hr rfl mI FI.kp bI .nil pass0 (pa_cons (pv 0) pa_nil)) (pe_one (pe_cmpR op_ge (pv 0) pe_int (nomark _))))), ?_⟩
    refine ⟨_, rfl, x, d, rfl, D, isInt d, rfl, ?_⟩
    refine ite2 (fun h => ?_) (fun h => ?_)
    · obtain ⟨i, rfl⟩ := isInt_int h
      cases dat_int D
      exact ⟨_, rfl, _, _, rfl, rfl, k⟩
    · have e : isCnt d = false := by cases d <;> first | rfl | exact absurd rfl h
      rw [e] at k
      exact k
end
end Y

/-! cables and cars: what is known of them; dicts of pairs -/
namespace Y
open PySem PySem.Spec PyProof.Rows L2 Ns
open PySem.W (dataLe)
abbrev Cab := Str × Str × Int
abbrev Car := Str × Str × Int × Int
def ckey (c : Cab) : Str × Str := (c.1, c.2.1)
/-- a dict of pairs, its entries -/
def kvs (fs : List ((Str × Str) × Int)) : List (List Key × V) := fs.map fun f => (pK f.1, .int f.2)
theorem pK_inj {k j : Str × Str} (h : pK k = pK j) : k = j := by
  obtain ⟨a, b⟩ := k
  obtain ⟨c, d⟩ := j
  injection h with h1 h2
  injection h2 with h2 _
  injection h1 with h1
  injection h2 with h2
  exact Prod.ext h1 h2
def put (fs : List ((Str × Str) × Int)) (k : Str × Str) (v : Int) : List ((Str × Str) × Int) := if (fs.any fun f => decide (f.1 = k)) = true then fs.map (fun f => if f.1 = k then (f.1, v) else f) else fs ++ [(k, v)]
theorem kvs_any (k : Str × Str) : ∀ fs : List ((Str × Str) × Int), ((kvs fs).any fun kv => decide (kv.1 = pK k)) = fs.any fun f => decide (f.1 = k)
  | [] => rfl
  | f :: fs => by
    have ih := kvs_any k fs
    unfold kvs at ih ⊢
    rw [List.map_cons, List.any_cons, List.any_cons, ih]
    congr 1
    rw [decide_eq_decide]
    exact ⟨fun h => pK_inj h, fun h => by rw [h]⟩
theorem kvs_put (fs : List ((Str × Str) × Int)) (k : Str × Str) (v : Int) : putK (kvs fs) (pK k) (.int v) = kvs (put fs k v) := by
  unfold putK put
  rw [kvs_any]
  by_cases h : (fs.any fun f => decide (f.1 = k)) = true
  · rw [if_pos h, if_pos h]
    unfold kvs
    rw [List.map_map, List.map_map]
    apply List.map_congr_left
    intro f _
    by_cases e : f.1 = k
    · simp [e]
    · have e' : ¬ pK f.1 = pK k := fun z => e (pK_inj z)
      simp [e, e']
  · rw [if_neg h, if_neg h]
    unfold kvs
    rw [List.map_append]
    rfl
/-- what a dict of drawn cables holds -/
structure Fs (ns : List Str) (most : Int) (many : Nat) (fs : List ((Str × Str) × Int)) : Prop where
  len : fs.length ≤ many
  nodup : (fs.map (·.1)).Nodup
  each : ∀ f ∈ fs, f.1.1 ≠ f.1.2 ∧ f.1.1 ∈ feed :: ns ∧ f.1.2 ∈ ns ∧ 0 ≤ f.2 ∧ f.2 ≤ most
theorem Fs.nil (ns : List Str) (most : Int) (many : Nat) : Fs ns most many [] := ⟨Nat.zero_le _, List.nodup_nil, fun _ z => nomatch z⟩
theorem Fs.put {ns : List Str} {most v : Int} {many : Nat} {fs : List ((Str × Str) × Int)} {s e : Str} (h : Fs ns most many fs) (hl : fs.length < many) (h1 : s ≠ e) (h2 : s ∈ feed :: ns) (h3 : e ∈ ns) (h4 : 0 ≤ v) (h5 : v ≤ most) : Fs ns most many (put fs (s, e) v) := by
  unfold Y.put
  by_cases c : (fs.any fun f => decide (f.1 = (s, e))) = true
  · rw [if_pos c]
    refine ⟨by rw [List.length_map]; exact h.len, ?_, fun f hf => ?_⟩
    · have e1 : (fs.map (fun f => if f.1 = (s, e) then (f.1, v) else f)).map (·.1) = fs.map (·.1) := by
        rw [List.map_map]
        apply List.map_congr_left
        intro f _
        by_cases z : f.1 = (s, e)
        · simp [z]
        · simp [z]
      rw [e1]
      exact h.nodup
    · obtain ⟨g, hg, rfl⟩ := List.mem_map.mp hf
      by_cases z : g.1 = (s, e)
      · rw [if_pos z]
        obtain ⟨g1, g2, g3, _⟩ := h.each g hg
        exact ⟨g1, g2, g3, h4, h5⟩
      · rw [if_neg z]
        exact h.each g hg
  · rw [if_neg c]
    have nc : (s, e) ∉ fs.map (·.1) := fun z => c (by
      obtain ⟨f, hf, ef⟩ := List.mem_map.mp z
      exact List.any_eq_true.mpr ⟨f, hf, decide_eq_true ef⟩)
    refine ⟨by rw [List.length_append]; exact hl, ?_, fun f hf => ?_⟩
    · rw [List.map_append, List.nodup_append]
      refine ⟨h.nodup, List.nodup_cons.mpr ⟨(fun z => nomatch z), List.nodup_nil⟩, fun y hy z hz => ?_⟩
      rw [List.mem_singleton.mp hz]
      rintro rfl
      exact nc hy
    · rcases List.mem_append.mp hf with q | q
      · exact h.each f q
      · rw [List.mem_singleton.mp q]
        exact ⟨h1, h2, h3, h4, h5⟩
/-- drawn cables, in their order -/
structure Cabs (ns : List Str) (most : Int) (many : Nat) (cs : List Cab) : Prop where
  len : cs.length ≤ many
  nodup : (cs.map ckey).Nodup
  each : ∀ c ∈ cs, c.1 ≠ c.2.1 ∧ c.1 ∈ feed :: ns ∧ c.2.1 ∈ ns ∧ 0 ≤ c.2.2 ∧ c.2.2 ≤ most
  srt : ∃ ks : List (Str × Str), cs.map ckey = ks.mergeSort (dataLe false pD)
/-- a cable as a value, a car -/
def CabV (K : PySem.W.Frag) (H : Hp) (x : V) (c : Cab) : Prop := ∃ t, x = .ref t ∧ SqT K H t [.str c.1, .str c.2.1, .int c.2.2]
def CarV (K : PySem.W.Frag) (H : Hp) (x : V) (c : Car) : Prop := ∃ t, x = .ref t ∧ SqT K H t [.str c.1, .str c.2.1, .int c.2.2.1, .int c.2.2.2]
theorem sqt_more {K : PySem.W.Frag} {H H' : Hp} (m : Same H H') {a : Addr} {xs : List V} (h : SqT K H a xs) : SqT K H' a xs := h.elim (fun z => .inl (z.elim (fun z => .inl (m _ _ z)) fun ⟨o, z⟩ => .inr ⟨o, m _ _ z⟩)) .inr
theorem CabV.more {K : PySem.W.Frag} {H H' : Hp} (m : Same H H') {x : V} {c : Cab} (h : CabV K H x c) : CabV K H' x c := by
  obtain ⟨t, e, q⟩ := h
  exact ⟨t, e, sqt_more m q⟩
theorem CarV.more {K : PySem.W.Frag} {H H' : Hp} (m : Same H H') {x : V} {c : Car} (h : CarV K H x c) : CarV K H' x c := by
  obtain ⟨t, e, q⟩ := h
  exact ⟨t, e, sqt_more m q⟩
theorem paired_imp {α β : Type} {R S : α → β → Prop} (k : ∀ a b, R a b → S a b) : ∀ {as : List α} {bs : List β}, Paired R as bs → Paired S as bs
  | _, _, .nil => .nil
  | _, _, .cons h t => .cons (k _ _ h) (paired_imp k t)
theorem paired_snoc {α β : Type} {R : α → β → Prop} {a : α} {b : β} (h : R a b) : ∀ {as : List α} {bs : List β}, Paired R as bs → Paired R (as ++ [a]) (bs ++ [b])
  | _, _, .nil => .cons h .nil
  | _, _, .cons g t => .cons g (paired_snoc h t)
theorem rows_nodup {ns : List Str} (N : Nms [] ns) : (feed :: ns).Nodup := List.nodup_cons.mpr ⟨fun z => (N.off _ z).2 rfl, N.nodup⟩
theorem row_ne {α : Type} {l : List α} (n : l.Nodup) {i j : Nat} {x y : α} (h : l[i]? = some x) (g : l[j]? = some y) (ne : i ≠ j) : x ≠ y := by
  rintro rfl
  exact ne ((List.getElem?_inj (List.getElem?_eq_some_iff.mp h).1 n).mp (h.trans g.symm))
theorem txs_at {l : List Str} {j : Nat} {s : Str} (h : l[j]? = some s) : (txs l)[j]? = some (.str s) := by
  unfold txs
  rw [List.getElem?_map, h]
  rfl
/-- the value of a pair in a dict of pairs -/
theorem kvs_get {fs : List ((Str × Str) × Int)} (n : (fs.map (·.1)).Nodup) {k : Str × Str} {v : Int} (h : (k, v) ∈ fs) : valV (kvs fs) (pK k) = some (.int v) := by
  induction fs with
  | nil => cases h
  | cons f fs ih =>
    rw [List.map_cons, List.nodup_cons] at n
    show valV ((pK f.1, V.int f.2) :: kvs fs) (pK k) = _
    rcases List.mem_cons.mp h with e | e
    · rw [← e]
      exact valV_pos rfl
    · rw [valV_neg (fun z => n.1 ?_)]
      · exact ih n.2 e
      · rw [show f.1 = k from pK_inj z]
        exact List.mem_map.mpr ⟨(k, v), e, rfl⟩
end Y

namespace Y
open PySem PySem.Spec PyProof.Rows L2 Ns
open C8 (pss_cut)
open PySem.W (dataLe)
def spCables (K : PySem.W.Frag) : Sp := fun as H Q _ => ∃ (b a : Addr) (ns : List Str) (many : Nat) (most : Int), as = [.ref b, .ref a, .int many, .int most] ∧ Bag H b ∧ H a = some (.lst (txs ns)) ∧ Nms [] ns ∧ ns.length ≤ 50 ∧ many ≤ 60 ∧ 2 ≤ most ∧ most ≤ 10 ^ 12 ∧
  ∀ (p : Addr) (xs : List V) (cs : List Cab) (H' : Hp), Cabs ns most many cs → H' p = some (.tup xs) → Paired (CabV K (wo H' b)) xs cs → H p = none → p ≠ b → Bag H' b → Sb b H H' → Q (.ref p) H'
theorem s3u {H : Hp} {a q : Addr} {o u : HO} (hq : H q = none) (h : H a = some u) : upd H q o a = some u := by rw [upd_ne (ne_of_none h hq)]; exact h
theorem paired_len {α β : Type} {R : α → β → Prop} : ∀ {as : List α} {bs : List β}, Paired R as bs → as.length = bs.length
  | _, _, .nil => rfl
  | _, _, .cons _ t => by rw [List.length_cons, List.length_cons, paired_len t]
/-- a new tuple of a cable -/
def CabT (H : Hp) (b : Addr) (x : V) (c : Cab) : Prop := ∃ t, x = .ref t ∧ t ≠ b ∧ H t = some (.tup [.str c.1, .str c.2.1, .int c.2.2])
theorem CabT.more {H H' : Hp} {b : Addr} (m : Same H H') {x : V} {c : Cab} (h : CabT H b x c) : CabT H' b x c := by
  obtain ⟨t, e, n, q⟩ := h
  exact ⟨t, e, n, m _ _ q⟩
theorem CabT.upd {H : Hp} {b D : Addr} {ys : List V} {o : HO} (hD : H D = some (.lst ys)) {x : V} {c : Cab} (h : CabT H b x c) : CabT (L2.upd H D o) b x c := by
  obtain ⟨t, e, n, q⟩ := h
  exact ⟨t, e, n, by rw [upd_ne (fun z => by rw [z, hD] at q; cases q)]; exact q⟩
theorem paired_at {α β : Type} {R : α → β → Prop} : ∀ {as : List α} {bs : List β}, Paired R as bs → ∀ {i : Nat} {a : α}, as[i]? = some a → ∃ b, bs[i]? = some b ∧ R a b
  | _, _, .cons h _, 0, a, e => by
    rw [List.getElem?_cons_zero] at e
    cases e
    exact ⟨_, rfl, h⟩
  | _, _, .cons _ t, i + 1, a, e => by
    rw [List.getElem?_cons_succ] at e
    exact paired_at t e
theorem ne_at {H : Hp} {a b : Addr} {o u : HO} (h : H a = some o) (g : H b = some u) (n : o ≠ u) : a ≠ b := fun e => by
  rw [e, g] at h
  exact n (Option.some.inj h).symm
/-- amid the loops -/
def CabI (H : Hp) (b a d r : Addr) (ns : List Str) (many : Nat) (most : Int) (σ : L2.St) (H' : Hp) : Prop := ∃ (kk tt cc : Option V) (fs : List ((Str × Str) × Int)), σ = [some (.ref b), some (.ref a), some (.int many), some (.int most), some (.ref d), some (.ref r), kk, tt, cc, none, none] ∧
  H' d = some (.dT (kvs fs)) ∧ H' r = some (.lst (txs (feed :: ns))) ∧ Fs ns most many fs ∧ Bag H' b ∧ Sb b H H'
theorem cab_put {H H' : Hp} {b d r : Addr} {fs : List ((Str × Str) × Int)} {s e : Str} {v : Int} {ns : List Str} (hB : Bag H b) (hd : H d = none) (hr : H r = none) (nrd : r ≠ d) (e1 : H' d = some (.dT (kvs fs))) (e2 : H' r = some (.lst (txs (feed :: ns)))) (hB' : Bag H' b) (s' : Sb b H H') :
    upd H' d (.dT (putK (kvs fs) (pK (s, e)) (.int v))) d = some (.dT (kvs (put fs (s, e) v))) ∧ upd H' d (.dT (putK (kvs fs) (pK (s, e)) (.int v))) r = some (.lst (txs (feed :: ns))) ∧ Bag (upd H' d (.dT (putK (kvs fs) (pK (s, e)) (.int v)))) b ∧ Sb b H (upd H' d (.dT (putK (kvs fs) (pK (s, e)) (.int v)))) :=
  ⟨by rw [upd_same, kvs_put], by rw [upd_ne nrd]; exact e2, hB.wr hd s' hB', s'.wr hd⟩
section
variable {P : Program} {w : World} {K : PySem.W.Frag} {mg : Str → Option Value} {base : Heap}
theorem scC : FnScope ["bag", "knots", "many", "most", "found", "rows", "k", "turn", "couple", "one", "other"] ["bag", "knots", "many", "most"] (defScope sCables) := ⟨rfl, rfl, rfl, by decide +kernel, rfl, by decide +kernel, by decide +kernel⟩
theorem ok_cables {f fT fS fZ : Addr} {fd fdT fdS fdZ : FuncData} (F : Fun K "_law_cables" "_law_cables" sCables f fd) (T : Nat0 mg) (FT : Fun K "_law_take" "_law_take" sTake fT fdT) (mT : mg "_law_take" = some (.ref fT)) (bT : Binds K fdT ["bag", "many"] [])
    (FS : Fun K "_law_some" "_law_some" sSome fS fdS) (mS : mg "_law_some" = some (.ref fS)) (bS : Binds K fdS ["bag", "things"] [])
    (GZ : FnOk P w K mg base CX0 3 fZ fdZ ["bag", "most"] spSize) (FZ : Fun K "_law_size" "_law_size" sSize fZ fdZ) (mZ : mg "_law_size" = some (.ref fZ)) (bZ : Binds K fdZ ["bag", "most"] []) :
    FnOk P w K mg base CX0 4 f fd ["bag", "knots", "many", "most"] (spCables K) := by
  have GT : FnOk P w K mg base CX0 1 fT fdT ["bag", "many"] spTake := ok_take FT T
  have GS : FnOk P w K mg base CX0 2 fS fdS ["bag", "things"] (spSome K) := ok_some FS T FT mT bT
  refine F.ok scC (fun as H Q E h => ?_) (fun cdv A outer s H as Q E hr h => ?_)
  · obtain ⟨b, a, ns, many, most, rfl, _⟩ := h
    rfl
  · obtain ⟨b, a, ns, many, most, rfl, hB, hS, N, hns, hm, hmo, hmo2, k⟩ := h
    have hr1 : Room 1 _ := hr.mono (by decide)
    have hr2 : Room 2 _ := hr.mono (by decide)
    have hu := hu_of hr
    refine ⟨_, pss_cons (ps_asg (pe_tup (pa_cons pe_dnewT (pa_cons (pe_op op_cat (pe_lst (pa_cons pe_str pa_nil)) (pv 1)) pa_nil))) (pg_tup (by rfl) (pgs_cons (pg_name (i := 4) scC.nd rfl (.inr rfl)) (pgs_cons (pg_name (i := 5) scC.nd rfl (.inl rfl)) pgs_nil))))
      (pss_cons (ps_for PassesOwn.never rfl (pi_range2 (by rfl) T.range (pa_cons pe_int (pa_cons (pe_callB call_len_seq (by rfl) T.len PySem.boot_len (pa_cons (pv 5) pa_nil)) pa_nil))) (pg_name (i := 6) scC.nd rfl (.inl rfl))
        (pss_one (ps_if (PW.pt (pw_and (pt_cmpR op_gt (pe_call GT hr1 rfl mT FT.kp bT .nil pass0 (pa_cons (pv 0) (pa_cons pe_int pa_nil))) pe_int (nomark _)) (pw_and1 (pt_cmpR op_lt (pe_callB call_len_dT (by rfl) T.len PySem.boot_len (pa_cons (pv 4) pa_nil)) (pv 2) (nomark _)))))
          (pss_one (ps_dput hu (pv 4) (pe_tup (pa_cons (pe_ix ix_list (pv 5) (pe_call GT hr1 rfl mT FT.kp bT .nil pass0 (pa_cons (pv 0) (pa_cons (pv 6) pa_nil))) (fun _ _ => rfl)) (pa_cons (pe_ix ix_list (pv 5) (pv 6) (fun _ _ => rfl)) pa_nil)))
            (pe_callB (call_max2 rfl) (by rfl) T.max (by decide +kernel) (pa_cons (pe_call GS hr2 rfl mS FS.kp bS .nil pass0 (pa_cons (pv 0) (pa_cons (pe_lst (pa_cons pe_int (pa_cons pe_int (pa_cons pe_int (pa_cons pe_int pa_nil))))) pa_nil)))
              (pa_cons (pe_call GZ hr rfl mZ FZ.kp bZ .nil pass0 (pa_cons (pv 0) (pa_cons (pv 3) pa_nil))) pa_nil))) rfl)) pss_nil)))
      (pss_cons (ps_for PassesOwn.never rfl (pi_range1 (by rfl) T.range (pa_cons (pe_call GT hr1 rfl mT FT.kp bT .nil pass0 (pa_cons (pv 0) (pa_cons (pe_op op_add (pv 2) pe_int) pa_nil))) pa_nil)) (pg_name (i := 7) scC.nd rfl (.inl rfl))
        (pss_cons (ps_set (i := 8) scC.nd rfl (.inl rfl) (pe_tup (pa_cons (pe_call GS hr2 rfl mS FS.kp bS .nil pass0 (pa_cons (pv 0) (pa_cons (pv 5) pa_nil))) (pa_cons (pe_call GS hr2 rfl mS FS.kp bS .nil pass0 (pa_cons (pv 0) (pa_cons (pv 5) pa_nil))) pa_nil))))
        (pss_one (ps_if (PW.pt (pw_and (pt_cmpR op_ne (pe_ix ix_tup (pv 8) pe_int (fun _ _ => rfl)) (pe_ix ix_tup (pv 8) pe_int (fun _ _ => rfl)) (nomark _)) (pw_and (pt_cmpR op_ne (pe_ix ix_tup (pv 8) pe_int (fun _ _ => rfl)) pe_str (nomark _))
            (pw_and1 (pt_cmpR op_lt (pe_callB call_len_dT (by rfl) T.len PySem.boot_len (pa_cons (pv 4) pa_nil)) (pv 2) (nomark _))))))
          (pss_one (ps_dput hu (pv 4) (pv 8) (pe_call GZ hr rfl mZ FZ.kp bZ .nil pass0 (pa_cons (pv 0) (pa_cons (pv 3) pa_nil))) rfl)) pss_nil))))
      (pss_one (ps_ret (pe_callTy call_tuple_of (by rfl) T.tuple (by decide +kernel) (pa_cons
        (pe_lc (own := [("one", 9), ("other", 10)]) (g := gTup K 2 (gCons (gName 9) (gCons (gName 10) gNil))) (tt := tYes) rfl scC.nd (pi_list (pe_callB (cr_sortDT rfl hr.units) (by rfl) T.sorted (by decide +kernel) (pa_cons (pv 4) pa_nil)))
          (blkOk_by (N := ["bag", "knots", "many", "most", "found", "rows", "k", "turn", "couple", "one", "other"]) (sc := defScope sCables) (by decide +kernel)) (fun _ _ _ _ _ => pg_tup rfl (pgs_cons (pg_name (i := 9) scC.nd rfl (Or.inl rfl)) (pgs_cons (pg_name (i := 10) scC.nd rfl (Or.inl rfl)) pgs_nil))) (fun _ _ _ _ _ => pts_nil)
          (fun _ _ _ _ _ => pe_tup (pa_cons (pv 9) (pa_cons (pv 10) (pa_cons (pe_dget hu (pv 4) (pe_tup (pa_cons (pv 9) (pa_cons (pv 10) pa_nil))) (fun _ _ => rfl)) pa_nil))))) pa_nil)))))), ?_⟩
    refine fun d hd => ⟨by show 1 ≤ sizeLine; decide, fun q hq => ⟨_, rfl, q, a, [.str feed], txs ns, rfl, rfl, upd_same, ?_, ?_, fun r hr' => ⟨by show 2 ≤ sizeLine; decide, fun t ht => ⟨t, _, rfl, SqT.of upd_same, rfl, _, _, rfl, _, _, rfl, rfl, ?_⟩⟩⟩⟩
    · exact same_new (same_new (Same.refl H) hd) hq _ _ hS
    · rw [show (txs ns).length = ns.length from List.length_map _]
      exact Nat.le_of_lt (small1000 (show 1 + ns.length ≤ 1000 by omega))
    have ndb : d ≠ b := hB.ne hd
    have s0 : Sb b H (upd H d (.dT [])) := (Sb.refl b H).new hd
    have s1 := s0.new (o := .lst [.str feed]) hq
    have s2 := s1.new (o := .lst ([.str feed] ++ txs ns)) hr'
    have s3 := s2.new (o := .tup [.ref d, .ref r]) ht
    have b0 := ((((hB.new (o := .dT []) hd).new (o := .lst [.str feed]) hq).new (o := .lst ([.str feed] ++ txs ns)) hr').new (o := .tup [.ref d, .ref r]) ht)
    have nrb : r ≠ b := ((hB.new (o := .dT []) hd).new (o := .lst [.str feed]) hq).ne hr'
    have fr : H r = none := s1.free hr' nrb
    have e1 : upd (upd (upd (upd H d (.dT [])) q (.lst [.str feed])) r (.lst ([.str feed] ++ txs ns))) t (.tup [.ref d, .ref r]) d = some (.dT (kvs [])) := by
      have f0 : upd H d (.dT []) d = some (.dT (kvs [])) := upd_same
      have f1 : upd (upd H d (.dT [])) q (.lst [.str feed]) d = some (.dT (kvs [])) := by rw [upd_ne (ne_of_none f0 hq)]; exact f0
      have f2 : upd (upd (upd H d (.dT [])) q (.lst [.str feed])) r (.lst ([.str feed] ++ txs ns)) d = some (.dT (kvs [])) := by rw [upd_ne (ne_of_none f1 hr')]; exact f1
      rw [upd_ne (ne_of_none f2 ht)]; exact f2
    have e2 : upd (upd (upd (upd H d (.dT [])) q (.lst [.str feed])) r (.lst ([.str feed] ++ txs ns))) t (.tup [.ref d, .ref r]) r = some (.lst (txs (feed :: ns))) := by
      have f2 : upd (upd (upd H d (.dT [])) q (.lst [.str feed])) r (.lst ([.str feed] ++ txs ns)) r = some (.lst (txs (feed :: ns))) := upd_same
      rw [upd_ne (ne_of_none f2 ht)]; exact f2
    have nrd : r ≠ d := ne_at e2 e1 (fun z => by cases z)
    have tz : (txs (feed :: ns)).length = ns.length + 1 := by show (List.map _ _).length = _; rw [List.length_map]; rfl
    have big : ((10 : Int) ^ 13).natAbs < 2 ^ 200 := by decide +kernel
    have posR : txs (feed :: ns) ≠ [] := fun z => nomatch z
    refine ⟨_, rfl, r, _, rfl, .inl (SqL.of e2), 1, ((txs (feed :: ns)).length : Int), rfl, ⟨by decide, by decide, by omega, by omega⟩, for_range (lo := 1) (n := (((txs (feed :: ns)).length : Int) - 1).toNat) (fun i σ H' => CabI H b a d r ns many most σ H') ?_ ?_ ?_⟩
    · exact ⟨none, none, none, [], rfl, e1, e2, Fs.nil _ _ _, b0, s3⟩
    · rintro i σ H' hi ⟨kk, tt, cc, fs, rfl, g1, g2, FF, hB', s'⟩
      have hi' : i < ns.length := by omega
      refine ⟨_, rfl, b, 8, rfl, hB', by decide, by decide, fun v H2 v0 v1 hB2 s2' => ⟨v, 0, rfl, rfl, _, rfl, ?_⟩⟩
      have h1 := s2'.get g1 ndb
      have h2 := s2'.get g2 nrb
      have s02 := s'.trans s2'
      refine ite2 (fun _ => ?_) (fun _ => ⟨_, tt, cc, fs, rfl, h1, h2, FF, hB2, s02⟩)
      refine ⟨_, rfl, d, _, rfl, h1, _, rfl, _, _, rfl, rfl, _, rfl, ?_⟩
      refine ite2 (fun lt => ?_) (fun _ => ⟨_, tt, cc, fs, rfl, h1, h2, FF, hB2, s02⟩)
      have hlt : fs.length < many := by
        have q := of_decide_eq_true lt
        rw [show (kvs fs).length = fs.length from List.length_map _] at q
        omega
      refine ⟨_, rfl, by show 4 ≤ sizeLine; decide, fun q4 hq4 => ⟨b, q4, _, rfl, hB2.new hq4, sql_new upd_same (hB2.ne hq4), (fun z => nomatch z), by show 4 ≤ 1000000; decide, fun x H3 hx hB3 s3' => ?_⟩⟩
      obtain ⟨c, rfl, c0, c2⟩ : ∃ c : Int, x = .int c ∧ 0 ≤ c ∧ c ≤ 2 := by
        simp only [List.mem_cons, List.not_mem_nil, or_false] at hx
        rcases hx with rfl | rfl | rfl | rfl
        · exact ⟨1, rfl, by decide, by decide⟩
        · exact ⟨2, rfl, by decide, by decide⟩
        · exact ⟨1, rfl, by decide, by decide⟩
        · exact ⟨0, rfl, by decide, by decide⟩
      have s03 := (s02.new (o := .lst [.int 1, .int 2, .int 1, .int 0]) hq4).trans s3'
      refine ⟨_, rfl, _, rfl, b, most, rfl, hB3, by omega, by omega, fun u H4 u0 u1 hB4 s4 => ⟨c, u, rfl, _, rfl, ?_⟩⟩
      have s04 := s03.trans s4
      refine ⟨_, rfl, _, rfl, _, rfl, b, _, rfl, hB4, by omega, Nat.lt_of_le_of_lt (show (1 + (i : Int)).natAbs ≤ _ by omega) big, fun j H5 j0 j1 hB5 s5 => ?_⟩
      have s05 := s04.trans s5
      obtain ⟨sx, hsx⟩ : ∃ sx, (feed :: ns)[j.toNat]? = some sx := ⟨_, List.getElem?_eq_getElem (by rw [List.length_cons]; omega)⟩
      obtain ⟨ex, hex⟩ : ∃ ex, (feed :: ns)[1 + i]? = some ex := ⟨_, List.getElem?_eq_getElem (by rw [List.length_cons]; omega)⟩
      have m1 : sx ∈ feed :: ns := List.mem_of_getElem? hsx
      have m2 : ex ∈ ns := by
        rw [Nat.add_comm, List.getElem?_cons_succ] at hex
        exact List.mem_of_getElem? hex
      have ne : sx ≠ ex := row_ne (rows_nodup N) hsx hex (by omega)
      have k1 := s5.get (s4.get (s3'.get (s3u hq4 h1) ndb) ndb) ndb
      have k2 := s5.get (s4.get (s3'.get (s3u hq4 h2) nrb) nrb) nrb
      refine ⟨r, _, j, .str sx, rfl, rfl, SqL.of k2, by rw [show j = ((j.toNat : Nat) : Int) by omega]; exact atI_nat (txs_at hsx), ?_⟩
      refine ⟨_, rfl, _, rfl, r, _, _, .str ex, rfl, rfl, SqL.of k2, by rw [show (1 + (i : Int)) = ((1 + i : Nat) : Int) by omega]; exact atI_nat (txs_at hex), ?_⟩
      refine ⟨by show 2 ≤ sizeLine; decide, fun t' ht' => ?_⟩
      have k1' : upd H5 t' (.tup [.str sx, .str ex]) d = some (.dT (kvs fs)) := by rw [upd_ne (ne_of_none k1 ht')]; exact k1
      have k2' : upd H5 t' (.tup [.str sx, .str ex]) r = some (.lst (txs (feed :: ns))) := by rw [upd_ne (ne_of_none k2 ht')]; exact k2
      have hz : (kvs fs).length < sizeLine := by
        rw [show (kvs fs).length = fs.length from List.length_map _]
        exact small1000 (by omega)
      refine ⟨d, _, rfl, DPut.t (k := pK (sx, ex)) k1' upd_same hz, ?_⟩
      obtain ⟨p1, p2, p3, p4⟩ := cab_put (s := sx) (e := ex) (v := if u > c then u else c) hB hd fr nrd k1' k2' (hB5.new ht') (s05.new ht')
      exact ⟨_, tt, cc, _, rfl, p1, p2, FF.put hlt ne m1 m2 (by split <;> omega) (by split <;> omega), p3, p4⟩
    rintro σ H' ⟨kk, tt, cc, fs, rfl, g1, g2, FF, hB', s'⟩
    refine ⟨_, rfl, _, rfl, _, _, rfl, rfl, b, _, rfl, hB', by omega, Nat.lt_of_le_of_lt (show ((many : Int) + 1).natAbs ≤ _ by omega) big, fun n H2 n0 n1 hB2 s2' => ?_⟩
    refine ⟨n, rfl, by omega, by omega, for_range (n := n.toNat) (fun i σ H' => CabI H b a d r ns many most σ H') ?_ ?_ ?_⟩
    · exact ⟨kk, tt, cc, fs, rfl, s2'.get g1 ndb, s2'.get g2 nrb, FF, hB2, s'.trans s2'⟩
    · clear g1 g2 FF hB' s' s2' hB2
      rintro i σ H3 hi ⟨kk, tt, cc, fs, rfl, g1, g2, FF, hB3, s3'⟩
      refine ⟨_, rfl, _, rfl, b, r, _, rfl, hB3, sql_new g2 nrb, posR, by omega, fun x H4 hx hB4 s4 => ?_⟩
      obtain ⟨sx, m1, rfl⟩ := List.mem_map.mp hx
      have q1 := s4.get g1 ndb
      have q2 := s4.get g2 nrb
      refine ⟨_, rfl, _, rfl, b, r, _, rfl, hB4, sql_new q2 nrb, posR, by omega, fun y H5 hy hB5 s5 => ?_⟩
      obtain ⟨ex, m2, rfl⟩ := List.mem_map.mp hy
      have s05 := (s3'.trans s4).trans s5
      have k1 := s5.get q1 ndb
      have k2 := s5.get q2 nrb
      refine ⟨by show 2 ≤ sizeLine; decide, fun t' ht' => ?_⟩
      have k1' : upd H5 t' (.tup [.str sx, .str ex]) d = some (.dT (kvs fs)) := by rw [upd_ne (ne_of_none k1 ht')]; exact k1
      have k2' : upd H5 t' (.tup [.str sx, .str ex]) r = some (.lst (txs (feed :: ns))) := by rw [upd_ne (ne_of_none k2 ht')]; exact k2
      have kt : upd H5 t' (.tup [.str sx, .str ex]) t' = some (.tup [.str sx, .str ex]) := upd_same
      have hB6 := hB5.new (o := .tup [.str sx, .str ex]) ht'
      have s06 := s05.new (o := .tup [.str sx, .str ex]) ht'
      generalize upd H5 t' (.tup [.str sx, .str ex]) = H6 at k1' k2' kt hB6 s06 ⊢
      have stay : CabI H b a d r ns many most [some (.ref b), some (.ref a), some (.int many), some (.int most), some (.ref d), some (.ref r), kk, some (.int (0 + (i : Int))), some (.ref t'), none, none] H6 := ⟨kk, _, _, fs, rfl, k1', k2', FF, hB6, s06⟩
      refine ⟨_, rfl, t', _, 0, _, rfl, rfl, SqT.of kt, at0, _, rfl, t', _, 1, _, rfl, rfl, SqT.of kt, at1, rfl, _, rfl, ?_⟩
      refine ite2 (fun ne => ?_) (fun _ => stay)
      refine ⟨_, rfl, t', _, 1, _, rfl, rfl, SqT.of kt, at1, rfl, _, rfl, ?_⟩
      refine ite2 (fun nf => ?_) (fun _ => stay)
      refine ⟨_, rfl, d, _, rfl, k1', _, rfl, _, _, rfl, rfl, _, rfl, ?_⟩
      refine ite2 (fun lt => ?_) (fun _ => stay)
      have hlt : fs.length < many := by
        have q := of_decide_eq_true lt
        rw [show (kvs fs).length = fs.length from List.length_map _] at q
        omega
      have ne' : sx ≠ ex := fun e => by
        rw [e] at ne
        simp at ne
      have nf' : ex ≠ feed := fun e => by
        rw [e] at nf
        simp at nf
      have m2' : ex ∈ ns := (List.mem_cons.mp m2).resolve_left nf'
      refine ⟨_, rfl, _, rfl, b, most, rfl, hB6, by omega, by omega, fun v H7 v0 v1 hB7 s7 => ?_⟩
      have hz : (kvs fs).length < sizeLine := by
        rw [show (kvs fs).length = fs.length from List.length_map _]
        exact small1000 (by omega)
      have ntb : t' ≠ b := hB5.ne ht'
      refine ⟨_, rfl, _, rfl, d, _, rfl, DPut.t (k := pK (sx, ex)) (s7.get k1' ndb) (s7.get kt ntb) hz, ?_⟩
      obtain ⟨p1, p2, p3, p4⟩ := cab_put (s := sx) (e := ex) (v := v) hB hd fr nrd (s7.get k1' ndb) (s7.get k2' nrb) hB7 (s06.trans s7)
      exact ⟨kk, _, _, _, rfl, p1, p2, FF.put hlt ne' m1 m2' v0 v1, p3, p4⟩
    clear g1 g2 FF hB' s' s2' hB2
    rintro σ H3 ⟨kk, tt, cc, fs, rfl, g1, g2, FF, hB3, s3'⟩
    refine ⟨_, rfl, d, kvs fs, fs.map (·.1), rfl, Rd.of g1, by unfold kvs; rw [List.map_map, List.map_map]; rfl, by rw [List.length_map]; have := FF.len; omega, fun p qs hp pq => ?_⟩
    refine ⟨p, rfl, ⟨_, .inl (.inl upd_same)⟩, fun D hD => ?_⟩
    have npd : p ≠ D := fun e => by rw [← e, upd_same] at hD; cases hD
    have hD' : H3 D = none := by rw [upd_ne npd.symm] at hD; exact hD
    refine lc_list (K := K) (a := p) (xs := qs.map V.ref) (fun i H' => ∃ (ys : List V) (cs : List Cab), H' D = some (.lst ys) ∧ ys.length = i ∧ cs.map ckey = ((fs.map (·.1)).mergeSort (dataLe false pD)).take i ∧ (∀ c ∈ cs, (ckey c, c.2.2) ∈ fs) ∧
      Paired (CabT H' b) ys cs ∧ H' p = some (.lst (qs.map V.ref)) ∧ Same H3 H' ∧ Bag H' b) ?_ ?_ ?_ ?_
    · refine ⟨[], [], upd_same, rfl, by rw [List.take_zero]; rfl, (fun _ z => nomatch z), .nil, by rw [upd_ne npd, upd_same], same_new (same_new (Same.refl H3) hp) hD, (hB3.new hp).new hD⟩
    · rintro i H' hi ⟨ys, cs, _, _, _, _, _, h, _⟩
      exact .inl (.inl h)
    · rintro i x H' hx ⟨ys, cs, h1, h2, h3, h4, h5, h6, h7, h8⟩
      rw [List.getElem?_map] at hx
      obtain ⟨t', ht', rfl⟩ := Option.map_eq_some_iff.mp hx
      obtain ⟨kx, hkx, hq'⟩ := paired_at pq ht'
      have memk : kx ∈ fs.map (·.1) := (List.mergeSort_perm _ _).mem_iff.mp (List.mem_of_getElem? hkx)
      obtain ⟨fx, hfx, rfl⟩ := List.mem_map.mp memk
      have hv : valV (kvs fs) (pK fx.1) = some (.int fx.2) := kvs_get FF.nodup hfx
      refine ⟨t', _, rfl, SqT.of (h7 _ _ hq'), rfl, _, _, rfl, _, _, rfl, rfl, ?_⟩
      refine ⟨rfl, _, rfl, _, rfl, _, rfl, _, rfl, _, rfl, by show 2 ≤ sizeLine; decide, fun u hu' => ?_⟩
      have gd : upd H' u (.tup [.str fx.1.1, .str fx.1.2]) d = some (.dT (kvs fs)) := s3u hu' (h7 _ _ g1)
      have dg := DGet.t (k := pK fx.1) gd (upd_same (H := H') (a := u) (o := .tup [.str fx.1.1, .str fx.1.2]))
      rw [hv] at dg
      refine ⟨d, _, rfl, dg, by show 3 ≤ sizeLine; decide, fun v hv' => ?_⟩
      have nvb : v ≠ b := (h8.new hu').ne hv'
      have q1 : upd (upd H' u (.tup [.str fx.1.1, .str fx.1.2])) v (.tup [.str fx.1.1, .str fx.1.2, .int fx.2]) D = some (.lst ys) := s3u hv' (s3u hu' h1)
      have nDu : D ≠ b := (hB3.new hp).ne hD
      have nvD : v ≠ D := ne_at upd_same q1 (fun z => by cases z)
      refine ⟨ys, q1, by rw [h2]; exact small1000 (by have := (List.getElem?_eq_some_iff.mp hkx).1; rw [List.length_mergeSort, List.length_map] at this; have := FF.len; omega), ?_⟩
      have s9 : Same H' (upd (upd H' u (.tup [.str fx.1.1, .str fx.1.2])) v (.tup [.str fx.1.1, .str fx.1.2, .int fx.2])) := same_new (same_new (Same.refl H') hu') hv'
      have b9 : Bag (upd (upd H' u (.tup [.str fx.1.1, .str fx.1.2])) v (.tup [.str fx.1.1, .str fx.1.2, .int fx.2])) b := (h8.new hu').new hv'
      have v9 : upd (upd H' u (.tup [.str fx.1.1, .str fx.1.2])) v (.tup [.str fx.1.1, .str fx.1.2, .int fx.2]) v = some (.tup [.str fx.1.1, .str fx.1.2, .int fx.2]) := upd_same
      generalize upd (upd H' u (.tup [.str fx.1.1, .str fx.1.2])) v (.tup [.str fx.1.1, .str fx.1.2, .int fx.2]) = H9 at q1 s9 b9 v9 ⊢
      refine ⟨ys ++ [.ref v], cs ++ [(fx.1.1, fx.1.2, fx.2)], upd_same, by rw [List.length_append, h2]; rfl, ?_, fun c hc => ?_, ?_, ?_, ?_, ?_⟩
      · rw [List.map_append, h3, List.take_succ, hkx]
        rfl
      · rcases List.mem_append.mp hc with z | z
        · exact h4 c z
        · rw [List.mem_singleton.mp z]
          exact hfx
      · exact paired_snoc ⟨v, rfl, nvb, by rw [upd_ne nvD]; exact v9⟩ (paired_imp (fun x c h => (CabT.more s9 h).upd q1) h5)
      · rw [upd_ne npd]
        exact s9 _ _ h6
      · exact same_put (h7.trans s9) hD'
      · exact hB3.wr hD' ((Sb.refl b H3).same (h7.trans s9)) b9
    · rintro H' ⟨ys, cs, h1, h2, h3, h4, h5, h6, h7, h8⟩
      refine ⟨D, ys, rfl, .inl ⟨SqL.of h1, fun l hl => ?_⟩⟩
      have nlb : l ≠ b := h8.ne hl
      have ea : cs.map ckey = (fs.map (·.1)).mergeSort (dataLe false pD) := by
        rw [h3, List.take_of_length_le]
        rw [List.length_map, ← paired_len pq]
        exact Nat.le_refl _
      have pm := List.mergeSort_perm (fs.map (·.1)) (dataLe false pD)
      have s4 : Sb b H (upd H' l (.tup ys)) := (s3'.same h7).new hl
      refine k l ys cs _ ⟨?_, ?_, fun c hc => FF.each _ (h4 c hc), _, ea⟩ upd_same ?_ ((s3'.same h7).free hl nlb) nlb (h8.new hl) s4
      · have := congrArg List.length ea
        rw [List.length_map, pm.length_eq, List.length_map] at this
        rw [this]
        exact FF.len
      · rw [ea]
        exact pm.nodup_iff.mpr FF.nodup
      · refine paired_imp (fun x c h => ?_) h5
        obtain ⟨t', e, n, q⟩ := h
        exact ⟨t', e, sqt_new (s3u hl q) n⟩
end
end Y

/-! OAy: the place of OA in laws with yards. -/
namespace Y
open PySem PySem.Spec PyProof.Rows L2 Ns
theorem fr_none {H H' : Hp} {p : Addr} (m : Same H H') (h : H' p = none) : H p = none := by
  cases e : H p with
  | none => rfl
  | some o => rw [m _ _ e] at h; cases h
end Y

/-! OE: _law_bent_word. -/
namespace Y
open PySem PySem.Spec PyProof.Rows L2 Ns
def spBW : Sp := fun as H Q _ => ∃ (b : Addr) (z : Str), as = [.ref b, .str z] ∧ Bag H b ∧ z.length ≤ 300 ∧ ∀ (y : Str) (H' : Hp), y.length ≤ 2 * z.length + 4 → (Cd z → Cd y) → Bag H' b → Sb b H H' → Q (.str y) H'
theorem strs_p {xs : List Str} {p : Str → Prop} (h : ∀ z ∈ xs, p z) {x : V} (hx : x ∈ xs.map V.str) : ∃ z, x = .str z ∧ p z := by
  obtain ⟨z, hz, rfl⟩ := List.mem_map.mp hx
  exact ⟨z, rfl, h z hz⟩
theorem cd_app {a b : Str} (h : Cd a) (g : Cd b) : Cd (a ++ b) := fun c hc => by
  have e : (a ++ b).cps.toList = a.cps.toList ++ b.cps.toList := by
    show (a.cps ++ b.cps).toList = _
    exact Array.toList_append
  rw [e] at hc
  exact (List.mem_append.mp hc).elim (h c) (g c)
theorem cd_cut {z : Str} (h : Cd z) (lo hi : Option Int) : Cd (cutS z lo hi) := fun c hc => by
  unfold cutS at hc
  exact h c (List.mem_of_mem_drop (List.mem_of_mem_take (by simpa using hc)))
theorem strs_in {xs : List Str} {n : Nat} (h : ∀ z ∈ xs, z.length ≤ n) {x : V} (hx : x ∈ xs.map V.str) : ∃ z, x = .str z ∧ z.length ≤ n := by
  obtain ⟨z, hz, rfl⟩ := List.mem_map.mp hx
  exact ⟨z, rfl, h z hz⟩
section
variable {P : Program} {w : World} {K : PySem.W.Frag} {mg : Str → Option Value} {base : Heap}
theorem scBW : FnScope ["bag", "word", "at", "sign", "some"] ["bag", "word"] (defScope sBentWord) := ⟨rfl, rfl, rfl, by decide +kernel, rfl, by decide +kernel, by decide +kernel⟩
theorem ok_bentWord {f fT fS : Addr} {fd dT dS : FuncData} (F : Fun K "_law_bent_word" "_law_bent_word" sBentWord f fd) (T : Nat0 mg) (FT : Fun K "_law_take" "_law_take" sTake fT dT) (mT : mg "_law_take" = some (.ref fT)) (bT : Binds K dT ["bag", "many"] [])
    (FS : Fun K "_law_some" "_law_some" sSome fS dS) (mS : mg "_law_some" = some (.ref fS)) (bS : Binds K dS ["bag", "things"] []) : FnOk P w K mg base CX0 3 f fd ["bag", "word"] spBW := by
  have GT : FnOk P w K mg base CX0 1 fT dT ["bag", "many"] spTake := ok_take FT T
  have GS : FnOk P w K mg base CX0 2 fS dS ["bag", "things"] (spSome K) := ok_some FS T FT mT bT
  refine F.ok scBW (fun as H Q E h => ?_) (fun cdv A outer s H as Q E hr h => ?_)
  · obtain ⟨b, z, rfl, _⟩ := h
    rfl
  · obtain ⟨b, z, rfl, hB, hz, k⟩ := h
    have hr1 : Room 1 _ := hr.mono (by decide)
    refine ⟨_, pss_cons (ps_par (i := 2) (j := 3) rfl scBW.nd rfl rfl (by decide) rfl rfl (pa_cons (pe_call GT hr1 rfl mT FT.kp bT .nil pass0 (pa_cons (pv 0) (pa_cons (pe_op op_add (pe_callB call_len_str (by rfl) T.len PySem.boot_len (pa_cons (pv 1) pa_nil)) pe_int) pa_nil)))
        (pa_cons (pe_call GS hr rfl mS FS.kp bS .nil pass0 (pa_cons (pv 0) (pa_cons (pe_lst (pa_cons pe_str (pa_cons pe_str (pa_cons pe_str (pa_cons pe_str (pa_cons pe_str (pa_cons pe_str (pa_cons pe_str pa_nil)))))))) pa_nil))) pa_nil)) (by rfl))
      (pss_cons (ps_set (i := 4) scBW.nd rfl (.inl rfl) (pe_lst (pa_cons (pe_op op_add_str (pe_op op_add_str (pe_slice sl_str (pv 1) po_none (po_some (pv 2))) (pv 3)) (pe_slice sl_str (pv 1) (po_some (pv 2)) po_none))
        (pa_cons (pe_op op_add_str (pe_slice sl_str (pv 1) po_none (po_some (pv 2))) (pe_slice sl_str (pv 1) (po_some (pe_op op_add (pv 2) pe_int)) po_none))
        (pa_cons (pe_op op_add_str (pe_op op_add_str (pe_slice sl_str (pv 1) po_none (po_some (pv 2))) (pv 3)) (pe_slice sl_str (pv 1) (po_some (pe_op op_add (pv 2) pe_int)) po_none)) pa_nil)))))
      (pss_one (ps_ret (pe_call GS hr rfl mS FS.kp bS .nil pass0 (pa_cons (pv 0) (pa_cons (pe_op op_cat (pv 4) (pe_lst (pa_cons pe_str (pa_cons (pe_op op_add_str (pv 1) (pv 1)) pa_nil)))) pa_nil)))))), ?_⟩
    have zl : z.length ≤ sizeLine := Nat.le_of_lt (small1000 (by omega))
    refine ⟨_, rfl, _, rfl, z, rfl, zl, _, 1, rfl, rfl, b, _, rfl, hB, by omega, Nat.lt_of_le_of_lt (show ((z.length : Int) + 1).natAbs ≤ 1000 by omega) (by decide), fun v H1 v0 v1 B1 s1 => ?_⟩
    refine ⟨_, rfl, by show 7 ≤ sizeLine; decide, fun q hq => ⟨b, q, _, rfl, B1.new hq, sql_new upd_same (B1.ne hq), (fun z => nomatch z), by show 7 ≤ 1000000; decide, fun x H2 hx B2 s2 => ?_⟩⟩
    obtain ⟨g, rfl, gl, gc⟩ := strs_p (xs := ["z", "0", "A", " ", "_", "9", "-"]) (p := fun z => z.length ≤ 1 ∧ ∀ c ∈ z.cps.toList, c < 200) (by decide +kernel) hx
    have gc : Cd g := gc
    have s12 : Sb b H H2 := (s1.new hq).trans s2
    clear s1 s2 hx
    refine ⟨_, _, rfl, ?_⟩
    have c1 := cutS_length z none (some v)
    have c2 := cutS_length z (some v) none
    have c3 := cutS_length z (some (v + 1)) none
    have l1 : (cutS z none (some v) ++ g).length + (cutS z (some v) none).length ≤ sizeLine := by rw [strLen_append]; exact Nat.le_of_lt (small1000 (by omega))
    have l2 : (cutS z none (some v)).length + (cutS z (some (v + 1)) none).length ≤ sizeLine := Nat.le_of_lt (small1000 (by omega))
    have l3 : (cutS z none (some v) ++ g).length + (cutS z (some (v + 1)) none).length ≤ sizeLine := by rw [strLen_append]; exact Nat.le_of_lt (small1000 (by omega))
    have l0 : (cutS z none (some v)).length + g.length ≤ sizeLine := Nat.le_of_lt (small1000 (by omega))
    refine ⟨_, rfl, _, rfl, _, rfl, _, rfl, zl, _, rfl, _, _, rfl, rfl, l0, _, rfl, _, rfl, _, rfl, _, rfl, zl, _, _, rfl, rfl, l1, ?_⟩
    refine ⟨_, rfl, _, rfl, _, rfl, _, rfl, zl, _, rfl, _, rfl, _, _, rfl, rfl, _, rfl, _, rfl, zl, _, _, rfl, rfl, l2, ?_⟩
    refine ⟨_, rfl, _, rfl, _, rfl, _, rfl, zl, _, rfl, _, _, rfl, rfl, l0, _, rfl, _, rfl, _, _, rfl, rfl, _, rfl, _, rfl, zl, _, _, rfl, rfl, l3, ?_⟩
    refine ⟨by show 3 ≤ sizeLine; decide, fun q2 hq2 => ?_⟩
    have ll : z.length + z.length ≤ sizeLine := Nat.le_of_lt (small1000 (by omega))
    refine ⟨_, rfl, _, rfl, _, rfl, _, rfl, _, _, rfl, rfl, ll, by show 2 ≤ sizeLine; decide, fun q3 hq3 => ⟨q2, q3, _, _, rfl, rfl, s3u hq3 upd_same, upd_same, by show 3 + 2 ≤ sizeLine; decide, fun q4 hq4 => ?_⟩⟩
    refine ⟨b, q4, _, rfl, ((B2.new hq2).new hq3).new hq4, sql_new upd_same (((B2.new hq2).new hq3).ne hq4), (fun z => nomatch z), by show 5 ≤ 1000000; decide, fun x H3 hx B3 s3 => ?_⟩
    obtain ⟨y, rfl, yl, yc⟩ := strs_p (xs := [cutS z none (some v) ++ g ++ cutS z (some v) none, cutS z none (some v) ++ cutS z (some (v + 1)) none, cutS z none (some v) ++ g ++ cutS z (some (v + 1)) none, "feed", z ++ z]) (p := fun y => y.length ≤ 2 * z.length + 4 ∧ (Cd z → Cd y)) (fun u hu => by
      simp only [List.mem_cons, List.not_mem_nil, or_false] at hu
      rcases hu with rfl | rfl | rfl | rfl | rfl
      · exact ⟨by rw [strLen_append, strLen_append]; omega, fun h => cd_app (cd_app (cd_cut h _ _) gc) (cd_cut h _ _)⟩
      · exact ⟨by rw [strLen_append]; omega, fun h => cd_app (cd_cut h _ _) (cd_cut h _ _)⟩
      · exact ⟨by rw [strLen_append, strLen_append]; omega, fun h => cd_app (cd_app (cd_cut h _ _) gc) (cd_cut h _ _)⟩
      · exact ⟨by show 4 ≤ _; omega, fun _ => by show ∀ c ∈ ("feed" : Str).cps.toList, c < 200; decide +kernel⟩
      · exact ⟨by rw [strLen_append]; omega, fun h => cd_app h h⟩) hx
    exact k y H3 yl yc B3 ((((s12.new hq2).new hq3).new hq4).trans s3)
end
end Y

/-! OF: _law_bent, for each depth. -/
namespace Y
open PySem PySem.Spec PyProof.Rows L2 Ns
open C8 (pss_cut)
theorem datA_cut {K : PySem.W.Frag} {H : Hp} {xs : List V} {ds : List PyData} (h : DatA K H xs ds) (lo hi : Option Int) : ∃ es, DatA K H (cutV xs lo hi) es ∧ (∀ e ∈ es, e ∈ ds) ∧ es.length ≤ ds.length := by
  refine ⟨_, datA_take (datA_drop h _) _, fun e he => List.mem_of_mem_drop (List.mem_of_mem_take he), ?_⟩
  rw [List.length_take, List.length_drop]
  omega
theorem cut_one (xs : List V) : (cutV xs none (some 1)).length ≤ 1 := by
  unfold cutV
  rw [List.length_take, show HT.sIx xs.length xs.length (some 1) = min 1 xs.length from HT.sIx_nat _ _ 1]
  have := Nat.min_le_left 1 xs.length
  omega
theorem sbT {K : PySem.W.Frag} {b p : Addr} {H H' : Hp} {xs : List V} (s : Sb b H H') (B : Bag H b) (h : SqT K H p xs) : SqT K H' p xs := sqt_more (wo_sub H' b) (sqt_more s.1 (sqt_wo' h B))
theorem dat_tup {K : PySem.W.Frag} {H : Hp} {x : V} {d : PyData} (D : DatV K H x d) (h : qT d = true) : ∃ a xs ds, x = .ref a ∧ d = .tuple ds ∧ SqT K H a xs ∧ DatA K H xs ds := by
  cases D with
  | tup h1 h2 => exact ⟨_, _, _, rfl, rfl, h1, h2⟩
  | _ => cases h
theorem dat_str {K : PySem.W.Frag} {H : Hp} {x : V} {d : PyData} (D : DatV K H x d) (h : qS d = true) : ∃ z, x = .str z ∧ d = .str z := by
  cases D with
  | str z => exact ⟨z, rfl, rfl⟩
  | _ => cases h
theorem dat_whole {K : PySem.W.Frag} {H : Hp} {x : V} {d : PyData} (D : DatV K H x d) (h : qI d = true) (g : ¬ qB d = true) : ∃ i, x = .int i ∧ d = .int i := by
  cases D with
  | int i => exact ⟨i, rfl, rfl⟩
  | bl b => exact absurd rfl g
  | _ => cases h
theorem str_int {i : Int} {w : Nat} (h : i.natAbs < 10 ^ w) (hw : w ≤ 300) : (toString i : Str).length ≤ w + 2 ∧ i.natAbs.log2 < 1920 := by
  have h' : i.natAbs < 10 ^ (w + 1) := pow_up h (Nat.le_succ w)
  have f := fit_int (i := i) (n := w + 1) (by omega) h' (by omega)
  refine ⟨?_, ?_⟩
  · have := f.2.1
    exact this
  · refine log2_small (Nat.lt_trans h' (Nat.lt_of_le_of_lt (Nat.pow_le_pow_right (by decide) (show w + 1 ≤ 301 by omega)) (by decide +kernel)))
/-- a value with one part otherwise, at most n deep -/
def spBent (K : PySem.W.Frag) (n : Nat) : Sp := fun as H Q _ => ∃ (b : Addr) (x : V) (d : PyData) (w : Nat), as = [.ref b, x, .int (n : Int)] ∧ Bag H b ∧ DatV K (wo H b) x d ∧ Bd w d ∧ w ≤ 300 ∧
  ∀ (x' : V) (d' : PyData) (H' : Hp), DatV K (wo H' b) x' d' → Bd (3 * w + 40) d' → Bag H' b → Sb b H H' → Q x' H'
def spLess (K : PySem.W.Frag) : Nat → Sp
  | 0 => fun _ _ _ _ => False
  | n + 1 => spBent K n
section
variable {P : Program} {w : World} {K : PySem.W.Frag} {mg : Str → Option Value} {base : Heap}
theorem scBe : FnScope ["bag", "thing", "deep", "way", "at", "some"] ["bag", "thing", "deep"] (defScope sBent) := ⟨rfl, rfl, rfl, by decide +kernel, rfl, by decide +kernel, by decide +kernel⟩
theorem ok_never {f : Addr} {fd : FuncData} (F : Fun K "_law_bent" "_law_bent" sBent f fd) : FnOk P w K mg base CX0 1 f fd ["bag", "thing", "deep"] (spLess K 0) := by
  refine F.ok scBe (fun as H Q E h => False.elim h) (fun cdv A outer s H as Q E hr h => False.elim h)
theorem bent_step {n k : Nat} {f fT fS fO fW : Addr} {fd dT dS dO dW : FuncData} (F : Fun K "_law_bent" "_law_bent" sBent f fd) (T : Nat0 mg) (hBo : mg "bool" = none) (mF : mg "_law_bent" = some (.ref f)) (bF : Binds K fd ["bag", "thing", "deep"] [])
    (GR : FnOk P w K mg base CX0 k f fd ["bag", "thing", "deep"] (spLess K n)) (hk : 3 ≤ k)
    (FT : Fun K "_law_take" "_law_take" sTake fT dT) (mT : mg "_law_take" = some (.ref fT)) (bT : Binds K dT ["bag", "many"] [])
    (FS : Fun K "_law_some" "_law_some" sSome fS dS) (mS : mg "_law_some" = some (.ref fS)) (bS : Binds K dS ["bag", "things"] [])
    (FO : Fun K "_law_odd" "_law_odd" sOdd fO dO) (mO : mg "_law_odd" = some (.ref fO)) (bO : Binds K dO ["bag"] [])
    (FW : Fun K "_law_bent_word" "_law_bent_word" sBentWord fW dW) (mW : mg "_law_bent_word" = some (.ref fW)) (bW : Binds K dW ["bag", "word"] []) : FnOk P w K mg base CX0 (k + 1) f fd ["bag", "thing", "deep"] (spBent K n) := by
  have GT : FnOk P w K mg base CX0 1 fT dT ["bag", "many"] spTake := ok_take FT T
  have GS : FnOk P w K mg base CX0 2 fS dS ["bag", "things"] (spSome K) := ok_some FS T FT mT bT
  have GO : FnOk P w K mg base CX0 3 fO dO ["bag"] (spOdd K) := ok_odd FO FS mS bS GS
  have GW : FnOk P w K mg base CX0 3 fW dW ["bag", "word"] spBW := ok_bentWord FW T FT mT bT FS mS bS
  refine F.ok scBe (fun as H Q E h => ?_) (fun cdv A outer s H as Q E hr h => ?_)
  · obtain ⟨b, x, d, w', rfl, _⟩ := h
    rfl
  · obtain ⟨b, x, d, w', rfl, hB, D, hD, hw, kk⟩ := h
    have hr1 : Room 1 _ := hr.mono (show 1 ≤ k by omega)
    have hr2 : Room 2 _ := hr.mono (show 2 ≤ k by omega)
    have hr3 : Room 3 _ := hr.mono hk
    have hu := hu_of hr
    refine ⟨_, pss_cons (ps_set (i := 3) scBe.nd rfl (.inl rfl) (pe_call GT hr1 rfl mT FT.kp bT .nil pass0 (pa_cons (pv 0) (pa_cons pe_int pa_nil))))
      (pss_cut (ps_if (PW.pt (pw_and (pt_val (pe_callB (call_isD kit_T) (by rfl) T.isi (by decide +kernel) (pa_cons (pv 1) (pa_cons (pe_bltn (v := .ty "tuple") (by rfl) T.tuple (by decide +kernel) rfl) pa_nil))))
          (pw_and (pt_cmpR (op_neE hr.units) (pv 1) (pe_tup pa_nil) (nomark _)) (pw_and (pt_cmpR op_gt (pv 2) pe_int (nomark _)) (pw_and1 (pt_cmpR op_lt (pv 3) pe_int (nomark _)))))))
        (pss_cons (ps_set (i := 4) scBe.nd rfl (.inl rfl) (pe_call GT hr1 rfl mT FT.kp bT .nil pass0 (pa_cons (pv 0) (pa_cons (pe_callB call_len_seq (by rfl) T.len PySem.boot_len (pa_cons (pv 1) pa_nil)) pa_nil))))
        (pss_one (ps_ret (pe_op op_catP (pe_op op_catP (pe_slice sl_tupP (pv 1) po_none (po_some (pv 4))) (pe_tup (pa_cons (pe_call GR hr rfl mF F.kp bF .nil pass0 (pa_cons (pv 0) (pa_cons (pe_ix ix_tup (pv 1) (pv 4) (fun _ _ => rfl)) (pa_cons (pe_op op_sub (pv 2) pe_int) pa_nil)))) pa_nil)))
          (pe_slice sl_tupP (pv 1) (po_some (pe_op op_add (pv 4) pe_int)) po_none))))) pss_nil)
      (pss_cut (ps_if (PW.pt (pw_and (pt_val (pe_callB (call_isD kit_T) (by rfl) T.isi (by decide +kernel) (pa_cons (pv 1) (pa_cons (pe_bltn (v := .ty "tuple") (by rfl) T.tuple (by decide +kernel) rfl) pa_nil)))) (pw_and1 (pt_cmpR op_lt (pv 3) pe_int (nomark _)))))
        (pss_cons (ps_set (i := 4) scBe.nd rfl (.inl rfl) (pe_call GT hr1 rfl mT FT.kp bT .nil pass0 (pa_cons (pv 0) (pa_cons (pe_op op_add (pe_callB call_len_seq (by rfl) T.len PySem.boot_len (pa_cons (pv 1) pa_nil)) pe_int) pa_nil))))
        (pss_cons (ps_set (i := 5) scBe.nd rfl (.inl rfl) (pe_lst (pa_cons (pe_callTy call_list_of (by rfl) T.list_ (by decide +kernel) (pa_cons (pv 1) pa_nil)) (pa_cons (pe_revT (pv 1)) (pa_cons (pe_op op_catP (pe_slice sl_tupP (pv 1) po_none (po_some (pv 4))) (pe_slice sl_tupP (pv 1) (po_some (pe_op op_add (pv 4) pe_int)) po_none))
            (pa_cons (pe_op op_catP (pe_op op_catP (pe_slice sl_tupP (pv 1) po_none (po_some (pv 4))) (pe_slice sl_tupP (pv 1) po_none (po_some pe_int))) (pe_slice sl_tupP (pv 1) (po_some (pv 4)) po_none)) pa_nil))))))
        (pss_one (ps_ret (pe_call GS hr2 rfl mS FS.kp bS .nil pass0 (pa_cons (pv 0) (pa_cons (pe_op op_cat (pv 5) (pe_lst (pa_cons (pe_op op_catP (pe_slice sl_tupP (pv 1) (po_some (pv 4)) po_none) (pe_slice sl_tupP (pv 1) po_none (po_some (pv 4))))
            (pa_cons (pe_op op_catP (pe_op op_catP (pe_slice sl_tupP (pv 1) po_none (po_some (pv 4))) (pe_tup (pa_cons (pe_call GO hr3 rfl mO FO.kp bO .nil pass0 (pa_cons (pv 0) pa_nil)) pa_nil))) (pe_slice sl_tupP (pv 1) (po_some (pv 4)) po_none)) pa_nil)))) pa_nil))))))) pss_nil)
      (pss_cut (ps_if (PW.pt (pw_and (pt_val (pe_callB (call_isD kit_S) (by rfl) T.isi (by decide +kernel) (pa_cons (pv 1) (pa_cons (pe_bltn (v := .ty "str") (by rfl) T.str (by decide +kernel) rfl) pa_nil)))) (pw_and1 (pt_cmpR op_lt (pv 3) pe_int (nomark _)))))
        (pss_one (ps_ret (pe_call GW hr3 rfl mW FW.kp bW .nil pass0 (pa_cons (pv 0) (pa_cons (pv 1) pa_nil))))) pss_nil)
      (pss_cut (ps_if (PW.pt (pw_and (pt_val (pe_callB (call_isD kit_I) (by rfl) T.isi (by decide +kernel) (pa_cons (pv 1) (pa_cons (pe_bltn (v := .ty "int") (by rfl) T.int (by decide +kernel) rfl) pa_nil))))
          (pw_and (pt_not (pt_val (pe_callB (call_isD kit_B) (by rfl) T.isi (by decide +kernel) (pa_cons (pv 1) (pa_cons (pe_bltn (v := .ty "bool") (by rfl) hBo (by decide +kernel) rfl) pa_nil))))) (pw_and1 (pt_cmpR op_lt (pv 3) pe_int (nomark _))))))
        (pss_one (ps_ret (pe_call GS hr2 rfl mS FS.kp bS .nil pass0 (pa_cons (pv 0) (pa_cons (pe_lst (pa_cons (pe_op op_add (pv 1) pe_int) (pa_cons (pe_op op_sub (pv 1) pe_int) (pa_cons (pe_op op_sub pe_int (pv 1)) (pa_cons (pe_cmpR op_eq (pv 1) pe_int (nomark _))
            (pa_cons (pe_callTy call_str_int (by rfl) T.str (by decide +kernel) (pa_cons (pv 1) pa_nil)) (pa_cons pe_non (pa_cons pe_int (pa_cons (pe_op op_pow pe_int pe_int) pa_nil))))))))) pa_nil))))) pss_nil)
      (pss_one (ps_ret (pe_call GO hr3 rfl mO FO.kp bO .nil pass0 (pa_cons (pv 0) pa_nil)))))))), ?_⟩
    refine ⟨_, rfl, b, 10, rfl, hB, by decide, by decide, fun way H1 w0 w1 B1 s1 => ?_⟩
    have fin : ∀ (x' : V) (d' : PyData) (H' : Hp), DatV K (wo H' b) x' d' → Bd (3 * w' + 40) d' → Bag H' b → Sb b H H' → Q x' H' := kk
    clear kk
    -- the first one
    refine ⟨fun σ' H' => σ' = [some (.ref b), some x, some (.int n), some (.int way), none, none] ∧ Bag H' b ∧ Sb b H H', ?_, ?_⟩
    · refine ⟨_, rfl, x, d, rfl, (D.more s1.1).more (wo_sub H1 b), qT d, rfl, ?_⟩
      refine ite2 (fun h => ?_) (fun _ => ⟨rfl, B1, s1⟩)
      obtain ⟨a, xs, ds, rfl, rfl, hT, hA⟩ := dat_tup D h
      simp only [Bd] at hD
      have vT : ∀ {G : Hp}, Sb b H G → SqT K G a xs := fun {G} s => sqt_more (wo_sub G b) (sqt_more s.1 hT)
      have lx := hA.len
      refine ⟨_, rfl, by show 0 ≤ sizeLine; decide, fun e he => ⟨a, e, xs, rfl, rfl, vT (s1.new he), SqT.of upd_same, _, rfl, ?_⟩⟩
      have B2 := B1.new (o := .tup []) he
      have s2 := s1.new (o := .tup []) he
      generalize upd H1 e (.tup []) = H2 at B2 s2 ⊢
      refine ite2 (fun hne => ?_) (fun _ => ⟨rfl, B2, s2⟩)
      have ne : xs ≠ [] := by simpa using hne
      refine ⟨_, rfl, _, _, rfl, rfl, _, rfl, ?_⟩
      refine ite2 (fun hn => ?_) (fun _ => ⟨rfl, B2, s2⟩)
      have hn' : (0 : Int) < n := of_decide_eq_true hn
      refine ⟨_, rfl, _, _, rfl, rfl, _, rfl, ?_⟩
      refine ite2 (fun _ => ?_) (fun _ => ⟨rfl, B2, s2⟩)
      have pos : 0 < xs.length := List.length_pos_iff.mpr ne
      refine ⟨_, rfl, _, rfl, a, xs, rfl, .inr (vT s2), b, _, rfl, B2, by omega, Nat.lt_of_le_of_lt (show ((xs.length : Int)).natAbs ≤ 1000 by omega) (by decide), fun v H3 v0 v1 B3 s3' => ?_⟩
      have s3 := s2.trans s3'
      obtain ⟨y, hy⟩ : ∃ y, xs[v.toNat]? = some y := ⟨_, List.getElem?_eq_getElem (by omega)⟩
      obtain ⟨dy, hdy, Dy⟩ := datA_at hA hy
      obtain ⟨m, rfl⟩ : ∃ m, n = m + 1 := ⟨n - 1, by omega⟩
      refine ⟨_, rfl, _, rfl, v, rfl, a, xs, rfl, vT s3, fun p1 H4 m4 q1 => ?_⟩
      have B4 := B3.keep m4
      have s4 := s3.same m4
      refine ⟨_, rfl, _, rfl, _, rfl, a, xs, v, y, rfl, rfl, vT s4, by rw [show v = ((v.toNat : Nat) : Int) by omega]; exact atI_nat hy, _, rfl, _, _, rfl, rfl, ?_⟩
      refine ⟨b, y, dy, w', by show [V.ref b, y, V.int (((m + 1 : Nat) : Int) - 1)] = _; rw [show (((m + 1 : Nat) : Int) - 1) = (m : Int) by omega], B4, Dy.more s4.1, bdA_iff.mp hD.2 _ (List.mem_of_getElem? hdy), hw, fun x5 d5 H5 D5 b5 B5 s5' => ?_⟩
      have s5 := s4.trans s5'
      refine ⟨by show 1 ≤ sizeLine; decide, fun t ht => ?_⟩
      have q1' := sbT s5' B4 q1
      have D5' := D5.more (wo_same (same_new (o := .tup [x5]) (Same.refl H5) ht))
      have q1'' := sqt_more (same_new (o := .tup [x5]) (Same.refl H5) ht) q1'
      have et : SqT K (upd H5 t (.tup [x5])) t [x5] := SqT.of upd_same
      have B6 := B5.new (o := .tup [x5]) ht
      have s6 := s5.new (o := .tup [x5]) ht
      generalize upd H5 t (.tup [x5]) = H6 at D5' q1'' et B6 s6 ⊢
      have cl1 := cutV_length xs none (some v)
      have cl2 := cutV_length xs (some (v + 1)) none
      refine ⟨p1, t, _, _, rfl, rfl, q1'', et, Nat.le_of_lt (small1000 (show (cutV xs none (some v)).length + 1 ≤ 1000 by omega)), fun p2 H7 m7 q2 => ?_⟩
      have s7 := s6.same m7
      refine ⟨_, rfl, _, rfl, _, _, rfl, rfl, _, rfl, a, xs, rfl, vT s7, fun p3 H8 m8 q3 => ?_⟩
      have s8 := s7.same m8
      refine ⟨p2, p3, _, _, rfl, rfl, sqt_more m8 q2, q3, Nat.le_of_lt (small1000 (show (cutV xs none (some v) ++ [x5]).length + (cutV xs (some (v + 1)) none).length ≤ 1000 by rw [List.length_append]; show _ + 1 + _ ≤ 1000; omega)), fun p4 H9 m9 q4 => ?_⟩
      have s9 := s8.same m9
      have B9 := ((B6.keep m7).keep m8).keep m9
      obtain ⟨e1, A1, sub1, le1⟩ := datA_cut (hA.more s9.1) none (some v)
      obtain ⟨e2, A2, sub2, le2⟩ := datA_cut (hA.more s9.1) (some (v + 1)) none
      have D9 := ((D5'.more (wo_same m7)).more (wo_same m8)).more (wo_same m9)
      refine fin (.ref p4) (.tuple (e1 ++ [d5] ++ e2)) H9 (.tup (sqt_wo' q4 B9) (datA_app (datA_app A1 (.cons D9 .nil)) A2)) ?_ B9 s9
      simp only [Bd]
      refine ⟨by rw [List.length_append, List.length_append]; show _ + 1 + _ ≤ _; omega, bdA_iff.mpr fun u hu => ?_⟩
      have old : ∀ u ∈ ds, Bd (3 * w' + 40) u := fun u hu => Bd.up (by omega) (bdA_iff.mp hD.2 u hu)
      rcases List.mem_append.mp hu with hu | hu
      · rcases List.mem_append.mp hu with hu | hu
        · exact old u (sub1 u hu)
        · rw [List.mem_singleton.mp hu]; exact b5
      · exact old u (sub2 u hu)
    clear B1 s1
    rintro σ1 H1 ⟨rfl, B1, s1⟩
    -- the second one
    refine ⟨fun σ' H' => σ' = [some (.ref b), some x, some (.int n), some (.int way), none, none] ∧ Bag H' b ∧ Sb b H H', ?_, ?_⟩
    · refine ⟨_, rfl, x, d, rfl, (D.more s1.1).more (wo_sub H1 b), qT d, rfl, ?_⟩
      refine ite2 (fun h => ?_) (fun _ => ⟨rfl, B1, s1⟩)
      obtain ⟨a, xs, ds, rfl, rfl, hT, hA⟩ := dat_tup D h
      simp only [Bd] at hD
      have vT : ∀ {G : Hp}, Sb b H G → SqT K G a xs := fun {G} s => sqt_more (wo_sub G b) (sqt_more s.1 hT)
      have lx := hA.len
      refine ⟨_, rfl, _, _, rfl, rfl, _, rfl, ?_⟩
      refine ite2 (fun _ => ?_) (fun _ => ⟨rfl, B1, s1⟩)
      refine ⟨_, rfl, _, rfl, a, xs, rfl, .inr (vT s1), _, _, rfl, rfl, b, _, rfl, B1, by omega, Nat.lt_of_le_of_lt (show ((xs.length : Int) + 1).natAbs ≤ 1000 by omega) (by decide), fun v H2 v0 v1 B2 s2' => ?_⟩
      have s2 := s1.trans s2'
      have cl1 := cutV_length xs none (some v)
      have cl2 := cutV_length xs (some (v + 1)) none
      have cl3 := cutV_length xs (some v) none
      have cl4 := cut_one xs
      refine ⟨_, rfl, a, xs, rfl, .inr (vT s2), fun l1 u1 => ?_⟩
      have M1 := same_new (o := .lst xs) (Same.refl H2) u1
      have f1 : SqL K (upd H2 l1 (.lst xs)) l1 xs := SqL.of upd_same
      have g1 : SqL K (wo (upd H2 l1 (.lst xs)) b) l1 xs := sql_new upd_same (B2.ne u1)
      generalize upd H2 l1 (.lst xs) = H3 at M1 f1 g1 ⊢
      have B3 := B2.keep M1
      have s3 := s2.same M1
      refine ⟨_, rfl, a, xs, rfl, vT s3, fun l2 u2 => ?_⟩
      have M2 := same_new (o := .tup xs.reverse) (Same.refl H3) u2
      have f2 : SqT K (upd H3 l2 (.tup xs.reverse)) l2 xs.reverse := SqT.of upd_same
      generalize upd H3 l2 (.tup xs.reverse) = H4 at M2 f2 ⊢
      have s4 := s3.same M2
      refine ⟨_, rfl, _, rfl, v, rfl, a, xs, rfl, vT s4, fun p1 H5 M3 q1 => ?_⟩
      have s5 := s4.same M3
      refine ⟨_, rfl, _, rfl, _, _, rfl, rfl, _, rfl, a, xs, rfl, vT s5, fun p2 H6 M4 q2 => ?_⟩
      have s6 := s5.same M4
      refine ⟨p1, p2, _, _, rfl, rfl, sqt_more M4 q1, q2, Nat.le_of_lt (small1000 (by omega)), fun l3 H7 M5 f3 => ?_⟩
      have s7 := s6.same M5
      refine ⟨_, rfl, _, rfl, v, rfl, a, xs, rfl, vT s7, fun p3 H8 M6 q3 => ?_⟩
      have s8 := s7.same M6
      refine ⟨_, rfl, _, rfl, a, xs, rfl, vT s8, fun p4 H9 M7 q4 => ?_⟩
      have s9 := s8.same M7
      refine ⟨p3, p4, _, _, rfl, rfl, sqt_more M7 q3, q4, Nat.le_of_lt (small1000 (by omega)), fun p5 HA M8 q5 => ?_⟩
      have sA := s9.same M8
      refine ⟨_, rfl, _, rfl, v, rfl, a, xs, rfl, vT sA, fun p6 HB M9 q6 => ?_⟩
      have sB := sA.same M9
      have l5 : (cutV xs none (some v) ++ cutV xs none (some 1)).length ≤ xs.length + 1 := by rw [List.length_append]; omega
      refine ⟨p5, p6, _, _, rfl, rfl, sqt_more M9 q5, q6, Nat.le_of_lt (small1000 (by omega)), fun l4 HC MA f4 => ?_⟩
      have sC := sB.same MA
      have BC := ((((((((B3.keep M2).keep M3).keep M4).keep M5).keep M6).keep M7).keep M8).keep M9).keep MA
      have MM : Same H4 HC := ((((((M3.trans M4).trans M5).trans M6).trans M7).trans M8).trans M9).trans MA
      have MN : Same H7 HC := (((M6.trans M7).trans M8).trans M9).trans MA
      have g1' := Same.seq (wo_same (M2.trans MM)) g1
      have f2' := sqt_more MM f2
      have f3' := sqt_more MN f3
      refine ⟨by show 4 ≤ sizeLine; decide, fun t ht => ?_⟩
      have MB := same_new (o := .lst [.ref l1, .ref l2, .ref l3, .ref l4]) (Same.refl HC) ht
      have et : upd HC t (.lst [.ref l1, .ref l2, .ref l3, .ref l4]) t = some (.lst [.ref l1, .ref l2, .ref l3, .ref l4]) := upd_same
      have ntb := BC.ne ht
      generalize upd HC t (.lst [.ref l1, .ref l2, .ref l3, .ref l4]) = HD at MB et ⊢
      have BD := BC.keep MB
      have sD := sC.same MB
      have g1D := Same.seq (wo_same MB) g1'
      have f2D := sqt_wo' (sqt_more MB f2') BD
      have f3D := sqt_wo' (sqt_more MB f3') BD
      have f4D := sqt_wo' (sqt_more MB f4) BD
      clear M1 M2 M3 M4 M5 M6 M7 M8 M9 MA MB MM MN f1 g1 f2 f3 f4 g1' f2' f3' q1 q2 q3 q4 q5 q6 s2' s3 s4 s5 s6 s7 s8 s9 sA sB sC B3 BC ht
      -- some + [..]
      refine ⟨_, rfl, _, rfl, _, rfl, _, rfl, v, rfl, a, xs, rfl, vT sD, fun p1 H5 M3 q1 => ?_⟩
      have s5 := sD.same M3
      refine ⟨_, rfl, _, rfl, v, rfl, a, xs, rfl, vT s5, fun p2 H6 M4 q2 => ?_⟩
      have s6 := s5.same M4
      refine ⟨p1, p2, _, _, rfl, rfl, sqt_more M4 q1, q2, Nat.le_of_lt (small1000 (by omega)), fun l5 H7 M5 f5 => ?_⟩
      have s7 := s6.same M5
      refine ⟨_, rfl, _, rfl, v, rfl, a, xs, rfl, vT s7, fun p3 H8 M6 q3 => ?_⟩
      have s8 := s7.same M6
      have M8 : Same HD H8 := ((M3.trans M4).trans M5).trans M6
      have B8 := BD.keep M8
      refine ⟨_, rfl, b, rfl, B8, fun xo dO H9 DO bO B9 s9' => ?_⟩
      have s9 := s8.trans s9'
      refine ⟨by show 1 ≤ sizeLine; decide, fun t1 ht1 => ?_⟩
      have m9 := same_new (o := .tup [xo]) (Same.refl H9) ht1
      have q3' := sqt_more m9 (sbT s9' B8 q3)
      have e1 : SqT K (upd H9 t1 (.tup [xo])) t1 [xo] := SqT.of upd_same
      have f5' := sqt_more m9 (sbT s9' B8 (sqt_more M6 f5))
      have et' := (s9'.get (M8 _ _ et) ntb)
      have et2 := m9 _ _ et'
      have k1 := Same.seq (wo_same m9) (Same.seq s9'.1 (Same.seq (wo_same M8) g1D))
      have k2 := sqt_more (wo_same m9) (sqt_more s9'.1 (sqt_more (wo_same M8) f2D))
      have k3 := sqt_more (wo_same m9) (sqt_more s9'.1 (sqt_more (wo_same M8) f3D))
      have k4 := sqt_more (wo_same m9) (sqt_more s9'.1 (sqt_more (wo_same M8) f4D))
      have DO' := DO.more (wo_same m9)
      have sE := s9.same m9
      have BE := B9.keep m9
      generalize upd H9 t1 (.tup [xo]) = HE at m9 q3' e1 f5' et2 k1 k2 k3 k4 DO' sE BE ⊢
      have l6 : (cutV xs none (some v) ++ [xo]).length ≤ xs.length + 1 := by rw [List.length_append]; show _ + 1 ≤ _; omega
      refine ⟨p3, t1, _, _, rfl, rfl, q3', e1, Nat.le_of_lt (small1000 (show (cutV xs none (some v)).length + 1 ≤ 1000 by omega)), fun p4 HF MF q4 => ?_⟩
      have sF := sE.same MF
      refine ⟨_, rfl, _, rfl, v, rfl, a, xs, rfl, vT sF, fun p5 HG MG q5 => ?_⟩
      have sG := sF.same MG
      refine ⟨p4, p5, _, _, rfl, rfl, sqt_more MG q4, q5, Nat.le_of_lt (small1000 (by omega)), fun l6' HI MI f6 => ?_⟩
      have MJ : Same HE HI := (MF.trans MG).trans MI
      have sI := sG.same MI
      have BI := BE.keep MJ
      have f5I := sqt_more MJ f5'
      refine ⟨by show 2 ≤ sizeLine; decide, fun t2 ht2 => ⟨t, t2, _, _, rfl, rfl, s3u ht2 (MJ _ _ et2), upd_same, by show 4 + 2 ≤ sizeLine; decide, fun t3 ht3 => ?_⟩⟩
      have MK : Same HI (upd HI t2 (.lst [.ref l5, .ref l6'])) := same_new (Same.refl HI) ht2
      have BK := BI.keep MK
      have sK := sI.same MK
      have ML := (MJ.trans MK)
      have f5K := sqt_wo' (sqt_more MK f5I) BK
      have f6K := sqt_wo' (sqt_more MK f6) BK
      have k1K := Same.seq (wo_same ML) k1
      have k2K := sqt_more (wo_same ML) k2
      have k3K := sqt_more (wo_same ML) k3
      have k4K := sqt_more (wo_same ML) k4
      have DK := DO'.more (wo_same ML)
      generalize upd HI t2 (.lst [.ref l5, .ref l6']) = HK at MK BK sK ML f5K f6K k1K k2K k3K k4K DK ht3 ⊢
      obtain ⟨c1, A1, sb1, le1⟩ := datA_cut (hA.more sK.1) none (some v)
      obtain ⟨c2, A2, sb2, le2⟩ := datA_cut (hA.more sK.1) (some (v + 1)) none
      obtain ⟨c3, A3, sb3, le3⟩ := datA_cut (hA.more sK.1) (some v) none
      obtain ⟨c4, A4, sb4, le4⟩ := datA_cut (hA.more sK.1) none (some 1)
      have a1 := A1.len
      have a2 := A2.len
      have a3 := A3.len
      have a4 := A4.len
      have old : ∀ u ∈ ds, Bd (3 * w' + 40) u := fun u hu => Bd.up (by omega) (bdA_iff.mp hD.2 u hu)
      have row : DatA K (wo HK b) [.ref l1, .ref l2, .ref l3, .ref l4, .ref l5, .ref l6'] [.list ds, .tuple ds.reverse, .tuple (c1 ++ c2), .tuple (c1 ++ c4 ++ c3), .tuple (c3 ++ c1), .tuple (c1 ++ [dO] ++ c3)] :=
        .cons (.lst k1K (hA.more sK.1)) (.cons (.tup k2K (datA_rev (hA.more sK.1))) (.cons (.tup k3K (datA_app A1 A2)) (.cons (.tup k4K (datA_app (datA_app A1 A4) A3)) (.cons (.tup f5K (datA_app A3 A1)) (.cons (.tup f6K (datA_app (datA_app A1 (.cons DK .nil)) A3)) .nil)))))
      have rowB : ∀ u ∈ [PyData.list ds, .tuple ds.reverse, .tuple (c1 ++ c2), .tuple (c1 ++ c4 ++ c3), .tuple (c3 ++ c1), .tuple (c1 ++ [dO] ++ c3)], Bd (3 * w' + 40) u := by
        have ap : ∀ {l r : List PyData}, (∀ u ∈ l, Bd (3 * w' + 40) u) → (∀ u ∈ r, Bd (3 * w' + 40) u) → ∀ u ∈ l ++ r, Bd (3 * w' + 40) u := fun h g u hu => (List.mem_append.mp hu).elim (h u) (g u)
        have o1 := fun u hu => old u (sb1 u hu)
        have o2 := fun u hu => old u (sb2 u hu)
        have o3 := fun u hu => old u (sb3 u hu)
        have o4 := fun u hu => old u (sb4 u hu)
        intro u hu
        simp only [List.mem_cons, List.not_mem_nil, or_false] at hu
        rcases hu with rfl | rfl | rfl | rfl | rfl | rfl <;> simp only [Bd]
        · exact ⟨by omega, bdA_iff.mpr old⟩
        · exact ⟨by rw [List.length_reverse]; omega, bdA_iff.mpr fun u hu => old u (List.mem_reverse.mp hu)⟩
        · exact ⟨by rw [List.length_append]; omega, bdA_iff.mpr (ap o1 o2)⟩
        · exact ⟨by rw [List.length_append, List.length_append]; omega, bdA_iff.mpr (ap (ap o1 o4) o3)⟩
        · exact ⟨by rw [List.length_append]; omega, bdA_iff.mpr (ap o3 o1)⟩
        · exact ⟨by rw [List.length_append, List.length_append]; show _ + 1 + _ ≤ _; omega, bdA_iff.mpr (ap (ap o1 fun u hu => by rw [List.mem_singleton.mp hu]; exact Bd.up (by omega) bO) o3)⟩
      refine ⟨b, t3, _, rfl, BK.new ht3, sql_new upd_same (BK.ne ht3), (fun z => nomatch z), by show 6 ≤ 1000000; decide, fun x' H' hx B' s' => ?_⟩
      obtain ⟨d', hd', D'⟩ := datA_mem row hx
      exact fin x' d' H' ((D'.more (wo_same (same_new (Same.refl HK) ht3))).more s'.1) (rowB d' hd') B' ((sK.new ht3).trans s')
    clear B1 s1
    rintro σ1 H1 ⟨rfl, B1, s1⟩
    -- texts
    refine ⟨fun σ' H' => σ' = [some (.ref b), some x, some (.int n), some (.int way), none, none] ∧ Bag H' b ∧ Sb b H H', ?_, ?_⟩
    · refine ⟨_, rfl, x, d, rfl, (D.more s1.1).more (wo_sub H1 b), qS d, rfl, ?_⟩
      refine ite2 (fun h => ?_) (fun _ => ⟨rfl, B1, s1⟩)
      obtain ⟨z, rfl, rfl⟩ := dat_str D h
      simp only [Bd] at hD
      refine ⟨_, rfl, _, _, rfl, rfl, _, rfl, ?_⟩
      refine ite2 (fun _ => ?_) (fun _ => ⟨rfl, B1, s1⟩)
      refine ⟨_, rfl, _, rfl, b, z, rfl, B1, by omega, fun y H' yl _ B' s' => ?_⟩
      exact fin (.str y) (.str y) H' (.str y) (by simp only [Bd]; omega) B' (s1.trans s')
    clear B1 s1
    rintro σ1 H1 ⟨rfl, B1, s1⟩
    -- whole numbers
    refine ⟨fun σ' H' => σ' = [some (.ref b), some x, some (.int n), some (.int way), none, none] ∧ Bag H' b ∧ Sb b H H', ?_, ?_⟩
    · refine ⟨_, rfl, x, d, rfl, (D.more s1.1).more (wo_sub H1 b), qI d, rfl, ?_⟩
      refine ite2 (fun h => ?_) (fun _ => ⟨rfl, B1, s1⟩)
      refine ⟨_, rfl, x, d, rfl, (D.more s1.1).more (wo_sub H1 b), qB d, rfl, ?_⟩
      refine ite2 (fun g => ?_) (fun _ => ⟨rfl, B1, s1⟩)
      obtain ⟨i, rfl, rfl⟩ := dat_whole D h (by simpa using g)
      simp only [Bd] at hD
      refine ⟨_, rfl, _, _, rfl, rfl, _, rfl, ?_⟩
      refine ite2 (fun _ => ?_) (fun _ => ⟨rfl, B1, s1⟩)
      obtain ⟨sl, lg⟩ := str_int hD hw
      have up1 : i.natAbs + 1 < 10 ^ (w' + 1) := by
        rw [Nat.pow_succ]
        omega
      have bi : ∀ j : Int, j.natAbs ≤ i.natAbs + 1 → Bd (3 * w' + 40) (.int j) := fun j hj => by
        simp only [Bd]
        exact Nat.lt_of_le_of_lt hj (pow_up up1 (by omega))
      refine ⟨_, rfl, _, rfl, _, _, rfl, rfl, _, rfl, _, _, rfl, rfl, _, rfl, _, _, rfl, rfl, _, rfl, rfl, _, rfl, i, rfl, lg, 10, 30, rfl, rfl, ⟨by decide, by decide, by decide⟩, by show 8 ≤ sizeLine; decide, fun t ht => ?_⟩
      refine ⟨b, t, _, rfl, B1.new ht, sql_new upd_same (B1.ne ht), (fun z => nomatch z), by show 8 ≤ 1000000; decide, fun x' H' hx B' s' => ?_⟩
      have row : DatA K (wo H1 b) [.int (i + 1), .int (i - 1), .int (0 - i), .bl (decide (V.int i = V.int 1)), .str (toString i), .non, .int 0, .int (10 ^ Int.toNat 30)] [.int (i + 1), .int (i - 1), .int (0 - i), .bool (decide (V.int i = V.int 1)), .str (toString i), .none, .int 0, .int (10 ^ Int.toNat 30)] :=
        .cons (.int _) (.cons (.int _) (.cons (.int _) (.cons (.bl _) (.cons (.str _) (.cons .non (.cons (.int _) (.cons (.int _) .nil)))))))
      obtain ⟨d', hd', D'⟩ := datA_mem row hx
      have bd' : Bd (3 * w' + 40) d' := by
        simp only [List.mem_cons, List.not_mem_nil, or_false] at hd'
        rcases hd' with rfl | rfl | rfl | rfl | rfl | rfl | rfl | rfl
        · exact bi _ (by omega)
        · exact bi _ (by omega)
        · exact bi _ (by omega)
        · simp only [Bd]
        · simp only [Bd]; omega
        · simp only [Bd]
        · exact bi _ (by omega)
        · simp only [Bd]; exact pow_up (show (10 ^ Int.toNat 30 : Int).natAbs < 10 ^ 40 by decide +kernel) (by omega)
      exact fin x' d' H' ((D'.more (wo_same (same_new (Same.refl H1) ht))).more s'.1) bd' B' ((s1.new ht).trans s')
    clear B1 s1
    rintro σ1 H1 ⟨rfl, B1, s1⟩
    exact ⟨_, rfl, b, rfl, B1, fun x' d' H' D' b' B' s' => fin x' d' H' D' (Bd.up (by omega) b') B' (s1.trans s')⟩
end
end Y

/-! OF3: _law_bent again: what it tells can be shown. -/
namespace Y
open PySem PySem.Spec PyProof.Rows L2 Ns Mx
open C8 (pss_cut)
def Pl (d : PyData) : Prop := (∃ z, d = .str z ∧ z.length ≤ 20 ∧ Cd z) ∨ (∃ i, d = .int i ∧ i.natAbs < 10 ^ 13) ∨ d = .none
/-- data of the plain kinds, nested at most so deep, rows of at most m -/
def In (m : Nat) : Nat → PyData → Prop
  | 0, d => Pl d
  | j + 1, d => Pl d ∨ ∃ ds, d = .tuple ds ∧ ds.length ≤ m ∧ ∀ u ∈ ds, In m j u
/-- what becomes of them -/
def Cl (m : Nat) : Nat → PyData → Prop
  | 0, d => Fit 1000 3 d
  | j + 1, d => Fit 1000 3 d ∨ ∃ ds, (d = .tuple ds ∨ d = .list ds) ∧ ds.length ≤ m ∧ ∀ u ∈ ds, Cl m j u
theorem Cl.small {m : Nat} {d : PyData} (h : Fit 1000 3 d) : ∀ {j : Nat}, Cl m j d
  | 0 => h
  | _ + 1 => .inl h
theorem Pl.fit {d : PyData} (h : Pl d) : Fit 1000 3 d := by
  rcases h with ⟨z, rfl, h1, h2⟩ | ⟨i, rfl, h1⟩ | rfl
  · exact (fit_txt (n := 1000) h2 (by omega)).mono (Nat.le_refl _) (by decide)
  · exact (fit_int (n := 13) (by decide) h1 (by decide)).mono (by decide) (by decide)
  · exact ⟨by decide +kernel, by decide +kernel, by decide +kernel⟩
theorem In.cl {m m' : Nat} (hm : m ≤ m') : ∀ {j : Nat} {d : PyData}, In m j d → Cl m' j d
  | 0, _, h => Pl.fit h
  | j + 1, d, h => by
    rcases h with h | ⟨ds, rfl, h1, h2⟩
    · exact .inl h.fit
    · exact .inr ⟨ds, .inl rfl, by omega, fun u hu => In.cl hm (h2 u hu)⟩
theorem In.tup {m : Nat} : ∀ {j : Nat} {ds : List PyData}, In m j (.tuple ds) → ∃ j', j = j' + 1 ∧ ds.length ≤ m ∧ ∀ u ∈ ds, In m j' u
  | 0, ds, h => by rcases h with ⟨z, h, _⟩ | ⟨i, h, _⟩ | h <;> cases h
  | j + 1, ds, h => by
    rcases h with h | ⟨es, h, h1, h2⟩
    · rcases h with ⟨z, h, _⟩ | ⟨i, h, _⟩ | h <;> cases h
    · cases h
      exact ⟨j, rfl, h1, h2⟩
theorem In.str {m : Nat} {z : Str} : ∀ {j : Nat}, In m j (.str z) → z.length ≤ 20 ∧ Cd z := fun {j} h => by
  have h0 : Pl (.str z) := by
    cases j with
    | zero => exact h
    | succ j => exact (show Pl _ ∨ _ from h).elim id fun ⟨ds, e, _⟩ => nomatch e
  rcases h0 with ⟨y, e, h1⟩ | ⟨i, e, _⟩ | e <;> cases e
  exact h1
theorem In.int {m : Nat} {i : Int} : ∀ {j : Nat}, In m j (.int i) → i.natAbs < 10 ^ 13 := fun {j} h => by
  have h0 : Pl (.int i) := by
    cases j with
    | zero => exact h
    | succ j => exact (show Pl _ ∨ _ from h).elim id fun ⟨ds, e, _⟩ => nomatch e
  rcases h0 with ⟨y, e, h1⟩ | ⟨i, e, h1⟩ | e <;> cases e
  exact h1
/-- it can be shown -/
def Fb (m : Nat) : Nat → Nat
  | 0 => 1000
  | j + 1 => m * (Fb m j + 2) + 1003
theorem Cl.fit {m : Nat} : ∀ {j : Nat} {d : PyData}, Cl m j d → Fit (Fb m j) (3 + j) d
  | 0, _, h => h
  | j + 1, d, h => by
    rcases h with h | ⟨ds, e, h1, h2⟩
    · have e : Fb m (j + 1) = m * (Fb m j + 2) + 1003 := rfl
      exact h.mono (by omega) (by omega)
    · have f := fun u hu => Cl.fit (h2 u hu)
      have le : ds.length * (Fb m j + 2) + 3 ≤ Fb m (j + 1) := by
        have := Nat.mul_le_mul_right (Fb m j + 2) h1
        have e : Fb m (j + 1) = m * (Fb m j + 2) + 1003 := rfl
        omega
      rcases e with rfl | rfl
      · exact (fit_tuple f).mono le (by omega)
      · exact (fit_list f).mono le (by omega)
theorem cut_sum (xs : List V) {v : Int} (h0 : 0 ≤ v) (h1 : v ≤ xs.length) : (cutV xs none (some v)).length + (cutV xs (some v) none).length = xs.length ∧ (cutV xs none (some v)).length + (cutV xs (some (v + 1)) none).length ≤ xs.length ∧ (v < xs.length → (cutV xs none (some v)).length + 1 + (cutV xs (some (v + 1)) none).length = xs.length) := by
  have a1 : HT.sIx xs.length xs.length (some v) = v.toNat := by
    rw [show v = ((v.toNat : Nat) : Int) by omega, HT.sIx_nat]
    omega
  have a2 : HT.sIx xs.length 0 (some v) = v.toNat := by
    rw [show v = ((v.toNat : Nat) : Int) by omega, HT.sIx_nat]
    omega
  have a3 : HT.sIx xs.length 0 (some (v + 1)) = min (v.toNat + 1) xs.length := by
    rw [show v + 1 = ((v.toNat + 1 : Nat) : Int) by omega, HT.sIx_nat]
  have b1 : HT.sIx xs.length 0 none = 0 := rfl
  have b2 : HT.sIx xs.length xs.length none = xs.length := rfl
  unfold cutV
  rw [a1, a2, a3, b1, b2]
  simp only [List.length_take, List.length_drop]
  omega
/-- a value with one part otherwise, at most n deep -/
def spBentM (w0 : World) (K : PySem.W.Frag) (n : Nat) : Sp := fun as H Q _ => ∃ (b : Addr) (x : V) (d : PyData) (w m j : Nat), as = [.ref b, x, .int (n : Int)] ∧ Bag H b ∧ DatV K (wo H b) x d ∧ Bd w d ∧ w ≤ 300 ∧ In m j d ∧
  ∀ (x' : V) (d' : PyData) (H' : Hp), Th w0 K (wo H' b) x' d' → Bd (3 * w + 40) d' → Cl (m + 1) j d' → Bag H' b → Sb b H H' → Q x' H'
theorem bool_fit (b : Bool) : Fit 1000 3 (.bool b) := by cases b <;> exact ⟨by decide +kernel, by decide +kernel, by decide +kernel⟩
theorem dig_nat (m : Nat) : ∀ c ∈ (Nat.repr m).toList, c.toNat < 200 := fun c hc => by
  rw [Nat.toList_repr] at hc
  have d := Nat.isDigit_of_mem_toDigits (by decide) (by decide) hc
  simp only [Char.isDigit, Bool.and_eq_true, decide_eq_true_eq] at d
  have h2 := d.2
  have : c.toNat ≤ 57 := h2
  omega
theorem dig_cd (i : Int) : Cd (Str.ofString (toString i)) := fun c hc => by
  rw [signs_ofString] at hc
  obtain ⟨ch, hch, rfl⟩ := List.mem_map.mp hc
  cases i with
  | ofNat m => exact dig_nat m ch hch
  | negSucc m =>
    have e : (toString (Int.negSucc m)).toList = '-' :: (Nat.repr (m + 1)).toList := by
      show ("-" ++ Nat.repr (m + 1)).toList = _
      rw [String.toList_append]
      rfl
    rw [e] at hch
    rcases List.mem_cons.mp hch with z | z
    · rw [z]; decide
    · exact dig_nat _ ch z
def spLessM (w0 : World) (K : PySem.W.Frag) : Nat → Sp
  | 0 => fun _ _ _ _ => False
  | n + 1 => spBentM w0 K n
section
variable {P : Program} {w : World} {K : PySem.W.Frag} {mg : Str → Option Value} {base : Heap}
theorem ok_neverM {f : Addr} {fd : FuncData} (F : Fun K "_law_bent" "_law_bent" sBent f fd) : FnOk P w K mg base CX0 1 f fd ["bag", "thing", "deep"] (spLessM w K 0) := by
  refine F.ok scBe (fun as H Q E h => False.elim h) (fun cdv A outer s H as Q E hr h => False.elim h)
theorem bent_stepM {n k : Nat} {f fT fS fO fW : Addr} {fd dT dS dO dW : FuncData} (F : Fun K "_law_bent" "_law_bent" sBent f fd) (T : Nat0 mg) (hBo : mg "bool" = none) (mF : mg "_law_bent" = some (.ref f)) (bF : Binds K fd ["bag", "thing", "deep"] [])
    (GR : FnOk P w K mg base CX0 k f fd ["bag", "thing", "deep"] (spLessM w K n)) (hk : 3 ≤ k)
    (FT : Fun K "_law_take" "_law_take" sTake fT dT) (mT : mg "_law_take" = some (.ref fT)) (bT : Binds K dT ["bag", "many"] [])
    (FS : Fun K "_law_some" "_law_some" sSome fS dS) (mS : mg "_law_some" = some (.ref fS)) (bS : Binds K dS ["bag", "things"] [])
    (FO : Fun K "_law_odd" "_law_odd" sOdd fO dO) (mO : mg "_law_odd" = some (.ref fO)) (bO : Binds K dO ["bag"] [])
    (FW : Fun K "_law_bent_word" "_law_bent_word" sBentWord fW dW) (mW : mg "_law_bent_word" = some (.ref fW)) (bW : Binds K dW ["bag", "word"] []) : FnOk P w K mg base CX0 (k + 1) f fd ["bag", "thing", "deep"] (spBentM w K n) := by
  have GT : FnOk P w K mg base CX0 1 fT dT ["bag", "many"] spTake := ok_take FT T
  have GS : FnOk P w K mg base CX0 2 fS dS ["bag", "things"] (spSome K) := ok_some FS T FT mT bT
  have GO : FnOk P w K mg base CX0 3 fO dO ["bag"] (spOddT w K) := ok_oddT FO FS mS bS GS
  have GW : FnOk P w K mg base CX0 3 fW dW ["bag", "word"] spBW := ok_bentWord FW T FT mT bT FS mS bS
  refine F.ok scBe (fun as H Q E h => ?_) (fun cdv A outer s H as Q E hr h => ?_)
  · obtain ⟨b, x, d, w', m, j, rfl, _⟩ := h
    rfl
  · obtain ⟨b, x, d, w', tm, j, rfl, hB, D, hD, hw, hTl, kk⟩ := h
    have hr1 : Room 1 _ := hr.mono (show 1 ≤ k by omega)
    have hr2 : Room 2 _ := hr.mono (show 2 ≤ k by omega)
    have hr3 : Room 3 _ := hr.mono hk
    have hu := hu_of hr
    refine ⟨_, pss_cons (ps_set (i := 3) scBe.nd rfl (.inl rfl) (pe_call GT hr1 rfl mT FT.kp bT .nil pass0 (pa_cons (pv 0) (pa_cons pe_int pa_nil))))
      (pss_cut (ps_if (PW.pt (pw_and (pt_val (pe_callB (call_isD kit_T) (by rfl) T.isi (by decide +kernel) (pa_cons (pv 1) (pa_cons (pe_bltn (v := .ty "tuple") (by rfl) T.tuple (by decide +kernel) rfl) pa_nil))))
          (pw_and (pt_cmpR (op_neE hr.units) (pv 1) (pe_tup pa_nil) (nomark _)) (pw_and (pt_cmpR op_gt (pv 2) pe_int (nomark _)) (pw_and1 (pt_cmpR op_lt (pv 3) pe_int (nomark _)))))))
        (pss_cons (ps_set (i := 4) scBe.nd rfl (.inl rfl) (pe_call GT hr1 rfl mT FT.kp bT .nil pass0 (pa_cons (pv 0) (pa_cons (pe_callB call_len_seq (by rfl) T.len PySem.boot_len (pa_cons (pv 1) pa_nil)) pa_nil))))
        (pss_one (ps_ret (pe_op op_catP (pe_op op_catP (pe_slice sl_tupP (pv 1) po_none (po_some (pv 4))) (pe_tup (pa_cons (pe_call GR hr rfl mF F.kp bF .nil pass0 (pa_cons (pv 0) (pa_cons (pe_ix ix_tup (pv 1) (pv 4) (fun _ _ => rfl)) (pa_cons (pe_op op_sub (pv 2) pe_int) pa_nil)))) pa_nil)))
          (pe_slice sl_tupP (pv 1) (po_some (pe_op op_add (pv 4) pe_int)) po_none))))) pss_nil)
      (pss_cut (ps_if (PW.pt (pw_and (pt_val (pe_callB (call_isD kit_T) (by rfl) T.isi (by decide +kernel) (pa_cons (pv 1) (pa_cons (pe_bltn (v := .ty "tuple") (by rfl) T.tuple (by decide +kernel) rfl) pa_nil)))) (pw_and1 (pt_cmpR op_lt (pv 3) pe_int (nomark _)))))
        (pss_cons (ps_set (i := 4) scBe.nd rfl (.inl rfl) (pe_call GT hr1 rfl mT FT.kp bT .nil pass0 (pa_cons (pv 0) (pa_cons (pe_op op_add (pe_callB call_len_seq (by rfl) T.len PySem.boot_len (pa_cons (pv 1) pa_nil)) pe_int) pa_nil))))
        (pss_cons (ps_set (i := 5) scBe.nd rfl (.inl rfl) (pe_lst (pa_cons (pe_callTy call_list_of (by rfl) T.list_ (by decide +kernel) (pa_cons (pv 1) pa_nil)) (pa_cons (pe_revT (pv 1)) (pa_cons (pe_op op_catP (pe_slice sl_tupP (pv 1) po_none (po_some (pv 4))) (pe_slice sl_tupP (pv 1) (po_some (pe_op op_add (pv 4) pe_int)) po_none))
            (pa_cons (pe_op op_catP (pe_op op_catP (pe_slice sl_tupP (pv 1) po_none (po_some (pv 4))) (pe_slice sl_tupP (pv 1) po_none (po_some pe_int))) (pe_slice sl_tupP (pv 1) (po_some (pv 4)) po_none)) pa_nil))))))
        (pss_one (ps_ret (pe_call GS hr2 rfl mS FS.kp bS .nil pass0 (pa_cons (pv 0) (pa_cons (pe_op op_cat (pv 5) (pe_lst (pa_cons (pe_op op_catP (pe_slice sl_tupP (pv 1) (po_some (pv 4)) po_none) (pe_slice sl_tupP (pv 1) po_none (po_some (pv 4))))
            (pa_cons (pe_op op_catP (pe_op op_catP (pe_slice sl_tupP (pv 1) po_none (po_some (pv 4))) (pe_tup (pa_cons (pe_call GO hr3 rfl mO FO.kp bO .nil pass0 (pa_cons (pv 0) pa_nil)) pa_nil))) (pe_slice sl_tupP (pv 1) (po_some (pv 4)) po_none)) pa_nil)))) pa_nil))))))) pss_nil)
      (pss_cut (ps_if (PW.pt (pw_and (pt_val (pe_callB (call_isD kit_S) (by rfl) T.isi (by decide +kernel) (pa_cons (pv 1) (pa_cons (pe_bltn (v := .ty "str") (by rfl) T.str (by decide +kernel) rfl) pa_nil)))) (pw_and1 (pt_cmpR op_lt (pv 3) pe_int (nomark _)))))
        (pss_one (ps_ret (pe_call GW hr3 rfl mW FW.kp bW .nil pass0 (pa_cons (pv 0) (pa_cons (pv 1) pa_nil))))) pss_nil)
      (pss_cut (ps_if (PW.pt (pw_and (pt_val (pe_callB (call_isD kit_I) (by rfl) T.isi (by decide +kernel) (pa_cons (pv 1) (pa_cons (pe_bltn (v := .ty "int") (by rfl) T.int (by decide +kernel) rfl) pa_nil))))
          (pw_and (pt_not (pt_val (pe_callB (call_isD kit_B) (by rfl) T.isi (by decide +kernel) (pa_cons (pv 1) (pa_cons (pe_bltn (v := .ty "bool") (by rfl) hBo (by decide +kernel) rfl) pa_nil))))) (pw_and1 (pt_cmpR op_lt (pv 3) pe_int (nomark _))))))
        (pss_one (ps_ret (pe_call GS hr2 rfl mS FS.kp bS .nil pass0 (pa_cons (pv 0) (pa_cons (pe_lst (pa_cons (pe_op op_add (pv 1) pe_int) (pa_cons (pe_op op_sub (pv 1) pe_int) (pa_cons (pe_op op_sub pe_int (pv 1)) (pa_cons (pe_cmpR op_eq (pv 1) pe_int (nomark _))
            (pa_cons (pe_callTy call_str_int (by rfl) T.str (by decide +kernel) (pa_cons (pv 1) pa_nil)) (pa_cons pe_non (pa_cons pe_int (pa_cons (pe_op op_pow pe_int pe_int) pa_nil))))))))) pa_nil))))) pss_nil)
      (pss_one (ps_ret (pe_call GO hr3 rfl mO FO.kp bO .nil pass0 (pa_cons (pv 0) pa_nil)))))))), ?_⟩
    refine ⟨_, rfl, b, 10, rfl, hB, by decide, by decide, fun way H1 w0 w1 B1 s1 => ?_⟩
    have fin : ∀ (x' : V) (d' : PyData) (H' : Hp), Th w K (wo H' b) x' d' → Bd (3 * w' + 40) d' → Cl (tm + 1) j d' → Bag H' b → Sb b H H' → Q x' H' := kk
    clear kk
    -- the first one
    refine ⟨fun σ' H' => σ' = [some (.ref b), some x, some (.int n), some (.int way), none, none] ∧ Bag H' b ∧ Sb b H H', ?_, ?_⟩
    · refine ⟨_, rfl, x, d, rfl, (D.more s1.1).more (wo_sub H1 b), qT d, rfl, ?_⟩
      refine ite2 (fun h => ?_) (fun _ => ⟨rfl, B1, s1⟩)
      obtain ⟨a, xs, ds, rfl, rfl, hT, hA⟩ := dat_tup D h
      simp only [Bd] at hD
      obtain ⟨j, rfl, lTl, hTl⟩ := hTl.tup
      have vT : ∀ {G : Hp}, Sb b H G → SqT K G a xs := fun {G} s => sqt_more (wo_sub G b) (sqt_more s.1 hT)
      have lx := hA.len
      refine ⟨_, rfl, by show 0 ≤ sizeLine; decide, fun e he => ⟨a, e, xs, rfl, rfl, vT (s1.new he), SqT.of upd_same, _, rfl, ?_⟩⟩
      have B2 := B1.new (o := .tup []) he
      have s2 := s1.new (o := .tup []) he
      generalize upd H1 e (.tup []) = H2 at B2 s2 ⊢
      refine ite2 (fun hne => ?_) (fun _ => ⟨rfl, B2, s2⟩)
      have ne : xs ≠ [] := by simpa using hne
      refine ⟨_, rfl, _, _, rfl, rfl, _, rfl, ?_⟩
      refine ite2 (fun hn => ?_) (fun _ => ⟨rfl, B2, s2⟩)
      have hn' : (0 : Int) < n := of_decide_eq_true hn
      refine ⟨_, rfl, _, _, rfl, rfl, _, rfl, ?_⟩
      refine ite2 (fun _ => ?_) (fun _ => ⟨rfl, B2, s2⟩)
      have pos : 0 < xs.length := List.length_pos_iff.mpr ne
      refine ⟨_, rfl, _, rfl, a, xs, rfl, .inr (vT s2), b, _, rfl, B2, by omega, Nat.lt_of_le_of_lt (show ((xs.length : Int)).natAbs ≤ 1000 by omega) (by decide), fun v H3 v0 v1 B3 s3' => ?_⟩
      have s3 := s2.trans s3'
      obtain ⟨y, hy⟩ : ∃ y, xs[v.toNat]? = some y := ⟨_, List.getElem?_eq_getElem (by omega)⟩
      obtain ⟨dy, hdy, Dy⟩ := datA_at hA hy
      obtain ⟨m, rfl⟩ : ∃ m, n = m + 1 := ⟨n - 1, by omega⟩
      refine ⟨_, rfl, _, rfl, v, rfl, a, xs, rfl, vT s3, fun p1 H4 m4 q1 => ?_⟩
      have B4 := B3.keep m4
      have s4 := s3.same m4
      refine ⟨_, rfl, _, rfl, _, rfl, a, xs, v, y, rfl, rfl, vT s4, by rw [show v = ((v.toNat : Nat) : Int) by omega]; exact atI_nat hy, _, rfl, _, _, rfl, rfl, ?_⟩
      refine ⟨b, y, dy, w', tm, j, by show [V.ref b, y, V.int (((m + 1 : Nat) : Int) - 1)] = _; rw [show (((m + 1 : Nat) : Int) - 1) = (m : Int) by omega], B4, Dy.more s4.1, bdA_iff.mp hD.2 _ (List.mem_of_getElem? hdy), hw, hTl _ (List.mem_of_getElem? hdy), fun x5 d5 H5 D5 b5 t5 B5 s5' => ?_⟩
      have s5 := s4.trans s5'
      refine ⟨by show 1 ≤ sizeLine; decide, fun t ht => ?_⟩
      have q1' := sbT s5' B4 q1
      have D5' := D5.1.more (wo_same (same_new (o := .tup [x5]) (Same.refl H5) ht))
      have q1'' := sqt_more (same_new (o := .tup [x5]) (Same.refl H5) ht) q1'
      have et : SqT K (upd H5 t (.tup [x5])) t [x5] := SqT.of upd_same
      have B6 := B5.new (o := .tup [x5]) ht
      have s6 := s5.new (o := .tup [x5]) ht
      generalize upd H5 t (.tup [x5]) = H6 at D5' q1'' et B6 s6 ⊢
      have cl1 := cutV_length xs none (some v)
      have cl2 := cutV_length xs (some (v + 1)) none
      refine ⟨p1, t, _, _, rfl, rfl, q1'', et, Nat.le_of_lt (small1000 (show (cutV xs none (some v)).length + 1 ≤ 1000 by omega)), fun p2 H7 m7 q2 => ?_⟩
      have s7 := s6.same m7
      refine ⟨_, rfl, _, rfl, _, _, rfl, rfl, _, rfl, a, xs, rfl, vT s7, fun p3 H8 m8 q3 => ?_⟩
      have s8 := s7.same m8
      refine ⟨p2, p3, _, _, rfl, rfl, sqt_more m8 q2, q3, Nat.le_of_lt (small1000 (show (cutV xs none (some v) ++ [x5]).length + (cutV xs (some (v + 1)) none).length ≤ 1000 by rw [List.length_append]; show _ + 1 + _ ≤ 1000; omega)), fun p4 H9 m9 q4 => ?_⟩
      have s9 := s8.same m9
      have B9 := ((B6.keep m7).keep m8).keep m9
      obtain ⟨e1, A1, sub1, le1⟩ := datA_cut (hA.more s9.1) none (some v)
      obtain ⟨e2, A2, sub2, le2⟩ := datA_cut (hA.more s9.1) (some (v + 1)) none
      have D9 := ((D5'.more (wo_same m7)).more (wo_same m8)).more (wo_same m9)
      refine fin (.ref p4) (.tuple (e1 ++ [d5] ++ e2)) H9 (th0 (.tup (sqt_wo' q4 B9) (datA_app (datA_app A1 (.cons D9 .nil)) A2)) (fun _ z => nomatch z)) ?_ ?_ B9 s9
      rotate_left
      · have z1 := A1.len
        have z2 := A2.len
        have z3 := (cut_sum xs v0 (by omega)).2.2 (by omega)
        have oldT : ∀ u ∈ ds, Cl (tm + 1) j u := fun u hu => (hTl u hu).cl (by omega)
        refine .inr ⟨_, .inl rfl, by rw [List.length_append, List.length_append]; show _ + 1 + _ ≤ _; omega, fun u hu => ?_⟩
        rcases List.mem_append.mp hu with hu | hu
        · rcases List.mem_append.mp hu with hu | hu
          · exact oldT u (sub1 u hu)
          · rw [List.mem_singleton.mp hu]; exact t5
        · exact oldT u (sub2 u hu)
      simp only [Bd]
      refine ⟨by rw [List.length_append, List.length_append]; show _ + 1 + _ ≤ _; omega, bdA_iff.mpr fun u hu => ?_⟩
      have old : ∀ u ∈ ds, Bd (3 * w' + 40) u := fun u hu => Bd.up (by omega) (bdA_iff.mp hD.2 u hu)
      rcases List.mem_append.mp hu with hu | hu
      · rcases List.mem_append.mp hu with hu | hu
        · exact old u (sub1 u hu)
        · rw [List.mem_singleton.mp hu]; exact b5
      · exact old u (sub2 u hu)
    clear B1 s1
    rintro σ1 H1 ⟨rfl, B1, s1⟩
    -- the second one
    refine ⟨fun σ' H' => σ' = [some (.ref b), some x, some (.int n), some (.int way), none, none] ∧ Bag H' b ∧ Sb b H H', ?_, ?_⟩
    · refine ⟨_, rfl, x, d, rfl, (D.more s1.1).more (wo_sub H1 b), qT d, rfl, ?_⟩
      refine ite2 (fun h => ?_) (fun _ => ⟨rfl, B1, s1⟩)
      obtain ⟨a, xs, ds, rfl, rfl, hT, hA⟩ := dat_tup D h
      simp only [Bd] at hD
      obtain ⟨j, rfl, lTl, hTl⟩ := hTl.tup
      have vT : ∀ {G : Hp}, Sb b H G → SqT K G a xs := fun {G} s => sqt_more (wo_sub G b) (sqt_more s.1 hT)
      have lx := hA.len
      refine ⟨_, rfl, _, _, rfl, rfl, _, rfl, ?_⟩
      refine ite2 (fun _ => ?_) (fun _ => ⟨rfl, B1, s1⟩)
      refine ⟨_, rfl, _, rfl, a, xs, rfl, .inr (vT s1), _, _, rfl, rfl, b, _, rfl, B1, by omega, Nat.lt_of_le_of_lt (show ((xs.length : Int) + 1).natAbs ≤ 1000 by omega) (by decide), fun v H2 v0 v1 B2 s2' => ?_⟩
      have s2 := s1.trans s2'
      have cl1 := cutV_length xs none (some v)
      have cl2 := cutV_length xs (some (v + 1)) none
      have cl3 := cutV_length xs (some v) none
      have cl4 := cut_one xs
      refine ⟨_, rfl, a, xs, rfl, .inr (vT s2), fun l1 u1 => ?_⟩
      have M1 := same_new (o := .lst xs) (Same.refl H2) u1
      have f1 : SqL K (upd H2 l1 (.lst xs)) l1 xs := SqL.of upd_same
      have g1 : SqL K (wo (upd H2 l1 (.lst xs)) b) l1 xs := sql_new upd_same (B2.ne u1)
      generalize upd H2 l1 (.lst xs) = H3 at M1 f1 g1 ⊢
      have B3 := B2.keep M1
      have s3 := s2.same M1
      refine ⟨_, rfl, a, xs, rfl, vT s3, fun l2 u2 => ?_⟩
      have M2 := same_new (o := .tup xs.reverse) (Same.refl H3) u2
      have f2 : SqT K (upd H3 l2 (.tup xs.reverse)) l2 xs.reverse := SqT.of upd_same
      generalize upd H3 l2 (.tup xs.reverse) = H4 at M2 f2 ⊢
      have s4 := s3.same M2
      refine ⟨_, rfl, _, rfl, v, rfl, a, xs, rfl, vT s4, fun p1 H5 M3 q1 => ?_⟩
      have s5 := s4.same M3
      refine ⟨_, rfl, _, rfl, _, _, rfl, rfl, _, rfl, a, xs, rfl, vT s5, fun p2 H6 M4 q2 => ?_⟩
      have s6 := s5.same M4
      refine ⟨p1, p2, _, _, rfl, rfl, sqt_more M4 q1, q2, Nat.le_of_lt (small1000 (by omega)), fun l3 H7 M5 f3 => ?_⟩
      have s7 := s6.same M5
      refine ⟨_, rfl, _, rfl, v, rfl, a, xs, rfl, vT s7, fun p3 H8 M6 q3 => ?_⟩
      have s8 := s7.same M6
      refine ⟨_, rfl, _, rfl, a, xs, rfl, vT s8, fun p4 H9 M7 q4 => ?_⟩
      have s9 := s8.same M7
      refine ⟨p3, p4, _, _, rfl, rfl, sqt_more M7 q3, q4, Nat.le_of_lt (small1000 (by omega)), fun p5 HA M8 q5 => ?_⟩
      have sA := s9.same M8
      refine ⟨_, rfl, _, rfl, v, rfl, a, xs, rfl, vT sA, fun p6 HB M9 q6 => ?_⟩
      have sB := sA.same M9
      have l5 : (cutV xs none (some v) ++ cutV xs none (some 1)).length ≤ xs.length + 1 := by rw [List.length_append]; omega
      refine ⟨p5, p6, _, _, rfl, rfl, sqt_more M9 q5, q6, Nat.le_of_lt (small1000 (by omega)), fun l4 HC MA f4 => ?_⟩
      have sC := sB.same MA
      have BC := ((((((((B3.keep M2).keep M3).keep M4).keep M5).keep M6).keep M7).keep M8).keep M9).keep MA
      have MM : Same H4 HC := ((((((M3.trans M4).trans M5).trans M6).trans M7).trans M8).trans M9).trans MA
      have MN : Same H7 HC := (((M6.trans M7).trans M8).trans M9).trans MA
      have g1' := Same.seq (wo_same (M2.trans MM)) g1
      have f2' := sqt_more MM f2
      have f3' := sqt_more MN f3
      refine ⟨by show 4 ≤ sizeLine; decide, fun t ht => ?_⟩
      have MB := same_new (o := .lst [.ref l1, .ref l2, .ref l3, .ref l4]) (Same.refl HC) ht
      have et : upd HC t (.lst [.ref l1, .ref l2, .ref l3, .ref l4]) t = some (.lst [.ref l1, .ref l2, .ref l3, .ref l4]) := upd_same
      have ntb := BC.ne ht
      generalize upd HC t (.lst [.ref l1, .ref l2, .ref l3, .ref l4]) = HD at MB et ⊢
      have BD := BC.keep MB
      have sD := sC.same MB
      have g1D := Same.seq (wo_same MB) g1'
      have f2D := sqt_wo' (sqt_more MB f2') BD
      have f3D := sqt_wo' (sqt_more MB f3') BD
      have f4D := sqt_wo' (sqt_more MB f4) BD
      clear M1 M2 M3 M4 M5 M6 M7 M8 M9 MA MB MM MN f1 g1 f2 f3 f4 g1' f2' f3' q1 q2 q3 q4 q5 q6 s2' s3 s4 s5 s6 s7 s8 s9 sA sB sC B3 BC ht
      -- some + [..]
      refine ⟨_, rfl, _, rfl, _, rfl, _, rfl, v, rfl, a, xs, rfl, vT sD, fun p1 H5 M3 q1 => ?_⟩
      have s5 := sD.same M3
      refine ⟨_, rfl, _, rfl, v, rfl, a, xs, rfl, vT s5, fun p2 H6 M4 q2 => ?_⟩
      have s6 := s5.same M4
      refine ⟨p1, p2, _, _, rfl, rfl, sqt_more M4 q1, q2, Nat.le_of_lt (small1000 (by omega)), fun l5 H7 M5 f5 => ?_⟩
      have s7 := s6.same M5
      refine ⟨_, rfl, _, rfl, v, rfl, a, xs, rfl, vT s7, fun p3 H8 M6 q3 => ?_⟩
      have s8 := s7.same M6
      have M8 : Same HD H8 := ((M3.trans M4).trans M5).trans M6
      have B8 := BD.keep M8
      refine ⟨_, rfl, b, rfl, B8, fun xo dO H9 DO bO fO B9 s9' => ?_⟩
      have s9 := s8.trans s9'
      refine ⟨by show 1 ≤ sizeLine; decide, fun t1 ht1 => ?_⟩
      have m9 := same_new (o := .tup [xo]) (Same.refl H9) ht1
      have q3' := sqt_more m9 (sbT s9' B8 q3)
      have e1 : SqT K (upd H9 t1 (.tup [xo])) t1 [xo] := SqT.of upd_same
      have f5' := sqt_more m9 (sbT s9' B8 (sqt_more M6 f5))
      have et' := (s9'.get (M8 _ _ et) ntb)
      have et2 := m9 _ _ et'
      have k1 := Same.seq (wo_same m9) (Same.seq s9'.1 (Same.seq (wo_same M8) g1D))
      have k2 := sqt_more (wo_same m9) (sqt_more s9'.1 (sqt_more (wo_same M8) f2D))
      have k3 := sqt_more (wo_same m9) (sqt_more s9'.1 (sqt_more (wo_same M8) f3D))
      have k4 := sqt_more (wo_same m9) (sqt_more s9'.1 (sqt_more (wo_same M8) f4D))
      have DO' := DO.1.more (wo_same m9)
      have sE := s9.same m9
      have BE := B9.keep m9
      generalize upd H9 t1 (.tup [xo]) = HE at m9 q3' e1 f5' et2 k1 k2 k3 k4 DO' sE BE ⊢
      have l6 : (cutV xs none (some v) ++ [xo]).length ≤ xs.length + 1 := by rw [List.length_append]; show _ + 1 ≤ _; omega
      refine ⟨p3, t1, _, _, rfl, rfl, q3', e1, Nat.le_of_lt (small1000 (show (cutV xs none (some v)).length + 1 ≤ 1000 by omega)), fun p4 HF MF q4 => ?_⟩
      have sF := sE.same MF
      refine ⟨_, rfl, _, rfl, v, rfl, a, xs, rfl, vT sF, fun p5 HG MG q5 => ?_⟩
      have sG := sF.same MG
      refine ⟨p4, p5, _, _, rfl, rfl, sqt_more MG q4, q5, Nat.le_of_lt (small1000 (by omega)), fun l6' HI MI f6 => ?_⟩
      have MJ : Same HE HI := (MF.trans MG).trans MI
      have sI := sG.same MI
      have BI := BE.keep MJ
      have f5I := sqt_more MJ f5'
      refine ⟨by show 2 ≤ sizeLine; decide, fun t2 ht2 => ⟨t, t2, _, _, rfl, rfl, s3u ht2 (MJ _ _ et2), upd_same, by show 4 + 2 ≤ sizeLine; decide, fun t3 ht3 => ?_⟩⟩
      have MK : Same HI (upd HI t2 (.lst [.ref l5, .ref l6'])) := same_new (Same.refl HI) ht2
      have BK := BI.keep MK
      have sK := sI.same MK
      have ML := (MJ.trans MK)
      have f5K := sqt_wo' (sqt_more MK f5I) BK
      have f6K := sqt_wo' (sqt_more MK f6) BK
      have k1K := Same.seq (wo_same ML) k1
      have k2K := sqt_more (wo_same ML) k2
      have k3K := sqt_more (wo_same ML) k3
      have k4K := sqt_more (wo_same ML) k4
      have DK := DO'.more (wo_same ML)
      generalize upd HI t2 (.lst [.ref l5, .ref l6']) = HK at MK BK sK ML f5K f6K k1K k2K k3K k4K DK ht3 ⊢
      obtain ⟨c1, A1, sb1, le1⟩ := datA_cut (hA.more sK.1) none (some v)
      obtain ⟨c2, A2, sb2, le2⟩ := datA_cut (hA.more sK.1) (some (v + 1)) none
      obtain ⟨c3, A3, sb3, le3⟩ := datA_cut (hA.more sK.1) (some v) none
      obtain ⟨c4, A4, sb4, le4⟩ := datA_cut (hA.more sK.1) none (some 1)
      have a1 := A1.len
      have a2 := A2.len
      have a3 := A3.len
      have a4 := A4.len
      have old : ∀ u ∈ ds, Bd (3 * w' + 40) u := fun u hu => Bd.up (by omega) (bdA_iff.mp hD.2 u hu)
      have row : DatA K (wo HK b) [.ref l1, .ref l2, .ref l3, .ref l4, .ref l5, .ref l6'] [.list ds, .tuple ds.reverse, .tuple (c1 ++ c2), .tuple (c1 ++ c4 ++ c3), .tuple (c3 ++ c1), .tuple (c1 ++ [dO] ++ c3)] :=
        .cons (.lst k1K (hA.more sK.1)) (.cons (.tup k2K (datA_rev (hA.more sK.1))) (.cons (.tup k3K (datA_app A1 A2)) (.cons (.tup k4K (datA_app (datA_app A1 A4) A3)) (.cons (.tup f5K (datA_app A3 A1)) (.cons (.tup f6K (datA_app (datA_app A1 (.cons DK .nil)) A3)) .nil)))))
      have rowB : ∀ u ∈ [PyData.list ds, .tuple ds.reverse, .tuple (c1 ++ c2), .tuple (c1 ++ c4 ++ c3), .tuple (c3 ++ c1), .tuple (c1 ++ [dO] ++ c3)], Bd (3 * w' + 40) u := by
        have ap : ∀ {l r : List PyData}, (∀ u ∈ l, Bd (3 * w' + 40) u) → (∀ u ∈ r, Bd (3 * w' + 40) u) → ∀ u ∈ l ++ r, Bd (3 * w' + 40) u := fun h g u hu => (List.mem_append.mp hu).elim (h u) (g u)
        have o1 := fun u hu => old u (sb1 u hu)
        have o2 := fun u hu => old u (sb2 u hu)
        have o3 := fun u hu => old u (sb3 u hu)
        have o4 := fun u hu => old u (sb4 u hu)
        intro u hu
        simp only [List.mem_cons, List.not_mem_nil, or_false] at hu
        rcases hu with rfl | rfl | rfl | rfl | rfl | rfl <;> simp only [Bd]
        · exact ⟨by omega, bdA_iff.mpr old⟩
        · exact ⟨by rw [List.length_reverse]; omega, bdA_iff.mpr fun u hu => old u (List.mem_reverse.mp hu)⟩
        · exact ⟨by rw [List.length_append]; omega, bdA_iff.mpr (ap o1 o2)⟩
        · exact ⟨by rw [List.length_append, List.length_append]; omega, bdA_iff.mpr (ap (ap o1 o4) o3)⟩
        · exact ⟨by rw [List.length_append]; omega, bdA_iff.mpr (ap o3 o1)⟩
        · exact ⟨by rw [List.length_append, List.length_append]; show _ + 1 + _ ≤ _; omega, bdA_iff.mpr (ap (ap o1 fun u hu => by rw [List.mem_singleton.mp hu]; exact Bd.up (by omega) bO) o3)⟩
      have sums := cut_sum xs v0 (by omega)
      have oldT : ∀ u ∈ ds, Cl (tm + 1) j u := fun u hu => (hTl u hu).cl (by omega)
      have rowT : ∀ u ∈ [PyData.list ds, .tuple ds.reverse, .tuple (c1 ++ c2), .tuple (c1 ++ c4 ++ c3), .tuple (c3 ++ c1), .tuple (c1 ++ [dO] ++ c3)], Cl (tm + 1) (j + 1) u := by
        have ap : ∀ {l r : List PyData}, (∀ u ∈ l, Cl (tm + 1) j u) → (∀ u ∈ r, Cl (tm + 1) j u) → ∀ u ∈ l ++ r, Cl (tm + 1) j u := fun h g u hu => (List.mem_append.mp hu).elim (h u) (g u)
        have o1 := fun u hu => oldT u (sb1 u hu)
        have o2 := fun u hu => oldT u (sb2 u hu)
        have o3 := fun u hu => oldT u (sb3 u hu)
        have o4 := fun u hu => oldT u (sb4 u hu)
        have l2 := lTl
        intro u hu
        simp only [List.mem_cons, List.not_mem_nil, or_false] at hu
        rcases hu with rfl | rfl | rfl | rfl | rfl | rfl
        · exact .inr ⟨_, .inr rfl, by omega, oldT⟩
        · exact .inr ⟨_, .inl rfl, by rw [List.length_reverse]; omega, fun u hu => oldT u (List.mem_reverse.mp hu)⟩
        · exact .inr ⟨_, .inl rfl, by rw [List.length_append]; omega, ap o1 o2⟩
        · exact .inr ⟨_, .inl rfl, by rw [List.length_append, List.length_append]; omega, ap (ap o1 o4) o3⟩
        · exact .inr ⟨_, .inl rfl, by rw [List.length_append]; omega, ap o3 o1⟩
        · exact .inr ⟨_, .inl rfl, by rw [List.length_append, List.length_append]; show _ + 1 + _ ≤ _; omega, ap (ap o1 fun u hu => by rw [List.mem_singleton.mp hu]; exact Cl.small fO) o3⟩
      refine ⟨b, t3, _, rfl, BK.new ht3, sql_new upd_same (BK.ne ht3), (fun z => nomatch z), by show 6 ≤ 1000000; decide, fun x' H' hx B' s' => ?_⟩
      obtain ⟨d', hd', D'⟩ := datA_mem row hx
      exact fin x' d' H' (th0 ((D'.more (wo_same (same_new (Same.refl HK) ht3))).more s'.1) (fun m z => by rw [z] at hd'; simp at hd')) (rowB d' hd') (rowT d' hd') B' ((sK.new ht3).trans s')
    clear B1 s1
    rintro σ1 H1 ⟨rfl, B1, s1⟩
    -- texts
    refine ⟨fun σ' H' => σ' = [some (.ref b), some x, some (.int n), some (.int way), none, none] ∧ Bag H' b ∧ Sb b H H', ?_, ?_⟩
    · refine ⟨_, rfl, x, d, rfl, (D.more s1.1).more (wo_sub H1 b), qS d, rfl, ?_⟩
      refine ite2 (fun h => ?_) (fun _ => ⟨rfl, B1, s1⟩)
      obtain ⟨z, rfl, rfl⟩ := dat_str D h
      simp only [Bd] at hD
      refine ⟨_, rfl, _, _, rfl, rfl, _, rfl, ?_⟩
      refine ite2 (fun _ => ?_) (fun _ => ⟨rfl, B1, s1⟩)
      refine ⟨_, rfl, _, rfl, b, z, rfl, B1, by omega, fun y H' yl yc B' s' => ?_⟩
      exact fin (.str y) (.str y) H' (th0 (.str y) (fun _ z => nomatch z)) (by simp only [Bd]; omega) (Cl.small ((fit_txt (n := 1000) (yc hTl.str.2) (by have := hTl.str.1; omega)).mono (Nat.le_refl _) (by decide))) B' (s1.trans s')
    clear B1 s1
    rintro σ1 H1 ⟨rfl, B1, s1⟩
    -- whole numbers
    refine ⟨fun σ' H' => σ' = [some (.ref b), some x, some (.int n), some (.int way), none, none] ∧ Bag H' b ∧ Sb b H H', ?_, ?_⟩
    · refine ⟨_, rfl, x, d, rfl, (D.more s1.1).more (wo_sub H1 b), qI d, rfl, ?_⟩
      refine ite2 (fun h => ?_) (fun _ => ⟨rfl, B1, s1⟩)
      refine ⟨_, rfl, x, d, rfl, (D.more s1.1).more (wo_sub H1 b), qB d, rfl, ?_⟩
      refine ite2 (fun g => ?_) (fun _ => ⟨rfl, B1, s1⟩)
      obtain ⟨i, rfl, rfl⟩ := dat_whole D h (by simpa using g)
      simp only [Bd] at hD
      refine ⟨_, rfl, _, _, rfl, rfl, _, rfl, ?_⟩
      refine ite2 (fun _ => ?_) (fun _ => ⟨rfl, B1, s1⟩)
      obtain ⟨sl, lg⟩ := str_int hD hw
      have up1 : i.natAbs + 1 < 10 ^ (w' + 1) := by
        rw [Nat.pow_succ]
        omega
      have bi : ∀ j : Int, j.natAbs ≤ i.natAbs + 1 → Bd (3 * w' + 40) (.int j) := fun j hj => by
        simp only [Bd]
        exact Nat.lt_of_le_of_lt hj (pow_up up1 (by omega))
      refine ⟨_, rfl, _, rfl, _, _, rfl, rfl, _, rfl, _, _, rfl, rfl, _, rfl, _, _, rfl, rfl, _, rfl, rfl, _, rfl, i, rfl, lg, 10, 30, rfl, rfl, ⟨by decide, by decide, by decide⟩, by show 8 ≤ sizeLine; decide, fun t ht => ?_⟩
      refine ⟨b, t, _, rfl, B1.new ht, sql_new upd_same (B1.ne ht), (fun z => nomatch z), by show 8 ≤ 1000000; decide, fun x' H' hx B' s' => ?_⟩
      have row : DatA K (wo H1 b) [.int (i + 1), .int (i - 1), .int (0 - i), .bl (decide (V.int i = V.int 1)), .str (toString i), .non, .int 0, .int (10 ^ Int.toNat 30)] [.int (i + 1), .int (i - 1), .int (0 - i), .bool (decide (V.int i = V.int 1)), .str (toString i), .none, .int 0, .int (10 ^ Int.toNat 30)] :=
        .cons (.int _) (.cons (.int _) (.cons (.int _) (.cons (.bl _) (.cons (.str _) (.cons .non (.cons (.int _) (.cons (.int _) .nil)))))))
      obtain ⟨d', hd', D'⟩ := datA_mem row hx
      have bd' : Bd (3 * w' + 40) d' := by
        simp only [List.mem_cons, List.not_mem_nil, or_false] at hd'
        rcases hd' with rfl | rfl | rfl | rfl | rfl | rfl | rfl | rfl
        · exact bi _ (by omega)
        · exact bi _ (by omega)
        · exact bi _ (by omega)
        · simp only [Bd]
        · simp only [Bd]; omega
        · simp only [Bd]
        · exact bi _ (by omega)
        · simp only [Bd]; exact pow_up (show (10 ^ Int.toNat 30 : Int).natAbs < 10 ^ 40 by decide +kernel) (by omega)
      have i13 := hTl.int
      have fi : ∀ k : Int, k.natAbs ≤ 10 ^ 40 → Fit 1000 3 (.int k) := fun k hk => (fit_int (n := 41) (by decide) (Nat.lt_of_le_of_lt hk (by decide)) (by decide)).mono (by decide) (by decide)
      have tl' : Cl (tm + 1) j d' := by
        refine Cl.small ?_
        simp only [List.mem_cons, List.not_mem_nil, or_false] at hd'
        rcases hd' with rfl | rfl | rfl | rfl | rfl | rfl | rfl | rfl
        · exact fi _ (by omega)
        · exact fi _ (by omega)
        · exact fi _ (by omega)
        · exact (bool_fit _)
        · refine (fit_txt (n := 1000) (dig_cd i) ?_).mono (Nat.le_refl _) (by decide)
          have : (toString i : Str).length ≤ 14 := PySem.ofString_length _ ▸ int_text_length_le10 (by decide) i13
          omega
        · exact ⟨by decide +kernel, by decide +kernel, by decide +kernel⟩
        · exact fi _ (by decide)
        · exact fi _ (by decide +kernel)
      exact fin x' d' H' (th0 ((D'.more (wo_same (same_new (Same.refl H1) ht))).more s'.1) (fun m z => by rw [z] at hd'; simp at hd')) bd' tl' B' ((s1.new ht).trans s')
    clear B1 s1
    rintro σ1 H1 ⟨rfl, B1, s1⟩
    exact ⟨_, rfl, b, rfl, B1, fun x' d' H' D' b' f' B' s' => fin x' d' H' D' (Bd.up (by omega) b') (Cl.small f') B' (s1.trans s')⟩
end
end Y

/-! OQ: any datum == a text. -/
namespace Ns
open PySem PySem.Spec PyProof.Rows L2 Mx
theorem dict_no_str (l : Addr) (es : Array DictEntry) (n : Nat) (dd : Option Addr) (sl : Array (Option Value)) (b : Str) (u : Tok) :
    Meets (Builtin.«dict.__eq__» ⟨[.ref l, .str b u], []⟩) (fun _ R s => s.heap.get? l = some { cls := .type "dict", dict := dd, data := .dict es n, slots := sl } ∧ R (.ok (.ret .notImplemented)) s) :=
  .of_wp fun prog w A R s h => by
    obtain ⟨hp, g, d, tk, os⟩ := s
    obtain ⟨hl, h⟩ := h
    have f1 := F.sub_str_dict
    wp_walk using wpAny_loadPart' hl, wpAny_load hl
    exact ⟨_, rfl, h⟩
theorem str_no_dict (b : Str) (u : Tok) (l : Addr) (es : Array DictEntry) (n : Nat) (dd : Option Addr) (sl : Array (Option Value)) :
    Meets (Builtin.«str.__eq__» ⟨[.str b u, .ref l], []⟩) (fun _ R s => s.heap.get? l = some { cls := .type "dict", dict := dd, data := .dict es n, slots := sl } ∧ R (.ok (.ret .notImplemented)) s) :=
  .of_wp fun prog w A R s h => by
    obtain ⟨hp, g, d, tk, os⟩ := s
    obtain ⟨hl, h⟩ := h
    wp_walk using wpAny_loadPart' hl, wpAny_load hl
    exact ⟨_, rfl, h⟩
theorem rc_dict_str {A : Around} {s : Shared} {l : Addr} {dd : Option Addr} {es : Array DictEntry} {n : Nat} {sl : Array (Option Value)} (b : Str) (u : Tok) (ho : s.heap.get? l = some { cls := .type "dict", dict := dd, data := .dict es n, slots := sl }) (hu : A.units < cLine) : SeqAt.RcAt A s (.ref l) (.str b u) false := fun prog w E Q h =>
  SeqAt.rc_eq_decline_or (k := false) ⟨_, ho, rfl⟩ (typeIs_str s b u) (by decide) F.sub_str_dict F.slot_dict_eq F.slot_str_eq_refl
    (fun _ hq => call_meets F.slot_dict_eq ⟨_, ho, rfl⟩ F.entry_dict_eq (F.args_dict_eq_2 _ _) (dict_no_str l es n dd sl b u) ⟨ho, hq⟩)
    (fun _ hq => call_meets F.slot_str_eq_refl (typeIs_str s b u) F.entry_str_eq (F.args_str_eq_2 _ _) (str_no_dict b u l es n dd sl) ⟨ho, hq⟩)
    (fun _ hq => wpAny_of_eq (rfl : isSame (.ref l) (.str b u) = pure false) hq) (.inr hu) h
def isText (z : Str) : PyData → Bool
  | .str y => decide (y = z)
  | _ => false
/-- x == 'z', x any datum -/
def rEqTx (K : PySem.W.Frag) : R2 := fun x y H Q => ∃ (d : PyData) (z : Str), y = .str z ∧ DatV K H x d ∧ Q (.bl (isText z d)) H
theorem op_eqTx {X : Cx} (hu : X.A.units + 64 < cLine) : OpR X (compareOp .Eq) (rEqTx X.K) := by
  intro pins s σ H x y v u Q I rx ry h
  obtain ⟨d, z, rfl, D, q⟩ := h
  have flat : ∀ {c : Bool}, scal x (.str z) = true → decide (x = V.str z) = c → isText z d = c → wpAny (model X.prog X.w) X.A (compareOp .Eq v u) (EP X pins σ Q) X.xe s := fun {c} h1 h2 h3 => by
    rw [h3, ← h2] at q
    exact op_eq pins s σ H x (.str z) v u Q I rx ry ⟨h1, q⟩
  cases D with
  | non => exact flat (c := false) rfl (by simp) rfl
  | bl b => exact flat (c := false) rfl (by simp) rfl
  | int i => exact flat (c := false) rfl (by simp) rfl
  | str y =>
    refine flat (c := decide (y = z)) rfl ?_ rfl
    by_cases e : y = z
    · rw [e, decide_eq_true rfl, decide_eq_true rfl]
    · rw [decide_eq_false e, decide_eq_false (fun h => e (by injection h))]
  | @lst a xs ds h1 h2 =>
    cases (show v = Value.ref a from rx)
    obtain ⟨t, rfl⟩ := (show ∃ t, u = Value.str z t from ry)
    obtain ⟨its, _, pl, _⟩ := I.list h1
    exact SeqAt.RcAt.list_str z t pl.isList (by omega) _ _ _ _ ⟨.bl false, H, I, rfl, q⟩
  | @tup a xs ds h1 h2 =>
    cases (show v = Value.ref a from rx)
    obtain ⟨t, rfl⟩ := (show ∃ t, u = Value.str z t from ry)
    obtain ⟨its, _, ⟨o1, g1, g2, n1, g3⟩, _⟩ := I.tuple h1
    exact SeqAt.RcAt.tuple_str z t ⟨o1, g1, g2, n1, g3⟩ (by omega) _ _ _ _ ⟨.bl false, H, I, rfl, q⟩
  | @dix a o kvs ks ds h1 e sy h2 h3 =>
    cases (show v = Value.ref a from rx)
    obtain ⟨t, rfl⟩ := (show ∃ t, u = Value.str z t from ry)
    obtain ⟨⟨k1, k2, k3⟩, _, es, ep, xs, g3, _⟩ := e
    obtain ⟨oc, od, dt, sl⟩ := o
    simp only at k1 g3
    subst k1
    subst g3
    exact rc_dict_str z t (objO_at I h1) (by omega) _ _ _ _ ⟨.bl false, H, I, rfl, q⟩
end Ns

/-! OR: names, cables, cars, edits among any values: the program's. -/
namespace Ns
open PySem PySem.Spec PyProof.Rows L2
/-- xs == [], any list -/
def rEqE (K : PySem.W.Frag) : R2 := fun x y H Q => ∃ (a b : Addr) (xs : List V), x = .ref a ∧ y = .ref b ∧ SqL K H a xs ∧ SqL K H b [] ∧ Q (.bl (decide (xs = []))) H
theorem op_eqE {X : Cx} (hu : X.A.units + 64 < cLine) : OpR X (compareOp .Eq) (rEqE X.K) := by
  intro pins s σ H x y v u Q I rx ry h
  obtain ⟨a, b, xs, rfl, rfl, ha, hb, q⟩ := h
  cases (show v = Value.ref a from rx)
  cases (show u = Value.ref b from ry)
  obtain ⟨us, r1, p1, _⟩ := I.list ha
  obtain ⟨ws, r2, p2, _⟩ := I.list hb
  have z : ws = [] := by cases r2; rfl
  subst z
  have l1 := r1.length
  cases xs with
  | nil =>
    cases us with
    | nil =>
      refine SeqAt.RcAt.lists (e := fun _ => true) p1.isList p2.isList rfl (by omega) (fun j h1 _ => absurd h1 (Nat.not_lt_zero j)) _ _ _ _ ?_
      exact ⟨.bl true, H, I, rfl, q⟩
    | cons _ _ => cases l1
  | cons x xs =>
    cases us with
    | nil => cases l1
    | cons u us =>
      refine SeqAt.RcAt.lists_lengths p1.isList p2.isList (by simp) (by omega) _ _ _ _ ?_
      exact ⟨.bl false, H, I, rfl, q⟩
end Ns
namespace Y
open PySem PySem.Spec PyProof.Rows L2 Ns
def nmB (z : Str) : Bool := match z.cps.toList with
  | [] => false
  | c :: r => decide (z.length ≤ 20) && (decide (c ∈ letters.cps.toList) && (c :: r).all fun c => decide (c ∈ signs.cps.toList))
def nameD : PyData → Bool | .str z => nmB z | _ => false
def isPos : PyData → Bool | .int i => decide (1 ≤ i) | _ => false
def strOf : PyData → Str | .str z => z | _ => ""
def tupN (n : Int) : PyData → Bool | .tuple ds => decide ((ds.length : Int) = n) | _ => false
def cableD : PyData → Bool
  | .tuple [a, b, c] => nameD a && (nameD b && (!decide (strOf a = strOf b) && (!decide (strOf b = feed) && isCnt c)))
  | _ => false
def carT : PyData → Bool
  | .tuple [a, b, c, d] => nameD a && (nameD b && (isPos c && isCnt d))
  | _ => false
def editD : PyData → Bool
  | .tuple (w :: r) => if isText "cable" w then cableD (.tuple r) else if isText "no cable" w then cableD (.tuple (r ++ [.int 0])) else if isText "car" w then carT (.tuple r) else isText "no car" w && (decide (((w :: r).length : Int) = 2) && nameD (r.headD .none))
  | _ => false
theorem name_str {d : PyData} (h : nameD d = true) : ∃ z, d = .str z := by cases d <;> first | exact ⟨_, rfl⟩ | cases h
theorem dat_s {K : PySem.W.Frag} {H : Hp} {x : V} {z : Str} (D : DatV K H x (.str z)) : x = .str z := by cases D; rfl
/-- what tells something of any value, and may make objects -/
def spTellS (K : PySem.W.Frag) (f : PyData → Bool) : Sp := fun as H Q _ => ∃ (x : V) (d : PyData), as = [x] ∧ DatV K H x d ∧ Bd 1000 d ∧ ∀ H', Same H H' → Q (.bl (f d)) H'
def spTup (K : PySem.W.Frag) : Sp := fun as H Q _ => ∃ (n : Int) (x : V) (d : PyData), as = [.int n, x] ∧ DatV K H x d ∧ Q (.bl (tupN n d)) H
theorem small_str {z : Str} (h : Bd 1000 (.str z)) : z.length ≤ sizeLine := by
  simp only [Bd] at h
  exact Nat.le_of_lt (small1000 h)
section
variable {P : Program} {w : World} {K : PySem.W.Frag} {mg : Str → Option Value} {base : Heap}
theorem scIP : FnScope ["thing"] ["thing"] (defScope sIsPositive) := ⟨rfl, rfl, rfl, by decide +kernel, rfl, by decide +kernel, by decide +kernel⟩
theorem ok_isPositive {f fI : Addr} {fd dI : FuncData} (F : Fun K "is_positive" "is_positive" sIsPositive f fd) (GI : FnOk P w K mg base CX0 1 fI dI ["thing"] (spTells K isInt)) (FI : Fun K "is_integer" "is_integer" sIsInteger fI dI) (mI : mg "is_integer" = some (.ref fI)) (bI : Binds K dI ["thing"] []) :
    FnOk P w K mg base CX0 2 f fd ["thing"] (spTells K isPos) := by
  refine F.ok scIP (fun as H Q E h => ?_) (fun cdv A outer s H as Q E hr h => ?_)
  · obtain ⟨x, d, rfl, _⟩ := h
    rfl
  · obtain ⟨x, d, rfl, D, k⟩ := h
    refine ⟨_, pss_one (ps_ret (pe_and (pe_call GI hr rfl mI FI.kp bI .nil pass0 (pa_cons (pv 0) pa_nil)) (pe_one (pe_cmpR op_ge (pv 0) pe_int (nomark _))))), ?_⟩
    refine ⟨_, rfl, x, d, rfl, D, isInt d, rfl, ?_⟩
    refine ite2 (fun h => ?_) (fun h => ?_)
    · obtain ⟨i, rfl⟩ := isInt_int h
      cases dat_int D
      exact ⟨_, rfl, _, _, rfl, rfl, k⟩
    · have e : isPos d = false := by cases d <;> first | rfl | exact absurd rfl h
      rw [e] at k
      exact k
theorem scTO : FnScope ["many", "thing"] ["many", "thing"] (defScope sIsTupleOf) := ⟨rfl, rfl, rfl, by decide +kernel, rfl, by decide +kernel, by decide +kernel⟩
theorem ok_isTupleOf {f : Addr} {fd : FuncData} (F : Fun K "is_tuple_of" "is_tuple_of" sIsTupleOf f fd) (T : Nat0 mg) : FnOk P w K mg base CX0 1 f fd ["many", "thing"] (spTup K) := by
  refine F.ok scTO (fun as H Q E h => ?_) (fun cdv A outer s H as Q E hr h => ?_)
  · obtain ⟨n, x, d, rfl, _⟩ := h
    rfl
  · obtain ⟨n, x, d, rfl, D, k⟩ := h
    refine ⟨_, pss_one (ps_ret (pe_and (pe_callB (call_isD kit_T) (by rfl) T.isi (by decide +kernel) (pa_cons (pv 1) (pa_cons (pe_bltn (v := .ty "tuple") (by rfl) T.tuple (by decide +kernel) rfl) pa_nil)))
      (pe_one (pe_cmpR op_eq (pe_callB call_len_seq (by rfl) T.len PySem.boot_len (pa_cons (pv 1) pa_nil)) (pv 0) (nomark _))))), ?_⟩
    refine ⟨_, rfl, x, d, rfl, D, qT d, rfl, ?_⟩
    refine ite2 (fun h => ?_) (fun h => ?_)
    · obtain ⟨a, xs, ds, rfl, rfl, hT, hA⟩ := dat_tup D h
      refine ⟨_, rfl, a, xs, rfl, .inr hT, _, rfl, rfl, ?_⟩
      have e : tupN n (.tuple ds) = decide (V.int (xs.length : Int) = V.int n) := by
        rw [hA.len]
        show decide ((ds.length : Int) = n) = _
        by_cases z : (ds.length : Int) = n
        · rw [z, decide_eq_true rfl, decide_eq_true rfl]
        · rw [decide_eq_false z, decide_eq_false (fun y => z (by injection y))]
      rw [e] at k
      exact k
    · have e : tupN n d = false := by cases d <;> first | rfl | exact absurd rfl h
      rw [e] at k
      exact k
theorem tup3 {ds : List PyData} {K : PySem.W.Frag} {H : Hp} {xs : List V} (h : DatA K H xs ds) (e : ds.length = 3) : ∃ x y z a b c, xs = [x, y, z] ∧ ds = [a, b, c] ∧ DatV K H x a ∧ DatV K H y b ∧ DatV K H z c := by
  cases h with
  | nil => cases e
  | cons h1 t => cases t with
    | nil => cases e
    | cons h2 t => cases t with
      | nil => cases e
      | cons h3 t => cases t with
        | nil => exact ⟨_, _, _, _, _, _, rfl, rfl, h1, h2, h3⟩
        | cons _ _ => simp at e
theorem tup4 {ds : List PyData} {K : PySem.W.Frag} {H : Hp} {xs : List V} (h : DatA K H xs ds) (e : ds.length = 4) : ∃ x y z u a b c d, xs = [x, y, z, u] ∧ ds = [a, b, c, d] ∧ DatV K H x a ∧ DatV K H y b ∧ DatV K H z c ∧ DatV K H u d := by
  cases h with
  | nil => cases e
  | cons h1 t =>
    obtain ⟨x, y, z, a, b, c, rfl, rfl, h2, h3, h4⟩ := tup3 t (Nat.succ.inj e)
    exact ⟨_, _, _, _, _, _, _, _, rfl, rfl, h1, h2, h3, h4⟩
theorem cable_not {d : PyData} (h : tupN 3 d = false) : cableD d = false := by
  cases d with
  | tuple ds =>
    unfold cableD
    split
    · rename_i e
      injection e with e
      rw [e] at h
      cases h
    · rfl
  | _ => rfl
theorem car_not {d : PyData} (h : tupN 4 d = false) : carT d = false := by
  cases d with
  | tuple ds =>
    unfold carT
    split
    · rename_i e
      injection e with e
      rw [e] at h
      cases h
    · rfl
  | _ => rfl
theorem tupN_get {d : PyData} {n : Nat} (h : tupN n d = true) : ∃ ds, d = .tuple ds ∧ ds.length = n := by
  cases d with
  | tuple ds =>
    have h' := of_decide_eq_true (show decide ((ds.length : Int) = (n : Int)) = true from h)
    exact ⟨ds, rfl, by omega⟩
  | _ => cases h
theorem dat_tupT {K : PySem.W.Frag} {H : Hp} {x : V} {ds : List PyData} (D : DatV K H x (.tuple ds)) : ∃ a xs, x = .ref a ∧ SqT K H a xs ∧ DatA K H xs ds := by
  cases D with
  | tup h1 h2 => exact ⟨_, _, rfl, h1, h2⟩
theorem bd_in {ds : List PyData} {d : PyData} (h : Bd 1000 (.tuple ds)) (m : d ∈ ds) : Bd 1000 d := by
  simp only [Bd] at h
  exact bdA_iff.mp h.2 d m
theorem neS {a b : Str} : (!decide (V.str a = V.str b)) = !decide (a = b) := by
  by_cases h : a = b
  · rw [h, decide_eq_true rfl, decide_eq_true rfl]
  · rw [decide_eq_false h, decide_eq_false (fun z => h (by injection z))]
end
end Y

/-! OS: edits among any values; the law's own reading of all these. -/
namespace Ns
open PySem PySem.Spec PyProof.Rows L2
/-- t == (), any tuple -/
def rEq0 (K : PySem.W.Frag) : R2 := fun x y H Q => ∃ (a b : Addr) (xs : List V), x = .ref a ∧ y = .ref b ∧ SqT K H a xs ∧ SqT K H b [] ∧ Q (.bl (decide (xs = []))) H
theorem op_eq0 {X : Cx} (hu : X.A.units + 64 < cLine) : OpR X (compareOp .Eq) (rEq0 X.K) := by
  intro pins s σ H x y v u Q I rx ry h
  obtain ⟨a, b, xs, rfl, rfl, ha, hb, q⟩ := h
  cases (show v = Value.ref a from rx)
  cases (show u = Value.ref b from ry)
  obtain ⟨us, r1, ⟨o1, h1, h2, n1, h3⟩, _⟩ := I.tuple ha
  obtain ⟨ws, r2, ⟨o2, g1, g2, n2, g3⟩, _⟩ := I.tuple hb
  have z : ws = [] := by cases r2; rfl
  subst z
  refine SeqAt.RcAt.tuples (e := fun _ => true) ⟨o1, h1, h2, n1, h3⟩ ⟨o2, g1, g2, n2, g3⟩ (by omega) (fun j _ j2 => absurd j2 (Nat.not_lt_zero j)) _ _ _ _ ?_
  have e : ((List.range (min us.toArray.size ([] : List Value).toArray.size)).all (fun _ => true) && us.toArray.size == ([] : List Value).toArray.size) = decide (xs = []) := by
    have l1 := r1.length
    cases xs with
    | nil => cases us with
      | nil => rfl
      | cons _ _ => cases l1
    | cons _ _ => cases us with
      | nil => cases l1
      | cons _ _ => simp
  exact ⟨.bl (decide (xs = [])), H, I, congrArg Value.bool e, q⟩
end Ns
namespace Y
open PySem PySem.Spec PyProof.Rows L2 Ns
theorem cut_tail (x : V) (xs : List V) : cutV (x :: xs) (some (1 : Int)) none = xs := by
  rw [show (1 : Int) = ((1 : Nat) : Int) from rfl, cut_from]
  rfl
theorem bd_tail {d : PyData} {ds : List PyData} (h : Bd 1000 (.tuple (d :: ds))) : Bd 1000 (.tuple ds) := by
  simp only [Bd, BdA] at h ⊢
  exact ⟨by have := h.1; rw [List.length_cons] at this; omega, h.2.2⟩
theorem bd_more {d : PyData} {ds : List PyData} (h : Bd 1000 (.tuple (d :: ds))) : Bd 1000 (.tuple (ds ++ [.int 0])) := by
  simp only [Bd, BdA] at h ⊢
  refine ⟨by have := h.1; rw [List.length_cons] at this; rw [List.length_append]; exact this, bdA_iff.mpr fun u hu => ?_⟩
  rcases List.mem_append.mp hu with z | z
  · exact bdA_iff.mp h.2.2 u z
  · rw [List.mem_singleton.mp z]
    simp only [Bd]
    decide +kernel
theorem text_eq {z : Str} {d : PyData} (h : isText z d = true) : d = .str z := by
  cases d with
  | str y => rw [of_decide_eq_true (show decide (y = z) = true from h)]
  | _ => cases h
section
variable {P : Program} {w : World} {K : PySem.W.Frag} {mg : Str → Option Value} {base : Heap}
-- the law's
end
end Y

/-! MX4: d[k], dict(pairs), d.items(), list of it, walks. -/
namespace Mx
open PySem PySem.Spec PyProof.Rows L2 Ns
open L2.DX (itemsO itemsO_ok takeT)
section
variable {X : Cx} {pins : List (Addr × Obj)} {σ : L2.St} {H : Hp} {s : Shared} {a : Addr} {kvs : List (NK × V × V)} {A : Around} {E : Value → Shared → Prop}
/-- d[k] -/
def tNGet (w : World) (K : PySem.W.Frag) (td ty : TE) : TE := fun σ H Q => td σ H fun x H1 => ty σ H1 fun y H2 => ∃ (a : Addr) (kvs : List (NK × V × V)) (k : NK) (kv v : V), x = .ref a ∧ Dx w K H2 a kvs ∧ KeyV K H2 y k ∧ k.depth ≤ 8 ∧ (k, kv, v) ∈ kvs ∧ Q v H2
theorem n_getItem {k : NK} {kv v y : V} {u : Value} {Q : Value → Shared → Prop} (hu : A.units + 10 < cLine) (I : Inv X pins σ H s) (D : Dx X.w X.K H a kvs) (hk : KeyV X.K H y k) (hd : k.depth ≤ 8) (hm : (k, kv, v) ∈ kvs) (ry : RelV y u)
    (h : ∀ w' s', Inv X pins σ H s' → RelV v w' → Q w' s') : wpAny (model X.prog X.w) A (getItem (.ref a) u) Q E s := by
  obtain ⟨o, es, ep, xs, En, hx, kx⟩ := D.ents I
  have hT : s.TypeIs (.ref a) "dict" := ⟨o, En.at_, hx.1⟩
  unfold getItem
  try with_reducible refine wpAny_holding ?_
  refine wpAny_bind (wpAny_sequenceKey hT (by decide) ?_)
  refine wpAny_bind (wpAny_callSpecial?_slot (name := Str.ofString "__getitem__") hT slot_dict_getitem
    (wpAny_call_entry slot_dict_getitem hT entry_dict_getitem ?_ (args_dict_getitem _ _)))
  show wpAny _ _ (dictGet a u >>= _) _ _ s
  obtain ⟨j, hj⟩ := List.mem_iff_getElem?.mp hm
  obtain ⟨x, hx1, e1, e2, e3⟩ := kx.to hj
  refine wpAny_bind (nget (by show A.units + 1 + 9 < _; omega) En (key_is I hk ry) hd (fun hno => ?_) fun i y' hy ey => ?_)
  · exact absurd (List.mem_map.mpr ⟨x, List.mem_of_getElem? hx1, e1.symm⟩) hno
  · have ij := idx_uniq En.nd hy hx1 (ey.trans e1)
    rw [ij, hx1] at hy
    cases hy
    exact wpAny_pure ⟨x.2.2, rfl, wpAny_pure (h _ _ (I.tok _) e3)⟩
end
section
variable {X : Cx} {o i e : Expr} {pos : Pos} {td ty : TE}
theorem pe_nget (hu : X.A.units + 10 < cLine) (ho : PE X o td) (hi : PE X i ty) (hs : NoSl i) : PE X (.Subscript o i pos) (tNGet X.w X.K td ty) := by
  refine ⟨fun pins s σ H Q I h => ?_⟩
  refine subD_of PySem.F.slot_dict_getitem.lookup hs (thn (ho.run pins s σ H _ I h) fun u s1 ⟨x, H1, I1, rx, q1⟩ => thn (hi.run pins s1 σ H1 _ I1 q1) fun iv s2 ⟨y, H2, I2, ry, a, kvs, k, kv, v, ex, D, hk, hd, hm, q2⟩ => ?_)
  subst ex
  obtain rfl : u = Value.ref a := rx
  obtain ⟨o, es, ep, xs, En, hx, kx⟩ := D.ents I2
  exact ⟨⟨o, En.at_, hx.1⟩, n_getItem hu I2 D hk hd hm ry fun w' s3 I3 rw' => ⟨v, H2, I3, rw', q2⟩⟩
end
/-! ### dict of a list of pairs -/
def mergeX {α β : Type} (ps : List (NK × α × β)) : List (NK × α × β) := ps.foldl (fun acc p => putX acc p.1 p.2.1 p.2.2) []
theorem merge_take {α β : Type} (ps : List (NK × α × β)) (i : Nat) (p : NK × α × β) (h : ps[i]? = some p) : mergeX (ps.take (i + 1)) = putX (mergeX (ps.take i)) p.1 p.2.1 p.2.2 := by
  unfold mergeX
  rw [List.take_add_one, h, List.foldl_append]
  rfl
theorem merge_ind {α β : Type} {ps : List (NK × α × β)} {R : List (NK × α × β) → Prop} (h0 : R []) (hs : ∀ acc p, p ∈ ps → R acc → R (putX acc p.1 p.2.1 p.2.2)) : R (mergeX ps) := by
  unfold mergeX
  have go : ∀ (l acc : List (NK × α × β)), (∀ p ∈ l, p ∈ ps) → R acc → R (l.foldl (fun acc p => putX acc p.1 p.2.1 p.2.2) acc) := by
    intro l
    induction l with
    | nil => exact fun acc _ h => h
    | cons p l ih => exact fun acc hp h => ih _ (fun q hq => hp q (List.mem_cons_of_mem _ hq)) (hs acc p (hp p List.mem_cons_self) h)
  exact go ps [] (fun _ h => h) h0
theorem merge_nodup {α β : Type} (ps : List (NK × α × β)) : ((mergeX ps).map (·.1)).Nodup := merge_ind (R := fun xs => (xs.map (·.1)).Nodup) List.nodup_nil fun acc p _ h => putX_nodup h _ _ _
theorem merge_len {α β : Type} : ∀ (n : Nat) (ps : List (NK × α × β)), (mergeX (ps.take n)).length ≤ n
  | 0, ps => Nat.le_refl _
  | n + 1, ps => by
    cases h : ps[n]? with
    | none =>
      rw [List.take_of_length_le (by have := List.getElem?_eq_none_iff.mp h; omega)]
      have := merge_len n ps
      rw [List.take_of_length_le (List.getElem?_eq_none_iff.mp h)] at this
      omega
    | some p =>
      rw [merge_take ps n p h]
      have h1 := merge_len n ps
      have h2 := putX_len (mergeX (ps.take n)) p.1 p.2.1 p.2.2
      omega
/-- keys and values of what is merged come from the pairs -/
theorem merge_keys {α β : Type} {R : NK → α → Prop} {ps : List (NK × α × β)} (h : ∀ p ∈ ps, R p.1 p.2.1) : ∀ x ∈ mergeX ps, R x.1 x.2.1 := by
  refine merge_ind (R := fun xs => ∀ x ∈ xs, R x.1 x.2.1) (fun _ z => nomatch z) fun acc p hp ih x hx => ?_
  rcases mem_putX hx with ⟨y, hy, e1, e2, _⟩ | rfl
  · rw [e1, e2]; exact ih y hy
  · exact h p hp
theorem merge_vals {α β : Type} {R : β → Prop} {ps : List (NK × α × β)} (h : ∀ p ∈ ps, R p.2.2) : ∀ x ∈ mergeX ps, R x.2.2 := by
  refine merge_ind (R := fun xs => ∀ x ∈ xs, R x.2.2) (fun _ z => nomatch z) fun acc p hp ih x hx => ?_
  rcases mem_putX hx with ⟨y, hy, _, _, e | e⟩ | rfl
  · rw [e]; exact ih y hy
  · rw [e]; exact h p hp
  · exact h p hp
theorem KX.merge {kvs : List (NK × V × V)} {xs : List (NK × Value × Value)} (h : KX kvs xs) : KX (mergeX kvs) (mergeX xs) := by
  unfold mergeX
  have go : ∀ {l : List (NK × V × V)} {m : List (NK × Value × Value)}, KX l m → ∀ {acc : List (NK × V × V)} {bcc : List (NK × Value × Value)}, KX acc bcc → KX (l.foldl (fun acc p => putX acc p.1 p.2.1 p.2.2) acc) (m.foldl (fun acc p => putX acc p.1 p.2.1 p.2.2) bcc) := by
    intro l m h
    unfold KX at h
    induction h with
    | nil => exact fun h => h
    | @cons p q _ _ g _ ih =>
      intro acc bcc k
      rw [List.foldl_cons, List.foldl_cons]
      refine ih ?_
      rw [← g.1]
      exact KX.put k g.2.1 g.2.2
  exact go h .nil
def PrN (K : PySem.W.Frag) (H : Hp) (p : Addr) (kv : NK × V × V) : Prop := SqT K H p [kv.2.1, kv.2.2] ∧ KeyV K H kv.2.1 kv.1 ∧ kv.1.depth ≤ 8
def rDictN (w : World) (K : PySem.W.Frag) : List V → Hp → VK → Prop := fun xs H Q => ∃ (l : Addr) (ps : List Addr) (kvs : List (NK × V × V)), xs = [.ref l] ∧ SqL K H l (ps.map V.ref) ∧ Paired (PrN K H) ps kvs ∧
  ∀ (p : Addr) (o : Obj), H p = none → Dx w K (upd H p (objO p o)) p (mergeX kvs) → Q (.ref p) (upd H p (objO p o))
theorem prn_of {X : Cx} {pins : List (Addr × Obj)} {σ : L2.St} {H : Hp} {s : Shared} (I : Inv X pins σ H s) : ∀ {ps : List Addr} {kvs : List (NK × V × V)}, Paired (PrN X.K H) ps kvs →
    ∃ xs : List (NK × Value × Value), KX kvs xs ∧ xs.length = ps.length ∧ ∀ (j : Nat) (x : NK × Value × Value), xs[j]? = some x → ∃ c, ps[j]? = some c ∧ s.heap.IsTuple c #[x.2.1, x.2.2]
  | _, _, .nil => ⟨[], .nil, rfl, fun j x e => by simp at e⟩
  | _, _, .cons (a := p) (b := kv) h t => by
    obtain ⟨xs, r, hl, hp⟩ := prn_of I t
    obtain ⟨sq, hk, _⟩ := h
    obtain ⟨its, rv, ⟨o, ho, hc, n, hd⟩, _⟩ := I.tuple sq
    obtain ⟨u, y, ei, ru, ry⟩ := vals2 rv
    subst ei
    refine ⟨(kv.1, u, y) :: xs, .cons ⟨rfl, ru, ry⟩ r, by rw [List.length_cons, List.length_cons, hl], fun j x e => ?_⟩
    cases j with
    | zero =>
      cases (show (kv.1, u, y) = x from Option.some.inj e)
      exact ⟨p, rfl, o, ho, hc, n, hd⟩
    | succ j => exact hp j x (by simpa using e)
theorem nested_keep {h h' : Heap} (k : ∀ b o, h.get? b = some o → h'.get? b = some o) {x : NK} {v : Value} (n : NestedIs h x v) : NestedIs h' x v := NestedIs.at (fun b o _ _ e _ => k b o e) x v n
theorem prn_keys {K : PySem.W.Frag} {H : Hp} : ∀ {ps : List Addr} {kvs : List (NK × V × V)}, Paired (PrN K H) ps kvs → ∀ p ∈ kvs, KeyV K H p.2.1 p.1 ∧ p.1.depth ≤ 8
  | _, _, .nil, _, z => nomatch z
  | _, _, .cons h t, p, hp => by
    rcases List.mem_cons.mp hp with rfl | hp
    · exact h.2
    · exact prn_keys t p hp
theorem call_dictN {X : Cx} (hcalm : X.calm = true) (hu : X.A.units + 11 < cLine) : CallR X (.type "dict") (rDictN X.w X.K) := by
  intro pins s σ H xs us Q I r q
  obtain ⟨l, ps, kvs, rfl, hq, hp, q⟩ := q
  obtain ⟨u, rfl, rx⟩ := vals1 r
  cases rx
  obtain ⟨its, rv, pl, hz⟩ := I.list hq
  cases refs_at rv
  rw [List.length_map] at hz
  obtain ⟨es, rel, hl, hpr⟩ := prn_of I hp
  obtain ⟨o, n, ho, hc, hd, hdat⟩ := pl
  have keysK := prn_keys hp
  have keysN := keys_at I rel keysK
  have pit : PairItems s.heap (ps.map Value.ref).toArray (fun j => ps.getD j 0) (es.map fun x => (x.2.1, x.2.2)) := by
    refine ⟨by simp [hl], fun j k v e => ?_⟩
    rw [List.getElem?_map] at e
    obtain ⟨x, ex, e2⟩ := Option.map_eq_some_iff.mp e
    cases e2
    obtain ⟨c, hc1, hc2⟩ := hpr j x ex
    have ec : ps.getD j 0 = c := by rw [List.getD_eq_getElem?_getD, hc1]; rfl
    refine ⟨?_, .inl ?_⟩
    · show ((ps.map Value.ref).toArray)[j]? = some (.ref (ps.getD j 0))
      rw [ec]
      simp [hc1]
    · show s.heap.IsTuple (ps.getD j 0) _
      rw [ec]
      exact hc2
  have lz : es.length ≤ sizeLine := by rw [hl]; exact hz
  refine call_dict_arg (PairArg.list l (ps.map Value.ref).toArray (fun j => ps.getD j 0) (es.map fun x => (x.2.1, x.2.2))) ⟨⟨o, n, ho, hc, hd, hdat⟩, pit⟩ fun s1 hs1 hdf ok1 => ?_
  subst hs1
  have up : ∀ b ob, s.heap.get? b = some ob → (s.heap.push { cls := .type "dict", data := .dict #[] }).get? b = some ob := fun b ob e => Heap.get?_push_of_some _ e
  refine updateFrom_arg (A := X.A.in1)
    (Tab := fun i h => (∃ ob ee ep, h.get? s.heap.objs.size = some ob ∧ ob.ExactDict ∧ ob.data = .dict ee ep ∧ ee.toList = (mergeX (es.take i)).map (entN X.w)) ∧ ∀ b ob, s.heap.get? b = some ob → h.get? b = some ob)
    (PairArg.list l (ps.map Value.ref).toArray (fun j => ps.getD j 0) (es.map fun x => (x.2.1, x.2.2))) .none (I.ok.hd hcalm) ok1 hdf ?_ ?_ ?_ ?_ ?_
  · exact ⟨⟨_, #[], 0, Heap.get?_push_size _ rfl, ⟨rfl, rfl, rfl⟩, rfl, rfl⟩, up⟩
  · rintro i h ⟨⟨ob, ee, ep, e1, _⟩, _⟩
    exact Heap.lt_size e1
  · rintro i h h' wr' hd' hw ⟨⟨ob, ee, ep, e1, e2⟩, kk⟩ hk
    refine ⟨⟨ob, ee, ep, hk _ _ hd' e1, e2⟩, fun b o2 e => hk b o2 (fun hm => ?_) (kk b o2 e)⟩
    rcases hw b hm with z | z
    · cases z
    · rw [up b o2 e] at z; cases z
  · rintro i k v s2 Q2 E2 hi hrel ⟨⟨ob, ee, ep, e1, e2, e3, e4⟩, kk⟩ _ hQ
    rw [show PairRel _ i k v = ((es.map fun x => (x.2.1, x.2.2))[i]? = some (k, v)) from rfl, List.getElem?_map] at hrel
    obtain ⟨x, ex, e5⟩ := Option.map_eq_some_iff.mp hrel
    cases e5
    have memx := List.mem_of_getElem? ex
    have En : Ents X.w s2.heap s.heap.objs.size ob ee ep (mergeX (es.take i)) := ⟨e1, e3, e4, fun y hy => merge_keys (R := fun k v => NestedIs s2.heap k v ∧ k.depth ≤ 8) (fun z hz => ⟨nested_keep kk (keysN z (List.mem_of_mem_take hz)).1, (keysN z (List.mem_of_mem_take hz)).2⟩) y hy, merge_nodup _⟩
    refine nset (by show X.A.units + 1 + 1 + 9 < _; omega) En e2 (nested_keep kk (keysN x memx).1) (keysN x memx).2 (fun h' o' es' ep' g1 g2 g3 g4 sb => ?_) (by have := merge_len i es; have := (List.getElem?_eq_some_iff.mp ex).1; omega)
    refine hQ h' _ ⟨⟨o', es', ep', g1, g2, g3, by rw [g4, merge_take es i x ex]⟩, fun b ob2 e => ?_⟩ sb
    exact (sb.2 b (Nat.ne_of_lt (Heap.lt_size e))).trans (kk b ob2 e)
  · rintro h' tk ⟨⟨ob, ee, ep, e1, e2, e3, e4⟩, kk⟩ _
    rw [List.take_of_length_le (by rw [List.length_map]; exact Nat.le_refl _)] at e4
    have fr : H s.heap.objs.size = none := I.hok.fresh (Nat.le_refl _)
    have I1 : Inv X pins σ (upd H s.heap.objs.size (objO s.heap.objs.size ob)) { s with heap := h', toks := tk } := I.laid (t' := tk) kk (Nat.le_refl _) (objO_ok e1)
    have ml : (mergeX kvs).length ≤ sizeLine := by
      have := merge_len kvs.length kvs
      rw [List.take_length] at this
      rw [rel.len] at this
      omega
    refine ⟨rfl, .ref s.heap.objs.size, _, I1, rfl, q _ ob fr ⟨ob, upd_same, ⟨e2, ml, merge_nodup _, ee, ep, _, e3, e4, rel.merge⟩, beq_eq_false_iff_ne.mpr (Nat.ne_of_gt I.big), fun p hp => ?_⟩⟩
    exact merge_keys (R := fun k v => KeyV X.K (upd H s.heap.objs.size (objO s.heap.objs.size ob)) v k ∧ k.depth ≤ 8) (fun z hz => ⟨(keysK z hz).1.more (show Same H _ from fun c o e => by rw [upd_ne (ne_of_none e fr)]; exact e), (keysK z hz).2⟩) p hp
/-! ### d.items(), list of it -/
def rItemsN (w : World) (K : PySem.W.Frag) : V → List V → Hp → VK → Prop := fun x xs H Q => ∃ (a : Addr) (kvs : List (NK × V × V)), x = .ref a ∧ xs = [] ∧ Dx w K H a kvs ∧ ∀ p, H p = none → Q (.ref p) (upd H p (itemsO p a))
theorem mt_itemsN {X : Cx} : MtR X "dict.items" (rItemsN X.w X.K) := by
  intro pins s σ H x xs v us Q I rx rxs h
  obtain ⟨a, kvs, rfl, rfl, D, q⟩ := h
  cases rx
  cases rxs
  obtain ⟨o, h1, ⟨g1, _, _, es, ep, _, g4, _⟩, h3, _⟩ := D
  have raw : s.heap.DictRaw a es ep := ⟨o, objO_at I h1, g1, g4⟩
  refine call_meetsIn PySem.F.slot_dict_items raw.typeIs PySem.F.entry_dict_items (PySem.F.args_dict_items_1 _) (meets_dict_items_raw a h3) ⟨⟨es, ep, raw⟩, ?_⟩
  exact ⟨.ref s.heap.objs.size, upd H s.heap.objs.size (itemsO s.heap.objs.size a), I.laid (t' := s.toks) (fun b u e => Heap.get?_push_of_some _ e) (Nat.le_refl _) (itemsO_ok (Heap.get?_push_size _ rfl)), rfl, q _ (I.hok.fresh (Nat.le_refl _))⟩
def rListItemsN (w : World) (K : PySem.W.Frag) : List V → Hp → VK → Prop := fun xs H Q => ∃ (p a : Addr) (kvs : List (NK × V × V)), xs = [.ref p] ∧ H p = some (itemsO p a) ∧ Dx w K H a kvs ∧
  ∀ (l : Addr) (ts : List Addr) (H' : Hp), H l = none → Same H H' → H' l = some (.lst (ts.map V.ref)) → Paired (fun (t : Addr) (kv : NK × V × V) => H' t = some (.tup [kv.2.1, kv.2.2]) ∧ H t = none) ts kvs → Q (.ref l) H'
theorem rows_pair {β : Type} {R : Addr → β → Prop} : ∀ {ts : List Addr} {kvs : List β}, ts.length = kvs.length → (∀ (j : Nat) (t : Addr) (kv : β), ts[j]? = some t → kvs[j]? = some kv → R t kv) → Paired R ts kvs
  | [], [], _, _ => .nil
  | t :: ts, kv :: kvs, hl, h => .cons (h 0 t kv rfl rfl) (rows_pair (Nat.succ.inj hl) fun j a b h1 h2 => h (j + 1) a b h1 h2)
theorem ent_at {w : World} {es : Array DictEntry} {xs : List (NK × Value × Value)} (e : es.toList = xs.map (entN w)) {j : Nat} (hj : j < es.size) : ∃ x, xs[j]? = some x ∧ es[j] = entN w x := by
  have l : es.size = xs.length := by rw [← Array.length_toList, e, List.length_map]
  have g : es[j]? = (xs[j]?).map (entN w) := by rw [← Array.getElem?_toList, e, List.getElem?_map]
  rw [Array.getElem?_eq_getElem hj, List.getElem?_eq_getElem (by omega)] at g
  exact ⟨xs[j]'(by omega), List.getElem?_eq_getElem _, Option.some.inj g⟩
theorem call_listItemsN {X : Cx} (hc : X.calm = true) : CallR X (.type "list") (rListItemsN X.w X.K) := by
  intro pins s σ H xs us Q I r h
  obtain ⟨p, a, kvs, rfl, hp, D, q⟩ := h
  obtain rfl := Vals.ref1 r
  have view : s.heap.IsItemsView p a := (show ObjOk X.prog X.w H s.heap p (itemsO p a) from I.hok p _ hp).1
  obtain ⟨o, h1, ⟨g1, hz, _, es, ep, ents, g4, g5, g6⟩, h3, _⟩ := D
  have raw : s.heap.DictRaw a es ep := ⟨o, objO_at I h1, g1, g4⟩
  have l1 : es.size = ents.length := by rw [← Array.length_toList, g5, List.length_map]
  have lv : kvs.length = es.size := by rw [g6.len, l1]
  refine PySem.W.dil_call (I.ok.hd hc) view raw (by rw [← lv]; exact hz) fun h' tk acc c ts kept hS hl hG hacc => ?_
  have nd : ts.Nodup := List.Pairwise.imp (fun h => Nat.ne_of_lt h) hG.rise
  have fr : H s.heap.objs.size = none := I.hok.fresh (Nat.le_refl _)
  have lz : (ts.map V.ref).length ≤ sizeLine := by rw [List.length_map, hl, ← lv]; exact hz
  have I1 : Inv X pins σ (upd H s.heap.objs.size (.lst (ts.map V.ref))) { s with heap := h', toks := tk } :=
    I.laid (t' := tk) kept (Nat.le_refl _) ⟨lz, acc.toList, c, by rw [hacc]; exact vals_refs ts, by rw [Array.toArray_toList]; exact hS⟩
  have made : ∀ (j : Nat) (t : Addr), ts[j]? = some t → ∃ (kv : NK × V × V), kvs[j]? = some kv ∧ ∀ H2, ObjOk X.prog X.w H2 h' t (.tup [kv.2.1, kv.2.2]) := fun j t ht => by
    obtain ⟨hj, e3⟩ := hG.pairs j t ht
    obtain ⟨x, e4, e5⟩ := ent_at g5 hj
    obtain ⟨kv, e6, _, r1, r2⟩ := g6.at_ e4
    rw [e5] at e3
    exact ⟨kv, e6, fun H2 => ⟨(by rw [sizeLine_eq]; show 2 ≤ 16777216; omega), [x.2.1, x.2.2], .cons r1 (.cons r2 .nil), ⟨_, e3, rfl, 0, rfl⟩⟩⟩
  obtain ⟨H2, I3, g, qt⟩ := takeT (P := fun t vs => ∃ (j : Nat) (kv : NK × V × V), ts[j]? = some t ∧ kvs[j]? = some kv ∧ vs = [kv.2.1, kv.2.2]) I ts _ I1 nd fun t ht => by
    obtain ⟨j, hj⟩ := List.mem_iff_getElem?.mp ht
    obtain ⟨kv, e1, e2⟩ := made j t hj
    have above := hG.above t ht
    exact ⟨Nat.le_of_lt above, by rw [upd_ne (Nat.ne_of_gt above)]; exact I.hok.fresh (Nat.le_of_lt above), [kv.2.1, kv.2.2], ⟨j, kv, hj, e1, rfl⟩, e2⟩
  refine ⟨.ref s.heap.objs.size, H2, I3, rfl, q _ ts H2 fr (fun b o e => g b o (by rw [upd_ne (ne_of_none e fr)]; exact e)) (g _ _ upd_same) (rows_pair (by rw [hl, lv]) fun j t kv h1 h2 => ?_)⟩
  obtain ⟨vs, ⟨i, kv', e1, e2, rfl⟩, e3⟩ := qt t (List.mem_of_getElem? h1)
  have ij : i = j := (List.getElem?_inj (List.getElem?_eq_some_iff.mp e1).1 nd).mp (e1.trans h1.symm)
  rw [ij, h2] at e2
  cases e2
  exact ⟨e3, I.hok.fresh (Nat.le_of_lt (hG.above t (List.mem_of_getElem? h1)))⟩
/-! ### walks -/
def Itkn (d : Addr) (o : Obj) (kvs : List (NK × V × V)) : It :=
  ⟨fun i H => H d = some (objO d o) ∧ i < kvs.length, fun i H x H' => H' = H ∧ ∃ k v, kvs[i]? = some (k, x, v), fun i H => H d = some (objO d o) ∧ kvs.length ≤ i⟩
def Itin (d : Addr) (o : Obj) (kvs : List (NK × V × V)) : It :=
  ⟨fun i H => H d = some (objO d o) ∧ i < kvs.length, fun i H x H' => ∃ T kv, kvs[i]? = some kv ∧ x = .ref T ∧ H T = none ∧ H' = upd H T (.tup [kv.2.1, kv.2.2]), fun i H => H d = some (objO d o) ∧ kvs.length ≤ i⟩
section
variable {P : Program} {w w' : World} {K : PySem.W.Frag} {tg : Expr} {d : Addr} {o : Obj} {kvs : List (NK × V × V)} {es : Array DictEntry} {ep : Nat} {xs : List (NK × Value × Value)}
theorem turn_keysN (it : Addr) (hod : o.data = .dict es ep) (hes : es.toList = xs.map (entN w')) (kx : KX kvs xs) : Turn P w K tg (Itkn d o kvs) [it] it (fun i h => h.IsKeyIter it d i kvs.length ep) where
  mem := by simp
  obj := fun i h st b hb => by
    have e : b = it := by simpa using hb
    subst e
    obtain ⟨oi, e, c, dd⟩ := st
    exact ⟨oi, e, fun v z => by rw [dd] at z; cases z⟩
  keep := fun i h h' st k => st.at fun oi e => k it (by simp) oi e
  item := by
    intro X hP hw hK hc i pins s σ H E I hf st hg
    subst hP hw hK
    obtain ⟨hd, hi⟩ := hg
    obtain ⟨f0, f1, f2, f3, f4, f5⟩ := hf it (by simp)
    have hsz : es.size = kvs.length := by rw [← Array.length_toList, hes, List.length_map, kx.len]
    obtain ⟨x, e1, e2⟩ := ent_at hes (j := i) (by omega)
    obtain ⟨kv, e3, _, r1, _⟩ := kx.at_ e1
    refine next_key_item st (objO_at I hd) hod hsz (Array.getElem?_eq_getElem (show i < es.size by omega)) fun h' st' sb => ?_
    have I1 : Inv X pins σ H { s with heap := h' } := I.turned (t' := s.toks) (fun b ob hb e => (sb.2 b hb).trans e) f0 f1 f3 f4 f5
    obtain ⟨oi, e, c, dd⟩ := id st'
    exact ⟨es[i].key, rfl, go_of (s := { s with heap := h' }) e c dd (by decide) ⟨kv.2.1, H, I1, by rw [e2]; exact r1, ⟨rfl, kv.1, kv.2.2, e3⟩, st', fun b hb => (hf b hb).1⟩⟩
  done := by
    intro X hP hw hK hc i pins s σ H E I hf st hg
    subst hP hw hK
    obtain ⟨hd, hi⟩ := hg
    obtain ⟨f0, f1, f2, f3, f4, f5⟩ := hf it (by simp)
    have hsz : es.size = kvs.length := by rw [← Array.length_toList, hes, List.length_map, kx.len]
    exact next_key_end (I.ok.hd hc) st (objO_at I hd) hod hsz hi fun h' eb => ⟨rfl, I.turned (t' := s.toks) (fun b ob hb e => eb b ob hb e) f0 f1 f3 f4 f5⟩
  self := fun A i s Q E st h => by
    refine wpAny_pyIter_slot st.typeIs F.slot_dict_keyiterator_iter (wpAny_call_entry F.slot_dict_keyiterator_iter st.typeIs F.entry_dict_keyiterator_iter ?_ (F.args_dict_keyiterator_iter_1 _))
    show wpAny _ _ (ret (.ref it)) _ _ s
    exact wpAny_pure ⟨_, rfl, "dict_keyiterator", _, st.typeIs, F.slot_dict_keyiterator_next.lookup, h⟩
theorem turn_itemsN {elts : List Expr} {kk : Nat} {tpos : Pos} (it : Addr) (hx : o.ExactDict) (hod : o.data = .dict es ep) (hes : es.toList = xs.map (entN w')) (kx : KX kvs xs) :
    Turn P w K (.Tuple elts kk tpos) (Itin d o kvs) [it] it (fun i h => ∃ ok ov, IsItemIter h it d i es.size ep ok ov) where
  mem := by simp
  obj := fun i h st b hb => by
    have e : b = it := by simpa using hb
    subst e
    obtain ⟨ok, ov, e⟩ := st
    exact ⟨_, e, fun v z => nomatch z⟩
  keep := fun i h h' st k => let ⟨ok, ov, e⟩ := st; ⟨ok, ov, k it (by simp) _ e⟩
  item := by
    intro X hP hw hK hc i pins s σ H E I hf st hg
    subst hP hw hK
    obtain ⟨hd, hi⟩ := hg
    have hsz : es.size = kvs.length := by rw [← Array.length_toList, hes, List.length_map, kx.len]
    obtain ⟨x, e1, e2⟩ := ent_at hes (j := i) (by omega)
    obtain ⟨kv, e3, _, r1, r2⟩ := kx.at_ e1
    obtain ⟨ok, ov, he⟩ := st
    have hlt : it < s.heap.objs.size := Heap.lt_size he
    refine wpAny_pyNext_items_item_raw he ⟨o, objO_at I hd, hx, hod⟩ (show i < es.size by omega) fun h' ho hT hz hk => ?_
    refine ⟨_, rfl, wpAny_letOwnedTupleGo_items (s := { s with heap := h' }) ho fun h'' he' sb => ?_⟩
    have hT2 : h''.get? s.heap.objs.size = some { cls := .type "tuple", data := .seq #[es[i].key, es[i].val] } := (sb.2 _ (Nat.ne_of_gt hlt)).trans hT
    rw [e2] at hT2
    have new : ObjOk X.prog X.w (upd H s.heap.objs.size (.tup [kv.2.1, kv.2.2])) h'' s.heap.objs.size (.tup [kv.2.1, kv.2.2]) :=
      ⟨by show 2 ≤ sizeLine; decide, [x.2.1, x.2.2], .cons r1 (.cons r2 .nil), ⟨_, hT2, rfl, _, rfl⟩⟩
    have I1 : Inv X pins σ (upd H s.heap.objs.size (.tup [kv.2.1, kv.2.2])) { s with heap := h'' } :=
      I.turnedNew (t' := s.toks) (ch := [it]) (fun b ob hb e => (sb.2 b (by simpa using hb)).trans (hk b ob (by simpa using hb) e)) hf (Nat.le_refl _) new
    refine ⟨.ref s.heap.objs.size, _, I1, rfl, ⟨_, kv, e3, rfl, I.hok.fresh (Nat.le_refl _), rfl⟩, ⟨es[i].key, es[i].val, he'⟩, fun b hb => ?_⟩
    have e : b = it := by simpa using hb
    rw [e, upd_ne (Nat.ne_of_lt hlt)]
    exact (hf it (by simp)).1
  done := by
    intro X hP hw hK hc i pins s σ H E I hf st hg
    subst hP hw hK
    obtain ⟨hd, hi⟩ := hg
    obtain ⟨f0, f1, f2, f3, f4, f5⟩ := hf it (by simp)
    have hsz : es.size = kvs.length := by rw [← Array.length_toList, hes, List.length_map, kx.len]
    obtain ⟨ok, ov, he⟩ := st
    exact wpAny_pyNext_items_end_raw (I.ok.hd hc) he ⟨o, objO_at I hd, hx, hod⟩ (by omega) fun h' eb => ⟨rfl, I.turned (t' := s.toks) (fun b ob hb e => eb b ob hb e) f0 f1 f3 f4 f5⟩
  self := fun A i s Q E st h => let ⟨_, _, e⟩ := st; PySem.W.kcp_self e h
end
def iKeysN (w : World) (K : PySem.W.Frag) (td : TE) : TI := fun σ H R => td σ H fun x H1 => ∃ d o kvs, x = .ref d ∧ H1 d = some (objO d o) ∧ DxO w o kvs ∧ (d == sysModules) = false ∧ R (Itkn d o kvs) H1
def iItemsN (w : World) (K : PySem.W.Frag) (td : TE) : TI := fun σ H R => td σ H fun x H1 => ∃ d o kvs, x = .ref d ∧ H1 d = some (objO d o) ∧ DxO w o kvs ∧ (d == sysModules) = false ∧ R (Itin d o kvs) H1
section
variable {X : Cx} {tg e : Expr} {td : TE} {apos cpos : Pos}
theorem pi_keysN (he : PE X e td) : PI X tg e (iKeysN X.w X.K td) := by
  refine ⟨fun pins s σ H R I h => ?_⟩
  refine thn (he.run pins s σ H _ I h) fun u s1 ⟨x, H1, I1, rx, d, o, kvs, ex, hd, ⟨g1, _, _, es, ep, xs, g4, g5, g6⟩, sy, q⟩ => ?_
  subst ex
  obtain rfl : u = Value.ref d := rx
  refine iter_keys sy (objO_at I1 hd) g1 g4 (pi_one (tk := s1.toks) I1 _ (turn_keysN _ g4 g5 g6) ⟨_, Heap.get?_push_size _ rfl, rfl, ?_⟩ q)
  have hsz : es.size = kvs.length := by rw [← Array.length_toList, g5, List.length_map, g6.len]
  rw [hsz] <;> rfl
theorem pi_itemsN {elts : List Expr} {kk : Nat} {tpos : Pos} (he : PE X e td) (hbase : attributeBase e "items" X.env (eval e X.env) = eval e X.env := by rfl) (hline : (apos.endLine == cpos.line) = true := by rfl) :
    PI X (.Tuple elts kk tpos) (.Call (.Attribute e "items" apos) [] [] cpos) (iItemsN X.w X.K td) := by
  refine ⟨fun pins s σ H R I h => ?_⟩
  refine wpAny_Call_method (T := "dict") (id := "dict.items") hbase rfl hline F.plainAttrs_dict F.slot_dict_items F.type_dict_items (thn (he.run pins s σ H _ I h) fun u s1 ⟨x, H1, I1, rx, d, o, kvs, ex, hd, ⟨g1, _, _, es, ep, xs, g4, g5, g6⟩, sy, q⟩ => ?_)
  subst ex
  obtain rfl : u = Value.ref d := rx
  have raw : s1.heap.DictRaw d es ep := ⟨o, objO_at I1 hd, g1, g4⟩
  refine ⟨raw.typeIs, ?_, ?_⟩
  · rintro b ⟨⟩
    exact ⟨o, objO_at I1 hd, g1.2.1⟩
  have I2 : Inv X pins σ H1 { s1 with heap := s1.heap.push { cls := .type "dict_items", data := .fields #[.ref d] } } := I1.kept (t' := s1.toks) fun b ob q => Heap.get?_push_of_some _ q
  have fin : wpAny (model X.prog X.w) X.A (pyIter (.ref s1.heap.objs.size)) (PIE X pins σ (.Tuple elts kk tpos) R) X.xe { s1 with heap := s1.heap.push { cls := .type "dict_items", data := .fields #[.ref d] } } := by
    refine wpAny_pyIter_items_raw (d := d) ⟨_, Heap.get?_push_size _ rfl, rfl, rfl⟩ (raw.at fun _ e => Heap.get?_push_of_some _ e) (pi_one (tk := s1.toks) I2 _ (turn_itemsN _ g1 g4 g5 g6) ⟨.none, .none, ?_⟩ q)
    exact Heap.get?_push_size _ rfl
  show wpAny _ _ (callWith cpos (.builtin "dict.items") [.ref d] [] []) _ X.xe s1
  exact method_meetsIn F.slot_dict_items F.entry_dict_items rfl (PySem.evalArgs_none ⟨rfl, raw.typeIs, F.args_dict_items_1 _, _, meets_dict_items_raw d sy, ⟨es, ep, raw⟩, fin⟩)
end
end Mx

/-! MP1: is_rising of a tuple, is_lot_of, couples, copies. -/
namespace Y
open PySem PySem.Spec PyProof.Rows L2 Ns Mx
open PySem.W (dataLe dataLt alike)
def rLtD (K : PySem.W.Frag) : R2 := fun x y H Q => ∃ dx dy, DatV K H x dx ∧ DatV K H y dy ∧ alike dx dy = true ∧ dx ≠ .none ∧ dx.depth ≤ 60 ∧ Q (.bl (dataLt dx dy)) H
theorem op_ltD {X : Cx} (hu : X.A.units + 64 < cLine) : OpR X (compareOp .Lt) (rLtD X.K) := by
  intro pins s σ H x y v u Q I rx ry h
  obtain ⟨dx, dy, h1, h2, al, nn, dp, q⟩ := h
  obtain ⟨as, r1⟩ := reads_of I h1 rx
  obtain ⟨bs, r2⟩ := reads_of I h2 ry
  exact PySem.W.rcLt_alike dx dy X.A s v u as bs r1 r2 al nn (by have := Nat.min_le_left dx.depth dy.depth; omega) _ _ _ _ ⟨.bl _, H, I, rfl, q⟩
def risesD (ds : List PyData) : Bool := (ds.zip (ds.drop 1)).all fun p => dataLt p.1 p.2
def spRiseT (K : PySem.W.Frag) : Sp := fun as H Q _ => ∃ (l : Addr) (xs : List V) (ds : List PyData), as = [.ref l] ∧ SqT K H l xs ∧ DatA K H xs ds ∧ ds.length ≤ 1000 ∧ (∀ a ∈ ds, ∀ b ∈ ds, alike a b = true ∧ a ≠ .none ∧ a.depth ≤ 60) ∧ ∀ H', Same H H' → Q (.bl (risesD ds)) H'
theorem cutV_one (xs : List V) : cutV xs (some (1 : Int)) none = xs.drop 1 := by
  cases xs with
  | nil => rfl
  | cons x xs => exact cut_tail x xs
theorem walk_zipT {K : PySem.W.Frag} {a b : Addr} {xs ys : List V} {n : Nat} (hn : n = min xs.length ys.length) : Walk (RZ.ItzT K a b) n (fun H => SqT K H a xs ∧ SqT K H b ys) (YPair (fun i => xs[i]?) (fun i => ys[i]?)) := by
  subst hn
  refine ⟨fun i _ hi q => ?_, fun _ q => ⟨xs, ys, q.1, q.2, by omega⟩, fun i H v H' _ q y => ?_⟩
  · have h1 : i < xs.length := by omega
    have h2 : i < ys.length := by omega
    exact ⟨xs, ys, xs[i], ys[i], q.1, q.2, by simp [h1], by simp [h2]⟩
  · obtain ⟨T, x, z, h1, h2, h3, h4, h5⟩ := y
    exact ⟨T, x, z, h1, h2, h3, h4 xs q.1, h5 ys q.2⟩
def cplD : PyData → Bool | .tuple [a, b] => qS a && qS b | _ => false
def isNo : PyData → Bool | .none => true | _ => false
def copyD : PyData → Bool | .tuple [a, b] => isCnt a && (isNo b || isCnt b) | _ => false
def copiesD : PyData → Bool | .tuple ds => ds.all copyD | _ => false
theorem tup2 {n : Int} {d : PyData} (hn : n = 2) (h : tupN n d = true) : ∃ a b, d = .tuple [a, b] := by
  subst hn
  cases d with
  | tuple ds =>
    have h1 : ((ds.length : Int) = 2) := of_decide_eq_true h
    match ds, h1 with
    | [a, b], _ => exact ⟨a, b, rfl⟩
    | [], h => simp at h
    | [a], h => simp at h
    | a :: b :: c :: r, h => simp at h; omega
  | _ => cases h
theorem dat_t2 {K : PySem.W.Frag} {H : Hp} {x : V} {a b : PyData} (D : DatV K H x (.tuple [a, b])) : ∃ t u v, x = .ref t ∧ SqT K H t [u, v] ∧ DatV K H u a ∧ DatV K H v b := by
  generalize e : PyData.tuple [a, b] = d at D
  cases D with
  | @tup t us es h1 h2 =>
    injection e with e
    subst e
    cases h2 with | cons d1 h2 => cases h2 with | cons d2 h2 =>
    cases h2
    exact ⟨_, _, _, rfl, h1, d1, d2⟩
  | _ => cases e
section
variable {P : Program} {w : World} {K : PySem.W.Frag} {mg : Str → Option Value} {base : Heap}
theorem scRi : FnScope ["row", "one", "other"] ["row"] (defScope sIsRising) := ⟨rfl, rfl, rfl, by decide +kernel, rfl, by decide +kernel, by decide +kernel⟩
theorem ok_isRisingT {f : Addr} {fd : FuncData} (F : Fun K "is_rising" "is_rising" sIsRising f fd) (T : Nat0 mg) : FnOk P w K mg base CX0 1 f fd ["row"] (spRiseT K) := by
  refine F.ok scRi (fun as H Q E h => ?_) (fun cdv A outer s H as Q E hr h => ?_)
  · obtain ⟨l, xs, ds, rfl, _⟩ := h
    rfl
  · obtain ⟨l, xs, ds, rfl, hS, hA, hl, al, k⟩ := h
    have hun := hr.units
    refine ⟨_, pss_one (ps_ret (pe_callB (cr_all rfl) (by rfl) T.all (by decide +kernel) (pa_cons (pe_lc (own := [("one", 1), ("other", 2)]) (g := gTup K 2 (gCons (gName 1) (gCons (gName 2) gNil))) (tt := tYes) (te := tOp (rLtD K) (tVar 1) (tVar 2)) rfl scRi.nd
      (RZ.pi_zipA (by rfl) T.zip (pa_cons (pv 0) (pa_cons (pe_slice sl_tupP (pv 0) (po_some pe_int) po_none) pa_nil))) (blkOk_by (N := ["row", "one", "other"]) (sc := defScope sIsRising) (by decide +kernel))
      (fun _ _ _ _ _ => pg_tup rfl (pgs_cons (pg_name (i := 1) scRi.nd rfl (Or.inl rfl)) (pgs_cons (pg_name (i := 2) scRi.nd rfl (Or.inl rfl)) pgs_nil))) (fun _ _ _ _ _ => pts_nil) (fun _ _ _ _ _ => by exact pe_cmpR (op_ltD hun) (pv 1) (pv 2) (nomark _))) pa_nil))), ?_⟩
    have lx := hA.len
    refine ⟨_, rfl, _, rfl, _, rfl, l, xs, rfl, hS, fun p H1 M1 ep => ?_⟩
    rw [cutV_one] at ep
    refine ⟨l, p, xs, xs.drop 1, rfl, .inr ⟨sqt_more M1 hS, ep, fun D hD => ?_⟩⟩
    have hDn := fr_none M1 hD
    refine lc_it (walk_zipT (K := K) (a := l) (b := p) (xs := xs) (ys := xs.drop 1) (n := (xs.drop 1).length) (by rw [List.length_drop]; omega)) (fun i H' => H' D = some (.lst ((((ds.zip (ds.drop 1)).take i).map fun p => dataLt p.1 p.2).map V.bl)) ∧ Same H1 H') ?_ ?_ ?_ ?_
    · exact ⟨by rw [List.take_zero, upd_same]; rfl, same_new (Same.refl H1) hD⟩
    · rintro i H' _ ⟨_, M⟩
      exact ⟨sqt_more (M1.trans M) hS, sqt_more M ep⟩
    · rintro i u H' H'' hi ⟨q1, M⟩ ⟨T', x', y', rfl, fT, rfl, hx, hy⟩
      have hx : xs[i]? = some x' := hx
      have hy : (xs.drop 1)[i]? = some y' := hy
      rw [List.getElem?_drop] at hy
      obtain ⟨dx, hdx, Dx⟩ := datA_at hA hx
      obtain ⟨dy, hdy, Dy⟩ := datA_at hA hy
      have M2 := same_new (o := .tup [x', y']) M fT
      have e2 := s3u (o := .tup [x', y']) fT q1
      have et : upd H' T' (.tup [x', y']) T' = some (.tup [x', y']) := upd_same
      generalize upd H' T' (.tup [x', y']) = H2 at M2 e2 et ⊢
      have M12 := M1.trans M2
      have hz : (ds.zip (ds.drop 1))[i]? = some (dx, dy) := by rw [List.getElem?_zip_eq_some]; exact ⟨hdx, by rw [List.getElem?_drop]; exact hdy⟩
      obtain ⟨a1, a2, a3⟩ := al dx (List.mem_of_getElem? hdx) dy (List.mem_of_getElem? hdy)
      refine ⟨T', _, rfl, SqT.of et, rfl, _, _, rfl, _, _, rfl, rfl, rfl, _, rfl, _, rfl, dx, dy, Dx.more M12, Dy.more M12, a1, a2, a3, _, e2, ?_, ?_, same_put M2 hD⟩
      · rw [List.length_map, List.length_map, List.length_take, List.length_zip]
        exact small1000 (by omega)
      · rw [upd_same, List.take_succ, hz]
        simp
    rintro H2 ⟨q1, M2⟩
    rw [List.take_of_length_le (by rw [List.length_zip, List.length_drop, List.length_drop]; omega)] at q1
    refine ⟨D, _, rfl, SqL.of q1, ?_⟩
    have e : ((ds.zip (ds.drop 1)).map fun p => dataLt p.1 p.2).all id = risesD ds := by
      rw [List.all_map]
      rfl
    rw [e]
    exact k H2 (M1.trans M2)
theorem scCp : FnScope ["thing"] ["thing"] (defScope sIsCouple) := ⟨rfl, rfl, rfl, by decide +kernel, rfl, by decide +kernel, by decide +kernel⟩
theorem ok_isCouple {f fU : Addr} {fd dU : FuncData} (F : Fun K "_is_couple" "_is_couple" sIsCouple f fd) (T : Nat0 mg) (GU : FnOk P w K mg base CX0 1 fU dU ["many", "thing"] (spTup K)) (FU : Fun K "is_tuple_of" "is_tuple_of" sIsTupleOf fU dU) (mU : mg "is_tuple_of" = some (.ref fU)) (bU : Binds K dU ["many", "thing"] []) :
    FnOk P w K mg base CX0 2 f fd ["thing"] (spTells K cplD) := by
  refine F.ok scCp (fun as H Q E h => ?_) (fun cdv A outer s H as Q E hr h => ?_)
  · obtain ⟨x, d, rfl, _⟩ := h
    rfl
  · obtain ⟨x, d, rfl, D, k⟩ := h
    refine ⟨_, pss_one (ps_ret (pe_and (pe_call GU hr rfl mU FU.kp bU .nil pass0 (pa_cons pe_int (pa_cons (pv 0) pa_nil)))
      (pe_and (pe_callB (call_isD kit_S) (by rfl) T.isi (by decide +kernel) (pa_cons (pe_ix ix_tup (pv 0) pe_int (fun _ _ => rfl)) (pa_cons (pe_bltn (v := .ty "str") (by rfl) T.str (by decide +kernel) rfl) pa_nil)))
        (pe_one (pe_callB (call_isD kit_S) (by rfl) T.isi (by decide +kernel) (pa_cons (pe_ix ix_tup (pv 0) pe_int (fun _ _ => rfl)) (pa_cons (pe_bltn (v := .ty "str") (by rfl) T.str (by decide +kernel) rfl) pa_nil))))))), ?_⟩
    refine ⟨_, rfl, 2, x, d, rfl, D, _, rfl, ?_⟩
    refine ite2 (fun h => ?_) (fun h => ?_)
    · obtain ⟨a, b, rfl⟩ := tup2 rfl h
      obtain ⟨t, u, v, rfl, hT, Da, Db⟩ := dat_t2 D
      refine ⟨_, rfl, t, _, 0, u, rfl, rfl, hT, at0, u, a, rfl, Da, _, rfl, ?_⟩
      refine ite2 (fun g => ?_) (fun g => ?_)
      · refine ⟨_, rfl, t, _, 1, v, rfl, rfl, hT, at1, v, b, rfl, Db, ?_⟩
        have e : cplD (.tuple [a, b]) = qS b := by show (qS a && qS b) = _; rw [g]; rfl
        rw [e] at k
        exact k
      · have e : cplD (.tuple [a, b]) = false := by show (qS a && qS b) = _; rw [Bool.eq_false_iff.mpr g]; rfl
        rw [e] at k
        exact k
    · have e : cplD d = false := by
        unfold cplD
        split
        · exact absurd rfl h
        · rfl
      rw [e] at k
      exact k
theorem scCo : FnScope ["thing"] ["thing"] (defScope sIsCopy) := ⟨rfl, rfl, rfl, by decide +kernel, rfl, by decide +kernel, by decide +kernel⟩
theorem ok_isCopy {f fU fC : Addr} {fd dU dC : FuncData} (F : Fun K "_is_copy" "_is_copy" sIsCopy f fd) (T : Nat0 mg) (GU : FnOk P w K mg base CX0 1 fU dU ["many", "thing"] (spTup K)) (FU : Fun K "is_tuple_of" "is_tuple_of" sIsTupleOf fU dU) (mU : mg "is_tuple_of" = some (.ref fU)) (bU : Binds K dU ["many", "thing"] [])
    (GC : FnOk P w K mg base CX0 2 fC dC ["thing"] (spTells K isCnt)) (FC : Fun K "is_count" "is_count" sIsCount fC dC) (mC : mg "is_count" = some (.ref fC)) (bC : Binds K dC ["thing"] []) : FnOk P w K mg base CX0 3 f fd ["thing"] (spTells K copyD) := by
  refine F.ok scCo (fun as H Q E h => ?_) (fun cdv A outer s H as Q E hr h => ?_)
  · obtain ⟨x, d, rfl, _⟩ := h
    rfl
  · obtain ⟨x, d, rfl, D, k⟩ := h
    have hr1 : Room 1 _ := hr.mono (by decide)
    refine ⟨_, pss_one (ps_ret (pe_and (pe_call GU hr1 rfl mU FU.kp bU .nil pass0 (pa_cons pe_int (pa_cons (pv 0) pa_nil)))
      (pe_and (pe_call GC hr rfl mC FC.kp bC .nil pass0 (pa_cons (pe_ix ix_tup (pv 0) pe_int (fun _ _ => rfl)) pa_nil))
        (pe_one (pe_or (pe_cmpR op_isN (pe_ix ix_tup (pv 0) pe_int (fun _ _ => rfl)) pe_non (nomark _)) (pe_one (pe_call GC hr rfl mC FC.kp bC .nil pass0 (pa_cons (pe_ix ix_tup (pv 0) pe_int (fun _ _ => rfl)) pa_nil)))))))), ?_⟩
    refine ⟨_, rfl, 2, x, d, rfl, D, _, rfl, ?_⟩
    refine ite2 (fun h => ?_) (fun h => ?_)
    · obtain ⟨a, b, rfl⟩ := tup2 rfl h
      obtain ⟨t, u, v, rfl, hT, Da, Db⟩ := dat_t2 D
      refine ⟨_, rfl, t, _, 0, u, rfl, rfl, hT, at0, u, a, rfl, Da, _, rfl, ?_⟩
      refine ite2 (fun g => ?_) (fun g => ?_)
      · have e : copyD (.tuple [a, b]) = (isNo b || isCnt b) := by show (isCnt a && (isNo b || isCnt b)) = _; rw [g]; rfl
        rw [e] at k
        have en : isNo b = decide (v = .non) := by
          cases Db <;> first | rfl | simp [isNo]
        refine ⟨_, rfl, t, _, 1, v, rfl, rfl, hT, at1, rfl, _, rfl, ?_⟩
        refine ite2 (fun z => ?_) (fun z => ?_)
        · rw [en, z] at k
          exact k
        · rw [en, Bool.eq_false_iff.mpr z] at k
          exact ⟨_, rfl, t, _, 1, v, rfl, rfl, hT, at1, v, b, rfl, Db, k⟩
      · have e : copyD (.tuple [a, b]) = false := by show (isCnt a && (isNo b || isCnt b)) = _; rw [Bool.eq_false_iff.mpr g]; rfl
        rw [e] at k
        exact k
    · have e : copyD d = false := by
        unfold copyD
        split
        · exact absurd rfl h
        · rfl
      rw [e] at k
      exact k
theorem scCs : FnScope ["thing", "copy"] ["thing"] (defScope sIsCopies) := ⟨rfl, rfl, rfl, by decide +kernel, rfl, by decide +kernel, by decide +kernel⟩
theorem ok_isCopies {f fC : Addr} {fd dC : FuncData} (F : Fun K "is_copies" "is_copies" sIsCopies f fd) (T : Nat0 mg) (GC : FnOk P w K mg base CX0 3 fC dC ["thing"] (spTells K copyD)) (FC : Fun K "_is_copy" "_is_copy" sIsCopy fC dC) (mC : mg "_is_copy" = some (.ref fC)) (bC : Binds K dC ["thing"] []) :
    FnOk P w K mg base CX0 4 f fd ["thing"] (spTellS K copiesD) := by
  refine F.ok scCs (fun as H Q E h => ?_) (fun cdv A outer s H as Q E hr h => ?_)
  · obtain ⟨x, d, rfl, _⟩ := h
    rfl
  · obtain ⟨x, d, rfl, D, bd, k⟩ := h
    refine ⟨_, pss_one (ps_ret (pe_and (pe_callB (call_isD kit_T) (by rfl) T.isi (by decide +kernel) (pa_cons (pv 0) (pa_cons (pe_bltn (v := .ty "tuple") (by rfl) T.tuple (by decide +kernel) rfl) pa_nil)))
      (pe_one (pe_callB (cr_all rfl) (by rfl) T.all (by decide +kernel) (pa_cons (pe_lc (own := [("copy", 1)]) (g := gName 1) (tt := tYes) (te := tCall (spTells K copyD) _ _ (tCons (tVar 1) tNil)) rfl scCs.nd (pi_tup (pv 0)) (blkOk_by (N := ["thing", "copy"]) (sc := defScope sIsCopies) (by decide +kernel))
          (fun _ _ _ _ _ => pg_name (i := 1) scCs.nd rfl (Or.inl rfl)) (fun _ _ _ _ _ => pts_nil) (fun _ _ _ _ _ => by exact pe_call GC hr rfl mC FC.kp bC .nil pass0 (pa_cons (pv 1) pa_nil))) pa_nil))))), ?_⟩
    refine ⟨_, rfl, x, d, rfl, D, qT d, rfl, ?_⟩
    refine ite2 (fun h => ?_) (fun h => ?_)
    · obtain ⟨a, xs, ds, rfl, rfl, hT, hA⟩ := dat_tup D h
      have lx := hA.len
      have bl : ds.length ≤ 1000 := by simp only [Bd] at bd; exact bd.1
      have k' : ∀ H', Same H H' → Q (.bl (ds.all copyD)) H' := k
      refine ⟨_, rfl, a, rfl, ⟨xs, hT⟩, fun D1 hD1 => ?_⟩
      refine lc_tup (K := K) (a := a) (xs := xs) (fun i H' => H' D1 = some (.lst (((ds.take i).map copyD).map V.bl)) ∧ Same H H') ?_ ?_ ?_ ?_
      · exact ⟨by rw [List.take_zero, upd_same]; rfl, same_new (Same.refl H) hD1⟩
      · rintro i H' hi ⟨_, sm⟩
        exact sqt_more sm hT
      · rintro i y H' hx ⟨g1, g2⟩
        obtain ⟨dy, hdy, Dy⟩ := datA_at hA hx
        refine ⟨rfl, _, rfl, y, dy, rfl, Dy.more g2, _, g1, ?_, ?_, same_put g2 hD1⟩
        · rw [List.length_map, List.length_map, List.length_take]
          exact small1000 (by omega)
        · rw [upd_same, List.take_succ, hdy]
          simp
      · rintro H' ⟨q1, M⟩
        rw [List.take_of_length_le (by omega)] at q1
        refine ⟨D1, _, rfl, SqL.of q1, ?_⟩
        have ea : (ds.map copyD).all id = ds.all copyD := by rw [List.all_map]; rfl
        rw [ea]
        exact k' H' M
    · have e : copiesD d = false := by cases d <;> first | rfl | exact absurd rfl h
      rw [e] at k
      exact k H (Same.refl H)
end
end Y

namespace Y
open PySem PySem.Spec PyProof.Rows L2 Ns
open C8 (pss_cut)
/-- drawn cars, in their order -/
structure Cars (ns nm : List Str) (cs : List Car) : Prop where
  srt : sortedS (cs.map (·.1)) = true
  perm : (cs.map (·.1)).Perm nm
  each : ∀ c ∈ cs, c.2.1 ∈ feed :: ns ∧ 1 ≤ c.2.2.1 ∧ c.2.2.1 ≤ 10 ^ 12 ∧ 0 ≤ c.2.2.2 ∧ c.2.2.2 < 10 ^ 12
/-- a new tuple of a car -/
def CarT (H : Hp) (b : Addr) (x : V) (c : Car) : Prop := ∃ t, x = .ref t ∧ t ≠ b ∧ H t = some (.tup [.str c.1, .str c.2.1, .int c.2.2.1, .int c.2.2.2])
theorem CarT.more {H H' : Hp} {b : Addr} (m : ∀ t xs, t ≠ b → H t = some (.tup xs) → H' t = some (.tup xs)) {x : V} {c : Car} (h : CarT H b x c) : CarT H' b x c := by
  obtain ⟨t, e, n, q⟩ := h
  exact ⟨t, e, n, m _ _ n q⟩
def spCars (K : PySem.W.Frag) : Sp := fun as H Q _ => ∃ (b a c : Addr) (nm ns : List Str) (most : Int), as = [.ref b, .ref a, .ref c, .int most] ∧ Bag H b ∧ SqL K (wo H b) a (txs nm) ∧ H c = some (.lst (txs ns)) ∧ c ≠ b ∧ nm.length ≤ 30 ∧ ns.length ≤ 50 ∧ 2 ≤ most ∧ most < 10 ^ 12 ∧
  ∀ (p : Addr) (xs : List V) (cs : List Car) (H' : Hp), Cars ns nm cs → H' p = some (.tup xs) → Paired (CarV K (wo H' b)) xs cs → H p = none → p ≠ b → Bag H' b → Sb b H H' → Q (.ref p) H'
section
variable {P : Program} {w : World} {K : PySem.W.Frag} {mg : Str → Option Value} {base : Heap}
theorem scR : FnScope ["bag", "names", "knots", "most", "found", "name", "knot", "rate", "need"] ["bag", "names", "knots", "most"] (defScope sCars) := ⟨rfl, rfl, rfl, by decide +kernel, rfl, by decide +kernel, by decide +kernel⟩
theorem ok_cars {f fT fS fZ : Addr} {fd fdT fdS fdZ : FuncData} (F : Fun K "_law_cars" "_law_cars" sCars f fd) (T : Nat0 mg) (FT : Fun K "_law_take" "_law_take" sTake fT fdT) (mT : mg "_law_take" = some (.ref fT)) (bT : Binds K fdT ["bag", "many"] [])
    (FS : Fun K "_law_some" "_law_some" sSome fS fdS) (mS : mg "_law_some" = some (.ref fS)) (bS : Binds K fdS ["bag", "things"] [])
    (GZ : FnOk P w K mg base CX0 3 fZ fdZ ["bag", "most"] spSize) (FZ : Fun K "_law_size" "_law_size" sSize fZ fdZ) (mZ : mg "_law_size" = some (.ref fZ)) (bZ : Binds K fdZ ["bag", "most"] []) :
    FnOk P w K mg base CX0 4 f fd ["bag", "names", "knots", "most"] (spCars K) := by
  have GT : FnOk P w K mg base CX0 1 fT fdT ["bag", "many"] spTake := ok_take FT T
  have GS : FnOk P w K mg base CX0 2 fS fdS ["bag", "things"] (spSome K) := ok_some FS T FT mT bT
  refine F.ok scR (fun as H Q E h => ?_) (fun cdv A outer s H as Q E hr h => ?_)
  · obtain ⟨b, a, c, nm, ns, most, rfl, _⟩ := h
    rfl
  · obtain ⟨b, a, c, nm, ns, most, rfl, hB, hS, hC, ncb, hnm, hns, hmo, hmo2, k⟩ := h
    have hr1 : Room 1 _ := hr.mono (by decide)
    have hr2 : Room 2 _ := hr.mono (by decide)
    refine ⟨_, pss_cons (ps_set (i := 4) scR.nd rfl (.inl rfl) (pe_lst pa_nil))
      (pss_cons (ps_for PassesOwn.never rfl (pi_list (pe_callB cr_sortedS (by rfl) T.sorted (by decide +kernel) (pa_cons (pv 1) pa_nil))) (pg_name (i := 5) scR.nd rfl (.inl rfl))
        (pss_cons (ps_set (i := 6) scR.nd rfl (.inl rfl) (pe_call GS hr2 rfl mS FS.kp bS .nil pass0 (pa_cons (pv 0) (pa_cons (pe_op op_cat (pe_op op_cat (pe_lst (pa_cons pe_str pa_nil)) (pv 2)) (pv 2)) pa_nil))))
        (pss_cons (ps_set (i := 7) scR.nd rfl (.inl rfl) (pe_callB (call_max2 rfl) (by rfl) T.max (by decide +kernel) (pa_cons pe_int (pa_cons (pe_call GS hr2 rfl mS FS.kp bS .nil pass0 (pa_cons (pv 0) (pa_cons (pe_lst (pa_cons pe_int (pa_cons pe_int (pa_cons (pe_call GZ hr rfl mZ FZ.kp bZ .nil pass0 (pa_cons (pv 0) (pa_cons (pv 3) pa_nil))) (pa_cons pe_int pa_nil))))) pa_nil))) pa_nil))))
        (pss_cons (ps_set (i := 8) scR.nd rfl (.inl rfl) (pe_call GS hr2 rfl mS FS.kp bS .nil pass0 (pa_cons (pv 0) (pa_cons (pe_lst (pa_cons (pe_op op_add pe_int (pe_call GZ hr rfl mZ FZ.kp bZ .nil pass0 (pa_cons (pv 0) (pa_cons (pv 3) pa_nil)))) (pa_cons (pv 7)
            (pa_cons (pe_op op_add (pe_op op_mul pe_int (pv 7)) pe_int) (pa_cons pe_int (pa_cons pe_int (pa_cons (pe_op op_mul pe_int (pv 7)) (pa_cons (pe_call GT hr1 rfl mT FT.kp bT .nil pass0 (pa_cons (pv 0) (pa_cons (pe_op op_add (pv 3) pe_int) pa_nil))) pa_nil)))))))) pa_nil))))
        (pss_one (ps_expr (pe_bm PySem.F.plainAttrs_list PySem.F.slot_list_append PySem.F.type_list_append mt_append (pv 4) (pa_cons (pe_tup (pa_cons (pv 5) (pa_cons (pv 6) (pa_cons (pv 7) (pa_cons (pe_callB (call_min2 rfl) (by rfl) T.min (by decide +kernel) (pa_cons (pv 8) (pa_cons (pe_op op_sub (pe_op op_pow pe_int pe_int) pe_int) pa_nil))) pa_nil))))) pa_nil))))))))
      (pss_one (ps_ret (pe_callTy call_tuple_of (by rfl) T.tuple (by decide +kernel) (pa_cons (pv 4) pa_nil))))), ?_⟩
    refine ⟨by show 0 ≤ sizeLine; decide, fun d hd => ?_⟩
    have ndb : d ≠ b := hB.ne hd
    have ncd : c ≠ d := ne_of_none hC hd
    refine ⟨_, rfl, a, nm, rfl, Same.seq (same_new (Same.refl H) hd) ((wo_sub H b).seq hS), by omega, fun ys p perm srt hp => ⟨p, rfl, ⟨_, .inl (.inl upd_same)⟩, ?_⟩⟩
    have npd : p ≠ d := fun e => by rw [e, upd_same] at hp; cases hp
    have hp0 : H p = none := by rw [upd_ne npd] at hp; exact hp
    have npb : p ≠ b := hB.ne hp0
    have hlen : ys.length = nm.length := perm.length_eq
    refine for_list (K := K) (a := p) (xs := ys.map V.str) (fun i σ H' => ∃ (v5 v6 v7 v8 : Option V) (zs : List V) (cs : List Car), σ = [some (.ref b), some (.ref a), some (.ref c), some (.int most), some (.ref d), v5, v6, v7, v8] ∧ H' d = some (.lst zs) ∧ cs.map (·.1) = ys.take i ∧
      (∀ c ∈ cs, c.2.1 ∈ feed :: ns ∧ 1 ≤ c.2.2.1 ∧ c.2.2.1 ≤ 10 ^ 12 ∧ 0 ≤ c.2.2.2 ∧ c.2.2.2 < 10 ^ 12) ∧ Paired (CarT H' b) zs cs ∧ H' p = some (.lst (ys.map V.str)) ∧ Bag H' b ∧ Sb b H H') ?_ ?_ ?_ ?_
    · exact ⟨none, none, none, none, [], [], rfl, by rw [upd_ne npd.symm, upd_same], by rw [List.take_zero]; rfl, (fun _ z => nomatch z), .nil, upd_same, (hB.new hd).new hp, ((Sb.refl b H).new hd).new hp⟩
    · rintro i σ H' _ ⟨v5, v6, v7, v8, zs, cs, _, _, _, _, _, e, _⟩
      exact .inl (.inl e)
    · rintro i x σ H' hx ⟨v5, v6, v7, v8, zs, cs, rfl, g1, g2, g3, g4, g5, hB1, s1⟩
      rw [List.getElem?_map] at hx
      obtain ⟨y, hy, rfl⟩ := Option.map_eq_some_iff.mp hx
      have tl : (txs ns).length = ns.length := List.length_map _
      -- the knot
      refine ⟨_, rfl, by show 1 ≤ sizeLine; decide, fun q1 hq1 => ⟨_, rfl, q1, c, [.str feed], txs ns, rfl, rfl, upd_same, s3u hq1 (s1.get hC ncb), ?_, fun q2 hq2 => ⟨_, rfl, q2, c, [.str feed] ++ txs ns, txs ns, rfl, rfl, upd_same, s3u hq2 (s3u hq1 (s1.get hC ncb)), ?_, fun q3 hq3 => ?_⟩⟩⟩
      · exact Nat.le_of_lt (small1000 (show 1 + _ ≤ 1000 by omega))
      · rw [List.length_append]
        exact Nat.le_of_lt (small1000 (show 1 + _ + _ ≤ 1000 by omega))
      have hB2 := ((hB1.new (o := .lst [.str feed]) hq1).new (o := .lst ([.str feed] ++ txs ns)) hq2).new (o := .lst ([.str feed] ++ txs ns ++ txs ns)) hq3
      have s2 := ((s1.new (o := .lst [.str feed]) hq1).new (o := .lst ([.str feed] ++ txs ns)) hq2).new (o := .lst ([.str feed] ++ txs ns ++ txs ns)) hq3
      have m2 : Same H' (upd (upd (upd H' q1 (.lst [.str feed])) q2 (.lst ([.str feed] ++ txs ns))) q3 (.lst ([.str feed] ++ txs ns ++ txs ns))) := same_new (same_new (same_new (Same.refl H') hq1) hq2) hq3
      refine ⟨b, q3, _, rfl, hB2, sql_new upd_same (((hB1.new (o := .lst [.str feed]) hq1).new (o := .lst ([.str feed] ++ txs ns)) hq2).ne hq3), (fun z => nomatch z), ?_, fun kn H2 hkn hB3 s3 => ?_⟩
      · rw [List.length_append, List.length_append]
        show 1 + _ + _ ≤ _
        omega
      obtain ⟨kx, hkx, rfl⟩ : ∃ kx, kx ∈ feed :: ns ∧ kn = .str kx := by
        rcases List.mem_append.mp hkn with z | z
        · rcases List.mem_append.mp z with z | z
          · exact ⟨feed, List.mem_cons_self, List.mem_singleton.mp z⟩
          · obtain ⟨u, hu, rfl⟩ := List.mem_map.mp z
            exact ⟨u, List.mem_cons_of_mem _ hu, rfl⟩
        · obtain ⟨u, hu, rfl⟩ := List.mem_map.mp z
          exact ⟨u, List.mem_cons_of_mem _ hu, rfl⟩
      have s03 := s2.trans s3
      have b5 := s3
      -- the rate
      refine ⟨_, rfl, _, rfl, _, rfl, b, most, rfl, hB3, by omega, by omega, fun v H3 v0 v1 hB4 s4 => ⟨by show 4 ≤ sizeLine; decide, fun q4 hq4 => ⟨b, q4, _, rfl, hB4.new hq4, sql_new upd_same (hB4.ne hq4), (fun z => nomatch z), by show 4 ≤ 1000000; decide, fun x H4 hx hB5 s5 => ?_⟩⟩⟩
      obtain ⟨r0, rfl, r1, r2⟩ : ∃ r : Int, x = .int r ∧ 0 ≤ r ∧ r ≤ 10 ^ 12 := by
        simp only [List.mem_cons, List.not_mem_nil, or_false] at hx
        rcases hx with rfl | rfl | rfl | rfl
        · exact ⟨1, rfl, by decide, by decide⟩
        · exact ⟨2, rfl, by decide, by decide⟩
        · exact ⟨v, rfl, v0, by omega⟩
        · exact ⟨3, rfl, by decide, by decide⟩
      refine ⟨1, r0, rfl, ?_⟩
      obtain ⟨R, hR, R1, R2⟩ : ∃ R : Int, (if r0 > 1 then r0 else 1) = R ∧ 1 ≤ R ∧ R ≤ 10 ^ 12 := ⟨_, rfl, by split <;> omega, by split <;> omega⟩
      rw [hR]
      have s05 := ((s03.trans s4).new (o := .lst [.int 1, .int 2, .int v, .int 3]) hq4).trans s5
      -- the need
      refine ⟨_, rfl, _, rfl, _, rfl, b, most, rfl, hB5, by omega, by omega, fun v' H5 v0' v1' hB6 s6 => ⟨1, v', rfl, rfl, _, rfl, _, rfl, 2, R, rfl, rfl, .inl ⟨by decide, by decide⟩, _, 1, rfl, rfl, _, rfl, 3, R, rfl, rfl, .inl ⟨by decide, by decide⟩, _, rfl, _, rfl, most, 1, rfl, rfl, b, _, rfl, hB6, by omega, Nat.lt_of_le_of_lt (show (most + 1).natAbs ≤ (10 ^ 13 : Nat) by omega) (by decide +kernel), fun u H6 u0 u1 hB7 s7 => ?_⟩⟩
      refine ⟨by show 7 ≤ sizeLine; decide, fun q5 hq5 => ⟨b, q5, _, rfl, hB7.new hq5, sql_new upd_same (hB7.ne hq5), (fun z => nomatch z), by show 7 ≤ 1000000; decide, fun x H7 hx hB8 s8 => ?_⟩⟩
      obtain ⟨w', rfl, w0⟩ : ∃ r : Int, x = .int r ∧ 0 ≤ r := by
        simp only [List.mem_cons, List.not_mem_nil, or_false] at hx
        rcases hx with rfl | rfl | rfl | rfl | rfl | rfl | rfl
        · exact ⟨_, rfl, by omega⟩
        · exact ⟨_, rfl, by omega⟩
        · exact ⟨_, rfl, by omega⟩
        · exact ⟨_, rfl, by omega⟩
        · exact ⟨_, rfl, by omega⟩
        · exact ⟨_, rfl, by omega⟩
        · exact ⟨_, rfl, by omega⟩
      have s08 := (((s05.trans s6).trans s7).new (o := .lst [.int (1 + v'), .int R, .int (2 * R + 1), .int 0, .int 3, .int (3 * R), .int u]) hq5).trans s8
      -- what stood
      have sk : Sb b H' H7 := ((((((((Sb.refl b H').same m2).trans s3).trans s4).new (o := .lst [.int 1, .int 2, .int v, .int 3]) hq4).trans s5).trans s6).trans s7).new (o := .lst [.int (1 + v'), .int R, .int (2 * R + 1), .int 0, .int 3, .int (3 * R), .int u]) hq5 |>.trans s8
      have e1 := sk.get g1 ndb
      have e5 := sk.get g5 npb
      refine ⟨_, rfl, .inl ⟨rfl, _, SqL.of e1⟩, _, rfl, _, rfl, _, rfl, _, rfl, 10, 12, rfl, rfl, ⟨by decide, by decide, by decide⟩, _, 1, rfl, rfl, w', _, rfl, by show 4 ≤ sizeLine; decide, fun t ht => ?_⟩
      have ntb : t ≠ b := hB8.ne ht
      have ntd : t ≠ d := fun z => by rw [z, e1] at ht; cases ht
      have hz : zs.length ≤ 30 := by
        have h1 := paired_len g4
        have h2 := congrArg List.length g2
        rw [List.length_map, List.length_take] at h2
        omega
      refine ⟨d, zs, .ref t, rfl, rfl, s3u ht e1, small1000 (by omega), _, _, _, _, zs ++ [.ref t], cs ++ [(y, kx, R, if 10 ^ 12 - 1 < w' then 10 ^ 12 - 1 else w')], rfl, upd_same, ?_, fun cc hcc => ?_, ?_, ?_, ?_, ?_⟩
      · rw [List.map_append, g2, List.take_succ, hy]
        rfl
      · rcases List.mem_append.mp hcc with z | z
        · exact g3 cc z
        · rw [List.mem_singleton.mp z]
          refine ⟨hkx, R1, R2, ?_, ?_⟩
          · show 0 ≤ if (10 : Int) ^ 12 - 1 < w' then (10 : Int) ^ 12 - 1 else w'
            split <;> omega
          · show (if (10 : Int) ^ 12 - 1 < w' then (10 : Int) ^ 12 - 1 else w') < _
            split <;> omega
      · refine paired_snoc ⟨t, rfl, ntb, by rw [upd_ne ntd, upd_same]; rfl⟩ (paired_imp (fun x c h => CarT.more (fun t' xs' n q => ?_) h) g4)
        have n2 : t' ≠ d := fun z => by rw [z, g1] at q; cases q
        rw [upd_ne n2]
        exact s3u ht (sk.get q n)
      · rw [upd_ne npd]
        exact s3u ht e5
      · exact hB.wr hd (s08.new (o := .tup [.str y, .str kx, .int R, .int (if (10 : Int) ^ 12 - 1 < w' then 10 ^ 12 - 1 else w')]) ht) (hB8.new ht)
      · exact (s08.new (o := .tup [.str y, .str kx, .int R, .int (if (10 : Int) ^ 12 - 1 < w' then 10 ^ 12 - 1 else w')]) ht).wr hd
    · rintro σ H' ⟨v5, v6, v7, v8, zs, cs, rfl, g1, g2, g3, g4, g5, hB1, s1⟩
      rw [List.length_map, List.take_length] at g2
      refine ⟨_, rfl, d, zs, rfl, .inl ⟨SqL.of g1, fun l hl => ?_⟩⟩
      have nlb : l ≠ b := hB1.ne hl
      refine k l zs cs _ ⟨by rw [g2]; exact srt, by rw [g2]; exact perm, g3⟩ upd_same ?_ (s1.free hl nlb) nlb (hB1.new hl) (s1.new hl)
      refine paired_imp (fun x c h => ?_) g4
      obtain ⟨t', e, n, q⟩ := h
      exact ⟨t', e, sqt_new (s3u hl q) n⟩
end
end Y

namespace Y
open PySem PySem.Spec PyProof.Rows L2 Ns
open C8 (pss_cut)
theorem Cabs.mono {ns : List Str} {m m' : Int} {k k' : Nat} {cs : List Cab} (h : Cabs ns m k cs) (hm : m ≤ m') (hk : k ≤ k') : Cabs ns m' k' cs :=
  ⟨Nat.le_trans h.len hk, h.nodup, fun c hc => by
    obtain ⟨h1, h2, h3, h4, h5⟩ := h.each c hc
    exact ⟨h1, h2, h3, h4, by omega⟩, h.srt⟩
/-- what a drawn yard is -/
structure YardF (most : Int) (cs : List Cab) (rs : List Car) : Prop where
  ex : ∃ ns nm : List Str, Nms [] ns ∧ ns.length ≤ 8 ∧ Nms [] nm ∧ nm.length ≤ 24 ∧ Cabs ns most 40 cs ∧ Cars ns nm rs
theorem YardF.mono {m m' : Int} {cs : List Cab} {rs : List Car} (h : YardF m cs rs) (hm : m ≤ m') : YardF m' cs rs := by
  obtain ⟨ns, nm, h1, h2, h3, h4, h5, h6⟩ := h.ex
  exact ⟨ns, nm, h1, h2, h3, h4, h5.mono hm (Nat.le_refl _), h6⟩
/-- a yard as a value -/
def YardV (K : PySem.W.Frag) (H : Hp) (y : V) (cs : List Cab) (rs : List Car) : Prop := ∃ (t a b : Addr) (xs zs : List V), y = .ref t ∧ SqT K H t [.ref a, .ref b] ∧ SqT K H a xs ∧ SqT K H b zs ∧ Paired (CabV K H) xs cs ∧ Paired (CarV K H) zs rs
theorem YardV.more {K : PySem.W.Frag} {H H' : Hp} (m : Same H H') {y : V} {cs : List Cab} {rs : List Car} (h : YardV K H y cs rs) : YardV K H' y cs rs := by
  obtain ⟨t, a, b, xs, zs, e, h1, h2, h3, h4, h5⟩ := h
  exact ⟨t, a, b, xs, zs, e, sqt_more m h1, sqt_more m h2, sqt_more m h3, paired_imp (fun _ _ => CabV.more m) h4, paired_imp (fun _ _ => CarV.more m) h5⟩
def spYardOf (K : PySem.W.Frag) : Sp := fun as H Q _ => ∃ (b : Addr) (cars knots cables : Nat) (most : Int), as = [.ref b, .int cars, .int knots, .int cables, .int most] ∧ Bag H b ∧ 2 ≤ cars ∧ cars ≤ 24 ∧ knots ≤ 8 ∧ cables ≤ 40 ∧ 2 ≤ most ∧ most < 10 ^ 12 ∧
  ∀ (y : V) (cs : List Cab) (rs : List Car) (H' : Hp), YardF most cs rs → YardV K (wo H' b) y cs rs → Bag H' b → Sb b H H' → Q y H'
/-- a yard drawn, numbers up to most -/
def spYard (K : PySem.W.Frag) (most : Int) : Sp := fun as H Q _ => ∃ (b : Addr), as = [.ref b] ∧ Bag H b ∧ ∀ (y : V) (cs : List Cab) (rs : List Car) (H' : Hp), YardF most cs rs → YardV K (wo H' b) y cs rs → Bag H' b → Sb b H H' → Q y H'
/-- the yards' defs -/
structure Gen (P : Program) (w : World) (K : PySem.W.Frag) (mg : Str → Option Value) (base : Heap) (fT fS fN fNs fC fR : Addr) (dT dS dN dNs dC dR : FuncData) : Prop where
  T : Fun K "_law_take" "_law_take" sTake fT dT
  mT : mg "_law_take" = some (.ref fT)
  bT : Binds K dT ["bag", "many"] []
  S : Fun K "_law_some" "_law_some" sSome fS dS
  mS : mg "_law_some" = some (.ref fS)
  bS : Binds K dS ["bag", "things"] []
  N : Fun K "_law_names" "_law_names" sNames fNs dNs
  mN : mg "_law_names" = some (.ref fNs)
  bN : Binds K dNs ["bag", "many", "taken"] []
  gN : FnOk P w K mg base CX0 4 fNs dNs ["bag", "many", "taken"] (spNames K)
  C : Fun K "_law_cables" "_law_cables" sCables fC dC
  mC : mg "_law_cables" = some (.ref fC)
  bC : Binds K dC ["bag", "knots", "many", "most"] []
  gC : FnOk P w K mg base CX0 5 fC dC ["bag", "knots", "many", "most"] (spCables K)
  R : Fun K "_law_cars" "_law_cars" sCars fR dR
  mR : mg "_law_cars" = some (.ref fR)
  bR : Binds K dR ["bag", "names", "knots", "most"] []
  gR : FnOk P w K mg base CX0 5 fR dR ["bag", "names", "knots", "most"] (spCars K)
section
variable {P : Program} {w : World} {K : PySem.W.Frag} {mg : Str → Option Value} {base : Heap} {fT fS fN fNs fC fR : Addr} {dT dS dN dNs dC dR : FuncData}
theorem scY : FnScope ["bag", "cars", "knots", "cables", "most", "many", "some"] ["bag", "cars", "knots", "cables", "most"] (defScope sYardOf) := ⟨rfl, rfl, rfl, by decide +kernel, rfl, by decide +kernel, by decide +kernel⟩
theorem ok_yardOf {f : Addr} {fd : FuncData} (F : Fun K "_law_yard_of" "_law_yard_of" sYardOf f fd) (T : Nat0 mg) (G : Gen P w K mg base fT fS fN fNs fC fR dT dS dN dNs dC dR) : FnOk P w K mg base CX0 6 f fd ["bag", "cars", "knots", "cables", "most"] (spYardOf K) := by
  have GT : FnOk P w K mg base CX0 1 fT dT ["bag", "many"] spTake := ok_take G.T T
  have GS : FnOk P w K mg base CX0 2 fS dS ["bag", "things"] (spSome K) := ok_some G.S T G.T G.mT G.bT
  refine F.ok scY (fun as H Q E h => ?_) (fun cdv A outer s H as Q E hr h => ?_)
  · obtain ⟨b, cars, knots, cables, most, rfl, _⟩ := h
    rfl
  · obtain ⟨b, cars, knots, cables, most, rfl, hB, hc1, hc2, hk, hb, hmo, hmo2, k⟩ := h
    have hr1 : Room 1 _ := hr.mono (by decide)
    have hr2 : Room 2 _ := hr.mono (by decide)
    have hr4 : Room 4 _ := hr.mono (by decide)
    have hr5 : Room 5 _ := hr
    refine ⟨_, pss_cons (ps_set (i := 5) scY.nd rfl (.inl rfl) (pe_call GS hr2 rfl G.mS G.S.kp G.bS .nil pass0 (pa_cons (pv 0) (pa_cons (pe_lst (pa_cons (pv 1) (pa_cons (pe_op op_add pe_int (pe_call GT hr1 rfl G.mT G.T.kp G.bT .nil pass0 (pa_cons (pv 0) (pa_cons (pv 1) pa_nil)))) (pa_cons (pv 1)
        (pa_cons (pe_callB (call_max2 rfl) (by rfl) T.max (by decide +kernel) (pa_cons pe_int (pa_cons (pe_op op_sub (pv 1) pe_int) pa_nil))) (pa_cons (pe_call GT hr1 rfl G.mT G.T.kp G.bT .nil pass0 (pa_cons (pv 0) (pa_cons (pe_op op_add (pv 1) pe_int) pa_nil))) pa_nil)))))) pa_nil))))
      (pss_cons (ps_set (i := 6) scY.nd rfl (.inl rfl) (pe_call G.gN hr4 rfl G.mN G.N.kp G.bN .nil pass0 (pa_cons (pv 0) (pa_cons (pe_call GT hr1 rfl G.mT G.T.kp G.bT .nil pass0 (pa_cons (pv 0) (pa_cons (pe_op op_add (pv 2) pe_int) pa_nil))) (pa_cons (pe_lst pa_nil) pa_nil)))))
      (pss_one (ps_ret (pe_tup (pa_cons (pe_call G.gC hr5 rfl G.mC G.C.kp G.bC .nil pass0 (pa_cons (pv 0) (pa_cons (pv 6) (pa_cons (pv 3) (pa_cons (pv 4) pa_nil)))))
        (pa_cons (pe_call G.gR hr5 rfl G.mR G.R.kp G.bR .nil pass0 (pa_cons (pv 0) (pa_cons (pe_call G.gN hr4 rfl G.mN G.N.kp G.bN .nil pass0 (pa_cons (pv 0) (pa_cons (pv 5) (pa_cons (pe_lst pa_nil) pa_nil)))) (pa_cons (pv 6) (pa_cons (pv 4) pa_nil))))) pa_nil)))))), ?_⟩
    have big : (2000 : Nat) < 2 ^ 200 := by decide +kernel
    refine ⟨_, rfl, _, rfl, _, rfl, _, rfl, b, cars, rfl, hB, by omega, by omega, fun v H1 v0 v1 hB1 s1 => ⟨1, v, rfl, rfl, _, rfl, _, rfl, cars, 1, rfl, rfl, 1, _, rfl, _, rfl, _, rfl, cars, 1, rfl, rfl, b, _, rfl, hB1, by omega, by omega, fun u H2 u0 u1 hB2 s2 => ?_⟩⟩
    refine ⟨by show 5 ≤ sizeLine; decide, fun q hq => ⟨b, q, _, rfl, hB2.new hq, sql_new upd_same (hB2.ne hq), (fun z => nomatch z), by show 5 ≤ 1000000; decide, fun x H3 hx hB3 s3 => ?_⟩⟩
    obtain ⟨m, rfl, hm⟩ : ∃ m : Nat, x = .int m ∧ m ≤ 24 := by
      have key : ∀ i : Int, 0 ≤ i → i ≤ 24 → ∃ m : Nat, V.int i = .int m ∧ m ≤ 24 := fun i h0 h1 => ⟨i.toNat, by rw [Int.toNat_of_nonneg h0], by omega⟩
      simp only [List.mem_cons, List.not_mem_nil, or_false] at hx
      rcases hx with rfl | rfl | rfl | rfl | rfl
      · exact key _ (by omega) (by omega)
      · exact key _ (by omega) (by omega)
      · exact key _ (by omega) (by omega)
      · exact key _ (by split <;> omega) (by split <;> omega)
      · exact key _ (by omega) (by omega)
    have s03 := ((s1.trans s2).new (o := .lst [.int cars, .int (1 + v), .int cars, .int (if (cars : Int) - 1 > 1 then (cars : Int) - 1 else 1), .int u]) hq).trans s3
    refine ⟨_, rfl, _, rfl, _, rfl, knots, 1, rfl, rfl, b, _, rfl, hB3, by omega, by omega, fun kn H4 k0 k1 hB4 s4 => ⟨by show 0 ≤ sizeLine; decide, fun q2 hq2 => ?_⟩⟩
    obtain ⟨kn', rfl⟩ : ∃ n : Nat, kn = n := ⟨kn.toNat, by omega⟩
    refine ⟨b, q2, kn', [], rfl, hB4.new hq2, sql_new upd_same (hB4.ne hq2), by show 0 + kn' ≤ 100; omega, (fun _ z => nomatch z), fun p ns H5 hns N5 e5 f5 hB5 s5 => ?_⟩
    have s05 := ((s03.trans s4).new (o := .lst []) hq2).trans s5
    have npb : p ≠ b := (hB4.new (o := .lst []) hq2).ne f5
    refine ⟨_, rfl, _, rfl, _, rfl, _, rfl, b, p, ns, cables, most, rfl, hB5, e5, N5, by omega, by omega, hmo, by omega, fun pc xs cs H6 C6 e6 p6 f6 n6 hB6 s6 => ?_⟩
    refine ⟨_, rfl, _, rfl, _, rfl, by show 0 ≤ sizeLine; decide, fun q3 hq3 => ⟨b, q3, m, [], rfl, hB6.new hq3, sql_new upd_same (hB6.ne hq3), by show 0 + m ≤ 100; omega, (fun _ z => nomatch z), fun pn nm H7 hnm N7 e7 f7 hB7 s7 => ?_⟩⟩
    have npn : pn ≠ b := (hB6.new (o := .lst []) hq3).ne f7
    have s67 := ((Sb.refl b H6).new (o := .lst []) hq3).trans s7
    refine ⟨_, rfl, _, rfl, b, pn, p, nm, ns, most, rfl, hB7, sql_new e7 npn, s67.get (s6.get e5 npb) npb, npb, by omega, by omega, hmo, hmo2, fun pr zs rs H8 R8 e8 p8 f8 n8 hB8 s8 => ?_⟩
    have s68 := s67.trans s8
    refine ⟨by show 2 ≤ sizeLine; decide, fun t ht => ?_⟩
    have sT : Same (wo H8 b) (wo (upd H8 t (.tup [.ref pc, .ref pr])) b) := wo_same (same_new (Same.refl H8) ht)
    refine k (.ref t) cs rs _ ⟨ns, nm, N5, by omega, N7, by omega, C6.mono (Int.le_refl _) hb, R8⟩ ⟨t, pc, pr, xs, zs, rfl, sqt_new upd_same (hB8.ne ht), ?_, ?_, ?_, ?_⟩ (hB8.new ht) (((s05.trans s6).trans s68).new ht)
    · exact sqt_new (s3u ht (s68.get e6 n6)) n6
    · exact sqt_new (s3u ht e8) n8
    · exact paired_imp (fun _ _ h => (h.more s68.1).more sT) p6
    · exact paired_imp (fun _ _ h => h.more sT) p8
end
end Y

namespace Y
open PySem PySem.Spec PyProof.Rows L2 Ns
open C8 (pss_cut)
section
variable {P : Program} {w : World} {K : PySem.W.Frag} {mg : Str → Option Value} {base : Heap} {fT fS fN fNs fC fR : Addr} {dT dS dN dNs dC dR : FuncData}
theorem scSm : FnScope ["bag"] ["bag"] (defScope sSmall) := ⟨rfl, rfl, rfl, by decide +kernel, rfl, by decide +kernel, by decide +kernel⟩
theorem scW : FnScope ["bag", "most"] ["bag"] (defScope sWide) := ⟨rfl, rfl, rfl, by decide +kernel, rfl, by decide +kernel, by decide +kernel⟩
theorem ok_small {f fY : Addr} {fd dY : FuncData} (F : Fun K "_law_small_yard" "_law_small_yard" sSmall f fd) (T : Nat0 mg) (G : Gen P w K mg base fT fS fN fNs fC fR dT dS dN dNs dC dR)
    (FY : Fun K "_law_yard_of" "_law_yard_of" sYardOf fY dY) (mY : mg "_law_yard_of" = some (.ref fY)) (bY : Binds K dY ["bag", "cars", "knots", "cables", "most"] []) : FnOk P w K mg base CX0 7 f fd ["bag"] (spYard K 7) := by
  have GS : FnOk P w K mg base CX0 2 fS dS ["bag", "things"] (spSome K) := ok_some G.S T G.T G.mT G.bT
  have GY : FnOk P w K mg base CX0 6 fY dY ["bag", "cars", "knots", "cables", "most"] (spYardOf K) := ok_yardOf FY T G
  refine F.ok scSm (fun as H Q E h => ?_) (fun cdv A outer s H as Q E hr h => ?_)
  · obtain ⟨b, rfl, _⟩ := h
    rfl
  · obtain ⟨b, rfl, hB, k⟩ := h
    have hr2 : Room 2 _ := hr.mono (by decide)
    refine ⟨_, pss_one (ps_ret (pe_call GY hr rfl mY FY.kp bY .nil pass0 (pa_cons (pv 0) (pa_cons (pe_call GS hr2 rfl G.mS G.S.kp G.bS .nil pass0 (pa_cons (pv 0) (pa_cons (pe_lst (pa_cons pe_int (pa_cons pe_int (pa_cons pe_int (pa_cons pe_int pa_nil))))) pa_nil)))
      (pa_cons pe_int (pa_cons (pe_call GS hr2 rfl G.mS G.S.kp G.bS .nil pass0 (pa_cons (pv 0) (pa_cons (pe_lst (pa_cons pe_int (pa_cons pe_int (pa_cons pe_int pa_nil)))) pa_nil)))
      (pa_cons (pe_call GS hr2 rfl G.mS G.S.kp G.bS .nil pass0 (pa_cons (pv 0) (pa_cons (pe_lst (pa_cons pe_int (pa_cons pe_int (pa_cons pe_int pa_nil)))) pa_nil))) pa_nil))))))), ?_⟩
    refine ⟨_, rfl, _, rfl, by show 4 ≤ sizeLine; decide, fun q1 hq1 => ⟨b, q1, _, rfl, hB.new hq1, sql_new upd_same (hB.ne hq1), (fun z => nomatch z), by show 4 ≤ 1000000; decide, fun x H1 hx hB1 s1 => ?_⟩⟩
    obtain ⟨m1, rfl, a1, a2⟩ : ∃ m : Nat, x = .int m ∧ 2 ≤ m ∧ m ≤ 24 := by
      simp only [List.mem_cons, List.not_mem_nil, or_false] at hx
      rcases hx with rfl | rfl | rfl | rfl
      · exact ⟨3, rfl, by decide, by decide⟩
      · exact ⟨4, rfl, by decide, by decide⟩
      · exact ⟨5, rfl, by decide, by decide⟩
      · exact ⟨2, rfl, by decide, by decide⟩
    refine ⟨_, rfl, by show 3 ≤ sizeLine; decide, fun q2 hq2 => ⟨b, q2, _, rfl, hB1.new hq2, sql_new upd_same (hB1.ne hq2), (fun z => nomatch z), by show 3 ≤ 1000000; decide, fun x H2 hx hB2 s2 => ?_⟩⟩
    obtain ⟨m2, rfl, a3⟩ : ∃ m : Nat, x = .int m ∧ m ≤ 40 := by
      simp only [List.mem_cons, List.not_mem_nil, or_false] at hx
      rcases hx with rfl | rfl | rfl
      · exact ⟨4, rfl, by decide⟩
      · exact ⟨6, rfl, by decide⟩
      · exact ⟨3, rfl, by decide⟩
    refine ⟨_, rfl, by show 3 ≤ sizeLine; decide, fun q3 hq3 => ⟨b, q3, _, rfl, hB2.new hq3, sql_new upd_same (hB2.ne hq3), (fun z => nomatch z), by show 3 ≤ 1000000; decide, fun x H3 hx hB3 s3 => ?_⟩⟩
    obtain ⟨m3, rfl, a4, a5⟩ : ∃ m : Int, x = .int m ∧ 2 ≤ m ∧ m ≤ 7 := by
      simp only [List.mem_cons, List.not_mem_nil, or_false] at hx
      rcases hx with rfl | rfl | rfl
      · exact ⟨3, rfl, by decide, by decide⟩
      · exact ⟨7, rfl, by decide, by decide⟩
      · exact ⟨2, rfl, by decide, by decide⟩
    have s03 := ((((((Sb.refl b H).new (o := .lst [.int 3, .int 4, .int 5, .int 2]) hq1).trans s1).new (o := .lst [.int 4, .int 6, .int 3]) hq2).trans s2).new (o := .lst [.int 3, .int 7, .int 2]) hq3).trans s3
    exact ⟨b, m1, 4, m2, m3, rfl, hB3, a1, a2, by decide, a3, a4, by omega, fun y cs rs H' hY hV hB' s' => k y cs rs H' (hY.mono a5) hV hB' (s03.trans s')⟩
theorem ok_wide {f fY : Addr} {fd dY : FuncData} (F : Fun K "_law_wide_yard" "_law_wide_yard" sWide f fd) (T : Nat0 mg) (G : Gen P w K mg base fT fS fN fNs fC fR dT dS dN dNs dC dR)
    (FY : Fun K "_law_yard_of" "_law_yard_of" sYardOf fY dY) (mY : mg "_law_yard_of" = some (.ref fY)) (bY : Binds K dY ["bag", "cars", "knots", "cables", "most"] []) : FnOk P w K mg base CX0 7 f fd ["bag"] (spYard K (10 ^ 12)) := by
  have GS : FnOk P w K mg base CX0 2 fS dS ["bag", "things"] (spSome K) := ok_some G.S T G.T G.mT G.bT
  have GY : FnOk P w K mg base CX0 6 fY dY ["bag", "cars", "knots", "cables", "most"] (spYardOf K) := ok_yardOf FY T G
  refine F.ok scW (fun as H Q E h => ?_) (fun cdv A outer s H as Q E hr h => ?_)
  · obtain ⟨b, rfl, _⟩ := h
    rfl
  · obtain ⟨b, rfl, hB, k⟩ := h
    have hr2 : Room 2 _ := hr.mono (by decide)
    refine ⟨_, pss_cons (ps_set (i := 1) scW.nd rfl (.inl rfl) (pe_call GS hr2 rfl G.mS G.S.kp G.bS .nil pass0 (pa_cons (pv 0) (pa_cons (pe_lst (pa_cons pe_int (pa_cons pe_int (pa_cons (pe_op op_sub (pe_op op_pow pe_int pe_int) pe_int) (pa_cons (pe_op op_pow pe_int pe_int) pa_nil))))) pa_nil))))
      (pss_one (ps_ret (pe_call GY hr rfl mY FY.kp bY .nil pass0 (pa_cons (pv 0) (pa_cons (pe_call GS hr2 rfl G.mS G.S.kp G.bS .nil pass0 (pa_cons (pv 0) (pa_cons (pe_lst (pa_cons pe_int (pa_cons pe_int (pa_cons pe_int pa_nil)))) pa_nil)))
      (pa_cons pe_int (pa_cons (pe_call GS hr2 rfl G.mS G.S.kp G.bS .nil pass0 (pa_cons (pv 0) (pa_cons (pe_lst (pa_cons pe_int (pa_cons pe_int (pa_cons pe_int pa_nil)))) pa_nil)))
      (pa_cons (pv 1) pa_nil)))))))), ?_⟩
    refine ⟨_, rfl, 10, 12, rfl, rfl, ⟨by decide, by decide, by decide⟩, _, 1, rfl, rfl, 10, 6, rfl, rfl, ⟨by decide, by decide, by decide⟩, by show 4 ≤ sizeLine; decide, fun q1 hq1 => ⟨b, q1, _, rfl, hB.new hq1, sql_new upd_same (hB.ne hq1), (fun z => nomatch z), by show 4 ≤ 1000000; decide, fun x H1 hx hB1 s1 => ?_⟩⟩
    obtain ⟨m3, rfl, a4, a5⟩ : ∃ m : Int, x = .int m ∧ 2 ≤ m ∧ m < 10 ^ 12 := by
      simp only [List.mem_cons, List.not_mem_nil, or_false] at hx
      rcases hx with rfl | rfl | rfl | rfl
      · exact ⟨9, rfl, by decide, by decide⟩
      · exact ⟨40, rfl, by decide, by decide⟩
      · exact ⟨_, rfl, by decide, by decide⟩
      · exact ⟨_, rfl, by decide, by decide⟩
    refine ⟨_, rfl, _, rfl, by show 3 ≤ sizeLine; decide, fun q2 hq2 => ⟨b, q2, _, rfl, hB1.new hq2, sql_new upd_same (hB1.ne hq2), (fun z => nomatch z), by show 3 ≤ 1000000; decide, fun x H2 hx hB2 s2 => ?_⟩⟩
    obtain ⟨m1, rfl, a1, a2⟩ : ∃ m : Nat, x = .int m ∧ 2 ≤ m ∧ m ≤ 24 := by
      simp only [List.mem_cons, List.not_mem_nil, or_false] at hx
      rcases hx with rfl | rfl | rfl
      · exact ⟨8, rfl, by decide, by decide⟩
      · exact ⟨12, rfl, by decide, by decide⟩
      · exact ⟨24, rfl, by decide, by decide⟩
    refine ⟨_, rfl, by show 3 ≤ sizeLine; decide, fun q3 hq3 => ⟨b, q3, _, rfl, hB2.new hq3, sql_new upd_same (hB2.ne hq3), (fun z => nomatch z), by show 3 ≤ 1000000; decide, fun x H3 hx hB3 s3 => ?_⟩⟩
    obtain ⟨m2, rfl, a3⟩ : ∃ m : Nat, x = .int m ∧ m ≤ 40 := by
      simp only [List.mem_cons, List.not_mem_nil, or_false] at hx
      rcases hx with rfl | rfl | rfl
      · exact ⟨9, rfl, by decide⟩
      · exact ⟨16, rfl, by decide⟩
      · exact ⟨40, rfl, by decide⟩
    have s03 := ((((((Sb.refl b H).new (o := .lst [.int 9, .int 40, .int (10 ^ 12 - 1), .int (10 ^ 6)]) hq1).trans s1).new (o := .lst [.int 8, .int 12, .int 24]) hq2).trans s2).new (o := .lst [.int 9, .int 16, .int 40]) hq3).trans s3
    exact ⟨_, rfl, b, m1, 8, m2, m3, rfl, hB3, a1, a2, by decide, a3, a4, a5, fun y cs rs H' hY hV hB' s' => k y cs rs H' (hY.mono (Int.le_of_lt a5)) hV hB' (s03.trans s')⟩
end
end Y

namespace Y
open PySem PySem.Spec PyProof.Rows L2 Ns
open C8 (pss_cut)
theorem min_ok {v : Int} (h : 0 ≤ v) : (1 ≤ v → 1 ≤ if (10 : Int) ^ 12 - 1 < v then (10 : Int) ^ 12 - 1 else v) ∧ 0 ≤ (if (10 : Int) ^ 12 - 1 < v then (10 : Int) ^ 12 - 1 else v) ∧ (if (10 : Int) ^ 12 - 1 < v then (10 : Int) ^ 12 - 1 else v) < 10 ^ 12 := by
  split <;> omega
section
variable {P : Program} {w : World} {K : PySem.W.Frag} {mg : Str → Option Value} {base : Heap} {fT fS fN fNs fC fR : Addr} {dT dS dN dNs dC dR : FuncData}
def NG : List Str := ["bag", "yard", "times", "cables", "cars", "most", "one", "other", "cap", "name", "knot", "rate", "need"]
end
end Y

namespace Y
open PySem PySem.Spec PyProof.Rows L2 Ns
open C8 (pss_cut)
/-- a dict of texts to 1 -/
def kv1 (l : List Str) : List (Key × V) := l.map fun s => ((Sum.inr s : Key), V.int 1)
def ins (l : List Str) (s : Str) : List Str := if s ∈ l then l else l ++ [s]
theorem kv1_any (s : Str) : ∀ l : List Str, ((kv1 l).any fun kv => decide (kv.1 = Sum.inr s)) = decide (s ∈ l)
  | [] => by simp [kv1]
  | t :: l => by
    have ih := kv1_any s l
    unfold kv1 at ih ⊢
    rw [List.map_cons, List.any_cons, ih]
    by_cases e : t = s
    · simp [e]
    · have e2 : ¬ s = t := fun z => e z.symm
      simp [e, e2]
theorem kv1_put (l : List Str) (s : Str) : putK (kv1 l) (Sum.inr s) (.int 1) = kv1 (ins l s) := by
  unfold putK ins
  rw [kv1_any]
  by_cases h : s ∈ l
  · rw [if_pos (decide_eq_true h), if_pos h]
    unfold kv1
    rw [List.map_map]
    apply List.map_congr_left
    intro t _
    by_cases e : t = s
    · simp [e]
    · simp [e]
  · rw [if_neg (by simp [h]), if_neg h]
    unfold kv1
    rw [List.map_append]
    rfl
theorem kv1_merge : ∀ (m l : List Str), mergeK (kv1 l) (kv1 m) = kv1 (m.foldl ins l)
  | [], _ => rfl
  | s :: m, l => by
    show mergeK (putK (kv1 l) (Sum.inr s) (.int 1)) (kv1 m) = _
    rw [kv1_put, kv1_merge m]
    rfl
theorem mem_ins {l : List Str} {s t : Str} : t ∈ ins l s ↔ t ∈ l ∨ t = s := by
  unfold ins
  by_cases h : s ∈ l
  · rw [if_pos h]
    exact ⟨.inl, fun z => z.elim id fun e => e ▸ h⟩
  · rw [if_neg h, List.mem_append, List.mem_singleton]
theorem nodup_ins {l : List Str} (h : l.Nodup) (s : Str) : (ins l s).Nodup := by
  unfold ins
  by_cases c : s ∈ l
  · rw [if_pos c]; exact h
  · rw [if_neg c, List.nodup_append]
    refine ⟨h, List.nodup_cons.mpr ⟨(fun z => nomatch z), List.nodup_nil⟩, fun y hy z hz => ?_⟩
    rw [List.mem_singleton.mp hz]
    rintro rfl
    exact c hy
theorem mem_inss {t : Str} : ∀ {m l : List Str}, t ∈ m.foldl ins l ↔ t ∈ l ∨ t ∈ m
  | [], l => by simp
  | s :: m, l => by
    rw [List.foldl_cons, mem_inss, mem_ins, List.mem_cons, or_assoc]
theorem nodup_inss : ∀ {m l : List Str}, l.Nodup → (m.foldl ins l).Nodup
  | [], _, h => h
  | s :: m, l, h => nodup_inss (m := m) (nodup_ins h s)
/-- the knots of a yard -/
def KnIn (cs : List Cab) (rs : List Car) (s : Str) : Prop := (∃ c ∈ cs, s = c.1 ∨ s = c.2.1) ∨ ∃ r ∈ rs, s = r.2.1
theorem knIn_feed {most : Int} {cs : List Cab} {rs : List Car} (h : YardF most cs rs) : ∃ ns : List Str, ns.length ≤ 8 ∧ (∀ x ∈ ns, Nm x) ∧ ∀ s, KnIn cs rs s → s ∈ feed :: ns := by
  obtain ⟨ns, nm, N1, N2, N3, N4, C, R⟩ := h.ex
  refine ⟨ns, N2, N1.nm, fun s hs => ?_⟩
  rcases hs with ⟨c, hc, e | e⟩ | ⟨r, hr, e⟩
  · rw [e]; exact (C.each c hc).2.1
  · rw [e]; exact List.mem_cons_of_mem _ (C.each c hc).2.2.1
  · rw [e]; exact (R.each r hr).1
/-- what the knots' list is: the ascending list without feed -/
def spKnots (K : PySem.W.Frag) : Sp := fun as H Q _ => ∃ (y : V) (cs : List Cab) (rs : List Car) (ns : List Str), as = [y] ∧ YardV K H y cs rs ∧ ns.length ≤ 20 ∧ (∀ s, KnIn cs rs s → s ∈ feed :: ns) ∧
  ∀ (p : Addr) (ks : List Str) (H' : Hp), ks.Nodup → (∀ s, s ∈ ks ↔ KnIn cs rs s ∧ s ≠ feed) → H' p = some (.lst (txs ks)) → H p = none → Same H H' → Q (.ref p) H'
section
variable {P : Program} {w : World} {K : PySem.W.Frag} {mg : Str → Option Value} {base : Heap}
theorem scK : FnScope ["yard", "found", "one", "other", "cap", "name", "knot", "rate", "need"] ["yard"] (defScope sKnots) := ⟨rfl, rfl, rfl, by decide +kernel, rfl, by decide +kernel, by decide +kernel⟩
theorem ok_knots {f : Addr} {fd : FuncData} (F : Fun K "_law_knots" "_law_knots" sKnots f fd) (T : Nat0 mg) : FnOk P w K mg base CX0 1 f fd ["yard"] (spKnots K) := by
  refine F.ok scK (fun as H Q E h => ?_) (fun cdv A outer s H as Q E hr h => ?_)
  · obtain ⟨y, cs, rs, ns, rfl, _⟩ := h
    rfl
  · obtain ⟨y, cs, rs, ns, rfl, hV, n20, sub, k⟩ := h
    have hu := hu_of hr
    refine ⟨_, pss_cons (ps_set (i := 1) scK.nd rfl (.inl rfl) pe_dnewK)
      (pss_cons (ps_for PassesOwn.never rfl (pi_tup (pe_ix ix_tup (pv 0) pe_int (fun _ _ => rfl))) (pg_tup rfl (pgs_cons (pg_name (i := 2) scK.nd rfl (.inl rfl)) (pgs_cons (pg_name (i := 3) scK.nd rfl (.inl rfl)) (pgs_cons (pg_name (i := 4) scK.nd rfl (.inl rfl)) pgs_nil))))
        (pss_one (ps_expr (pe_bm PySem.F.plainAttrs_dict PySem.F.slot_dict_update PySem.F.type_dict_update mt_dupd (pv 1) (pa_cons (pe_disp (pps_cons (pv 2) pe_int (pps_cons (pv 3) pe_int pps_nil)) (by rfl) (by rfl) (fun z => by cases z) (by decide)) pa_nil)))))
      (pss_cons (ps_for PassesOwn.never rfl (pi_tup (pe_ix ix_tup (pv 0) pe_int (fun _ _ => rfl))) (pg_tup rfl (pgs_cons (pg_name (i := 5) scK.nd rfl (.inl rfl)) (pgs_cons (pg_name (i := 6) scK.nd rfl (.inl rfl)) (pgs_cons (pg_name (i := 7) scK.nd rfl (.inl rfl)) (pgs_cons (pg_name (i := 8) scK.nd rfl (.inl rfl)) pgs_nil)))))
        (pss_one (ps_dput hu (pv 1) (pv 6) pe_int rfl)))
      (pss_one (ps_ret (pe_lc (own := [("knot", 6)]) (g := gName 6) rfl scK.nd (pi_list (pe_callB (call_sortedD rfl) (by rfl) T.sorted (by decide +kernel) (pa_cons (pv 1) pa_nil)))
        (blkOk_by (N := ["yard", "found", "one", "other", "cap", "name", "knot", "rate", "need"]) (sc := defScope sKnots) (by decide +kernel)) (fun _ _ _ _ _ => pg_name (i := 6) scK.nd rfl (Or.inl rfl)) (fun _ _ _ _ _ => pts_one (pt_cmpR op_ne (pv 6) pe_str (nomark _))) (fun _ _ _ _ _ => pv 6)))))), ?_⟩
    obtain ⟨ty, ya, yb, xs, zs, rfl, v1, v2, v3, v4, v5⟩ := hV
    refine fun d hd => ?_
    have lx : xs.length = cs.length := paired_len v4
    have lz : zs.length = rs.length := paired_len v5
    refine ⟨_, rfl, ty, _, 0, .ref ya, rfl, rfl, sqt_more (same_new (Same.refl H) hd) v1, at0, ya, rfl, ⟨_, sqt_more (same_new (Same.refl H) hd) v2⟩, ?_⟩
    refine for_tup (K := K) (a := ya) (xs := xs) (fun i σ H' => ∃ (w2 w3 w4 : Option V) (l : List Str), σ = [some (.ref ty), some (.ref d), w2, w3, w4, none, none, none, none] ∧ H' d = some (.dK (kv1 l)) ∧ l.Nodup ∧ (∀ s, s ∈ l ↔ KnIn (cs.take i) [] s) ∧ Same H H') ?_ ?_ ?_ ?_
    · exact ⟨none, none, none, [], rfl, upd_same, List.nodup_nil, fun s => by simp [KnIn], same_new (Same.refl H) hd⟩
    · rintro i σ H' hi ⟨w2, w3, w4, l, _, _, _, _, sm⟩
      exact sqt_more sm v2
    · rintro i x σ H' hx ⟨w2, w3, w4, l, rfl, g1, g2, g3, g4⟩
      obtain ⟨c, hc, t', rfl, hq⟩ := paired_at v4 hx
      refine ⟨t', _, rfl, sqt_more g4 hq, rfl, _, _, rfl, _, _, rfl, _, _, rfl, rfl, ?_⟩
      refine ⟨_, rfl, .inr (.inr (.inl ⟨rfl, .inl ⟨_, g1⟩⟩)), fun q hq' => ⟨_, rfl, _, rfl, upd_same, [(Sum.inr c.1, .int 1), (Sum.inr c.2.1, .int 1)], rfl, by show 2 ≤ 15; decide, ?_⟩⟩
      have em : mergeK [] [((Sum.inr c.1 : Key), V.int 1), (Sum.inr c.2.1, .int 1)] = kv1 (ins (ins [] c.1) c.2.1) := kv1_merge [c.1, c.2.1] []
      have nqd : d ≠ q := ne_of_none g1 hq'
      have hi' : i < cs.length := (List.getElem?_eq_some_iff.mp hc).1
      have ll : l.length ≤ 21 := by
        have := sub_len g2 (m := feed :: ns) fun s hs => sub s (by
          rcases (g3 s).mp hs with ⟨c', hc', e⟩ | ⟨r, hr', _⟩
          · exact .inl ⟨c', List.mem_of_mem_take hc', e⟩
          · cases hr')
        rw [List.length_cons] at this
        omega
      have lm : (ins (ins [] c.1) c.2.1).length ≤ 2 := by
        unfold ins
        split
        · split <;> simp_all
        · split <;> simp_all
      rw [em]
      refine ⟨d, q, kv1 l, kv1 (ins (ins [] c.1) c.2.1), rfl, rfl, nqd, by rw [upd_ne nqd, upd_ne nqd]; exact g1, upd_same, ?_, _, _, _, (ins (ins [] c.1) c.2.1).foldl ins l, rfl, ?_, nodup_inss g2, fun s => ?_, ?_⟩
      · unfold kv1
        rw [List.length_map, List.length_map]
        exact Nat.le_of_lt (small1000 (by omega))
      · rw [upd_same, kv1_merge]
      · rw [mem_inss, g3, mem_ins, mem_ins, List.take_succ, hc]
        unfold KnIn
        constructor
        · rintro ((⟨c', h1, h2⟩ | ⟨r, h1, _⟩) | ((h1 | h1) | h1))
          · exact .inl ⟨c', List.mem_append_left _ h1, h2⟩
          · cases h1
          · cases h1
          · exact .inl ⟨c, List.mem_append_right _ List.mem_cons_self, .inl h1⟩
          · exact .inl ⟨c, List.mem_append_right _ List.mem_cons_self, .inr h1⟩
        · rintro (⟨c', h1, h2⟩ | ⟨r, h1, _⟩)
          · rcases List.mem_append.mp h1 with z | z
            · exact .inl (.inl ⟨c', z, h2⟩)
            · rw [List.mem_singleton.mp z] at h2
              rcases h2 with e | e
              · exact .inr (.inl (.inr e))
              · exact .inr (.inr e)
          · cases h1
      · exact same_put (by rw [upd_upd]; exact same_new g4 hq') hd
    rintro σ H1 ⟨w2, w3, w4, l, rfl, g1, g2, g3, g4⟩
    rw [lx, List.take_length] at g3
    refine ⟨_, rfl, ty, _, 1, .ref yb, rfl, rfl, sqt_more g4 v1, at1, yb, rfl, ⟨_, sqt_more g4 v3⟩, ?_⟩
    refine for_tup (K := K) (a := yb) (xs := zs) (fun i σ H' => ∃ (w5 w6 w7 w8 : Option V) (l : List Str), σ = [some (.ref ty), some (.ref d), w2, w3, w4, w5, w6, w7, w8] ∧ H' d = some (.dK (kv1 l)) ∧ l.Nodup ∧ (∀ s, s ∈ l ↔ KnIn cs (rs.take i) s) ∧ Same H H') ?_ ?_ ?_ ?_
    · exact ⟨none, none, none, none, l, rfl, g1, g2, fun s => by rw [g3, List.take_zero], g4⟩
    · rintro i σ H' hi ⟨w5, w6, w7, w8, l, _, _, _, _, sm⟩
      exact sqt_more sm v3
    · clear g1 g2 g3 g4
      rintro i x σ H' hx ⟨w5, w6, w7, w8, l, rfl, g1, g2, g3, g4⟩
      obtain ⟨c, hc, t', rfl, hq⟩ := paired_at v5 hx
      refine ⟨t', _, rfl, sqt_more g4 hq, rfl, _, _, rfl, _, _, rfl, _, _, rfl, _, _, rfl, rfl, ?_⟩
      have ll : l.length ≤ 21 := by
        have := sub_len g2 (m := feed :: ns) fun s hs => sub s (by
          rcases (g3 s).mp hs with h | ⟨r, hr', e⟩
          · exact .inl h
          · exact .inr ⟨r, List.mem_of_mem_take hr', e⟩)
        rw [List.length_cons] at this
        omega
      have kl : (kv1 l).length < sizeLine := by
        unfold kv1
        rw [List.length_map]
        exact small1000 (by omega)
      refine ⟨_, rfl, _, rfl, d, _, rfl, DPut.k (k := Sum.inr c.2.1) g1 kl, _, _, _, _, ins l c.2.1, rfl, by rw [upd_same, kv1_put], nodup_ins g2 _, fun s => ?_, same_put g4 hd⟩
      rw [mem_ins, g3, List.take_succ, hc]
      unfold KnIn
      constructor
      · rintro ((h | ⟨r, h1, h2⟩) | h1)
        · exact .inl h
        · exact .inr ⟨r, List.mem_append_left _ h1, h2⟩
        · exact .inr ⟨c, List.mem_append_right _ List.mem_cons_self, h1⟩
      · rintro (h | ⟨r, h1, h2⟩)
        · exact .inl (.inl h)
        · rcases List.mem_append.mp h1 with z | z
          · exact .inl (.inr ⟨r, z, h2⟩)
          · rw [List.mem_singleton.mp z] at h2
            exact .inr h2
    clear g1 g2 g3 g4
    rintro σ H2 ⟨w5, w6, w7, w8, l, rfl, g1, g2, g3, g4⟩
    rw [lz, List.take_length] at g3
    have ll : l.length ≤ 21 := by
      have := sub_len g2 (m := feed :: ns) fun s hs => sub s ((g3 s).mp hs)
      rw [List.length_cons] at this
      omega
    refine ⟨_, rfl, d, kv1 l, l, rfl, Rd.of g1, by unfold kv1; rw [List.map_map]; rfl, by omega, fun ys p perm srt hp => ⟨p, rfl, ⟨_, .inl (.inl upd_same)⟩, fun D hD => ?_⟩⟩
    have npD : p ≠ D := fun e => by rw [← e, upd_same] at hD; cases hD
    have hD2 : H2 D = none := by rw [upd_ne npD.symm] at hD; exact hD
    have yl : ys.length ≤ 21 := by rw [perm.length_eq]; exact ll
    refine lc_list (K := K) (a := p) (xs := ys.map V.str) (fun i H' => H' D = some (.lst (txs ((ys.take i).filter fun s => decide (s ≠ feed)))) ∧ H' p = some (.lst (ys.map V.str)) ∧ Same H2 H') ?_ ?_ ?_ ?_
    · exact ⟨by rw [List.take_zero, upd_same]; rfl, by rw [upd_ne npD, upd_same], same_new (same_new (Same.refl H2) hp) hD⟩
    · rintro i H' hi ⟨_, h, _⟩
      exact .inl (.inl h)
    · rintro i x H' hx ⟨h1, h2, h3⟩
      rw [List.getElem?_map] at hx
      obtain ⟨z, hz, rfl⟩ := Option.map_eq_some_iff.mp hx
      refine ⟨rfl, _, rfl, rfl, _, rfl, ?_⟩
      refine ite2 (fun ne => ?_) (fun e => ?_)
      · have nz : z ≠ feed := fun e => by rw [e] at ne; simp at ne
        refine ⟨_, rfl, _, h1, ?_, ?_, by rw [upd_ne npD]; exact h2, same_put h3 hD2⟩
        · unfold txs
          rw [List.length_map]
          have := List.length_filter_le (fun s => decide (s ≠ feed)) (ys.take i)
          rw [List.length_take] at this
          exact small1000 (by omega)
        · rw [upd_same, List.take_succ, hz, List.filter_append]
          unfold txs
          rw [List.map_append]
          simp [nz]
      · have ez : z = feed := by simpa using e
        refine ⟨?_, h2, h3⟩
        rw [h1, List.take_succ, hz, List.filter_append, ez]
        simp
    · rintro H' ⟨h1, h2, h3⟩
      rw [List.length_map, List.take_length] at h1
      refine k D _ H' ((perm.nodup_iff.mpr g2).filter _) (fun s => ?_) h1 (by cases e : H D with | none => rfl | some o => rw [g4 _ _ e] at hD2; cases hD2) (g4.trans h3)
      rw [List.mem_filter, perm.mem_iff, g3]
      simp
end
end Y

namespace Y
open PySem PySem.Spec PyProof.Rows L2 Ns
open C8 (pss_cut)
open L2.DX (itemsO)
theorem perm_map {α β : Type} {f : α → β} {ys ws : List β} (h : ys.Perm ws) : ∀ {xs : List α}, ws = xs.map f → ∃ zs : List α, zs.Perm xs ∧ ys = zs.map f := by
  induction h with
  | nil =>
    intro xs e
    have : xs = [] := List.map_eq_nil_iff.mp e.symm
    exact ⟨[], by rw [this], rfl⟩
  | @cons x l1 l2 _ ih =>
    intro xs e
    cases xs with
    | nil => cases e
    | cons a xs =>
      injection e with e1 e2
      obtain ⟨zs, p, e3⟩ := ih e2
      exact ⟨a :: zs, p.cons a, by rw [e1, e3]; rfl⟩
  | swap x y l =>
    intro xs e
    match xs, e with
    | a :: b :: xs, e =>
      injection e with e1 e2
      injection e2 with e2 e3
      exact ⟨b :: a :: xs, List.Perm.swap a b xs, by rw [e1, e2, e3]; rfl⟩
  | trans _ _ ih1 ih2 =>
    intro xs e
    obtain ⟨zs, p, e2⟩ := ih2 e
    obtain ⟨us, p2, e3⟩ := ih1 e2
    exact ⟨us, p2.trans p, e3⟩
/-- a dict of numbers by texts -/
def kvI (l : List (Str × Int)) : List (Key × V) := l.map fun p => ((Sum.inr p.1 : Key), V.int p.2)
theorem kvI_get {l : List (Str × Int)} (n : (l.map (·.1)).Nodup) {x : Str} {v : Int} (h : (x, v) ∈ l) : valV (kvI l) (Sum.inr x) = some (.int v) := by
  induction l with
  | nil => cases h
  | cons f l ih =>
    rw [List.map_cons, List.nodup_cons] at n
    show valV (((Sum.inr f.1 : Key), V.int f.2) :: kvI l) (Sum.inr x) = _
    rcases List.mem_cons.mp h with e | e
    · rw [← e]
      exact valV_pos rfl
    · rw [valV_neg (fun z => n.1 ?_)]
      · exact ih n.2 e
      · injection z with z
        rw [z]
        exact List.mem_map.mpr ⟨(x, v), e, rfl⟩
theorem kvI_none {l : List (Str × Int)} {x : Str} (h : x ∉ l.map (·.1)) : valV (kvI l) (Sum.inr x) = none := by
  induction l with
  | nil => rfl
  | cons f l ih =>
    rw [List.map_cons, List.mem_cons, not_or] at h
    show valV (((Sum.inr f.1 : Key), V.int f.2) :: kvI l) (Sum.inr x) = none
    rw [valV_neg (fun z => h.1 ?_)]
    · exact ih h.2
    · injection z with z
      exact z.symm
theorem kvI_merge : ∀ (m l : List (Str × Int)), ((l ++ m).map (·.1)).Nodup → mergeK (kvI l) (kvI m) = kvI (l ++ m)
  | [], l, _ => by rw [List.append_nil]; rfl
  | p :: m, l, h => by
    have e : l ++ p :: m = (l ++ [p]) ++ m := by rw [List.append_assoc]; rfl
    have np : p.1 ∉ l.map (·.1) := fun z => by
      rw [List.map_append, List.nodup_append] at h
      exact h.2.2 _ z _ (List.mem_map.mpr ⟨p, List.mem_cons_self, rfl⟩) rfl
    show mergeK (putK (kvI l) (Sum.inr p.1) (.int p.2)) (kvI m) = _
    rw [putK_new _ (kvI_none np), e]
    have e2 : kvI l ++ [((Sum.inr p.1 : Key), V.int p.2)] = kvI (l ++ [p]) := by
      unfold kvI
      rw [List.map_append]
      rfl
    rw [e2]
    exact kvI_merge m (l ++ [p]) (by rw [← e]; exact h)
theorem kvI_made {l : List (Str × Int)} (h : (l.map (·.1)).Nodup) : mergeK [] (kvI l) = kvI l := kvI_merge l [] h
/-- the tuple of the cars' names -/
def spNamesOf (K : PySem.W.Frag) : Sp := fun as H Q _ => ∃ (y : V) (cs : List Cab) (rs : List Car), as = [y] ∧ YardV K H y cs rs ∧ rs.length ≤ 1000 ∧
  ∀ (p : Addr) (H' : Hp), H' p = some (.tup (txs (rs.map (·.1)))) → H p = none → Same H H' → Q (.ref p) H'
def spALot (K : PySem.W.Frag) : Sp := fun as H Q _ => ∃ (b a : Addr) (ts : List Str), as = [.ref b, .ref a] ∧ Bag H b ∧ SqL K (wo H b) a (txs ts) ∧ ts.length ≤ 60 ∧ ts.Nodup ∧
  ∀ (p : Addr) (ls : List Str) (H' : Hp), sortedS ls = true → ls.Nodup → (∀ x ∈ ls, x ∈ ts) → H' p = some (.tup (txs ls)) → H p = none → p ≠ b → Bag H' b → Sb b H H' → Q (.ref p) H'
def spTurned : Sp := fun as H Q _ => ∃ (b a : Addr) (l : List (Str × Int)), as = [.ref b, .ref a] ∧ Bag H b ∧ H a = some (.dK (kvI l)) ∧ (l.map (·.1)).Nodup ∧ l.length ≤ 1000 ∧
  ∀ (p : Addr) (l' : List (Str × Int)) (H' : Hp), l'.Perm l → H' p = some (.dK (kvI l')) → H p = none → p ≠ b → Bag H' b → Sb b H H' → Q (.ref p) H'
section
variable {P : Program} {w : World} {K : PySem.W.Frag} {mg : Str → Option Value} {base : Heap}
theorem scallCars : FnScope ["yard", "car"] ["yard"] (defScope sAllCars) := ⟨rfl, rfl, rfl, by decide +kernel, rfl, by decide +kernel, by decide +kernel⟩
theorem ok_allCars {f : Addr} {fd : FuncData} (F : Fun K "_law_all_cars" "_law_all_cars" sAllCars f fd) (T : Nat0 mg) : FnOk P w K mg base CX0 1 f fd ["yard"] (spNamesOf K) := by
  refine F.ok scallCars (fun as H Q E h => ?_) (fun cdv A outer s H as Q E hr h => ?_)
  · obtain ⟨y, cs, rs, rfl, _⟩ := h
    rfl
  · obtain ⟨y, cs, rs, rfl, hV, hl, k⟩ := h
    refine ⟨_, pss_one (ps_ret (pe_callTy call_tuple_of (by rfl) T.tuple (by decide +kernel) (pa_cons
      (pe_lc (own := [("car", 1)]) (g := gName 1) (tt := tYes) (te := tOp (rIxT K) (tVar 1) (tC (V.int 0))) rfl scallCars.nd (pi_tup (pe_ix ix_tup (pv 0) pe_int (fun _ _ => rfl))) (blkOk_by (N := ["yard", "car"]) (sc := defScope sAllCars) (by decide +kernel)) (fun _ _ _ _ _ => pg_name (i := 1) scallCars.nd rfl (Or.inl rfl)) (fun _ _ _ _ _ => pts_nil)
        (fun _ _ _ _ _ => by exact pe_ix ix_tup (pv 1) pe_int (fun _ _ => rfl))) pa_nil))), ?_⟩
    obtain ⟨ty, ya, yb, xs, zs, rfl, v1, v2, v3, v4, v5⟩ := hV
    have lz : zs.length = rs.length := paired_len v5
    refine ⟨_, rfl, ty, _, 1, .ref yb, rfl, rfl, v1, at1, yb, rfl, ⟨_, v3⟩, fun D hD => ?_⟩
    refine lc_tup (K := K) (a := yb) (xs := zs) (fun i H' => H' D = some (.lst (txs ((rs.take i).map (·.1)))) ∧ Same H H') ?_ ?_ ?_ ?_
    · exact ⟨by rw [List.take_zero, upd_same]; rfl, same_new (Same.refl H) hD⟩
    · rintro i H' hi ⟨_, sm⟩
      exact sqt_more sm v3
    · rintro i x H' hx ⟨g1, g2⟩
      obtain ⟨c, hc, t', rfl, hq⟩ := paired_at v5 hx
      have hi' : i < rs.length := (List.getElem?_eq_some_iff.mp hc).1
      refine ⟨rfl, _, rfl, t', _, 0, _, rfl, rfl, sqt_more g2 hq, at0, _, g1, ?_, ?_, same_put g2 hD⟩
      · unfold txs
        rw [List.length_map, List.length_map, List.length_take]
        exact small1000 (by omega)
      · rw [upd_same, List.take_succ, hc]
        unfold txs
        simp
    · rintro H' ⟨g1, g2⟩
      rw [lz, List.take_length] at g1
      refine ⟨D, _, rfl, .inl ⟨SqL.of g1, fun l hl => ?_⟩⟩
      refine k l _ upd_same ?_ (same_new g2 hl)
      cases e : H l with
      | none => rfl
      | some o => rw [g2 _ _ e] at hl; cases hl
end
end Y

namespace Y
open PySem PySem.Spec PyProof.Rows L2 Ns
open C8 (pss_cut)
def nd (r : Car) : Str × Int := (r.1, r.2.2.2)
def spCarOf (K : PySem.W.Frag) : Sp := fun as H Q _ => ∃ (y : V) (x : Str) (cs : List Cab) (rs : List Car), as = [y, .str x] ∧ YardV K H y cs rs ∧ (∀ v c, rs.find? (fun r => decide (r.1 = x)) = some c → CarV K H v c → Q v H) ∧ (rs.find? (fun r => decide (r.1 = x)) = none → Q .non H)
def spCapOf (K : PySem.W.Frag) : Sp := fun as H Q _ => ∃ (y : V) (s e : Str) (cs : List Cab) (rs : List Car), as = [y, .str s, .str e] ∧ YardV K H y cs rs ∧ (∀ c, cs.find? (fun c => decide (ckey c = (s, e))) = some c → Q (.int c.2.2) H) ∧ (cs.find? (fun c => decide (ckey c = (s, e))) = none → Q .non H)
def spNeedsOf (K : PySem.W.Frag) : Sp := fun as H Q _ => ∃ (y : V) (cs : List Cab) (rs : List Car), as = [y] ∧ YardV K H y cs rs ∧ (rs.map (·.1)).Nodup ∧ rs.length ≤ 1000 ∧ ∀ (p : Addr) (H' : Hp), H' p = some (.dK (kvI (rs.map nd))) → H p = none → Same H H' → Q (.ref p) H'
def spNeedOf (K : PySem.W.Frag) : Sp := fun as H Q _ => ∃ (y : V) (l : Addr) (ls : List Str) (cs : List Cab) (rs : List Car), as = [y, .ref l] ∧ YardV K H y cs rs ∧ SqT K H l (txs ls) ∧ rs.length ≤ 1000 ∧ ∀ H', Same H H' → Q (.int ((rs.filter fun r => decide (r.1 ∈ ls)).map (·.2.2.2)).sum) H'
def spSumOf : Sp := fun as H Q _ => ∃ (a : Addr) (l : List (Str × Int)), as = [.ref a] ∧ H a = some (.dK (kvI l)) ∧ ∀ H', Same H H' → Q (.int (l.map (·.2)).sum) H'
theorem find_take {α : Type} {p : α → Bool} {l : List α} {i : Nat} {c : α} (hc : l[i]? = some c) (hp : p c = true) (hn : ∀ r ∈ l.take i, p r = false) : l.find? p = some c := by
  induction l generalizing i with
  | nil => cases hc
  | cons a l ih =>
    cases i with
    | zero =>
      cases hc
      exact List.find?_cons_of_pos hp
    | succ i =>
      have ha := hn a (by rw [List.take_succ_cons]; exact List.mem_cons_self)
      rw [List.find?_cons_of_neg (by rw [ha]; exact Bool.false_ne_true)]
      exact ih hc fun r hr => hn r (by rw [List.take_succ_cons]; exact List.mem_cons_of_mem _ hr)
theorem not_yet {α : Type} {p : α → Bool} {l : List α} {i : Nat} {c : α} (hc : l[i]? = some c) (hp : p c = false) (hn : ∀ r ∈ l.take i, p r = false) : ∀ r ∈ l.take (i + 1), p r = false := fun r hr => by
  rw [List.take_succ, hc] at hr
  rcases List.mem_append.mp hr with z | z
  · exact hn r z
  · rw [List.mem_singleton.mp z]; exact hp
section
variable {P : Program} {w : World} {K : PySem.W.Frag} {mg : Str → Option Value} {base : Heap}
end
end Y

namespace Y
open PySem PySem.Spec PyProof.Rows L2 Ns
open C8 (pss_cut)
section
variable {P : Program} {w : World} {K : PySem.W.Frag} {mg : Str → Option Value} {base : Heap}
end
end Y

/-! NsZ: set(xs) of texts, and sorted of it. -/
namespace Ns
open PySem PySem.Spec PyProof.Rows L2
open PySem.Froz (SD sObj tailTx addTx TxOk)
/-- the set at a holds the texts l, once each, and can be walked -/
def SetX (P : Program) (w : World) (h : Heap) (a : Addr) (l : List Str) : Prop :=
  ∃ D : SD, h.get? a = some (sObj "set" D) ∧ TxOk P w D l ∧ l.Nodup ∧ Ris D.2.2.place.toList ∧ (w.params.followText "set-order" = true ∨ D.2.2.led = true)
theorem ris_tail {ep : Nat} {es : Array (Int × Value)} {t : SetTable} {b : Bool} (r : Ris t.place.toList) : Ris (tailTx ep es t b).2.2.place.toList ∧ (tailTx ep es t b).2.2.led = t.led := by
  unfold tailTx
  split
  · exact ⟨relayAll_ris _ _ _, relayAll_led _ _ _⟩
  · exact ⟨r, rfl⟩
theorem ris_add {h : Int} {v : Value} {D : SD} (r : Ris D.2.2.place.toList) : Ris (addTx h v D).2.2.place.toList ∧ (addTx h v D).2.2.led = D.2.2.led := by
  have r1 := layNew_ris D.2.2 D.1 h v r
  have l1 := layNew_led D.2.2 D.1 h v
  unfold addTx
  split
  · obtain ⟨g1, g2⟩ := ris_tail (ep := D.2.1) (es := (layNew D.2.2 D.1 h v).1) (t := { (layNew D.2.2 D.1 h v).2.1 with plain := false }) (b := (layNew D.2.2 D.1 h v).2.2.1) r1
    exact ⟨g1, g2.trans l1⟩
  · obtain ⟨g1, g2⟩ := ris_tail (ep := D.2.1) (es := (layNew D.2.2 D.1 h v).1) (t := (layNew D.2.2 D.1 h v).2.1) (b := (layNew D.2.2 D.1 h v).2.2.1) r1
    exact ⟨g1, g2.trans l1⟩
section
variable {P : Program} {w : World} {A : Around} {E : Value → Shared → Prop} {s : Shared}
theorem SetX.keep {h h' : Heap} {a : Addr} {l : List Str} (X : SetX P w h a l) (k : ∀ o, h.get? a = some o → h'.get? a = some o) : SetX P w h' a l := by
  obtain ⟨D, hD, r⟩ := X
  exact ⟨D, k _ hD, r⟩
/-- a text that is there: nothing changes -/
theorem add_there {a : Addr} {l : List Str} {k : Str} {u : Tok} {D : SD} {Q : Bool → Shared → Prop} (ho : s.heap.get? a = some (sObj "set" D)) (F : TxOk P w D l) (hk : k ∈ l) (hb : l.length < scanBound) (q : Q false s) :
    wpAny (model P w) A (setAddHashed a (.str k u) (hashStr w k)) Q E s := by
  have isk : (strKind P w).is k (.str k u) = true := PySem.Froz.is_str k u
  have small : D.1.size < scanBound := by rw [F.sz]; exact hb
  obtain ⟨j, hj⟩ : ∃ j, List.findIdx? (fun e => (strKind P w).is k e.2) D.1.toList = some j := by
    cases e : List.findIdx? (fun e => (strKind P w).is k e.2) D.1.toList with
    | some j => exact ⟨j, rfl⟩
    | none =>
      obtain ⟨x, hx, hy⟩ := (F.mem k).mp hk
      have := List.findIdx?_eq_none_iff.mp e x hx
      rw [hy] at this
      cases this
  unfold setAddHashed setAddHashedIn
  refine wpAny_holding (wpAny_bind (wpAny_setState_of ho rfl F.fit ?_))
  dsimp only
  rw [byScan_of (knd := strKind P w) rfl small F.el]
  simp only [↓reduceIte]
  unfold setAddByScan
  refine wpAny_bind (wpAny_bind (wpAny_rule (wpAny_bind (wpAny_setScan_of (knd := strKind P w) (k := k) isk ho rfl F.fit F.el ?_))))
  rw [hj]
  exact wpAny_pure (wpAny_pure q)
/-- one more text -/
theorem setX_add {a : Addr} {l : List Str} {k : Str} {u : Tok} {Q : Bool → Shared → Prop} (X : SetX P w s.heap a l) (hb : l.length + 1 < scanBound)
    (q : ∀ (b : Bool) (h' : Heap) (l' : List Str), SetX P w h' a l' → (∀ m, m ∈ l' ↔ m ∈ l ∨ m = k) → l'.length ≤ l.length + 1 → (∀ c o, c ≠ a → s.heap.get? c = some o → h'.get? c = some o) → Q b { s with heap := h' }) :
    wpAny (model P w) A (setAddHashed a (.str k u) (hashStr w k)) Q E s := by
  obtain ⟨D, hD, F, n, r, led⟩ := id X
  by_cases hk : k ∈ l
  · exact add_there hD F hk (by omega) (q false s.heap l X (fun m => ⟨.inl, fun z => z.elim id fun e => e ▸ hk⟩) (Nat.le_succ _) fun c o _ e => e)
  · refine PySem.Froz.add_x hD F hk hb (q true _ (k :: l) ⟨_, PySem.Froz.get_upd _ hD rfl, PySem.Froz.add_ok u F, List.nodup_cons.mpr ⟨hk, n⟩, (ris_add r).1, led.imp id fun z => (ris_add r).2.trans z⟩ (fun m => ?_) (Nat.le_refl _) fun c o nc e => ?_)
    · rw [List.mem_cons]
      exact Or.comm
    · exact (Heap.get?_update_other _ _ (Ne.symm nc)).trans e
/-- a row of texts goes into the set -/
theorem set_fill {I L S : Addr} {xs : List Str} {items : Array Value} (hh : A.in1.handled = none) (hL : L ≠ I) (hS : S ≠ I) (hSL : S ≠ L) (rel : Vals (xs.map V.str) items.toList) (room : items.size + 1 < scanBound) {R : Result → Shared → Prop} :
    ∀ (k i : Nat) (s : Shared) (l : List Str), items.size - i = k → i ≤ items.size → s.heap.IsListIter I L i → s.heap.IsList L items → SetX P w s.heap S l → l.length ≤ i → (∀ m, m ∈ l ↔ m ∈ xs.take i) →
      (∀ s' l', (∀ c o, c ≠ S → c ≠ I → s.heap.get? c = some o → s'.heap.get? c = some o) → s'.gens = s.gens → s'.drawn = s.drawn → s'.os = s.os → SetX P w s'.heap S l' → (∀ m, m ∈ l' ↔ m ∈ xs) → R (.ok (.ret .none)) s') →
      codeAny (model P w) A (.builtin "set.update.loop" ⟨[.ref S, .ref I], []⟩) R s := by
  have W := Walks.list (prog := P) (w := w) (A := A.in1) hh I L hL items
  have lx : xs.length = items.size := by
    have := rel.length
    rw [List.length_map, Array.length_toList] at this
    exact this
  intro k
  induction k with
  | zero =>
    intro i s l hk hi i1 i2 X hl hm q
    have e : i = items.size := by omega
    rw [e] at hm i1
    refine codeAny_builtin F.entry_set_update_loop ?_
    rw [Around.under_plainId F.plain_set_update_loop _]
    refine wpAny_bind (W.done s _ _ ⟨i1, i2⟩ fun h' tk kp => ?_)
    rw [← lx, List.take_length] at hm
    exact wpAny_pure (q _ l (fun c o _ n2 e => kp c o (by rw [List.mem_singleton]; exact n2) e) rfl rfl rfl (X.keep fun o => kp S o (by rw [List.mem_singleton]; exact hS)) hm)
  | succ k ih =>
    intro i s l hk hi i1 i2 X hl hm q
    have lt : i < items.size := by omega
    refine codeAny_builtin F.entry_set_update_loop ?_
    rw [Around.under_plainId F.plain_set_update_loop _]
    refine wpAny_bind (W.item i s _ _ lt ⟨i1, i2⟩ fun v h' tk hv st kp => ?_)
    obtain ⟨x, hx, rx⟩ : ∃ x, xs[i]? = some x ∧ RelV (.str x) v := by
      have hx : xs[i]? = some xs[i] := List.getElem?_eq_getElem (by omega)
      obtain ⟨u, hu, ru⟩ := rel.get (i := i) (x := .str xs[i]) (by rw [List.getElem?_map, hx]; rfl)
      rw [Array.getElem?_toList] at hu
      rw [hv] at hu
      cases hu
      exact ⟨_, hx, ru⟩
    obtain ⟨t, rfl⟩ := rx
    refine wpAny_bind (wpAny_holding ?_)
    unfold setAdd
    refine wpAny_holding (wpAny_bind ((strKind P w).pyHash (PySem.Froz.is_str x t) ?_))
    have X1 : SetX P w h' S l := X.keep fun o => kp S o (by rw [List.mem_singleton]; exact hS)
    refine setX_add X1 (by omega) fun b h2 l2 X2 m2 n2 k2 => ?_
    have i3 : h2.IsListIter I L (i + 1) := st.1.at fun o e => k2 I o (Ne.symm hS) e
    have i4 : h2.IsList L items := st.2.at fun o e => k2 L o (Ne.symm hSL) e
    refine wpAny_pure ⟨plainId_quiet F.plain_set_update_loop _, ih (i + 1) _ l2 (by omega) lt i3 i4 X2 (by omega) (fun m => ?_) fun s' l' k3 g1 g2 g3 X3 m3 => ?_⟩
    · rw [m2, hm, List.take_succ, hx, List.mem_append]
      simp
    · exact q s' l' (fun c o c1 c2 e => k3 c o c1 c2 (k2 c o c1 (kp c o (by rw [List.mem_singleton]; exact c2) e))) g1 g2 g3 X3 m3
end
end Ns

/-! NsZ2: the calls set(xs), sorted(set). -/
namespace Ns
open PySem PySem.Spec PyProof.Rows L2
open PySem.Froz (SD sObj TxOk)
/-- a set as it is made -/
abbrev set0 (w : World) : Obj := { cls := .type "set", dict := none, data := .set #[] 0 (.fresh 0 0 (!w.params.followText "set-order")) }
theorem setX_new {P : Program} {w : World} {h : Heap} {a : Addr} (e : h.get? a = some (set0 w)) : SetX P w h a [] := by
  refine ⟨(#[], 0, .fresh 0 0 (!w.params.followText "set-order")), e, PySem.Froz.TxOk.nil (by rfl), List.nodup_nil, List.Pairwise.nil, ?_⟩
  show _ ∨ (!w.params.followText "set-order") = true
  cases w.params.followText "set-order" <;> simp
section
variable {P : Program} {w : World} {A : Around} {E : Value → Shared → Prop} {s : Shared}
set_option maxHeartbeats 3200000 in
theorem set_of {l : Addr} {items : Array Value} {xs : List Str} {Q : Value → Shared → Prop} (hh : A.handled = none) (hl : s.heap.IsList l items) (rel : Vals (xs.map V.str) items.toList) (room : items.size + 1 < scanBound)
    (q : ∀ (h' : Heap) (tk : Nat) (ls : List Str), (∀ c o, s.heap.get? c = some o → h'.get? c = some o) → SetX P w h' s.heap.objs.size ls → (∀ m, m ∈ ls ↔ m ∈ xs) → Q (.ref s.heap.objs.size) { s with heap := h', toks := tk }) :
    wpAny (model P w) A (call (.type "set") [.ref l]) Q E s := by
  obtain ⟨c, tl, hmro⟩ := F.called_set.mro
  have f1 := F.called_set.made
  have f2 := F.called_set.sub
  have f3 := F.called_set.notType
  have f4 := F.called_set.canCreate
  have f5 := F.typeCall_set_1 (.ref l)
  refine wpAny_call (codeAny_of_tree ?_)
  show wpAny _ _ (callAny (.type "set") _) _ _ _
  refine wpAny_pure ⟨Code.quiet_builtin _ (by decide +kernel), codeAny_builtin F.entry_type_call ?_⟩
  rw [Around.under_plain (weight_type_call_type "set" [.ref l] []) rfl]
  repeat (any_goals (first | assumption | wp_step))
  refine codeAny_mono (code_set_led1 (.ref l) (E := E) (Q₁ := fun obj s₁ => obj = .ref s.heap.objs.size ∧ s₁ = { s with heap := s.heap.push (set0 w) }) ⟨rfl, rfl⟩) fun r s₁ hr => ?_
  rcases r with e | fl
  · exact hr
  cases fl with
  | ret obj =>
    obtain ⟨rfl, rfl⟩ := hr
    have at0 : (s.heap.push (set0 w)).get? s.heap.objs.size = some (set0 w) := Heap.get?_push_size _ rfl
    have ty0 : Shared.TypeIs { s with heap := s.heap.push (set0 w) } (.ref s.heap.objs.size) "set" := ⟨_, at0, rfl⟩
    have f6 := F.called_set.init.lookup
    have f7 := F.called_set.init.bind (.ref s.heap.objs.size)
    repeat (any_goals (first | assumption | wp_step))
    refine codeAny_mono (codeAny_call_builtin (R := wants (fun r s₂ => r = .none ∧ ∃ h' tk ls, s₂ = { s with heap := h', toks := tk } ∧ (∀ c o, s.heap.get? c = some o → h'.get? c = some o) ∧ SetX P w h' s.heap.objs.size ls ∧ ∀ m, m ∈ ls ↔ m ∈ xs) E)
      F.called_set.init.plain F.entry_set_init (check_set_init_1 ty0 ?_)) fun r₂ s₂ hr₂ => ?_
    · obtain ⟨⟨ocls, odict, odata, oslots⟩, hol, hcl, nl, hdl⟩ := hl
      simp only at hcl hdl
      subst hcl; subst hdl
      have lS : l < s.heap.objs.size := Heap.lt_size hol
      have hol' : (s.heap.push (set0 w)).get? l = some { cls := .type "list", dict := odict, data := .seq items nl, slots := oslots } := Heap.get?_push_of_some _ hol
      have g1 := F.sub_list_set
      have g2 := F.sub_list_frozenset
      have g3 : (Value.type "list" == Value.type "dict") = false := by decide
      have isl : (s.heap.push (set0 w)).IsList l items := ⟨_, hol', rfl, nl, rfl⟩
      unfold Builtin.«set.__init__» noKeywords Builtin.Frozenset.updateFrom
      generalize keep : pyIter = PI
      wp_walk
      subst keep
      refine wpAny_pyIter_list isl (wpAny_bind (wpAny_runValue ?_))
      have up : (s.heap.push (set0 w)).objs.size = s.heap.objs.size + 1 := size_push' _ _
      refine set_fill (xs := xs) (by simp [hh]) (by rw [up]; exact Nat.ne_of_lt (Nat.lt_succ_of_lt lS)) (by rw [up]; exact Nat.ne_of_lt (Nat.lt_succ_self _)) (Nat.ne_of_gt lS) rel room items.size 0 _ [] (Nat.sub_zero _) (Nat.zero_le _) ⟨_, Heap.get?_push_size _ rfl, rfl, rfl⟩ (isl.push _)
        (setX_new (Heap.get?_push_of_some _ at0)) (Nat.le_refl _) (fun m => by rw [List.take_zero]) fun s' ls kp e1 e2 e3 X m => ?_
      obtain ⟨h', g', d', tk', os'⟩ := s'
      cases e1
      cases e2
      cases e3
      refine wpAny_pure (wpAny_pure ⟨rfl, h', tk', ls, rfl, fun c o e => ?_, X, m⟩)
      have cl : c < s.heap.objs.size := Heap.lt_size e
      exact kp c o (Nat.ne_of_lt cl) (by rw [up]; exact Nat.ne_of_lt (Nat.lt_succ_of_lt cl)) (Heap.get?_push_of_some _ (Heap.get?_push_of_some _ e))
    · rcases r₂ with e | fl₂
      · exact hr₂
      cases fl₂ with
      | ret r =>
        obtain ⟨rfl, h', tk, ls, rfl, kp, X, m⟩ := hr₂
        repeat (any_goals (first | assumption | wp_step))
        exact q h' tk ls kp X m
      | _ => exact hr₂.elim
  | _ => exact hr.elim
end
end Ns

/-! NsZ3: sorted of a set of texts. -/
namespace Ns
open PySem PySem.Spec PyProof.Rows L2
open PySem.Froz (SD sObj TxOk)
section
variable {P : Program} {w : World} {A : Around} {E : Value → Shared → Prop} {s : Shared}
theorem texts_of {l : List Value} (h : ∀ v ∈ l, ∃ x t, v = Value.str x t) : ∃ xs, StrsAre l xs := by
  induction l with
  | nil => exact ⟨[], .nil⟩
  | cons v l ih =>
    obtain ⟨x, t, rfl⟩ := h v List.mem_cons_self
    obtain ⟨xs, r⟩ := ih fun u hu => h u (List.mem_cons_of_mem _ hu)
    exact ⟨x :: xs, .cons x t r⟩
theorem strs_mem {vs : List Value} {xs : List Str} (r : StrsAre vs xs) : ∀ m, m ∈ xs ↔ ∃ t, Value.str m t ∈ vs := by
  induction r with
  | nil => simp
  | cons y t _ ih =>
    intro m
    rw [List.mem_cons, ih]
    constructor
    · rintro (rfl | ⟨u, hu⟩)
      · exact ⟨t, List.mem_cons_self⟩
      · exact ⟨u, List.mem_cons_of_mem _ hu⟩
    · rintro ⟨u, hu⟩
      rcases List.mem_cons.mp hu with e | e
      · injection e with e1 _
        exact .inl e1
      · exact .inr ⟨u, e⟩
theorem sorted_setX {a : Addr} {ls : List Str} {Q : Value → Shared → Prop} (X : SetX P w s.heap a ls) (hh : A.handled = none) (few : ls.length < 64)
    (q : ∀ s' p (out : Array Value) (c : Nat) (ys : List Str), (∀ b o, s.heap.get? b = some o → s'.heap.get? b = some o) → s'.gens = s.gens → s'.os = s.os → s.heap.objs.size ≤ p → s'.heap.get? p = some (seqObj "list" out c) →
      StrsAre out.toList ys → sortedS ys = true → ys.length = ls.length → (∀ m, m ∈ ys ↔ m ∈ ls) → Q (.ref p) s') :
    wpAny (model P w) A (call (.builtin "sorted") [.ref a]) Q E s := by
  obtain ⟨D, hD, F, n, r, led⟩ := X
  have sz := F.sz
  refine Calls.call_function_entry kind_sorted plain_sorted entry_sorted (args_sorted1 _) ?_
  unfold Builtin.«sorted»
  refine wpAny_bind (m := checkCount "sorted" 1 1 _) (wpAny_pure ?_)
  refine wpAny_bind (collect_set (A := A.in1) hh ⟨_, hD, rfl, rfl⟩ F.fit (by rw [sz]; exact Nat.lt_trans few (by decide)) r led fun s1 vs k1 z1 g1 o1 pm => ?_)
  have vl : vs.length = ls.length := by rw [pm.length_eq, List.length_map, Array.length_toList]; exact sz
  have isS : ∀ v ∈ vs, ∃ x t, v = Value.str x t := fun v hv => by
    obtain ⟨e, he, rfl⟩ := List.mem_map.mp (pm.mem_iff.mp hv)
    obtain ⟨⟨k, hk, _⟩, _⟩ := F.el e he
    obtain ⟨t, ht⟩ := Value.isStrOf_shape (x := k) (v := e.2) hk
    exact ⟨k, t, ht⟩
  obtain ⟨us, hS⟩ := texts_of isS
  have um : ∀ m, m ∈ us ↔ m ∈ ls := fun m => by
    rw [strs_mem hS, F.mem m]
    constructor
    · rintro ⟨t, ht⟩
      obtain ⟨e, he, ee⟩ := List.mem_map.mp (pm.mem_iff.mp ht)
      exact ⟨e, he, by rw [show e.2 = Value.str m t from ee]; exact PySem.Froz.is_str m t⟩
    · rintro ⟨e, he, ee⟩
      obtain ⟨t, ht⟩ := Value.isStrOf_shape (x := m) (v := e.2) ee
      exact ⟨t, by rw [← ht]; exact pm.mem_iff.mpr (List.mem_map.mpr ⟨e, he, rfl⟩)⟩
  refine wpAny_bind (wpAny_newList ?_ (by rw [vl, sizeLine_eq]; omega))
  have hoL : (s1.heap.push (seqObj "list" vs.toArray 0)).get? s1.heap.objs.size = some (seqObj "list" vs.toArray 0) := Heap.get?_push_size _ rfl
  refine wpAny_bind (wpAny_holding (wpAny_call_entry slot_list_sort ⟨_, hoL, rfl⟩ entry_list_sort
    (list_sort_treeK strKind_oneLt (s := { s1 with heap := s1.heap.push (seqObj "list" vs.toArray 0) }) hoL hS.keysOf (fun v₁ v₂ rest e => keyKind_strs (by rw [← e]; exact hS)) (by rw [vl]; exact few) fun st' hp hs => ⟨_, rfl, ?_⟩) (args_list_sort _)))
  obtain ⟨ys, y1, y2, y3⟩ := sorted_out_str hS hp hs
  obtain ⟨c, hc⟩ := sortedHeap_at (vs := vs) (out := (arrOf st').map (·.2)) hoL
  refine wpAny_pure ⟨_, rfl, q _ s1.heap.objs.size _ c ys (fun b u e => ?_) g1 o1 z1 hc y1 y3 ?_ fun m => (y2.mem_iff).trans (um m)⟩
  · have k := k1 b u e
    have lt := Heap.lt_size k
    have top : b < (s1.heap.push (seqObj "list" vs.toArray 0)).objs.size := by rw [size_push']; exact Nat.lt_succ_of_lt lt
    have k2 : (s1.heap.push (seqObj "list" vs.toArray 0)).get? b = some u := Heap.get?_push_of_some _ k
    have same := sortedHeap_old (h := s1.heap.push (seqObj "list" vs.toArray 0)) (vs := vs) (out := (arrOf st').map (·.2)) (Nat.ne_of_lt lt) top
    rw [k2] at same
    exact same
  · rw [y2.length_eq, ← vl]
    exact hS.len_eq.symm
end
/-- a set of texts -/
def SetS (P : Program) (w : World) (a : Addr) (ls : List Str) : HO := .ext fun h => SetX P w h a ls
theorem setS_ok {P : Program} {w : World} {H : Hp} {h : Heap} {a : Addr} {ls : List Str} (X : SetX P w h a ls) : ObjOk P w H h a (SetS P w a ls) :=
  ⟨X, (by obtain ⟨D, hD, _⟩ := X; exact ⟨_, hD⟩), fun h1 h2 x k => x.keep k⟩
section
variable {X : Cx}
def rSetTx (K : PySem.W.Frag) (P : Program) (w : World) : List V → Hp → VK → Prop := fun xs H Q => ∃ (a : Addr) (ts : List Str), xs = [.ref a] ∧ SqL K H a (ts.map V.str) ∧ ts.length ≤ 1000 ∧ ∀ (p : Addr) (ls : List Str), H p = none → (∀ m, m ∈ ls ↔ m ∈ ts) → Q (.ref p) (upd H p (SetS P w p ls))
theorem call_setTx (hc : X.calm = true) : CallR X (.type "set") (rSetTx X.K X.prog X.w) := by
  intro pins s σ H xs us Q I r h
  obtain ⟨a, ts, rfl, hs, hz, q⟩ := h
  obtain ⟨its, rv, hl, _⟩ := I.list hs
  rw [Vals.ref1 r]
  have il : its.length = ts.length := by rw [← rv.length, List.length_map]
  refine set_of (xs := ts) (I.ok.hd hc) hl.isList (by simpa using rv) (by rw [List.size_toArray, il]; exact Nat.lt_of_le_of_lt (show ts.length + 1 ≤ 1001 by omega) (by decide)) fun h' tk ls kp XX m => ?_
  exact ⟨.ref s.heap.objs.size, upd H s.heap.objs.size (SetS X.prog X.w s.heap.objs.size ls), I.laid (t' := tk) kp (Nat.le_refl _) (setS_ok XX), rfl, q _ ls (I.hok.fresh (Nat.le_refl _)) m⟩
def rSortSet (P : Program) (w : World) : List V → Hp → VK → Prop := fun xs H Q => ∃ (a : Addr) (ls : List Str), xs = [.ref a] ∧ H a = some (SetS P w a ls) ∧ (∀ l : List Str, l.Nodup → (∀ m, m ∈ l ↔ m ∈ ls) → l.length < 64) ∧
  ∀ (p : Addr) (ys : List Str), H p = none → sortedS ys = true → ys.Nodup → (∀ m, m ∈ ys ↔ m ∈ ls) → Q (.ref p) (upd H p (.lst (ys.map V.str)))
theorem perm_of {α : Type} [DecidableEq α] : ∀ {l ys : List α}, l.Nodup → (∀ m ∈ l, m ∈ ys) → ys.length = l.length → ys.Perm l
  | [], ys, _, _, e => by rw [List.length_eq_zero_iff.mp e]
  | x :: l, ys, n, h, e => by
    obtain ⟨n1, n2⟩ := List.nodup_cons.mp n
    have hx : x ∈ ys := h x List.mem_cons_self
    have le : (ys.erase x).length = l.length := by
      rw [List.length_erase_of_mem hx, e, List.length_cons, Nat.add_sub_cancel]
    exact (List.perm_cons_erase hx).trans ((perm_of n2 (fun m hm => (List.mem_erase_of_ne (fun z : m = x => n1 (by rw [← z]; exact hm))).mpr (h m (List.mem_cons_of_mem _ hm))) le).cons x)
theorem cr_sortSet (hc : X.calm = true) : CallR X (.builtin "sorted") (rSortSet X.prog X.w) := by
  intro pins s σ H xs us Q I r h
  obtain ⟨a, ls, rfl, ha, few, q⟩ := h
  obtain rfl := Vals.ref1 r
  have XX : SetX X.prog X.w s.heap a ls := (show ObjOk X.prog X.w H s.heap a (SetS X.prog X.w a ls) from I.hok a _ ha).1
  have nls : ls.Nodup := by
    obtain ⟨_, _, _, n, _⟩ := XX
    exact n
  refine sorted_setX XX (I.ok.hd hc) (few ls nls fun _ => Iff.rfl) fun s' p out c ys kp eg eo hp hat r1 r2 r3 r4 => ?_
  have yl : (ys.map V.str).length ≤ sizeLine := by
    rw [List.length_map, r3, sizeLine_eq]
    have := few ls nls fun _ => Iff.rfl
    omega
  have fr : H p = none := I.hok.fresh hp
  have nys : ys.Nodup := (perm_of nls (fun m hm => (r4 m).mpr hm) r3).nodup_iff.mpr nls
  obtain ⟨h', g', d', tk', os'⟩ := s'
  cases eo
  have J : Inv X pins σ (upd H p (.lst (ys.map V.str))) { s with heap := h', gens := g', drawn := d', toks := tk' } :=
    I.call (ch := []) (Un.laid kp hp fr) (I.hok.laid kp hp ⟨yl, out.toList, c, vals_of_strs r1, hat⟩) (by rw [show g' = s.gens from eg]; exact I.bare) fun _ z => nomatch z
  exact ⟨.ref p, _, J, rfl, q p ys fr r2 nys r4⟩
end
end Ns

namespace Y
open PySem PySem.Spec PyProof.Rows L2 Ns
open C8 (pss_cut)
def spKin (K : PySem.W.Frag) : Sp := fun as H Q _ => ∃ (y : V) (cs : List Cab) (rs : List Car) (most : Int), as = [y] ∧ YardV K H y cs rs ∧ YardF most cs rs ∧
  ∀ (p : Addr) (ws : List Str) (H' : Hp), sortedS ws = true → ws.Nodup → (∀ s, s ∈ ws ↔ s = feed ∨ KnIn cs rs s) → H' p = some (.tup (txs ws)) → H p = none → Same H H' → Q (.ref p) H'
section
variable {P : Program} {w : World} {K : PySem.W.Frag} {mg : Str → Option Value} {base : Heap}
theorem scKI : FnScope ["yard", "starts", "ends", "stands", "start", "end", "cap", "name", "knot", "rate", "need"] ["yard"] (defScope sKnotsIn) := ⟨rfl, rfl, rfl, by decide +kernel, rfl, by decide +kernel, by decide +kernel⟩
theorem fr_same {H H' : Hp} {p : Addr} (m : Same H H') (h : H' p = none) : H p = none := by
  cases e : H p with
  | none => rfl
  | some o => rw [m _ _ e] at h; cases h
set_option maxHeartbeats 8000000 in
theorem ok_knotsIn {f : Addr} {fd : FuncData} (F : Fun K "knots_in" "knots_in" sKnotsIn f fd) (T : Nat0 mg) : FnOk P w K mg base CX0 1 f fd ["yard"] (spKin K) := by
  refine F.ok scKI (fun as H Q E h => ?_) (fun cdv A outer s H as Q E hr h => ?_)
  · obtain ⟨y, cs, rs, most, rfl, _⟩ := h
    rfl
  · obtain ⟨y, cs, rs, most, rfl, hV, hY, k⟩ := h
    refine ⟨_, pss_cons (ps_setLc (i := 1) (own := [("start", 4), ("end", 5), ("cap", 6)]) (g := gTup K 3 (gCons (gName 4) (gCons (gName 5) (gCons (gName 6) gNil)))) (tt := tYes) rfl scKI.nd rfl rfl (sw_true rfl rfl rfl (by decide +kernel)) (pi_tup (pe_ix ix_tup (pv 0) pe_int (fun _ _ => rfl)))
        (blkOk_by (N := ["yard", "starts", "ends", "stands", "start", "end", "cap", "name", "knot", "rate", "need"]) (sc := defScope sKnotsIn) (by decide +kernel)) (fun _ _ _ _ _ => pg_tup rfl (pgs_cons (pg_name (i := 4) scKI.nd rfl (Or.inl rfl)) (pgs_cons (pg_name (i := 5) scKI.nd rfl (Or.inl rfl)) (pgs_cons (pg_name (i := 6) scKI.nd rfl (Or.inl rfl)) pgs_nil)))) (fun _ _ _ _ _ => pts_nil) (fun _ _ _ _ _ => pv 4))
      (pss_cons (ps_setLc (i := 2) (own := [("start", 4), ("end", 5), ("cap", 6)]) (g := gTup K 3 (gCons (gName 4) (gCons (gName 5) (gCons (gName 6) gNil)))) (tt := tYes) rfl scKI.nd rfl rfl (sw_true rfl rfl rfl (by decide +kernel)) (pi_tup (pe_ix ix_tup (pv 0) pe_int (fun _ _ => rfl)))
        (blkOk_by (N := ["yard", "starts", "ends", "stands", "start", "end", "cap", "name", "knot", "rate", "need"]) (sc := defScope sKnotsIn) (by decide +kernel)) (fun _ _ _ _ _ => pg_tup rfl (pgs_cons (pg_name (i := 4) scKI.nd rfl (Or.inl rfl)) (pgs_cons (pg_name (i := 5) scKI.nd rfl (Or.inl rfl)) (pgs_cons (pg_name (i := 6) scKI.nd rfl (Or.inl rfl)) pgs_nil)))) (fun _ _ _ _ _ => pts_nil) (fun _ _ _ _ _ => pv 5))
      (pss_cons (ps_setLc (i := 3) (own := [("name", 7), ("knot", 8), ("rate", 9), ("need", 10)]) (g := gTup K 4 (gCons (gName 7) (gCons (gName 8) (gCons (gName 9) (gCons (gName 10) gNil))))) (tt := tYes) rfl scKI.nd rfl rfl (sw_true rfl rfl rfl (by decide +kernel)) (pi_tup (pe_ix ix_tup (pv 0) pe_int (fun _ _ => rfl)))
        (blkOk_by (N := ["yard", "starts", "ends", "stands", "start", "end", "cap", "name", "knot", "rate", "need"]) (sc := defScope sKnotsIn) (by decide +kernel)) (fun _ _ _ _ _ => pg_tup rfl (pgs_cons (pg_name (i := 7) scKI.nd rfl (Or.inl rfl)) (pgs_cons (pg_name (i := 8) scKI.nd rfl (Or.inl rfl)) (pgs_cons (pg_name (i := 9) scKI.nd rfl (Or.inl rfl)) (pgs_cons (pg_name (i := 10) scKI.nd rfl (Or.inl rfl)) pgs_nil))))) (fun _ _ _ _ _ => pts_nil) (fun _ _ _ _ _ => pv 8))
      (pss_one (ps_ret (pe_callTy call_tuple_of (by rfl) T.tuple (by decide +kernel) (pa_cons (pe_callB (cr_sortSet rfl) (by rfl) T.sorted (by decide +kernel) (pa_cons (pe_callTy (call_setTx rfl) (by rfl) T.set_ (by decide +kernel)
        (pa_cons (pe_op op_cat (pe_op op_cat (pe_op op_cat (pe_lst (pa_cons pe_str pa_nil)) (pv 1)) (pv 2)) (pv 3)) pa_nil)) pa_nil)) pa_nil)))))), ?_⟩
    obtain ⟨ns, n8, nn, sub⟩ := knIn_feed hY
    obtain ⟨ns', nm', N1, N2, N3, N4, CC, RR⟩ := hY.ex
    have rl : rs.length ≤ 24 := by
      have := RR.perm.length_eq
      rw [List.length_map] at this
      omega
    have cl := CC.len
    obtain ⟨ty, ya, yb, xs, zs, rfl, v1, v2, v3, v4, v5⟩ := hV
    have lx : xs.length = cs.length := paired_len v4
    have lz : zs.length = rs.length := paired_len v5
    refine ⟨_, rfl, ty, _, 0, .ref ya, rfl, rfl, v1, at0, ya, rfl, ⟨_, v2⟩, fun D1 hD1 => ?_⟩
    refine lc_tup (K := K) (a := ya) (xs := xs) (fun i H' => H' D1 = some (.lst (txs ((cs.take i).map (·.1)))) ∧ Same H H') ?_ ?_ ?_ ?_
    · exact ⟨by rw [List.take_zero, upd_same]; rfl, same_new (Same.refl H) hD1⟩
    · rintro i H' hi ⟨_, sm⟩
      exact sqt_more sm v2
    · rintro i x H' hx ⟨g1, g2⟩
      obtain ⟨c, hc, t', rfl, hq⟩ := paired_at v4 hx
      have hi' : i < cs.length := (List.getElem?_eq_some_iff.mp hc).1
      refine ⟨t', _, rfl, sqt_more g2 hq, rfl, _, _, rfl, _, _, rfl, _, _, rfl, rfl, rfl, _, rfl, _, g1, ?_, ?_, same_put g2 hD1⟩
      · unfold txs
        rw [List.length_map, List.length_map, List.length_take]
        exact small1000 (by omega)
      · rw [upd_same, List.take_succ, hc]
        unfold txs
        simp
    rintro H1 ⟨a1, m1⟩
    rw [lx, List.take_length] at a1
    refine ⟨_, rfl, ty, _, 0, .ref ya, rfl, rfl, sqt_more m1 v1, at0, ya, rfl, ⟨_, sqt_more m1 v2⟩, fun D2 hD2 => ?_⟩
    refine lc_tup (K := K) (a := ya) (xs := xs) (fun i H' => H' D2 = some (.lst (txs ((cs.take i).map (·.2.1)))) ∧ Same H1 H') ?_ ?_ ?_ ?_
    · exact ⟨by rw [List.take_zero, upd_same]; rfl, same_new (Same.refl H1) hD2⟩
    · rintro i H' hi ⟨_, sm⟩
      exact sqt_more (m1.trans sm) v2
    · rintro i x H' hx ⟨g1, g2⟩
      obtain ⟨c, hc, t', rfl, hq⟩ := paired_at v4 hx
      have hi' : i < cs.length := (List.getElem?_eq_some_iff.mp hc).1
      refine ⟨t', _, rfl, sqt_more (m1.trans g2) hq, rfl, _, _, rfl, _, _, rfl, _, _, rfl, rfl, rfl, _, rfl, _, g1, ?_, ?_, same_put g2 hD2⟩
      · unfold txs
        rw [List.length_map, List.length_map, List.length_take]
        exact small1000 (by omega)
      · rw [upd_same, List.take_succ, hc]
        unfold txs
        simp
    rintro H2 ⟨a2, m2⟩
    rw [lx, List.take_length] at a2
    have m02 := m1.trans m2
    refine ⟨_, rfl, ty, _, 1, .ref yb, rfl, rfl, sqt_more m02 v1, at1, yb, rfl, ⟨_, sqt_more m02 v3⟩, fun D3 hD3 => ?_⟩
    refine lc_tup (K := K) (a := yb) (xs := zs) (fun i H' => H' D3 = some (.lst (txs ((rs.take i).map (·.2.1)))) ∧ Same H2 H') ?_ ?_ ?_ ?_
    · exact ⟨by rw [List.take_zero, upd_same]; rfl, same_new (Same.refl H2) hD3⟩
    · rintro i H' hi ⟨_, sm⟩
      exact sqt_more (m02.trans sm) v3
    · rintro i x H' hx ⟨g1, g2⟩
      obtain ⟨c, hc, t', rfl, hq⟩ := paired_at v5 hx
      have hi' : i < rs.length := (List.getElem?_eq_some_iff.mp hc).1
      refine ⟨t', _, rfl, sqt_more (m02.trans g2) hq, rfl, _, _, rfl, _, _, rfl, _, _, rfl, _, _, rfl, rfl, rfl, _, rfl, _, g1, ?_, ?_, same_put g2 hD3⟩
      · unfold txs
        rw [List.length_map, List.length_map, List.length_take]
        exact small1000 (by omega)
      · rw [upd_same, List.take_succ, hc]
        unfold txs
        simp
    rintro H3 ⟨a3, m3⟩
    rw [lz, List.take_length] at a3
    have m03 := m02.trans m3
    have L1 : (txs (cs.map (·.1))).length = cs.length := by unfold txs; rw [List.length_map, List.length_map]
    have L2 : (txs (cs.map (·.2.1))).length = cs.length := by unfold txs; rw [List.length_map, List.length_map]
    have L3 : (txs (rs.map (·.2.1))).length = rs.length := by unfold txs; rw [List.length_map, List.length_map]
    refine ⟨by show 1 ≤ sizeLine; decide, fun q1 hq1 => ⟨_, rfl, q1, D1, [.str feed], _, rfl, rfl, upd_same, s3u hq1 (m3 _ _ (m2 _ _ a1)), ?_, fun q2 hq2 => ⟨_, rfl, q2, D2, _, _, rfl, rfl, upd_same, s3u hq2 (s3u hq1 (m3 _ _ a2)), ?_, fun q3 hq3 => ⟨_, rfl, q3, D3, _, _, rfl, rfl, upd_same, s3u hq3 (s3u hq2 (s3u hq1 a3)), ?_, fun q4 hq4 => ?_⟩⟩⟩⟩
    · exact Nat.le_of_lt (small1000 (show 1 + _ ≤ 1000 by omega))
    · rw [List.length_append]
      exact Nat.le_of_lt (small1000 (show 1 + _ + _ ≤ 1000 by omega))
    · rw [List.length_append, List.length_append]
      exact Nat.le_of_lt (small1000 (show 1 + _ + _ + _ ≤ 1000 by omega))
    have et : ([.str feed] ++ txs (cs.map (·.1)) ++ txs (cs.map (·.2.1)) ++ txs (rs.map (·.2.1)) : List V) = (feed :: (cs.map (·.1) ++ cs.map (·.2.1) ++ rs.map (·.2.1))).map V.str := by
      unfold txs
      simp
    have mem : ∀ s, s ∈ feed :: (cs.map (·.1) ++ cs.map (·.2.1) ++ rs.map (·.2.1)) ↔ s = feed ∨ KnIn cs rs s := fun s => by
      rw [List.mem_cons, List.mem_append, List.mem_append, List.mem_map, List.mem_map, List.mem_map]
      unfold KnIn
      constructor
      · rintro (h | ((⟨c, h1, h2⟩ | ⟨c, h1, h2⟩) | ⟨r, h1, h2⟩))
        · exact .inl h
        · exact .inr (.inl ⟨c, h1, .inl h2.symm⟩)
        · exact .inr (.inl ⟨c, h1, .inr h2.symm⟩)
        · exact .inr (.inr ⟨r, h1, h2.symm⟩)
      · rintro (h | ⟨c, h1, h2 | h2⟩ | ⟨r, h1, h2⟩)
        · exact .inl h
        · exact .inr (.inl (.inl ⟨c, h1, h2.symm⟩))
        · exact .inr (.inl (.inr ⟨c, h1, h2.symm⟩))
        · exact .inr (.inr ⟨r, h1, h2.symm⟩)
    refine ⟨q4, feed :: (cs.map (·.1) ++ cs.map (·.2.1) ++ rs.map (·.2.1)), rfl, by rw [← et]; exact SqL.of upd_same, ?_, fun p ls hp hm => ?_⟩
    · rw [List.length_cons, List.length_append, List.length_append, List.length_map, List.length_map, List.length_map]
      omega
    refine ⟨p, ls, rfl, upd_same, fun l nl hl => ?_, fun u ys hu srt ny hy => ⟨u, ys.map V.str, rfl, .inl ⟨SqL.of upd_same, fun v hv => ?_⟩⟩⟩
    · have := sub_len nl (m := feed :: ns) fun s hs => by
        rcases (mem s).mp ((hm s).mp ((hl s).mp hs)) with e | e
        · rw [e]; exact List.mem_cons_self
        · exact sub s e
      rw [List.length_cons] at this
      omega
    · have mE := same_new (o := .tup (ys.map V.str)) (same_new (o := .lst (ys.map V.str)) (same_new (o := SetS P w p ls) (same_new (o := .lst ([.str feed] ++ txs (cs.map (·.1)) ++ txs (cs.map (·.2.1)) ++ txs (rs.map (·.2.1)))) (same_new (o := .lst ([.str feed] ++ txs (cs.map (·.1)) ++ txs (cs.map (·.2.1)))) (same_new (o := .lst ([.str feed] ++ txs (cs.map (·.1)))) (same_new (o := .lst [.str feed]) m03 hq1) hq2) hq3) hq4) hp) hu) hv
      have mF := same_new (o := .lst (ys.map V.str)) (same_new (o := SetS P w p ls) (same_new (o := .lst ([.str feed] ++ txs (cs.map (·.1)) ++ txs (cs.map (·.2.1)) ++ txs (rs.map (·.2.1)))) (same_new (o := .lst ([.str feed] ++ txs (cs.map (·.1)) ++ txs (cs.map (·.2.1)))) (same_new (o := .lst ([.str feed] ++ txs (cs.map (·.1)))) (same_new (o := .lst [.str feed]) m03 hq1) hq2) hq3) hq4) hp) hu
      exact k v ys _ srt ny (fun s => by rw [hy, hm, mem]) upd_same (fr_same mF hv) mE
end
end Y

/-! sizes of yards' texts; equal data; ascending texts are one -/
namespace Y
open PySem PySem.Spec PyProof.Rows L2 Ns
theorem not_lt_trans {a b c : List Nat} (h1 : ¬ b < a) (h2 : ¬ c < b) : ¬ c < a := by
  rw [List.not_lt] at h1 h2 ⊢
  exact List.le_trans h1 h2
theorem rising_all : ∀ {r : List Str} {p : Str}, risingS p r = true → ∀ y ∈ r, ¬ y.cps.toList < p.cps.toList
  | [], _, _, y, hy => nomatch hy
  | x :: r, p, h, y, hy => by
    unfold risingS at h
    rw [Bool.and_eq_true, ltCps_eq] at h
    have h1 : ¬ x.cps.toList < p.cps.toList := by simpa using h.1
    rcases List.mem_cons.mp hy with e | e
    · rw [e]; exact h1
    · exact not_lt_trans h1 (rising_all h.2 y e)
theorem rising_tail {x : Str} {r : List Str} (h : sortedS (x :: r) = true) : sortedS r = true := by
  cases r with
  | nil => rfl
  | cons y r =>
    have h' : risingS x (y :: r) = true := h
    unfold risingS at h'
    exact (Bool.and_eq_true_iff.mp h').2
theorem sorted_one : ∀ {xs ys : List Str}, sortedS xs = true → sortedS ys = true → xs.Perm ys → xs = ys
  | [], ys, _, _, p => (List.nil_perm.mp p).symm
  | x :: xs, [], _, _, p => by cases List.perm_nil.mp p
  | x :: xs, y :: ys, h1, h2, p => by
    have e : x = y := by
      have mx := p.mem_iff.mp (List.mem_cons_self (a := x) (l := xs))
      have my := p.mem_iff.mpr (List.mem_cons_self (a := y) (l := ys))
      rcases List.mem_cons.mp mx with e | hx
      · exact e
      · rcases List.mem_cons.mp my with e | hy
        · exact e.symm
        · have a1 := rising_all h2 x hx
          have a2 := rising_all h1 y hy
          rw [List.not_lt] at a1 a2
          exact str_ext (List.le_antisymm a2 a1)
    subst e
    rw [sorted_one (rising_tail h1) (rising_tail h2) (List.perm_cons x |>.mp p)]
theorem perm_of_mem {xs ys : List Str} (n1 : xs.Nodup) (n2 : ys.Nodup) (h : ∀ s, s ∈ xs ↔ s ∈ ys) : xs.Perm ys := by
  have l1 := sub_len n1 (m := ys) fun s hs => (h s).mp hs
  have l2 := sub_len n2 (m := xs) fun s hs => (h s).mpr hs
  exact perm_of n2 (fun m hm => (h m).mpr hm) (by omega)
/-- a name, or feed -/
def Nf (x : Str) : Prop := Nm x ∨ x = feed
theorem nm_codes {x : Str} (h : Nf x) : (∀ c ∈ x.cps.toList, c < 200) ∧ x.length ≤ 20 := by
  rcases h with h | rfl
  · obtain ⟨c, r, e, h1, h2, h3⟩ := id h
    refine ⟨fun d hd => ?_, h.len.2⟩
    rw [e] at hd
    rcases List.mem_cons.mp hd with z | z
    · rw [z]; unfold isL at h1; omega
    · rcases h2 d z with y | y
      · unfold isL at y; omega
      · unfold isD at y; omega
  · exact ⟨by decide +kernel, by decide +kernel⟩
theorem fit_name {x : Str} (h : Nf x) : Fit 300 0 (.str x) := by
  obtain ⟨h1, h2⟩ := nm_codes h
  refine ⟨by simp [PyData.showable], ?_, by simp [PyData.depth]⟩
  rw [PyData.shown_str]
  have := PySem.StrLaws.reprText_len x fun c hc => Nat.lt_trans (h1 c hc) (by decide)
  omega
theorem fit_num {i : Int} (h0 : 0 ≤ i) (h : i ≤ 10 ^ 12) : Fit 300 0 (.int i) :=
  (fit_int (n := 13) (by decide) (by omega) (by decide)).mono (by decide) (Nat.le_refl _)
def cabD (c : Cab) : PyData := .tuple [.str c.1, .str c.2.1, .int c.2.2]
def carD (c : Car) : PyData := .tuple [.str c.1, .str c.2.1, .int c.2.2.1, .int c.2.2.2]
theorem fit_cab {c : Cab} (h1 : Nf c.1) (h2 : Nf c.2.1) (h3 : 0 ≤ c.2.2) (h4 : c.2.2 ≤ 10 ^ 12) : Fit 1300 1 (cabD c) := by
  refine (fit_tuple (m := 300) (k := 0) fun d hd => ?_).mono (show 3 * (300 + 2) + 3 ≤ 1300 by decide) (by decide)
  simp only [List.mem_cons, List.not_mem_nil, or_false] at hd
  rcases hd with rfl | rfl | rfl
  · exact fit_name h1
  · exact fit_name h2
  · exact fit_num h3 h4
theorem fit_car {c : Car} (h1 : Nf c.1) (h2 : Nf c.2.1) (h3 : 0 ≤ c.2.2.1) (h4 : c.2.2.1 ≤ 10 ^ 12) (h5 : 0 ≤ c.2.2.2) (h6 : c.2.2.2 ≤ 10 ^ 12) : Fit 1300 1 (carD c) := by
  refine (fit_tuple (m := 300) (k := 0) fun d hd => ?_).mono (show 4 * (300 + 2) + 3 ≤ 1300 by decide) (by decide)
  simp only [List.mem_cons, List.not_mem_nil, or_false] at hd
  rcases hd with rfl | rfl | rfl | rfl
  · exact fit_name h1
  · exact fit_name h2
  · exact fit_num h3 h4
  · exact fit_num h5 h6
/-- the facts of a yard's parts, plainly -/
structure YardP (cs : List Cab) (rs : List Car) : Prop where
  lc : cs.length ≤ 40
  lr : rs.length ≤ 24
  cab : ∀ c ∈ cs, Nf c.1 ∧ Nf c.2.1 ∧ 0 ≤ c.2.2 ∧ c.2.2 ≤ 10 ^ 12
  car : ∀ r ∈ rs, Nm r.1 ∧ Nf r.2.1 ∧ 1 ≤ r.2.2.1 ∧ r.2.2.1 ≤ 10 ^ 12 ∧ 0 ≤ r.2.2.2 ∧ r.2.2.2 ≤ 10 ^ 12
  keys : (cs.map ckey).Nodup
  names : (rs.map (·.1)).Nodup
theorem YardF.plain {most : Int} {cs : List Cab} {rs : List Car} (h : YardF most cs rs) (hm : most ≤ 10 ^ 12) : YardP cs rs := by
  obtain ⟨ns, nm, N1, N2, N3, N4, C, R⟩ := h.ex
  have nf : ∀ s, s ∈ feed :: ns → Nf s := fun s hs => by
    rcases List.mem_cons.mp hs with e | e
    · exact .inr e
    · exact .inl (N1.nm s e)
  refine ⟨C.len, ?_, fun c hc => ?_, fun r hr => ?_, C.nodup, R.perm.nodup_iff.mpr N3.nodup⟩
  · have := R.perm.length_eq
    rw [List.length_map] at this
    omega
  · obtain ⟨c1, c2, c3, c4, c5⟩ := C.each c hc
    exact ⟨nf _ c2, .inl (N1.nm _ c3), c4, by omega⟩
  · obtain ⟨r1, r2, r3, r4, r5⟩ := R.each r hr
    exact ⟨N3.nm _ (R.perm.mem_iff.mp (List.mem_map.mpr ⟨r, hr, rfl⟩)), nf _ r1, r2, r3, r4, by omega⟩
def yardD (cs : List Cab) (rs : List Car) : PyData := .tuple [.tuple (cs.map cabD), .tuple (rs.map carD)]
theorem fit_yard {cs : List Cab} {rs : List Car} (h : YardP cs rs) : Fit 130000 3 (yardD cs rs) := by
  have f1 : Fit 60000 2 (.tuple (cs.map cabD)) := by
    refine (fit_tuple (m := 1300) (k := 1) fun d hd => ?_).mono ?_ (by decide)
    · obtain ⟨c, hc, rfl⟩ := List.mem_map.mp hd
      obtain ⟨h1, h2, h3, h4⟩ := h.cab c hc
      exact fit_cab h1 h2 h3 h4
    · rw [List.length_map]
      have := h.lc
      omega
  have f2 : Fit 60000 2 (.tuple (rs.map carD)) := by
    refine (fit_tuple (m := 1300) (k := 1) fun d hd => ?_).mono ?_ (by decide)
    · obtain ⟨c, hc, rfl⟩ := List.mem_map.mp hd
      obtain ⟨h1, h2, h3, h4, h5, h6⟩ := h.car c hc
      exact fit_car (.inl h1) h2 (by omega) h4 h5 h6
    · rw [List.length_map]
      have := h.lr
      omega
  refine (fit_tuple (m := 60000) (k := 2) fun d hd => ?_).mono (show 2 * (60000 + 2) + 3 ≤ 130000 by decide) (by decide)
  simp only [List.mem_cons, List.not_mem_nil, or_false] at hd
  rcases hd with rfl | rfl
  · exact f1
  · exact f2
theorem big_ok {n : Nat} (h : n ≤ 1000000) : n ≤ sizeLine := by rw [sizeLine_eq]; omega
section
variable {K : PySem.W.Frag} {H : Hp}
theorem dat_cabs : ∀ {xs : List V} {cs : List Cab}, Paired (CabV K H) xs cs → DatA K H xs (cs.map cabD)
  | _, _, .nil => .nil
  | _, _, .cons ⟨t, e, h⟩ r => by
    subst e
    exact .cons (.tup h (.cons (.str _) (.cons (.str _) (.cons (.int _) .nil)))) (dat_cabs r)
theorem dat_cars : ∀ {xs : List V} {cs : List Car}, Paired (CarV K H) xs cs → DatA K H xs (cs.map carD)
  | _, _, .nil => .nil
  | _, _, .cons ⟨t, e, h⟩ r => by
    subst e
    exact .cons (.tup h (.cons (.str _) (.cons (.str _) (.cons (.int _) (.cons (.int _) .nil))))) (dat_cars r)
theorem dat_yard {y : V} {cs : List Cab} {rs : List Car} (h : YardV K H y cs rs) : DatV K H y (yardD cs rs) := by
  obtain ⟨t, a, b, xs, zs, rfl, h1, h2, h3, h4, h5⟩ := h
  exact .tup h1 (.cons (.tup h2 (dat_cabs h4)) (.cons (.tup h3 (dat_cars h5)) .nil))
theorem dat_txs : ∀ ls : List Str, DatA K H (txs ls) (ls.map PyData.str)
  | [] => .nil
  | _ :: ls => .cons (.str _) (dat_txs ls)
theorem dat_ints : ∀ ls : List Int, DatA K H (ls.map V.int) (ls.map PyData.int)
  | [] => .nil
  | _ :: ls => .cons (.int _) (dat_ints ls)
theorem same_rows {E : V → V → Prop} : ∀ {xs : List V}, (∀ x ∈ xs, E x x) → Paired E xs xs
  | [], _ => .nil
  | x :: xs, h => .cons (h x List.mem_cons_self) (same_rows fun y hy => h y (List.mem_cons_of_mem _ hy))
theorem eqT_flat {x : V} (n : Nat) (h : flatB x = true) : EqT K H (n + 1) x x := .inl ⟨rfl, h⟩
theorem eqT_tup {a b : Addr} {xs : List V} (n : Nat) (ha : SqT K H a xs) (hb : SqT K H b xs) (h : ∀ x ∈ xs, flatB x = true) : EqT K H (n + 2) (.ref a) (.ref b) :=
  .inr (.inr (.inr ⟨a, b, xs, xs, rfl, rfl, ha, hb, same_rows fun x hx => eqT_flat n (h x hx)⟩))
theorem flat_str {l : List Str} : ∀ x ∈ txs l, flatB x = true := fun x hx => by
  obtain ⟨t, _, rfl⟩ := List.mem_map.mp hx
  rfl
theorem eqT_dict {a b : Addr} {l : List (Str × Int)} (n : Nat) (nd : (l.map (·.1)).Nodup) (ha : H a = some (.dK (kvI l))) (hb : H b = some (.dK (kvI l))) : EqT K H (n + 2) (.ref a) (.ref b) :=
  .inr (.inr (.inl (.inr ⟨a, b, kvI l, kvI l, rfl, rfl, ha, hb, rfl, fun p hp => by
    obtain ⟨q, hq, rfl⟩ := List.mem_map.mp hp
    exact ⟨_, kvI_get nd hq, eqT_flat n rfl⟩⟩)))
end
end Y

/-! MP2: is_lot_of, is_car_lot, is_cut, is_amounts, is_flow. -/
namespace Y
open PySem PySem.Spec PyProof.Rows L2 Ns Mx
open PySem.W (dataLe dataLt alike)
def inN (names : List Str) : PyData → Bool | .str z => decide (z ∈ names) | _ => false
def lotD (names : List Str) : PyData → Bool | .tuple ds => ds.all (inN names) && risesD ds | _ => false
def amtD (names : List Str) : PyData → Bool | .dict m => m.all fun p => inN names p.1 && isPos p.2 | _ => false
def inC (couples : List (Str × Str)) : PyData → Bool | .tuple [.str a, .str b] => decide ((a, b) ∈ couples) | _ => false
def flowD (couples : List (Str × Str)) : PyData → Bool | .dict m => m.all fun p => inC couples p.1 && isPos p.2 | _ => false
theorem inV_txs (z : Str) (ts : List Str) : inV (.str z) (txs ts) = decide (z ∈ ts) := by
  by_cases h : z ∈ ts
  · rw [decide_eq_true h, in_txs.mpr h]
  · rw [decide_eq_false h]
    exact Bool.eq_false_iff.mpr fun e => h (in_txs.mp e)
theorem inN_str {names : List Str} {d : PyData} (h : inN names d = true) : ∃ z, d = .str z ∧ z ∈ names := by
  cases d with
  | str z => exact ⟨z, rfl, of_decide_eq_true h⟩
  | _ => cases h
theorem strs_of {names : List Str} : ∀ {ds : List PyData}, ds.all (inN names) = true → ∃ zs : List Str, ds = zs.map .str ∧ ∀ z ∈ zs, z ∈ names
  | [], _ => ⟨[], rfl, fun _ z => nomatch z⟩
  | d :: ds, h => by
    rw [List.all_cons, Bool.and_eq_true] at h
    obtain ⟨z, rfl, hz⟩ := inN_str h.1
    obtain ⟨zs, rfl, hs⟩ := strs_of h.2
    exact ⟨z :: zs, rfl, fun y hy => (List.mem_cons.mp hy).elim (fun e => by rw [e]; exact hz) (hs y)⟩
theorem str_alike (ks : List Str) : ∀ a ∈ ks.map PyData.str, ∀ b ∈ ks.map PyData.str, alike a b = true ∧ a ≠ .none ∧ a.depth ≤ 60 := by
  intro a ha b hb
  obtain ⟨k, _, rfl⟩ := List.mem_map.mp ha
  obtain ⟨m, _, rfl⟩ := List.mem_map.mp hb
  exact ⟨rfl, (fun z => nomatch z), by simp [PyData.depth]⟩
def spLot (K : PySem.W.Frag) : Sp := fun as H Q _ => ∃ (l : Addr) (names : List Str) (x : V) (d : PyData), as = [.ref l, x] ∧ SqL K H l (txs names) ∧ DatV K H x d ∧ Bd 1000 d ∧ ∀ H', Same H H' → Q (.bl (lotD names d)) H'
def spYT (w : World) (K : PySem.W.Frag) (g : List Cab → List Car → PyData → Bool) : Sp := fun as H Q _ => ∃ (y x : V) (cs : List Cab) (rs : List Car) (most : Int) (d : PyData), as = [y, x] ∧ YardV K H y cs rs ∧ YardF most cs rs ∧ Th w K H x d ∧ Bd 1000 d ∧ ∀ H', Same H H' → Q (.bl (g cs rs d)) H'
theorem YardF.le {most : Int} {cs : List Cab} {rs : List Car} (h : YardF most cs rs) : cs.length ≤ 40 ∧ rs.length ≤ 24 ∧ (cs.map ckey).Nodup := by
  obtain ⟨ns, nm, N1, N2, N3, N4, C, R⟩ := h.ex
  refine ⟨C.len, ?_, C.nodup⟩
  have := R.perm.length_eq
  rw [List.length_map] at this
  omega
theorem walk_itemsN {d : Addr} {o : Obj} {kvs : List (NK × V × V)} : Walk (Itin d o kvs) kvs.length (fun H => H d = some (objO d o)) (fun i H x H' => ∃ T kv, kvs[i]? = some kv ∧ x = .ref T ∧ H T = none ∧ H' = upd H T (.tup [kv.2.1, kv.2.2])) :=
  ⟨fun _ _ hi q => ⟨q, hi⟩, fun _ q => ⟨q, Nat.le_refl _⟩, fun _ _ _ _ _ _ y => y⟩
theorem walk_keysN {d : Addr} {o : Obj} {kvs : List (NK × V × V)} : Walk (Itkn d o kvs) kvs.length (fun H => H d = some (objO d o)) (fun i H x H' => H' = H ∧ ∃ k v, kvs[i]? = some (k, x, v)) :=
  ⟨fun _ _ hi q => ⟨q, hi⟩, fun _ q => ⟨q, Nat.le_refl _⟩, fun _ _ _ _ _ _ y => y⟩
section
variable {P : Program} {w : World} {K : PySem.W.Frag} {mg : Str → Option Value} {base : Heap}
theorem scLt : FnScope ["names", "thing", "name"] ["names", "thing"] (defScope sIsLotOf) := ⟨rfl, rfl, rfl, by decide +kernel, rfl, by decide +kernel, by decide +kernel⟩
theorem ok_isLotOf {f fR : Addr} {fd dR : FuncData} (F : Fun K "is_lot_of" "is_lot_of" sIsLotOf f fd) (T : Nat0 mg) (GR : FnOk P w K mg base CX0 1 fR dR ["row"] (spRiseT K)) (FR : Fun K "is_rising" "is_rising" sIsRising fR dR) (mR : mg "is_rising" = some (.ref fR)) (bR : Binds K dR ["row"] []) :
    FnOk P w K mg base CX0 2 f fd ["names", "thing"] (spLot K) := by
  refine F.ok scLt (fun as H Q E h => ?_) (fun cdv A outer s H as Q E hr h => ?_)
  · obtain ⟨l, names, x, d, rfl, _⟩ := h
    rfl
  · obtain ⟨l, names, x, d, rfl, hL, D, bd, k⟩ := h
    refine ⟨_, pss_cons (ps_if (pt_not (pt_val (pe_callB (call_isD kit_T) (by rfl) T.isi (by decide +kernel) (pa_cons (pv 1) (pa_cons (pe_bltn (v := .ty "tuple") (by rfl) T.tuple (by decide +kernel) rfl) pa_nil))))) (pss_one (ps_ret pe_bl)) pss_nil)
      (pss_cons (ps_if (pt_not (pt_val (pe_callB (cr_all rfl) (by rfl) T.all (by decide +kernel) (pa_cons (pe_lc (own := [("name", 2)]) (g := gName 2) (tt := tYes)
          (te := tAndV (tCB (rIsD K "str" qS) (tCons (tVar 2) (tCons (tC (.ty "str")) tNil))) (tOp (rIn K false) (tVar 2) (tVar 0))) rfl scLt.nd (pi_tup (pv 1)) (blkOk_by (N := ["names", "thing", "name"]) (sc := defScope sIsLotOf) (by decide +kernel))
          (fun _ _ _ _ _ => pg_name (i := 2) scLt.nd rfl (Or.inl rfl)) (fun _ _ _ _ _ => pts_nil)
          (fun _ _ _ _ _ => by exact pe_and (pe_callB (call_isD kit_S) (by rfl) T.isi (by decide +kernel) (pa_cons (pv 2) (pa_cons (pe_bltn (v := .ty "str") (by rfl) T.str (by decide +kernel) rfl) pa_nil))) (pe_one (pe_cmpR op_in_seq (pv 2) (pv 0) (by rfl))))) pa_nil)))) (pss_one (ps_ret pe_bl)) pss_nil)
      (pss_one (ps_ret (pe_call GR hr rfl mR FR.kp bR .nil pass0 (pa_cons (pv 1) pa_nil))))), ?_⟩
    refine ⟨_, rfl, x, d, rfl, D, qT d, rfl, ?_⟩
    refine ite2 (fun h => ?_) (fun h => ?_)
    · have e : lotD names d = false := by cases d <;> first | rfl | exact absurd h Bool.false_ne_true
      rw [e] at k
      exact k H (Same.refl H)
    obtain ⟨a, xs, ds, rfl, rfl, hT, hA⟩ := dat_tup D (by simpa using h)
    have lx := hA.len
    have bl : ds.length ≤ 1000 := by simp only [Bd] at bd; exact bd.1
    have k' : ∀ H', Same H H' → Q (.bl (ds.all (inN names) && risesD ds)) H' := k
    refine ⟨_, rfl, a, rfl, ⟨xs, hT⟩, fun D1 hD1 => ?_⟩
    refine lc_tup (K := K) (a := a) (xs := xs) (fun i H' => H' D1 = some (.lst (((ds.take i).map (inN names)).map V.bl)) ∧ Same H H') ?_ ?_ ?_ ?_
    · exact ⟨by rw [List.take_zero, upd_same]; rfl, same_new (Same.refl H) hD1⟩
    · rintro i H' hi ⟨_, sm⟩
      exact sqt_more sm hT
    · rintro i y H' hx ⟨g1, g2⟩
      obtain ⟨dy, hdy, Dy⟩ := datA_at hA hx
      have fin : ∀ c, c = inN names dy → ∃ acc, H' D1 = some (.lst acc) ∧ acc.length < sizeLine ∧ (upd H' D1 (.lst (acc ++ [V.bl c])) D1 = some (.lst (((ds.take (i + 1)).map (inN names)).map V.bl)) ∧ Same H (upd H' D1 (.lst (acc ++ [V.bl c])))) := fun c ec => by
        refine ⟨_, g1, ?_, ?_, same_put g2 hD1⟩
        · rw [List.length_map, List.length_map, List.length_take]
          exact small1000 (by omega)
        · rw [upd_same, List.take_succ, hdy, ec]
          simp
      refine ⟨rfl, _, rfl, y, dy, rfl, Dy.more g2, qS dy, rfl, ?_⟩
      refine ite2 (fun g => ?_) (fun g => ?_)
      · obtain ⟨z, rfl, rfl⟩ := dat_str Dy g
        refine ⟨_, rfl, _, rfl, l, txs names, rfl, .inl (Same.seq g2 hL), rfl, flat_txs names, ?_⟩
        exact fin _ (inV_txs z names)
      · exact fin false (by cases dy <;> first | rfl | exact absurd rfl g)
    rintro H1 ⟨q1, M⟩
    rw [List.take_of_length_le (by omega)] at q1
    refine ⟨D1, _, rfl, SqL.of q1, ?_⟩
    have ea : ((ds.map (inN names)).all id) = ds.all (inN names) := by rw [List.all_map]; rfl
    rw [ea]
    refine ⟨_, rfl, ?_⟩
    refine ite2 (fun h => ?_) (fun h => ?_)
    · have h0 : ds.all (inN names) = false := by simpa using h
      rw [h0, Bool.false_and] at k'
      exact k' H1 M
    · have h1 : ds.all (inN names) = true := by simpa using h
      rw [h1, Bool.true_and] at k'
      obtain ⟨zs, rfl, _⟩ := strs_of h1
      exact ⟨_, rfl, a, xs, _, rfl, sqt_more M hT, hA.more M, bl, str_alike zs, fun H2 M2 => k' H2 (M.trans M2)⟩
theorem scCL : FnScope ["yard", "thing", "car"] ["yard", "thing"] (defScope sIsCarLot) := ⟨rfl, rfl, rfl, by decide +kernel, rfl, by decide +kernel, by decide +kernel⟩
theorem ok_isCarLot {f fL : Addr} {fd dL : FuncData} (F : Fun K "is_car_lot" "is_car_lot" sIsCarLot f fd) (GL : FnOk P w K mg base CX0 2 fL dL ["names", "thing"] (spLot K)) (FL : Fun K "is_lot_of" "is_lot_of" sIsLotOf fL dL) (mL : mg "is_lot_of" = some (.ref fL)) (bL : Binds K dL ["names", "thing"] []) :
    FnOk P w K mg base CX0 3 f fd ["yard", "thing"] (spYT w K fun cs rs d => lotD (rs.map (·.1)) d) := by
  refine F.ok scCL (fun as H Q E h => ?_) (fun cdv A outer s H as Q E hr h => ?_)
  · obtain ⟨y, x, cs, rs, most, d, rfl, _⟩ := h
    rfl
  · obtain ⟨y, x, cs, rs, most, d, rfl, hV, hY, D, bd, k⟩ := h
    refine ⟨_, pss_one (ps_ret (pe_call GL hr rfl mL FL.kp bL .nil pass0 (pa_cons (pe_lc (own := [("car", 2)]) (g := gName 2) (tt := tYes) (te := tOp (rIxT K) (tVar 2) (tC (V.int 0))) rfl scCL.nd (pi_tup (pe_ix ix_tup (pv 0) pe_int (fun _ _ => rfl))) (blkOk_by (N := ["yard", "thing", "car"]) (sc := defScope sIsCarLot) (by decide +kernel))
      (fun _ _ _ _ _ => pg_name (i := 2) scCL.nd rfl (Or.inl rfl)) (fun _ _ _ _ _ => pts_nil) (fun _ _ _ _ _ => by exact pe_ix ix_tup (pv 2) pe_int (fun _ _ => rfl))) (pa_cons (pv 1) pa_nil)))), ?_⟩
    have hl := hY.le.2.1
    obtain ⟨ty, ya, yb, xs, zs, rfl, v1, v2, v3, v4, v5⟩ := hV
    have lz : zs.length = rs.length := paired_len v5
    refine ⟨_, rfl, ty, _, 1, .ref yb, rfl, rfl, v1, at1, yb, rfl, ⟨_, v3⟩, fun D1 hD => ?_⟩
    refine lc_tup (K := K) (a := yb) (xs := zs) (fun i H' => H' D1 = some (.lst (txs ((rs.take i).map (·.1)))) ∧ Same H H') ?_ ?_ ?_ ?_
    · exact ⟨by rw [List.take_zero, upd_same]; rfl, same_new (Same.refl H) hD⟩
    · rintro i H' hi ⟨_, sm⟩
      exact sqt_more sm v3
    · rintro i x H' hx ⟨g1, g2⟩
      obtain ⟨c, hc, t', rfl, hq⟩ := paired_at v5 hx
      have hi' : i < rs.length := (List.getElem?_eq_some_iff.mp hc).1
      refine ⟨rfl, _, rfl, t', _, 0, _, rfl, rfl, sqt_more g2 hq, at0, _, g1, ?_, ?_, same_put g2 hD⟩
      · unfold txs
        rw [List.length_map, List.length_map, List.length_take]
        exact small1000 (by omega)
      · rw [upd_same, List.take_succ, hc]
        unfold txs
        simp
    rintro H1 ⟨a1, m1⟩
    rw [lz, List.take_length] at a1
    exact ⟨_, rfl, D1, _, x, d, rfl, SqL.of a1, D.1.more m1, bd, fun H2 m2 => k H2 (m1.trans m2)⟩
theorem scCu : FnScope ["yard", "thing", "knot"] ["yard", "thing"] (defScope sIsCut) := ⟨rfl, rfl, rfl, by decide +kernel, rfl, by decide +kernel, by decide +kernel⟩
/-- which knots: by membership -/
def knD (cs : List Cab) (rs : List Car) (d : PyData) : Prop := True
theorem inN_perm {xs ys : List Str} (h : ∀ s, s ∈ xs ↔ s ∈ ys) : inN xs = inN ys := by
  funext d
  cases d with
  | str z =>
    show decide (z ∈ xs) = decide (z ∈ ys)
    by_cases e : z ∈ xs
    · rw [decide_eq_true e, decide_eq_true ((h z).mp e)]
    · rw [decide_eq_false e, decide_eq_false fun g => e ((h z).mpr g)]
  | _ => rfl
theorem lotD_perm {xs ys : List Str} (h : ∀ s, s ∈ xs ↔ s ∈ ys) : lotD xs = lotD ys := by
  funext d
  cases d with
  | tuple ds => show (ds.all (inN xs) && risesD ds) = (ds.all (inN ys) && risesD ds); rw [inN_perm h]
  | _ => rfl
def spCut (w : World) (K : PySem.W.Frag) : Sp := fun as H Q _ => ∃ (y x : V) (cs : List Cab) (rs : List Car) (most : Int) (ks : List Str) (d : PyData), as = [y, x] ∧ YardV K H y cs rs ∧ YardF most cs rs ∧ (∀ s, s ∈ ks ↔ KnIn cs rs s ∧ s ≠ feed) ∧ Th w K H x d ∧ Bd 1000 d ∧ ∀ H', Same H H' → Q (.bl (lotD ks d)) H'
theorem ok_isCut {f fL fK : Addr} {fd dL dK : FuncData} (F : Fun K "is_cut" "is_cut" sIsCut f fd) (GL : FnOk P w K mg base CX0 2 fL dL ["names", "thing"] (spLot K)) (FL : Fun K "is_lot_of" "is_lot_of" sIsLotOf fL dL) (mL : mg "is_lot_of" = some (.ref fL)) (bL : Binds K dL ["names", "thing"] [])
    (GK : FnOk P w K mg base CX0 1 fK dK ["yard"] (spKin K)) (FK : Fun K "knots_in" "knots_in" sKnotsIn fK dK) (mK : mg "knots_in" = some (.ref fK)) (bK : Binds K dK ["yard"] []) : FnOk P w K mg base CX0 3 f fd ["yard", "thing"] (spCut w K) := by
  refine F.ok scCu (fun as H Q E h => ?_) (fun cdv A outer s H as Q E hr h => ?_)
  · obtain ⟨y, x, cs, rs, most, ks, d, rfl, _⟩ := h
    rfl
  · obtain ⟨y, x, cs, rs, most, ks, d, rfl, hV, hY, hk, D, bd, k⟩ := h
    refine ⟨_, pss_one (ps_ret (pe_call GL hr rfl mL FL.kp bL .nil pass0 (pa_cons (pe_lc (own := [("knot", 2)]) (g := gName 2) rfl scCu.nd (pi_tup (pe_call GK (hr.mono (by decide)) rfl mK FK.kp bK .nil pass0 (pa_cons (pv 0) pa_nil))) (blkOk_by (N := ["yard", "thing", "knot"]) (sc := defScope sIsCut) (by decide +kernel))
      (fun _ _ _ _ _ => pg_name (i := 2) scCu.nd rfl (Or.inl rfl)) (fun _ _ _ _ _ => pts_one (pt_cmpR op_ne (pv 2) pe_str (nomark _))) (fun _ _ _ _ _ => pv 2)) (pa_cons (pv 1) pa_nil)))), ?_⟩
    refine ⟨_, rfl, y, cs, rs, most, rfl, hV, hY, fun p ws H1 srt nd mem hp _ M => ?_⟩
    have lw : ws.length ≤ 20 := by
      obtain ⟨ns, n8, nn, sub⟩ := knIn_feed hY
      have := sub_len nd (m := feed :: ns) fun s hs => by
        rcases (mem s).mp hs with e | e
        · rw [e]; exact List.mem_cons_self
        · exact sub s e
      rw [List.length_cons] at this
      omega
    refine ⟨p, rfl, ⟨_, SqT.of hp⟩, fun D1 hD1 => ?_⟩
    refine lc_tup (K := K) (a := p) (xs := txs ws) (fun i H' => H' D1 = some (.lst (txs ((ws.take i).filter fun s => decide (s ≠ feed)))) ∧ Same H1 H') ?_ ?_ ?_ ?_
    · exact ⟨by rw [List.take_zero, upd_same]; rfl, same_new (Same.refl H1) hD1⟩
    · rintro i H' hi ⟨_, sm⟩
      exact SqT.of (sm _ _ hp)
    · rintro i x' H' hx ⟨g1, g2⟩
      unfold txs at hx
      rw [List.getElem?_map] at hx
      obtain ⟨s, hs, rfl⟩ := Option.map_eq_some_iff.mp hx
      refine ⟨rfl, _, rfl, rfl, _, rfl, ?_⟩
      refine ite2 (fun g => ?_) (fun g => ?_)
      · refine ⟨_, rfl, _, g1, ?_, ?_, same_put g2 hD1⟩
        · unfold txs
          rw [List.length_map]
          refine Nat.lt_of_le_of_lt (List.length_filter_le _ _) ?_
          rw [List.length_take]
          exact small1000 (by omega)
        · have ne : s ≠ feed := fun e => by rw [e] at g; simp at g
          rw [upd_same, List.take_succ, hs]
          unfold txs
          rw [List.filter_append, List.map_append]
          simp [ne]
      · refine ⟨?_, g2⟩
        have eq : s = feed := by
          have g' : ¬ (!decide (V.str s = V.str feed)) = true := g
          simpa using g'
        rw [g1, List.take_succ, hs, List.filter_append]
        simp [eq]
    rintro H2 ⟨a1, m1⟩
    rw [List.take_of_length_le (by unfold txs; rw [List.length_map]; exact Nat.le_refl _)] at a1
    refine ⟨_, rfl, D1, _, x, d, rfl, SqL.of a1, (D.1.more M).more m1, bd, fun H3 m2 => ?_⟩
    rw [lotD_perm (ys := ks) fun s => by
      rw [List.mem_filter, mem, hk]
      constructor
      · rintro ⟨h1, h2⟩
        have ne : s ≠ feed := of_decide_eq_true h2
        exact ⟨h1.resolve_left ne, ne⟩
      · rintro ⟨h1, h2⟩
        exact ⟨.inr h1, decide_eq_true h2⟩]
    exact k H3 ((M.trans m1).trans m2)
end
end Y

/-! OT: the law's cables, cars, edits among any values. -/
namespace Y
open PySem PySem.Spec PyProof.Rows L2 Ns
section
variable {P : Program} {w : World} {K : PySem.W.Frag} {mg : Str → Option Value} {base : Heap}
theorem len3 {xs : List V} {n : Nat} : (!decide (V.int (xs.length : Int) = V.int (n : Int))) = !decide (xs.length = n) := by
  by_cases h : xs.length = n
  · rw [h, decide_eq_true rfl, decide_eq_true rfl]
  · rw [decide_eq_false h, decide_eq_false (fun z => h (by injection z with z; omega))]
theorem cable_len {ds : List PyData} (h : ds.length ≠ 3) : cableD (.tuple ds) = false := cable_not (decide_eq_false (fun z => h (by omega)))
theorem car_len {ds : List PyData} (h : ds.length ≠ 4) : carT (.tuple ds) = false := car_not (decide_eq_false (fun z => h (by omega)))
end
end Y

/-! OU: dicts with couples of texts as keys: del, pop, dict of a list of pairs. -/
namespace Ns
open PySem PySem.Spec PyProof.Rows L2
section
variable {X : Cx} {pins : List (Addr × Obj)} {σ : L2.St} {H : Hp} {s : Shared} {a b : Addr} {kvs : List (List Key × V)} {k : List Key} {A : Around} {E : Value → Shared → Prop}
theorem kt_at {xs : List (List Key × Addr × Value)} {v : V} (rel : KT H kvs xs) (l : valV kvs k = some v) : ∃ p, atKey xs k = some p ∧ RelV v p.2 := by
  have r := rel.val k
  rw [l] at r
  cases q : atKey xs k with
  | none => rw [q] at r; exact (show False from r).elim
  | some p => rw [q] at r; exact ⟨p, rfl, r⟩
/-- behind a write: the couples stand -/
theorem kt_write {h' : Heap} {t' : Nat} {kvs' : List (List Key × V)} {xs' : List (List Key × Addr × Value)} (I : Inv X pins σ H s) (e : H a = some (.dT kvs)) (hs : Heap.SameBut a s.heap h') (rel : KT H kvs' xs') (hl : kvs'.length ≤ sizeLine) (hd : (a == sysModules) = false)
    (dd : h'.DictOfH (tupleKind (mixKind X.prog X.w)) a xs') : Inv X pins σ (upd H a (.dT kvs')) { s with heap := h', toks := t' } := by
  obtain ⟨o, es, ep, ho, hx, hdat, hes, _, hn⟩ := dd
  refine d_write I (by rw [e]; exact True.intro) hs ⟨o, ho⟩ ⟨hl, hd, xs', ?_, o, es, ep, ho, hx, hdat, hes, hn⟩
  exact rel.keeps fun c ys ec => by rw [upd_ne (ne_of ec e (fun z => nomatch z))]; exact ec
theorem d_delT {v : V} {Q : Unit → Shared → Prop} (hu : A.units + 1 < cLine) (I : Inv X pins σ H s) (e : H a = some (.dT kvs)) (eb : H b = some (.tup (k.map kV))) (l : valV kvs k = some v) (h : ∀ s', Inv X pins σ (upd H a (.dT (dropK kvs k))) s' → Q () s') :
    wpAny (model X.prog X.w) A (delItem (.ref a) (.ref b)) Q E s := by
  obtain ⟨z, hd, xs, rel, dd⟩ := dt_of I.hok e
  obtain ⟨p, hp, _⟩ := kt_at rel l
  exact wpAny_delItem_heap (hsz := by rw [← Paired.length rel]; exact z) (tupleKind_room_in1 hu) (key_of I.hok eb) hd dd hp fun h' dd' hs => h _ (kt_write I e hs (L2.DX.KT_drop k rel) (Nat.le_trans (dropK_le kvs k) z) hd dd')
end
def sDDelT (td ty : TE) : TS := fun D σ H => td σ H fun x H1 => ty σ H1 fun y H2 => ∃ (a b : Addr) (kvs : List (List Key × V)) (k : List Key) (v : V), x = .ref a ∧ y = .ref b ∧ H2 a = some (.dT kvs) ∧ H2 b = some (.tup (k.map kV)) ∧ valV kvs k = some v ∧ D.nx σ (upd H2 a (.dT (dropK kvs k)))
def rPopT1 : V → List V → Hp → VK → Prop := fun x xs H Q => ∃ (a b : Addr) (kvs : List (List Key × V)) (k : List Key) (v : V), x = .ref a ∧ xs = [.ref b] ∧ H a = some (.dT kvs) ∧ H b = some (.tup (k.map kV)) ∧ valV kvs k = some v ∧ Q v (upd H a (.dT (dropK kvs k)))
def rPopK1 : V → List V → Hp → VK → Prop := fun x xs H Q => ∃ (a : Addr) (kvs : List (Key × V)) (k : Key) (v : V), x = .ref a ∧ xs = [kV k] ∧ H a = some (.dK kvs) ∧ valV kvs k = some v ∧ Q v (upd H a (.dK (dropK kvs k)))
section
variable {X : Cx} {o i : Expr} {pos tpos : Pos} {td ty : TE}
theorem ps_delT (hu : X.A.units + 1 < cLine) (ho : PE X o td) (hi : PE X i ty) : PS X (.Delete [.Subscript o i tpos] pos) (sDDelT td ty) := by
  refine ⟨fun pins s σ H D I h => ?_⟩
  refine wpAny_Delete (wpAny_deleteEach_cons (wpAny_delete_Subscript (thn (ho.run pins s σ H _ I h) fun u s1 ⟨x, H1, I1, rx, q1⟩ => thn (hi.run pins s1 σ H1 _ I1 q1) fun iv s2 hh => ?_)))
  obtain ⟨y, H2, I2, ry, a, b, kvs, k, v, rfl, rfl, e, eb, l, q2⟩ := hh
  cases rx
  cases ry
  exact d_delT hu I2 e eb l fun s3 I3 => wpAny_deleteEach_nil ⟨σ, _, I3, q2⟩
theorem mt_popT1 (hu : X.A.units + 1 < cLine) : MtR X "dict.pop" rPopT1 := by
  intro pins s σ H x xs v us Q I rx rxs h
  obtain ⟨a, b, kvs, k, v, rfl, rfl, e, eb, l, q⟩ := h
  cases rx
  obtain ⟨u1, rfl, r1⟩ := vals1 rxs
  cases r1
  obtain ⟨z, hd, xs', rel, dd⟩ := dt_of I.hok e
  obtain ⟨p, hp, rp⟩ := kt_at rel l
  exact call_pop_heap (hsz := by rw [← Paired.length rel]; exact z) (.inl rfl) (PySem.F.args_dict_pop_2 _ _) (tupleKind_room_in1 hu) (key_of I.hok eb) hd dd hp fun h' dd' hs =>
    ⟨v, _, kt_write I e hs (L2.DX.KT_drop k rel) (Nat.le_trans (dropK_le kvs k) z) hd dd', rp, q⟩
theorem mt_popK1 : MtR X "dict.pop" rPopK1 := by
  intro pins s σ H x xs v us Q I rx rxs h
  obtain ⟨a, kvs, k, v, rfl, rfl, e, l, q⟩ := h
  cases rx
  obtain ⟨u1, rfl, r1⟩ := vals1 rxs
  exact d_pop I e r1 l (.inl rfl) fun w' s3 I3 rw' => ⟨v, _, I3, rw', q⟩
end
/-! ### dict of a list of pairs -/
def mergeT (kvs more : List (List Key × V)) : List (List Key × V) := more.foldl (fun acc kv => putK acc kv.1 kv.2) kvs
theorem kt_merge {H : Hp} : ∀ {more : List (List Key × V)} {ps xs : List (List Key × Addr × Value)} {kvs : List (List Key × V)}, KT H more ps → KT H kvs xs → KT H (mergeT kvs more) (storedAllH xs ps)
  | _, _, _, _, .nil, r => r
  | _, _, _, _, .cons (a := p) (b := q) h t, r => by
    have e := r.put p.1 h.2.1 h.2.2
    rw [h.1] at e
    have z := kt_merge t e
    rw [← h.1] at z
    exact (by rw [h.1] at z; exact (show KT H (mergeT (putK _ p.1 p.2) _) (storedAllH (storedH _ q.1 q.2.1 q.2.2) _) from by rw [h.1]; exact z))
theorem mergeT_len : ∀ (more kvs : List (List Key × V)), (mergeT kvs more).length ≤ kvs.length + more.length
  | [], kvs => Nat.le_refl _
  | p :: r, kvs => by
    have h1 := mergeT_len r (putK kvs p.1 p.2)
    have h2 := length_putK kvs p.1 p.2
    show (mergeT (putK kvs p.1 p.2) r).length ≤ _
    rw [List.length_cons]
    omega
def PrT (K : PySem.W.Frag) (H : Hp) (p : Addr) (kv : List Key × V) : Prop := ∃ b, SqT K H p [.ref b, kv.2] ∧ H b = some (.tup (kv.1.map kV))
theorem prt_of {X : Cx} {pins : List (Addr × Obj)} {σ : L2.St} {H : Hp} {s : Shared} (I : Inv X pins σ H s) : ∀ {ps : List Addr} {kvs : List (List Key × V)}, Paired (PrT X.K H) ps kvs →
    ∃ xs : List (List Key × Addr × Value), KT H kvs xs ∧ xs.length = ps.length ∧ (∀ x ∈ xs, (tupleKind (mixKind X.prog X.w)).is s.heap x.1 x.2.1) ∧ ∀ (j : Nat) (x : List Key × Addr × Value), xs[j]? = some x → ∃ c, ps[j]? = some c ∧ s.heap.IsTuple c #[.ref x.2.1, x.2.2]
  | _, _, .nil => ⟨[], .nil, rfl, (fun _ z => nomatch z), fun j x e => by simp at e⟩
  | _, _, .cons (a := p) (b := kv) h t => by
    obtain ⟨xs, r, hl, hk, hp⟩ := prt_of I t
    obtain ⟨b, sq, eb⟩ := h
    obtain ⟨its, rv, ht, _⟩ := I.tuple sq
    obtain ⟨u, y, ei, ru, ry⟩ := vals2 rv
    subst ei
    cases (show u = Value.ref b from ru)
    refine ⟨(kv.1, b, y) :: xs, .cons ⟨rfl, eb, ry⟩ r, by rw [List.length_cons, List.length_cons, hl], fun x hx => ?_, fun j x e => ?_⟩
    · rcases List.mem_cons.mp hx with rfl | hx
      · exact key_of I.hok eb
      · exact hk x hx
    · cases j with
      | zero =>
        cases (show (kv.1, b, y) = x from Option.some.inj e)
        exact ⟨p, rfl, by obtain ⟨o, ho, hc, n, hd⟩ := ht; exact ⟨o, ho, hc, n, hd⟩⟩
      | succ j => exact hp j x (by simpa using e)
def rDictPT (K : PySem.W.Frag) : List V → Hp → VK → Prop := fun xs H Q => ∃ (a : Addr) (ps : List Addr) (kvs : List (List Key × V)), xs = [.ref a] ∧ SqL K H a (ps.map V.ref) ∧ Paired (PrT K H) ps kvs ∧ ∀ p, H p = none → Q (.ref p) (upd H p (.dT (mergeT [] kvs)))
theorem call_dictPT {X : Cx} (hcalm : X.calm = true) (hu : X.A.units + 3 < cLine) : CallR X (.type "dict") (rDictPT X.K) := by
  intro pins s σ H xs us Q I r q
  obtain ⟨a, ps, kvs, rfl, hq, hp, q⟩ := q
  obtain ⟨u, rfl, rx⟩ := vals1 r
  cases rx
  obtain ⟨its, rv, pl, hz⟩ := I.list hq
  cases refs_at rv
  rw [List.length_map] at hz
  obtain ⟨es, rel, hl, his, hpr⟩ := prt_of I hp
  obtain ⟨o, n, ho, hc, hd, hdat⟩ := pl
  have pit : PairItems s.heap (ps.map Value.ref).toArray (fun j => ps.getD j 0) (es.map fun x => (Value.ref x.2.1, x.2.2)) := by
    refine ⟨by simp [hl], fun j k v e => ?_⟩
    rw [List.getElem?_map] at e
    obtain ⟨x, ex, e2⟩ := Option.map_eq_some_iff.mp e
    cases e2
    obtain ⟨c, hc1, hc2⟩ := hpr j x ex
    have ec : ps.getD j 0 = c := by rw [List.getD_eq_getElem?_getD, hc1]; rfl
    refine ⟨?_, .inl ?_⟩
    · show ((ps.map Value.ref).toArray)[j]? = some (.ref (ps.getD j 0))
      rw [ec]
      simp [hc1]
    · show s.heap.IsTuple (ps.getD j 0) _
      rw [ec]
      exact hc2
  refine call_dict_pairsH (knd := tupleKind (mixKind X.prog X.w)) (ps := es) (PairArg.list a (ps.map Value.ref).toArray (fun j => ps.getD j 0) (es.map fun x => (Value.ref x.2.1, x.2.2))) (I.ok.hd hcalm) (by show _ < cLine; exact Nat.lt_of_le_of_lt (by show X.A.units + 2 ≤ X.A.units + 3; omega) hu) ⟨⟨o, n, ho, hc, hd, hdat⟩, pit⟩ ⟨by rw [List.length_map], fun i key v e => ?_⟩ (fun h' hk x hx => ?_) (by rw [List.length_map, hl]; exact hz) fun h' tk hd' k => ?_
  · rw [show PairRel _ i key v = ((es.map fun x => (Value.ref x.2.1, x.2.2))[i]? = some (key, v)) from rfl, List.getElem?_map] at e
    obtain ⟨x, ex, e2⟩ := Option.map_eq_some_iff.mp e
    cases e2
    exact ⟨x.1, x.2.1, ex, rfl⟩
  · exact tupleKind_stays.stays (fun b o vs n e _ => hk b o (Nat.ne_of_lt (Heap.lt_size e)) (fun z => nomatch z) e) (his x hx)
  · have hm : (s.heap.objs.size == sysModules) = false := beq_eq_false_iff_ne.mpr (Nat.ne_of_gt I.big)
    have hlen : (mergeT [] kvs).length ≤ sizeLine := by
      refine Nat.le_trans (mergeT_len kvs []) ?_
      rw [List.length_nil, Nat.zero_add, Paired.length rel, hl]
      exact hz
    have hf : H s.heap.objs.size = none := I.hok.fresh (Nat.le_refl _)
    obtain ⟨o2, es2, ep2, g1, g2, g3, g4, _, g5⟩ := hd'
    refine ⟨.ref s.heap.objs.size, upd H s.heap.objs.size (.dT (mergeT [] kvs)), I.laid (t' := tk) (fun b o e => k b o (fun z => nomatch z) e) (Nat.le_refl _) ⟨hlen, hm, storedAllH [] es, ?_, o2, es2, ep2, g1, g2, g3, g4, g5⟩, rfl, q _ hf⟩
    exact (kt_merge rel .nil).keeps fun c ys ec => by rw [upd_ne (ne_of_none ec hf)]; exact ec
end Ns

/-! OV: {(a, b): v for ..}: a new dict with tuples as keys, made by a comprehension. -/
namespace Ns
open PySem PySem.Spec PyProof.Rows L2
section
variable {X : Cx}
theorem d_setT {pins : List (Addr × Obj)} {σ : L2.St} {H : Hp} {s : Shared} {E : Value → Shared → Prop} {D b : Addr} {kvs : List (List Key × V)} {k : List Key} {v : V} {r : Value} {Q : Unit → Shared → Prop} (hu : X.A.units < cLine) (I : Inv X pins σ H s) (hD : H D = some (.dT kvs))
    (hb : H b = some (.tup (k.map kV))) (hz : kvs.length < sizeLine) (rv : RelV v r) (h : ∀ s', Inv X pins σ (upd H D (.dT (putK kvs k v))) s' → Q () s') : wpAny (model X.prog X.w) X.A (dictSet D (.ref b) r) Q E s := by
  obtain ⟨z, hd, xs, rel, dd⟩ := dt_of I.hok hD
  refine wpAny_dictSet_heap (hsz := by rw [← Paired.length rel]; exact z) hu (key_of I.hok hb) dd fun h' dd' hs => h _ (kt_write I hD hs (rel.put k hb rv) ?_ hd dd')
  have := length_putK kvs k v
  omega
/-- D the new dict -/
def tDcT (wi : TI) (g : TG) (tt : TT) (tk tv : TE) (own : List Nat) : TE := fun σ H Q => wi σ H fun J H1 => ∀ D, H1 D = none → ∃ W : Nat → Nat → Hp → Prop, (∃ m, W 0 m (upd H1 D (.dT []))) ∧ ∀ i m G, W i m G →
  (J.stop i G ∧ Q (.ref D) G) ∨ (J.go i G ∧ ∃ Nx : Hp → Prop, (∀ G', Nx G' → ∃ m', m' < m ∧ W (i + 1) m' G') ∧ ∀ x G', J.yld i G x G' → g x (wipe σ own) G' fun σ2 G2 => wipe σ2 own = wipe σ own ∧ tt σ2 G2 fun o G3 =>
    if o = true then tk σ2 G3 fun y G4 => tv σ2 G4 fun z G5 => ∃ kvs k b, y = .ref b ∧ G5 b = some (.tup (k.map kV)) ∧ G5 D = some (.dT kvs) ∧ kvs.length < sizeLine ∧ Nx (upd G5 D (.dT (putK kvs k z))) else Nx G3)
variable {kx vx tg iter : Expr} {ifs : List Expr} {scope : Scope} {own : List (Str × Nat)} {pos : Pos} {wi : TI} {g : TG} {tt : TT} {tk tv : TE}
theorem pe_dcT (hu : X.A.units < cLine) (hc : X.calm = true) (hN : X.N.Nodup) (hi : PI X tg iter wi) (ok : BlkOk X.N X.env.scope scope own)
    (hg : ∀ (s : Shared) (H : Hp) (C : Addr) (cl : List (Str × Addr)) (fp : List Addr), PG (X.blk s H scope (compEnvC scope cl C X.env) fp) tg g)
    (ht : ∀ (s : Shared) (H : Hp) (C : Addr) (cl : List (Str × Addr)) (fp : List Addr), PTs (X.blk s H scope (compEnvC scope cl C X.env) fp) ifs tt)
    (hk : ∀ (s : Shared) (H : Hp) (C : Addr) (cl : List (Str × Addr)) (fp : List Addr), PE (X.blk s H scope (compEnvC scope cl C X.env) fp) kx tk)
    (hv : ∀ (s : Shared) (H : Hp) (C : Addr) (cl : List (Str × Addr)) (fp : List Addr), PE (X.blk s H scope (compEnvC scope cl C X.env) fp) vx tv) (hs : ∀ x, foldedSetIterable iter X.env x = pure x := by intro _; rfl) :
    PE X (.DictComp kx vx [⟨tg, iter, ifs, 0⟩] scope pos) (tDcT wi g tt tk tv (own.map (·.2))) := by
  refine ⟨fun pins s σ H Q I h => ?_⟩
  rw [arm_eval_DictComp]
  refine wpAny_comprehension_free (use := none) rfl hs (closure_ok fun y hy e => ?_) ok.kind (fun y hy e => by rw [ok.uniq y hy, e]) (thn (hi.run pins s σ H _ I h) fun xv s1 hx => thn hx fun _ s2 ⟨it, fp, tn, J, H2, e2, I2, T, st2, f2, q⟩ => ?_)
  · exact (ok.free y hy e).elim (fun z => I.ok.has _ (.inl z)) fun z => I.ok.has _ (.inr z)
  subst e2
  refine wpAny_newObj_type (newEnv_comp ?_)
  -- the new dict is at D
  obtain ⟨D, eD⟩ : ∃ D, D = s2.heap.objs.size := ⟨_, rfl⟩
  obtain ⟨W, ⟨m0, w0⟩, turn⟩ := q D (I2.hok.fresh (Nat.le_of_eq eD.symm))
  obtain ⟨s3, es3⟩ : ∃ s3 : Shared, s3 = { s2 with heap := s2.heap.push { cls := .type "dict", data := .dict #[] } } := ⟨_, rfl⟩
  have I3 : Inv X pins σ (upd H2 D (.dT [])) s3 := by
    subst es3 eD
    exact I2.laid (t' := s2.toks) (fun b o e => Heap.get?_push_of_some _ e) (Nat.le_refl _) (dt_empty s2.heap I2.big)
  have up3 : ∀ b o, s2.heap.get? b = some o → s3.heap.get? b = some o := fun b o e => by subst es3; exact Heap.get?_push_of_some _ e
  have f3 : ∀ b ∈ fp, FpOk X pins (upd H2 D (.dT [])) b ∧ b < s3.heap.objs.size := fun b hb => by
    obtain ⟨o, e, _⟩ := T.obj _ _ st2 b hb
    have lt := Heap.lt_size e
    refine ⟨⟨?_, (f2 b hb).2⟩, Heap.lt_size (up3 _ _ e)⟩
    rw [upd_ne (by rw [eD]; exact Nat.ne_of_lt lt)]
    exact (f2 b hb).1
  have st3 : tn 0 s3.heap := T.keep _ _ _ st2 fun b _ o e => up3 _ _ e
  have nD3 : (upd H2 D (.dT [])) D = some (.dT []) := upd_same
  rw [← eD]
  obtain ⟨H3, eH3⟩ : ∃ H3, H3 = upd H2 D (.dT []) := ⟨_, rfl⟩
  rw [← eH3] at I3 f3 w0 nD3
  -- the block
  obtain ⟨C, eC⟩ : ∃ C, C = s3.heap.objs.size := ⟨_, rfl⟩
  have I4 := block_start I3 ok hN f3
  have hgoal : ({ s2 with heap := s2.heap.push { cls := .type "dict", data := .dict #[] } } : Shared) = s3 := es3.symm
  obtain ⟨ce, ece⟩ : ∃ ce, ce = compEnvC scope (cellsFrom (C + 1) scope.names (cloFrom X.env.cells scope.names [])) C X.env := ⟨_, rfl⟩
  have pg := hg s3 H3 C (cellsFrom (C + 1) scope.names (cloFrom X.env.cells scope.names [])) fp
  have pt := ht s3 H3 C (cellsFrom (C + 1) scope.names (cloFrom X.env.cells scope.names [])) fp
  have pk := hk s3 H3 C (cellsFrom (C + 1) scope.names (cloFrom X.env.cells scope.names [])) fp
  have pv := hv s3 H3 C (cellsFrom (C + 1) scope.names (cloFrom X.env.cells scope.names [])) fp
  obtain ⟨s4, es4⟩ : ∃ s4 : Shared, s4 = { s3 with heap := pushCells (s3.heap.push { cls := .type "dict", data := .dict #[] }) scope.names } := ⟨_, rfl⟩
  rw [← eC, ← ece] at I4
  rw [← ece] at pg pt pk pv
  have up4 : ∀ b o, s3.heap.get? b = some o → s4.heap.get? b = some o := fun b o e => by subst es4; exact pushCells_keeps _ _ _ _ (Heap.get?_push_of_some _ e)
  have goal : codeAny (model X.prog X.w) X.A (.compStart (.DictComp kx vx [⟨tg, iter, ifs, 0⟩] scope pos) 0 (.ref it) (.ref D) ce) (compPost (model X.prog X.w) X.A X.xe none (EP X pins σ Q) (.ref D) C) s4 := by
    have cL : ce.locals = C := by rw [ece]; rfl
    have I5 : Inv (X.blk s3 H3 scope ce fp) [] (wipe σ (own.map (·.2))) H3 s4 := by rw [es4]; exact I4
    have apart : ∀ {σ' : L2.St} {G : Hp} {s' : Shared}, Inv (X.blk s3 H3 scope ce fp) [] σ' G s' → (∀ b ∈ fp, G b = none) → ∀ b ∈ fp, FpOk (X.blk s3 H3 scope ce fp) [] G b := fun {σ' G s'} J' hn b hb => by
      have e1 := J'.ok.exf b hb
      exact ⟨hn b hb, e1.1, J'.ok.exfs b hb, .inl hb, fun x c e => e1.2 x c e, fun p hp => (nomatch (show p ∈ ([] : List (Addr × Obj)) from hp))⟩
    have st4 : tn 0 s4.heap := T.keep _ _ _ st3 fun b _ o e => up4 _ _ e
    have none3 : ∀ b ∈ fp, H3 b = none := fun b hb => (f3 b hb).1.1
    suffices loop : codeAny (model X.prog X.w) X.A (.compLoop (.DictComp kx vx [⟨tg, iter, ifs, 0⟩] scope pos) 0 (.ref it) (.ref D) ce) (compPost (model X.prog X.w) X.A X.xe none (EP X pins σ Q) (.ref D) C) s4 from codeAny_compStart_dict loop (T.self X.A 0 _ _ _ st4 loop)
    refine compLoop_anyD (fun n s' => ∃ i G, Inv (X.blk s3 H3 scope ce fp) [] (wipe σ (own.map (·.2))) G s' ∧ tn i s'.heap ∧ (∀ b ∈ fp, G b = none) ∧ W i n G) (fun n s5 hI => ?_) m0 ⟨0, H3, I5, st4, none3, w0⟩
    obtain ⟨i, G, J5, st5, n5, w5⟩ := hI
    rcases turn i n G w5 with ⟨stop, qq⟩ | ⟨go, Nx, hNx, step⟩
    · -- done
      refine thnF (T.done (X.blk s3 H3 scope ce fp) rfl rfl rfl hc i [] s5 _ G (fun _ _ => False) J5 (apart J5 n5) st5 stop) fun r s6 hr => ?_
      obtain ⟨rfl, J6⟩ := hr
      have I7 : Inv X pins σ G s6 := I3.call' (ch := fp) J6.os J6.base J6.hok J6.bare fun b hb => by
        obtain ⟨⟨_, k1, k2, k3, k4, k5⟩, _⟩ := f3 b hb
        exact ⟨k3, k1, k4, k5⟩
      have gC : G C = none := by
        have z := J6.free
        rw [show (X.blk s3 H3 scope ce fp).env.locals = C from cL] at z
        exact z
      obtain ⟨mm, hm, _⟩ := J6.loc
      rw [show (X.blk s3 H3 scope ce fp).env.locals = C from cL] at hm
      obtain ⟨k0, k1, k2, k3, k4, k5⟩ := I3.fpOk (Nat.le_of_eq eC.symm) gC
      refine ⟨mm, hm, fun h'' sb => ?_⟩
      exact ⟨.ref D, G, I7.turned (t' := s6.toks) (fun b o hb e => (sb.2 b hb).trans e) k0 k1 k3 k4 k5, rfl, qq⟩
    · -- one more
      refine thnF (T.item (X.blk s3 H3 scope ce fp) rfl rfl rfl hc i [] s5 _ G (fun _ _ => False) J5 (apart J5 n5) st5 go) fun r s6 hr => ?_
      obtain ⟨u, rfl, h6⟩ := hr
      refine thnF h6 fun _ s7 h7 => ?_
      obtain ⟨x, G7, J7, r7, y7, st7, n7⟩ := h7
      refine thnF (pg.run _ s7 _ G7 x u _ (J7.pinned (apart J7 n7) (T.obj _ _ st7)) r7 (step x G7 y7)) fun _ s8 h8 => ?_
      obtain ⟨σ8, G8, J8, same8, q8⟩ := h8
      refine thnF (pt.run _ s8 σ8 G8 _ J8 q8) fun o s9 h9 => ?_
      obtain ⟨G9, J9, q9⟩ := h9
      have turned : ∀ {s' : Shared} {G' : Hp}, Inv (X.blk s3 H3 scope ce fp) ([] ++ pinsAt fp s7.heap) σ8 G' s' → Nx G' → ∃ m, m < n ∧ ∃ i G', Inv (X.blk s3 H3 scope ce fp) [] (wipe σ (own.map (·.2))) G' s' ∧ tn i s'.heap ∧ (∀ b ∈ fp, G' b = none) ∧ W i m G' := fun {s' G'} J' nx => by
        obtain ⟨m', lt, w'⟩ := hNx G' nx
        have pinned : ∀ b ∈ fp, ∀ ob, s7.heap.get? b = some ob → s'.heap.get? b = some ob ∧ G' b = none := fun b hb ob e => by
          have z := J'.pin (b, ob) (List.mem_append_right _ (List.mem_append_right _ (mem_pinsAt hb e)))
          exact ⟨z.1, z.2.1⟩
        have hl : (wipe σ (own.map (·.2))).length = σ8.length := by rw [← same8, wipe_length]
        refine ⟨m', lt, i + 1, G', (J'.unpinned (pins := [])).weak hl (fun j v e => ?_), T.keep _ _ _ st7 fun b hb ob e => (pinned b hb ob e).1, fun b hb => ?_, w'⟩
        · rw [← same8] at e
          exact (wipe_some e).1
        · obtain ⟨ob, e, _⟩ := T.obj _ _ st7 b hb
          exact (pinned b hb ob e).2
      cases o with
      | false => exact turned J9 (by simpa using q9)
      | true =>
        simp only [if_true] at q9 ⊢
        refine thnF (pk.run _ s9 σ8 G9 _ J9 q9) fun z s10 h10 => ?_
        obtain ⟨y, G10, J10, r10, q10⟩ := h10
        refine thnF (pv.run _ s10 σ8 G10 _ J10 q10) fun z2 s11 h11 => ?_
        obtain ⟨yv, G11, J11, r11, kvs, k, b, rfl, hb, hD, hz, nx⟩ := h11
        cases r10
        exact d_setT (X := X.blk s3 H3 scope ce fp) hu J11 hD hb hz r11 fun s12 J12 => turned J12 nx
  rw [es4, eC] at goal
  rw [ece, es3] at goal
  subst es3 eC
  exact goal
end
end Ns

/-! MP3: is_amounts, is_flow. -/
namespace Y
open PySem PySem.Spec PyProof.Rows L2 Ns Mx
open PySem.W (dataLe dataLt alike)
theorem dic_of {d : PyData} (h : qD d = true) : ∃ m, d = .dict m := by
  cases d with
  | dict m => exact ⟨m, rfl⟩
  | _ => cases h
theorem zip_at {α β : Type} {as : List α} {bs : List β} {i : Nat} {a : α} {b : β} (h : as[i]? = some a) (g : bs[i]? = some b) : (as.zip bs)[i]? = some (a, b) := by
  rw [List.getElem?_zip_eq_some]
  exact ⟨h, g⟩
/-- a key that is a text is the value -/
theorem key_str {K : PySem.W.Frag} {H : Hp} {x : V} {k : NK} (h : KeyV K H x k) (g : qS k.data = true) : ∃ z, x = .str z ∧ k.data = .str z := by
  cases h with
  | int i => cases g
  | str z => exact ⟨z, rfl, rfl⟩
  | tup _ _ => simp only [NestedKey.data] at g; cases g
/-- a couple's key is a tracked tuple -/
theorem key_cpl {K : PySem.W.Frag} {H : Hp} {x : V} {k : NK} (h : KeyV K H x k) (g : cplD k.data = true) : ∃ p a b, x = .ref p ∧ H p = some (.tup [.str a, .str b]) ∧ k.data = .tuple [.str a, .str b] := by
  cases h with
  | int i => cases g
  | str z => cases g
  | @tup p xs ks h1 h2 =>
    simp only [NestedKey.data] at g ⊢
    cases h2 with
    | nil => simp only [NestedKey.datas] at g; cases g
    | @cons x1 k1 xs1 ks1 g1 t1 =>
      cases t1 with
      | nil => simp only [NestedKey.datas] at g; cases g
      | @cons x2 k2 xs2 ks2 g2 t2 =>
        cases t2 with
        | nil =>
          simp only [NestedKey.datas] at g ⊢
          have g' : (qS k1.data && qS k2.data) = true := g
          rw [Bool.and_eq_true] at g'
          obtain ⟨a, rfl, ea⟩ := key_str g1 g'.1
          obtain ⟨b, rfl, eb⟩ := key_str g2 g'.2
          exact ⟨p, a, b, rfl, h1, by rw [ea, eb]⟩
        | cons _ _ => simp only [NestedKey.datas] at g; cases g
theorem dcT_tup {K : PySem.W.Frag} {a : Addr} {xs : List V} {g : TG} {tk tv : TE} {vs : List Nat} {σ : L2.St} {H1 : Hp} {D : Addr} {Qd : Hp → Prop} (Pv : Nat → Hp → Prop) (h0 : Pv 0 (upd H1 D (.dT []))) (hl : ∀ i G, i ≤ xs.length → Pv i G → SqT K G a xs)
    (hs : ∀ i x G, xs[i]? = some x → Pv i G → g x (wipe σ vs) G fun σ2 G2 => wipe σ2 vs = wipe σ vs ∧ tk σ2 G2 fun y G4 => tv σ2 G4 fun z G5 => ∃ kvs k b, y = .ref b ∧ G5 b = some (.tup (k.map kV)) ∧ G5 D = some (.dT kvs) ∧ kvs.length < sizeLine ∧ Pv (i + 1) (upd G5 D (.dT (putK kvs k z))))
    (hd : ∀ G, Pv xs.length G → Qd G) :
    ∃ W : Nat → Nat → Hp → Prop, (∃ m, W 0 m (upd H1 D (.dT []))) ∧ ∀ i m G, W i m G → ((Itt K a).stop i G ∧ Qd G) ∨ ((Itt K a).go i G ∧ ∃ Nx : Hp → Prop, (∀ G', Nx G' → ∃ m', m' < m ∧ W (i + 1) m' G') ∧ ∀ x G', (Itt K a).yld i G x G' → g x (wipe σ vs) G' fun σ2 G2 => wipe σ2 vs = wipe σ vs ∧ tYes σ2 G2 fun o G3 =>
      if o = true then tk σ2 G3 fun y G4 => tv σ2 G4 fun z G5 => ∃ kvs k b, y = .ref b ∧ G5 b = some (.tup (k.map kV)) ∧ G5 D = some (.dT kvs) ∧ kvs.length < sizeLine ∧ Nx (upd G5 D (.dT (putK kvs k z))) else Nx G3) := by
  refine ⟨fun i m G => m = xs.length - i ∧ i ≤ xs.length ∧ Pv i G, ⟨_, rfl, Nat.zero_le _, h0⟩, fun i m G w0 => ?_⟩
  obtain ⟨rfl, hi, p⟩ := w0
  have st := hl i G hi p
  rcases Nat.lt_or_ge i xs.length with lt | ge
  · refine .inr ⟨⟨xs, xs[i], st, by simp [lt]⟩, Pv (i + 1), fun G' p' => ⟨_, Nat.sub_lt_sub_left lt (Nat.lt_succ_self i), rfl, lt, p'⟩, fun x G' y => ?_⟩
    obtain ⟨rfl, y⟩ := y
    exact hs i x _ (y xs st) p
  · cases Nat.le_antisymm hi ge
    exact .inl ⟨⟨xs, st, Nat.le_refl _⟩, hd G p⟩
section
variable {P : Program} {w : World} {K : PySem.W.Frag} {mg : Str → Option Value} {base : Heap}
theorem scAm : FnScope ["yard", "thing", "names", "car", "name", "amount"] ["yard", "thing"] (defScope sIsAmounts) := ⟨rfl, rfl, rfl, by decide +kernel, rfl, by decide +kernel, by decide +kernel⟩
theorem ok_isAmounts {f fP : Addr} {fd dP : FuncData} (F : Fun K "is_amounts" "is_amounts" sIsAmounts f fd) (T : Nat0 mg) (GP : FnOk P w K mg base CX0 2 fP dP ["thing"] (spTells K isPos)) (FP : Fun K "is_positive" "is_positive" sIsPositive fP dP) (mP : mg "is_positive" = some (.ref fP)) (bP : Binds K dP ["thing"] []) :
    FnOk P w K mg base CX0 3 f fd ["yard", "thing"] (spYT w K fun cs rs d => amtD (rs.map (·.1)) d) := by
  refine F.ok scAm (fun as H Q E h => ?_) (fun cdv A outer s H as Q E hr h => ?_)
  · obtain ⟨y, x, cs, rs, most, d, rfl, _⟩ := h
    rfl
  · obtain ⟨y, x, cs, rs, most, d, rfl, hV, hY, D, bd, k⟩ := h
    refine ⟨_, pss_cons (ps_if (pt_not (pt_val (pe_callB (call_isD kit_D) (by rfl) T.isi (by decide +kernel) (pa_cons (pv 1) (pa_cons (pe_bltn (v := .ty "dict") (by rfl) T.dict (by decide +kernel) rfl) pa_nil))))) (pss_one (ps_ret pe_bl)) pss_nil)
      (pss_cons (ps_set (i := 2) scAm.nd rfl (.inr rfl) (pe_lc (own := [("car", 3)]) (g := gName 3) (tt := tYes) (te := tOp (rIxT K) (tVar 3) (tC (V.int 0))) rfl scAm.nd (pi_tup (pe_ix ix_tup (pv 0) pe_int (fun _ _ => rfl))) (blkOk_by (N := ["yard", "thing", "names", "car", "name", "amount"]) (sc := defScope sIsAmounts) (by decide +kernel))
        (fun _ _ _ _ _ => pg_name (i := 3) scAm.nd rfl (Or.inl rfl)) (fun _ _ _ _ _ => pts_nil) (fun _ _ _ _ _ => by exact pe_ix ix_tup (pv 3) pe_int (fun _ _ => rfl))))
      (pss_one (ps_ret (pe_callB (cr_all rfl) (by rfl) T.all (by decide +kernel) (pa_cons (pe_lc (own := [("name", 4), ("amount", 5)]) (g := gTup K 2 (gCons (gName 4) (gCons (gName 5) gNil))) (tt := tYes)
        (te := tAndV (tCB (rIsD K "str" qS) (tCons (tVar 4) (tCons (tC (.ty "str")) tNil))) (tAndV (tOp (rIn K false) (tVar 4) (tVar 2)) (tCall (spTells K isPos) _ _ (tCons (tVar 5) tNil)))) rfl scAm.nd (pi_itemsN (pv 1)) (blkOk_by (N := ["yard", "thing", "names", "car", "name", "amount"]) (sc := defScope sIsAmounts) (by decide +kernel))
        (fun _ _ _ _ _ => pg_tup rfl (pgs_cons (pg_name (i := 4) scAm.nd rfl (Or.inl rfl)) (pgs_cons (pg_name (i := 5) scAm.nd rfl (Or.inl rfl)) pgs_nil))) (fun _ _ _ _ _ => pts_nil)
        (fun _ _ _ _ _ => by exact pe_and (pe_callB (call_isD kit_S) (by rfl) T.isi (by decide +kernel) (pa_cons (pv 4) (pa_cons (pe_bltn (v := .ty "str") (by rfl) T.str (by decide +kernel) rfl) pa_nil))) (pe_and (pe_cmpR op_in_seq (pv 4) (pv 2) (by rfl)) (pe_one (pe_call GP hr rfl mP FP.kp bP .nil pass0 (pa_cons (pv 5) pa_nil)))))) pa_nil))))), ?_⟩
    have hl := hY.le.2.1
    refine ⟨_, rfl, x, d, rfl, D.1, qD d, rfl, ?_⟩
    refine ite2 (fun h => ?_) (fun h => ?_)
    · have e : amtD (rs.map (·.1)) d = false := by cases d <;> first | rfl | exact absurd h Bool.false_ne_true
      have k1 : Q (.bl (amtD (rs.map (·.1)) d)) H := k H (Same.refl H)
      rw [e] at k1
      exact k1
    obtain ⟨m, rfl⟩ := dic_of (by simpa using h)
    obtain ⟨a, kvs, ds, rfl, dx, _, vals, rfl⟩ := D.2 m rfl
    obtain ⟨ty, ya, yb, xs, zs, rfl, v1, v2, v3, v4, v5⟩ := hV
    have lz : zs.length = rs.length := paired_len v5
    refine ⟨_, rfl, ty, _, 1, .ref yb, rfl, rfl, v1, at1, yb, rfl, ⟨_, v3⟩, fun D1 hD => ?_⟩
    refine lc_tup (K := K) (a := yb) (xs := zs) (fun i H' => H' D1 = some (.lst (txs ((rs.take i).map (·.1)))) ∧ Same H H') ?_ ?_ ?_ ?_
    · exact ⟨by rw [List.take_zero, upd_same]; rfl, same_new (Same.refl H) hD⟩
    · rintro i H' hi ⟨_, sm⟩
      exact sqt_more sm v3
    · rintro i x H' hx ⟨g1, g2⟩
      obtain ⟨c, hc, t', rfl, hq⟩ := paired_at v5 hx
      have hi' : i < rs.length := (List.getElem?_eq_some_iff.mp hc).1
      refine ⟨rfl, _, rfl, t', _, 0, _, rfl, rfl, sqt_more g2 hq, at0, _, g1, ?_, ?_, same_put g2 hD⟩
      · unfold txs
        rw [List.length_map, List.length_map, List.length_take]
        exact small1000 (by omega)
      · rw [upd_same, List.take_succ, hc]
        unfold txs
        simp
    rintro H1 ⟨a1, m1⟩
    rw [lz, List.take_length] at a1
    have dx1 := dx.more m1
    have vals1 := vals.more m1
    obtain ⟨o, o1, o2, o3, o4⟩ := id dx1
    have lk : kvs.length = ds.length := by have := vals.len; rw [List.length_map] at this; exact this
    have lb : ds.length ≤ 1000 := by
      simp only [Bd] at bd
      rw [List.length_zip, List.length_map] at bd
      omega
    let f : PyData × PyData → Bool := fun p => inN (rs.map (·.1)) p.1 && isPos p.2
    refine ⟨_, rfl, a, o, kvs, rfl, o1, o2, o3, fun D2 hD2 => ?_⟩
    refine lc_it walk_itemsN (fun i H' => H' D2 = some (.lst (((((kvs.map fun p => p.1.data).zip ds).take i).map f).map V.bl)) ∧ Same H1 H') ?_ ?_ ?_ ?_
    · exact ⟨by rw [List.take_zero, upd_same]; rfl, same_new (Same.refl H1) hD2⟩
    · rintro i H' _ ⟨_, M⟩
      exact M _ _ o1
    · rintro i u H' H'' hi ⟨q1, M⟩ ⟨T', kv, hkv, rfl, fT, rfl⟩
      have hv : (kvs.map (·.2.2))[i]? = some kv.2.2 := by rw [List.getElem?_map, hkv]; rfl
      obtain ⟨dv, hdv, Dv⟩ := datA_at vals1 hv
      obtain ⟨hK, _⟩ := o4 kv (List.mem_of_getElem? hkv)
      have hz : ((kvs.map fun p => p.1.data).zip ds)[i]? = some (kv.1.data, dv) := zip_at (by rw [List.getElem?_map, hkv]; rfl) hdv
      have M2 := same_new (o := .tup [kv.2.1, kv.2.2]) M fT
      have e2 := s3u (o := .tup [kv.2.1, kv.2.2]) fT q1
      have et : upd H' T' (.tup [kv.2.1, kv.2.2]) T' = some (.tup [kv.2.1, kv.2.2]) := upd_same
      generalize upd H' T' (.tup [kv.2.1, kv.2.2]) = H2 at M2 e2 et ⊢
      have fin : ∀ c, c = f (kv.1.data, dv) → ∃ acc, H2 D2 = some (.lst acc) ∧ acc.length < sizeLine ∧ (upd H2 D2 (.lst (acc ++ [V.bl c])) D2 = some (.lst (((((kvs.map fun p => p.1.data).zip ds).take (i + 1)).map f).map V.bl)) ∧ Same H1 (upd H2 D2 (.lst (acc ++ [V.bl c])))) := fun c ec => by
        refine ⟨_, e2, ?_, ?_, same_put M2 hD2⟩
        · rw [List.length_map, List.length_map, List.length_take, List.length_zip, List.length_map]
          exact small1000 (by omega)
        · rw [upd_same, List.take_succ, hz, ec]
          simp
      refine ⟨T', _, rfl, SqT.of et, rfl, _, _, rfl, _, _, rfl, rfl, rfl, _, rfl, kv.2.1, kv.1.data, rfl, key_dat (hK.more M2), qS kv.1.data, rfl, ?_⟩
      refine ite2 (fun g => ?_) (fun g => ?_)
      · obtain ⟨z, ez, ed⟩ := key_str hK g
        rw [ez]
        refine ⟨_, rfl, _, rfl, D1, txs (rs.map (·.1)), rfl, .inl (SqL.of (M2 _ _ a1)), rfl, flat_txs _, _, rfl, ?_⟩
        rw [show (if false = true then !inV (V.str z) (txs (rs.map (·.1))) else inV (V.str z) (txs (rs.map (·.1)))) = inV (V.str z) (txs (rs.map (·.1))) from rfl, inV_txs]
        have ef : f (kv.1.data, dv) = (decide (z ∈ rs.map (·.1)) && isPos dv) := by
          show (inN _ kv.1.data && isPos dv) = _
          rw [ed]
          rfl
        refine ite2 (fun g2 => ?_) (fun g2 => ?_)
        · refine ⟨_, rfl, kv.2.2, dv, rfl, Dv.more M2, ?_⟩
          exact fin _ (by rw [ef, g2]; rfl)
        · exact fin false (by rw [ef, Bool.eq_false_iff.mpr g2]; rfl)
      · refine fin false ?_
        show false = (inN _ kv.1.data && isPos dv)
        have : inN (rs.map (·.1)) kv.1.data = false := by
          generalize kv.1.data = d0 at g ⊢
          cases d0 <;> first | rfl | exact absurd rfl g
        rw [this]
        rfl
    rintro H2 ⟨q1, M2⟩
    rw [List.take_of_length_le (by rw [List.length_zip, List.length_map]; omega)] at q1
    refine ⟨D2, _, rfl, SqL.of q1, ?_⟩
    have e : ((((kvs.map fun p => p.1.data).zip ds).map f).all id) = amtD (rs.map (·.1)) (.dict ((kvs.map fun p => p.1.data).zip ds)) := by
      rw [List.all_map]
      rfl
    rw [e]
    exact k H2 (m1.trans M2)
theorem scFl : FnScope ["yard", "thing", "couples", "start", "end", "cap", "ends", "much"] ["yard", "thing"] (defScope sIsFlow) := ⟨rfl, rfl, rfl, by decide +kernel, rfl, by decide +kernel, by decide +kernel⟩
theorem ok_isFlow {f fP fC : Addr} {fd dP dC : FuncData} (F : Fun K "is_flow" "is_flow" sIsFlow f fd) (T : Nat0 mg) (GP : FnOk P w K mg base CX0 2 fP dP ["thing"] (spTells K isPos)) (FP : Fun K "is_positive" "is_positive" sIsPositive fP dP) (mP : mg "is_positive" = some (.ref fP)) (bP : Binds K dP ["thing"] [])
    (GC : FnOk P w K mg base CX0 2 fC dC ["thing"] (spTells K cplD)) (FC : Fun K "_is_couple" "_is_couple" sIsCouple fC dC) (mC : mg "_is_couple" = some (.ref fC)) (bC : Binds K dC ["thing"] []) : FnOk P w K mg base CX0 3 f fd ["yard", "thing"] (spYT w K fun cs rs d => flowD (cs.map ckey) d) := by
  refine F.ok scFl (fun as H Q E h => ?_) (fun cdv A outer s H as Q E hr h => ?_)
  · obtain ⟨y, x, cs, rs, most, d, rfl, _⟩ := h
    rfl
  · obtain ⟨y, x, cs, rs, most, d, rfl, hV, hY, D, bd, k⟩ := h
    have hu := hu_of hr
    refine ⟨_, pss_cons (ps_if (pt_not (pt_val (pe_callB (call_isD kit_D) (by rfl) T.isi (by decide +kernel) (pa_cons (pv 1) (pa_cons (pe_bltn (v := .ty "dict") (by rfl) T.dict (by decide +kernel) rfl) pa_nil))))) (pss_one (ps_ret pe_bl)) pss_nil)
      (pss_cons (ps_set (i := 2) scFl.nd rfl (.inr rfl) (pe_dcT (own := [("start", 3), ("end", 4), ("cap", 5)]) (g := gTup K 3 (gCons (gName 3) (gCons (gName 4) (gCons (gName 5) gNil)))) (tt := tYes) (Nat.lt_of_succ_lt hu) rfl scFl.nd (pi_tup (pe_ix ix_tup (pv 0) pe_int (fun _ _ => rfl)))
          (blkOk_by (N := ["yard", "thing", "couples", "start", "end", "cap", "ends", "much"]) (sc := defScope sIsFlow) (by decide +kernel)) (fun _ _ _ _ _ => pg_tup rfl (pgs_cons (pg_name (i := 3) scFl.nd rfl (Or.inl rfl)) (pgs_cons (pg_name (i := 4) scFl.nd rfl (Or.inl rfl)) (pgs_cons (pg_name (i := 5) scFl.nd rfl (Or.inl rfl)) pgs_nil)))) (fun _ _ _ _ _ => pts_nil)
          (fun _ _ _ _ _ => pe_tup (pa_cons (pv 3) (pa_cons (pv 4) pa_nil))) (fun _ _ _ _ _ => pe_bl)))
      (pss_one (ps_ret (pe_callB (cr_all rfl) (by rfl) T.all (by decide +kernel) (pa_cons (pe_lc (own := [("ends", 6), ("much", 7)]) (g := gTup K 2 (gCons (gName 6) (gCons (gName 7) gNil))) (tt := tYes)
        (te := tAndV (tCall (spTells K cplD) _ _ (tCons (tVar 6) tNil)) (tAndV (tDIn (tVar 6) (tVar 2)) (tCall (spTells K isPos) _ _ (tCons (tVar 7) tNil)))) rfl scFl.nd (pi_itemsN (pv 1)) (blkOk_by (N := ["yard", "thing", "couples", "start", "end", "cap", "ends", "much"]) (sc := defScope sIsFlow) (by decide +kernel))
        (fun _ _ _ _ _ => pg_tup rfl (pgs_cons (pg_name (i := 6) scFl.nd rfl (Or.inl rfl)) (pgs_cons (pg_name (i := 7) scFl.nd rfl (Or.inl rfl)) pgs_nil))) (fun _ _ _ _ _ => pts_nil)
        (fun _ _ _ _ _ => by exact pe_and (pe_call GC hr rfl mC FC.kp bC .nil pass0 (pa_cons (pv 6) pa_nil)) (pe_and (pe_cmp (pc_din hu (pv 6) (pv 2)) (by rfl)) (pe_one (pe_call GP hr rfl mP FP.kp bP .nil pass0 (pa_cons (pv 7) pa_nil)))))) pa_nil))))), ?_⟩
    obtain ⟨lc, _, nk⟩ := hY.le
    refine ⟨_, rfl, x, d, rfl, D.1, qD d, rfl, ?_⟩
    refine ite2 (fun h => ?_) (fun h => ?_)
    · have e : flowD (cs.map ckey) d = false := by cases d <;> first | rfl | exact absurd h Bool.false_ne_true
      have k1 : Q (.bl (flowD (cs.map ckey) d)) H := k H (Same.refl H)
      rw [e] at k1
      exact k1
    obtain ⟨m, rfl⟩ := dic_of (by simpa using h)
    obtain ⟨a, kvs, ds, rfl, dx, _, vals, rfl⟩ := D.2 m rfl
    obtain ⟨ty, ya, yb, xs, zs, rfl, v1, v2, v3, v4, v5⟩ := hV
    have lx : xs.length = cs.length := paired_len v4
    refine ⟨_, rfl, ty, _, 0, .ref ya, rfl, rfl, v1, at0, ya, rfl, ⟨_, v2⟩, fun D1 hD => ?_⟩
    refine dcT_tup (fun i G => ∃ m : List (List Key × V), G D1 = some (.dT m) ∧ m.length ≤ i ∧ (∀ q : Str × Str, (valV m (pK q)).isSome = decide (q ∈ (cs.take i).map ckey)) ∧ Same H G) ⟨[], upd_same, Nat.le_refl _, fun q => by rw [List.take_zero]; rfl, same_new (Same.refl H) hD⟩ (fun i G _ p => by obtain ⟨_, _, _, _, M⟩ := p; exact sqt_more M v2) ?_ ?_
    · rintro i x G hx ⟨m, g1, gl, gm, g2⟩
      obtain ⟨c, hc, t', rfl, hq⟩ := paired_at v4 hx
      have hi : i < cs.length := (List.getElem?_eq_some_iff.mp hc).1
      refine ⟨t', _, rfl, sqt_more g2 hq, rfl, _, _, rfl, _, _, rfl, _, _, rfl, rfl, ?_⟩
      refine ⟨rfl, _, rfl, _, rfl, by show 2 ≤ sizeLine; decide, fun u hu' => ⟨m, pK (ckey c), u, rfl, upd_same, s3u hu' g1, small1000 (by omega), putK m (pK (ckey c)) (.bl true), upd_same, ?_, fun q => ?_, same_put (same_new g2 hu') hD⟩⟩
      · have := length_putK m (pK (ckey c)) (.bl true)
        omega
      · rw [valV_put, List.take_succ, hc]
        by_cases e : q = ckey c
        · rw [if_pos (by rw [e]), decide_eq_true (by rw [e]; simp)]
          rfl
        · rw [if_neg (fun z => e (pK_inj z)), gm]
          by_cases e2 : q ∈ (cs.take i).map ckey
          · rw [decide_eq_true e2, decide_eq_true (by rw [List.map_append]; exact List.mem_append_left _ e2)]
          · rw [decide_eq_false e2, decide_eq_false]
            rw [List.map_append]
            intro z
            rcases List.mem_append.mp z with z | z
            · exact e2 z
            · exact e (List.mem_singleton.mp z)
    rintro H1 ⟨cm, a1, _, am, m1⟩
    rw [lx, List.take_length] at am
    have dx1 := dx.more m1
    have vals1 := vals.more m1
    obtain ⟨o, o1, o2, o3, o4⟩ := id dx1
    have lk : kvs.length = ds.length := by have := vals.len; rw [List.length_map] at this; exact this
    have lb : ds.length ≤ 1000 := by
      simp only [Bd] at bd
      rw [List.length_zip, List.length_map] at bd
      omega
    let f : PyData × PyData → Bool := fun p => inC (cs.map ckey) p.1 && isPos p.2
    refine ⟨_, rfl, a, o, kvs, rfl, o1, o2, o3, fun D2 hD2 => ?_⟩
    refine lc_it walk_itemsN (fun i H' => H' D2 = some (.lst (((((kvs.map fun p => p.1.data).zip ds).take i).map f).map V.bl)) ∧ Same H1 H') ?_ ?_ ?_ ?_
    · exact ⟨by rw [List.take_zero, upd_same]; rfl, same_new (Same.refl H1) hD2⟩
    · rintro i H' _ ⟨_, M⟩
      exact M _ _ o1
    · rintro i u H' H'' hi ⟨q1, M⟩ ⟨T', kv, hkv, rfl, fT, rfl⟩
      have hv : (kvs.map (·.2.2))[i]? = some kv.2.2 := by rw [List.getElem?_map, hkv]; rfl
      obtain ⟨dv, hdv, Dv⟩ := datA_at vals1 hv
      obtain ⟨hK, _⟩ := o4 kv (List.mem_of_getElem? hkv)
      have hz : ((kvs.map fun p => p.1.data).zip ds)[i]? = some (kv.1.data, dv) := zip_at (by rw [List.getElem?_map, hkv]; rfl) hdv
      have M2 := same_new (o := .tup [kv.2.1, kv.2.2]) M fT
      have e2 := s3u (o := .tup [kv.2.1, kv.2.2]) fT q1
      have et : upd H' T' (.tup [kv.2.1, kv.2.2]) T' = some (.tup [kv.2.1, kv.2.2]) := upd_same
      generalize upd H' T' (.tup [kv.2.1, kv.2.2]) = H2 at M2 e2 et ⊢
      have fin : ∀ c, c = f (kv.1.data, dv) → ∃ acc, H2 D2 = some (.lst acc) ∧ acc.length < sizeLine ∧ (upd H2 D2 (.lst (acc ++ [V.bl c])) D2 = some (.lst (((((kvs.map fun p => p.1.data).zip ds).take (i + 1)).map f).map V.bl)) ∧ Same H1 (upd H2 D2 (.lst (acc ++ [V.bl c])))) := fun c ec => by
        refine ⟨_, e2, ?_, ?_, same_put M2 hD2⟩
        · rw [List.length_map, List.length_map, List.length_take, List.length_zip, List.length_map]
          exact small1000 (by omega)
        · rw [upd_same, List.take_succ, hz, ec]
          simp
      refine ⟨T', _, rfl, SqT.of et, rfl, _, _, rfl, _, _, rfl, rfl, rfl, _, rfl, kv.2.1, kv.1.data, rfl, key_dat (hK.more M2), cplD kv.1.data, rfl, ?_⟩
      refine ite2 (fun g => ?_) (fun g => ?_)
      · obtain ⟨p, x1, x2, ez, hp, ed⟩ := key_cpl (hK.more M2) g
        rw [ez]
        refine ⟨_, rfl, _, rfl, D1, valV cm (pK (x1, x2)), rfl, .inr ⟨cm, pK (x1, x2), p, .inl (M2 _ _ a1), rfl, hp, rfl⟩, _, rfl, ?_⟩
        rw [am]
        have ef : f (kv.1.data, dv) = (decide ((x1, x2) ∈ cs.map ckey) && isPos dv) := by
          show (inC _ kv.1.data && isPos dv) = _
          rw [ed]
          rfl
        refine ite2 (fun g2 => ?_) (fun g2 => ?_)
        · refine ⟨_, rfl, kv.2.2, dv, rfl, Dv.more M2, ?_⟩
          exact fin _ (by rw [ef, g2]; rfl)
        · exact fin false (by rw [ef, Bool.eq_false_iff.mpr g2]; rfl)
      · refine fin false ?_
        show false = (inC _ kv.1.data && isPos dv)
        have : inC (cs.map ckey) kv.1.data = false := by
          generalize kv.1.data = d0 at g ⊢
          unfold inC
          split
          · exact absurd rfl g
          · rfl
        rw [this]
        rfl
    rintro H2 ⟨q1, M2⟩
    rw [List.take_of_length_le (by rw [List.length_zip, List.length_map]; omega)] at q1
    refine ⟨D2, _, rfl, SqL.of q1, ?_⟩
    have e : ((((kvs.map fun p => p.1.data).zip ds).map f).all id) = flowD (cs.map ckey) (.dict ((kvs.map fun p => p.1.data).zip ds)) := by
      rw [List.all_map]
      rfl
    rw [e]
    exact k H2 (m1.trans M2)
end
end Y

/-! NsZT: set of a tuple of texts. -/
namespace Ns
open PySem PySem.Spec PyProof.Rows L2
open PySem.Froz (SD sObj tailTx addTx TxOk)
section
variable {P : Program} {w : World} {A : Around} {E : Value → Shared → Prop} {s : Shared}
theorem set_fillT {I L S : Addr} {xs : List Str} {items : Array Value} (hh : A.in1.handled = none) (hL : L ≠ I) (hS : S ≠ I) (hSL : S ≠ L) (rel : Vals (xs.map V.str) items.toList) (room : items.size + 1 < scanBound) {R : Result → Shared → Prop} :
    ∀ (k i : Nat) (s : Shared) (l : List Str), items.size - i = k → i ≤ items.size → s.heap.IsTupleIter I L i → s.heap.IsTuple L items → SetX P w s.heap S l → l.length ≤ i → (∀ m, m ∈ l ↔ m ∈ xs.take i) →
      (∀ s' l', (∀ c o, c ≠ S → c ≠ I → s.heap.get? c = some o → s'.heap.get? c = some o) → s'.gens = s.gens → s'.drawn = s.drawn → s'.os = s.os → SetX P w s'.heap S l' → (∀ m, m ∈ l' ↔ m ∈ xs) → R (.ok (.ret .none)) s') →
      codeAny (model P w) A (.builtin "set.update.loop" ⟨[.ref S, .ref I], []⟩) R s := by
  have W := Walks.tuple (prog := P) (w := w) (A := A.in1) hh I L hL items
  have lx : xs.length = items.size := by
    have := rel.length
    rw [List.length_map, Array.length_toList] at this
    exact this
  intro k
  induction k with
  | zero =>
    intro i s l hk hi i1 i2 X hl hm q
    have e : i = items.size := by omega
    rw [e] at hm i1
    refine codeAny_builtin F.entry_set_update_loop ?_
    rw [Around.under_plainId F.plain_set_update_loop _]
    refine wpAny_bind (W.done s _ _ ⟨i1, i2⟩ fun h' tk kp => ?_)
    rw [← lx, List.take_length] at hm
    exact wpAny_pure (q _ l (fun c o _ n2 e => kp c o (by rw [List.mem_singleton]; exact n2) e) rfl rfl rfl (X.keep fun o => kp S o (by rw [List.mem_singleton]; exact hS)) hm)
  | succ k ih =>
    intro i s l hk hi i1 i2 X hl hm q
    have lt : i < items.size := by omega
    refine codeAny_builtin F.entry_set_update_loop ?_
    rw [Around.under_plainId F.plain_set_update_loop _]
    refine wpAny_bind (W.item i s _ _ lt ⟨i1, i2⟩ fun v h' tk hv st kp => ?_)
    obtain ⟨x, hx, rx⟩ : ∃ x, xs[i]? = some x ∧ RelV (.str x) v := by
      have hx : xs[i]? = some xs[i] := List.getElem?_eq_getElem (by omega)
      obtain ⟨u, hu, ru⟩ := rel.get (i := i) (x := .str xs[i]) (by rw [List.getElem?_map, hx]; rfl)
      rw [Array.getElem?_toList] at hu
      rw [hv] at hu
      cases hu
      exact ⟨_, hx, ru⟩
    obtain ⟨t, rfl⟩ := rx
    refine wpAny_bind (wpAny_holding ?_)
    unfold setAdd
    refine wpAny_holding (wpAny_bind ((strKind P w).pyHash (PySem.Froz.is_str x t) ?_))
    have X1 : SetX P w h' S l := X.keep fun o => kp S o (by rw [List.mem_singleton]; exact hS)
    refine setX_add X1 (by omega) fun b h2 l2 X2 m2 n2 k2 => ?_
    have i3 : h2.IsTupleIter I L (i + 1) := st.1.at fun o e => k2 I o (Ne.symm hS) e
    have i4 : h2.IsTuple L items := st.2.at fun o e => k2 L o (Ne.symm hSL) e
    refine wpAny_pure ⟨plainId_quiet F.plain_set_update_loop _, ih (i + 1) _ l2 (by omega) lt i3 i4 X2 (by omega) (fun m => ?_) fun s' l' k3 g1 g2 g3 X3 m3 => ?_⟩
    · rw [m2, hm, List.take_succ, hx, List.mem_append]
      simp
    · exact q s' l' (fun c o c1 c2 e => k3 c o c1 c2 (k2 c o c1 (kp c o (by rw [List.mem_singleton]; exact c2) e))) g1 g2 g3 X3 m3
set_option maxHeartbeats 3200000 in
theorem set_ofT {l : Addr} {items : Array Value} {xs : List Str} {Q : Value → Shared → Prop} (hh : A.handled = none) (hl : s.heap.IsTuple l items) (rel : Vals (xs.map V.str) items.toList) (room : items.size + 1 < scanBound)
    (q : ∀ (h' : Heap) (tk : Nat) (ls : List Str), (∀ c o, s.heap.get? c = some o → h'.get? c = some o) → SetX P w h' s.heap.objs.size ls → (∀ m, m ∈ ls ↔ m ∈ xs) → Q (.ref s.heap.objs.size) { s with heap := h', toks := tk }) :
    wpAny (model P w) A (call (.type "set") [.ref l]) Q E s := by
  obtain ⟨c, tl, hmro⟩ := F.called_set.mro
  have f1 := F.called_set.made
  have f2 := F.called_set.sub
  have f3 := F.called_set.notType
  have f4 := F.called_set.canCreate
  have f5 := F.typeCall_set_1 (.ref l)
  refine wpAny_call (codeAny_of_tree ?_)
  show wpAny _ _ (callAny (.type "set") _) _ _ _
  refine wpAny_pure ⟨Code.quiet_builtin _ (by decide +kernel), codeAny_builtin F.entry_type_call ?_⟩
  rw [Around.under_plain (weight_type_call_type "set" [.ref l] []) rfl]
  repeat (any_goals (first | assumption | wp_step))
  refine codeAny_mono (code_set_led1 (.ref l) (E := E) (Q₁ := fun obj s₁ => obj = .ref s.heap.objs.size ∧ s₁ = { s with heap := s.heap.push (set0 w) }) ⟨rfl, rfl⟩) fun r s₁ hr => ?_
  rcases r with e | fl
  · exact hr
  cases fl with
  | ret obj =>
    obtain ⟨rfl, rfl⟩ := hr
    have at0 : (s.heap.push (set0 w)).get? s.heap.objs.size = some (set0 w) := Heap.get?_push_size _ rfl
    have ty0 : Shared.TypeIs { s with heap := s.heap.push (set0 w) } (.ref s.heap.objs.size) "set" := ⟨_, at0, rfl⟩
    have f6 := F.called_set.init.lookup
    have f7 := F.called_set.init.bind (.ref s.heap.objs.size)
    repeat (any_goals (first | assumption | wp_step))
    refine codeAny_mono (codeAny_call_builtin (R := wants (fun r s₂ => r = .none ∧ ∃ h' tk ls, s₂ = { s with heap := h', toks := tk } ∧ (∀ c o, s.heap.get? c = some o → h'.get? c = some o) ∧ SetX P w h' s.heap.objs.size ls ∧ ∀ m, m ∈ ls ↔ m ∈ xs) E)
      F.called_set.init.plain F.entry_set_init (check_set_init_1 ty0 ?_)) fun r₂ s₂ hr₂ => ?_
    · obtain ⟨⟨ocls, odict, odata, oslots⟩, hol, hcl, nl, hdl⟩ := hl
      simp only at hcl hdl
      subst hcl; subst hdl
      have lS : l < s.heap.objs.size := Heap.lt_size hol
      have hol' : (s.heap.push (set0 w)).get? l = some { cls := .type "tuple", dict := odict, data := .seq items nl, slots := oslots } := Heap.get?_push_of_some _ hol
      have g1 := F.sub_tuple_set
      have g2 := F.sub_tuple_frozenset
      have g3 : (Value.type "tuple" == Value.type "dict") = false := by decide
      have isl : (s.heap.push (set0 w)).IsTuple l items := ⟨_, hol', rfl, nl, rfl⟩
      unfold Builtin.«set.__init__» noKeywords Builtin.Frozenset.updateFrom
      generalize keep : pyIter = PI
      wp_walk
      subst keep
      refine wpAny_pyIter_tuple isl (wpAny_bind (wpAny_runValue ?_))
      have up : (s.heap.push (set0 w)).objs.size = s.heap.objs.size + 1 := size_push' _ _
      refine set_fillT (xs := xs) (by simp [hh]) (by rw [up]; exact Nat.ne_of_lt (Nat.lt_succ_of_lt lS)) (by rw [up]; exact Nat.ne_of_lt (Nat.lt_succ_self _)) (Nat.ne_of_gt lS) rel room items.size 0 _ [] (Nat.sub_zero _) (Nat.zero_le _) ⟨_, Heap.get?_push_size _ rfl, rfl, rfl⟩ (isl.push _)
        (setX_new (Heap.get?_push_of_some _ at0)) (Nat.le_refl _) (fun m => by rw [List.take_zero]) fun s' ls kp e1 e2 e3 X m => ?_
      obtain ⟨h', g', d', tk', os'⟩ := s'
      cases e1
      cases e2
      cases e3
      refine wpAny_pure (wpAny_pure ⟨rfl, h', tk', ls, rfl, fun c o e => ?_, X, m⟩)
      have cl : c < s.heap.objs.size := Heap.lt_size e
      exact kp c o (Nat.ne_of_lt cl) (by rw [up]; exact Nat.ne_of_lt (Nat.lt_succ_of_lt cl)) (Heap.get?_push_of_some _ (Heap.get?_push_of_some _ e))
    · rcases r₂ with e | fl₂
      · exact hr₂
      cases fl₂ with
      | ret r =>
        obtain ⟨rfl, h', tk, ls, rfl, kp, X, m⟩ := hr₂
        repeat (any_goals (first | assumption | wp_step))
        exact q h' tk ls kp X m
      | _ => exact hr₂.elim
  | _ => exact hr.elim
end
section
variable {X : Cx}
def rSetTxT (K : PySem.W.Frag) (P : Program) (w : World) : List V → Hp → VK → Prop := fun xs H Q => ∃ (a : Addr) (ts : List Str), xs = [.ref a] ∧ SqT K H a (ts.map V.str) ∧ ts.length ≤ 1000 ∧ ∀ (p : Addr) (ls : List Str), H p = none → (∀ m, m ∈ ls ↔ m ∈ ts) → Q (.ref p) (upd H p (SetS P w p ls))
theorem call_setTxT (hc : X.calm = true) : CallR X (.type "set") (rSetTxT X.K X.prog X.w) := by
  intro pins s σ H xs us Q I r h
  obtain ⟨a, ts, rfl, hs, hz, q⟩ := h
  obtain ⟨its, rv, hl, _⟩ := I.tuple hs
  rw [Vals.ref1 r]
  have il : its.length = ts.length := by rw [← rv.length, List.length_map]
  refine set_ofT (xs := ts) (I.ok.hd hc) (show s.heap.IsTuple a its.toArray from hl) (by simpa using rv) (by rw [List.size_toArray, il]; exact Nat.lt_of_le_of_lt (show ts.length + 1 ≤ 1001 by omega) (by decide)) fun h' tk ls kp XX m => ?_
  exact ⟨.ref s.heap.objs.size, upd H s.heap.objs.size (SetS X.prog X.w s.heap.objs.size ls), I.laid (t' := tk) kp (Nat.le_refl _) (setS_ok XX), rfl, q _ ls (I.hok.fresh (Nat.le_refl _)) m⟩
/-- xs != [], any list -/
def rNeE0 (K : PySem.W.Frag) : R2 := fun x y H Q => ∃ (a b : Addr) (xs : List V), x = .ref a ∧ y = .ref b ∧ SqL K H a xs ∧ SqL K H b [] ∧ Q (.bl (!decide (xs = []))) H
theorem op_neE0 {X : Cx} (hu : X.A.units + 64 < cLine) : OpR X (compareOp .NotEq) (rNeE0 X.K) := by
  intro pins s σ H x y v u Q I rx ry h
  obtain ⟨a, b, xs, rfl, rfl, ha, hb, q⟩ := h
  cases (show v = Value.ref a from rx)
  cases (show u = Value.ref b from ry)
  obtain ⟨us, r1, p1, _⟩ := I.list ha
  obtain ⟨ws, r2, p2, _⟩ := I.list hb
  have z : ws = [] := by cases r2; rfl
  subst z
  have l1 := r1.length
  cases xs with
  | nil =>
    cases us with
    | nil =>
      refine SeqAt.RcNeAt.lists (e := fun _ => true) p1.isList p2.isList rfl (by omega) (fun j h1 _ => absurd h1 (Nat.not_lt_zero j)) _ _ _ _ ?_
      exact ⟨.bl false, H, I, rfl, q⟩
    | cons _ _ => cases l1
  | cons x xs =>
    cases us with
    | nil => cases l1
    | cons u us =>
      refine SeqAt.RcNeAt.lists_lengths p1.isList p2.isList (by simp) (by omega) _ _ _ _ ?_
      exact ⟨.bl true, H, I, rfl, q⟩
end
end Ns

/-! ML1: the law's own reading of lots. -/
namespace Ns
open PySem PySem.Spec PyProof.Rows L2
/-- x == y, x not in l, of data without dicts -/
def rEqDat (K : PySem.W.Frag) : R2 := fun x y H Q => ∃ dx dy, DatV K H x dx ∧ DatV K H y dy ∧ SeqAt.shaped dx = true ∧ SeqAt.shaped dy = true ∧ Q (.bl (PyData.eqv dx dy)) H
theorem op_eqDat {X : Cx} (hu : X.A.units + 64 < cLine) : OpR X (compareOp .Eq) (rEqDat X.K) := by
  intro pins s σ H x y v u Q I rx ry h
  obtain ⟨dx, dy, h1, h2, s1, s2, q⟩ := h
  obtain ⟨as, r1⟩ := reads_of I h1 rx
  obtain ⟨bs, r2⟩ := reads_of I h2 ry
  exact SeqAt.compareEq_shaped r1 r2 s1 s2 hu ⟨.bl _, H, I, rfl, q⟩
def rNotInDat (K : PySem.W.Frag) : R2 := fun x y H Q => ∃ d ds, DatV K H x d ∧ DatV K H y (.list ds) ∧ SeqAt.shaped d = true ∧ SeqAt.shaped (.list ds) = true ∧ Q (.bl (!ds.any fun z => PyData.eqv z d)) H
theorem op_notInDat {X : Cx} (hu : X.A.units + 65 < cLine) : OpR X (compareOp .NotIn) (rNotInDat X.K) := by
  intro pins s σ H x y v u Q I rx ry h
  obtain ⟨d, ds, hd, he, sd, se, q⟩ := h
  obtain ⟨as, r1⟩ := reads_of I hd rx
  obtain ⟨bs, r2⟩ := reads_of I he ry
  exact SeqAt.notIn_list_reads r2 r1 (SeqAt.canLay_of_shaped se) (SeqAt.canLay_of_shaped sd) (room_in_shaped sd hu) ⟨.bl _, H, I, rfl, q⟩
end Ns
namespace Y
open PySem PySem.Spec PyProof.Rows L2 Ns Mx
open PySem.W (dataLe dataLt alike)
theorem rises_cons (x y : Str) (r : List Str) : risesD ((x :: y :: r).map .str) = (decide (x.cps.toList < y.cps.toList) && risesD ((y :: r).map .str)) := by
  show ((dataLt (.str x) (.str y)) && _) = _
  rw [PySem.W.dataLt_str]
  rfl
theorem rises_sorted : ∀ {zs : List Str}, risesD (zs.map .str) = true → sortedS zs = true ∧ zs.Nodup
  | [], _ => ⟨rfl, List.nodup_nil⟩
  | [x], _ => ⟨rfl, by simp⟩
  | x :: y :: r, h => by
    rw [rises_cons, Bool.and_eq_true] at h
    obtain ⟨h1, h2⟩ := rises_sorted h.2
    have lt : x.cps.toList < y.cps.toList := of_decide_eq_true h.1
    have nlt : ¬ y.cps.toList < x.cps.toList := fun g => List.lt_irrefl _ (List.lt_trans lt g)
    refine ⟨?_, List.nodup_cons.mpr ⟨fun hm => ?_, h2⟩⟩
    · show risingS x (y :: r) = true
      unfold risingS
      rw [Bool.and_eq_true, ltCps_eq]
      exact ⟨by simpa using nlt, h1⟩
    · rcases List.mem_cons.mp hm with e | e
      · rw [e] at lt; exact List.lt_irrefl _ lt
      · exact rising_all h1 x e lt
theorem sorted_rises : ∀ {zs : List Str}, sortedS zs = true → zs.Nodup → risesD (zs.map .str) = true
  | [], _, _ => rfl
  | [x], _, _ => rfl
  | x :: y :: r, h, n => by
    rw [rises_cons, Bool.and_eq_true]
    obtain ⟨n1, n2⟩ := List.nodup_cons.mp n
    refine ⟨?_, sorted_rises (rising_tail h) n2⟩
    have h' : risingS x (y :: r) = true := h
    unfold risingS at h'
    rw [Bool.and_eq_true, ltCps_eq] at h'
    have h1 : ¬ y.cps.toList < x.cps.toList := by simpa using h'.1
    by_cases e : x.cps.toList < y.cps.toList
    · exact decide_eq_true e
    · rw [List.not_lt] at h1 e
      exact absurd (str_ext (List.le_antisymm h1 e)) (fun z => n1 (by rw [z]; exact List.mem_cons_self))
theorem lot_law {zs ys : List Str} (h1 : sortedS ys = true) (h2 : ys.Nodup) (h3 : ∀ m, m ∈ ys ↔ m ∈ zs) : decide (zs = ys) = risesD (zs.map .str) := by
  by_cases h : risesD (zs.map .str) = true
  · obtain ⟨g1, g2⟩ := rises_sorted h
    rw [h]
    exact decide_eq_true (sorted_one g1 h1 (perm_of_mem g2 h2 fun s => (h3 s).symm))
  · rw [Bool.eq_false_iff.mpr h]
    refine decide_eq_false fun e => h ?_
    rw [e]
    exact sorted_rises h1 h2
theorem eqv_strs : ∀ (zs ys : List Str), PyData.eqvAll (zs.map .str) (ys.map .str) = decide (zs = ys)
  | [], [] => rfl
  | [], y :: ys => by simp [PyData.eqvAll]
  | z :: zs, [] => by simp [PyData.eqvAll]
  | z :: zs, y :: ys => by
    rw [List.map_cons, List.map_cons, PyData.eqvAll, eqv_strs zs ys, PyData.eqv]
    by_cases e : z = y
    · subst e; simp
    · simp [e]
theorem strs_shaped {zs : List Str} (h : ∀ z ∈ zs, Cd z) : SeqAt.shaped (.list (zs.map .str)) = true := by
  have c : ∀ {zs : List Str}, (∀ z ∈ zs, Cd z) → PyData.canLayAll0 (zs.map .str) = true := fun {zs} h => by
    induction zs with
    | nil => simp [PyData.canLayAll0]
    | cons z zs ih =>
      have ok : PyData.strOk z = true := by
        unfold PyData.strOk
        rw [← Array.all_toList, List.all_eq_true]
        exact fun c hc => decide_eq_true (Nat.lt_trans (h z List.mem_cons_self c hc) (by decide))
      simp [PyData.canLayAll0, PyData.canLay0, ok, ih fun y hy => h y (List.mem_cons_of_mem _ hy)]
  have d : PyData.depthAll (zs.map .str) ≤ 0 := depthAll_le fun d hd => by
    obtain ⟨z, _, rfl⟩ := List.mem_map.mp hd
    simp [PyData.depth]
  unfold SeqAt.shaped
  rw [Bool.and_eq_true]
  refine ⟨by simp [PyData.canLay0, c h], decide_eq_true ?_⟩
  simp only [PyData.depth]
  omega
theorem dat_xs {K : PySem.W.Frag} {H : Hp} : ∀ {xs : List V} {zs : List Str}, DatA K H xs (zs.map .str) → xs = txs zs
  | [], [], _ => rfl
  | _ :: _, z :: zs, .cons h t => by
    cases h
    show V.str z :: _ = V.str z :: txs zs
    rw [dat_xs t]
theorem datA_strs {K : PySem.W.Frag} {H : Hp} : ∀ zs : List Str, DatA K H (txs zs) (zs.map .str)
  | [] => .nil
  | z :: zs => .cons (.str z) (datA_strs zs)
section
variable {P : Program} {w : World} {K : PySem.W.Frag} {mg : Str → Option Value} {base : Heap}
theorem scLL : FnScope ["names", "thing", "one"] ["names", "thing"] (defScope sLIsLotOf) := ⟨rfl, rfl, rfl, by decide +kernel, rfl, by decide +kernel, by decide +kernel⟩
def spLotS (K : PySem.W.Frag) : Sp := fun as H Q _ => ∃ (l : Addr) (names : List Str) (x : V) (d : PyData), as = [.ref l, x] ∧ SqL K H l (txs names) ∧ names.length ≤ 60 ∧ (∀ z ∈ names, Cd z) ∧ DatV K H x d ∧ Bd 1000 d ∧ ∀ H', Same H H' → Q (.bl (lotD names d)) H'
theorem ok_lLotOf {f : Addr} {fd : FuncData} (F : Fun K "_law_is_lot_of" "_law_is_lot_of" sLIsLotOf f fd) (T : Nat0 mg) : FnOk P w K mg base CX0 1 f fd ["names", "thing"] (spLotS K) := by
  refine F.ok scLL (fun as H Q E h => ?_) (fun cdv A outer s H as Q E hr h => ?_)
  · obtain ⟨l, names, x, d, rfl, _⟩ := h
    rfl
  · obtain ⟨l, names, x, d, rfl, hL, hn, hc, D, bd, k⟩ := h
    have hun := hr.units
    refine ⟨_, pss_cons (ps_if (PW.pt (pw_or (pt_not (pt_val (pe_callB (call_isD kit_T) (by rfl) T.isi (by decide +kernel) (pa_cons (pv 1) (pa_cons (pe_bltn (v := .ty "tuple") (by rfl) T.tuple (by decide +kernel) rfl) pa_nil)))))
        (pw_or1 (pt_cmpR (op_neE0 hun) (pe_lc (own := [("one", 2)]) (g := gName 2) (tt := tOr (tNot (tB (tCB (rIsD K "str" qS) (tCons (tVar 2) (tCons (tC (.ty "str")) tNil))))) (tTest (tOp (rIn K true) (tVar 2) (tVar 0)))) rfl scLL.nd (pi_tup (pv 1)) (blkOk_by (N := ["names", "thing", "one"]) (sc := defScope sLIsLotOf) (by decide +kernel))
          (fun _ _ _ _ _ => pg_name (i := 2) scLL.nd rfl (Or.inl rfl)) (fun _ _ _ _ _ => by exact pts_one (PW.pt (pw_or (pt_not (pt_val (pe_callB (call_isD kit_S) (by rfl) T.isi (by decide +kernel) (pa_cons (pv 2) (pa_cons (pe_bltn (v := .ty "str") (by rfl) T.str (by decide +kernel) rfl) pa_nil))))) (pw_or1 (pt_cmpR op_notIn_seq (pv 2) (pv 0) (by rfl)))))) (fun _ _ _ _ _ => pv 2)) (pe_lst pa_nil) (nomark _))))) (pss_one (ps_ret pe_bl)) pss_nil)
      (pss_one (ps_ret (pe_cmpR (op_eqDat hun) (pe_callTy call_list_of (by rfl) T.list_ (by decide +kernel) (pa_cons (pv 1) pa_nil)) (pe_callB (cr_sortSet rfl) (by rfl) T.sorted (by decide +kernel) (pa_cons (pe_callTy (call_setTxT rfl) (by rfl) T.set_ (by decide +kernel) (pa_cons (pv 1) pa_nil)) pa_nil)) (nomark _)))), ?_⟩
    refine ⟨_, rfl, x, d, rfl, D, qT d, rfl, ?_⟩
    refine ite2 (fun h => ?_) (fun h => ?_)
    · have e : lotD names d = false := by cases d <;> first | rfl | exact absurd h Bool.false_ne_true
      rw [e] at k
      exact k H (Same.refl H)
    obtain ⟨a, xs, ds, rfl, rfl, hT, hA⟩ := dat_tup D (by simpa using h)
    have lx := hA.len
    have bl : ds.length ≤ 1000 := by simp only [Bd] at bd; exact bd.1
    have k' : ∀ H', Same H H' → Q (.bl (ds.all (inN names) && risesD ds)) H' := k
    refine ⟨_, rfl, a, rfl, ⟨xs, hT⟩, fun D1 hD1 => ?_⟩
    refine lc_tup (K := K) (a := a) (xs := xs) (fun i H' => ∃ acc : List V, H' D1 = some (.lst acc) ∧ acc.length ≤ i ∧ decide (acc = []) = (ds.take i).all (inN names) ∧ Same H H') ?_ ?_ ?_ ?_
    · exact ⟨[], upd_same, Nat.le_refl _, by rw [List.take_zero]; rfl, same_new (Same.refl H) hD1⟩
    · rintro i H' hi ⟨_, _, _, _, sm⟩
      exact sqt_more sm hT
    · rintro i y H' hx ⟨acc, g1, gl, ge, g2⟩
      obtain ⟨dy, hdy, Dy⟩ := datA_at hA hx
      have hi : i < ds.length := (List.getElem?_eq_some_iff.mp hdy).1
      have bad : inN names dy = false → H' D1 = some (.lst acc) ∧ acc.length < sizeLine ∧ ∃ acc' : List V, upd H' D1 (.lst (acc ++ [y])) D1 = some (.lst acc') ∧ acc'.length ≤ i + 1 ∧ decide (acc' = []) = (ds.take (i + 1)).all (inN names) ∧ Same H (upd H' D1 (.lst (acc ++ [y]))) := fun eb => by
        refine ⟨g1, small1000 (by omega), acc ++ [y], upd_same, by rw [List.length_append]; show _ + 1 ≤ _; omega, ?_, same_put g2 hD1⟩
        rw [List.take_succ, hdy, List.all_append]
        simp [eb]
      refine ⟨rfl, _, rfl, y, dy, rfl, Dy.more g2, qS dy, rfl, ?_⟩
      refine ite2 (fun g => ?_) (fun g => ?_)
      · have eb : inN names dy = false := by cases dy <;> first | rfl | (cases g; done)
        exact ⟨_, rfl, _, bad eb⟩
      · obtain ⟨z, rfl, rfl⟩ := dat_str Dy (by simpa using g)
        refine ⟨_, rfl, _, rfl, l, txs names, rfl, .inl (Same.seq g2 hL), rfl, flat_txs names, _, rfl, ?_⟩
        rw [show (if true = true then !inV (V.str z) (txs names) else inV (V.str z) (txs names)) = !inV (V.str z) (txs names) from rfl, inV_txs]
        refine ite2 (fun g3 => ?_) (fun g3 => ?_)
        · exact ⟨_, rfl, _, bad (by show decide (z ∈ names) = false; simpa using g3)⟩
        · refine ⟨acc, g1, by omega, ?_, g2⟩
          have g4 : inN names (.str z) = true := by show decide (z ∈ names) = true; simpa using g3
          rw [List.take_succ, hdy, List.all_append, ge]
          simp [g4]
    rintro H1 ⟨acc, q1, _, qe, M⟩
    rw [List.take_of_length_le (by omega)] at qe
    refine ⟨by show 0 ≤ sizeLine; decide, fun e he => ⟨D1, e, acc, rfl, rfl, SqL.of (s3u he q1), SqL.of upd_same, _, rfl, ?_⟩⟩
    have M1 := same_new (o := .lst []) M he
    generalize upd H1 e (.lst []) = H2 at M1 ⊢
    rw [qe]
    refine ite2 (fun h => ?_) (fun h => ?_)
    · have h0 : ds.all (inN names) = false := by simpa using h
      rw [h0, Bool.false_and] at k'
      exact k' H2 M1
    · have h1 : ds.all (inN names) = true := by simpa using h
      rw [h1, Bool.true_and] at k'
      obtain ⟨zs, rfl, hz⟩ := strs_of h1
      have ex := dat_xs hA
      subst ex
      rw [List.length_map] at bl
      refine ⟨_, rfl, a, _, rfl, .inr (sqt_more M1 hT), fun l1 u1 => ?_⟩
      have M2 := same_new (o := .lst (txs zs)) M1 u1
      have e1 : upd H2 l1 (.lst (txs zs)) l1 = some (.lst (txs zs)) := upd_same
      generalize upd H2 l1 (.lst (txs zs)) = H3 at M2 e1 ⊢
      refine ⟨_, rfl, a, zs, rfl, sqt_more M2 hT, bl, fun p ls hp mem => ?_⟩
      refine ⟨p, ls, rfl, upd_same, fun l' nl ml => ?_, fun p2 ys hp2 srt ny my => ?_⟩
      · have := sub_len nl (m := names) fun s hs => hz s ((mem s).mp ((ml s).mp hs))
        omega
      have M3 := same_new (o := SetS P w p ls) M2 hp
      have e2 := s3u (o := SetS P w p ls) hp e1
      have M4 := same_new (o := .lst (ys.map V.str)) M3 hp2
      have e3 := s3u (o := .lst (ys.map V.str)) hp2 e2
      refine ⟨_, _, .lst (SqL.of e3) (datA_strs zs), .lst (SqL.of upd_same) (datA_strs ys), strs_shaped fun z h => hc z (hz z h), strs_shaped fun z h => hc z (hz z ((mem z).mp ((my z).mp h))), ?_⟩
      have e : PyData.eqv (.list (zs.map .str)) (.list (ys.map .str)) = risesD (zs.map .str) := by
        rw [PyData.eqv, eqv_strs, lot_law srt ny fun m => (my m).trans (mem m)]
      rw [e]
      exact k' _ M4
end
end Y

/-! ML2: the law's own reading of amounts, flows, copies. -/
namespace Y
open PySem PySem.Spec PyProof.Rows L2 Ns Mx
open PySem.W (dataLe dataLt alike)
theorem isPos_of {d : PyData} (h : isInt d = true) : ∃ i, d = .int i ∧ isPos d = !decide (i < 1) := by
  obtain ⟨i, rfl⟩ := isInt_int h
  refine ⟨i, rfl, ?_⟩
  show decide (1 ≤ i) = _
  by_cases e : i < 1
  · rw [decide_eq_true e, decide_eq_false (by omega)]; rfl
  · rw [decide_eq_false e, decide_eq_true (by omega)]; rfl
theorem notPos {d : PyData} (h : isInt d = false) : isPos d = false := by
  cases d <;> first | rfl | cases h
theorem datas_strs : ∀ zs : List Str, NestedKey.datas (zs.map NestedKey.text) = zs.map PyData.str
  | [] => rfl
  | z :: zs => by rw [List.map_cons, List.map_cons, NestedKey.datas, datas_strs zs]; rfl
theorem strOk_cd {z : Str} (h : Cd z) : PyData.strOk z = true := by
  unfold PyData.strOk
  rw [← Array.all_toList, List.all_eq_true]
  exact fun c hc => decide_eq_true (Nat.lt_trans (h c hc) (by decide))
theorem strs_lay {zs : List Str} (h : ∀ z ∈ zs, Cd z) : PyData.canLayAll0 (zs.map .str) = true := by
  induction zs with
  | nil => simp [PyData.canLayAll0]
  | cons z zs ih => simp [PyData.canLayAll0, PyData.canLay0, strOk_cd (h z List.mem_cons_self), ih fun y hy => h y (List.mem_cons_of_mem _ hy)]
theorem strs_depth (zs : List Str) : PyData.depthAll (zs.map .str) ≤ 0 := depthAll_le fun d hd => by
  obtain ⟨z, _, rfl⟩ := List.mem_map.mp hd
  simp [PyData.depth]
theorem kp_shaped {k : NK} (h : KP k) : SeqAt.shaped k.data = true := by
  unfold SeqAt.shaped
  rw [Bool.and_eq_true]
  rcases h with ⟨z, rfl, h1, _⟩ | rfl | ⟨zs, _, h1, rfl⟩
  · exact ⟨by simp [NestedKey.data, PyData.canLay0, strOk_cd h1], decide_eq_true (by simp [NestedKey.data, PyData.depth])⟩
  · exact ⟨by simp [NestedKey.data, PyData.canLay0], by decide +kernel⟩
  · rw [NestedKey.data, datas_strs]
    refine ⟨by simp [PyData.canLay0, strs_lay fun z hz => (h1 z hz).1], decide_eq_true ?_⟩
    have := strs_depth zs
    simp only [PyData.depth]
    omega
theorem cpl_shaped {cs : List (Str × Str)} (h : ∀ c ∈ cs, Cd c.1 ∧ Cd c.2) : SeqAt.shaped (.list (cs.map pD)) = true := by
  unfold SeqAt.shaped
  rw [Bool.and_eq_true]
  have c : ∀ {cs : List (Str × Str)}, (∀ c ∈ cs, Cd c.1 ∧ Cd c.2) → PyData.canLayAll0 (cs.map pD) = true := fun {cs} h => by
    induction cs with
    | nil => simp [PyData.canLayAll0]
    | cons z zs ih => simp [pD, PyData.canLayAll0, PyData.canLay0, strOk_cd (h z List.mem_cons_self).1, strOk_cd (h z List.mem_cons_self).2, ih fun y hy => h y (List.mem_cons_of_mem _ hy)]
  have d : PyData.depthAll (cs.map pD) ≤ 1 := depthAll_le fun d hd => by
    obtain ⟨z, _, rfl⟩ := List.mem_map.mp hd
    simp [pD, PyData.depth, PyData.depthAll]
  refine ⟨by simp [PyData.canLay0, c h], decide_eq_true ?_⟩
  simp only [PyData.depth]
  omega
theorem kp_in {k : NK} (h : KP k) (cs : List (Str × Str)) : ((cs.map pD).any fun z => PyData.eqv z k.data) = inC cs k.data := by
  have no : (∀ c : Str × Str, PyData.eqv (pD c) k.data = false) → inC cs k.data = false → ((cs.map pD).any fun z => PyData.eqv z k.data) = inC cs k.data := fun h g => by
    rw [g, List.any_eq_false]
    intro d hd
    obtain ⟨c, _, rfl⟩ := List.mem_map.mp hd
    rw [h]
    simp
  rcases h with ⟨z, rfl, _⟩ | rfl | ⟨zs, hl, h1, rfl⟩
  · exact no (fun c => by simp [pD, NestedKey.data, PyData.eqv]) rfl
  · exact no (fun c => by simp [pD, NestedKey.data, PyData.eqv]) rfl
  · rw [NestedKey.data, datas_strs] at no ⊢
    match zs, hl with
    | [], _ => exact no (fun c => by simp [pD, PyData.eqv, PyData.eqvAll]) rfl
    | [a], _ => exact no (fun c => by simp [pD, PyData.eqv, PyData.eqvAll]) rfl
    | [a, b], _ =>
      show _ = decide ((a, b) ∈ cs)
      have e : ∀ c : Str × Str, PyData.eqv (pD c) (.tuple ([a, b].map .str)) = decide (c = (a, b)) := fun c => by
        obtain ⟨c1, c2⟩ := c
        by_cases e1 : c1 = a <;> by_cases e2 : c2 = b <;> simp [pD, PyData.eqv, PyData.eqvAll, e1, e2]
      rw [List.any_map]
      by_cases hm : (a, b) ∈ cs
      · rw [decide_eq_true hm, List.any_eq_true]
        exact ⟨_, hm, by show PyData.eqv (pD (a, b)) (.tuple ([a, b].map .str)) = true; rw [e]; simp⟩
      · rw [decide_eq_false hm, List.any_eq_false]
        intro c hc
        show ¬ PyData.eqv (pD c) (.tuple ([a, b].map .str)) = true
        rw [e]
        simp only [decide_eq_true_eq]
        exact fun z => hm (z ▸ hc)
section
variable {P : Program} {w : World} {K : PySem.W.Frag} {mg : Str → Option Value} {base : Heap}
theorem scLA : FnScope ["yard", "thing", "names", "name"] ["yard", "thing"] (defScope sAreAmounts) := ⟨rfl, rfl, rfl, by decide +kernel, rfl, by decide +kernel, by decide +kernel⟩
theorem ok_areAmounts {f fN fW : Addr} {fd dN dW : FuncData} (F : Fun K "_law_are_amounts" "_law_are_amounts" sAreAmounts f fd) (T : Nat0 mg) (GN : FnOk P w K mg base CX0 1 fN dN ["yard"] (spNamesOf K)) (FN : Fun K "_law_all_cars" "_law_all_cars" sAllCars fN dN) (mN : mg "_law_all_cars" = some (.ref fN)) (bN : Binds K dN ["yard"] [])
    (GW : FnOk P w K mg base CX0 1 fW dW ["thing"] (spTells K isInt)) (FW : Fun K "_law_whole" "_law_whole" sWhole fW dW) (mW : mg "_law_whole" = some (.ref fW)) (bW : Binds K dW ["thing"] []) : FnOk P w K mg base CX0 2 f fd ["yard", "thing"] (spYT w K fun cs rs d => amtD (rs.map (·.1)) d) := by
  refine F.ok scLA (fun as H Q E h => ?_) (fun cdv A outer s H as Q E hr h => ?_)
  · obtain ⟨y, x, cs, rs, most, d, rfl, _⟩ := h
    rfl
  · obtain ⟨y, x, cs, rs, most, d, rfl, hV, hY, D, bd, k⟩ := h
    have hun := hr.units
    have hu : (A.deeper (envOfC "_law_are_amounts" (defScope sAreAmounts) s.heap.objs.size f cdv)).units + 10 < cLine := by omega
    refine ⟨_, pss_cons (ps_if (pt_not (pt_val (pe_callB (call_isD kit_D) (by rfl) T.isi (by decide +kernel) (pa_cons (pv 1) (pa_cons (pe_bltn (v := .ty "dict") (by rfl) T.dict (by decide +kernel) rfl) pa_nil))))) (pss_one (ps_ret pe_bl)) pss_nil)
      (pss_cons (ps_set (i := 2) scLA.nd rfl (.inl rfl) (pe_call GN hr rfl mN FN.kp bN .nil pass0 (pa_cons (pv 0) pa_nil)))
      (pss_cons (ps_for PassesOwn.never rfl (pi_keysN (pv 1)) (pg_name (i := 3) scLA.nd rfl (.inl rfl))
        (pss_one (ps_if (PW.pt (pw_or (pt_not (pt_val (pe_callB (call_isD kit_S) (by rfl) T.isi (by decide +kernel) (pa_cons (pv 3) (pa_cons (pe_bltn (v := .ty "str") (by rfl) T.str (by decide +kernel) rfl) pa_nil)))))
          (pw_or (pt_cmpR op_notIn_seq (pv 3) (pv 2) (by rfl)) (pw_or (pt_not (pt_val (pe_call GW hr rfl mW FW.kp bW .nil pass0 (pa_cons (pe_nget hu (pv 1) (pv 3) (fun _ _ => rfl)) pa_nil)))) (pw_or1 (pt_cmpR op_lt (pe_nget hu (pv 1) (pv 3) (fun _ _ => rfl)) pe_int (nomark _))))))) (pss_one (ps_ret pe_bl)) pss_nil)))
      (pss_one (ps_ret pe_bl)))), ?_⟩
    have hl := hY.le.2.1
    refine ⟨_, rfl, x, d, rfl, D.1, qD d, rfl, ?_⟩
    refine ite2 (fun h => ?_) (fun h => ?_)
    · have e : amtD (rs.map (·.1)) d = false := by cases d <;> first | rfl | exact absurd h Bool.false_ne_true
      have k1 : Q (.bl (amtD (rs.map (·.1)) d)) H := k H (Same.refl H)
      rw [e] at k1
      exact k1
    obtain ⟨m, rfl⟩ := dic_of (by simpa using h)
    obtain ⟨a, kvs, ds, rfl, dx, _, vals, rfl⟩ := D.2 m rfl
    refine ⟨_, rfl, y, cs, rs, rfl, hV, by omega, fun p H1 hp _ m1 => ?_⟩
    have dx1 := dx.more m1
    have vals1 := vals.more m1
    obtain ⟨o, o1, o2, o3, o4⟩ := id dx1
    have lk : kvs.length = ds.length := by have := vals.len; rw [List.length_map] at this; exact this
    let f : PyData × PyData → Bool := fun p => inN (rs.map (·.1)) p.1 && isPos p.2
    refine ⟨_, rfl, a, o, kvs, rfl, o1, o2, o3, ?_⟩
    refine for_it walk_keysN (fun i σ G => ∃ v3 : Option V, σ = [some y, some (.ref a), some (.ref p), v3] ∧ (((kvs.map fun p => p.1.data).zip ds).take i).all f = true ∧ Same H1 G) ?_ ?_ ?_ ?_
    · exact ⟨none, rfl, by rw [List.take_zero]; rfl, Same.refl _⟩
    · rintro i σ G _ ⟨_, _, _, M⟩
      exact M _ _ o1
    · rintro i u σ G0 G hi ⟨v3, rfl, hall, M⟩ ⟨rfl, kk, vv, hkv⟩
      have mem := List.mem_of_getElem? hkv
      have hv : (kvs.map (·.2.2))[i]? = some vv := by rw [List.getElem?_map, hkv]; rfl
      obtain ⟨dv, hdv, Dv⟩ := datA_at vals1 hv
      obtain ⟨hK, hdp⟩ := o4 _ mem
      have hz : ((kvs.map fun p => p.1.data).zip ds)[i]? = some (kk.data, dv) := zip_at (by rw [List.getElem?_map, hkv]; rfl) hdv
      have bad : f (kk.data, dv) = false → Q (.bl false) G := fun e => by
        have k1 : Q (.bl (((kvs.map fun p => p.1.data).zip ds).all f)) G := k G (m1.trans M)
        have e2 : ((kvs.map fun p => p.1.data).zip ds).all f = false := by
          rw [List.all_eq_false]
          exact ⟨_, List.mem_of_getElem? hz, by rw [e]; simp⟩
        rw [e2] at k1
        exact k1
      have good : f (kk.data, dv) = true → ∃ v3 : Option V, ([some y, some (V.ref a), some (.ref p), some u] : L2.St) = [some y, some (.ref a), some (.ref p), v3] ∧ (((kvs.map fun p => p.1.data).zip ds).take (i + 1)).all f = true ∧ Same H1 G := fun e => ⟨some u, rfl, by
        rw [List.take_succ, hz, List.all_append, hall]
        simp [e], M⟩
      have DX := dx1.more M
      refine ⟨_, rfl, u, kk.data, rfl, (key_dat hK).more M, qS kk.data, rfl, ?_⟩
      refine ite2 (fun g => ?_) (fun g => ?_)
      · refine bad ?_
        show (inN _ kk.data && isPos dv) = false
        have : inN (rs.map (·.1)) kk.data = false := by
          generalize kk.data = d0 at g ⊢
          cases d0 <;> first | rfl | (cases g; done)
        rw [this]
        rfl
      obtain ⟨z, ez, ed⟩ := key_str hK (by simpa using g)
      have ez : u = .str z := ez
      subst ez
      have ef : f (kk.data, dv) = (decide (z ∈ rs.map (·.1)) && isPos dv) := by
        show (inN _ kk.data && isPos dv) = _
        rw [ed]
        rfl
      refine ⟨_, rfl, _, rfl, p, txs (rs.map (·.1)), rfl, .inr (SqT.of (M _ _ hp)), rfl, flat_txs _, _, rfl, ?_⟩
      rw [show (if true = true then !inV (V.str z) (txs (rs.map (·.1))) else inV (V.str z) (txs (rs.map (·.1)))) = !inV (V.str z) (txs (rs.map (·.1))) from rfl, inV_txs]
      refine ite2 (fun g2 => bad (by rw [ef]; have : decide (z ∈ rs.map (·.1)) = false := by simpa using g2
                                     rw [this]; rfl)) (fun g2 => ?_)
      have g3 : decide (z ∈ rs.map (·.1)) = true := by simpa using g2
      rw [g3, Bool.true_and] at ef
      refine ⟨_, rfl, _, rfl, a, kvs, kk, .str z, vv, rfl, DX, hK.more M, hdp, mem, vv, dv, rfl, Dv.more M, _, rfl, ?_⟩
      refine ite2 (fun g4 => bad (by rw [ef]; exact notPos (by simpa using g4))) (fun g4 => ?_)
      obtain ⟨j, rfl, ej⟩ := isPos_of (d := dv) (by simpa using g4)
      cases dat_int Dv
      refine ⟨_, rfl, _, rfl, a, kvs, kk, .str z, .int j, rfl, DX, hK.more M, hdp, mem, _, _, rfl, rfl, _, rfl, ?_⟩
      refine ite2 (fun g5 => bad (by rw [ef, ej, g5]; rfl)) (fun g5 => good (by rw [ef, ej, Bool.eq_false_iff.mpr g5]; rfl))
    · rintro σ G ⟨_, rfl, hall, M⟩
      rw [List.take_of_length_le (by rw [List.length_zip, List.length_map]; omega)] at hall
      have k1 : Q (.bl (((kvs.map fun p => p.1.data).zip ds).all f)) G := k G (m1.trans M)
      rw [hall] at k1
      exact k1
theorem scLF : FnScope ["yard", "thing", "couples", "one", "other", "cap", "key"] ["yard", "thing"] (defScope sIsFlowOf) := ⟨rfl, rfl, rfl, by decide +kernel, rfl, by decide +kernel, by decide +kernel⟩
theorem yard_cd {most : Int} {cs : List Cab} {rs : List Car} (h : YardF most cs rs) : (∀ c ∈ cs.map ckey, Cd c.1 ∧ Cd c.2) ∧ ∀ z ∈ rs.map (·.1), Cd z := by
  obtain ⟨ns, nm, N1, N2, N3, N4, C, R⟩ := h.ex
  have nf : ∀ s, s ∈ feed :: ns → Cd s := fun s hs => by
    rcases List.mem_cons.mp hs with e | e
    · exact (nm_codes (.inr e)).1
    · exact (nm_codes (.inl (N1.nm s e))).1
  refine ⟨fun q hq => ?_, fun z hz => (nm_codes (.inl (N3.nm z (R.perm.mem_iff.mp hz)))).1⟩
  obtain ⟨c, hc, rfl⟩ := List.mem_map.mp hq
  obtain ⟨_, c2, c3, _⟩ := C.each c hc
  exact ⟨nf _ c2, nf _ (List.mem_cons_of_mem _ c3)⟩
theorem paired_app {α β : Type} {R : α → β → Prop} : ∀ {as : List α} {bs : List β}, Paired R as bs → ∀ {cs : List α} {ds : List β}, Paired R cs ds → Paired R (as ++ cs) (bs ++ ds)
  | _, _, .nil, _, _, h => h
  | _, _, .cons g t, _, _, h => .cons g (paired_app t h)
theorem datA_pairs {K : PySem.W.Frag} {H : Hp} : ∀ {qs : List Addr} {ks : List (Str × Str)}, Paired (fun q k => H q = some (.tup [.str k.1, .str k.2])) qs ks → DatA K H (qs.map V.ref) (ks.map pD)
  | _, _, .nil => .nil
  | _, _, .cons h t => .cons (.tup (SqT.of h) (.cons (.str _) (.cons (.str _) .nil))) (datA_pairs t)
theorem ok_isFlowOf {f fW : Addr} {fd dW : FuncData} (F : Fun K "_law_is_flow_of" "_law_is_flow_of" sIsFlowOf f fd) (T : Nat0 mg)
    (GW : FnOk P w K mg base CX0 1 fW dW ["thing"] (spTells K isInt)) (FW : Fun K "_law_whole" "_law_whole" sWhole fW dW) (mW : mg "_law_whole" = some (.ref fW)) (bW : Binds K dW ["thing"] []) : FnOk P w K mg base CX0 2 f fd ["yard", "thing"] (spYT w K fun cs rs d => flowD (cs.map ckey) d) := by
  refine F.ok scLF (fun as H Q E h => ?_) (fun cdv A outer s H as Q E hr h => ?_)
  · obtain ⟨y, x, cs, rs, most, d, rfl, _⟩ := h
    rfl
  · obtain ⟨y, x, cs, rs, most, d, rfl, hV, hY, D, bd, k⟩ := h
    have hun := hr.units
    have hu : (A.deeper (envOfC "_law_is_flow_of" (defScope sIsFlowOf) s.heap.objs.size f cdv)).units + 10 < cLine := by omega
    have hu5 : (A.deeper (envOfC "_law_is_flow_of" (defScope sIsFlowOf) s.heap.objs.size f cdv)).units + 65 < cLine := by have := hr.un; omega
    refine ⟨_, pss_cons (ps_if (pt_not (pt_val (pe_callB (call_isD kit_D) (by rfl) T.isi (by decide +kernel) (pa_cons (pv 1) (pa_cons (pe_bltn (v := .ty "dict") (by rfl) T.dict (by decide +kernel) rfl) pa_nil))))) (pss_one (ps_ret pe_bl)) pss_nil)
      (pss_cons (ps_set (i := 2) scLF.nd rfl (.inr rfl) (pe_lc (own := [("one", 3), ("other", 4), ("cap", 5)]) (g := gTup K 3 (gCons (gName 3) (gCons (gName 4) (gCons (gName 5) gNil)))) (tt := tYes) rfl scLF.nd (pi_tup (pe_ix ix_tup (pv 0) pe_int (fun _ _ => rfl))) (blkOk_by (N := ["yard", "thing", "couples", "one", "other", "cap", "key"]) (sc := defScope sIsFlowOf) (by decide +kernel))
        (fun _ _ _ _ _ => pg_tup rfl (pgs_cons (pg_name (i := 3) scLF.nd rfl (Or.inl rfl)) (pgs_cons (pg_name (i := 4) scLF.nd rfl (Or.inl rfl)) (pgs_cons (pg_name (i := 5) scLF.nd rfl (Or.inl rfl)) pgs_nil)))) (fun _ _ _ _ _ => pts_nil) (fun _ _ _ _ _ => pe_tup (pa_cons (pv 3) (pa_cons (pv 4) pa_nil)))))
      (pss_one (ps_ret (pe_cmpR (op_eqE hun) (pe_lc (own := [("key", 6)]) (g := gName 6)
          (tt := tOr (tTest (tOp (rNotInDat K) (tVar 6) (tVar 2))) (tOr (tNot (tB (tCall (spTells K isInt) _ _ (tCons (tNGet w K (tVar 1) (tVar 6)) tNil)))) (tTest (tOp (rI0 fun i j => .bl (decide (i < j))) (tNGet w K (tVar 1) (tVar 6)) (tC (.int 1)))))) rfl scLF.nd (pi_keysN (pv 1)) (blkOk_by (N := ["yard", "thing", "couples", "one", "other", "cap", "key"]) (sc := defScope sIsFlowOf) (by decide +kernel))
          (fun _ _ _ _ _ => pg_name (i := 6) scLF.nd rfl (Or.inl rfl))
          (fun _ _ _ _ _ => by exact pts_one (PW.pt (pw_or (pt_cmpR (op_notInDat hu5) (pv 6) (pv 2) (by rfl)) (pw_or (pt_not (pt_val (pe_call GW hr rfl mW FW.kp bW .nil pass0 (pa_cons (pe_nget hu (pv 1) (pv 6) (fun _ _ => rfl)) pa_nil)))) (pw_or1 (pt_cmpR op_lt (pe_nget hu (pv 1) (pv 6) (fun _ _ => rfl)) pe_int (nomark _)))))))
          (fun _ _ _ _ _ => pv 6)) (pe_lst pa_nil) (nomark _))))), ?_⟩
    obtain ⟨lc, _, nk⟩ := hY.le
    have cdC := (yard_cd hY).1
    refine ⟨_, rfl, x, d, rfl, D.1, qD d, rfl, ?_⟩
    refine ite2 (fun h => ?_) (fun h => ?_)
    · have e : flowD (cs.map ckey) d = false := by cases d <;> first | rfl | exact absurd h Bool.false_ne_true
      have k1 : Q (.bl (flowD (cs.map ckey) d)) H := k H (Same.refl H)
      rw [e] at k1
      exact k1
    obtain ⟨m, rfl⟩ := dic_of (by simpa using h)
    obtain ⟨a, kvs, ds, rfl, dx, kp, vals, rfl⟩ := D.2 m rfl
    obtain ⟨ty, ya, yb, xs, zs, rfl, v1, v2, v3, v4, v5⟩ := hV
    have lx : xs.length = cs.length := paired_len v4
    refine ⟨_, rfl, ty, _, 0, .ref ya, rfl, rfl, v1, at0, ya, rfl, ⟨_, v2⟩, fun D1 hD1 => ?_⟩
    refine lc_tup (K := K) (a := ya) (xs := xs) (fun i H' => ∃ qs : List Addr, H' D1 = some (.lst (qs.map V.ref)) ∧ qs.length = i ∧ Paired (fun q k => H' q = some (.tup [.str k.1, .str k.2])) qs ((cs.take i).map ckey) ∧ Same H H') ?_ ?_ ?_ ?_
    · exact ⟨[], upd_same, rfl, by rw [List.take_zero]; exact .nil, same_new (Same.refl H) hD1⟩
    · rintro i H' hi ⟨_, _, _, _, sm⟩
      exact sqt_more sm v2
    · rintro i x' H' hx ⟨qs, g1, gl, gp, g2⟩
      obtain ⟨c, hc, t', rfl, hq⟩ := paired_at v4 hx
      have hi : i < cs.length := (List.getElem?_eq_some_iff.mp hc).1
      refine ⟨t', _, rfl, sqt_more g2 hq, rfl, _, _, rfl, _, _, rfl, _, _, rfl, rfl, rfl, _, rfl, _, rfl, by show 2 ≤ sizeLine; decide, fun u hu' => ⟨_, s3u hu' g1, ?_, qs ++ [u], ?_, by rw [List.length_append, gl]; rfl, ?_, same_put (same_new g2 hu') hD1⟩⟩
      · rw [List.length_map]; exact small1000 (by omega)
      · rw [upd_same, List.map_append]; rfl
      · rw [List.take_succ, hc, List.map_append]
        have nDu : u ≠ D1 := (ne_of_none g1 hu').symm
        refine paired_app (paired_imp (fun q k e => ?_) gp) (.cons ?_ .nil)
        · have n1 : q ≠ u := ne_of_none e hu'
          have n2 : q ≠ D1 := ne_of e g1 (fun z => nomatch z)
          rw [upd_ne n2, upd_ne n1]
          exact e
        · rw [upd_ne nDu, upd_same]; rfl
    rintro H1 ⟨qs, a1, _, gp, m1⟩
    rw [lx, List.take_length] at gp
    have dx1 := dx.more m1
    have vals1 := vals.more m1
    obtain ⟨o, o1, o2, o3, o4⟩ := id dx1
    have lk : kvs.length = ds.length := by have := vals.len; rw [List.length_map] at this; exact this
    have lb : ds.length ≤ 1000 := by
      simp only [Bd] at bd
      rw [List.length_zip, List.length_map] at bd
      omega
    let f : PyData × PyData → Bool := fun p => inC (cs.map ckey) p.1 && isPos p.2
    refine ⟨_, rfl, a, o, kvs, rfl, o1, o2, o3, fun D2 hD2 => ?_⟩
    refine lc_it walk_keysN (fun i H' => ∃ acc : List V, H' D2 = some (.lst acc) ∧ acc.length ≤ i ∧ decide (acc = []) = (((kvs.map fun p => p.1.data).zip ds).take i).all f ∧ Same H1 H') ?_ ?_ ?_ ?_
    · exact ⟨[], upd_same, Nat.le_refl _, by rw [List.take_zero]; rfl, same_new (Same.refl H1) hD2⟩
    · rintro i H' _ ⟨_, _, _, _, M⟩
      exact M _ _ o1
    · rintro i u H' H'' hi ⟨acc, g1, gl, ge, g2⟩ ⟨rfl, kk, vv, hkv⟩
      have mem := List.mem_of_getElem? hkv
      have hv : (kvs.map (·.2.2))[i]? = some vv := by rw [List.getElem?_map, hkv]; rfl
      obtain ⟨dv, hdv, Dv⟩ := datA_at vals1 hv
      obtain ⟨hK, hdp⟩ := o4 _ mem
      have hz : ((kvs.map fun p => p.1.data).zip ds)[i]? = some (kk.data, dv) := zip_at (by rw [List.getElem?_map, hkv]; rfl) hdv
      have DX := dx1.more g2
      have bad : f (kk.data, dv) = false → H'' D2 = some (.lst acc) ∧ acc.length < sizeLine ∧ ∃ acc' : List V, upd H'' D2 (.lst (acc ++ [u])) D2 = some (.lst acc') ∧ acc'.length ≤ i + 1 ∧ decide (acc' = []) = (((kvs.map fun p => p.1.data).zip ds).take (i + 1)).all f ∧ Same H1 (upd H'' D2 (.lst (acc ++ [u]))) := fun eb => by
        refine ⟨g1, small1000 (by omega), acc ++ [u], upd_same, by rw [List.length_append]; show _ + 1 ≤ _; omega, ?_, same_put g2 hD2⟩
        rw [List.take_succ, hz, List.all_append]
        simp [eb]
      have good : f (kk.data, dv) = true → ∃ acc' : List V, H'' D2 = some (.lst acc') ∧ acc'.length ≤ i + 1 ∧ decide (acc' = []) = (((kvs.map fun p => p.1.data).zip ds).take (i + 1)).all f ∧ Same H1 H'' := fun eb => by
        refine ⟨acc, g1, by omega, ?_, g2⟩
        rw [List.take_succ, hz, List.all_append, ge]
        simp [eb]
      have gp' : DatA K H'' (qs.map V.ref) ((cs.map ckey).map pD) := datA_pairs (paired_imp (fun q k e => g2 _ _ e) gp)
      refine ⟨rfl, _, rfl, _, rfl, kk.data, _, (key_dat hK).more g2, .lst (SqL.of (g2 _ _ a1)) gp', kp_shaped (kp _ mem), cpl_shaped cdC, _, rfl, ?_⟩
      rw [kp_in (kp _ mem)]
      refine ite2 (fun g => ?_) (fun g => ?_)
      · exact ⟨_, rfl, _, bad (by show (inC _ kk.data && isPos dv) = false; have : inC (cs.map ckey) kk.data = false := by simpa using g
                                  rw [this]; rfl)⟩
      have g0 : inC (cs.map ckey) kk.data = true := by simpa using g
      have ef : f (kk.data, dv) = isPos dv := by
        show (inC _ kk.data && isPos dv) = _
        rw [g0]
        rfl
      refine ⟨_, rfl, _, rfl, a, kvs, kk, u, vv, rfl, DX, hK.more g2, hdp, mem, vv, dv, rfl, Dv.more g2, _, rfl, ?_⟩
      refine ite2 (fun g4 => ⟨_, rfl, _, bad (by rw [ef]; exact notPos (by simpa using g4))⟩) (fun g4 => ?_)
      obtain ⟨j, rfl, ej⟩ := isPos_of (d := dv) (by simpa using g4)
      cases dat_int Dv
      refine ⟨_, rfl, _, rfl, a, kvs, kk, u, .int j, rfl, DX, hK.more g2, hdp, mem, _, _, rfl, rfl, _, rfl, ?_⟩
      refine ite2 (fun g5 => ⟨_, rfl, _, bad (by rw [ef, ej, g5]; rfl)⟩) (fun g5 => good (by rw [ef, ej, Bool.eq_false_iff.mpr g5]; rfl))
    rintro H2 ⟨acc, q1, _, qe, M2⟩
    rw [List.take_of_length_le (by rw [List.length_zip, List.length_map]; omega)] at qe
    refine ⟨by show 0 ≤ sizeLine; decide, fun e he => ⟨D2, e, acc, rfl, rfl, SqL.of (s3u he q1), SqL.of upd_same, ?_⟩⟩
    have k1 : Q (.bl (((kvs.map fun p => p.1.data).zip ds).all f)) (upd H2 e (.lst [])) := k _ (same_new (m1.trans M2) he)
    rw [← qe] at k1
    exact k1
end
end Y

/-! ML3: the law's own reading of copies; dicts drawn. -/
namespace Y
open PySem PySem.Spec PyProof.Rows L2 Ns Mx
open PySem.W (dataLe dataLt alike)
theorem isCnt_of {d : PyData} (h : isInt d = true) : ∃ i, d = .int i ∧ isCnt d = !decide (i < 0) := by
  obtain ⟨i, rfl⟩ := isInt_int h
  refine ⟨i, rfl, ?_⟩
  show decide (0 ≤ i) = _
  by_cases e : i < 0
  · rw [decide_eq_true e, decide_eq_false (by omega)]; rfl
  · rw [decide_eq_false e, decide_eq_true (by omega)]; rfl
theorem notCnt {d : PyData} (h : isInt d = false) : isCnt d = false := by
  cases d <;> first | rfl | cases h
theorem isNo_non {K : PySem.W.Frag} {H : Hp} {v : V} {d : PyData} (D : DatV K H v d) : isNo d = decide (v = .non) := by
  cases D <;> first | rfl | simp [isNo]
section
variable {P : Program} {w : World} {K : PySem.W.Frag} {mg : Str → Option Value} {base : Heap}
theorem scLC : FnScope ["thing", "one"] ["thing"] (defScope sLIsCopies) := ⟨rfl, rfl, rfl, by decide +kernel, rfl, by decide +kernel, by decide +kernel⟩
theorem ok_lCopies {f fW : Addr} {fd dW : FuncData} (F : Fun K "_law_is_copies" "_law_is_copies" sLIsCopies f fd) (T : Nat0 mg)
    (GW : FnOk P w K mg base CX0 1 fW dW ["thing"] (spTells K isInt)) (FW : Fun K "_law_whole" "_law_whole" sWhole fW dW) (mW : mg "_law_whole" = some (.ref fW)) (bW : Binds K dW ["thing"] []) : FnOk P w K mg base CX0 2 f fd ["thing"] (spTells K copiesD) := by
  refine F.ok scLC (fun as H Q E h => ?_) (fun cdv A outer s H as Q E hr h => ?_)
  · obtain ⟨x, d, rfl, _⟩ := h
    rfl
  · obtain ⟨x, d, rfl, D, k⟩ := h
    refine ⟨_, pss_cons (ps_if (pt_not (pt_val (pe_callB (call_isD kit_T) (by rfl) T.isi (by decide +kernel) (pa_cons (pv 0) (pa_cons (pe_bltn (v := .ty "tuple") (by rfl) T.tuple (by decide +kernel) rfl) pa_nil))))) (pss_one (ps_ret pe_bl)) pss_nil)
      (pss_cons (ps_for PassesOwn.never rfl (pi_tup (pv 0)) (pg_name (i := 1) scLC.nd rfl (.inl rfl))
        (pss_cons (ps_if (PW.pt (pw_or (pt_not (pt_val (pe_callB (call_isD kit_T) (by rfl) T.isi (by decide +kernel) (pa_cons (pv 1) (pa_cons (pe_bltn (v := .ty "tuple") (by rfl) T.tuple (by decide +kernel) rfl) pa_nil)))))
          (pw_or (pt_cmpR op_ne (pe_callB call_len_seq (by rfl) T.len PySem.boot_len (pa_cons (pv 1) pa_nil)) pe_int (nomark _))
          (pw_or (pt_not (pt_val (pe_call GW hr rfl mW FW.kp bW .nil pass0 (pa_cons (pe_ix ix_tup (pv 1) pe_int (fun _ _ => rfl)) pa_nil))))
          (pw_or1 (pt_cmpR op_lt (pe_ix ix_tup (pv 1) pe_int (fun _ _ => rfl)) pe_int (nomark _))))))) (pss_one (ps_ret pe_bl)) pss_nil)
        (pss_one (ps_if (PW.pt (pw_and (pt_cmpR op_notN (pe_ix ix_tup (pv 1) pe_int (fun _ _ => rfl)) pe_non (nomark _)) (pw_and1 (PW.pt (pw_or (pt_not (pt_val (pe_call GW hr rfl mW FW.kp bW .nil pass0 (pa_cons (pe_ix ix_tup (pv 1) pe_int (fun _ _ => rfl)) pa_nil))))
          (pw_or1 (pt_cmpR op_lt (pe_ix ix_tup (pv 1) pe_int (fun _ _ => rfl)) pe_int (nomark _)))))))) (pss_one (ps_ret pe_bl)) pss_nil))))
      (pss_one (ps_ret pe_bl))), ?_⟩
    refine ⟨_, rfl, x, d, rfl, D, qT d, rfl, ?_⟩
    refine ite2 (fun h => ?_) (fun h => ?_)
    · have e : copiesD d = false := by cases d <;> first | rfl | exact absurd h Bool.false_ne_true
      rw [e] at k
      exact k
    obtain ⟨a, xs, ds, rfl, rfl, hT, hA⟩ := dat_tup D (by simpa using h)
    have lx := hA.len
    have k' : Q (.bl (ds.all copyD)) H := k
    refine ⟨_, rfl, a, rfl, ⟨xs, hT⟩, ?_⟩
    refine for_tup (K := K) (a := a) (xs := xs) (fun i σ G => ∃ v1 : Option V, σ = [some (.ref a), v1] ∧ (ds.take i).all copyD = true ∧ G = H) ?_ ?_ ?_ ?_
    · exact ⟨none, rfl, by rw [List.take_zero]; rfl, rfl⟩
    · rintro i σ G hi ⟨_, _, _, rfl⟩
      exact hT
    · rintro i y σ G hx ⟨v1, rfl, hall, rfl⟩
      obtain ⟨dy, hdy, Dy⟩ := datA_at hA hx
      have bad : copyD dy = false → Q (.bl false) G := fun e => by
        have e2 : ds.all copyD = false := by
          rw [List.all_eq_false]
          exact ⟨_, List.mem_of_getElem? hdy, by rw [e]; simp⟩
        rw [e2] at k'
        exact k'
      have good : copyD dy = true → ∃ v1 : Option V, ([some (V.ref a), some y] : L2.St) = [some (.ref a), v1] ∧ (ds.take (i + 1)).all copyD = true ∧ G = G := fun e => ⟨some y, rfl, by
        rw [List.take_succ, hdy, List.all_append, hall]
        simp [e], rfl⟩
      refine ⟨_, rfl, y, dy, rfl, Dy, qT dy, rfl, ?_⟩
      refine ite2 (fun g => bad (by cases dy <;> first | rfl | (cases g; done))) (fun g => ?_)
      obtain ⟨b, ys, es, rfl, rfl, hB, hE⟩ := dat_tup Dy (by simpa using g)
      refine ⟨_, rfl, b, ys, rfl, .inr hB, rfl, _, rfl, ?_⟩
      have le := hE.len
      have notTwo : es.length ≠ 2 → copyD (.tuple es) = false := fun n => by
        match es, n with
        | [], _ => rfl
        | [_], _ => rfl
        | [_, _], n => exact absurd rfl n
        | _ :: _ :: _ :: _, _ => rfl
      refine ite2 (fun g2 => bad (notTwo fun z => ?_)) (fun g2 => ?_)
      · rw [← le] at z
        rw [z] at g2
        exact absurd g2 (by decide)
      have l2 : es.length = 2 := by
        have g3 : ((ys.length : Int)) = 2 := by simpa using g2
        omega
      obtain ⟨p, q, rfl⟩ : ∃ p q, es = [p, q] := by
        match es, l2 with
        | [p, q], _ => exact ⟨p, q, rfl⟩
      cases hE with | @cons u _ _ _ Dp hE => cases hE with | @cons v _ _ _ Dq hE =>
      cases hE
      refine ⟨_, rfl, b, _, 0, u, rfl, rfl, hB, at0, u, p, rfl, Dp, _, rfl, ?_⟩
      have cdef : copyD (.tuple [p, q]) = (isCnt p && (isNo q || isCnt q)) := rfl
      refine ite2 (fun g4 => bad (by rw [cdef, notCnt (by simpa using g4)]; rfl)) (fun g4 => ?_)
      obtain ⟨i1, rfl, e1⟩ := isCnt_of (d := p) (by simpa using g4)
      cases dat_int Dp
      refine ⟨_, rfl, b, _, 0, _, rfl, rfl, hB, at0, _, _, rfl, rfl, _, rfl, ?_⟩
      refine ite2 (fun g5 => bad (by rw [cdef, e1, g5]; rfl)) (fun g5 => ?_)
      have c1 : copyD (.tuple [.int i1, q]) = (isNo q || isCnt q) := by rw [cdef, e1, Bool.eq_false_iff.mpr g5]; rfl
      refine ⟨_, rfl, b, _, 1, v, rfl, rfl, hB, at1, rfl, _, rfl, ?_⟩
      refine ite2 (fun g6 => ?_) (fun g6 => ?_)
      · have nq : isNo q = false := by rw [isNo_non Dq]; simpa using g6
        refine ⟨_, rfl, b, _, 1, v, rfl, rfl, hB, at1, v, q, rfl, Dq, _, rfl, ?_⟩
        refine ite2 (fun g7 => bad (by rw [c1, nq, notCnt (by simpa using g7)]; rfl)) (fun g7 => ?_)
        obtain ⟨i2, rfl, e2⟩ := isCnt_of (d := q) (by simpa using g7)
        cases dat_int Dq
        refine ⟨_, rfl, b, _, 1, _, rfl, rfl, hB, at1, _, _, rfl, rfl, _, rfl, ?_⟩
        refine ite2 (fun g8 => bad (by rw [c1, nq, e2, g8]; rfl)) (fun g8 => good (by rw [c1, nq, e2, Bool.eq_false_iff.mpr g8]; rfl))
      · have nq : isNo q = true := by rw [isNo_non Dq]; simpa using g6
        exact good (by rw [c1, nq]; rfl)
    · rintro σ G ⟨_, rfl, hall, rfl⟩
      rw [List.take_of_length_le (by omega)] at hall
      rw [hall] at k'
      exact k'
end
end Y

/-! ML4: _law_dict_of. -/
namespace Y
open PySem PySem.Spec PyProof.Rows L2 Ns Mx
theorem kp_depth {k : NK} (h : KP k) : k.depth ≤ 8 := by
  rcases h with ⟨z, rfl, _⟩ | rfl | ⟨zs, _, _, rfl⟩
  · simp [NestedKey.depth]
  · simp [NestedKey.depth]
  · have : ∀ zs : List Str, NestedKey.depthAll (zs.map NestedKey.text) = 0 := fun zs => by
      induction zs with
      | nil => simp [NestedKey.depthAll]
      | cons z zs ih => simp [NestedKey.depthAll, NestedKey.depth, ih]
    rw [NestedKey.depth, this]
    decide
/-- a whole number as it is drawn into such dicts -/
def Amt (v : V) : Prop := ∃ n : Int, v = .int n ∧ 0 ≤ n ∧ n ≤ 10 ^ 12
theorem amt_fit {n : Int} (h0 : 0 ≤ n) (h : n ≤ 10 ^ 12) : Bd 60 (.int n) ∧ Fit 1000 3 (.int n) := by
  refine ⟨?_, (fit_num h0 h).mono (by decide) (by decide)⟩
  simp only [Bd]
  exact Nat.lt_of_le_of_lt (show n.natAbs ≤ 10 ^ 12 by omega) (by decide)
def spDictOf (w : World) (K : PySem.W.Frag) : Sp := fun as H Q _ => ∃ (b l : Addr) (xs : List V), as = [.ref b, .ref l] ∧ Bag H b ∧ SqL K (wo H b) l xs ∧ xs.length ≤ 60 ∧ (∀ x ∈ xs, ∃ k, KeyV K (wo H b) x k ∧ KP k) ∧
  ∀ (a : Addr) (kvs : List (NK × V × V)) (H' : Hp), Dx w K (wo H' b) a kvs → (∀ p ∈ kvs, KP p.1 ∧ Amt p.2.2) → kvs.length ≤ 60 → Bag H' b → Sb b H H' → Q (.ref a) H'
section
variable {P : Program} {w : World} {K : PySem.W.Frag} {mg : Str → Option Value} {base : Heap}
theorem scDO : FnScope ["bag", "keys", "key"] ["bag", "keys"] (defScope sDictOf) := ⟨rfl, rfl, rfl, by decide +kernel, rfl, by decide +kernel, by decide +kernel⟩
theorem ok_dictOf {f fS fM : Addr} {fd dS dM : FuncData} (F : Fun K "_law_dict_of" "_law_dict_of" sDictOf f fd) (T : Nat0 mg) (GS : FnOk P w K mg base CX0 2 fS dS ["bag", "things"] (spSome K)) (FS : Fun K "_law_some" "_law_some" sSome fS dS) (mS : mg "_law_some" = some (.ref fS)) (bS : Binds K dS ["bag", "things"] [])
    (GM : FnOk P w K mg base CX0 2 fM dM ["bag", "things"] (spMixed K)) (FM : Fun K "_law_mixed" "_law_mixed" sMixed fM dM) (mM : mg "_law_mixed" = some (.ref fM)) (bM : Binds K dM ["bag", "things"] []) : FnOk P w K mg base CX0 3 f fd ["bag", "keys"] (spDictOf w K) := by
  refine F.ok scDO (fun as H Q E h => ?_) (fun cdv A outer s H as Q E hr h => ?_)
  · obtain ⟨b, l, xs, rfl, _⟩ := h
    rfl
  · obtain ⟨b, l, xs, rfl, hB, hL, lx, hk, k⟩ := h
    have hun := hr.un
    have hu : (A.deeper (envOfC "_law_dict_of" (defScope sDictOf) s.heap.objs.size f cdv)).units + 11 < cLine := by omega
    refine ⟨_, pss_one (ps_ret (pe_callTy (call_dictN rfl hu) (by rfl) T.dict (by decide +kernel) (pa_cons (pe_lc (own := [("key", 2)]) (g := gName 2) (tt := tYes) rfl scDO.nd (pi_list (pe_call GM hr rfl mM FM.kp bM .nil pass0 (pa_cons (pv 0) (pa_cons (pv 1) pa_nil)))) (blkOk_by (N := ["bag", "keys", "key"]) (sc := defScope sDictOf) (by decide +kernel))
      (fun _ _ _ _ _ => pg_name (i := 2) scDO.nd rfl (Or.inl rfl)) (fun _ _ _ _ _ => pts_nil)
      (fun _ _ _ _ _ => pe_tup (pa_cons (pv 2) (pa_cons (pe_call GS hr rfl mS FS.kp bS .nil pass0 (pa_cons (pv 0) (pa_cons (pe_lst (pa_cons pe_int (pa_cons pe_int (pa_cons pe_int (pa_cons (pe_op op_pow pe_int pe_int) (pa_cons pe_int (pa_cons pe_int pa_nil))))))) pa_nil))) pa_nil)))) pa_nil))), ?_⟩
    refine ⟨_, rfl, _, rfl, b, l, xs, rfl, hB, hL, by omega, fun p ys H1 perm hp hpn hpb B1 s1 => ?_⟩
    have ly : ys.length ≤ 60 := by rw [perm.length_eq]; exact lx
    have hky : ∀ y ∈ ys, ∃ k, KeyV K (wo H1 b) y k ∧ KP k := fun y hy => by
      obtain ⟨k, h1, h2⟩ := hk y (perm.mem_iff.mp hy)
      exact ⟨k, h1.more s1.1, h2⟩
    refine ⟨p, rfl, ⟨ys, SqL.of hp⟩, fun D hD => ?_⟩
    have nDb : D ≠ b := B1.ne hD
    have npD : p ≠ D := ne_of_none hp hD
    refine lc_list (K := K) (a := p) (xs := ys) (fun i H' => ∃ (ps : List Addr) (kvs : List (NK × V × V)), H' D = some (.lst (ps.map V.ref)) ∧ ps.length = i ∧ Paired (fun q (e : NK × V × V) => H' q = some (.tup [e.2.1, e.2.2])) ps kvs ∧ (∀ e ∈ kvs, KeyV K (wo H1 b) e.2.1 e.1 ∧ KP e.1 ∧ Amt e.2.2) ∧ Bag H' b ∧ Sb b H1 H') ?_ ?_ ?_ ?_
    · exact ⟨[], [], upd_same, rfl, .nil, (fun _ z => nomatch z), B1.new hD, (Sb.refl b H1).new hD⟩
    · rintro i H' _ ⟨_, _, _, _, _, _, _, s⟩
      exact SqL.of (s.get hp hpb)
    · rintro i y H' hy ⟨ps, kvs, g1, gl, gp, gk, B2, s2⟩
      obtain ⟨kk, hK, hKP⟩ := hky y (List.mem_of_getElem? hy)
      have hi : i < ys.length := (List.getElem?_eq_some_iff.mp hy).1
      refine ⟨rfl, _, rfl, _, rfl, 10, 12, rfl, rfl, ⟨by decide, by decide, by decide⟩, by show 6 ≤ sizeLine; decide, fun q hq => ?_⟩
      refine ⟨b, q, _, rfl, B2.new hq, sql_new upd_same (B2.ne hq), (fun z => nomatch z), by show 6 ≤ 1000000; decide, fun x H3 hx B3 s3' => ?_⟩
      have s23 : Sb b H' H3 := ((Sb.refl b H').new hq).trans s3'
      have amt : Amt x := by
        simp only [List.mem_cons, List.not_mem_nil, or_false] at hx
        rcases hx with rfl | rfl | rfl | rfl | rfl | rfl
        · exact ⟨1, rfl, by decide, by decide⟩
        · exact ⟨2, rfl, by decide, by decide⟩
        · exact ⟨7, rfl, by decide, by decide⟩
        · exact ⟨_, rfl, by decide +kernel, by decide +kernel⟩
        · exact ⟨1, rfl, by decide, by decide⟩
        · exact ⟨0, rfl, by decide, by decide⟩
      have e1 := s23.get g1 nDb
      have s3 := s2.trans s23
      have hDn : H1 D = none := hD
      refine ⟨by show 2 ≤ sizeLine; decide, fun t ht => ?_⟩
      have ntD : t ≠ D := (ne_of_none e1 ht).symm
      refine ⟨_, s3u ht e1, ?_, ps ++ [t], kvs ++ [(kk, y, x)], ?_, by rw [List.length_append, gl]; rfl, ?_, ?_, ?_, ?_⟩
      · rw [List.length_map]; exact small1000 (by omega)
      · rw [upd_same, List.map_append]; rfl
      · refine paired_app (paired_imp (fun q e h => ?_) gp) (.cons ?_ .nil)
        · have nqb : q ≠ b := by
            intro z
            obtain ⟨_, _, _, _, _, hb, _⟩ := B2
            rw [z, hb] at h
            cases h
          have h3 := s23.get h nqb
          have n1 : q ≠ t := ne_of_none h3 ht
          have n2 : q ≠ D := ne_of h3 e1 (fun z => nomatch z)
          rw [upd_ne n2, upd_ne n1]
          exact h3
        · rw [upd_ne ntD, upd_same]
      · intro e he
        rcases List.mem_append.mp he with h | h
        · exact gk e h
        · rw [List.mem_singleton.mp h]
          exact ⟨hK, hKP, amt⟩
      · exact B1.wr hDn (s3.new ht) (B3.new ht)
      · exact (s3.new ht).wr hDn
    rintro H2 ⟨ps, kvs, a1, al, gp, gk, B2, s2⟩
    have lk : kvs.length = ps.length := (Paired.length gp).symm
    have keyB : ∀ e ∈ kvs, KeyV K (wo H2 b) e.2.1 e.1 := fun e he => (gk e he).1.more s2.1
    refine ⟨D, ps, kvs, rfl, SqL.of a1, ?_, fun p2 o hp2 dx => ?_⟩
    · have go : ∀ {ps : List Addr} {kvs : List (NK × V × V)}, Paired (fun q (e : NK × V × V) => H2 q = some (.tup [e.2.1, e.2.2])) ps kvs → (∀ e ∈ kvs, KeyV K (wo H2 b) e.2.1 e.1 ∧ e.1.depth ≤ 8) → Paired (PrN K H2) ps kvs := by
        intro ps kvs h
        induction h with
        | nil => exact fun _ => .nil
        | cons h _ ih => exact fun g => .cons ⟨SqT.of h, (g _ List.mem_cons_self).1.more (wo_sub H2 b), (g _ List.mem_cons_self).2⟩ (ih fun e he => g e (List.mem_cons_of_mem _ he))
      exact go gp fun e he => ⟨keyB e he, kp_depth (gk e he).2.1⟩
    · have npb : p2 ≠ b := B2.ne hp2
      have B3 := B2.new (o := objO p2 o) hp2
      have s3 := s2.new (o := objO p2 o) hp2
      have ml : (mergeX kvs).length ≤ 60 := by
        have := merge_len kvs.length kvs
        rw [List.take_length] at this
        omega
      refine k p2 (mergeX kvs) _ ?_ (fun e he => ?_) ml B3 (s1.trans s3)
      · obtain ⟨o', h1, h2, h3, h4⟩ := dx
        refine ⟨o', (wo_ne npb).trans h1, h2, h3, fun e he => ⟨?_, (h4 e he).2⟩⟩
        exact merge_keys (R := fun kk v => KeyV K (wo (upd H2 p2 (objO p2 o)) b) v kk) (fun e he => (keyB e he).more (wo_same (same_new (Same.refl H2) hp2))) e he
      · exact ⟨merge_keys (R := fun kk _ => KP kk) (fun e he => (gk e he).2.1) e he, merge_vals (R := Amt) (fun e he => (gk e he).2.2) e he⟩
end
end Y

/-! MX5: an expression that cannot reach a list: the list is put aside while it runs. -/
namespace Mx
open PySem PySem.Spec PyProof.Rows L2 Y
section
variable {X : Cx} {pins : List (Addr × Obj)} {σ : L2.St} {H : Hp} {s : Shared} {l : Addr} {xs : List V} {o : Obj}
/-- put aside -/
theorem Inv_aside (I : Inv X pins σ H s) (hl : H l = some (.lst xs)) (ho : s.heap.get? l = some o) (hd : ∀ v, o.data ≠ .cell v) : Inv X ((l, o) :: pins) σ (wo H l) s where
  ok := I.ok
  os := I.os
  bare := I.bare
  base := {
    keep := I.base.keep
    slot := I.base.slot
    free := fun b ob e n hx => by
      have := I.base.free b ob e n hx
      by_cases z : b = l
      · rw [z]; exact wo_at
      · rw [wo_ne z]; exact this
    there := I.base.there
    tups := fun b ys e => by
      have := I.base.tups b ys e
      rw [wo_ne (fun z => by rw [z, hl] at this; cases this)]
      exact this
    frzs := fun b ob u e => by
      have := I.base.frzs b ob u e
      rw [wo_ne (fun z => by rw [z, hl] at this; cases this)]
      exact this
    tbls := fun b ps e => by
      obtain ⟨more, this⟩ := I.base.tbls b ps e
      refine ⟨more, ?_⟩
      rw [wo_ne (fun z => by rw [z, hl] at this; cases this)]
      exact this }
  loc := I.loc
  cell := I.cell
  free := by
    by_cases z : X.env.locals = l
    · rw [z]; exact wo_at
    · rw [wo_ne z]; exact I.free
  freeC := fun x c e => by
    by_cases z : c = l
    · rw [z]; exact wo_at
    · rw [wo_ne z]; exact I.freeC x c e
  pin := fun p hp => by
    have old : ∀ p ∈ X.pn ++ pins, s.heap.get? p.1 = some p.2 ∧ wo H l p.1 = none ∧ p.1 ≠ X.env.locals ∧ p.1 ∉ X.fs ∧ ∀ v, p.2.data ≠ .cell v := fun p hp => by
      obtain ⟨h1, h2, h3⟩ := I.pin p hp
      refine ⟨h1, ?_, h3⟩
      by_cases z : p.1 = l
      · rw [z]; exact wo_at
      · rw [wo_ne z]; exact h2
    rcases List.mem_append.mp hp with h | h
    · exact old p (List.mem_append_left _ h)
    · rcases List.mem_cons.mp h with rfl | h
      · refine ⟨ho, wo_at, fun z => ?_, fun z => ?_, hd⟩
        · have := I.free
          have z : l = X.env.locals := z
          rw [← z, hl] at this
          cases this
        · have z : l ∈ X.fs := z
          obtain ⟨_, o2, e2, _⟩ := I.ok.funs.mem z
          have := I.base.free l o2 e2 (I.ok.frf l z) (fun y => I.ok.exfs l y z)
          rw [hl] at this
          cases this
      · exact old p (List.mem_append_right _ h)
  hok := fun a u e => by
    obtain ⟨n, e⟩ := wo_of e
    exact (I.hok a u e).stay (fun _ _ _ q => q) (fun b e2 => by rw [wo_ne (fun z => by rw [z, hl] at e2; cases e2)]; exact e2) fun b ys e2 => by
      rw [wo_ne (fun z => by rw [z, hl] at e2; cases e2)]; exact e2
  len := I.len
/-- .. and back -/
theorem Inv_back {H' : Hp} {s' : Shared} (I : Inv X pins σ H s) (hl : H l = some (.lst xs)) (ho : s.heap.get? l = some o) (J : Inv X ((l, o) :: pins) σ H' s') : H' l = none ∧ Inv X pins σ (upd H' l (.lst xs)) s' := by
  obtain ⟨p1, p2, p3, p4, p5⟩ := J.pin (l, o) (List.mem_append_right _ List.mem_cons_self)
  have p1 : s'.heap.get? l = some o := p1
  have p2 : H' l = none := p2
  refine ⟨p2, ?_⟩
  exact {
    ok := J.ok
    os := J.os
    bare := J.bare
    base := {
      keep := J.base.keep
      slot := J.base.slot
      free := fun b ob e n hx => by
        have h1 := I.base.free b ob e n hx
        rw [upd_ne (fun z => by rw [z, hl] at h1; cases h1)]
        exact J.base.free b ob e n hx
      there := J.base.there
      tups := fun b ys e => by
        have h1 := I.base.tups b ys e
        rw [upd_ne (fun z => by rw [z, hl] at h1; cases h1)]
        exact J.base.tups b ys e
      frzs := fun b ob u e => by
        have h1 := I.base.frzs b ob u e
        rw [upd_ne (fun z => by rw [z, hl] at h1; cases h1)]
        exact J.base.frzs b ob u e
      tbls := fun b ps e => by
        obtain ⟨_, h1⟩ := I.base.tbls b ps e
        obtain ⟨more, h2⟩ := J.base.tbls b ps e
        refine ⟨more, ?_⟩
        rw [upd_ne (fun z => by rw [z, hl] at h1; cases h1)]
        exact h2 }
    loc := J.loc
    cell := J.cell
    free := by rw [upd_ne (Ne.symm p3)]; exact J.free
    freeC := fun x c e => by
      have h1 := I.freeC x c e
      rw [upd_ne (fun z => by rw [z, hl] at h1; cases h1)]
      exact J.freeC x c e
    pin := fun p hp => by
      obtain ⟨_, h1, _⟩ := I.pin p hp
      obtain ⟨q1, q2, q3⟩ := J.pin p (by
        rcases List.mem_append.mp hp with h | h
        · exact List.mem_append_left _ h
        · exact List.mem_append_right _ (List.mem_cons_of_mem _ h))
      refine ⟨q1, ?_, q3⟩
      rw [upd_ne (fun z => by rw [z, hl] at h1; cases h1)]
      exact q2
    hok := fun a u e => by
      by_cases z : a = l
      · rw [z, upd_same] at e
        cases e
        rw [z]
        obtain ⟨h1, its, n, h2, h3⟩ := (show ObjOk X.prog X.w H s.heap l (.lst xs) from I.hok l _ hl)
        rw [ho] at h3
        cases h3
        exact ⟨h1, its, n, h2, p1⟩
      · rw [upd_ne z] at e
        exact (J.hok a u e).stay (fun _ _ _ q => q) (fun b e2 => by rw [upd_ne (ne_of_none e2 p2)]; exact e2) fun b ys e2 => by rw [upd_ne (ne_of_none e2 p2)]; exact e2
    len := J.len }
end
/-- e runs while the list at l stands aside -/
def tPin (te : TE) : TE := fun σ H Q => ∃ (l : Addr) (xs : List V), H l = some (.lst xs) ∧ te σ (wo H l) (fun v H' => H' l = none → Q v (upd H' l (.lst xs)))
theorem pe_pin {X : Cx} {e : Expr} {te : TE} (he : PE X e te) : PE X e (tPin te) := by
  refine ⟨fun pins s σ H Q I h => ?_⟩
  obtain ⟨l, xs, hl, h2⟩ := h
  obtain ⟨_, its, n, _, g⟩ := (show ObjOk X.prog X.w H s.heap l (.lst xs) from I.hok l _ hl)
  refine thn (he.run _ s σ _ _ (Inv_aside I hl g (fun v z => nomatch z)) h2) fun u s1 hu => ?_
  obtain ⟨v, H1, J, rv, q⟩ := hu
  obtain ⟨n1, J2⟩ := Inv_back I hl g J
  exact ⟨v, _, J2, rv, q n1⟩
/-- the heap without the bag and without the list -/
def w2 (H : Hp) (b l : Addr) : Hp := wo (wo H l) b
theorem w2_get {H : Hp} {b l c : Addr} {o : HO} (h : w2 H b l c = some o) : c ≠ b ∧ c ≠ l ∧ H c = some o := by
  obtain ⟨h1, h2⟩ := wo_of h
  obtain ⟨h3, h4⟩ := wo_of h2
  exact ⟨h1, h3, h4⟩
theorem w2_at {H : Hp} {b l c : Addr} {o : HO} (h1 : c ≠ b) (h2 : c ≠ l) (h : H c = some o) : w2 H b l c = some o := (wo_ne h1).trans ((wo_ne h2).trans h)
theorem w2_sb {H H' : Hp} {b l : Addr} (s : Sb b H H') : Same (w2 H b l) (w2 H' b l) := fun c o h => by
  obtain ⟨h1, h2, h3⟩ := w2_get h
  exact w2_at h1 h2 (s.get h3 h1)
theorem w2_wo {H : Hp} {b l : Addr} : Same (w2 H b l) (wo H b) := fun c o h => by
  obtain ⟨h1, h2, h3⟩ := w2_get h
  exact (wo_ne h1).trans h3
/-- the list is written: nothing of it -/
theorem w2_upd {H : Hp} {b l : Addr} {o : HO} : Same (w2 H b l) (w2 (upd H l o) b l) := fun c u h => by
  obtain ⟨h1, h2, h3⟩ := w2_get h
  exact w2_at h1 h2 (by rw [upd_ne h2]; exact h3)
end Mx

/-! ML5: _law_bent_dict. -/
namespace Mx
open PySem PySem.Spec PyProof.Rows L2 Ns
open L2.DX (itemsO itemsO_ok takeT)
def tItemsN (w : World) (K : PySem.W.Frag) (td : TE) : TE := fun σ H Q => td σ H fun x H1 => ∃ (a : Addr) (kvs : List (NK × V × V)), x = .ref a ∧ Dx w K H1 a kvs ∧ ∀ p, H1 p = none → Q (.ref p) (upd H1 p (itemsO p a))
theorem pe_itemsN {X : Cx} {e : Expr} {td : TE} {apos cpos : Pos} (he : PE X e td) (hbase : attributeBase e "items" X.env (eval e X.env) = eval e X.env := by rfl) (hline : (apos.endLine == cpos.line) = true := by rfl) :
    PE X (.Call (.Attribute e "items" apos) [] [] cpos) (tItemsN X.w X.K td) := by
  refine ⟨fun pins s σ H Q I h => ?_⟩
  refine wpAny_Call_method (T := "dict") (id := "dict.items") hbase rfl hline F.plainAttrs_dict F.slot_dict_items F.type_dict_items (thn (he.run pins s σ H _ I h) fun u s1 ⟨x, H1, I1, rx, d, kvs, ex, D, q⟩ => ?_)
  subst ex
  obtain rfl : u = Value.ref d := rx
  obtain ⟨o, h1, ⟨g1, _, _, es, ep, _, g4, _⟩, h3, _⟩ := D
  have raw : s1.heap.DictRaw d es ep := ⟨o, objO_at I1 h1, g1, g4⟩
  refine ⟨raw.typeIs, ?_, ?_⟩
  · rintro b ⟨⟩
    exact ⟨o, objO_at I1 h1, g1.2.1⟩
  show wpAny _ _ (callWith cpos (.builtin "dict.items") [.ref d] [] []) _ X.xe s1
  exact method_meetsIn F.slot_dict_items F.entry_dict_items rfl (PySem.evalArgs_none ⟨rfl, raw.typeIs, F.args_dict_items_1 _, _, meets_dict_items_raw d h3, ⟨es, ep, raw⟩,
    ⟨.ref s1.heap.objs.size, upd H1 s1.heap.objs.size (itemsO s1.heap.objs.size d), I1.laid (t' := s1.toks) (fun b u e => Heap.get?_push_of_some _ e) (Nat.le_refl _) (itemsO_ok (Heap.get?_push_size _ rfl)), rfl, q _ (I1.hok.fresh (Nat.le_refl _))⟩⟩)
end Mx
namespace Y
open PySem PySem.Spec PyProof.Rows L2 Ns Mx
open C8 (pss_cut)
theorem Bag.aside {H H1 : Hp} {b l : Addr} (h : Bag H b) (n : H l = none) (s : Sb b H H1) (g : Bag H1 b) : Bag (wo H1 l) b := by
  obtain ⟨n0, n1, n2, l0, ns, h1, h2, h3, _⟩ := id h
  obtain ⟨k0, k1, k2, l', ns', g1, g2, r⟩ := g
  obtain ⟨m0, m1, m2, e⟩ := s.2 _ _ _ _ h1
  rw [g1] at e
  cases e
  exact ⟨_, _, _, _, ns', by rw [wo_ne (h.ne n).symm]; exact g1, by rw [wo_ne (ne_of_none h2 n)]; exact g2, r⟩
theorem Sb.back {H1 H2 : Hp} {b l : Addr} {xs : List V} (lb : l ≠ b) (e : H1 l = some (.lst xs)) (s : Sb b (wo H1 l) H2) : Sb b H1 (upd H2 l (.lst xs)) := by
  refine ⟨fun c o h => ?_, fun n0 n1 n2 l0 h => ?_⟩
  · obtain ⟨h1, h2⟩ := wo_of h
    rw [wo_ne h1]
    by_cases z : c = l
    · rw [z, upd_same, ← h2, z, e]
    · rw [upd_ne z]
      exact s.get ((wo_ne z).trans h2) h1
  · obtain ⟨m0, m1, m2, g⟩ := s.2 n0 n1 n2 l0 ((wo_ne lb.symm).trans h)
    exact ⟨m0, m1, m2, by rw [upd_ne lb.symm]; exact g⟩
theorem w2_back {H2 : Hp} {b l : Addr} {o : HO} (n : H2 l = none) : Same (wo H2 b) (w2 (upd H2 l o) b l) := fun c u h => by
  obtain ⟨h1, h2⟩ := wo_of h
  have h3 : c ≠ l := fun z => by rw [z, n] at h2; cases h2
  exact w2_at h1 h3 (by rw [upd_ne h3]; exact h2)
theorem paired_set {α β : Type} {R : α → β → Prop} {a : α} {b : β} (h : R a b) : ∀ {as : List α} {bs : List β}, Paired R as bs → ∀ j : Nat, Paired R (as.set j a) (bs.set j b)
  | _, _, .nil, _ => .nil
  | _, _, .cons _ t, 0 => .cons h t
  | _, _, .cons g t, j + 1 => .cons g (paired_set h t j)
/-- a thing that is judged -/
def Tg (w : World) (K : PySem.W.Frag) (H : Hp) (x : V) (d : PyData) : Prop := Th w K H x d ∧ Bd 1000 d ∧ Fit 2000000 10 d
theorem Tg.more {w : World} {K : PySem.W.Frag} {H H' : Hp} {x : V} {d : PyData} (m : Same H H') (h : Tg w K H x d) : Tg w K H' x d := ⟨h.1.more m, h.2⟩
theorem kp_fit {k : NK} (h : KP k) : Fit 1000 3 k.data ∧ Bd 60 k.data := by
  rcases h with ⟨z, rfl, h1, h2⟩ | rfl | ⟨zs, hl, h1, rfl⟩
  · refine ⟨(fit_txt (n := 1000) h1 (by omega)).mono (Nat.le_refl _) (by decide), ?_⟩
    simp only [NestedKey.data, Bd]
    omega
  · exact ⟨⟨by decide +kernel, by decide +kernel, by decide +kernel⟩, by simp only [NestedKey.data, Bd]; decide⟩
  · rw [NestedKey.data, datas_strs]
    refine ⟨(fit_tuple (m := 202) (k := 0) fun d hd => ?_).mono ?_ (by decide), ?_⟩
    · obtain ⟨z, hz, rfl⟩ := List.mem_map.mp hd
      have := (h1 z hz).2
      exact fit_txt (h1 z hz).1 (by omega)
    · rw [List.length_map]; omega
    · simp only [Bd]
      refine ⟨by rw [List.length_map]; omega, bdA_iff.mpr fun d hd => ?_⟩
      obtain ⟨z, hz, rfl⟩ := List.mem_map.mp hd
      have := (h1 z hz).2
      simp only [Bd]
      omega
/-- an entry: key and value -/
def EntP (K : PySem.W.Frag) (G : Hp) (e : NK × V × V) (d : PyData) : Prop := KeyV K G e.2.1 e.1 ∧ KP e.1 ∧ DatV K G e.2.2 d ∧ Bd 60 d ∧ Fit 1000 3 d
theorem EntP.more {K : PySem.W.Frag} {G G' : Hp} {e : NK × V × V} {d : PyData} (m : Same G G') (h : EntP K G e d) : EntP K G' e d := ⟨h.1.more m, h.2.1, h.2.2.1.more m, h.2.2.2⟩
theorem ents_amt {K : PySem.W.Frag} {G : Hp} : ∀ {kvs : List (NK × V × V)}, (∀ p ∈ kvs, KeyV K G p.2.1 p.1 ∧ KP p.1 ∧ Amt p.2.2) → ∃ ds, Paired (EntP K G) kvs ds
  | [], _ => ⟨[], .nil⟩
  | p :: kvs, h => by
    obtain ⟨ds, r⟩ := ents_amt (kvs := kvs) fun q hq => h q (List.mem_cons_of_mem _ hq)
    obtain ⟨h1, h2, n, e, h3, h4⟩ := h p List.mem_cons_self
    obtain ⟨b, f⟩ := amt_fit h3 h4
    exact ⟨.int n :: ds, .cons ⟨h1, h2, by rw [e]; exact .int n, b, f⟩ r⟩
theorem vals_ds {K : PySem.W.Frag} {G : Hp} : ∀ {l : List (NK × V × V)}, (∀ x ∈ l, ∃ d, DatV K G x.2.2 d ∧ Bd 60 d ∧ Fit 1000 3 d) → ∃ ds, DatA K G (l.map (·.2.2)) ds ∧ ∀ d ∈ ds, Bd 60 d ∧ Fit 1000 3 d
  | [], _ => ⟨[], .nil, fun _ z => nomatch z⟩
  | x :: l, h => by
    obtain ⟨d, h1, h2⟩ := h x List.mem_cons_self
    obtain ⟨ds, g1, g2⟩ := vals_ds (l := l) fun y hy => h y (List.mem_cons_of_mem _ hy)
    exact ⟨d :: ds, .cons h1 g1, fun e he => (List.mem_cons.mp he).elim (fun z => by rw [z]; exact h2) (g2 e)⟩
theorem dx_tg {w : World} {K : PySem.W.Frag} {G : Hp} {a : Addr} {l : List (NK × V × V)} (D : Dx w K G a l) (hk : ∀ p ∈ l, KP p.1) (hv : ∀ x ∈ l, ∃ d, DatV K G x.2.2 d ∧ Bd 60 d ∧ Fit 1000 3 d) (hl : l.length ≤ 100) : ∃ d, Tg w K G (.ref a) d ∧ Bd 100 d ∧ Fit 300000 4 d := by
  obtain ⟨ds, g1, g2⟩ := vals_ds hv
  have ln : ds.length = l.length := by have := g1.len; rw [List.length_map] at this; exact this.symm
  have f : Fit 300000 4 (.dict ((l.map fun p => p.1.data).zip ds)) := by
    refine (fit_dict (m := 1000) (k := 3) fun p hp => ⟨?_, ?_⟩).mono ?_ (by decide)
    · obtain ⟨e, he, e2⟩ := List.mem_map.mp (List.of_mem_zip hp).1
      rw [← e2]
      exact (kp_fit (hk e he)).1
    · exact (g2 _ (List.of_mem_zip hp).2).2
    · rw [List.length_zip, List.length_map]
      omega
  have b : Bd 100 (.dict ((l.map fun p => p.1.data).zip ds)) := by
    simp only [Bd]
    rw [List.length_zip, List.length_map]
    omega
  exact ⟨_, ⟨th_dx D hk g1, Bd.up (by decide) b, f.mono (by decide) (by decide)⟩, b, f⟩
/-- the rows of a dict: pairs -/
theorem rows_dat {K : PySem.W.Frag} {H : Hp} {b : Addr} : ∀ {ts : List Addr} {es : List (NK × V × V)} {ds : List PyData}, Paired (fun t e => (wo H b) t = some (.tup [e.2.1, e.2.2])) ts es → Paired (EntP K (wo H b)) es ds →
    ∃ rs, DatA K (wo H b) (ts.map V.ref) rs ∧ ∀ r ∈ rs, Bd 100 r ∧ Fit 2100 4 r
  | _, _, _, .nil, .nil => ⟨[], .nil, fun _ z => nomatch z⟩
  | _, _, _, .cons (a := t) (b := e) h t1, .cons (b := d) g t2 => by
    obtain ⟨rs, g1, g2⟩ := rows_dat t1 t2
    obtain ⟨k1, k2⟩ := kp_fit g.2.1
    refine ⟨.tuple [e.1.data, d] :: rs, .cons (.tup (SqT.of h) (.cons (key_dat g.1) (.cons g.2.2.1 .nil))) g1, fun r hr => ?_⟩
    rcases List.mem_cons.mp hr with rfl | hr
    · refine ⟨?_, (fit_tuple (m := 1000) (k := 3) fun u hu => ?_).mono (show 2 * (1000 + 2) + 3 ≤ 2100 by decide) (by decide)⟩
      · simp only [Bd, BdA, and_true]
        exact ⟨show 2 ≤ 100 by decide, Bd.up (by decide) k2, Bd.up (by decide) g.2.2.2.1⟩
      · simp only [List.mem_cons, List.not_mem_nil, or_false] at hu
        rcases hu with rfl | rfl
        · exact k1
        · exact g.2.2.2.2
    · exact g2 r hr
def spBentDict (w : World) (K : PySem.W.Frag) : Sp := fun as H Q _ => ∃ (b a : Addr) (kvs : List (NK × V × V)), as = [.ref b, .ref a] ∧ Bag H b ∧ Dx w K (wo H b) a kvs ∧ (∀ p ∈ kvs, KP p.1 ∧ Amt p.2.2) ∧ kvs.length ≤ 60 ∧
  ∀ (x : V) (d : PyData) (H' : Hp), Tg w K (wo H' b) x d → Bag H' b → Sb b H H' → Q x H'
section
variable {P : Program} {w : World} {K : PySem.W.Frag} {mg : Str → Option Value} {base : Heap}
theorem scBD : FnScope ["bag", "thing", "rows", "odd", "key", "worth", "at"] ["bag", "thing"] (defScope sBentDict) := ⟨rfl, rfl, rfl, by decide +kernel, rfl, by decide +kernel, by decide +kernel⟩
theorem ok_bentDict {f fT fS fO : Addr} {fd dT dS dO : FuncData} (F : Fun K "_law_bent_dict" "_law_bent_dict" sBentDict f fd) (T : Nat0 mg) (GT : FnOk P w K mg base CX0 1 fT dT ["bag", "many"] spTake) (FT : Fun K "_law_take" "_law_take" sTake fT dT) (mT : mg "_law_take" = some (.ref fT)) (bT : Binds K dT ["bag", "many"] [])
    (GS : FnOk P w K mg base CX0 2 fS dS ["bag", "things"] (spSome K)) (FS : Fun K "_law_some" "_law_some" sSome fS dS) (mS : mg "_law_some" = some (.ref fS)) (bS : Binds K dS ["bag", "things"] [])
    (GO : FnOk P w K mg base CX0 3 fO dO ["bag"] (spOddT w K)) (FO : Fun K "_law_odd" "_law_odd" sOdd fO dO) (mO : mg "_law_odd" = some (.ref fO)) (bO : Binds K dO ["bag"] []) : FnOk P w K mg base CX0 4 f fd ["bag", "thing"] (spBentDict w K) := by
  refine F.ok scBD (fun as H Q E h => ?_) (fun cdv A outer s H as Q E hr h => ?_)
  · obtain ⟨b, a, kvs, rfl, _⟩ := h
    rfl
  · obtain ⟨b, a, kvs, rfl, hB, hD, hk, lk, k⟩ := h
    have hun := hr.units
    have hu : (A.deeper (envOfC "_law_bent_dict" (defScope sBentDict) s.heap.objs.size f cdv)).units + 11 < cLine := by omega
    have hr1 : Room 1 _ := hr.mono (by decide)
    have hr2 : Room 2 _ := hr.mono (by decide)
    refine ⟨_, (pss_cons (ps_par (i := 2) (j := 3) rfl scBD.nd rfl rfl (by decide) rfl rfl (pa_cons (pe_callTy (call_listItemsN rfl) (by rfl) T.list_ (by decide +kernel) (pa_cons (pe_itemsN (pv 1)) pa_nil)) (pa_cons (pe_pin (pe_call GO hr rfl mO FO.kp bO .nil pass0 (pa_cons (pv 0) pa_nil))) pa_nil)) (by rfl)) (pss_cons (ps_set (i := 4) scBD.nd rfl (.inl rfl) (pe_call GS hr2 rfl mS FS.kp bS .nil pass0 (pa_cons (pv 0) (pa_cons (pe_lst (pa_cons pe_str (pa_cons pe_str (pa_cons (pe_tup (pa_cons pe_str (pa_cons pe_str pa_nil))) (pa_cons (pe_tup (pa_cons pe_str pa_nil)) (pa_cons pe_int (pa_cons (pe_tup (pa_cons pe_str (pa_cons pe_str pa_nil))) pa_nil))))))) pa_nil)))) (pss_cons (ps_set (i := 5) scBD.nd rfl (.inl rfl) (pe_call GS hr2 rfl mS FS.kp bS .nil pass0 (pa_cons (pv 0) (pa_cons (pe_lst (pa_cons pe_bl (pa_cons pe_int (pa_cons (pe_un un_neg pe_int) (pa_cons pe_non (pa_cons pe_str (pa_cons pe_int (pa_cons (pv 3) pa_nil)))))))) pa_nil)))) (pss_cut (ps_if (PW.pt (pw_and (pt_cmpR (op_neE0 hun) (pv 2) (pe_lst pa_nil) (nomark _)) (pw_and1 (pt_cmpR op_gt (pe_call GT hr1 rfl mT FT.kp bT .nil pass0 (pa_cons (pv 0) (pa_cons pe_int pa_nil))) pe_int (nomark _))))) (pss_cons (ps_set (i := 6) scBD.nd rfl (.inl rfl) (pe_call GT hr1 rfl mT FT.kp bT .nil pass0 (pa_cons (pv 0) (pa_cons (pe_callB call_len_seq (by rfl) T.len PySem.boot_len (pa_cons (pv 2) pa_nil)) pa_nil)))) (pss_cons (ps_asg (pe_ifExp (pt_cmpR op_gt (pe_call GT hr1 rfl mT FT.kp bT .nil pass0 (pa_cons (pv 0) (pa_cons pe_int pa_nil))) pe_int (nomark _)) (pe_tup (pa_cons (pe_ix ix_tup (pe_ix ix_list (pv 2) (pv 6) (fun _ _ => rfl)) pe_int (fun _ _ => rfl)) (pa_cons (pv 5) pa_nil))) (pe_tup (pa_cons (pv 4) (pa_cons (pe_ix ix_tup (pe_ix ix_list (pv 2) (pv 6) (fun _ _ => rfl)) pe_int (fun _ _ => rfl)) pa_nil)))) (pg_sub (pv 2) (pv 6) set_list)) (pss_one (ps_ret (pe_callTy (call_dictN rfl hu) (by rfl) T.dict (by decide +kernel) (pa_cons (pv 2) pa_nil)))))) pss_nil) (pss_one (ps_ret (pe_call GS hr2 rfl mS FS.kp bS .nil pass0 (pa_cons (pv 0) (pa_cons (pe_lst (pa_cons (pe_callTy (call_dictN rfl hu) (by rfl) T.dict (by decide +kernel) (pa_cons (pe_op op_cat (pv 2) (pe_lst (pa_cons (pe_tup (pa_cons (pv 4) (pa_cons pe_int pa_nil))) pa_nil))) pa_nil)) (pa_cons (pv 2) (pa_cons (pe_callTy call_tuple_of (by rfl) T.tuple (by decide +kernel) (pa_cons (pv 2) pa_nil)) (pa_cons pe_non (pa_cons (pe_lst (pa_cons (pv 1) pa_nil)) (pa_cons (pv 3) pa_nil))))))) pa_nil))))))))), ?_⟩
    refine ⟨_, rfl, a, kvs, rfl, hD.more (wo_sub H b), fun v hv => ?_⟩
    have B0 := hB.new (o := L2.DX.itemsO v a) hv
    have s0 := (Sb.refl b H).new (o := L2.DX.itemsO v a) hv
    refine ⟨v, a, kvs, rfl, upd_same, (hD.more (wo_sub H b)).more (same_new (Same.refl H) hv), fun l ts H1 hl M1 e1 pr => ?_⟩
    have hlH : H l = none := by
      cases z : H l with
      | none => rfl
      | some o => rw [s3u hv z] at hl; cases hl
    have B1 := B0.keep M1
    have s1 := s0.same M1
    have lb : l ≠ b := B0.ne hl
    have wr1 : Paired (fun t (e : NK × V × V) => w2 H1 b l t = some (.tup [e.2.1, e.2.2])) ts kvs := paired_imp (fun t e ⟨h1, h2⟩ => w2_at (B0.ne h2) (ne_of h1 e1 (fun z => nomatch z)) h1) pr
    have lts : ts.length = kvs.length := Paired.length wr1
    have sub0 : Same (wo H b) (w2 H1 b l) := fun c o h => by
      obtain ⟨h1, h2⟩ := wo_of h
      exact w2_at h1 (fun z => by rw [z, hlH] at h2; cases h2) (s1.get h2 h1)
    refine ⟨l, _, e1, _, rfl, b, rfl, hB.aside hlH s1 B1, fun xo dO H2 tO bO fO B2 s2' n2 => ⟨_, _, rfl, ?_⟩⟩
    have s2'' := Sb.back lb e1 s2'
    have tO2 := tO.more (w2_back (b := b) (o := .lst (ts.map V.ref)) n2)
    have e2 : upd H2 l (.lst (ts.map V.ref)) l = some (.lst (ts.map V.ref)) := upd_same
    have B2' := B2.new (o := .lst (ts.map V.ref)) n2
    have s2 := s1.trans s2''
    have wr2 := paired_imp (fun t e h => (w2_sb s2'' : Same (w2 H1 b l) _) _ _ h) wr1
    have sub2 := sub0.trans (w2_sb s2'')
    clear tO B2 s2' s2'' n2 wr1 sub0 pr
    generalize upd H2 l (.lst (ts.map V.ref)) = G2 at tO2 e2 B2' s2 wr2 sub2 ⊢
    -- the key
    refine ⟨_, rfl, by show 2 ≤ sizeLine; decide, fun t1 u1 => ?_⟩
    have Ba := B2'.new (o := .tup [.str "feed", .str "zz"]) u1
    have sa := (Sb.refl b G2).new (o := .tup [.str "feed", .str "zz"]) u1
    have f1 : upd G2 t1 (.tup [.str "feed", .str "zz"]) t1 = some (.tup [.str "feed", .str "zz"]) := upd_same
    have n1 := B2'.ne u1
    generalize upd G2 t1 (.tup [.str "feed", .str "zz"]) = Ga at Ba sa f1 ⊢
    refine ⟨by show 1 ≤ sizeLine; decide, fun t2 u2 => ?_⟩
    have Bb := Ba.new (o := .tup [.str "a"]) u2
    have sb := sa.new (o := .tup [.str "a"]) u2
    have f1 := s3u (o := .tup [.str "a"]) u2 f1
    have f2 : upd Ga t2 (.tup [.str "a"]) t2 = some (.tup [.str "a"]) := upd_same
    have n2 := Ba.ne u2
    generalize upd Ga t2 (.tup [.str "a"]) = Gb at Bb sb f1 f2 ⊢
    refine ⟨by show 2 ≤ sizeLine; decide, fun t3 u3 => ?_⟩
    have Bc := Bb.new (o := .tup [.str "feed", .str "feed"]) u3
    have sc := sb.new (o := .tup [.str "feed", .str "feed"]) u3
    have f1 := s3u (o := .tup [.str "feed", .str "feed"]) u3 f1
    have f2 := s3u (o := .tup [.str "feed", .str "feed"]) u3 f2
    have f3 : upd Gb t3 (.tup [.str "feed", .str "feed"]) t3 = some (.tup [.str "feed", .str "feed"]) := upd_same
    have n3 := Bb.ne u3
    generalize upd Gb t3 (.tup [.str "feed", .str "feed"]) = Gc at Bc sc f1 f2 f3 ⊢
    refine ⟨by show 6 ≤ sizeLine; decide, fun q1 w1 => ⟨b, q1, _, rfl, Bc.new w1, sql_new upd_same (Bc.ne w1), (fun z => nomatch z), by show 6 ≤ 1000000; decide, fun kx G3 hx B3 s3' => ?_⟩⟩
    have sd := ((Sb.refl b Gc).new (o := .lst [.str "zz", .str "feed", .ref t1, .ref t2, .int 0, .ref t3]) w1).trans s3'
    have s3 := sc.trans sd
    have e3 := s3.get e2 lb
    have tl : ∀ {c : Addr} {ys : List V}, Gc c = some (.tup ys) → c ≠ b → w2 G3 b l c = some (.tup ys) := fun {c ys} h n => w2_at n (ne_of (sd.get h n) e3 (fun z => nomatch z)) (sd.get h n)
    have cdF : Cd feed ∧ feed.length ≤ 20 := ⟨by show ∀ c ∈ feed.cps.toList, c < 200; decide +kernel, by decide +kernel⟩
    have cdZ : Cd "zz" ∧ ("zz" : Str).length ≤ 20 := ⟨by show ∀ c ∈ ("zz" : Str).cps.toList, c < 200; decide +kernel, by decide +kernel⟩
    have cdA : Cd "a" ∧ ("a" : Str).length ≤ 20 := ⟨by show ∀ c ∈ ("a" : Str).cps.toList, c < 200; decide +kernel, by decide +kernel⟩
    obtain ⟨kk, hK, hKP⟩ : ∃ kk, KeyV K (w2 G3 b l) kx kk ∧ KP kk := by
      simp only [List.mem_cons, List.not_mem_nil, or_false] at hx
      rcases hx with rfl | rfl | rfl | rfl | rfl | rfl
      · exact ⟨.text "zz", .str _, .inl ⟨_, rfl, cdZ⟩⟩
      · exact ⟨.text feed, .str _, .inl ⟨_, rfl, cdF⟩⟩
      · exact ⟨.tup [.text feed, .text "zz"], .tup (tl f1 n1) (.cons (.str _) (.cons (.str _) .nil)), .inr (.inr ⟨[feed, "zz"], by decide, fun z hz => by
          simp only [List.mem_cons, List.not_mem_nil, or_false] at hz
          rcases hz with rfl | rfl
          · exact cdF
          · exact cdZ, rfl⟩)⟩
      · exact ⟨.tup [.text "a"], .tup (tl f2 n2) (.cons (.str _) .nil), .inr (.inr ⟨["a"], by decide, fun z hz => by
          rw [List.mem_singleton.mp hz]
          exact cdA, rfl⟩)⟩
      · exact ⟨.num 0, .int 0, .inr (.inl rfl)⟩
      · exact ⟨.tup [.text feed, .text feed], .tup (tl f3 n3) (.cons (.str _) (.cons (.str _) .nil)), .inr (.inr ⟨[feed, feed], by decide, fun z hz => by
          simp only [List.mem_cons, List.not_mem_nil, or_false, or_self] at hz
          rw [hz]
          exact cdF, rfl⟩)⟩
    have tO3 := tO2.more (w2_sb s3)
    have wr3 := paired_imp (fun t e h => (w2_sb s3 : Same (w2 G2 b l) _) _ _ h) wr2
    have sub3 := sub2.trans (w2_sb s3)
    have s03 := s2.trans s3
    clear sa sb sc sd f1 f2 f3 n1 n2 n3 u1 u2 u3 Ba Bb Bc tl w1 s3' s3 tO2 wr2 sub2 e2 B2' s2 hx
    -- the worth
    refine ⟨_, rfl, 1, rfl, _, rfl, by show 7 ≤ sizeLine; decide, fun q2 u2 => ⟨b, q2, _, rfl, B3.new u2, sql_new upd_same (B3.ne u2), (fun z => nomatch z), by show 7 ≤ 1000000; decide, fun wx G4 hx B4 s4' => ?_⟩⟩
    have s4 := ((Sb.refl b G3).new (o := .lst [.bl true, .int 0, .int (-1), .non, .str "1", .int 1, xo]) u2).trans s4'
    have e4 := s4.get e3 lb
    have hK4 := hK.more (w2_sb (l := l) s4)
    have tO4 := tO3.more (w2_sb (l := l) s4)
    have wr4 := paired_imp (fun t e h => (w2_sb s4 : Same (w2 G3 b l) _) _ _ h) wr3
    have sub4 := sub3.trans (w2_sb s4)
    have s04 := s03.trans s4
    have fi : ∀ n : Int, n.natAbs ≤ 1 → Bd 60 (.int n) ∧ Fit 1000 3 (.int n) := fun n hn => by
      refine ⟨?_, (fit_int (n := 1) (by decide) (by omega) (by decide)).mono (by decide) (by decide)⟩
      simp only [Bd]
      exact Nat.lt_of_le_of_lt hn (by decide)
    obtain ⟨dw, hW, hWb, hWf⟩ : ∃ dw, DatV K (w2 G4 b l) wx dw ∧ Bd 60 dw ∧ Fit 1000 3 dw := by
      simp only [List.mem_cons, List.not_mem_nil, or_false] at hx
      rcases hx with rfl | rfl | rfl | rfl | rfl | rfl | rfl
      · exact ⟨.bool true, .bl _, by simp only [Bd], bool_fit _⟩
      · exact ⟨.int 0, .int _, fi _ (by decide)⟩
      · exact ⟨.int (-1), .int _, fi _ (by decide)⟩
      · exact ⟨.none, .non, by simp only [Bd], ⟨by decide +kernel, by decide +kernel, by decide +kernel⟩⟩
      · exact ⟨.str "1", .str _, by simp only [Bd]; decide +kernel, ⟨by decide +kernel, by decide +kernel, by decide +kernel⟩⟩
      · exact ⟨.int 1, .int _, fi _ (by decide)⟩
      · exact ⟨dO, tO4.1, Bd.up (by decide) bO, fO⟩
    obtain ⟨ds0, ents⟩ := ents_amt (K := K) (G := w2 G4 b l) (kvs := kvs) fun p hp => by
      obtain ⟨o, _, _, _, h4⟩ := id hD
      exact ⟨(h4 p hp).1.more sub4, (hk p hp).1, (hk p hp).2⟩
    have hD4 := hD.more sub4
    clear s4' s4 tO3 wr3 sub3 s03 e3 B3 hx u2 hK sub4
    have lk2 : ts.length ≤ 60 := by omega
    have pick : ∀ {es : List (NK × V × V)} {ds : List PyData} {G : Hp}, Paired (EntP K G) es ds → ∀ x ∈ es, ∃ d, EntP K G x d := fun {es ds G} h => by
      induction h with
      | nil => exact fun _ z => nomatch z
      | cons h _ ih =>
        intro x hx
        rcases List.mem_cons.mp hx with rfl | hx
        · exact ⟨_, h⟩
        · exact ih x hx
    -- a dict of pairs is a thing
    have dicT : ∀ (G : Hp) (p : Addr) (o : Obj) (es : List (NK × V × V)) (ds : List PyData), Bag G b → G p = none → Paired (EntP K (wo G b)) es ds → es.length ≤ 61 → Dx w K (upd G p (objO p o)) p (mergeX es) → ∃ d, Tg w K (wo (upd G p (objO p o)) b) (.ref p) d := fun G p o es ds BG hp en le dx => by
      have npb := BG.ne hp
      have mo : Same (wo G b) (wo (upd G p (objO p o)) b) := wo_same (same_new (Same.refl G) hp)
      obtain ⟨o', h1, h2, h3, h4⟩ := dx
      have ml : (mergeX es).length ≤ 61 := by
        have := merge_len es.length es
        rw [List.take_length] at this
        omega
      obtain ⟨d, h, _⟩ := dx_tg (w := w) (K := K) (G := wo (upd G p (objO p o)) b) (a := p) (l := mergeX es)
        ⟨o', (wo_ne npb).trans h1, h2, h3, fun e he => ⟨merge_keys (R := fun kk v => KeyV K (wo (upd G p (objO p o)) b) v kk) (fun x hx => by obtain ⟨d, h⟩ := pick en x hx; exact h.1.more mo) e he, (h4 e he).2⟩⟩
        (fun e he => merge_keys (R := fun kk _ => KP kk) (fun x hx => by obtain ⟨d, h⟩ := pick en x hx; exact h.2.1) e he)
        (fun e he => merge_vals (R := fun v => ∃ d, DatV K (wo (upd G p (objO p o)) b) v d ∧ Bd 60 d ∧ Fit 1000 3 d) (fun x hx => by obtain ⟨d, h⟩ := pick en x hx; exact ⟨d, h.2.2.1.more mo, h.2.2.2⟩) e he) (by omega)
      exact ⟨d, h⟩
    have prn : ∀ {G : Hp} {ts : List Addr} {es : List (NK × V × V)} {ds : List PyData}, Paired (fun t (e : NK × V × V) => wo G b t = some (.tup [e.2.1, e.2.2])) ts es → Paired (EntP K (wo G b)) es ds → Paired (PrN K G) ts es := fun {G ts es ds} h g => by
      induction h generalizing ds with
      | nil => exact .nil
      | cons h _ ih =>
        cases g with
        | cons g1 g2 => exact .cons ⟨SqT.of (wo_of h).2, g1.1.more (wo_sub G b), kp_depth g1.2.1⟩ (ih g2)
    -- behind the store
    have rest : ∀ (G : Hp) (t' : Addr) (e' : NK × V × V) (d' : PyData) (j : Nat), Bag G b → Sb b G4 G → G t' = some (.tup [e'.2.1, e'.2.2]) → t' ≠ b → EntP K (w2 G b l) e' d' → rDictN w K [.ref l] (upd G l (.lst ((ts.map V.ref).set j (.ref t')))) Q := fun G t' e' d' j BG sG ht' ntb en' => by
      have el := sG.get e4 lb
      have ntl : t' ≠ l := ne_of ht' el (fun z => nomatch z)
      have B5 := hB.wr (o := .lst ((ts.map V.ref).set j (.ref t'))) hlH (s04.trans sG) BG
      have s5 := (s04.trans sG).wr (o := .lst ((ts.map V.ref).set j (.ref t'))) hlH
      have mo : Same (w2 G b l) (wo (upd G l (.lst ((ts.map V.ref).set j (.ref t')))) b) := (w2_upd (b := b)).trans w2_wo
      have wr5 := paired_set (R := fun t (e : NK × V × V) => wo (upd G l (.lst ((ts.map V.ref).set j (.ref t')))) b t = some (.tup [e.2.1, e.2.2])) (mo _ _ (w2_at ntb ntl ht')) (paired_imp (fun t e h => mo _ _ ((w2_sb sG : Same (w2 G4 b l) _) _ _ h)) wr4) j
      have en5 := paired_set (R := EntP K (wo (upd G l (.lst ((ts.map V.ref).set j (.ref t')))) b)) (en'.more mo) (paired_imp (fun e d h => (h.more (w2_sb sG)).more mo) ents) j
      have eq : (ts.map V.ref).set j (.ref t') = (ts.set j t').map V.ref := by rw [List.map_set]
      have e5 : upd G l (.lst ((ts.map V.ref).set j (.ref t'))) l = some (.lst ((ts.set j t').map V.ref)) := by rw [upd_same, eq]
      generalize upd G l (.lst ((ts.map V.ref).set j (.ref t'))) = G5 at B5 s5 wr5 en5 e5 ⊢
      refine ⟨l, ts.set j t', kvs.set j e', rfl, SqL.of e5, prn wr5 en5, fun p o hp dx => ?_⟩
      obtain ⟨d, h⟩ := dicT G5 p o _ _ B5 hp en5 (by rw [List.length_set]; omega) dx
      exact k (.ref p) d _ h (B5.new hp) (s5.new hp)
    refine ⟨fun σ' G => σ' = [some (.ref b), some (.ref a), some (.ref l), some xo, some kx, some wx, none] ∧ Bag G b ∧ Sb b G4 G, ?_, ?_⟩
    · refine ⟨_, rfl, by show 0 ≤ sizeLine; decide, fun e he => ⟨l, e, _, rfl, rfl, SqL.of (s3u he e4), SqL.of upd_same, _, rfl, ?_⟩⟩
      have Be := B4.new (o := .lst []) he
      have se := (Sb.refl b G4).new (o := .lst []) he
      generalize upd G4 e (.lst []) = Ge at Be se ⊢
      refine ite2 (fun hne => ?_) (fun _ => ⟨rfl, Be, se⟩)
      have pos : 0 < ts.length := by
        cases ts with
        | nil => exact absurd hne (by decide)
        | cons _ _ => simp
      refine ⟨_, rfl, b, 3, rfl, Be, by decide, by decide, fun v5 G5 _ _ B5 s5' => ⟨_, _, rfl, rfl, _, rfl, ?_⟩⟩
      have s5 := se.trans s5'
      refine ite2 (fun _ => ?_) (fun _ => ⟨rfl, B5, s5⟩)
      refine ⟨_, rfl, _, rfl, l, ts.map V.ref, rfl, .inl (SqL.of (s5.get e4 lb)), b, _, rfl, B5, by rw [List.length_map]; omega, by rw [List.length_map]; exact Nat.lt_of_le_of_lt (show ((ts.length : Int)).natAbs ≤ 1000 by omega) (by decide), fun at' G6 a0 a1 B6 s6' => ?_⟩
      rw [List.length_map] at a1
      have s6 := s5.trans s6'
      refine ⟨_, rfl, b, 3, rfl, B6, by decide, by decide, fun v7 G7 _ _ B7 s7' => ⟨_, _, rfl, rfl, _, rfl, ?_⟩⟩
      have s7 := s6.trans s7'
      have e7 := s7.get e4 lb
      have hj : at'.toNat < ts.length := by omega
      have ea : at' = ((at'.toNat : Nat) : Int) := by omega
      obtain ⟨tj, htj⟩ : ∃ t, ts[at'.toNat]? = some t := ⟨_, List.getElem?_eq_getElem hj⟩
      obtain ⟨ej, hej, wj⟩ := paired_at wr4 htj
      obtain ⟨dj, hdj, enj⟩ := paired_at ents hej
      have wj7 := (w2_get ((w2_sb s7 : Same (w2 G4 b l) _) _ _ wj)).2.2
      have hat : atI (ts.map V.ref) at' = some (.ref tj) := by rw [ea]; exact atI_nat (by rw [List.getElem?_map, htj]; rfl)
      have hix : ixN (ts.map V.ref).length at' = some at'.toNat := by rw [ea]; unfold ixN; rw [List.length_map, if_pos (by omega), if_pos (by omega)]; first | done | rfl
      have enj7 := enj.more (w2_sb s7)
      refine ite2 (fun _ => ?_) (fun _ => ?_)
      · refine ⟨_, rfl, _, rfl, l, _, at', .ref tj, rfl, rfl, SqL.of e7, hat, tj, _, 0, ej.2.1, rfl, rfl, SqT.of wj7, at0, _, rfl, by show 2 ≤ sizeLine; decide, fun t' ht' => ?_⟩
        have B8 := B7.new (o := .tup [ej.2.1, wx]) ht'
        have s8 := s7.new (o := .tup [ej.2.1, wx]) ht'
        have f8 : upd G7 t' (.tup [ej.2.1, wx]) t' = some (.tup [ej.2.1, wx]) := upd_same
        have n8 := B7.ne ht'
        have mo8 : Same (w2 G7 b l) (w2 (upd G7 t' (.tup [ej.2.1, wx])) b l) := w2_sb ((Sb.refl b G7).new ht')
        have enj8 : EntP K (w2 (upd G7 t' (.tup [ej.2.1, wx])) b l) (ej.1, ej.2.1, wx) dw := ⟨enj7.1.more mo8, enj7.2.1, (hW.more (w2_sb s7)).more mo8, hWb, hWf⟩
        have e8 := s8.get e4 lb
        exact ⟨_, rfl, _, rfl, l, _, at', at'.toNat, rfl, rfl, e8, hix, _, rfl, rest _ t' (ej.1, ej.2.1, wx) dw _ B8 s8 f8 n8 enj8⟩
      · refine ⟨_, rfl, _, rfl, _, rfl, l, _, at', .ref tj, rfl, rfl, SqL.of e7, hat, tj, _, 1, ej.2.2, rfl, rfl, SqT.of wj7, at1, by show 2 ≤ sizeLine; decide, fun t' ht' => ?_⟩
        have B8 := B7.new (o := .tup [kx, ej.2.2]) ht'
        have s8 := s7.new (o := .tup [kx, ej.2.2]) ht'
        have f8 : upd G7 t' (.tup [kx, ej.2.2]) t' = some (.tup [kx, ej.2.2]) := upd_same
        have n8 := B7.ne ht'
        have mo8 : Same (w2 G7 b l) (w2 (upd G7 t' (.tup [kx, ej.2.2])) b l) := w2_sb ((Sb.refl b G7).new ht')
        have enj8 : EntP K (w2 (upd G7 t' (.tup [kx, ej.2.2])) b l) (kk, kx, ej.2.2) dj := ⟨(hK4.more (w2_sb s7)).more mo8, hKP, enj7.2.2.1.more mo8, enj7.2.2.2⟩
        have e8 := s8.get e4 lb
        exact ⟨_, rfl, _, rfl, l, _, at', at'.toNat, rfl, rfl, e8, hix, _, rfl, rest _ t' (kk, kx, ej.2.2) dj _ B8 s8 f8 n8 enj8⟩
    · rintro σ5 G5 ⟨rfl, B5, s5⟩
      have e5 := s5.get e4 lb
      have sub5 : Same (w2 G4 b l) (wo G5 b) := (w2_sb s5).trans w2_wo
      have wr5 : Paired (fun t (e : NK × V × V) => wo G5 b t = some (.tup [e.2.1, e.2.2])) ts kvs := paired_imp (fun t e h => sub5 _ _ h) wr4
      have en5 : Paired (EntP K (wo G5 b)) kvs ds0 := paired_imp (fun e d h => h.more sub5) ents
      have hK5 := hK4.more sub5
      have hD5 := hD4.more sub5
      have tO5 := tO4.more sub5
      have sT := s04.trans s5
      clear rest tO4 hK4 hD4 ents wr4 sub5 e4 B4 s04 hW pick s5
      refine ⟨_, rfl, _, rfl, _, rfl, by show 2 ≤ sizeLine; decide, fun tk htk => ?_⟩
      have B6 := B5.new (o := .tup [kx, .int 1]) htk
      have s6 := sT.new (o := .tup [kx, .int 1]) htk
      have m6 : Same (wo G5 b) (wo (upd G5 tk (.tup [kx, .int 1])) b) := wo_same (same_new (Same.refl G5) htk)
      have e6 := s3u (o := .tup [kx, .int 1]) htk e5
      have f6 : wo (upd G5 tk (.tup [kx, .int 1])) b tk = some (.tup [kx, .int 1]) := (wo_ne (B5.ne htk)).trans upd_same
      generalize upd G5 tk (.tup [kx, .int 1]) = G6 at B6 s6 m6 e6 f6 ⊢
      refine ⟨by show 1 ≤ sizeLine; decide, fun l2 hl2 => ⟨l, l2, ts.map V.ref, [.ref tk], rfl, rfl, s3u hl2 e6, upd_same, by rw [List.length_map]; exact Nat.le_of_lt (small1000 (show ts.length + 1 ≤ 1000 by omega)), fun l3 hl3 => ?_⟩⟩
      have B7 := (B6.new (o := .lst [.ref tk]) hl2).new (o := .lst (ts.map V.ref ++ [.ref tk])) hl3
      have s7 := (s6.new (o := .lst [.ref tk]) hl2).new (o := .lst (ts.map V.ref ++ [.ref tk])) hl3
      have m7 : Same (wo G6 b) (wo (upd (upd G6 l2 (.lst [.ref tk])) l3 (.lst (ts.map V.ref ++ [.ref tk]))) b) := (wo_same (same_new (Same.refl G6) hl2)).trans (wo_same (same_new (Same.refl _) hl3))
      have e7 := s3u (o := .lst (ts.map V.ref ++ [.ref tk])) hl3 (s3u (o := .lst [.ref tk]) hl2 e6)
      have f7 : upd (upd G6 l2 (.lst [.ref tk])) l3 (.lst (ts.map V.ref ++ [.ref tk])) l3 = some (.lst ((ts ++ [tk]).map V.ref)) := by rw [upd_same, List.map_append]; rfl
      generalize upd (upd G6 l2 (.lst [.ref tk])) l3 (.lst (ts.map V.ref ++ [.ref tk])) = G7 at B7 s7 m7 e7 f7 ⊢
      have m57 := m6.trans m7
      have hi1 : EntP K (wo G7 b) (kk, kx, .int 1) (.int 1) := ⟨hK5.more m57, hKP, .int 1, fi 1 (by decide)⟩
      have wr7 := paired_app (paired_imp (fun t (e : NK × V × V) h => m57 _ _ h) wr5) (.cons (b := (kk, kx, V.int 1)) (m7 _ _ f6) .nil)
      have en7 := paired_app (paired_imp (fun e d h => EntP.more m57 h) en5) (.cons hi1 .nil)
      refine ⟨l3, ts ++ [tk], kvs ++ [(kk, kx, .int 1)], rfl, SqL.of f7, prn wr7 en7, fun p o hp dx => ?_⟩
      obtain ⟨dp, tp⟩ := dicT G7 p o _ _ B7 hp en7 (by rw [List.length_append]; show _ + 1 ≤ _; omega) dx
      have B8 := B7.new (o := objO p o) hp
      have s8 := s7.new (o := objO p o) hp
      have m8 : Same (wo G7 b) (wo (upd G7 p (objO p o)) b) := wo_same (same_new (Same.refl G7) hp)
      have e8 := s3u (o := objO p o) hp e7
      generalize upd G7 p (objO p o) = G8 at B8 s8 m8 e8 tp ⊢
      refine ⟨_, rfl, _, rfl, l, ts.map V.ref, rfl, .inl ⟨SqL.of e8, fun tt htt => ?_⟩⟩
      have B9 := B8.new (o := .tup (ts.map V.ref)) htt
      have s9 := s8.new (o := .tup (ts.map V.ref)) htt
      have m9 : Same (wo G8 b) (wo (upd G8 tt (.tup (ts.map V.ref))) b) := wo_same (same_new (Same.refl G8) htt)
      have e9 := s3u (o := .tup (ts.map V.ref)) htt e8
      have f9 : wo (upd G8 tt (.tup (ts.map V.ref))) b tt = some (.tup (ts.map V.ref)) := (wo_ne (B8.ne htt)).trans upd_same
      generalize upd G8 tt (.tup (ts.map V.ref)) = G9 at B9 s9 m9 e9 f9 ⊢
      refine ⟨_, rfl, by show 1 ≤ sizeLine; decide, fun l4 hl4 => ?_⟩
      have BA := B9.new (o := .lst [.ref a]) hl4
      have sA := s9.new (o := .lst [.ref a]) hl4
      have mA : Same (wo G9 b) (wo (upd G9 l4 (.lst [.ref a])) b) := wo_same (same_new (Same.refl G9) hl4)
      have eA := s3u (o := .lst [.ref a]) hl4 e9
      have fA : wo (upd G9 l4 (.lst [.ref a])) b l4 = some (.lst [.ref a]) := (wo_ne (B9.ne hl4)).trans upd_same
      generalize upd G9 l4 (.lst [.ref a]) = GA at BA sA mA eA fA ⊢
      have m5A := ((m57.trans m8).trans m9).trans mA
      have m8A := (m9.trans mA)
      refine ⟨_, rfl, by show 6 ≤ sizeLine; decide, fun q hq => ⟨b, q, _, rfl, BA.new hq, sql_new upd_same (BA.ne hq), (fun z => nomatch z), by show 6 ≤ 1000000; decide, fun x H' hx B' s' => ?_⟩⟩
      have sF : Sb b GA H' := ((Sb.refl b GA).new hq).trans s'
      have fin : ∀ d, Tg w K (wo GA b) x d → Q x H' := fun d h => k x d H' (h.more sF.1) B' (sA.trans sF)
      obtain ⟨rs, hrs, hrf⟩ := rows_dat (b := b) (H := GA) (paired_imp (fun t e h => m5A _ _ h) wr5) (paired_imp (fun e d h => h.more m5A) en5)
      have lrs := hrs.len
      rw [List.length_map] at lrs
      have rowF : Fit 300000 5 (.list rs) ∧ Fit 300000 5 (.tuple rs) := by
        have z : rs.length * (2100 + 2) + 3 ≤ 300000 := by omega
        exact ⟨(fit_list fun r hr => (hrf r hr).2).mono z (by decide), (fit_tuple fun r hr => (hrf r hr).2).mono z (by decide)⟩
      have rowB : rs.length ≤ 1000 ∧ BdA 1000 rs := ⟨by omega, bdA_iff.mpr fun r hr => Bd.up (by decide) (hrf r hr).1⟩
      simp only [List.mem_cons, List.not_mem_nil, or_false] at hx
      rcases hx with rfl | rfl | rfl | rfl | rfl | rfl
      · exact fin dp (tp.more m8A)
      · exact fin (.list rs) ⟨th0 (.lst (SqL.of ((wo_ne lb).trans eA)) hrs) (fun _ z => nomatch z), by simp only [Bd]; exact rowB, rowF.1.mono (by decide) (by decide)⟩
      · exact fin (.tuple rs) ⟨th0 (.tup (SqT.of (mA _ _ f9)) hrs) (fun _ z => nomatch z), by simp only [Bd]; exact rowB, rowF.2.mono (by decide) (by decide)⟩
      · exact fin .none ⟨th0 .non (fun _ z => nomatch z), by simp only [Bd], ⟨by decide +kernel, by decide +kernel, by decide +kernel⟩⟩
      · obtain ⟨da, ⟨ta, _, _⟩, tb, tf⟩ := dx_tg (hD5.more m5A) (fun p hp => (hk p hp).1) (fun p hp => by
          obtain ⟨n, e, h1, h2⟩ := (hk p hp).2
          exact ⟨.int n, by rw [e]; exact .int n, amt_fit h1 h2⟩) (by omega)
        refine fin (.list [da]) ⟨th0 (.lst (SqL.of fA) (.cons ta.1 .nil)) (fun _ z => nomatch z), ?_, (fit_list (m := 300000) (k := 4) fun r hr => by rw [List.mem_singleton.mp hr]; exact tf).mono (show 1 * (300000 + 2) + 3 ≤ 2000000 by decide) (by decide)⟩
        simp only [Bd, BdA, and_true]
        exact ⟨show 1 ≤ 1000 by decide, Bd.up (by decide) tb⟩
      · exact fin dO ⟨tO5.more m5A, Bd.up (by decide) bO, fO.mono (by decide) (by decide)⟩
end
end Y

/-! NsTS: sorted(t) of a tuple of texts. -/
namespace Ns
open PySem PySem.Spec PyProof.Rows L2
open PySem.Froz (SD sObj TxOk)
section
variable {P : Program} {w : World} {A : Around} {E : Value → Shared → Prop} {s : Shared}
theorem gath_old {h : Heap} {vs : List Value} {b : Addr} {o : Obj} (e : h.get? b = some o) : (gath h vs).get? b = some o :=
  (Heap.get?_update_other _ _ (Nat.ne_of_gt (Heap.lt_size e))).trans (Heap.get?_push_of_some _ e)
theorem sorted_tupS {l : Addr} {vs : List Value} {us : List Str} {Q : Value → Shared → Prop} (hl : IsTup s.heap l vs.toArray) (hS : StrsAre vs us) (few : vs.length < 64)
    (q : ∀ (h' : Heap) (p : Addr) (out : Array Value) (c : Nat) (ys : List Str), (∀ b o, s.heap.get? b = some o → h'.get? b = some o) → s.heap.objs.size ≤ p → h'.get? p = some (seqObj "list" out c) → StrsAre out.toList ys → sortedS ys = true → ys.Perm us → Q (.ref p) { s with heap := h' }) :
    wpAny (model P w) A (call (.builtin "sorted") [.ref l]) Q E s := by
  have hz : vs.length ≤ sizeLine := by rw [sizeLine_eq]; omega
  have sz : (gath s.heap vs).objs.size = s.heap.objs.size + 1 := by rw [Heap.size_update, size_push']
  have hoL : ((gath s.heap vs).push (seqObj "list" vs.toArray 0)).get? (s.heap.objs.size + 1) = some (seqObj "list" vs.toArray 0) := by rw [← sz]; exact Heap.get?_push_size _ rfl
  refine Calls.call_function_entry kind_sorted plain_sorted entry_sorted (args_sorted1 _) ?_
  unfold Builtin.«sorted»
  refine wpAny_bind (m := checkCount "sorted" 1 1 _) (wpAny_pure (wpAny_bind (gather_tup hl hz (wpAny_bind (wpAny_newList ?_ hz)))))
  show wpAny _ _ _ _ _ { s with heap := (gath s.heap vs).push (seqObj "list" vs.toArray 0) }
  rw [sz]
  refine wpAny_bind (wpAny_holding (wpAny_call_entry slot_list_sort ⟨_, hoL, rfl⟩ entry_list_sort
    (list_sort_treeK strKind_oneLt (s := { s with heap := (gath s.heap vs).push (seqObj "list" vs.toArray 0) }) hoL hS.keysOf (fun v₁ v₂ rest e => keyKind_strs (by rw [← e]; exact hS)) few fun st' hp hs => ⟨_, rfl, ?_⟩) (args_list_sort _)))
  obtain ⟨ys, y1, y2, y3⟩ := sorted_out_str hS hp hs
  obtain ⟨c, hc⟩ := sortedHeap_at (vs := vs) (out := (arrOf st').map (·.2)) hoL
  refine wpAny_pure ⟨_, rfl, q _ (s.heap.objs.size + 1) _ c ys (fun b u e => ?_) (Nat.le_succ _) hc y1 y3 y2⟩
  have lt := Heap.lt_size e
  have k2 : ((gath s.heap vs).push (seqObj "list" vs.toArray 0)).get? b = some u := Heap.get?_push_of_some _ (gath_old e)
  have top : b < ((gath s.heap vs).push (seqObj "list" vs.toArray 0)).objs.size := Heap.lt_size k2
  have same := sortedHeap_old (h := (gath s.heap vs).push (seqObj "list" vs.toArray 0)) (vs := vs) (out := (arrOf st').map (·.2)) (Nat.ne_of_lt (Nat.lt_succ_of_lt (Heap.lt_size e))) top
  rw [k2] at same
  exact same
end
/-- sorted(t), a tuple of texts -/
def rSortedTS (K : PySem.W.Frag) : List V → Hp → VK → Prop := fun vs H Q => ∃ (a : Addr) (xs : List Str), vs = [.ref a] ∧ SqT K H a (xs.map V.str) ∧ xs.length < 64 ∧ ∀ (ys : List Str) (p : Addr), ys.Perm xs → sortedS ys = true → H p = none → Q (.ref p) (upd H p (.lst (ys.map V.str)))
theorem cr_sortedTS {X : Cx} : CallR X (.builtin "sorted") (rSortedTS X.K) := by
  intro pins s σ H vs us Q I r h
  obtain ⟨a, xs, rfl, hs, h64, q⟩ := h
  obtain ⟨its, rv, hl, hz⟩ := I.tuple hs
  have l0 := rv.length
  rw [List.length_map] at l0
  rw [Vals.ref1 r]
  refine sorted_tupS hl rv.strs (by omega) fun h' p out c ys kp hp hat y1 y2 y3 => ?_
  have len : (ys.map V.str).length ≤ sizeLine := by rw [List.length_map, y3.length_eq]; exact small64 h64
  exact ⟨.ref p, upd H p (.lst (ys.map V.str)), I.laid (t' := s.toks) kp hp ⟨len, out.toList, c, vals_of_strs y1, hat⟩, rfl, q ys p y3 y2 (I.hok.fresh hp)⟩
end Ns

/-! ML6: _law_things. -/
namespace Y
open PySem PySem.Spec PyProof.Rows L2 Ns Mx
open C8 (pss_cut)
theorem nmC {z : Str} (h : Nm z) : Cd z ∧ z.length ≤ 20 := ⟨(nm_codes (.inl h)).1, h.len.2⟩
theorem feedC : Cd feed ∧ feed.length ≤ 20 := ⟨by show ∀ c ∈ feed.cps.toList, c < 200; decide +kernel, by decide +kernel⟩
/-- a plain row -/
def W3 (K : PySem.W.Frag) (G : Hp) (x : V) : Prop := ∃ d, DatV K G x d ∧ In 42 2 d ∧ Bd 300 d
theorem W3.more {K : PySem.W.Frag} {G G' : Hp} (m : Same G G') {x : V} (h : W3 K G x) : W3 K G' x := by
  obtain ⟨d, h1, h2⟩ := h
  exact ⟨d, h1.more m, h2⟩
theorem in_nodict {m j : Nat} {d : PyData} (h : In m j d) : ∀ k, d ≠ .dict k := fun k e => by
  have pl : ¬ Pl (.dict k) := fun z => by rcases z with ⟨_, z, _⟩ | ⟨_, z, _⟩ | z <;> cases z
  rw [e] at h
  cases j with
  | zero => exact pl h
  | succ j => exact (show Pl _ ∨ _ from h).elim pl fun ⟨_, z, _⟩ => nomatch z
theorem cl_big {d : PyData} (h : Cl 43 2 d) : Fit 2000000 10 d := h.fit.mono (by decide) (by decide)
theorem W3.tg {w : World} {K : PySem.W.Frag} {G : Hp} {x : V} (h : W3 K G x) : ∃ d, Tg w K G x d := by
  obtain ⟨d, h1, h2, h3⟩ := h
  exact ⟨d, th0 h1 (in_nodict h2), Bd.up (by decide) h3, cl_big (h2.cl (by decide))⟩
theorem w3_strs {K : PySem.W.Frag} {G : Hp} {a : Addr} {zs : List Str} (h : SqT K G a (txs zs)) (hz : ∀ z ∈ zs, Cd z ∧ z.length ≤ 20) (l : zs.length ≤ 42) : W3 K G (.ref a) := by
  refine ⟨_, .tup h (datA_strs zs), .inr ⟨_, rfl, by rw [List.length_map]; exact l, fun u hu => .inl ?_⟩, ?_⟩
  · obtain ⟨z, hz', rfl⟩ := List.mem_map.mp hu
    exact .inl ⟨z, rfl, (hz z hz').2, (hz z hz').1⟩
  · simp only [Bd]
    refine ⟨by rw [List.length_map]; omega, bdA_iff.mpr fun u hu => ?_⟩
    obtain ⟨z, hz', rfl⟩ := List.mem_map.mp hu
    have := (hz z hz').2
    simp only [Bd]
    omega
/-- the names and the two lots -/
structure T1 (K : PySem.W.Frag) (G : Hp) (pn pl pc : Addr) (nm zl zc : List Str) : Prop where
  hn : ∀ z ∈ nm, Cd z ∧ z.length ≤ 20
  ln : nm.length ≤ 24
  qn : SqL K G pn (txs nm)
  hl : ∀ z ∈ zl, Cd z ∧ z.length ≤ 20
  ll : zl.length ≤ 24
  ql : SqT K G pl (txs zl)
  hc : ∀ z ∈ zc, Cd z ∧ z.length ≤ 20
  lc : zc.length ≤ 24
  qc : SqT K G pc (txs zc)
theorem T1.more {K : PySem.W.Frag} {G G' : Hp} (m : Same G G') {pn pl pc : Addr} {nm zl zc : List Str} (h : T1 K G pn pl pc nm zl zc) : T1 K G' pn pl pc nm zl zc :=
  ⟨h.hn, h.ln, m.seq h.qn, h.hl, h.ll, sqt_more m h.ql, h.hc, h.lc, sqt_more m h.qc⟩
/-- a dict of amounts -/
structure Dd (w : World) (K : PySem.W.Frag) (G : Hp) (a : Addr) : Prop where
  ex : ∃ kvs, Dx w K G a kvs ∧ (∀ p ∈ kvs, KP p.1 ∧ Amt p.2.2) ∧ kvs.length ≤ 60
theorem Dd.more {w : World} {K : PySem.W.Frag} {G G' : Hp} (m : Same G G') {a : Addr} (h : Dd w K G a) : Dd w K G' a := by
  obtain ⟨kvs, h1, h2⟩ := h.ex
  exact ⟨kvs, h1.more m, h2⟩
theorem Dd.tg {w : World} {K : PySem.W.Frag} {G : Hp} {a : Addr} (h : Dd w K G a) : ∃ d, Tg w K G (.ref a) d := by
  obtain ⟨kvs, h1, h2, h3⟩ := h.ex
  obtain ⟨d, g, _⟩ := dx_tg h1 (fun p hp => (h2 p hp).1) (fun x hx => by
    obtain ⟨n, e, g1, g2⟩ := (h2 x hx).2
    rw [e]
    exact ⟨_, .int n, amt_fit g1 g2⟩) (by omega)
  exact ⟨d, g⟩
theorem lot_pick {us zs xs : List Str} {m : Nat} (pu : us.Perm xs) (pz : zs.Perm (us.take m)) (hx : ∀ z ∈ xs, Cd z ∧ z.length ≤ 20) (l : xs.length ≤ 24) : (∀ z ∈ zs, Cd z ∧ z.length ≤ 20) ∧ zs.length ≤ 24 := by
  refine ⟨fun z hz => hx z (pu.mem_iff.mp (List.mem_of_mem_take (pz.mem_iff.mp hz))), ?_⟩
  rw [pz.length_eq, List.length_take, pu.length_eq]
  omega
/-- things to be judged: a new list -/
def spThings (w : World) (K : PySem.W.Frag) : Sp := fun as H Q _ => ∃ (b : Addr) (y : V) (cs : List Cab) (rs : List Car), as = [.ref b, y] ∧ Bag H b ∧ YardV K (wo H b) y cs rs ∧ YardF (10 ^ 12) cs rs ∧
  ∀ (p : Addr) (xs : List V) (H' : Hp), H' p = some (.lst xs) → p ≠ b → xs.length ≤ 14 → (∀ x ∈ xs, ∃ d, Tg w K (wo H' b) x d) → Bag H' b → Sb b H H' → Q (.ref p) H'
section
variable {P : Program} {w : World} {K : PySem.W.Frag} {mg : Str → Option Value} {base : Heap}
theorem scTh : FnScope ["bag", "yard", "names", "knots", "lot", "cut", "amounts", "flow", "copies", "found", "one", "other", "cap", "k", "thing"] ["bag", "yard"] (defScope sThings) := ⟨rfl, rfl, rfl, by decide +kernel, rfl, by decide +kernel, by decide +kernel⟩
theorem ok_things {f fT fS fM fC fKn fD fB fE fO : Addr} {fd dT dS dM dC dKn dD dB dE dO : FuncData} (F : Fun K "_law_things" "_law_things" sThings f fd) (T : Nat0 mg)
    (GT : FnOk P w K mg base CX0 1 fT dT ["bag", "many"] spTake) (FT : Fun K "_law_take" "_law_take" sTake fT dT) (mT : mg "_law_take" = some (.ref fT)) (bT : Binds K dT ["bag", "many"] [])
    (GS : FnOk P w K mg base CX0 2 fS dS ["bag", "things"] (spSome K)) (FS : Fun K "_law_some" "_law_some" sSome fS dS) (mS : mg "_law_some" = some (.ref fS)) (bS : Binds K dS ["bag", "things"] [])
    (GM : FnOk P w K mg base CX0 2 fM dM ["bag", "things"] (spMixed K)) (FM : Fun K "_law_mixed" "_law_mixed" sMixed fM dM) (mM : mg "_law_mixed" = some (.ref fM)) (bM : Binds K dM ["bag", "things"] [])
    (GC : FnOk P w K mg base CX0 1 fC dC ["yard"] (spNamesOf K)) (FC : Fun K "_law_all_cars" "_law_all_cars" sAllCars fC dC) (mC : mg "_law_all_cars" = some (.ref fC)) (bC : Binds K dC ["yard"] [])
    (GKn : FnOk P w K mg base CX0 1 fKn dKn ["yard"] (spKnots K)) (FKn : Fun K "_law_knots" "_law_knots" sKnots fKn dKn) (mKn : mg "_law_knots" = some (.ref fKn)) (bKn : Binds K dKn ["yard"] [])
    (GD : FnOk P w K mg base CX0 3 fD dD ["bag", "keys"] (spDictOf w K)) (FD : Fun K "_law_dict_of" "_law_dict_of" sDictOf fD dD) (mD : mg "_law_dict_of" = some (.ref fD)) (bD : Binds K dD ["bag", "keys"] [])
    (GB : FnOk P w K mg base CX0 6 fB dB ["bag", "thing", "deep"] (spBentM w K 2)) (FB : Fun K "_law_bent" "_law_bent" sBent fB dB) (mB : mg "_law_bent" = some (.ref fB)) (bB : Binds K dB ["bag", "thing", "deep"] [])
    (GE : FnOk P w K mg base CX0 4 fE dE ["bag", "thing"] (spBentDict w K)) (FE : Fun K "_law_bent_dict" "_law_bent_dict" sBentDict fE dE) (mE : mg "_law_bent_dict" = some (.ref fE)) (bE : Binds K dE ["bag", "thing"] [])
    (GO : FnOk P w K mg base CX0 3 fO dO ["bag"] (spOddT w K)) (FO : Fun K "_law_odd" "_law_odd" sOdd fO dO) (mO : mg "_law_odd" = some (.ref fO)) (bO : Binds K dO ["bag"] []) : FnOk P w K mg base CX0 7 f fd ["bag", "yard"] (spThings w K) := by
  refine F.ok scTh (fun as H Q E h => ?_) (fun cdv A outer s H as Q E hr h => ?_)
  · obtain ⟨b, y, cs, rs, rfl, _⟩ := h
    rfl
  · obtain ⟨b, y, cs, rs, rfl, hB, hY, hF, k⟩ := h
    have hr1 : Room 1 _ := hr.mono (by decide)
    have hr2 : Room 2 _ := hr.mono (by decide)
    have hr3 : Room 3 _ := hr.mono (by decide)
    have hr4 : Room 4 _ := hr.mono (by decide)
    refine ⟨_, (pss_cons (ps_par (i := 2) (j := 3) rfl scTh.nd rfl rfl (by decide) rfl rfl (pa_cons (pe_callTy call_list_of (by rfl) T.list_ (by decide +kernel) (pa_cons (pe_call GC hr1 rfl mC FC.kp bC .nil pass0 (pa_cons (pv 1) pa_nil)) pa_nil)) (pa_cons (pe_call GKn hr1 rfl mKn FKn.kp bKn .nil pass0 (pa_cons (pv 1) pa_nil)) pa_nil)) (by rfl)) (pss_cons (ps_set (i := 4) scTh.nd rfl (.inl rfl) (pe_callTy call_tuple_of (by rfl) T.tuple (by decide +kernel) (pa_cons (pe_callB cr_sortedS (by rfl) T.sorted (by decide +kernel) (pa_cons (pe_slice sl_list (pe_call GM hr2 rfl mM FM.kp bM .nil pass0 (pa_cons (pv 0) (pa_cons (pv 2) pa_nil))) po_none (po_some (pe_call GT hr1 rfl mT FT.kp bT .nil pass0 (pa_cons (pv 0) (pa_cons (pe_op op_add (pe_callB call_len_seq (by rfl) T.len PySem.boot_len (pa_cons (pv 2) pa_nil)) pe_int) pa_nil))))) pa_nil)) pa_nil))) (pss_cut (ps_set (i := 5) scTh.nd rfl (.inl rfl) (pe_callTy call_tuple_of (by rfl) T.tuple (by decide +kernel) (pa_cons (pe_callB cr_sortedS (by rfl) T.sorted (by decide +kernel) (pa_cons (pe_slice sl_list (pe_call GM hr2 rfl mM FM.kp bM .nil pass0 (pa_cons (pv 0) (pa_cons (pv 3) pa_nil))) po_none (po_some (pe_call GT hr1 rfl mT FT.kp bT .nil pass0 (pa_cons (pv 0) (pa_cons (pe_op op_add (pe_callB call_len_seq (by rfl) T.len PySem.boot_len (pa_cons (pv 3) pa_nil)) pe_int) pa_nil))))) pa_nil)) pa_nil))) (pss_cut (ps_set (i := 6) scTh.nd rfl (.inl rfl) (pe_call GD hr3 rfl mD FD.kp bD .nil pass0 (pa_cons (pv 0) (pa_cons (pe_slice sl_list (pv 2) po_none (po_some (pe_call GT hr1 rfl mT FT.kp bT .nil pass0 (pa_cons (pv 0) (pa_cons (pe_op op_add (pe_callB call_len_seq (by rfl) T.len PySem.boot_len (pa_cons (pv 2) pa_nil)) pe_int) pa_nil))))) pa_nil)))) (pss_cut (ps_set (i := 7) scTh.nd rfl (.inl rfl) (pe_call GD hr3 rfl mD FD.kp bD .nil pass0 (pa_cons (pv 0) (pa_cons (pe_lc (own := [("one", 10), ("other", 11), ("cap", 12)]) (g := gTup K 3 (gCons (gName 10) (gCons (gName 11) (gCons (gName 12) gNil)))) (tt := tYes) rfl scTh.nd (pi_tup (pe_ix ix_tup (pv 1) pe_int (fun _ _ => rfl))) (blkOk_by (N := ["bag", "yard", "names", "knots", "lot", "cut", "amounts", "flow", "copies", "found", "one", "other", "cap", "k", "thing"]) (sc := defScope sThings) (by decide +kernel)) (fun _ _ _ _ _ => pg_tup rfl (pgs_cons (pg_name (i := 10) scTh.nd rfl (.inl rfl)) (pgs_cons (pg_name (i := 11) scTh.nd rfl (.inl rfl)) (pgs_cons (pg_name (i := 12) scTh.nd rfl (.inl rfl)) pgs_nil)))) (fun _ _ _ _ _ => by exact pts_nil) (fun _ _ _ _ _ => (pe_tup (pa_cons (pv 10) (pa_cons (pv 11) pa_nil))))) pa_nil)))) (pss_cut (ps_set (i := 8) scTh.nd rfl (.inl rfl) (pe_callTy call_tuple_of (by rfl) T.tuple (by decide +kernel) (pa_cons (pe_lc (own := [("k", 13)]) (g := gName 13) (tt := tYes) rfl scTh.nd (pi_range1 (by rfl) T.range (pa_cons (pe_call GT hr1 rfl mT FT.kp bT .nil pass0 (pa_cons (pv 0) (pa_cons pe_int pa_nil))) pa_nil)) (blkOk_by (N := ["bag", "yard", "names", "knots", "lot", "cut", "amounts", "flow", "copies", "found", "one", "other", "cap", "k", "thing"]) (sc := defScope sThings) (by decide +kernel)) (fun _ _ _ _ _ => (pg_name (i := 13) scTh.nd rfl (.inl rfl))) (fun _ _ _ _ _ => by exact pts_nil) (fun _ _ _ _ _ => (pe_tup (pa_cons (pe_call GT hr1 rfl mT FT.kp bT .nil pass0 (pa_cons (pv 0) (pa_cons pe_int pa_nil))) (pa_cons (pe_call GS hr2 rfl mS FS.kp bS .nil pass0 (pa_cons (pv 0) (pa_cons (pe_lst (pa_cons pe_non (pa_cons pe_int (pa_cons pe_int (pa_cons pe_non pa_nil))))) pa_nil))) pa_nil))))) pa_nil))) (pss_cut (ps_set (i := 9) scTh.nd rfl (.inl rfl) (pe_lst (pa_cons (pv 4) (pa_cons (pv 5) (pa_cons (pv 8) (pa_cons (pv 6) (pa_cons (pv 7) (pa_cons (pe_callTy call_tuple_of (by rfl) T.tuple (by decide +kernel) (pa_cons (pe_callB cr_sortedTS (by rfl) T.sorted (by decide +kernel) (pa_cons (pe_op op_catP (pv 5) (pe_tup (pa_cons pe_str pa_nil))) pa_nil)) pa_nil)) pa_nil)))))))) (pss_cut (ps_expr (pe_bm PySem.F.plainAttrs_list PySem.F.slot_list_extend PySem.F.type_list_extend mt_extend (pv 9) (pa_cons (pe_pin (pe_lc (own := [("thing", 14)]) (g := gName 14) (tt := tYes) rfl scTh.nd (pi_tup (pe_tup (pa_cons (pv 4) (pa_cons (pv 5) (pa_cons (pv 8) pa_nil))))) (blkOk_by (N := ["bag", "yard", "names", "knots", "lot", "cut", "amounts", "flow", "copies", "found", "one", "other", "cap", "k", "thing"]) (sc := defScope sThings) (by decide +kernel)) (fun _ _ _ _ _ => (pg_name (i := 14) scTh.nd rfl (.inl rfl))) (fun _ _ _ _ _ => by exact pts_nil) (fun _ _ _ _ _ => (pe_pin (pe_call GB hr rfl mB FB.kp bB .nil pass0 (pa_cons (pv 0) (pa_cons (pv 14) (pa_cons pe_int pa_nil)))))))) pa_nil))) (pss_one (ps_ret (pe_op op_cat (pv 9) (pe_lst (pa_cons (pe_call GE hr4 rfl mE FE.kp bE .nil pass0 (pa_cons (pv 0) (pa_cons (pv 6) pa_nil))) (pa_cons (pe_call GE hr4 rfl mE FE.kp bE .nil pass0 (pa_cons (pv 0) (pa_cons (pv 7) pa_nil))) (pa_cons (pe_call GO hr3 rfl mO FO.kp bO .nil pass0 (pa_cons (pv 0) pa_nil)) (pa_cons (pe_op op_catP (pv 4) (pe_slice sl_tupP (pv 4) po_none (po_some pe_int))) (pa_cons (pe_revT (pv 5)) pa_nil))))))))))))))))), ?_⟩
    obtain ⟨kn, kn8, knm, knin⟩ := knIn_feed hF
    obtain ⟨nmC0, nmL⟩ : (∀ z ∈ rs.map (·.1), Cd z ∧ z.length ≤ 20) ∧ (rs.map (·.1)).length ≤ 24 := by
      obtain ⟨ns, nm, N1, N2, N3, N4, C, R⟩ := hF.ex
      exact ⟨fun z hz => nmC (N3.nm z (R.perm.mem_iff.mp hz)), by rw [R.perm.length_eq]; exact N4⟩
    refine ⟨_, rfl, y, cs, rs, rfl, hY.more (wo_sub H b), by rw [List.length_map] at nmL; omega, fun p0 G1 e0 n0 m0 => ⟨p0, txs (rs.map (·.1)), rfl, .inr (SqT.of e0), fun pn hpn => ?_⟩⟩
    have B1 := (hB.keep m0).new (o := .lst (txs (rs.map (·.1)))) hpn
    have s1 := ((Sb.refl b H).same m0).new (o := .lst (txs (rs.map (·.1)))) hpn
    have q1 : SqL K (wo (upd G1 pn (.lst (txs (rs.map (·.1))))) b) pn (txs (rs.map (·.1))) := sql_new upd_same ((hB.keep m0).ne hpn)
    generalize upd G1 pn (.lst (txs (rs.map (·.1)))) = H1 at B1 s1 q1 ⊢
    clear e0 n0 m0 hpn
    generalize rs.map (·.1) = nm at nmC0 nmL q1 ⊢
    refine ⟨_, rfl, y, cs, rs, kn, rfl, (hY.more s1.1).more (wo_sub H1 b), by omega, knin, fun pk ks H2 knd kin e2 n2 m2 => ⟨_, _, rfl, ?_⟩⟩
    have ksC : (∀ z ∈ ks, Cd z ∧ z.length ≤ 20) ∧ ks.length ≤ 24 := by
      refine ⟨fun z hz => ?_, ?_⟩
      · rcases List.mem_cons.mp (knin z ((kin z).mp hz).1) with e | e
        · exact absurd e ((kin z).mp hz).2
        · exact nmC (knm z e)
      · have := sub_len knd (m := feed :: kn) fun z hz => knin z ((kin z).mp hz).1
        rw [List.length_cons] at this
        omega
    have B2 := B1.keep m2
    have s2 := s1.same m2
    have q2 := Same.seq (wo_same m2) q1
    have qk : SqL K (wo H2 b) pk (txs ks) := sql_new e2 (B1.ne n2)
    clear knin knm kn8 n2 m2 e2 kin knd B1 s1 q1
    -- the lot
    have tl : (txs nm).length = nm.length := List.length_map _
    have tk : (txs ks).length = ks.length := List.length_map _
    refine ⟨_, rfl, _, rfl, b, pn, _, rfl, B2, q2, by omega, fun p ys H3 pm e3 f3 n3 B3 s3' => ?_⟩
    obtain ⟨us, pu, rfl⟩ := perm_map (f := V.str) pm rfl
    have s3 := s2.trans s3'
    refine ⟨_, rfl, _, rfl, pn, _, rfl, .inl ((wo_sub H3 b).seq (s3'.1.seq q2)), ((txs nm).length : Int), 1, rfl, rfl, b, _, rfl, B3, by omega, Nat.lt_of_le_of_lt (show ((((txs nm).length : Nat) : Int) + 1).natAbs ≤ 100 by omega) (by decide +kernel), fun v H4 v0 v1 B4 s4' => ?_⟩
    obtain ⟨m, rfl⟩ : ∃ m : Nat, v = m := ⟨v.toNat, by omega⟩
    have s4 := s3'.trans s4'
    refine ⟨_, rfl, p, _, rfl, SqL.of (s4'.get e3 n3), fun q hq => ?_⟩
    rw [cut_upto, show (us.map V.str).take m = (us.take m).map V.str by rw [List.map_take]]
    have ul : (us.take m).length ≤ 24 := by rw [List.length_take, pu.length_eq]; omega
    refine ⟨q, us.take m, rfl, SqL.of upd_same, by omega, fun zl u pz srt hu => ⟨u, zl.map V.str, rfl, .inl ⟨SqL.of upd_same, fun pl hpl => ?_⟩⟩⟩
    obtain ⟨zlC, zlL⟩ := lot_pick pu pz nmC0 nmL
    have B5 := (B4.new (o := .lst ((us.take m).map V.str)) hq).new (o := .lst (zl.map V.str)) hu
    have s5 := ((s4.new (o := .lst ((us.take m).map V.str)) hq).new (o := .lst (zl.map V.str)) hu).new (o := .tup (zl.map V.str)) hpl
    have ql : SqT K (wo (upd (upd (upd H4 q (.lst ((us.take m).map V.str))) u (.lst (zl.map V.str))) pl (.tup (zl.map V.str))) b) pl (txs zl) := sqt_new upd_same (B5.ne hpl)
    have B6 := B5.new (o := .tup (zl.map V.str)) hpl
    generalize upd (upd (upd H4 q (.lst ((us.take m).map V.str))) u (.lst (zl.map V.str))) pl (.tup (zl.map V.str)) = H6 at s5 ql B6 ⊢
    have qn := s5.1.seq q2
    have qk6 := s5.1.seq qk
    have s6 := s2.trans s5
    clear hq hu hpl B5 srt pz pu ul s4 s4' v0 v1 B4 s3 e3 f3 n3 B3 s3' pm q2 qk s5 s2 B2
    -- the cut
    refine ⟨fun σ' G => ∃ (pl pc pk : Addr) (zl zc : List Str), σ' = [some (.ref b), some y, some (.ref pn), some (.ref pk), some (.ref pl), some (.ref pc), none, none, none, none, none, none, none, none, none] ∧ T1 K (wo G b) pn pl pc nm zl zc ∧ Bag G b ∧ Sb b H G, ?_, ?_⟩
    · refine ⟨_, rfl, _, rfl, b, pk, _, rfl, B6, qk6, by omega, fun p ys H3 pm e3 f3 n3 B3 s3' => ?_⟩
      obtain ⟨us, pu, rfl⟩ := perm_map (f := V.str) pm rfl
      refine ⟨_, rfl, _, rfl, pk, _, rfl, .inl ((wo_sub H3 b).seq (s3'.1.seq qk6)), ((txs ks).length : Int), 1, rfl, rfl, b, _, rfl, B3, by omega, Nat.lt_of_le_of_lt (show ((((txs ks).length : Nat) : Int) + 1).natAbs ≤ 100 by omega) (by decide +kernel), fun v H4 v0 v1 B4 s4' => ?_⟩
      obtain ⟨m, rfl⟩ : ∃ m : Nat, v = m := ⟨v.toNat, by omega⟩
      have s4 := s3'.trans s4'
      refine ⟨_, rfl, p, _, rfl, SqL.of (s4'.get e3 n3), fun q hq => ?_⟩
      rw [cut_upto, show (us.map V.str).take m = (us.take m).map V.str by rw [List.map_take]]
      have ul : (us.take m).length ≤ 24 := by rw [List.length_take, pu.length_eq]; omega
      refine ⟨q, us.take m, rfl, SqL.of upd_same, by omega, fun zc u pz srt hu => ⟨u, zc.map V.str, rfl, .inl ⟨SqL.of upd_same, fun pc hpc => ?_⟩⟩⟩
      obtain ⟨zcC, zcL⟩ := lot_pick pu pz ksC.1 ksC.2
      have B5 := (B4.new (o := .lst ((us.take m).map V.str)) hq).new (o := .lst (zc.map V.str)) hu
      have s5 := ((s4.new (o := .lst ((us.take m).map V.str)) hq).new (o := .lst (zc.map V.str)) hu).new (o := .tup (zc.map V.str)) hpc
      exact ⟨pl, pc, pk, zl, zc, rfl, ⟨nmC0, nmL, s5.1.seq qn, zlC, zlL, sqt_more s5.1 ql, zcC, zcL, sqt_new upd_same (B5.ne hpc)⟩, B5.new hpc, s6.trans s5⟩
    clear nmC0 nmL ql qn qk6 s6 B6 tk ksC zlC zlL
    rintro σ1 H1 ⟨pl, pc, pk, zl, zc, rfl, t1, B1, s1⟩
    -- the amounts
    refine ⟨fun σ' G => ∃ (pa : Addr), σ' = [some (.ref b), some y, some (.ref pn), some (.ref pk), some (.ref pl), some (.ref pc), some (.ref pa), none, none, none, none, none, none, none, none] ∧ T1 K (wo G b) pn pl pc nm zl zc ∧ Dd w K (wo G b) pa ∧ Bag G b ∧ Sb b H G, ?_, ?_⟩
    · have qn := t1.qn
      have ln := t1.ln
      refine ⟨_, rfl, _, rfl, _, rfl, _, rfl, pn, _, rfl, .inl ((wo_sub H1 b).seq qn), ((txs nm).length : Int), 1, rfl, rfl, b, _, rfl, B1, by omega, Nat.lt_of_le_of_lt (show ((((txs nm).length : Nat) : Int) + 1).natAbs ≤ 100 by omega) (by decide +kernel), fun v H4 v0 v1 B4 s4' => ?_⟩
      obtain ⟨m, rfl⟩ : ∃ m : Nat, v = m := ⟨v.toNat, by omega⟩
      refine ⟨_, rfl, pn, _, rfl, (wo_sub H4 b).seq (s4'.1.seq qn), fun q hq => ?_⟩
      rw [cut_upto, show (txs nm).take m = (nm.take m).map V.str by unfold txs; rw [List.map_take]]
      have B5 := B4.new (o := .lst ((nm.take m).map V.str)) hq
      have s5 := s4'.new (o := .lst ((nm.take m).map V.str)) hq
      refine ⟨b, q, _, rfl, B5, sql_new upd_same (B4.ne hq), by rw [List.length_map, List.length_take]; omega, fun x hx => ?_, fun a kvs H' dx hk lk B' s' => ?_⟩
      · obtain ⟨z, hz, rfl⟩ := List.mem_map.mp hx
        obtain ⟨h1, h2⟩ := t1.hn z (List.mem_of_mem_take hz)
        exact ⟨.text z, .str z, .inl ⟨z, rfl, h1, h2⟩⟩
      · have st := s5.trans s'
        exact ⟨a, rfl, t1.more st.1, ⟨kvs, dx, hk, lk⟩, B', s1.trans st⟩
    clear t1 B1 s1
    rintro σ1 H1 ⟨pa, rfl, t1, da, B1, s1⟩
    -- the flow
    refine ⟨fun σ' G => ∃ (pf : Addr), σ' = [some (.ref b), some y, some (.ref pn), some (.ref pk), some (.ref pl), some (.ref pc), some (.ref pa), some (.ref pf), none, none, none, none, none, none, none] ∧ T1 K (wo G b) pn pl pc nm zl zc ∧ Dd w K (wo G b) pa ∧ Dd w K (wo G b) pf ∧ Bag G b ∧ Sb b H G, ?_, ?_⟩
    · have hY1 := hY.more s1.1
      obtain ⟨ty, ya, yb, xs, zs, rfl, v1, v2, v3, v4, v5⟩ := hY1
      have lx := paired_len v4
      obtain ⟨ns, nm', N1, N2, N3, N4, C, R⟩ := hF.ex
      refine ⟨_, rfl, _, rfl, ty, _, 0, .ref ya, rfl, rfl, sqt_more (wo_sub H1 b) v1, at0, ya, rfl, ⟨_, sqt_more (wo_sub H1 b) v2⟩, fun D hD => ?_⟩
      have nDb : D ≠ b := B1.ne hD
      have cl := C.len
      refine lc_tup (K := K) (a := ya) (xs := xs) (fun i G => ∃ qs : List Addr, G D = some (.lst (qs.map V.ref)) ∧ Paired (fun q (c : Cab) => wo G b q = some (.tup [.str c.1, .str c.2.1])) qs (cs.take i) ∧ Bag G b ∧ Sb b H1 G) ?_ ?_ ?_ ?_
      · exact ⟨[], upd_same, by rw [List.take_zero]; exact .nil, B1.new hD, (Sb.refl b H1).new hD⟩
      · rintro i G _ ⟨_, _, _, _, s⟩
        exact sqt_more (wo_sub G b) (sqt_more s.1 v2)
      · rintro i z G hz ⟨qs, g1, g2, g3, g4⟩
        obtain ⟨c, hc, t', rfl, hq⟩ := paired_at v4 hz
        have hi : i < cs.length := (List.getElem?_eq_some_iff.mp hc).1
        refine ⟨t', _, rfl, sqt_more (wo_sub G b) (sqt_more g4.1 hq), rfl, _, _, rfl, _, _, rfl, _, _, rfl, rfl, rfl, _, rfl, _, rfl, by show 2 ≤ sizeLine; decide, fun u hu => ?_⟩
        have nu : u ≠ D := fun e => by rw [e, g1] at hu; cases hu
        have ql := paired_len g2
        rw [List.length_take] at ql
        refine ⟨qs.map V.ref, s3u hu g1, by rw [List.length_map]; exact small1000 (by omega), qs ++ [u], by rw [upd_same, List.map_append]; rfl, ?_, B1.wr hD (g4.new hu) (g3.new hu), (g4.new hu).wr hD⟩
        rw [List.take_succ, hc]
        refine paired_app (paired_imp (fun q c' h => ?_) g2) (.cons ?_ .nil)
        · obtain ⟨h1, h2⟩ := wo_of h
          exact (wo_ne h1).trans (by rw [upd_ne (ne_of h2 g1 (fun z => nomatch z))]; exact s3u hu h2)
        · rw [wo_ne (g3.ne hu), upd_ne nu, upd_same]
      rintro G ⟨qs, g1, g2, g3, g4⟩
      rw [lx, List.take_length] at g2
      have lq := paired_len g2
      refine ⟨b, D, qs.map V.ref, rfl, g3, sql_new g1 nDb, by rw [List.length_map]; omega, fun x hx => ?_, fun a kvs H' dx hk lk B' s' => ?_⟩
      · obtain ⟨q, hq, rfl⟩ := List.mem_map.mp hx
        obtain ⟨j, hj⟩ := List.mem_iff_getElem?.mp hq
        obtain ⟨c, hc, e⟩ := paired_at g2 hj
        obtain ⟨c0, c1, c2, _⟩ := C.each c (List.mem_of_getElem? hc)
        have one : Cd c.1 ∧ c.1.length ≤ 20 := by
          rcases List.mem_cons.mp c1 with e | e
          · rw [e]; exact feedC
          · exact nmC (N1.nm _ e)
        have two := nmC (N1.nm _ c2)
        refine ⟨.tup [.text c.1, .text c.2.1], .tup e (.cons (.str _) (.cons (.str _) .nil)), .inr (.inr ⟨[c.1, c.2.1], by show 2 ≤ 2; decide, fun z hz => ?_, rfl⟩)⟩
        simp only [List.mem_cons, List.not_mem_nil, or_false] at hz
        rcases hz with rfl | rfl
        · exact one
        · exact two
      · have st := g4.trans s'
        exact ⟨a, rfl, t1.more st.1, da.more st.1, ⟨kvs, dx, hk, lk⟩, B', s1.trans st⟩
    clear t1 da B1 s1
    rintro σ1 H1 ⟨pf, rfl, t1, da, df, B1, s1⟩
    clear hY hF tl
    -- the copies
    refine ⟨fun σ' G => ∃ (pp : Addr), σ' = [some (.ref b), some y, some (.ref pn), some (.ref pk), some (.ref pl), some (.ref pc), some (.ref pa), some (.ref pf), some (.ref pp), none, none, none, none, none, none] ∧ T1 K (wo G b) pn pl pc nm zl zc ∧ Dd w K (wo G b) pa ∧ Dd w K (wo G b) pf ∧ W3 K (wo G b) (.ref pp) ∧ Bag G b ∧ Sb b H G, ?_, ?_⟩
    · refine ⟨_, rfl, b, 4, rfl, B1, by decide, by decide, fun n H2 n0 n1 B2 s2 => ⟨n, rfl, by omega, by omega, fun D hD => ?_⟩⟩
      have nDb : D ≠ b := B2.ne hD
      refine lc_range (lo := 0) (n := n.toNat) (fun i G => ∃ (qs : List Addr) (ds : List PyData), G D = some (.lst (qs.map V.ref)) ∧ qs.length = i ∧ DatA K (w2 G b D) (qs.map V.ref) ds ∧ (∀ d ∈ ds, In 42 1 d ∧ Bd 300 d) ∧ Bag G b ∧ Sb b H2 G) ?_ ?_ ?_
      · exact ⟨[], [], upd_same, rfl, .nil, (fun _ z => nomatch z), B2.new hD, (Sb.refl b H2).new hD⟩
      · rintro i G hi ⟨qs, ds, g1, g2, g3, g4, g5, g6⟩
        refine ⟨rfl, _, rfl, b, 5, rfl, g5, by decide, by decide, fun v G1 v0 v1 B3 s3 => ⟨_, rfl, by show 4 ≤ sizeLine; decide, fun q hq => ⟨b, q, _, rfl, B3.new hq, sql_new upd_same (B3.ne hq), (fun z => nomatch z), by show 4 ≤ 1000000; decide, fun x G2 hx B4 s4 => ⟨by show 2 ≤ sizeLine; decide, fun u hu => ?_⟩⟩⟩⟩
        have s5 := (s3.new (o := .lst [.non, .int 0, .int 7, .non]) hq).trans s4
        have e1 := s5.get g1 nDb
        have nu : u ≠ D := fun e => by rw [e, e1] at hu; cases hu
        have m5 : Same (w2 G b D) (w2 (upd (upd G2 u (.tup [.int v, x])) D (.lst (qs.map V.ref ++ [.ref u]))) b D) := (w2_sb (s5.new hu)).trans w2_upd
        obtain ⟨dx, Dx', px⟩ : ∃ dx, DatV K (w2 (upd (upd G2 u (.tup [.int v, x])) D (.lst (qs.map V.ref ++ [.ref u]))) b D) x dx ∧ Pl dx ∧ Bd 300 dx := by
          simp only [List.mem_cons, List.not_mem_nil, or_false] at hx
          rcases hx with rfl | rfl | rfl | rfl
          · exact ⟨.none, .non, .inr (.inr rfl), by simp only [Bd]⟩
          · exact ⟨.int 0, .int _, .inr (.inl ⟨0, rfl, by decide⟩), by simp only [Bd]; exact Nat.pow_pos (n := 300) (show 0 < 10 by decide)⟩
          · exact ⟨.int 7, .int _, .inr (.inl ⟨7, rfl, by decide⟩), by simp only [Bd]; exact Nat.lt_of_lt_of_le (show 7 < 10 ^ 1 by decide) (Nat.pow_le_pow_right (by decide) (by decide))⟩
          · exact ⟨.none, .non, .inr (.inr rfl), by simp only [Bd]⟩
        have vb : v.natAbs < 10 ^ 1 := by omega
        refine ⟨qs.map V.ref, s3u hu e1, by rw [List.length_map]; exact small1000 (by omega), qs ++ [u], ds ++ [.tuple [.int v, dx]], by rw [upd_same, List.map_append]; rfl, by rw [List.length_append, g2]; rfl, ?_, ?_, ?_, ?_⟩
        · rw [List.map_append]
          exact datA_app (g3.more m5) (.cons (.tup (SqT.of (w2_at (B4.ne hu) nu (show upd (upd G2 u (.tup [.int v, x])) D (.lst (qs.map V.ref ++ [.ref u])) u = some (.tup [.int v, x]) by rw [upd_ne nu, upd_same]))) (.cons (.int v) (.cons Dx' .nil))) .nil)
        · intro d hd
          rcases List.mem_append.mp hd with h | h
          · exact g4 d h
          · rw [List.mem_singleton.mp h]
            refine ⟨.inr ⟨_, rfl, by show 2 ≤ 42; decide, fun e he => ?_⟩, ?_⟩
            · simp only [List.mem_cons, List.not_mem_nil, or_false] at he
              rcases he with rfl | rfl
              · exact .inr (.inl ⟨v, rfl, Nat.lt_of_lt_of_le vb (by decide)⟩)
              · exact px.1
            · simp only [Bd, BdA, and_true]
              exact ⟨show 2 ≤ 300 by decide, Nat.lt_of_lt_of_le vb (Nat.pow_le_pow_right (by decide) (by decide)), px.2⟩
        · exact B2.wr hD ((g6.trans s5).new hu) (B4.new hu)
        · exact ((g6.trans s5).new hu).wr hD
      rintro G ⟨qs, ds, g1, g2, g3, g4, g5, g6⟩
      refine ⟨D, qs.map V.ref, rfl, .inl ⟨SqL.of g1, fun pp hpp => ?_⟩⟩
      have B3 := g5.new (o := .tup (qs.map V.ref)) hpp
      have s3 := (s2.trans g6).new (o := .tup (qs.map V.ref)) hpp
      have ld := g3.len
      rw [List.length_map] at ld
      refine ⟨pp, rfl, t1.more s3.1, da.more s3.1, df.more s3.1, ⟨.tuple ds, .tup (sqt_new upd_same (g5.ne hpp)) (g3.more (w2_wo.trans (wo_same (same_new (Same.refl G) hpp)))), .inr ⟨ds, rfl, by omega, fun d hd => (g4 d hd).1⟩, ?_⟩, B3, s1.trans s3⟩
      simp only [Bd]
      exact ⟨by omega, bdA_iff.mpr fun d hd => (g4 d hd).2⟩
    clear t1 da df B1 s1
    rintro σ1 H1 ⟨pp, rfl, t1, da, df, w3, B1, s1⟩
    -- found
    refine ⟨fun σ' G => ∃ (l t6 : Addr), σ' = [some (.ref b), some y, some (.ref pn), some (.ref pk), some (.ref pl), some (.ref pc), some (.ref pa), some (.ref pf), some (.ref pp), some (.ref l), none, none, none, none, none] ∧ G l = some (.lst [.ref pl, .ref pc, .ref pp, .ref pa, .ref pf, .ref t6]) ∧ l ≠ b ∧ H l = none ∧ W3 K (w2 G b l) (.ref t6) ∧ T1 K (w2 G b l) pn pl pc nm zl zc ∧ Dd w K (w2 G b l) pa ∧ Dd w K (w2 G b l) pf ∧ W3 K (w2 G b l) (.ref pp) ∧ Bag G b ∧ Sb b H G, ?_, ?_⟩
    · have qc := t1.qc
      have lzc := t1.lc
      refine ⟨_, rfl, _, rfl, _, rfl, _, rfl, _, rfl, _, rfl, by show 1 ≤ sizeLine; decide, fun t ht => ⟨pc, t, txs zc, [.str feed], rfl, rfl, sqt_more (same_new (Same.refl H1) ht) (sqt_more (wo_sub H1 b) qc), SqT.of upd_same, Nat.le_of_lt (small1000 (show (txs zc).length + 1 ≤ 1000 by unfold txs; rw [List.length_map]; omega)), fun p H2 m2 q2 => ?_⟩⟩
      have B2 := (B1.new (o := .tup [.str feed]) ht).keep m2
      have s2 := ((Sb.refl b H1).new (o := .tup [.str feed]) ht).same m2
      refine ⟨p, zc ++ [feed], rfl, by rw [List.map_append]; exact q2, by rw [List.length_append]; show _ + 1 < 64; omega, fun ys p2 perm srt hp2 => ⟨p2, ys.map V.str, rfl, .inl ⟨SqL.of upd_same, fun t6 ht6 => ?_⟩⟩⟩
      have B3 := B2.new (o := .lst (ys.map V.str)) hp2
      have s3 := s2.new (o := .lst (ys.map V.str)) hp2
      have B4 := B3.new (o := .tup (ys.map V.str)) ht6
      have s4 := s3.new (o := .tup (ys.map V.str)) ht6
      have q6 : SqT K (wo (upd (upd H2 p2 (.lst (ys.map V.str))) t6 (.tup (ys.map V.str))) b) t6 (txs ys) := sqt_new upd_same (B3.ne ht6)
      generalize upd (upd H2 p2 (.lst (ys.map V.str))) t6 (.tup (ys.map V.str)) = H4 at B4 s4 q6 ⊢
      refine ⟨by show 6 ≤ sizeLine; decide, fun l hl => ?_⟩
      have nlb := B4.ne hl
      have mb : Same (wo H4 b) (w2 (upd H4 l (.lst [.ref pl, .ref pc, .ref pp, .ref pa, .ref pf, .ref t6])) b l) := w2_back hl
      have m1 := s4.1.trans mb
      have w6 : W3 K (wo H4 b) (.ref t6) := w3_strs q6 (fun z hz => by
        rcases List.mem_append.mp (perm.mem_iff.mp hz) with h | h
        · exact t1.hc z h
        · rw [List.mem_singleton.mp h]; exact feedC) (by rw [perm.length_eq, List.length_append]; show _ + 1 ≤ 42; omega)
      exact ⟨l, t6, rfl, upd_same, nlb, (s1.trans s4).free hl nlb, w6.more mb, t1.more m1, da.more m1, df.more m1, w3.more m1, B4.new hl, (s1.trans s4).new hl⟩
    clear t1 da df w3 B1 s1
    rintro σ1 H1 ⟨l, t6, rfl, e1, nlb, hl0, w6, t1, da, df, w3, B1, s1⟩
    -- found, longer
    refine ⟨fun σ' G => ∃ (xs : List V), σ' = [some (.ref b), some y, some (.ref pn), some (.ref pk), some (.ref pl), some (.ref pc), some (.ref pa), some (.ref pf), some (.ref pp), some (.ref l), none, none, none, none, none] ∧ G l = some (.lst xs) ∧ xs.length = 9 ∧ (∀ x ∈ xs, ∃ d, Tg w K (wo G b) x d) ∧ T1 K (wo G b) pn pl pc nm zl zc ∧ Dd w K (wo G b) pa ∧ Dd w K (wo G b) pf ∧ Bag G b ∧ Sb b H G, ?_, ?_⟩
    · have B0 := hB.aside hl0 s1 B1
      have wl : W3 K (w2 H1 b l) (.ref pl) := w3_strs t1.ql t1.hl (by have := t1.ll; omega)
      have wc : W3 K (w2 H1 b l) (.ref pc) := w3_strs t1.qc t1.hc (by have := t1.lc; omega)
      refine ⟨_, rfl, .inl ⟨rfl, _, SqL.of e1⟩, l, _, e1, _, rfl, _, rfl, _, rfl, by show 3 ≤ sizeLine; decide, fun q hq => ⟨q, rfl, ⟨_, SqT.of upd_same⟩, fun D hD => ?_⟩⟩
      have nqb : q ≠ b := B0.ne hq
      have eq : upd (wo H1 l) q (.tup [.ref pl, .ref pc, .ref pp]) q = some (.tup [.ref pl, .ref pc, .ref pp]) := upd_same
      have BQ := B0.new (o := .tup [.ref pl, .ref pc, .ref pp]) hq
      have sq := (Sb.refl b (wo H1 l)).new (o := .tup [.ref pl, .ref pc, .ref pp]) hq
      have three : ∀ z ∈ [V.ref pl, .ref pc, .ref pp], W3 K (wo (wo H1 l) b) z := fun z hz => by
        simp only [List.mem_cons, List.not_mem_nil, or_false] at hz
        rcases hz with rfl | rfl | rfl
        · exact wl
        · exact wc
        · exact w3
      generalize upd (wo H1 l) q (.tup [.ref pl, .ref pc, .ref pp]) = G1 at eq BQ sq hD ⊢
      have nDb : D ≠ b := BQ.ne hD
      refine lc_tup (K := K) (a := q) (xs := [V.ref pl, .ref pc, .ref pp]) (fun i G => ∃ ys : List V, G D = some (.lst ys) ∧ ys.length = i ∧ (∀ x ∈ ys, ∃ d, Tg w K (w2 G b D) x d) ∧ Bag G b ∧ Sb b G1 G) ?_ ?_ ?_ ?_
      · exact ⟨[], upd_same, rfl, (fun _ z => nomatch z), BQ.new hD, (Sb.refl b G1).new hD⟩
      · rintro i G _ ⟨_, _, _, _, _, s⟩
        exact SqT.of (s.get eq nqb)
      · rintro i z G hz ⟨ys, g1, g2, g3, g4, g5⟩
        have hi : i < 3 := (List.getElem?_eq_some_iff.mp hz).1
        obtain ⟨d, w1, wi, wb⟩ := three z (List.mem_of_getElem? hz)
        have mD : Same (wo (wo H1 l) b) (w2 G b D) := fun c o h => by
          have h2 := sq.1 c o h
          obtain ⟨h3, h4⟩ := wo_of h2
          exact w2_at h3 (ne_of_none h4 hD) (g5.get h4 h3)
        refine ⟨rfl, D, ys, g1, _, rfl, _, rfl, b, z, d, 300, 42, 2, rfl, BQ.aside hD g5 g4, w1.more mD, wb, Nat.le_refl _, wi, fun x' d' H2 th bd cl B2 s2' nD => ?_⟩
        have sG := g5.trans (Sb.back nDb g1 s2')
        have mb : Same (wo H2 b) (w2 (upd (upd H2 D (.lst ys)) D (.lst (ys ++ [x']))) b D) := (w2_back (o := .lst ys) nD).trans w2_upd
        refine ⟨ys, upd_same, small1000 (by omega), ys ++ [x'], upd_same, by rw [List.length_append, g2]; rfl, fun x hx => ?_, BQ.wr hD sG (B2.new nD), sG.wr hD⟩
        rcases List.mem_append.mp hx with h | h
        · obtain ⟨d0, t0⟩ := g3 x h
          exact ⟨d0, (t0.more (s2'.1 : Same (w2 G b D) (wo H2 b))).more mb⟩
        · rw [List.mem_singleton.mp h]
          exact ⟨d', th.more mb, Bd.up (by decide) bd, cl_big cl⟩
      rintro G ⟨ys, g1, g2, g3, g4, g5⟩ nl
      have nDl : D ≠ l := fun z => by rw [z, nl] at g1; cases g1
      have s0 := sq.trans g5
      have sB := s1.trans (Sb.back nlb e1 s0)
      refine ⟨l, D, _, ys, rfl, rfl, upd_same, (upd_ne nDl).trans g1, Nat.le_of_lt (small1000 (show 6 + ys.length ≤ 1000 by have g2 : ys.length = 3 := g2; omega)), ?_⟩
      have mb : Same (wo G b) (wo (upd (upd G l (.lst [.ref pl, .ref pc, .ref pp, .ref pa, .ref pf, .ref t6])) l (.lst ([.ref pl, .ref pc, .ref pp, .ref pa, .ref pf, .ref t6] ++ ys))) b) := ((w2_back (o := .lst [.ref pl, .ref pc, .ref pp, .ref pa, .ref pf, .ref t6]) nl).trans w2_upd).trans w2_wo
      have m1 : Same (w2 H1 b l) (wo (upd (upd G l (.lst [.ref pl, .ref pc, .ref pp, .ref pa, .ref pf, .ref t6])) l (.lst ([.ref pl, .ref pc, .ref pp, .ref pa, .ref pf, .ref t6] ++ ys))) b) := (s0.1 : Same (w2 H1 b l) (wo G b)).trans mb
      refine ⟨_, rfl, upd_same, by rw [List.length_append, g2]; rfl, fun x hx => ?_, t1.more m1, da.more m1, df.more m1, hB.wr hl0 sB (g4.new nl), sB.wr hl0⟩
      rcases List.mem_append.mp hx with h | h
      · simp only [List.mem_cons, List.not_mem_nil, or_false] at h
        have mk : ∀ {z : V}, W3 K (w2 H1 b l) z → ∃ d, Tg w K (wo (upd (upd G l (.lst [.ref pl, .ref pc, .ref pp, .ref pa, .ref pf, .ref t6])) l (.lst ([.ref pl, .ref pc, .ref pp, .ref pa, .ref pf, .ref t6] ++ ys))) b) z d := fun h => (h.more m1).tg
        rcases h with rfl | rfl | rfl | rfl | rfl | rfl
        · exact mk wl
        · exact mk wc
        · exact mk w3
        · exact (da.more m1).tg
        · exact (df.more m1).tg
        · exact mk w6
      · obtain ⟨d, h⟩ := g3 x h
        exact ⟨d, (h.more w2_wo).more mb⟩
    clear t1 da df w3 w6 B1 s1 e1 hl0
    rintro σ1 H1 ⟨xs, rfl, e1, lx, tx, t1, da, df, B1, s1⟩
    obtain ⟨ka, dxa, hka, lka⟩ := da.ex
    obtain ⟨kf, dxf, hkf, lkf⟩ := df.ex
    refine ⟨_, rfl, _, rfl, _, rfl, b, pa, ka, rfl, B1, dxa, hka, lka, fun x1 d1 H2 g1 B2 s2 => ?_⟩
    refine ⟨_, rfl, _, rfl, b, pf, kf, rfl, B2, dxf.more s2.1, hkf, lkf, fun x2 d2 H3 g2 B3 s3' => ?_⟩
    have s3 := s2.trans s3'
    refine ⟨_, rfl, b, rfl, B3, fun x3 d3 H4 th3 bd3 f3 B4 s4' => ?_⟩
    have s4 := s3.trans s4'
    have ql := sqt_more (wo_sub H4 b) (sqt_more s4.1 t1.ql)
    refine ⟨_, rfl, _, rfl, _, rfl, pl, txs zl, rfl, ql, fun p5 H5 m5 q5 => ?_⟩
    have c1 : cutV (txs zl) none (some 1) = txs (zl.take 1) := by
      rw [show (1 : Int) = ((1 : Nat) : Int) from rfl, cut_upto]
      unfold txs
      rw [List.map_take]
    have lzl := t1.ll
    have lz1 : (zl.take 1).length ≤ 1 := by rw [List.length_take]; omega
    rw [c1] at q5
    refine ⟨pl, p5, txs zl, txs (zl.take 1), rfl, rfl, sqt_more m5 ql, q5, Nat.le_of_lt (small1000 (show (txs zl).length + (txs (zl.take 1)).length ≤ 1000 by unfold txs; rw [List.length_map, List.length_map]; omega)), fun p6 H6 m6 q6 => ?_⟩
    have B6 := (B4.keep m5).keep m6
    have s6 := (s4.same m5).same m6
    refine ⟨_, rfl, pc, txs zc, rfl, sqt_more (wo_sub H6 b) (sqt_more s6.1 t1.qc), fun p7 hp7 => ?_⟩
    have q6' : SqT K (wo H6 b) p6 (txs (zl ++ zl.take 1)) := by
      have := sqt_wo' q6 B6
      unfold txs at this ⊢
      rw [List.map_append]
      exact this
    have B7 := B6.new (o := .tup (txs zc).reverse) hp7
    have s7 := s6.new (o := .tup (txs zc).reverse) hp7
    have m7 : Same (wo H6 b) (wo (upd H6 p7 (.tup (txs zc).reverse)) b) := wo_same (same_new (Same.refl H6) hp7)
    have q7 : SqT K (wo (upd H6 p7 (.tup (txs zc).reverse)) b) p7 (txs zc.reverse) := sqt_new (by rw [upd_same]; unfold txs; rw [List.map_reverse]) (B6.ne hp7)
    generalize upd H6 p7 (.tup (txs zc).reverse) = H7 at B7 s7 m7 q7 ⊢
    have s46 : Same (wo H4 b) (wo H7 b) := ((wo_same m5).trans (wo_same m6)).trans m7
    refine ⟨by show 5 ≤ sizeLine; decide, fun l2 hl2 => ⟨l, l2, xs, [x1, x2, x3, .ref p6, .ref p7], rfl, rfl, s3u hl2 (s7.get e1 nlb), upd_same, Nat.le_of_lt (small1000 (show xs.length + 5 ≤ 1000 by omega)), fun l3 hl3 => ?_⟩⟩
    have B8 := B7.new (o := .lst [x1, x2, x3, .ref p6, .ref p7]) hl2
    have s8 := s7.new (o := .lst [x1, x2, x3, .ref p6, .ref p7]) hl2
    have m8 : Same (wo H7 b) (wo (upd (upd H7 l2 (.lst [x1, x2, x3, .ref p6, .ref p7])) l3 (.lst (xs ++ [x1, x2, x3, .ref p6, .ref p7]))) b) := (wo_same (same_new (Same.refl H7) hl2)).trans (wo_same (same_new (Same.refl _) hl3))
    refine k l3 (xs ++ [x1, x2, x3, .ref p6, .ref p7]) _ upd_same (B8.ne hl3) (by rw [List.length_append, lx]; exact Nat.le_refl 14) (fun x hx => ?_) (B8.new hl3) ((s1.trans s8).new hl3)
    rcases List.mem_append.mp hx with h | h
    · obtain ⟨d, h⟩ := tx x h
      exact ⟨d, (h.more s7.1).more m8⟩
    · simp only [List.mem_cons, List.not_mem_nil, or_false] at h
      rcases h with rfl | rfl | rfl | rfl | rfl
      · exact ⟨d1, ((g1.more (s3'.trans s4').1).more s46).more m8⟩
      · exact ⟨d2, ((g2.more s4'.1).more s46).more m8⟩
      · exact ⟨d3, (th3.more s46).more m8, Bd.up (by decide) bd3, f3.mono (by decide) (by decide)⟩
      · exact (((w3_strs q6' (fun z hz => (List.mem_append.mp hz).elim (t1.hl z) fun h => t1.hl z (List.mem_of_mem_take h)) (by rw [List.length_append]; omega)).more m7).more m8).tg
      · have lzc := t1.lc
        exact ((w3_strs q7 (fun z hz => t1.hc z (List.mem_reverse.mp hz)) (by rw [List.length_reverse]; omega)).more m8).tg
end
end Y

/-! ML7: the law. -/
namespace Y
open PySem PySem.Spec PyProof.Rows L2 Ns Mx
open C8 (pss_cut)
theorem eq_bools {K : PySem.W.Frag} {H : Hp} : ∀ bs : List Bool, Paired (EqT K H 3) (bs.map V.bl) (bs.map V.bl)
  | [] => .nil
  | b :: bs => .cons (eqT_flat 2 rfl) (eq_bools bs)
theorem datA_bools {K : PySem.W.Frag} {H : Hp} : ∀ bs : List Bool, DatA K H (bs.map V.bl) (bs.map PyData.bool)
  | [] => .nil
  | b :: bs => .cons (.bl b) (datA_bools bs)
section
variable {P : Program} {w : World} {K : PySem.W.Frag} {mg : Str → Option Value} {base : Heap} {fB fT fSm fW fC fKn fTh fLL fAA fLF fLC fCL fCu fAm fFl fCs fA : Addr} {dB dT dSm dW dC dKn dTh dLL dAA dLF dLC dCL dCu dAm dFl dCs dA : FuncData}
structure D03 (P : Program) (w : World) (K : PySem.W.Frag) (mg : Str → Option Value) (base : Heap) (fB fT fSm fW fC fKn fTh fLL fAA fLF fLC fCL fCu fAm fFl fCs fA : Addr) (dB dT dSm dW dC dKn dTh dLL dAA dLF dLC dCL dCu dAm dFl dCs dA : FuncData) : Prop where
  B : Fun K "_law_bag" "_law_bag" sBag fB dB
  mB : mg "_law_bag" = some (.ref fB)
  bB : Binds K dB ["script"] []
  gB : FnOk P w K mg base CX0 1 fB dB ["script"] (spBag K)
  T : Fun K "_law_take" "_law_take" sTake fT dT
  mT : mg "_law_take" = some (.ref fT)
  bT : Binds K dT ["bag", "many"] []
  gT : FnOk P w K mg base CX0 1 fT dT ["bag", "many"] (spTake)
  Sm : Fun K "_law_small_yard" "_law_small_yard" sSmall fSm dSm
  mSm : mg "_law_small_yard" = some (.ref fSm)
  bSm : Binds K dSm ["bag"] []
  gSm : FnOk P w K mg base CX0 7 fSm dSm ["bag"] (spYard K 7)
  W : Fun K "_law_wide_yard" "_law_wide_yard" sWide fW dW
  mW : mg "_law_wide_yard" = some (.ref fW)
  bW : Binds K dW ["bag"] []
  gW : FnOk P w K mg base CX0 7 fW dW ["bag"] (spYard K (10 ^ 12))
  C : Fun K "_law_all_cars" "_law_all_cars" sAllCars fC dC
  mC : mg "_law_all_cars" = some (.ref fC)
  bC : Binds K dC ["yard"] []
  gC : FnOk P w K mg base CX0 1 fC dC ["yard"] (spNamesOf K)
  Kn : Fun K "_law_knots" "_law_knots" sKnots fKn dKn
  mKn : mg "_law_knots" = some (.ref fKn)
  bKn : Binds K dKn ["yard"] []
  gKn : FnOk P w K mg base CX0 1 fKn dKn ["yard"] (spKnots K)
  Th : Fun K "_law_things" "_law_things" sThings fTh dTh
  mTh : mg "_law_things" = some (.ref fTh)
  bTh : Binds K dTh ["bag", "yard"] []
  gTh : FnOk P w K mg base CX0 7 fTh dTh ["bag", "yard"] (spThings w K)
  LL : Fun K "_law_is_lot_of" "_law_is_lot_of" sLIsLotOf fLL dLL
  mLL : mg "_law_is_lot_of" = some (.ref fLL)
  bLL : Binds K dLL ["names", "thing"] []
  gLL : FnOk P w K mg base CX0 1 fLL dLL ["names", "thing"] (spLotS K)
  AA : Fun K "_law_are_amounts" "_law_are_amounts" sAreAmounts fAA dAA
  mAA : mg "_law_are_amounts" = some (.ref fAA)
  bAA : Binds K dAA ["yard", "thing"] []
  gAA : FnOk P w K mg base CX0 2 fAA dAA ["yard", "thing"] (spYT w K fun cs rs d => amtD (rs.map (·.1)) d)
  LF : Fun K "_law_is_flow_of" "_law_is_flow_of" sIsFlowOf fLF dLF
  mLF : mg "_law_is_flow_of" = some (.ref fLF)
  bLF : Binds K dLF ["yard", "thing"] []
  gLF : FnOk P w K mg base CX0 2 fLF dLF ["yard", "thing"] (spYT w K fun cs rs d => flowD (cs.map ckey) d)
  LC : Fun K "_law_is_copies" "_law_is_copies" sLIsCopies fLC dLC
  mLC : mg "_law_is_copies" = some (.ref fLC)
  bLC : Binds K dLC ["thing"] []
  gLC : FnOk P w K mg base CX0 2 fLC dLC ["thing"] (spTells K copiesD)
  CL : Fun K "is_car_lot" "is_car_lot" sIsCarLot fCL dCL
  mCL : mg "is_car_lot" = some (.ref fCL)
  bCL : Binds K dCL ["yard", "thing"] []
  gCL : FnOk P w K mg base CX0 3 fCL dCL ["yard", "thing"] (spYT w K fun cs rs d => lotD (rs.map (·.1)) d)
  Cu : Fun K "is_cut" "is_cut" sIsCut fCu dCu
  mCu : mg "is_cut" = some (.ref fCu)
  bCu : Binds K dCu ["yard", "thing"] []
  gCu : FnOk P w K mg base CX0 3 fCu dCu ["yard", "thing"] (spCut w K)
  Am : Fun K "is_amounts" "is_amounts" sIsAmounts fAm dAm
  mAm : mg "is_amounts" = some (.ref fAm)
  bAm : Binds K dAm ["yard", "thing"] []
  gAm : FnOk P w K mg base CX0 3 fAm dAm ["yard", "thing"] (spYT w K fun cs rs d => amtD (rs.map (·.1)) d)
  Fl : Fun K "is_flow" "is_flow" sIsFlow fFl dFl
  mFl : mg "is_flow" = some (.ref fFl)
  bFl : Binds K dFl ["yard", "thing"] []
  gFl : FnOk P w K mg base CX0 3 fFl dFl ["yard", "thing"] (spYT w K fun cs rs d => flowD (cs.map ckey) d)
  Cs : Fun K "is_copies" "is_copies" sIsCopies fCs dCs
  mCs : mg "is_copies" = some (.ref fCs)
  bCs : Binds K dCs ["thing"] []
  gCs : FnOk P w K mg base CX0 4 fCs dCs ["thing"] (spTellS K copiesD)
  A : Fun K "_law_alike" "_law_alike" sAlike fA dA
  mA : mg "_law_alike" = some (.ref fA)
  bA : Binds K dA ["found", "due"] []
  gA : GnOk P w K mg base 1 fA dA ["found", "due"] (spAlike K)
theorem scL : FnScope ["script", "bag", "turn", "yard", "names", "knots", "thing", "text", "due", "told"] ["script"] (defScope sLaw) := ⟨rfl, rfl, rfl, by decide +kernel, rfl, by decide +kernel, by decide +kernel⟩
theorem ok_law {f : Addr} {fd : FuncData} (F : Fun K "law" "law" sLaw f fd) (T : Nat0 mg) (D : D03 P w K mg base fB fT fSm fW fC fKn fTh fLL fAA fLF fLC fCL fCu fAm fFl fCs fA dB dT dSm dW dC dKn dTh dLL dAA dLF dLC dCL dCu dAm dFl dCs dA) : GnOk P w K mg base 8 f fd ["script"] (spTop K) := by
  refine Fun.okG F scL (fun as H Q E h => ?_) (fun cdv A outer s H as Q E hr hgd h => ?_)
  · obtain ⟨a, ns, rfl, _⟩ := h
    rfl
  · obtain ⟨a, ns, rfl, hS, hl, k⟩ := h
    have hr1 : Room 1 _ := hr.mono (by decide)
    have hr2 : Room 2 _ := hr.mono (by decide)
    have hr3 : Room 3 _ := hr.mono (by decide)
    have hr4 : Room 4 _ := hr.mono (by decide)
    have hun := hr.units
    refine ⟨_, (pss_cons (ps_set (i := 1) scL.nd rfl (.inl rfl) (pe_call D.gB hr1 rfl D.mB D.B.kp D.bB .nil pass0 (pa_cons (pv 0) pa_nil))) (pss_cons (ps_for PassesOwn.never rfl (pi_range1 (by rfl) T.range (pa_cons pe_int pa_nil)) (pg_name (i := 2) scL.nd rfl (.inl rfl)) (pss_cut (ps_set (i := 3) scL.nd rfl (.inl rfl) (pe_ifExp (pt_cmpR op_gt (pe_call D.gT hr1 rfl D.mT D.T.kp D.bT .nil pass0 (pa_cons (pv 1) (pa_cons pe_int pa_nil))) pe_int (nomark _)) (pe_call D.gSm hr rfl D.mSm D.Sm.kp D.bSm .nil pass0 (pa_cons (pv 1) pa_nil)) (pe_call D.gW hr rfl D.mW D.W.kp D.bW .nil pass0 (pa_cons (pv 1) pa_nil)))) (pss_cons (ps_par (i := 4) (j := 5) rfl scL.nd rfl rfl (by decide) rfl rfl (pa_cons (pe_callTy call_list_of (by rfl) T.list_ (by decide +kernel) (pa_cons (pe_call D.gC hr1 rfl D.mC D.C.kp D.bC .nil pass0 (pa_cons (pv 3) pa_nil)) pa_nil)) (pa_cons (pe_call D.gKn hr1 rfl D.mKn D.Kn.kp D.bKn .nil pass0 (pa_cons (pv 3) pa_nil)) pa_nil)) (by rfl)) (pss_one (ps_for PassesOwn.never rfl (pi_list (pe_call D.gTh hr rfl D.mTh D.Th.kp D.bTh .nil pass0 (pa_cons (pv 1) (pa_cons (pv 3) pa_nil)))) (pg_name (i := 6) scL.nd rfl (.inl rfl)) (pss_cons (ps_set (i := 7) scL.nd rfl (.inl rfl) (pe_callB (call_reprD hgd hun) (by rfl) T.repr (by decide +kernel) (pa_cons (pv 6) pa_nil))) (pss_cons (ps_set (i := 8) scL.nd rfl (.inl rfl) (pe_lst (pa_cons (pe_call D.gLL hr1 rfl D.mLL D.LL.kp D.bLL .nil pass0 (pa_cons (pv 4) (pa_cons (pv 6) pa_nil))) (pa_cons (pe_call D.gLL hr1 rfl D.mLL D.LL.kp D.bLL .nil pass0 (pa_cons (pv 5) (pa_cons (pv 6) pa_nil))) (pa_cons (pe_call D.gAA hr2 rfl D.mAA D.AA.kp D.bAA .nil pass0 (pa_cons (pv 3) (pa_cons (pv 6) pa_nil))) pa_nil))))) (pss_cons (ps_set (i := 8) scL.nd rfl (.inl rfl) (pe_op op_cat (pv 8) (pe_lst (pa_cons (pe_call D.gLF hr2 rfl D.mLF D.LF.kp D.bLF .nil pass0 (pa_cons (pv 3) (pa_cons (pv 6) pa_nil))) (pa_cons (pe_call D.gLC hr2 rfl D.mLC D.LC.kp D.bLC .nil pass0 (pa_cons (pv 6) pa_nil)) pa_nil))))) (pss_cons (ps_set (i := 9) scL.nd rfl (.inl rfl) (pe_lst (pa_cons (pe_call D.gCL hr3 rfl D.mCL D.CL.kp D.bCL .nil pass0 (pa_cons (pv 3) (pa_cons (pv 6) pa_nil))) (pa_cons (pe_call D.gCu hr3 rfl D.mCu D.Cu.kp D.bCu .nil pass0 (pa_cons (pv 3) (pa_cons (pv 6) pa_nil))) (pa_cons (pe_call D.gAm hr3 rfl D.mAm D.Am.kp D.bAm .nil pass0 (pa_cons (pv 3) (pa_cons (pv 6) pa_nil))) (pa_cons (pe_call D.gFl hr3 rfl D.mFl D.Fl.kp D.bFl .nil pass0 (pa_cons (pv 3) (pa_cons (pv 6) pa_nil))) pa_nil)))))) (pss_one (ps_if (PW.pt (pw_or (pt_not (pt_val (pe_callG D.gA hr1 hgd rfl D.mA D.A.kp D.bA (pa_cons (pe_op op_cat (pv 9) (pe_lst (pa_cons (pe_call D.gCs hr4 rfl D.mCs D.Cs.kp D.bCs .nil pass0 (pa_cons (pv 6) pa_nil)) pa_nil))) (pa_cons (pv 8) pa_nil))))) (pw_or1 (pt_cmpR op_ne (pe_callB (call_reprD hgd hun) (by rfl) T.repr (by decide +kernel) (pa_cons (pv 6) pa_nil)) (pv 7) (nomark _))))) (pss_one (ps_ret pe_bl)) pss_nil))))))))))) (pss_one (ps_ret pe_bl)))), ?_⟩
    refine ⟨_, rfl, a, ns, rfl, hS, hl, fun b H1 hB1 _ _ => ?_⟩
    refine ⟨4, rfl, by decide, by decide, for_range (n := 4) (fun i σ H' => ∃ v2 v3 v4 v5 v6 v7 v8 v9 : Option V, σ = [some (.ref a), some (.ref b), v2, v3, v4, v5, v6, v7, v8, v9] ∧ Bag H' b) ?_ ?_ ?_⟩
    · exact ⟨none, none, none, none, none, none, none, none, rfl, hB1⟩
    · clear hB1
      rintro i σ H0 hi ⟨v2, v3, v4, v5, v6, v7, v8, v9, rfl, hB⟩
      refine ⟨fun σ' G => ∃ (y : V) (cs : List Cab) (rs : List Car), σ' = [some (.ref a), some (.ref b), some (.int (0 + (i : Int))), some y, v4, v5, v6, v7, v8, v9] ∧ YardF (10 ^ 12) cs rs ∧ YardV K (wo G b) y cs rs ∧ Bag G b, ?_, ?_⟩
      · refine ⟨_, rfl, b, 3, rfl, hB, by decide, by decide, fun v H1 v0 v1 B1 s1 => ⟨_, _, rfl, rfl, _, rfl, ?_⟩⟩
        refine ite2 (fun _ => ?_) (fun _ => ?_)
        · exact ⟨_, rfl, b, rfl, B1, fun y cs rs H2 F2 V2 B2 s2 => ⟨y, cs, rs, rfl, F2.mono (by decide), V2, B2⟩⟩
        · exact ⟨_, rfl, b, rfl, B1, fun y cs rs H2 F2 V2 B2 s2 => ⟨y, cs, rs, rfl, F2, V2, B2⟩⟩
      clear hB v2 v3
      rintro σ1 H1 ⟨y, cs, rs, rfl, hF, hY, B1⟩
      obtain ⟨kn, kn8, knm, knin⟩ := knIn_feed hF
      obtain ⟨nmC0, nmL⟩ : (∀ z ∈ rs.map (·.1), Cd z ∧ z.length ≤ 20) ∧ (rs.map (·.1)).length ≤ 24 := by
        obtain ⟨ns, nm, N1, N2, N3, N4, C, R⟩ := hF.ex
        exact ⟨fun z hz => nmC (N3.nm z (R.perm.mem_iff.mp hz)), by rw [R.perm.length_eq]; exact N4⟩
      refine ⟨_, rfl, y, cs, rs, rfl, hY.more (wo_sub H1 b), by rw [List.length_map] at nmL; omega, fun p0 G1 e0 n0 m0 => ⟨p0, txs (rs.map (·.1)), rfl, .inr (SqT.of e0), fun pn hpn => ?_⟩⟩
      have B2 := (B1.keep m0).new (o := .lst (txs (rs.map (·.1)))) hpn
      have m1 := same_new (o := .lst (txs (rs.map (·.1)))) m0 hpn
      have q1 : upd G1 pn (.lst (txs (rs.map (·.1)))) pn = some (.lst (txs (rs.map (·.1)))) := upd_same
      have npb : pn ≠ b := (B1.keep m0).ne hpn
      generalize upd G1 pn (.lst (txs (rs.map (·.1)))) = H2 at B2 m1 q1 ⊢
      clear e0 n0 m0 hpn
      have hY2 := hY.more (wo_same m1)
      refine ⟨_, rfl, y, cs, rs, kn, rfl, hY2.more (wo_sub H2 b), by omega, knin, fun pk ks H3 knd kin e3 n3 m3 => ⟨_, _, rfl, ?_⟩⟩
      have ksC : (∀ z ∈ ks, Cd z) ∧ ks.length ≤ 24 := by
        refine ⟨fun z hz => ?_, ?_⟩
        · rcases List.mem_cons.mp (knin z ((kin z).mp hz).1) with e | e
          · exact absurd e ((kin z).mp hz).2
          · exact (nmC (knm z e)).1
        · have := sub_len knd (m := feed :: kn) fun z hz => knin z ((kin z).mp hz).1
          rw [List.length_cons] at this
          omega
      have B3 := B2.keep m3
      have nkb : pk ≠ b := B2.ne n3
      have q3 := m3 _ _ q1
      have hY3 := hY2.more (wo_same m3)
      clear q1 n3 knd knin knm hY hY2 m1 m3 B1 B2
      -- the things
      refine ⟨_, rfl, _, rfl, b, y, cs, rs, rfl, B3, hY3, hF, fun p xs H4 e4 npb4 l4 tx B4 s4 => ⟨p, rfl, ⟨_, SqL.of e4⟩, ?_⟩⟩
      have hY4 := hY3.more s4.1
      have q4 := s4.get q3 npb
      have k4 := s4.get e3 nkb
      clear q3 e3 hY3 B3 s4
      refine for_list (K := K) (a := p) (xs := xs) (fun j σ G => ∃ v6 v7 v8 v9 : Option V, σ = [some (.ref a), some (.ref b), some (.int (0 + (i : Int))), some y, some (.ref pn), some (.ref pk), v6, v7, v8, v9] ∧ Same H4 G) ?_ ?_ ?_ ?_
      · exact ⟨_, _, _, _, rfl, Same.refl H4⟩
      · rintro j σ G _ ⟨_, _, _, _, _, M⟩
        exact SqL.of (M _ _ e4)
      · rintro j x σ G hx ⟨v6, v7, v8, v9, rfl, M⟩
        obtain ⟨d, th, bd, ft⟩ := tx x (List.mem_of_getElem? hx)
        have tT : ∀ {G : Hp}, Same H4 G → Th w K G x d := fun {G} M => (th.more (wo_same M)).more (wo_sub G b)
        have tY : ∀ {G : Hp}, Same H4 G → YardV K G y cs rs := fun {G} M => (hY4.more (wo_same M)).more (wo_sub G b)
        have tN : ∀ {G : Hp}, Same H4 G → SqL K G pn (txs (rs.map (·.1))) := fun M => SqL.of (M _ _ q4)
        have tK : ∀ {G : Hp}, Same H4 G → SqL K G pk (txs ks) := fun M => SqL.of (M _ _ k4)
        have z1 := ft.1
        have z2 : d.shown.length ≤ sizeLine := Nat.le_trans ft.2.1 (by rw [sizeLine_eq]; decide)
        have z3 : d.depth ≤ 60 := Nat.le_trans ft.2.2 (by decide)
        refine ⟨_, rfl, x, d, rfl, (tT M).1, z1, z2, z3, ?_⟩
        -- due
        refine ⟨_, rfl, _, rfl, pn, _, x, d, rfl, tN M, by omega, fun z hz => (nmC0 z hz).1, (tT M).1, bd, fun G1 M1 => ?_⟩
        have M1 := M.trans M1
        refine ⟨_, rfl, _, rfl, pk, ks, x, d, rfl, tK M1, by omega, ksC.1, (tT M1).1, bd, fun G2 M2 => ?_⟩
        have M2 := M1.trans M2
        refine ⟨_, rfl, _, rfl, y, x, cs, rs, _, d, rfl, tY M2, hF, tT M2, bd, fun G3 M3 => ⟨by show 3 ≤ sizeLine; decide, fun p1 hp1 => ?_⟩⟩
        have M3 := same_new (o := .lst [.bl (lotD (rs.map (·.1)) d), .bl (lotD ks d), .bl (amtD (rs.map (·.1)) d)]) (M2.trans M3) hp1
        have e1 : upd G3 p1 (.lst [.bl (lotD (rs.map (·.1)) d), .bl (lotD ks d), .bl (amtD (rs.map (·.1)) d)]) p1 = some (.lst [.bl (lotD (rs.map (·.1)) d), .bl (lotD ks d), .bl (amtD (rs.map (·.1)) d)]) := upd_same
        generalize upd G3 p1 (.lst [.bl (lotD (rs.map (·.1)) d), .bl (lotD ks d), .bl (amtD (rs.map (·.1)) d)]) = H5 at M3 e1 ⊢
        refine ⟨_, rfl, _, rfl, _, rfl, y, x, cs, rs, _, d, rfl, tY M3, hF, tT M3, bd, fun G5 M5 => ?_⟩
        have e1 := M5 _ _ e1
        have M5 := M3.trans M5
        refine ⟨_, rfl, x, d, rfl, (tT M5).1, ?_⟩
        refine ⟨by show 2 ≤ sizeLine; decide, fun p2 hp2 => ⟨p1, p2, [.bl (lotD (rs.map (·.1)) d), .bl (lotD ks d), .bl (amtD (rs.map (·.1)) d)], [.bl (flowD (cs.map ckey) d), .bl (copiesD d)], rfl, rfl, s3u hp2 e1, upd_same, by show 3 + 2 ≤ sizeLine; decide, fun p3 hp3 => ?_⟩⟩
        have M6 := same_new (o := .lst ([.bl (lotD (rs.map (·.1)) d), .bl (lotD ks d), .bl (amtD (rs.map (·.1)) d)] ++ [.bl (flowD (cs.map ckey) d), .bl (copiesD d)])) (same_new (o := .lst [.bl (flowD (cs.map ckey) d), .bl (copiesD d)]) M5 hp2) hp3
        have e6 : upd (upd G5 p2 (.lst [.bl (flowD (cs.map ckey) d), .bl (copiesD d)])) p3 (.lst ([.bl (lotD (rs.map (·.1)) d), .bl (lotD ks d), .bl (amtD (rs.map (·.1)) d)] ++ [.bl (flowD (cs.map ckey) d), .bl (copiesD d)])) p3 = some (.lst ([lotD (rs.map (·.1)) d, lotD ks d, amtD (rs.map (·.1)) d, flowD (cs.map ckey) d, copiesD d].map V.bl)) := upd_same
        generalize upd (upd G5 p2 (.lst [.bl (flowD (cs.map ckey) d), .bl (copiesD d)])) p3 (.lst ([.bl (lotD (rs.map (·.1)) d), .bl (lotD ks d), .bl (amtD (rs.map (·.1)) d)] ++ [.bl (flowD (cs.map ckey) d), .bl (copiesD d)])) = H6 at M6 e6 ⊢
        clear e1 hp1 hp2 hp3 M1 M2 M3 M5
        -- told
        refine ⟨_, rfl, _, rfl, y, x, cs, rs, _, d, rfl, tY M6, hF, tT M6, bd, fun G1 M1 => ?_⟩
        have e1 := M1 _ _ e6
        have M1 := M6.trans M1
        refine ⟨_, rfl, _, rfl, y, x, cs, rs, _, ks, d, rfl, tY M1, hF, kin, tT M1, bd, fun G2 M2 => ?_⟩
        have e2 := M2 _ _ e1
        have M2 := M1.trans M2
        refine ⟨_, rfl, _, rfl, y, x, cs, rs, _, d, rfl, tY M2, hF, tT M2, bd, fun G3 M3 => ?_⟩
        have e3 := M3 _ _ e2
        have M3 := M2.trans M3
        refine ⟨_, rfl, _, rfl, y, x, cs, rs, _, d, rfl, tY M3, hF, tT M3, bd, fun G4 M4 => ⟨by show 4 ≤ sizeLine; decide, fun p4 hp4 => ?_⟩⟩
        have e4' := s3u (o := .lst [.bl (lotD (rs.map (·.1)) d), .bl (lotD ks d), .bl (amtD (rs.map (·.1)) d), .bl (flowD (cs.map ckey) d)]) hp4 (M4 _ _ e3)
        have M4 := same_new (o := .lst [.bl (lotD (rs.map (·.1)) d), .bl (lotD ks d), .bl (amtD (rs.map (·.1)) d), .bl (flowD (cs.map ckey) d)]) (M3.trans M4) hp4
        have f4 : upd G4 p4 (.lst [.bl (lotD (rs.map (·.1)) d), .bl (lotD ks d), .bl (amtD (rs.map (·.1)) d), .bl (flowD (cs.map ckey) d)]) p4 = some (.lst [.bl (lotD (rs.map (·.1)) d), .bl (lotD ks d), .bl (amtD (rs.map (·.1)) d), .bl (flowD (cs.map ckey) d)]) := upd_same
        generalize upd G4 p4 (.lst [.bl (lotD (rs.map (·.1)) d), .bl (lotD ks d), .bl (amtD (rs.map (·.1)) d), .bl (flowD (cs.map ckey) d)]) = H7 at M4 e4' f4 ⊢
        clear e1 e2 e3 e6 hp4 M1 M2 M3 M6
        refine ⟨_, rfl, _, rfl, x, d, rfl, (tT M4).1, bd, fun G5 M5 => ?_⟩
        have e5 := M5 _ _ e4'
        have f5 := M5 _ _ f4
        have M5 := M4.trans M5
        refine ⟨by show 1 ≤ sizeLine; decide, fun p5 hp5 => ⟨p4, p5, [.bl (lotD (rs.map (·.1)) d), .bl (lotD ks d), .bl (amtD (rs.map (·.1)) d), .bl (flowD (cs.map ckey) d)], [.bl (copiesD d)], rfl, rfl, s3u hp5 f5, upd_same, by show 4 + 1 ≤ sizeLine; decide, fun p6 hp6 => ?_⟩⟩
        have e7 := s3u (o := .lst ([.bl (lotD (rs.map (·.1)) d), .bl (lotD ks d), .bl (amtD (rs.map (·.1)) d), .bl (flowD (cs.map ckey) d)] ++ [.bl (copiesD d)])) hp6 (s3u (o := .lst [.bl (copiesD d)]) hp5 e5)
        have M7 := same_new (o := .lst ([.bl (lotD (rs.map (·.1)) d), .bl (lotD ks d), .bl (amtD (rs.map (·.1)) d), .bl (flowD (cs.map ckey) d)] ++ [.bl (copiesD d)])) (same_new (o := .lst [.bl (copiesD d)]) M5 hp5) hp6
        have f7 : upd (upd G5 p5 (.lst [.bl (copiesD d)])) p6 (.lst ([.bl (lotD (rs.map (·.1)) d), .bl (lotD ks d), .bl (amtD (rs.map (·.1)) d), .bl (flowD (cs.map ckey) d)] ++ [.bl (copiesD d)])) p6 = some (.lst ([lotD (rs.map (·.1)) d, lotD ks d, amtD (rs.map (·.1)) d, flowD (cs.map ckey) d, copiesD d].map V.bl)) := upd_same
        generalize upd (upd G5 p5 (.lst [.bl (copiesD d)])) p6 (.lst ([.bl (lotD (rs.map (·.1)) d), .bl (lotD ks d), .bl (amtD (rs.map (·.1)) d), .bl (flowD (cs.map ckey) d)] ++ [.bl (copiesD d)])) = H8 at M7 e7 f7 ⊢
        clear hp5 hp6 M4 M5 e4' f4 e5 f5
        generalize hbs : [lotD (rs.map (·.1)) d, lotD ks d, amtD (rs.map (·.1)) d, flowD (cs.map ckey) d, copiesD d] = bs at e7 f7 ⊢
        obtain ⟨u1, u2, u3⟩ : Fit 10000 4 (.list (bs.map PyData.bool)) := by
          have lb : bs.length = 5 := by rw [← hbs]; rfl
          refine (fit_list (m := 1000) (k := 3) fun d hd => ?_).mono (by rw [List.length_map, lb]; decide) (Nat.le_refl _)
          obtain ⟨v, _, rfl⟩ := List.mem_map.mp hd
          exact bool_fit v
        refine ⟨_, rfl, .ref p6, .ref p3, .list (bs.map PyData.bool), rfl, .inr ⟨3, by decide, .inl (.inl ⟨p6, p3, _, _, rfl, rfl, SqL.of f7, SqL.of e7, eq_bools bs⟩)⟩, .lst (SqL.of f7) (datA_bools bs), .lst (SqL.of e7) (datA_bools bs), u1, Nat.le_trans u2 (by rw [sizeLine_eq]; decide), Nat.le_trans u3 (by decide), ?_⟩
        refine ⟨_, rfl, ?_⟩
        refine ite2 (fun h => by cases h) (fun _ => ?_)
        refine ⟨_, rfl, x, d, rfl, (tT M7).1, z1, z2, z3, _, rfl, rfl, _, rfl, ?_⟩
        refine ite2 (fun h => absurd h (by simp)) (fun _ => ?_)
        exact ⟨_, _, _, _, rfl, M7⟩
      · rintro σ G ⟨v6, v7, v8, v9, rfl, M⟩
        exact ⟨_, _, _, _, _, _, _, _, rfl, B4.keep M⟩
    · rintro σ H' ⟨v2, v3, v4, v5, v6, v7, v8, v9, rfl, hB⟩
      exact k H'
end
end Y

namespace Y
open PySem PySem.Spec PyProof.Rows L2 Ns
/-- the def's data -/
def fdOf {K : PySem.W.Frag} {x q : Str} {st : Stmt} {f : Addr} {fd : FuncData} (_ : Fun K x q st f fd) : FuncData := fd
set_option maxHeartbeats 4000000 in
theorem all_mk {l : PySem.W.OpenLaw} {w : World} {K : PySem.W.Frag} {h : Heap} {mg : Str → Option Value} {fa : Addr} (X : K.In h) (G : h.Ns mainGlobals mg) (hfa : mg "law" = some (.ref fa))
    {fII fIC fIP fIT fIR fIL fCL fKI fCu fAm fFl fCp fCs fCo fB fT fS fM fA fN fNN fZ fCB fR fY fSm fW fKn fC fWh fAA fO fBW fBt fLL fLF fLC fD fE fTh fL : Addr}
    {oddII andII : Option Addr} {sldII : Array (Option Value)} {ocdII kVdII dcdII pmdII cddII ctdII : Value}
    {oddIC andIC : Option Addr} {sldIC : Array (Option Value)} {ocdIC kVdIC dcdIC pmdIC cddIC ctdIC : Value}
    {oddIP andIP : Option Addr} {sldIP : Array (Option Value)} {ocdIP kVdIP dcdIP pmdIP cddIP ctdIP : Value}
    {oddIT andIT : Option Addr} {sldIT : Array (Option Value)} {ocdIT kVdIT dcdIT pmdIT cddIT ctdIT : Value}
    {oddIR andIR : Option Addr} {sldIR : Array (Option Value)} {ocdIR kVdIR dcdIR pmdIR cddIR ctdIR : Value}
    {oddIL andIL : Option Addr} {sldIL : Array (Option Value)} {ocdIL kVdIL dcdIL pmdIL cddIL ctdIL : Value}
    {oddCL andCL : Option Addr} {sldCL : Array (Option Value)} {ocdCL kVdCL dcdCL pmdCL cddCL ctdCL : Value}
    {oddKI andKI : Option Addr} {sldKI : Array (Option Value)} {ocdKI kVdKI dcdKI pmdKI cddKI ctdKI : Value}
    {oddCu andCu : Option Addr} {sldCu : Array (Option Value)} {ocdCu kVdCu dcdCu pmdCu cddCu ctdCu : Value}
    {oddAm andAm : Option Addr} {sldAm : Array (Option Value)} {ocdAm kVdAm dcdAm pmdAm cddAm ctdAm : Value}
    {oddFl andFl : Option Addr} {sldFl : Array (Option Value)} {ocdFl kVdFl dcdFl pmdFl cddFl ctdFl : Value}
    {oddCp andCp : Option Addr} {sldCp : Array (Option Value)} {ocdCp kVdCp dcdCp pmdCp cddCp ctdCp : Value}
    {oddCs andCs : Option Addr} {sldCs : Array (Option Value)} {ocdCs kVdCs dcdCs pmdCs cddCs ctdCs : Value}
    {oddCo andCo : Option Addr} {sldCo : Array (Option Value)} {ocdCo kVdCo dcdCo pmdCo cddCo ctdCo : Value}
    {oddB andB : Option Addr} {sldB : Array (Option Value)} {ocdB kVdB dcdB pmdB cddB ctdB : Value}
    {oddT andT : Option Addr} {sldT : Array (Option Value)} {ocdT kVdT dcdT pmdT cddT ctdT : Value}
    {oddS andS : Option Addr} {sldS : Array (Option Value)} {ocdS kVdS dcdS pmdS cddS ctdS : Value}
    {oddM andM : Option Addr} {sldM : Array (Option Value)} {ocdM kVdM dcdM pmdM cddM ctdM : Value}
    {oddA andA : Option Addr} {sldA : Array (Option Value)} {ocdA kVdA dcdA pmdA cddA ctdA : Value}
    {oddN andN : Option Addr} {sldN : Array (Option Value)} {ocdN kVdN dcdN pmdN cddN ctdN : Value}
    {oddNN andNN : Option Addr} {sldNN : Array (Option Value)} {ocdNN kVdNN dcdNN pmdNN cddNN ctdNN : Value}
    {oddZ andZ : Option Addr} {sldZ : Array (Option Value)} {ocdZ kVdZ dcdZ pmdZ cddZ ctdZ : Value}
    {oddCB andCB : Option Addr} {sldCB : Array (Option Value)} {ocdCB kVdCB dcdCB pmdCB cddCB ctdCB : Value}
    {oddR andR : Option Addr} {sldR : Array (Option Value)} {ocdR kVdR dcdR pmdR cddR ctdR : Value}
    {oddY andY : Option Addr} {sldY : Array (Option Value)} {ocdY kVdY dcdY pmdY cddY ctdY : Value}
    {oddSm andSm : Option Addr} {sldSm : Array (Option Value)} {ocdSm kVdSm dcdSm pmdSm cddSm ctdSm : Value}
    {oddW andW : Option Addr} {sldW : Array (Option Value)} {ocdW kVdW dcdW pmdW cddW ctdW : Value}
    {oddKn andKn : Option Addr} {sldKn : Array (Option Value)} {ocdKn kVdKn dcdKn pmdKn cddKn ctdKn : Value}
    {oddC andC : Option Addr} {sldC : Array (Option Value)} {ocdC kVdC dcdC pmdC cddC ctdC : Value}
    {oddWh andWh : Option Addr} {sldWh : Array (Option Value)} {ocdWh kVdWh dcdWh pmdWh cddWh ctdWh : Value}
    {oddAA andAA : Option Addr} {sldAA : Array (Option Value)} {ocdAA kVdAA dcdAA pmdAA cddAA ctdAA : Value}
    {oddO andO : Option Addr} {sldO : Array (Option Value)} {ocdO kVdO dcdO pmdO cddO ctdO : Value}
    {oddBW andBW : Option Addr} {sldBW : Array (Option Value)} {ocdBW kVdBW dcdBW pmdBW cddBW ctdBW : Value}
    {oddBt andBt : Option Addr} {sldBt : Array (Option Value)} {ocdBt kVdBt dcdBt pmdBt cddBt ctdBt : Value}
    {oddLL andLL : Option Addr} {sldLL : Array (Option Value)} {ocdLL kVdLL dcdLL pmdLL cddLL ctdLL : Value}
    {oddLF andLF : Option Addr} {sldLF : Array (Option Value)} {ocdLF kVdLF dcdLF pmdLF cddLF ctdLF : Value}
    {oddLC andLC : Option Addr} {sldLC : Array (Option Value)} {ocdLC kVdLC dcdLC pmdLC cddLC ctdLC : Value}
    {oddD andD : Option Addr} {sldD : Array (Option Value)} {ocdD kVdD dcdD pmdD cddD ctdD : Value}
    {oddE andE : Option Addr} {sldE : Array (Option Value)} {ocdE kVdE dcdE pmdE cddE ctdE : Value}
    {oddTh andTh : Option Addr} {sldTh : Array (Option Value)} {ocdTh kVdTh dcdTh pmdTh cddTh ctdTh : Value}
    {oddL andL : Option Addr} {sldL : Array (Option Value)} {ocdL kVdL dcdL pmdL cddL ctdL : Value}
    (adII : PySem.W.nsIn K mainGlobals "is_integer" = some (some (.ref fII)))
    (ldII : K.lookup fII = some ⟨ocdII, oddII, .func (PySem.W.fnOf "is_integer" "is_integer" (defArgs sIsInteger) (defBody sIsInteger) (defScope sIsInteger) .none kVdII dcdII pmdII andII cddII ctdII), sldII⟩)
    (cdII : PySem.W.codeIn K cddII "is_integer" = true)
    (kdII : PySem.W.keepIn K (.ref fII) = true)
    (adIC : PySem.W.nsIn K mainGlobals "is_count" = some (some (.ref fIC)))
    (ldIC : K.lookup fIC = some ⟨ocdIC, oddIC, .func (PySem.W.fnOf "is_count" "is_count" (defArgs sIsCount) (defBody sIsCount) (defScope sIsCount) .none kVdIC dcdIC pmdIC andIC cddIC ctdIC), sldIC⟩)
    (cdIC : PySem.W.codeIn K cddIC "is_count" = true)
    (kdIC : PySem.W.keepIn K (.ref fIC) = true)
    (adIP : PySem.W.nsIn K mainGlobals "is_positive" = some (some (.ref fIP)))
    (ldIP : K.lookup fIP = some ⟨ocdIP, oddIP, .func (PySem.W.fnOf "is_positive" "is_positive" (defArgs sIsPositive) (defBody sIsPositive) (defScope sIsPositive) .none kVdIP dcdIP pmdIP andIP cddIP ctdIP), sldIP⟩)
    (cdIP : PySem.W.codeIn K cddIP "is_positive" = true)
    (kdIP : PySem.W.keepIn K (.ref fIP) = true)
    (adIT : PySem.W.nsIn K mainGlobals "is_tuple_of" = some (some (.ref fIT)))
    (ldIT : K.lookup fIT = some ⟨ocdIT, oddIT, .func (PySem.W.fnOf "is_tuple_of" "is_tuple_of" (defArgs sIsTupleOf) (defBody sIsTupleOf) (defScope sIsTupleOf) .none kVdIT dcdIT pmdIT andIT cddIT ctdIT), sldIT⟩)
    (cdIT : PySem.W.codeIn K cddIT "is_tuple_of" = true)
    (kdIT : PySem.W.keepIn K (.ref fIT) = true)
    (adIR : PySem.W.nsIn K mainGlobals "is_rising" = some (some (.ref fIR)))
    (ldIR : K.lookup fIR = some ⟨ocdIR, oddIR, .func (PySem.W.fnOf "is_rising" "is_rising" (defArgs sIsRising) (defBody sIsRising) (defScope sIsRising) .none kVdIR dcdIR pmdIR andIR cddIR ctdIR), sldIR⟩)
    (cdIR : PySem.W.codeIn K cddIR "is_rising" = true)
    (kdIR : PySem.W.keepIn K (.ref fIR) = true)
    (adIL : PySem.W.nsIn K mainGlobals "is_lot_of" = some (some (.ref fIL)))
    (ldIL : K.lookup fIL = some ⟨ocdIL, oddIL, .func (PySem.W.fnOf "is_lot_of" "is_lot_of" (defArgs sIsLotOf) (defBody sIsLotOf) (defScope sIsLotOf) .none kVdIL dcdIL pmdIL andIL cddIL ctdIL), sldIL⟩)
    (cdIL : PySem.W.codeIn K cddIL "is_lot_of" = true)
    (kdIL : PySem.W.keepIn K (.ref fIL) = true)
    (adCL : PySem.W.nsIn K mainGlobals "is_car_lot" = some (some (.ref fCL)))
    (ldCL : K.lookup fCL = some ⟨ocdCL, oddCL, .func (PySem.W.fnOf "is_car_lot" "is_car_lot" (defArgs sIsCarLot) (defBody sIsCarLot) (defScope sIsCarLot) .none kVdCL dcdCL pmdCL andCL cddCL ctdCL), sldCL⟩)
    (cdCL : PySem.W.codeIn K cddCL "is_car_lot" = true)
    (kdCL : PySem.W.keepIn K (.ref fCL) = true)
    (adKI : PySem.W.nsIn K mainGlobals "knots_in" = some (some (.ref fKI)))
    (ldKI : K.lookup fKI = some ⟨ocdKI, oddKI, .func (PySem.W.fnOf "knots_in" "knots_in" (defArgs sKnotsIn) (defBody sKnotsIn) (defScope sKnotsIn) .none kVdKI dcdKI pmdKI andKI cddKI ctdKI), sldKI⟩)
    (cdKI : PySem.W.codeIn K cddKI "knots_in" = true)
    (kdKI : PySem.W.keepIn K (.ref fKI) = true)
    (adCu : PySem.W.nsIn K mainGlobals "is_cut" = some (some (.ref fCu)))
    (ldCu : K.lookup fCu = some ⟨ocdCu, oddCu, .func (PySem.W.fnOf "is_cut" "is_cut" (defArgs sIsCut) (defBody sIsCut) (defScope sIsCut) .none kVdCu dcdCu pmdCu andCu cddCu ctdCu), sldCu⟩)
    (cdCu : PySem.W.codeIn K cddCu "is_cut" = true)
    (kdCu : PySem.W.keepIn K (.ref fCu) = true)
    (adAm : PySem.W.nsIn K mainGlobals "is_amounts" = some (some (.ref fAm)))
    (ldAm : K.lookup fAm = some ⟨ocdAm, oddAm, .func (PySem.W.fnOf "is_amounts" "is_amounts" (defArgs sIsAmounts) (defBody sIsAmounts) (defScope sIsAmounts) .none kVdAm dcdAm pmdAm andAm cddAm ctdAm), sldAm⟩)
    (cdAm : PySem.W.codeIn K cddAm "is_amounts" = true)
    (kdAm : PySem.W.keepIn K (.ref fAm) = true)
    (adFl : PySem.W.nsIn K mainGlobals "is_flow" = some (some (.ref fFl)))
    (ldFl : K.lookup fFl = some ⟨ocdFl, oddFl, .func (PySem.W.fnOf "is_flow" "is_flow" (defArgs sIsFlow) (defBody sIsFlow) (defScope sIsFlow) .none kVdFl dcdFl pmdFl andFl cddFl ctdFl), sldFl⟩)
    (cdFl : PySem.W.codeIn K cddFl "is_flow" = true)
    (kdFl : PySem.W.keepIn K (.ref fFl) = true)
    (adCp : PySem.W.nsIn K mainGlobals "_is_couple" = some (some (.ref fCp)))
    (ldCp : K.lookup fCp = some ⟨ocdCp, oddCp, .func (PySem.W.fnOf "_is_couple" "_is_couple" (defArgs sIsCouple) (defBody sIsCouple) (defScope sIsCouple) .none kVdCp dcdCp pmdCp andCp cddCp ctdCp), sldCp⟩)
    (cdCp : PySem.W.codeIn K cddCp "_is_couple" = true)
    (kdCp : PySem.W.keepIn K (.ref fCp) = true)
    (adCs : PySem.W.nsIn K mainGlobals "is_copies" = some (some (.ref fCs)))
    (ldCs : K.lookup fCs = some ⟨ocdCs, oddCs, .func (PySem.W.fnOf "is_copies" "is_copies" (defArgs sIsCopies) (defBody sIsCopies) (defScope sIsCopies) .none kVdCs dcdCs pmdCs andCs cddCs ctdCs), sldCs⟩)
    (cdCs : PySem.W.codeIn K cddCs "is_copies" = true)
    (kdCs : PySem.W.keepIn K (.ref fCs) = true)
    (adCo : PySem.W.nsIn K mainGlobals "_is_copy" = some (some (.ref fCo)))
    (ldCo : K.lookup fCo = some ⟨ocdCo, oddCo, .func (PySem.W.fnOf "_is_copy" "_is_copy" (defArgs sIsCopy) (defBody sIsCopy) (defScope sIsCopy) .none kVdCo dcdCo pmdCo andCo cddCo ctdCo), sldCo⟩)
    (cdCo : PySem.W.codeIn K cddCo "_is_copy" = true)
    (kdCo : PySem.W.keepIn K (.ref fCo) = true)
    (adB : PySem.W.nsIn K mainGlobals "_law_bag" = some (some (.ref fB)))
    (ldB : K.lookup fB = some ⟨ocdB, oddB, .func (PySem.W.fnOf "_law_bag" "_law_bag" (defArgs sBag) (defBody sBag) (defScope sBag) .none kVdB dcdB pmdB andB cddB ctdB), sldB⟩)
    (cdB : PySem.W.codeIn K cddB "_law_bag" = true)
    (kdB : PySem.W.keepIn K (.ref fB) = true)
    (adT : PySem.W.nsIn K mainGlobals "_law_take" = some (some (.ref fT)))
    (ldT : K.lookup fT = some ⟨ocdT, oddT, .func (PySem.W.fnOf "_law_take" "_law_take" (defArgs sTake) (defBody sTake) (defScope sTake) .none kVdT dcdT pmdT andT cddT ctdT), sldT⟩)
    (cdT : PySem.W.codeIn K cddT "_law_take" = true)
    (kdT : PySem.W.keepIn K (.ref fT) = true)
    (adS : PySem.W.nsIn K mainGlobals "_law_some" = some (some (.ref fS)))
    (ldS : K.lookup fS = some ⟨ocdS, oddS, .func (PySem.W.fnOf "_law_some" "_law_some" (defArgs sSome) (defBody sSome) (defScope sSome) .none kVdS dcdS pmdS andS cddS ctdS), sldS⟩)
    (cdS : PySem.W.codeIn K cddS "_law_some" = true)
    (kdS : PySem.W.keepIn K (.ref fS) = true)
    (adM : PySem.W.nsIn K mainGlobals "_law_mixed" = some (some (.ref fM)))
    (ldM : K.lookup fM = some ⟨ocdM, oddM, .func (PySem.W.fnOf "_law_mixed" "_law_mixed" (defArgs sMixed) (defBody sMixed) (defScope sMixed) .none kVdM dcdM pmdM andM cddM ctdM), sldM⟩)
    (cdM : PySem.W.codeIn K cddM "_law_mixed" = true)
    (kdM : PySem.W.keepIn K (.ref fM) = true)
    (adA : PySem.W.nsIn K mainGlobals "_law_alike" = some (some (.ref fA)))
    (ldA : K.lookup fA = some ⟨ocdA, oddA, .func (PySem.W.fnOf "_law_alike" "_law_alike" (defArgs sAlike) (defBody sAlike) (defScope sAlike) .none kVdA dcdA pmdA andA cddA ctdA), sldA⟩)
    (cdA : PySem.W.codeIn K cddA "_law_alike" = true)
    (kdA : PySem.W.keepIn K (.ref fA) = true)
    (adN : PySem.W.nsIn K mainGlobals "_law_name" = some (some (.ref fN)))
    (ldN : K.lookup fN = some ⟨ocdN, oddN, .func (PySem.W.fnOf "_law_name" "_law_name" (defArgs sName) (defBody sName) (defScope sName) .none kVdN dcdN pmdN andN cddN ctdN), sldN⟩)
    (cdN : PySem.W.codeIn K cddN "_law_name" = true)
    (kdN : PySem.W.keepIn K (.ref fN) = true)
    (adNN : PySem.W.nsIn K mainGlobals "_law_names" = some (some (.ref fNN)))
    (ldNN : K.lookup fNN = some ⟨ocdNN, oddNN, .func (PySem.W.fnOf "_law_names" "_law_names" (defArgs sNames) (defBody sNames) (defScope sNames) .none kVdNN dcdNN pmdNN andNN cddNN ctdNN), sldNN⟩)
    (cdNN : PySem.W.codeIn K cddNN "_law_names" = true)
    (kdNN : PySem.W.keepIn K (.ref fNN) = true)
    (adZ : PySem.W.nsIn K mainGlobals "_law_size" = some (some (.ref fZ)))
    (ldZ : K.lookup fZ = some ⟨ocdZ, oddZ, .func (PySem.W.fnOf "_law_size" "_law_size" (defArgs sSize) (defBody sSize) (defScope sSize) .none kVdZ dcdZ pmdZ andZ cddZ ctdZ), sldZ⟩)
    (cdZ : PySem.W.codeIn K cddZ "_law_size" = true)
    (kdZ : PySem.W.keepIn K (.ref fZ) = true)
    (adCB : PySem.W.nsIn K mainGlobals "_law_cables" = some (some (.ref fCB)))
    (ldCB : K.lookup fCB = some ⟨ocdCB, oddCB, .func (PySem.W.fnOf "_law_cables" "_law_cables" (defArgs sCables) (defBody sCables) (defScope sCables) .none kVdCB dcdCB pmdCB andCB cddCB ctdCB), sldCB⟩)
    (cdCB : PySem.W.codeIn K cddCB "_law_cables" = true)
    (kdCB : PySem.W.keepIn K (.ref fCB) = true)
    (adR : PySem.W.nsIn K mainGlobals "_law_cars" = some (some (.ref fR)))
    (ldR : K.lookup fR = some ⟨ocdR, oddR, .func (PySem.W.fnOf "_law_cars" "_law_cars" (defArgs sCars) (defBody sCars) (defScope sCars) .none kVdR dcdR pmdR andR cddR ctdR), sldR⟩)
    (cdR : PySem.W.codeIn K cddR "_law_cars" = true)
    (kdR : PySem.W.keepIn K (.ref fR) = true)
    (adY : PySem.W.nsIn K mainGlobals "_law_yard_of" = some (some (.ref fY)))
    (ldY : K.lookup fY = some ⟨ocdY, oddY, .func (PySem.W.fnOf "_law_yard_of" "_law_yard_of" (defArgs sYardOf) (defBody sYardOf) (defScope sYardOf) .none kVdY dcdY pmdY andY cddY ctdY), sldY⟩)
    (cdY : PySem.W.codeIn K cddY "_law_yard_of" = true)
    (kdY : PySem.W.keepIn K (.ref fY) = true)
    (adSm : PySem.W.nsIn K mainGlobals "_law_small_yard" = some (some (.ref fSm)))
    (ldSm : K.lookup fSm = some ⟨ocdSm, oddSm, .func (PySem.W.fnOf "_law_small_yard" "_law_small_yard" (defArgs sSmall) (defBody sSmall) (defScope sSmall) .none kVdSm dcdSm pmdSm andSm cddSm ctdSm), sldSm⟩)
    (cdSm : PySem.W.codeIn K cddSm "_law_small_yard" = true)
    (kdSm : PySem.W.keepIn K (.ref fSm) = true)
    (adW : PySem.W.nsIn K mainGlobals "_law_wide_yard" = some (some (.ref fW)))
    (ldW : K.lookup fW = some ⟨ocdW, oddW, .func (PySem.W.fnOf "_law_wide_yard" "_law_wide_yard" (defArgs sWide) (defBody sWide) (defScope sWide) .none kVdW dcdW pmdW andW cddW ctdW), sldW⟩)
    (cdW : PySem.W.codeIn K cddW "_law_wide_yard" = true)
    (kdW : PySem.W.keepIn K (.ref fW) = true)
    (adKn : PySem.W.nsIn K mainGlobals "_law_knots" = some (some (.ref fKn)))
    (ldKn : K.lookup fKn = some ⟨ocdKn, oddKn, .func (PySem.W.fnOf "_law_knots" "_law_knots" (defArgs sKnots) (defBody sKnots) (defScope sKnots) .none kVdKn dcdKn pmdKn andKn cddKn ctdKn), sldKn⟩)
    (cdKn : PySem.W.codeIn K cddKn "_law_knots" = true)
    (kdKn : PySem.W.keepIn K (.ref fKn) = true)
    (adC : PySem.W.nsIn K mainGlobals "_law_all_cars" = some (some (.ref fC)))
    (ldC : K.lookup fC = some ⟨ocdC, oddC, .func (PySem.W.fnOf "_law_all_cars" "_law_all_cars" (defArgs sAllCars) (defBody sAllCars) (defScope sAllCars) .none kVdC dcdC pmdC andC cddC ctdC), sldC⟩)
    (cdC : PySem.W.codeIn K cddC "_law_all_cars" = true)
    (kdC : PySem.W.keepIn K (.ref fC) = true)
    (adWh : PySem.W.nsIn K mainGlobals "_law_whole" = some (some (.ref fWh)))
    (ldWh : K.lookup fWh = some ⟨ocdWh, oddWh, .func (PySem.W.fnOf "_law_whole" "_law_whole" (defArgs sWhole) (defBody sWhole) (defScope sWhole) .none kVdWh dcdWh pmdWh andWh cddWh ctdWh), sldWh⟩)
    (cdWh : PySem.W.codeIn K cddWh "_law_whole" = true)
    (kdWh : PySem.W.keepIn K (.ref fWh) = true)
    (adAA : PySem.W.nsIn K mainGlobals "_law_are_amounts" = some (some (.ref fAA)))
    (ldAA : K.lookup fAA = some ⟨ocdAA, oddAA, .func (PySem.W.fnOf "_law_are_amounts" "_law_are_amounts" (defArgs sAreAmounts) (defBody sAreAmounts) (defScope sAreAmounts) .none kVdAA dcdAA pmdAA andAA cddAA ctdAA), sldAA⟩)
    (cdAA : PySem.W.codeIn K cddAA "_law_are_amounts" = true)
    (kdAA : PySem.W.keepIn K (.ref fAA) = true)
    (adO : PySem.W.nsIn K mainGlobals "_law_odd" = some (some (.ref fO)))
    (ldO : K.lookup fO = some ⟨ocdO, oddO, .func (PySem.W.fnOf "_law_odd" "_law_odd" (defArgs sOdd) (defBody sOdd) (defScope sOdd) .none kVdO dcdO pmdO andO cddO ctdO), sldO⟩)
    (cdO : PySem.W.codeIn K cddO "_law_odd" = true)
    (kdO : PySem.W.keepIn K (.ref fO) = true)
    (adBW : PySem.W.nsIn K mainGlobals "_law_bent_word" = some (some (.ref fBW)))
    (ldBW : K.lookup fBW = some ⟨ocdBW, oddBW, .func (PySem.W.fnOf "_law_bent_word" "_law_bent_word" (defArgs sBentWord) (defBody sBentWord) (defScope sBentWord) .none kVdBW dcdBW pmdBW andBW cddBW ctdBW), sldBW⟩)
    (cdBW : PySem.W.codeIn K cddBW "_law_bent_word" = true)
    (kdBW : PySem.W.keepIn K (.ref fBW) = true)
    (adBt : PySem.W.nsIn K mainGlobals "_law_bent" = some (some (.ref fBt)))
    (ldBt : K.lookup fBt = some ⟨ocdBt, oddBt, .func (PySem.W.fnOf "_law_bent" "_law_bent" (defArgs sBent) (defBody sBent) (defScope sBent) .none kVdBt dcdBt pmdBt andBt cddBt ctdBt), sldBt⟩)
    (cdBt : PySem.W.codeIn K cddBt "_law_bent" = true)
    (kdBt : PySem.W.keepIn K (.ref fBt) = true)
    (adLL : PySem.W.nsIn K mainGlobals "_law_is_lot_of" = some (some (.ref fLL)))
    (ldLL : K.lookup fLL = some ⟨ocdLL, oddLL, .func (PySem.W.fnOf "_law_is_lot_of" "_law_is_lot_of" (defArgs sLIsLotOf) (defBody sLIsLotOf) (defScope sLIsLotOf) .none kVdLL dcdLL pmdLL andLL cddLL ctdLL), sldLL⟩)
    (cdLL : PySem.W.codeIn K cddLL "_law_is_lot_of" = true)
    (kdLL : PySem.W.keepIn K (.ref fLL) = true)
    (adLF : PySem.W.nsIn K mainGlobals "_law_is_flow_of" = some (some (.ref fLF)))
    (ldLF : K.lookup fLF = some ⟨ocdLF, oddLF, .func (PySem.W.fnOf "_law_is_flow_of" "_law_is_flow_of" (defArgs sIsFlowOf) (defBody sIsFlowOf) (defScope sIsFlowOf) .none kVdLF dcdLF pmdLF andLF cddLF ctdLF), sldLF⟩)
    (cdLF : PySem.W.codeIn K cddLF "_law_is_flow_of" = true)
    (kdLF : PySem.W.keepIn K (.ref fLF) = true)
    (adLC : PySem.W.nsIn K mainGlobals "_law_is_copies" = some (some (.ref fLC)))
    (ldLC : K.lookup fLC = some ⟨ocdLC, oddLC, .func (PySem.W.fnOf "_law_is_copies" "_law_is_copies" (defArgs sLIsCopies) (defBody sLIsCopies) (defScope sLIsCopies) .none kVdLC dcdLC pmdLC andLC cddLC ctdLC), sldLC⟩)
    (cdLC : PySem.W.codeIn K cddLC "_law_is_copies" = true)
    (kdLC : PySem.W.keepIn K (.ref fLC) = true)
    (adD : PySem.W.nsIn K mainGlobals "_law_dict_of" = some (some (.ref fD)))
    (ldD : K.lookup fD = some ⟨ocdD, oddD, .func (PySem.W.fnOf "_law_dict_of" "_law_dict_of" (defArgs sDictOf) (defBody sDictOf) (defScope sDictOf) .none kVdD dcdD pmdD andD cddD ctdD), sldD⟩)
    (cdD : PySem.W.codeIn K cddD "_law_dict_of" = true)
    (kdD : PySem.W.keepIn K (.ref fD) = true)
    (adE : PySem.W.nsIn K mainGlobals "_law_bent_dict" = some (some (.ref fE)))
    (ldE : K.lookup fE = some ⟨ocdE, oddE, .func (PySem.W.fnOf "_law_bent_dict" "_law_bent_dict" (defArgs sBentDict) (defBody sBentDict) (defScope sBentDict) .none kVdE dcdE pmdE andE cddE ctdE), sldE⟩)
    (cdE : PySem.W.codeIn K cddE "_law_bent_dict" = true)
    (kdE : PySem.W.keepIn K (.ref fE) = true)
    (adTh : PySem.W.nsIn K mainGlobals "_law_things" = some (some (.ref fTh)))
    (ldTh : K.lookup fTh = some ⟨ocdTh, oddTh, .func (PySem.W.fnOf "_law_things" "_law_things" (defArgs sThings) (defBody sThings) (defScope sThings) .none kVdTh dcdTh pmdTh andTh cddTh ctdTh), sldTh⟩)
    (cdTh : PySem.W.codeIn K cddTh "_law_things" = true)
    (kdTh : PySem.W.keepIn K (.ref fTh) = true)
    (adL : PySem.W.nsIn K mainGlobals "law" = some (some (.ref fL)))
    (ldL : K.lookup fL = some ⟨ocdL, oddL, .func (PySem.W.fnOf "law" "law" (defArgs sLaw) (defBody sLaw) (defScope sLaw) .none kVdL dcdL pmdL andL cddL ctdL), sldL⟩)
    (cdL : PySem.W.codeIn K cddL "law" = true)
    (kdL : PySem.W.keepIn K (.ref fL) = true)
    (zabs : PySem.W.nsIn K mainGlobals "abs" = some none)
    (zint : PySem.W.nsIn K mainGlobals "int" = some none)
    (zlen : PySem.W.nsIn K mainGlobals "len" = some none)
    (zrepr : PySem.W.nsIn K mainGlobals "repr" = some none)
    (zisinstance : PySem.W.nsIn K mainGlobals "isinstance" = some none)
    (zrange : PySem.W.nsIn K mainGlobals "range" = some none)
    (zsorted : PySem.W.nsIn K mainGlobals "sorted" = some none)
    (ztuple : PySem.W.nsIn K mainGlobals "tuple" = some none)
    (zlist : PySem.W.nsIn K mainGlobals "list" = some none)
    (zdict : PySem.W.nsIn K mainGlobals "dict" = some none)
    (zset : PySem.W.nsIn K mainGlobals "set" = some none)
    (zsum : PySem.W.nsIn K mainGlobals "sum" = some none)
    (zmax : PySem.W.nsIn K mainGlobals "max" = some none)
    (zmin : PySem.W.nsIn K mainGlobals "min" = some none)
    (zstr : PySem.W.nsIn K mainGlobals "str" = some none)
    (zall : PySem.W.nsIn K mainGlobals "all" = some none)
    (zany : PySem.W.nsIn K mainGlobals "any" = some none)
    (zzip : PySem.W.nsIn K mainGlobals "zip" = some none)
    (zbool : PySem.W.nsIn K mainGlobals "bool" = some none) :
    ∃ fd : FuncData, (∀ (s : Shared) (v : Value), BindsTo s fd ⟨[v], []⟩ [("script", v)]) ∧ ∀ base : Heap, K.In base → base.Ns mainGlobals mg → GnOk l.prog w K mg base 8 fa fd ["script"] (spTop K) := by
  have e := hfa.symm.trans (PySem.W.mg_of X G adL)
  cases e
  have T : Nat0 mg := ⟨PySem.W.mg_none_of X G zabs, PySem.W.mg_none_of X G zint, PySem.W.mg_none_of X G zlen, PySem.W.mg_none_of X G zrepr, PySem.W.mg_none_of X G zisinstance, PySem.W.mg_none_of X G zrange, PySem.W.mg_none_of X G zsorted, PySem.W.mg_none_of X G ztuple, PySem.W.mg_none_of X G zlist, PySem.W.mg_none_of X G zdict, PySem.W.mg_none_of X G zset, PySem.W.mg_none_of X G zsum, PySem.W.mg_none_of X G zmax, PySem.W.mg_none_of X G zmin, PySem.W.mg_none_of X G zstr, PySem.W.mg_none_of X G zall, PySem.W.mg_none_of X G zany, PySem.W.mg_none_of X G zzip⟩
  have h_bool : mg "bool" = none := PySem.W.mg_none_of X G zbool
  have FII := fun_mk (st := sIsInteger) ldII cdII kdII
  have bII := FII.binds (ps := ["thing"]) fun _ _ _ _ _ _ us hl => match us, hl with | [_], _ => rfl
  have mII := PySem.W.mg_of X G adII
  have FIC := fun_mk (st := sIsCount) ldIC cdIC kdIC
  have bIC := FIC.binds (ps := ["thing"]) fun _ _ _ _ _ _ us hl => match us, hl with | [_], _ => rfl
  have mIC := PySem.W.mg_of X G adIC
  have FIP := fun_mk (st := sIsPositive) ldIP cdIP kdIP
  have bIP := FIP.binds (ps := ["thing"]) fun _ _ _ _ _ _ us hl => match us, hl with | [_], _ => rfl
  have mIP := PySem.W.mg_of X G adIP
  have FIT := fun_mk (st := sIsTupleOf) ldIT cdIT kdIT
  have bIT := FIT.binds (ps := ["many", "thing"]) fun _ _ _ _ _ _ us hl => match us, hl with | [_, _], _ => rfl
  have mIT := PySem.W.mg_of X G adIT
  have FIR := fun_mk (st := sIsRising) ldIR cdIR kdIR
  have bIR := FIR.binds (ps := ["row"]) fun _ _ _ _ _ _ us hl => match us, hl with | [_], _ => rfl
  have mIR := PySem.W.mg_of X G adIR
  have FIL := fun_mk (st := sIsLotOf) ldIL cdIL kdIL
  have bIL := FIL.binds (ps := ["names", "thing"]) fun _ _ _ _ _ _ us hl => match us, hl with | [_, _], _ => rfl
  have mIL := PySem.W.mg_of X G adIL
  have FCL := fun_mk (st := sIsCarLot) ldCL cdCL kdCL
  have bCL := FCL.binds (ps := ["yard", "thing"]) fun _ _ _ _ _ _ us hl => match us, hl with | [_, _], _ => rfl
  have mCL := PySem.W.mg_of X G adCL
  have FKI := fun_mk (st := sKnotsIn) ldKI cdKI kdKI
  have bKI := FKI.binds (ps := ["yard"]) fun _ _ _ _ _ _ us hl => match us, hl with | [_], _ => rfl
  have mKI := PySem.W.mg_of X G adKI
  have FCu := fun_mk (st := sIsCut) ldCu cdCu kdCu
  have bCu := FCu.binds (ps := ["yard", "thing"]) fun _ _ _ _ _ _ us hl => match us, hl with | [_, _], _ => rfl
  have mCu := PySem.W.mg_of X G adCu
  have FAm := fun_mk (st := sIsAmounts) ldAm cdAm kdAm
  have bAm := FAm.binds (ps := ["yard", "thing"]) fun _ _ _ _ _ _ us hl => match us, hl with | [_, _], _ => rfl
  have mAm := PySem.W.mg_of X G adAm
  have FFl := fun_mk (st := sIsFlow) ldFl cdFl kdFl
  have bFl := FFl.binds (ps := ["yard", "thing"]) fun _ _ _ _ _ _ us hl => match us, hl with | [_, _], _ => rfl
  have mFl := PySem.W.mg_of X G adFl
  have FCp := fun_mk (st := sIsCouple) ldCp cdCp kdCp
  have bCp := FCp.binds (ps := ["thing"]) fun _ _ _ _ _ _ us hl => match us, hl with | [_], _ => rfl
  have mCp := PySem.W.mg_of X G adCp
  have FCs := fun_mk (st := sIsCopies) ldCs cdCs kdCs
  have bCs := FCs.binds (ps := ["thing"]) fun _ _ _ _ _ _ us hl => match us, hl with | [_], _ => rfl
  have mCs := PySem.W.mg_of X G adCs
  have FCo := fun_mk (st := sIsCopy) ldCo cdCo kdCo
  have bCo := FCo.binds (ps := ["thing"]) fun _ _ _ _ _ _ us hl => match us, hl with | [_], _ => rfl
  have mCo := PySem.W.mg_of X G adCo
  have FB := fun_mk (st := sBag) ldB cdB kdB
  have bB := FB.binds (ps := ["script"]) fun _ _ _ _ _ _ us hl => match us, hl with | [_], _ => rfl
  have mB := PySem.W.mg_of X G adB
  have FT := fun_mk (st := sTake) ldT cdT kdT
  have bT := FT.binds (ps := ["bag", "many"]) fun _ _ _ _ _ _ us hl => match us, hl with | [_, _], _ => rfl
  have mT := PySem.W.mg_of X G adT
  have FS := fun_mk (st := sSome) ldS cdS kdS
  have bS := FS.binds (ps := ["bag", "things"]) fun _ _ _ _ _ _ us hl => match us, hl with | [_, _], _ => rfl
  have mS := PySem.W.mg_of X G adS
  have FM := fun_mk (st := sMixed) ldM cdM kdM
  have bM := FM.binds (ps := ["bag", "things"]) fun _ _ _ _ _ _ us hl => match us, hl with | [_, _], _ => rfl
  have mM := PySem.W.mg_of X G adM
  have FA := fun_mk (st := sAlike) ldA cdA kdA
  have bA := FA.binds (ps := ["found", "due"]) fun _ _ _ _ _ _ us hl => match us, hl with | [_, _], _ => rfl
  have mA := PySem.W.mg_of X G adA
  have FN := fun_mk (st := sName) ldN cdN kdN
  have bN := FN.binds (ps := ["bag", "taken"]) fun _ _ _ _ _ _ us hl => match us, hl with | [_, _], _ => rfl
  have mN := PySem.W.mg_of X G adN
  have FNN := fun_mk (st := sNames) ldNN cdNN kdNN
  have bNN := FNN.binds (ps := ["bag", "many", "taken"]) fun _ _ _ _ _ _ us hl => match us, hl with | [_, _, _], _ => rfl
  have mNN := PySem.W.mg_of X G adNN
  have FZ := fun_mk (st := sSize) ldZ cdZ kdZ
  have bZ := FZ.binds (ps := ["bag", "most"]) fun _ _ _ _ _ _ us hl => match us, hl with | [_, _], _ => rfl
  have mZ := PySem.W.mg_of X G adZ
  have FCB := fun_mk (st := sCables) ldCB cdCB kdCB
  have bCB := FCB.binds (ps := ["bag", "knots", "many", "most"]) fun _ _ _ _ _ _ us hl => match us, hl with | [_, _, _, _], _ => rfl
  have mCB := PySem.W.mg_of X G adCB
  have FR := fun_mk (st := sCars) ldR cdR kdR
  have bR := FR.binds (ps := ["bag", "names", "knots", "most"]) fun _ _ _ _ _ _ us hl => match us, hl with | [_, _, _, _], _ => rfl
  have mR := PySem.W.mg_of X G adR
  have FY := fun_mk (st := sYardOf) ldY cdY kdY
  have bY := FY.binds (ps := ["bag", "cars", "knots", "cables", "most"]) fun _ _ _ _ _ _ us hl => match us, hl with | [_, _, _, _, _], _ => rfl
  have mY := PySem.W.mg_of X G adY
  have FSm := fun_mk (st := sSmall) ldSm cdSm kdSm
  have bSm := FSm.binds (ps := ["bag"]) fun _ _ _ _ _ _ us hl => match us, hl with | [_], _ => rfl
  have mSm := PySem.W.mg_of X G adSm
  have FW := fun_mk (st := sWide) ldW cdW kdW
  have bW := FW.binds (ps := ["bag"]) fun _ _ _ _ _ _ us hl => match us, hl with | [_], _ => rfl
  have mW := PySem.W.mg_of X G adW
  have FKn := fun_mk (st := sKnots) ldKn cdKn kdKn
  have bKn := FKn.binds (ps := ["yard"]) fun _ _ _ _ _ _ us hl => match us, hl with | [_], _ => rfl
  have mKn := PySem.W.mg_of X G adKn
  have FC := fun_mk (st := sAllCars) ldC cdC kdC
  have bC := FC.binds (ps := ["yard"]) fun _ _ _ _ _ _ us hl => match us, hl with | [_], _ => rfl
  have mC := PySem.W.mg_of X G adC
  have FWh := fun_mk (st := sWhole) ldWh cdWh kdWh
  have bWh := FWh.binds (ps := ["thing"]) fun _ _ _ _ _ _ us hl => match us, hl with | [_], _ => rfl
  have mWh := PySem.W.mg_of X G adWh
  have FAA := fun_mk (st := sAreAmounts) ldAA cdAA kdAA
  have bAA := FAA.binds (ps := ["yard", "thing"]) fun _ _ _ _ _ _ us hl => match us, hl with | [_, _], _ => rfl
  have mAA := PySem.W.mg_of X G adAA
  have FO := fun_mk (st := sOdd) ldO cdO kdO
  have bO := FO.binds (ps := ["bag"]) fun _ _ _ _ _ _ us hl => match us, hl with | [_], _ => rfl
  have mO := PySem.W.mg_of X G adO
  have FBW := fun_mk (st := sBentWord) ldBW cdBW kdBW
  have bBW := FBW.binds (ps := ["bag", "word"]) fun _ _ _ _ _ _ us hl => match us, hl with | [_, _], _ => rfl
  have mBW := PySem.W.mg_of X G adBW
  have FBt := fun_mk (st := sBent) ldBt cdBt kdBt
  have bBt := FBt.binds (ps := ["bag", "thing", "deep"]) fun _ _ _ _ _ _ us hl => match us, hl with | [_, _, _], _ => rfl
  have mBt := PySem.W.mg_of X G adBt
  have FLL := fun_mk (st := sLIsLotOf) ldLL cdLL kdLL
  have bLL := FLL.binds (ps := ["names", "thing"]) fun _ _ _ _ _ _ us hl => match us, hl with | [_, _], _ => rfl
  have mLL := PySem.W.mg_of X G adLL
  have FLF := fun_mk (st := sIsFlowOf) ldLF cdLF kdLF
  have bLF := FLF.binds (ps := ["yard", "thing"]) fun _ _ _ _ _ _ us hl => match us, hl with | [_, _], _ => rfl
  have mLF := PySem.W.mg_of X G adLF
  have FLC := fun_mk (st := sLIsCopies) ldLC cdLC kdLC
  have bLC := FLC.binds (ps := ["thing"]) fun _ _ _ _ _ _ us hl => match us, hl with | [_], _ => rfl
  have mLC := PySem.W.mg_of X G adLC
  have FD := fun_mk (st := sDictOf) ldD cdD kdD
  have bD := FD.binds (ps := ["bag", "keys"]) fun _ _ _ _ _ _ us hl => match us, hl with | [_, _], _ => rfl
  have mD := PySem.W.mg_of X G adD
  have FE := fun_mk (st := sBentDict) ldE cdE kdE
  have bE := FE.binds (ps := ["bag", "thing"]) fun _ _ _ _ _ _ us hl => match us, hl with | [_, _], _ => rfl
  have mE := PySem.W.mg_of X G adE
  have FTh := fun_mk (st := sThings) ldTh cdTh kdTh
  have bTh := FTh.binds (ps := ["bag", "yard"]) fun _ _ _ _ _ _ us hl => match us, hl with | [_, _], _ => rfl
  have mTh := PySem.W.mg_of X G adTh
  have FL := fun_mk (st := sLaw) ldL cdL kdL
  exact ⟨_, fun s v => .of_eq rfl, fun base _ _ =>
    have gII : FnOk l.prog w K mg base CX0 1 fII _ ["thing"] (spTells K isInt) := ok_isInteger FII T h_bool
    have gIC : FnOk l.prog w K mg base CX0 2 fIC _ ["thing"] (spTells K isCnt) := ok_isCount FIC gII FII mII bII
    have gIP : FnOk l.prog w K mg base CX0 2 fIP _ ["thing"] (spTells K isPos) := ok_isPositive FIP gII FII mII bII
    have gIT : FnOk l.prog w K mg base CX0 1 fIT _ ["many", "thing"] (spTup K) := ok_isTupleOf FIT T
    have gIR : FnOk l.prog w K mg base CX0 1 fIR _ ["row"] (spRiseT K) := ok_isRisingT FIR T
    have gIL : FnOk l.prog w K mg base CX0 2 fIL _ ["names", "thing"] (spLot K) := ok_isLotOf FIL T gIR FIR mIR bIR
    have gKI : FnOk l.prog w K mg base CX0 1 fKI _ ["yard"] (spKin K) := ok_knotsIn FKI T
    have gCL : FnOk l.prog w K mg base CX0 3 fCL _ ["yard", "thing"] (spYT w K fun cs rs d => lotD (rs.map (·.1)) d) := ok_isCarLot FCL gIL FIL mIL bIL
    have gCu : FnOk l.prog w K mg base CX0 3 fCu _ ["yard", "thing"] (spCut w K) := ok_isCut FCu gIL FIL mIL bIL gKI FKI mKI bKI
    have gAm : FnOk l.prog w K mg base CX0 3 fAm _ ["yard", "thing"] (spYT w K fun cs rs d => amtD (rs.map (·.1)) d) := ok_isAmounts FAm T gIP FIP mIP bIP
    have gCp : FnOk l.prog w K mg base CX0 2 fCp _ ["thing"] (spTells K cplD) := ok_isCouple FCp T gIT FIT mIT bIT
    have gFl : FnOk l.prog w K mg base CX0 3 fFl _ ["yard", "thing"] (spYT w K fun cs rs d => flowD (cs.map ckey) d) := ok_isFlow FFl T gIP FIP mIP bIP gCp FCp mCp bCp
    have gCo : FnOk l.prog w K mg base CX0 3 fCo _ ["thing"] (spTells K copyD) := ok_isCopy FCo T gIT FIT mIT bIT gIC FIC mIC bIC
    have gCs : FnOk l.prog w K mg base CX0 4 fCs _ ["thing"] (spTellS K copiesD) := ok_isCopies FCs T gCo FCo mCo bCo
    have gT : FnOk l.prog w K mg base CX0 1 fT _ ["bag", "many"] spTake := ok_take FT T
    have gS : FnOk l.prog w K mg base CX0 2 fS _ ["bag", "things"] (spSome K) := ok_some FS T FT mT bT
    have gM : FnOk l.prog w K mg base CX0 2 fM _ ["bag", "things"] (spMixed K) := ok_mixed FM T FT mT bT
    have gN : FnOk l.prog w K mg base CX0 3 fN _ ["bag", "taken"] (spName K) := ok_name FN T FT mT bT FS mS bS
    have gNN : FnOk l.prog w K mg base CX0 4 fNN _ ["bag", "many", "taken"] (spNames K) := ok_names FNN T gN FN mN bN
    have gZ : FnOk l.prog w K mg base CX0 3 fZ _ ["bag", "most"] spSize := ok_size FZ T FT mT bT FS mS bS
    have gCB : FnOk l.prog w K mg base CX0 4 fCB _ ["bag", "knots", "many", "most"] (spCables K) := ok_cables FCB T FT mT bT FS mS bS gZ FZ mZ bZ
    have gR : FnOk l.prog w K mg base CX0 4 fR _ ["bag", "names", "knots", "most"] (spCars K) := ok_cars FR T FT mT bT FS mS bS gZ FZ mZ bZ
    have Gg : Gen l.prog w K mg base fT fS fN fNN fCB fR _ _ (fdOf FN) _ _ _ := { T := FT, mT := mT, bT := bT, S := FS, mS := mS, bS := bS, N := FNN, mN := mNN, bN := bNN, gN := gNN, C := FCB, mC := mCB, bC := bCB, gC := gCB.mono (by decide), R := FR, mR := mR, bR := bR, gR := gR.mono (by decide) }
    have gSm : FnOk l.prog w K mg base CX0 7 fSm _ ["bag"] (spYard K 7) := ok_small FSm T Gg FY mY bY
    have gW : FnOk l.prog w K mg base CX0 7 fW _ ["bag"] (spYard K (10 ^ 12)) := ok_wide FW T Gg FY mY bY
    have gC : FnOk l.prog w K mg base CX0 1 fC _ ["yard"] (spNamesOf K) := ok_allCars FC T
    have gKn : FnOk l.prog w K mg base CX0 1 fKn _ ["yard"] (spKnots K) := ok_knots FKn T
    have gWh : FnOk l.prog w K mg base CX0 1 fWh _ ["thing"] (spTells K isInt) := ok_whole FWh T h_bool
    have gAA : FnOk l.prog w K mg base CX0 2 fAA _ ["yard", "thing"] (spYT w K fun cs rs d => amtD (rs.map (·.1)) d) := ok_areAmounts FAA T gC FC mC bC gWh FWh mWh bWh
    have gLL : FnOk l.prog w K mg base CX0 1 fLL _ ["names", "thing"] (spLotS K) := ok_lLotOf FLL T
    have gLF : FnOk l.prog w K mg base CX0 2 fLF _ ["yard", "thing"] (spYT w K fun cs rs d => flowD (cs.map ckey) d) := ok_isFlowOf FLF T gWh FWh mWh bWh
    have gLC : FnOk l.prog w K mg base CX0 2 fLC _ ["thing"] (spTells K copiesD) := ok_lCopies FLC T gWh FWh mWh bWh
    have gO : FnOk l.prog w K mg base CX0 3 fO _ ["bag"] (spOddT w K) := ok_oddT FO FS mS bS gS
    have gD : FnOk l.prog w K mg base CX0 3 fD _ ["bag", "keys"] (spDictOf w K) := ok_dictOf FD T gS FS mS bS gM FM mM bM
    have gE : FnOk l.prog w K mg base CX0 4 fE _ ["bag", "thing"] (spBentDict w K) := ok_bentDict FE T gT FT mT bT gS FS mS bS gO FO mO bO
    have gB0 : FnOk l.prog w K mg base CX0 4 fBt _ ["bag", "thing", "deep"] (spBentM w K 0) := bent_stepM (n := 0) (k := 3) FBt T h_bool mBt bBt ((ok_neverM FBt).mono (by decide)) (by decide) FT mT bT FS mS bS FO mO bO FBW mBW bBW
    have gB1 : FnOk l.prog w K mg base CX0 5 fBt _ ["bag", "thing", "deep"] (spBentM w K 1) := bent_stepM (n := 1) (k := 4) FBt T h_bool mBt bBt gB0 (by decide) FT mT bT FS mS bS FO mO bO FBW mBW bBW
    have gB2 : FnOk l.prog w K mg base CX0 6 fBt _ ["bag", "thing", "deep"] (spBentM w K 2) := bent_stepM (n := 2) (k := 5) FBt T h_bool mBt bBt gB1 (by decide) FT mT bT FS mS bS FO mO bO FBW mBW bBW
    have gTh : FnOk l.prog w K mg base CX0 7 fTh _ ["bag", "yard"] (spThings w K) := ok_things FTh T gT FT mT bT gS FS mS bS gM FM mM bM gC FC mC bC gKn FKn mKn bKn gD FD mD bD gB2 FBt mBt bBt gE FE mE bE gO FO mO bO
    have D : D03 l.prog w K mg base fB fT fSm fW fC fKn fTh fLL fAA fLF fLC fCL fCu fAm fFl fCs fA _ _ _ _ _ _ _ _ _ _ _ _ _ _ _ _ _ := { B := FB, mB := mB, bB := bB, gB := ok_bag FB T, T := FT, mT := mT, bT := bT, gT := gT, Sm := FSm, mSm := mSm, bSm := bSm, gSm := gSm, W := FW, mW := mW, bW := bW, gW := gW, C := FC, mC := mC, bC := bC, gC := gC, Kn := FKn, mKn := mKn, bKn := bKn, gKn := gKn, Th := FTh, mTh := mTh, bTh := bTh, gTh := gTh, LL := FLL, mLL := mLL, bLL := bLL, gLL := gLL, AA := FAA, mAA := mAA, bAA := bAA, gAA := gAA, LF := FLF, mLF := mLF, bLF := bLF, gLF := gLF, LC := FLC, mLC := mLC, bLC := bLC, gLC := gLC, CL := FCL, mCL := mCL, bCL := bCL, gCL := gCL, Cu := FCu, mCu := mCu, bCu := bCu, gCu := gCu, Am := FAm, mAm := mAm, bAm := bAm, gAm := gAm, Fl := FFl, mFl := mFl, bFl := bFl, gFl := gFl, Cs := FCs, mCs := mCs, bCs := bCs, gCs := gCs, A := FA, mA := mA, bA := bA, gA := ok_alike FA T }
    ok_law FL T D⟩
end Y
open PySem PySem.W PyProof.Rows in
set_option maxRecDepth 100000 in
set_option maxHeartbeats 0 in
theorem PySem.Challenge.cw_nightstairs_k03_lots_cuts_amounts_flows_holds : PySem.Challenge.rw_nightstairs_k03_lots_cuts_amounts_flows.Holds := by
  w_on; o_law; k_head; (case hw => w_witness2)
  k_fill
  refine Ns.walk_ofG (l := PySem.Challenge.rw_nightstairs_k03_lots_cuts_amounts_flows) (k := 8) rfl rfl ⟨rfl, by decide, by decide⟩ (fun w h Y => PySem.W.kIn_of Y) ?F
  case F =>
    intro w mg fa h KX G hmg
    refine' Y.all_mk KX G hmg ?adII ?ldII ?cdII ?kdII ?adIC ?ldIC ?cdIC ?kdIC ?adIP ?ldIP ?cdIP ?kdIP ?adIT ?ldIT ?cdIT ?kdIT ?adIR ?ldIR ?cdIR ?kdIR ?adIL ?ldIL ?cdIL ?kdIL ?adCL ?ldCL ?cdCL ?kdCL ?adKI ?ldKI ?cdKI ?kdKI ?adCu ?ldCu ?cdCu ?kdCu ?adAm ?ldAm ?cdAm ?kdAm ?adFl ?ldFl ?cdFl ?kdFl ?adCp ?ldCp ?cdCp ?kdCp ?adCs ?ldCs ?cdCs ?kdCs ?adCo ?ldCo ?cdCo ?kdCo ?adB ?ldB ?cdB ?kdB ?adT ?ldT ?cdT ?kdT ?adS ?ldS ?cdS ?kdS ?adM ?ldM ?cdM ?kdM ?adA ?ldA ?cdA ?kdA ?adN ?ldN ?cdN ?kdN ?adNN ?ldNN ?cdNN ?kdNN ?adZ ?ldZ ?cdZ ?kdZ ?adCB ?ldCB ?cdCB ?kdCB ?adR ?ldR ?cdR ?kdR ?adY ?ldY ?cdY ?kdY ?adSm ?ldSm ?cdSm ?kdSm ?adW ?ldW ?cdW ?kdW ?adKn ?ldKn ?cdKn ?kdKn ?adC ?ldC ?cdC ?kdC ?adWh ?ldWh ?cdWh ?kdWh ?adAA ?ldAA ?cdAA ?kdAA ?adO ?ldO ?cdO ?kdO ?adBW ?ldBW ?cdBW ?kdBW ?adBt ?ldBt ?cdBt ?kdBt ?adLL ?ldLL ?cdLL ?kdLL ?adLF ?ldLF ?cdLF ?kdLF ?adLC ?ldLC ?cdLC ?kdLC ?adD ?ldD ?cdD ?kdD ?adE ?ldE ?cdE ?kdE ?adTh ?ldTh ?cdTh ?kdTh ?adL ?ldL ?cdL ?kdL ?zabs ?zint ?zlen ?zrepr ?zisinstance ?zrange ?zsorted ?ztuple ?zlist ?zdict ?zset ?zsum ?zmax ?zmin ?zstr ?zall ?zany ?zzip ?zbool
    (case adII => k_is)
    (case ldII => k_is)
    (case cdII => k_is)
    (case kdII => k_is)
    (case adIC => k_is)
    (case ldIC => k_is)
    (case cdIC => k_is)
    (case kdIC => k_is)
    (case adIP => k_is)
    (case ldIP => k_is)
    (case cdIP => k_is)
    (case kdIP => k_is)
    (case adIT => k_is)
    (case ldIT => k_is)
    (case cdIT => k_is)
    (case kdIT => k_is)
    (case adIR => k_is)
    (case ldIR => k_is)
    (case cdIR => k_is)
    (case kdIR => k_is)
    (case adIL => k_is)
    (case ldIL => k_is)
    (case cdIL => k_is)
    (case kdIL => k_is)
    (case adCL => k_is)
    (case ldCL => k_is)
    (case cdCL => k_is)
    (case kdCL => k_is)
    (case adKI => k_is)
    (case ldKI => k_is)
    (case cdKI => k_is)
    (case kdKI => k_is)
    (case adCu => k_is)
    (case ldCu => k_is)
    (case cdCu => k_is)
    (case kdCu => k_is)
    (case adAm => k_is)
    (case ldAm => k_is)
    (case cdAm => k_is)
    (case kdAm => k_is)
    (case adFl => k_is)
    (case ldFl => k_is)
    (case cdFl => k_is)
    (case kdFl => k_is)
    (case adCp => k_is)
    (case ldCp => k_is)
    (case cdCp => k_is)
    (case kdCp => k_is)
    (case adCs => k_is)
    (case ldCs => k_is)
    (case cdCs => k_is)
    (case kdCs => k_is)
    (case adCo => k_is)
    (case ldCo => k_is)
    (case cdCo => k_is)
    (case kdCo => k_is)
    (case adB => k_is)
    (case ldB => k_is)
    (case cdB => k_is)
    (case kdB => k_is)
    (case adT => k_is)
    (case ldT => k_is)
    (case cdT => k_is)
    (case kdT => k_is)
    (case adS => k_is)
    (case ldS => k_is)
    (case cdS => k_is)
    (case kdS => k_is)
    (case adM => k_is)
    (case ldM => k_is)
    (case cdM => k_is)
    (case kdM => k_is)
    (case adA => k_is)
    (case ldA => k_is)
    (case cdA => k_is)
    (case kdA => k_is)
    (case adN => k_is)
    (case ldN => k_is)
    (case cdN => k_is)
    (case kdN => k_is)
    (case adNN => k_is)
    (case ldNN => k_is)
    (case cdNN => k_is)
    (case kdNN => k_is)
    (case adZ => k_is)
    (case ldZ => k_is)
    (case cdZ => k_is)
    (case kdZ => k_is)
    (case adCB => k_is)
    (case ldCB => k_is)
    (case cdCB => k_is)
    (case kdCB => k_is)
    (case adR => k_is)
    (case ldR => k_is)
    (case cdR => k_is)
    (case kdR => k_is)
    (case adY => k_is)
    (case ldY => k_is)
    (case cdY => k_is)
    (case kdY => k_is)
    (case adSm => k_is)
    (case ldSm => k_is)
    (case cdSm => k_is)
    (case kdSm => k_is)
    (case adW => k_is)
    (case ldW => k_is)
    (case cdW => k_is)
    (case kdW => k_is)
    (case adKn => k_is)
    (case ldKn => k_is)
    (case cdKn => k_is)
    (case kdKn => k_is)
    (case adC => k_is)
    (case ldC => k_is)
    (case cdC => k_is)
    (case kdC => k_is)
    (case adWh => k_is)
    (case ldWh => k_is)
    (case cdWh => k_is)
    (case kdWh => k_is)
    (case adAA => k_is)
    (case ldAA => k_is)
    (case cdAA => k_is)
    (case kdAA => k_is)
    (case adO => k_is)
    (case ldO => k_is)
    (case cdO => k_is)
    (case kdO => k_is)
    (case adBW => k_is)
    (case ldBW => k_is)
    (case cdBW => k_is)
    (case kdBW => k_is)
    (case adBt => k_is)
    (case ldBt => k_is)
    (case cdBt => k_is)
    (case kdBt => k_is)
    (case adLL => k_is)
    (case ldLL => k_is)
    (case cdLL => k_is)
    (case kdLL => k_is)
    (case adLF => k_is)
    (case ldLF => k_is)
    (case cdLF => k_is)
    (case kdLF => k_is)
    (case adLC => k_is)
    (case ldLC => k_is)
    (case cdLC => k_is)
    (case kdLC => k_is)
    (case adD => k_is)
    (case ldD => k_is)
    (case cdD => k_is)
    (case kdD => k_is)
    (case adE => k_is)
    (case ldE => k_is)
    (case cdE => k_is)
    (case kdE => k_is)
    (case adTh => k_is)
    (case ldTh => k_is)
    (case cdTh => k_is)
    (case kdTh => k_is)
    (case adL => k_is)
    (case ldL => k_is)
    (case cdL => k_is)
    (case kdL => k_is)
    (case zabs => k_is)
    (case zint => k_is)
    (case zlen => k_is)
    (case zrepr => k_is)
    (case zisinstance => k_is)
    (case zrange => k_is)
    (case zsorted => k_is)
    (case ztuple => k_is)
    (case zlist => k_is)
    (case zdict => k_is)
    (case zset => k_is)
    (case zsum => k_is)
    (case zmax => k_is)
    (case zmin => k_is)
    (case zstr => k_is)
    (case zall => k_is)
    (case zany => k_is)
    (case zzip => k_is)
    (case zbool => k_is)

