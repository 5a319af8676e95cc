import PyProof.Rows.All
import Wide.All
import OpenK.AllK
import Wide.FinOn
import PyProof.ReprRoads
import HandS.ForMost
import HandS.DeepEq
import HandS.Ends
import HandS.Wide
import HandS.Codes
import KE.KEqNest
import HandS.IsInst
import HandS.TupAny
import HandS.Conv
import KE.SortData
import HandS.DictTup
import PyProof.DictUpdate
import KE.KItemsList
import KE.KDictSum
import HandS.Strs
import HandS.SetFor
import HandS.SortInts
import KE.GoesMore
import KE.GoesEnum
import HandS.Iter
import HandS.Walk
import KE.GoesNew
import HandS.Zip
import HandS.Sort
import PyProof.SumWalkG
import HandS.TupMul
import HandS.More
import HandS.Text
import PyProof.EqKinds
import PyProof.IsiFacts
import PyProof.FactsAll.dict_1
import HandS.TupLen
import HandS.Steps
import HandS.DictComp
import KE.KDictPairs
import KE.KDictKeyed
import HandS.SetTxt0
import HandS.Set
import HandS.SetKeys
import HandS.ExcInit
import HandS.ExcIs
import HandS.ExcField
import HandS.ExcValue
import HandS.TryMany
import HandS.WordsExc
import HandS.TupSets
import KE.LtData
import HandS.Style
import PySem.Challenge.RW_nightstairs_k07_whole_edits_there_and_ba
set_option Elab.async false
set_option linter.all false
set_option maxRecDepth 100000
set_option pp.maxSteps 150
set_option pp.deepTerms false
set_option maxHeartbeats 8000000
/-! NsA: data as a whole over the abstract heap; its repr; its ==. -/
namespace Ns
open PySem PySem.Spec PyProof.Rows L2

/-- a key as data -/
def kD : Key → PyData
  | .inl i => .int i
  | .inr x => .str x

mutual
/-- the value x is the datum d -/
inductive DatV (K : PySem.W.Frag) (H : Hp) : V → PyData → Prop
  | non : DatV K H .non .none
  | bl (b : Bool) : DatV K H (.bl b) (.bool b)
  | int (i : Int) : DatV K H (.int i) (.int i)
  | str (x : Str) : DatV K H (.str x) (.str x)
  | lst {a : Addr} {xs : List V} {ds : List PyData} : SqL K H a xs → DatA K H xs ds → DatV K H (.ref a) (.list ds)
  | tup {a : Addr} {xs : List V} {ds : List PyData} : SqT K H a xs → DatA K H xs ds → DatV K H (.ref a) (.tuple ds)
  | dic {a : Addr} {kvs : List (Key × V)} {ds : List PyData} : H a = some (.dK kvs) → DatA K H (kvs.map (·.2)) ds → DatV K H (.ref a) (.dict ((kvs.map fun p => kD p.1).zip ds))
inductive DatA (K : PySem.W.Frag) (H : Hp) : List V → List PyData → Prop
  | nil : DatA K H [] []
  | cons {x : V} {d : PyData} {xs : List V} {ds : List PyData} : DatV K H x d → DatA K H xs ds → DatA K H (x :: xs) (d :: ds)
end

theorem DatA.len {K : PySem.W.Frag} {H : Hp} : ∀ {xs : List V} {ds : List PyData}, DatA K H xs ds → xs.length = ds.length
  | _, _, .nil => rfl
  | _, _, .cons _ t => by rw [List.length_cons, List.length_cons, t.len]

mutual
/-- what stood stands: the datum too -/
theorem DatV.more {K : PySem.W.Frag} {H H' : Hp} (m : Same H H') : ∀ {x : V} {d : PyData}, DatV K H x d → DatV K H' x d
  | _, _, .non => .non
  | _, _, .bl b => .bl b
  | _, _, .int i => .int i
  | _, _, .str x => .str x
  | _, _, .lst h t => .lst (m.seq h) (t.more m)
  | _, _, .tup h t => .tup (h.elim (fun z => .inl (z.elim (fun z => .inl (m _ _ z)) fun ⟨o, z⟩ => .inr ⟨o, m _ _ z⟩)) .inr) (t.more m)
  | _, _, .dic h t => .dic (m _ _ h) (t.more m)
theorem DatA.more {K : PySem.W.Frag} {H H' : Hp} (m : Same H H') : ∀ {xs : List V} {ds : List PyData}, DatA K H xs ds → DatA K H' xs ds
  | _, _, .nil => .nil
  | _, _, .cons h t => .cons (h.more m) (t.more m)
end

theorem map_fst_zip {α β : Type} : ∀ {as : List α} {bs : List β}, as.length = bs.length → (as.zip bs).map (·.1) = as
  | [], [], _ => rfl
  | a :: as, b :: bs, h => by
    have h' : as.length = bs.length := by simpa using h
    simp [map_fst_zip h']
theorem map_snd_zip {α β : Type} : ∀ {as : List α} {bs : List β}, as.length = bs.length → (as.zip bs).map (·.2) = bs
  | [], [], _ => rfl
  | a :: as, b :: bs, h => by
    have h' : as.length = bs.length := by simpa using h
    simp [map_snd_zip h']

section
variable {X : Cx} {pins : List (Addr × Obj)} {σ : L2.St} {H : Hp} {s : Shared}

/-- the keys of a dict's entries are read -/
theorem keys_read {h : Heap} {P : Program} {w : World} : ∀ {es : List DictEntry} {vs : List (Key × Value)}, Pairs (mixKind P w) es vs → ReadsAll h (es.map (·.key)) (vs.map fun p => kD p.1) []
  | _, _, .nil => .nil
  | e :: es, kv :: vs, .cons h1 _ t => by
    have q : Reads h e.key (kD kv.1) [] := by
      rcases keyIs_shape (show keyIs kv.1 e.key = true from h1) with ⟨i, t, ek, ev⟩ | ⟨x, t, ek, ev⟩
      · rw [ek, ev]; exact .int i t
      · rw [ek, ev]; exact .str x t
    exact ReadsAll.cons (as := []) (bs := []) q (keys_read t)
theorem pairs_vals {P : Program} {w : World} : ∀ {es : List DictEntry} {vs : List (Key × Value)}, Pairs (mixKind P w) es vs → es.map (·.val) = vs.map (·.2)
  | _, _, .nil => rfl
  | e :: es, kv :: vs, .cons _ h2 t => by
    rw [List.map_cons, List.map_cons, h2, pairs_vals t]
theorem kv_fst : ∀ {ks : List (Key × V)} {vs : List (Key × Value)}, KV ks vs → vs.map (fun p => kD p.1) = ks.map fun p => kD p.1
  | _, _, .nil => rfl
  | _, _, .cons h t => by rw [List.map_cons, List.map_cons, h.1, kv_fst t]
theorem kv_vals : ∀ {ks : List (Key × V)} {vs : List (Key × Value)}, KV ks vs → Vals (ks.map (·.2)) (vs.map (·.2))
  | _, _, .nil => .nil
  | _, _, .cons h t => .cons h.2 (kv_vals t)

mutual
/-- what the heap reads of it -/
theorem reads_of (I : Inv X pins σ H s) : ∀ {x : V} {d : PyData}, DatV X.K H x d → ∀ {v : Value}, RelV x v → ∃ as, Reads s.heap v d as
  | _, _, .non, v, r => by cases (show v = Value.none from r); exact ⟨_, .none⟩
  | _, _, .bl b, v, r => by cases (show v = Value.bool b from r); exact ⟨_, .bool b⟩
  | _, _, .int i, v, r => by obtain ⟨t, rfl⟩ := (show ∃ t, v = Value.int i t from r); exact ⟨_, .int i t⟩
  | _, _, .str x, v, r => by obtain ⟨t, rfl⟩ := (show ∃ t, v = Value.str x t from r); exact ⟨_, .str x t⟩
  | _, _, .lst (a := a) h t, v, r => by
    cases (show v = Value.ref a from r)
    obtain ⟨its, rv, ⟨o, n, h1, h2, h3, h4⟩, _⟩ := I.list h
    obtain ⟨as, q⟩ := readsA_of I t rv
    exact ⟨_, .list h1 h2 (by first | exact h3 | exact h4) (by simpa using q)⟩
  | _, _, .tup (a := a) h t, v, r => by
    cases (show v = Value.ref a from r)
    obtain ⟨its, rv, ⟨o, h1, h2, n, h3⟩, _⟩ := I.tuple h
    obtain ⟨as, q⟩ := readsA_of I t rv
    exact ⟨_, .tuple h1 h2 h3 (by simpa using q)⟩
  | _, _, .dic (a := a) (kvs := kvs) (ds := ds) h t, v, r => by
    cases (show v = Value.ref a from r)
    obtain ⟨_, _, vs, rv, o, es, ep, h1, h2, h3, _, h5, _⟩ := (show ObjOk X.prog X.w H s.heap a (.dK kvs) from I.hok a _ h)
    obtain ⟨as, q⟩ := readsA_of I t (kv_vals rv)
    have hl : (kvs.map fun p => kD p.1).length = ds.length := by
      have z := t.len
      rw [List.length_map] at z ⊢
      exact z
    refine ⟨_, Reads.dict (as := []) (bs := as) h1 h2.1 h3 ?_ ?_⟩
    · rw [map_fst_zip hl, ← kv_fst rv]
      exact keys_read h5
    · rw [map_snd_zip hl, pairs_vals h5]
      exact q
theorem readsA_of (I : Inv X pins σ H s) : ∀ {xs : List V} {ds : List PyData}, DatA X.K H xs ds → ∀ {us : List Value}, Vals xs us → ∃ as, ReadsAll s.heap us ds as
  | _, _, .nil, us, r => by cases r; exact ⟨_, .nil⟩
  | _, _, .cons h t, us, r => by
    cases r with
    | cons r1 r2 =>
      obtain ⟨as, q⟩ := reads_of I h r1
      obtain ⟨bs, q2⟩ := readsA_of I t r2
      exact ⟨_, .cons q q2⟩
end
end
end Ns

/-! NsB: repr of data. -/
namespace Ns
open PySem PySem.Spec PyProof.Rows L2
section
variable {X : Cx} {pins : List (Addr × Obj)} {σ : L2.St} {H : Hp} {s : Shared}

theorem zip_kv : ∀ {as : List Key} {ds : List PyData}, as.length = ds.length → ((as.map kD).zip ds).map (·.1) = as.map kD := fun {as ds} h => map_fst_zip (by rw [List.length_map]; exact h)

theorem kv_of_zip {α : Type} {f : α → PyData} {l : List α} {ds : List PyData} (h : l.length = ds.length) : (((l.map f).zip ds).map (·.1) = l.map f) ∧ (((l.map f).zip ds).map (·.2) = ds) :=
  ⟨map_fst_zip (by rw [List.length_map]; exact h), map_snd_zip (by rw [List.length_map]; exact h)⟩

/-- keys show themselves, whatever stands -/
theorem keys_shown {P : Program} {w : World} {h : Heap} {n : Nat} : ∀ {es : List DictEntry} {vs : List (Key × Value)}, Pairs (mixKind P w) es vs → (∀ p ∈ vs, (kD p.1).showable = true ∧ (kD p.1).shown.length ≤ sizeLine) →
    ReprAllK P w [] h n (es.map (·.key)) (PyData.shownAll (vs.map fun p => kD p.1))
  | _, _, .nil, _ => by simp only [List.map_nil, PyData.shownAll]; exact .nil
  | e :: es, kv :: vs, .cons h1 _ t, hz => by
    rw [List.map_cons, List.map_cons, PyData.shownAll_cons]
    obtain ⟨z1, z2⟩ := hz kv List.mem_cons_self
    refine .cons (ReprK.of_is ?_ _ _ _) (keys_shown t fun p hp => hz p (List.mem_cons_of_mem _ hp))
    rcases keyIs_shape (show keyIs kv.1 e.key = true from h1) with ⟨i, tk, ek, ev⟩ | ⟨x, tk, ek, ev⟩
    · rw [ek] at z1 ⊢
      rw [ev]
      show ReprIs P w _ (PyData.int i).shown
      rw [PyData.shown_int]
      exact ReprIs.int tk (of_decide_eq_true (by simpa [kD, PyData.showable] using z1))
    · rw [ek] at z2 ⊢
      rw [ev]
      show ReprIs P w _ (PyData.str x).shown
      have z2' : (PyData.str x).shown.length ≤ sizeLine := z2
      rw [PyData.shown_str] at z2' ⊢
      exact ReprIs.str x tk z2'

theorem all_of : ∀ {l : List PyData}, PyData.showableAll l = true → ∀ d ∈ l, d.showable = true
  | [], _, _, hd => nomatch hd
  | x :: l, h, d, hd => by
    have h' : x.showable = true ∧ PyData.showableAll l = true := by simpa [PyData.showableAll] using h
    rcases List.mem_cons.mp hd with e | e
    · rw [e]; exact h'.1
    · exact all_of h'.2 d e
theorem shown_mem : ∀ {l : List PyData} {d : PyData}, d ∈ l → d.shown ∈ PyData.shownAll l
  | [], _, h => nomatch h
  | x :: l, d, h => by
    rw [PyData.shownAll_cons]
    rcases List.mem_cons.mp h with e | e
    · rw [e]; exact List.mem_cons_self
    · exact List.mem_cons_of_mem _ (shown_mem e)

mutual
theorem reprK_of (I : Inv X pins σ H s) : ∀ {x : V} {d : PyData}, DatV X.K H x d → ∀ {v : Value}, RelV x v → d.showable = true → d.shown.length ≤ sizeLine →
    ∃ bs, ReadAtMost s.heap d.depth bs ∧ ReprK X.prog X.w bs s.heap d.depth v d.shown
  | _, _, .non, v, r, _, _ => by
    cases (show v = Value.none from r)
    exact ⟨[], (fun _ z => nomatch z), by rw [PyData.shown_none]; exact .of_is ReprIs.none _ _ _⟩
  | _, _, .bl b, v, r, _, _ => by
    cases (show v = Value.bool b from r)
    refine ⟨[], (fun _ z => nomatch z), ?_⟩
    simp only [PyData.shown]
    exact .of_is (ReprIs.bool b) _ _ _
  | _, _, .int i, v, r, hs, _ => by
    obtain ⟨t, rfl⟩ := (show ∃ t, v = Value.int i t from r)
    refine ⟨[], (fun _ z => nomatch z), ?_⟩
    rw [PyData.shown_int]
    exact .of_is (ReprIs.int t (by simpa [PyData.showable] using hs)) _ _ _
  | _, _, .str x, v, r, _, hz => by
    obtain ⟨t, rfl⟩ := (show ∃ t, v = Value.str x t from r)
    refine ⟨[], (fun _ z => nomatch z), ?_⟩
    rw [PyData.shown_str] at hz ⊢
    exact .of_is (ReprIs.str x t hz) _ _ _
  | _, _, .lst (a := a) (ds := ds) h t, v, r, hs, hz => by
    cases (show v = Value.ref a from r)
    have hz1 : (listText (PyData.shownAll ds)).length ≤ sizeLine := by simpa only [PyData.shown] using hz
    have hs1 : PyData.showableAll ds = true := by simpa [PyData.showable] using hs
    obtain ⟨as, rd⟩ := reads_of I (.lst h t) (v := .ref a) rfl
    obtain ⟨its, rv, ⟨o, n, h1, h2, h3, h4⟩, _⟩ := I.list h
    have h5 : o.data = .seq its.toArray n := by first | exact h3 | exact h4
    obtain ⟨bs, hb, hk⟩ := reprA_of I t rv hs1 fun u hu => Nat.le_trans (listText_mem_le hu) hz1
    have dp : (PyData.list ds).depth = PyData.depthAll ds + 1 := by simp only [PyData.depth] <;> omega
    have hna : a ∉ bs := not_mem_of_deeper rd (by rw [dp]; omega) hb
    refine ⟨a :: bs, ReadAtMost.cons rd (by rw [dp]; omega) hb, ?_⟩
    rw [dp]
    simp only [PyData.shown]
    cases its with
    | nil =>
      have e0 : PyData.shownAll ds = [] := List.length_eq_zero_iff.mp (by simpa using hk.length_eq)
      rw [e0, listText_nil]
      exact ReprK.listEmpty h1 h2 h5
    | cons y l => exact ReprK.list h1 h2 h5 hna (by simpa using hk.length_eq) fun i u e => hk.item i u (by simpa using e)
  | _, _, .tup (a := a) (ds := ds) h t, v, r, hs, hz => by
    cases (show v = Value.ref a from r)
    have hz1 : (tupleText (PyData.shownAll ds)).length ≤ sizeLine := by simpa only [PyData.shown] using hz
    have hs1 : PyData.showableAll ds = true := by simpa [PyData.showable] using hs
    obtain ⟨as, rd⟩ := reads_of I (.tup h t) (v := .ref a) rfl
    obtain ⟨its, rv, ⟨o, h1, h2, n, h3⟩, _⟩ := I.tuple h
    obtain ⟨bs, hb, hk⟩ := reprA_of I t rv hs1 fun u hu => Nat.le_trans (tupleText_mem_le hu) hz1
    have dp : (PyData.tuple ds).depth = PyData.depthAll ds + 1 := by simp only [PyData.depth] <;> omega
    have hna : a ∉ bs := not_mem_of_deeper rd (by rw [dp]; omega) hb
    refine ⟨a :: bs, ReadAtMost.cons rd (by rw [dp]; omega) hb, ?_⟩
    rw [dp]
    simp only [PyData.shown]
    exact ReprK.tuple h1 h2 h3 hna (by simpa using hk)
  | _, _, .dic (a := a) (kvs := kvs) (ds := ds) h t, v, r, hs, hz => by
    cases (show v = Value.ref a from r)
    have hl : kvs.length = ds.length := by
      have z := t.len
      rw [List.length_map] at z
      exact z
    obtain ⟨e1, e2⟩ := kv_of_zip (f := fun p : Key × V => kD p.1) (l := kvs) hl
    have hz1 : (dictText (PyData.shownKv ((kvs.map fun p => kD p.1).zip ds))).length ≤ sizeLine := by simpa only [PyData.shown] using hz
    have hs1 : PyData.showableKv ((kvs.map fun p => kD p.1).zip ds) = true := by simpa [PyData.showable] using hs
    obtain ⟨s1, s2⟩ := PyData.showableKv_split _ hs1
    rw [e1] at s1
    rw [e2] at s2
    obtain ⟨as, rd⟩ := reads_of I (.dic h t) (v := .ref a) rfl
    obtain ⟨_, hsy, vs, rv, o, es, ep, h1, h2, h3, _, h5, _⟩ := (show ObjOk X.prog X.w H s.heap a (.dK kvs) from I.hok a _ h)
    have vl : ∀ u ∈ PyData.shownAll ds, u.length ≤ sizeLine := fun u hu => by
      obtain ⟨p, hp, hq⟩ := PyData.shownKv_val_le _ u (by rw [e2]; exact hu)
      exact Nat.le_trans hq (Nat.le_trans (dictText_mem_le hp) hz1)
    have kl : ∀ u ∈ PyData.shownAll (kvs.map fun p => kD p.1), u.length ≤ sizeLine := fun u hu => by
      obtain ⟨p, hp, hq⟩ := PyData.shownKv_key_le _ u (by rw [e1]; exact hu)
      exact Nat.le_trans hq (Nat.le_trans (dictText_mem_le hp) hz1)
    obtain ⟨bs, hb, hk⟩ := reprA_of I t (kv_vals rv) s2 vl
    have kk : ReprAllK X.prog X.w [] s.heap (PyData.depthKv ((kvs.map fun p => kD p.1).zip ds)) (es.toList.map (·.key)) (PyData.shownAll (kvs.map fun p => kD p.1)) := by
      rw [← kv_fst rv]
      refine keys_shown h5 fun p hp => ?_
      have hm : kD p.1 ∈ kvs.map fun p => kD p.1 := by
        rw [← kv_fst rv]
        exact List.mem_map.mpr ⟨p, hp, rfl⟩
      exact ⟨all_of s1 _ hm, kl _ (shown_mem hm)⟩
    have dv : PyData.depthAll ds ≤ PyData.depthKv ((kvs.map fun p => kD p.1).zip ds) := by
      have z := PyData.depthAll_vals_le ((kvs.map fun p => kD p.1).zip ds)
      rw [e2] at z
      exact z
    have hb2 : ReadAtMost s.heap (PyData.depthKv ((kvs.map fun p => kD p.1).zip ds)) bs := hb.mono dv
    have dp : (PyData.dict ((kvs.map fun p => kD p.1).zip ds)).depth = PyData.depthKv ((kvs.map fun p => kD p.1).zip ds) + 1 := by simp only [PyData.depth] <;> omega
    have hna : a ∉ bs := not_mem_of_deeper rd (by rw [dp]; omega) hb2
    refine ⟨a :: bs, ReadAtMost.cons rd (by rw [dp]; omega) hb2, ?_⟩
    rw [dp]
    simp only [PyData.shown, PyData.shownKv_eq]
    rw [e1, e2]
    refine ReprK.dict h1 h2.1 h3 hsy hna (ReprEntriesK.of_two es.toList _ _ (kk.more_le (fun b z => absurd z List.not_mem_nil) (Nat.le_refl _)) ?_)
    rw [pairs_vals h5]
    exact hk.more_le (fun b z => z) dv
theorem reprA_of (I : Inv X pins σ H s) : ∀ {xs : List V} {ds : List PyData}, DatA X.K H xs ds → ∀ {us : List Value}, Vals xs us → PyData.showableAll ds = true → (∀ t ∈ PyData.shownAll ds, t.length ≤ sizeLine) →
    ∃ bs, ReadAtMost s.heap (PyData.depthAll ds) bs ∧ ReprAllK X.prog X.w bs s.heap (PyData.depthAll ds) us (PyData.shownAll ds)
  | _, _, .nil, us, r, _, _ => by
    cases r
    exact ⟨[], (fun _ z => nomatch z), by simp only [PyData.shownAll]; exact .nil⟩
  | _, _, .cons (d := d) (ds := ds) h t, us, r, hs, hz => by
    cases r with
    | cons r1 r2 =>
      have hs1 : d.showable = true ∧ PyData.showableAll ds = true := by simpa [PyData.showableAll] using hs
      rw [PyData.shownAll_cons] at hz ⊢
      obtain ⟨b1, g1, k1⟩ := reprK_of I h r1 hs1.1 (hz _ List.mem_cons_self)
      obtain ⟨b2, g2, k2⟩ := reprA_of I t r2 hs1.2 fun u hu => hz u (List.mem_cons_of_mem _ hu)
      have dp : PyData.depthAll (d :: ds) = max d.depth (PyData.depthAll ds) := by simp only [PyData.depthAll]
      refine ⟨b1 ++ b2, ?_, ?_⟩
      · rw [dp]
        exact (g1.mono (Nat.le_max_left _ _)).append (g2.mono (Nat.le_max_right _ _))
      · rw [dp]
        exact .cons ((k1.more fun b z => List.mem_append_left _ z).level_le (Nat.le_max_left _ _)) (k2.more_le (fun b z => List.mem_append_right _ z) (Nat.le_max_right _ _))
end
theorem dict_entries (I : Inv X pins σ H s) {a : Addr} {kvs : List (Key × V)} {ds : List PyData} {vs : List (Key × Value)} {o : Obj} {es : Array DictEntry} {ep : Nat} (h : H a = some (.dK kvs)) (t : DatA X.K H (kvs.map (·.2)) ds)
    (hs : (PyData.dict ((kvs.map fun p => kD p.1).zip ds)).showable = true) (hz : (PyData.dict ((kvs.map fun p => kD p.1).zip ds)).shown.length ≤ sizeLine) (h1 : s.heap.get? a = some o) (h3 : o.data = .dict es ep)
    (h5 : Pairs (mixKind X.prog X.w) es.toList vs) (rv : KV kvs vs) :
    ∃ n bs, a ∉ bs ∧ ReprEntriesK X.prog X.w bs s.heap n es.toList (PyData.shownKv ((kvs.map fun p => kD p.1).zip ds)) ∧ n + 1 ≤ (PyData.dict ((kvs.map fun p => kD p.1).zip ds)).depth := by
  have hl : kvs.length = ds.length := by
    have z := t.len
    rw [List.length_map] at z
    exact z
  obtain ⟨e1, e2⟩ := kv_of_zip (f := fun p : Key × V => kD p.1) (l := kvs) hl
  have hz1 : (dictText (PyData.shownKv ((kvs.map fun p => kD p.1).zip ds))).length ≤ sizeLine := by simpa only [PyData.shown] using hz
  have hs1 : PyData.showableKv ((kvs.map fun p => kD p.1).zip ds) = true := by simpa [PyData.showable] using hs
  obtain ⟨s1, s2⟩ := PyData.showableKv_split _ hs1
  rw [e1] at s1
  rw [e2] at s2
  obtain ⟨as, rd⟩ := reads_of I (.dic h t) (v := .ref a) rfl
  obtain ⟨bs, hb, hk⟩ := reprA_of I t (kv_vals rv) s2 fun u hu => by
    obtain ⟨p, hp, hq⟩ := PyData.shownKv_val_le _ u (by rw [e2]; exact hu)
    exact Nat.le_trans hq (Nat.le_trans (dictText_mem_le hp) hz1)
  have kk : ReprAllK X.prog X.w [] s.heap (PyData.depthKv ((kvs.map fun p => kD p.1).zip ds)) (es.toList.map (·.key)) (PyData.shownAll (kvs.map fun p => kD p.1)) := by
    rw [← kv_fst rv]
    refine keys_shown h5 fun p hp => ?_
    have hm : kD p.1 ∈ kvs.map fun p => kD p.1 := by
      rw [← kv_fst rv]
      exact List.mem_map.mpr ⟨p, hp, rfl⟩
    obtain ⟨y, hy, hq⟩ := PyData.shownKv_key_le _ _ (by rw [e1]; exact shown_mem hm)
    exact ⟨all_of s1 _ hm, Nat.le_trans hq (Nat.le_trans (dictText_mem_le hy) hz1)⟩
  have dv : PyData.depthAll ds ≤ PyData.depthKv ((kvs.map fun p => kD p.1).zip ds) := by
    have z := PyData.depthAll_vals_le ((kvs.map fun p => kD p.1).zip ds)
    rw [e2] at z
    exact z
  have dp : (PyData.dict ((kvs.map fun p => kD p.1).zip ds)).depth = PyData.depthKv ((kvs.map fun p => kD p.1).zip ds) + 1 := by simp only [PyData.depth] <;> omega
  have hna : a ∉ bs := not_mem_of_deeper rd (by rw [dp]; omega) (hb.mono dv)
  refine ⟨_, bs, hna, ?_, Nat.le_of_eq dp.symm⟩
  rw [PyData.shownKv_eq, e1, e2]
  refine ReprEntriesK.of_two es.toList _ _ (kk.more_le (fun b z => absurd z List.not_mem_nil) (Nat.le_refl _)) ?_
  rw [pairs_vals h5]
  exact hk.more_le (fun b z => z) dv
end
end Ns

/-! NsC: the call of repr; == of equal data. -/
namespace Ns
open PySem PySem.Spec PyProof.Rows L2
section
variable {X : Cx} {pins : List (Addr × Obj)} {σ : L2.St} {H : Hp} {s : Shared}

theorem repr_run (I : Inv X pins σ H s) {A : Around} (hg : A.guards = some []) {x : V} {d : PyData} (D : DatV X.K H x d) {v : Value} (r : RelV x v) (hs : d.showable = true) (hz : d.shown.length ≤ sizeLine) (hu : A.units + (d.depth + 2) < cLine)
    {E Q : Value → Shared → Prop} (q : ∀ h' u tk, (∀ b o, s.heap.get? b = some o → h'.get? b = some o) → Q (.str d.shown u) { s with heap := h', toks := tk }) :
    wpAny (model X.prog X.w) A (call (.builtin "repr") [v]) Q E s := by
  cases D with
  | non =>
    cases (show v = Value.none from r)
    rw [PyData.shown_none] at q
    exact PySem.P.repr_of_none (q s.heap _ _ fun _ _ e => e)
  | bl b =>
    cases (show v = Value.bool b from r)
    rw [PyData.shown_bool] at q
    exact PySem.P.repr_of_bool (q s.heap _ _ fun _ _ e => e)
  | int i =>
    obtain ⟨t, rfl⟩ := (show ∃ t, v = Value.int i t from r)
    rw [PyData.shown_int] at q
    exact PySem.P.repr_of_int (of_decide_eq_true (by simpa [PyData.showable] using hs)) (q s.heap _ _ fun _ _ e => e)
  | str y =>
    obtain ⟨t, rfl⟩ := (show ∃ t, v = Value.str y t from r)
    rw [PyData.shown_str] at q hz
    exact PySem.P.repr_of_str (q s.heap _ _ fun _ _ e => e) hz
  | @lst a xs ds h t =>
    cases (show v = Value.ref a from r)
    have hz1 : (listText (PyData.shownAll ds)).length ≤ sizeLine := by simpa only [PyData.shown] using hz
    have hs1 : PyData.showableAll ds = true := by simpa [PyData.showable] using hs
    obtain ⟨as, rd⟩ := reads_of I (.lst h t) (v := .ref a) rfl
    obtain ⟨its, rv, ⟨o, n, h1, h2, h3, h4⟩, _⟩ := I.list h
    have h5 : o.data = .seq its.toArray n := by first | exact h3 | exact h4
    obtain ⟨bs, hb, hk⟩ := reprA_of I t rv hs1 fun u hu => Nat.le_trans (listText_mem_le hu) hz1
    have dp : (PyData.list ds).depth = PyData.depthAll ds + 1 := by simp only [PyData.depth] <;> omega
    have hna : a ∉ bs := not_mem_of_deeper rd (by rw [dp]; omega) hb
    simp only [PyData.shown] at q
    rw [dp] at hu
    refine call_repr_slot (by omega) ⟨o, h1, h2⟩ F.slot_list_repr.toG ?_
    cases its with
    | nil =>
      have e0 : PyData.shownAll ds = [] := List.length_eq_zero_iff.mp (by simpa using hk.length_eq)
      rw [e0, listText_nil] at q
      exact call_list_repr_empty ⟨o, h1, h2⟩ h1 h5 ⟨_, _, rfl, q s.heap _ _ fun _ _ e => e⟩
    | cons y l =>
      exact call_list_reprK (A := A.in1) (g := []) h1 h2 h5 hna (by simpa using hk.length_eq) (fun i u e => hk.item i u (by simpa using e)) hg (fun b _ => Clear.nil b) (by show A.units + 1 + _ < _; omega) (fun _ _ e => e)
        (fun h' u tk k => ⟨_, _, rfl, q h' u tk k⟩) hz1
  | @tup a xs ds h t =>
    cases (show v = Value.ref a from r)
    have hz1 : (tupleText (PyData.shownAll ds)).length ≤ sizeLine := by simpa only [PyData.shown] using hz
    have hs1 : PyData.showableAll ds = true := by simpa [PyData.showable] using hs
    obtain ⟨as, rd⟩ := reads_of I (.tup h t) (v := .ref a) rfl
    obtain ⟨its, rv, ⟨o, h1, h2, n, h3⟩, _⟩ := I.tuple h
    obtain ⟨bs, hb, hk⟩ := reprA_of I t rv hs1 fun u hu => Nat.le_trans (tupleText_mem_le hu) hz1
    have dp : (PyData.tuple ds).depth = PyData.depthAll ds + 1 := by simp only [PyData.depth] <;> omega
    have hna : a ∉ bs := not_mem_of_deeper rd (by rw [dp]; omega) hb
    simp only [PyData.shown] at q
    rw [dp] at hu
    refine call_repr_slot (by omega) ⟨o, h1, h2⟩ F.slot_tuple_repr ?_
    exact call_tuple_reprK (A := A.in1) (g := []) h1 h2 h3 hna (by simpa using hk) hg (fun b _ => Clear.nil b) (by show A.units + 1 + _ < _; omega) (fun _ _ e => e)
      (fun h' u tk k => ⟨_, _, rfl, q h' u tk k⟩) hz1
  | @dic a kvs ds h t =>
    cases (show v = Value.ref a from r)
    obtain ⟨_, hsy, vs, rv, o, es, ep, h1, h2, h3, _, h5, _⟩ := (show ObjOk X.prog X.w H s.heap a (.dK kvs) from I.hok a _ h)
    obtain ⟨n, bs, hna, hE, hd⟩ := dict_entries I h t hs hz h1 h3 h5 rv
    simp only [PyData.shown] at q hz
    refine call_repr_slot (by omega) ⟨o, h1, h2.1⟩ F.slot_dict_repr ?_
    exact call_dict_reprK (A := A.in1) (g := []) h1 h2.1 h3 hsy hna hE hg (fun b _ => Clear.nil b) (by show A.units + 1 + _ < _; omega) (fun _ _ e => e)
      (fun h' u tk k => ⟨_, _, rfl, q h' u tk k⟩) hz

/-- repr(x), x data -/
def rRep (K : PySem.W.Frag) : List V → Hp → VK → Prop := fun xs H Q => ∃ x d, xs = [x] ∧ DatV K H x d ∧ d.showable = true ∧ d.shown.length ≤ sizeLine ∧ d.depth ≤ 60 ∧ Q (.str d.shown) H
theorem call_reprD (hg : X.A.guards = some []) (hu : X.A.units + 64 < cLine) : CallR X (.builtin "repr") (rRep X.K) := by
  intro pins s σ H xs us Q I r h
  obtain ⟨x, d, rfl, D, hs, hz, hd, q⟩ := h
  obtain ⟨u, rfl, r1⟩ := vals1 r
  exact repr_run I hg D r1 hs hz (by omega) fun h' u tk k => ⟨.str d.shown, H, I.kept (t' := tk) k, ⟨u, rfl⟩, q⟩
end
end Ns

/-! NsG: defs that are called where no repr is under way (the guards are known to be none); xs[i] op= e of a list; the end of a law over such a def. -/
namespace Ns
open PySem PySem.Spec PyProof.Rows L2

/-- as FnOk, for calls with no guard around -/
structure GnOk (P : Program) (w : World) (K : PySem.W.Frag) (mg : Str → Option Value) (base : Heap) (k : Nat) (f : Addr) (fd : FuncData) (ps : List Str) (sp : Sp) : Prop where
  glen : ∀ as H Q E, sp as H Q E → as.length = ps.length
  grun : ∀ (A : Around) (outer : List Env) (s : Shared) (H : Hp) (args : Args) (us : List Value) (as : List V) (Q : VK) (E : XK), Room k A → A.guards = some [] → Env0 P w K mg base A outer s H →
    BindsTo s fd args (ps.zip us) → Vals as us → sp as H Q E → codeAny (model P w) A (.call (.ref f) args) (CR CX0 outer P w H s Q E) s
theorem FnOk.guarded {P : Program} {w : World} {K : PySem.W.Frag} {mg : Str → Option Value} {base : Heap} {k : Nat} {f : Addr} {fd : FuncData} {ps : List Str} {sp : Sp} (F : FnOk P w K mg base CX0 k f fd ps sp) : GnOk P w K mg base k f fd ps sp :=
  ⟨F.len, fun A outer s H args us as Q E hr _ e b v h => F.run A outer s H args us as Q E hr e b v h⟩

section
variable {X : Cx} {k : Nat} {f : Addr} {fd : FuncData} {ps : List Str} {sp : Sp} {x : Str} {p pos : Pos} {e : Expr} {es : List Expr} {t : TA}
theorem run_g {pins : List (Addr × Obj)} {σ : L2.St} {H : Hp} {s : Shared} {Q : VK} {us : List Value} {as : List V} (F : GnOk X.prog X.w X.K X.mg X.base k f fd ps sp) (hr : Room k X.A) (hgd : X.A.guards = some []) (hb : Binds X.K fd ps [])
    (I : Inv X pins σ H s) (r : Vals as us) (h : sp as H Q E0) : wpAny (model X.prog X.w) X.A (call (.ref f) us) (EP X pins σ Q) X.xe s := by
  have hl : us.length = ps.length := r.length.symm.trans (F.glen _ _ _ _ h)
  have bb := hb s us I.kIn (by rw [List.append_nil]; exact hl)
  rw [List.append_nil] at bb
  refine wpAny_call (codeAny_mono (F.grun X.A X.stack s H ⟨us, []⟩ us as Q E0 hr hgd I.env0 bb r h) fun z s' hz => ?_)
  match z, hz with
  | .error _, hz => exact (show False from hz).elim
  | .ok (.ret u), hz => exact I.after hz
  | .ok .next, hz => exact (show False from hz).elim
  | .ok .brk, hz => exact (show False from hz).elim
  | .ok .cont, hz => exact (show False from hz).elim
theorem pe_callG (F : GnOk X.prog X.w X.K X.mg X.base k f fd ps sp) (hr : Room k X.A) (hgd : X.A.guards = some []) (hg : Gl X x) (hm : X.mg x = some (.ref f)) (hk : PySem.W.keepIn X.K (.ref f) = true) (hb : Binds X.K fd ps [])
    (ha : PA X (e :: es) t) (hdb : (x == ("__debug__" : Str)) = false := by decide) (he : starEach (e :: es) X.env = (false, eval e X.env) :: starEach es X.env := by rfl) (hpl : (backTo pos (starEach es X.env)).any (·.1) = false := by rfl) :
    PE X (.Call (.Name x p) (e :: es) [] pos) (tCall sp [] E0 t) :=
  ⟨fun pins s σ H Q I h => wpAny_Call_Name_kw (ld_glob I hg hm (PySem.W.callWith_K (h₀ := X.base) I.ok.mod.kin hk (thn (ha.run pos pins s σ H _ I h) fun us s1 ⟨as, H1, I1, r, q⟩ => ⟨I1.kIn, run_g F hr hgd hb I1 r (by have q' : sp (as ++ []) H1 Q E0 := q; rw [List.append_nil] at q'; exact q')⟩) he hpl) hdb)⟩
end

/-- the def by its body: the guards are known within -/
theorem Fun.okG {P : Program} {w : World} {K : PySem.W.Frag} {mg : Str → Option Value} {base : Heap} {x qual : Str} {st : Stmt} {f : Addr} {fd : FuncData} {N ps : List Str} {k : Nat} {sp : Sp} (F : Fun K x qual st f fd) (S : FnScope N ps (defScope st))
    (len : ∀ as H Q E, sp as H Q E → as.length = ps.length)
    (body : ∀ (cdv : Value) (A : Around) (outer : List Env) (s : Shared) (H : Hp) (as : List V) (Q : VK) (E : XK), Room k (A.deeper (envOfC qual (defScope st) s.heap.objs.size f cdv)) → (A.deeper (envOfC qual (defScope st) s.heap.objs.size f cdv)).guards = some [] → sp as H Q E →
      ∃ t, PSs (cxOf CX0 P w K mg base N qual (defScope st) f cdv A outer s H E).nox (defBody st) t ∧ t { nx := fun _ H' => Q .non H', rt := Q } (start N as) H) : GnOk P w K mg base (k + 1) f fd ps sp := by
  obtain ⟨oc, od, kV, doc, pm, an, cdv, ct, osl, rfl, lk, hcd⟩ := F.ex
  refine ⟨len, fun A outer s H args us as Q E hr hgd e0 hb r hsp => ?_⟩
  have old : ∀ b o, base.get? b = some o → s.heap.get? b = some o := fun b o z => (e0.bs b o z).1
  have kin : K.In s.heap := e0.mod.kin.keeps old
  refine codeAny_call_function hr.depth (kin _ _ lk) rfl S.co S.gen rfl (PySem.W.codeRec_of kin hcd) (hb _ _ _ _ (wpAny_newFunctionEnv_cells S.kind (fun y hy => ?_) fun env he s1 x => ?_))
  · have hm := (List.of_mem_zip (show (y.1, y.2) ∈ ps.zip us from hy)).1
    exact (S.par y.1 hm).imp (fun z => z) fun z => ⟨z, PySem.W.cellsFrom_some _ _ _ (.inl z)⟩
  · cases he
    refine ⟨(e0.mod.nolimit.keeps old).keeps x.toInCall.keep, codeAny_func ?_⟩
    obtain ⟨t, ht, hq⟩ := body cdv A outer s H as Q E (hr.deeper _) hgd hsp
    have J := inv_start (CX := CX0) (E := E) S hr.hd e0 (len _ _ _ _ hsp) r x
    refine wpAny_mono (ht.nox.run [] s1 (start N as) H _ J hq) (fun fl s' hs => ?_) fun e s' hs => hs
    match fl, hs with
    | .ret u, ⟨v, _, H', J', rv, q⟩ => exact ⟨v, H', J'.os, J'.bare, J'.base, J'.hok, rv, q⟩
    | .next, ⟨_, H', J', q⟩ => exact ⟨V.non, H', J'.os, J'.bare, J'.base, J'.hok, rfl, q⟩
    | .brk, ⟨_, _, _, q⟩ => exact (show False from q).elim
    | .cont, ⟨_, _, _, q⟩ => exact (show False from q).elim
end Ns

/-! NsH: the end of a law over a guarded def; xs[i] op= e. -/
namespace Ns
open PySem PySem.Spec PyProof.Rows L2

/-- what a law's def promises: of a list of ints, True -/
def spTop (K : PySem.W.Frag) : Sp := fun as H Q _ => ∃ (a : Addr) (ns : List Int), as = [.ref a] ∧ SqL K H a (ns.map V.int) ∧ ns.length ≤ 63 ∧ ∀ H', Q (.bl true) H'

/-- the abstract heap at the entry: the script at a alone, unless it is a written object -/
theorem entry_core {P : Program} {w : World} {K : PySem.W.Frag} {mg mb : Str → Option Value} {k : Nat} {fa a : Addr} {fd : FuncData} {s : Shared} {vs : List Value} {ns : List Int} (kin : K.In s.heap) (gl : s.heap.Ns mainGlobals mg)
    (bl : s.heap.Ns builtinsNs mb) (bb : ∀ x : Str, x ≠ "__name__" → mb x = bootBuiltins x) (nl : s.heap.NoLimit) (ge : s.gens = #[]) (sc : s.heap.get? a = some { cls := .type "list", data := .seq vs.toArray }) (l63 : ns.length ≤ 63)
    (hr : Room k callerA) (F : ∀ base : Heap, K.In base → base.Ns mainGlobals mg → GnOk P w K mg base k fa fd ["script"] (spTop K)) (bd : ∀ (z : Shared) (u : Value), BindsTo z fd ⟨[u], []⟩ [("script", u)])
    (H : Hp) (only : ∀ b o, H b = some o → b = a ∧ ∃ ob xs, o = .frz ob (.lst xs)) (free : H a ≠ none → K.lookup a = none) (hok : HOk P w H s.heap) (sq : SqL K H a (ns.map V.int)) :
    codeAny (model P w) callerA (.call (.ref fa) ⟨[.ref a], []⟩) (fun r s' => r = .ok (.ret (.bool true)) ∧ OldK s.heap s'.heap ∧ s'.os = s.os ∧ AllBare s'.gens) s := by
  have noD : ∀ {b : Addr} {o : Obj} {es : Array DictEntry} {n : Nat}, s.heap.get? b = some o → o.data = .dict es n → H b = none := by
    intro b o es n e d
    cases q : H b with
    | none => rfl
    | some u =>
      obtain ⟨rfl, _⟩ := only b u q
      rw [sc] at e
      cases e
      cases d
  have ns' : ∀ {b : Addr} {m : Str → Option Value}, s.heap.Ns b m → (hidT s.heap H).Ns b m := by
    rintro b m ⟨o, es, n, e, d, r⟩
    exact ⟨o, es, n, hidT_get e (noD e d), d, r⟩
  have kin' : K.In (hidT s.heap H) := by
    intro b o e
    refine hidT_get (kin b o e) ?_
    cases q : H b with
    | none => rfl
    | some u =>
      obtain ⟨rfl, _⟩ := only b u q
      rw [free (by rw [q]; exact fun z => nomatch z)] at e
      cases e
  have md : Mod K mg (hidT s.heap H) := by
    obtain ⟨mc, n1, n2⟩ := nl
    exact { kin := kin', glob := ns' gl, blt := ⟨mb, ns' bl, bb⟩, nolimit := ⟨mc, ns' n1, n2⟩ }
  have e0 : Env0 P w K mg (hidT s.heap H) callerA [] s H :=
    { frames := rfl, mod := md, bs := fun b o e => of_hidT e, bsz := Nat.le_of_eq (hidT_size _ _), funs := trivial, frf := fun b hb => (List.not_mem_nil hb).elim, hok := hok, bare := .of_eq ge }
  have run := (F _ kin' (ns' gl)).grun callerA [] s H ⟨[.ref a], []⟩ [.ref a] [.ref a] (fun v _ => v = .bl true) E0 hr rfl e0 (bd s (.ref a)) (.cons rfl .nil) ⟨a, ns, rfl, sq, l63, fun _ => rfl⟩
  refine codeAny_mono run fun r s' h => ?_
  match r, h with
  | .error _, h => exact (show False from h).elim
  | .ok .next, h => exact (show False from h).elim
  | .ok .brk, h => exact (show False from h).elim
  | .ok .cont, h => exact (show False from h).elim
  | .ok (.ret u), ⟨v, H', o', bare, un, hok', rv, q⟩ =>
    have q' : v = .bl true := q
    rw [q'] at rv
    have eu : u = Value.bool true := rv
    rw [eu]
    refine ⟨rfl, OldK.of_keep fun b o e => ?_, o', bare⟩
    cases z : H b with
    | none => exact un.keep b o e z (fun y => List.not_mem_nil y) List.not_mem_nil
    | some u' =>
      obtain ⟨_, ob, xs, rfl⟩ := only b u' z
      have h1 : s.heap.get? b = some ob := (hok b _ z).1
      have h2 : s'.heap.get? b = some ob := (hok' b _ (un.frzs b ob _ z)).1
      rw [e] at h1
      cases h1
      exact h2

theorem walk_ofG {l : PySem.W.OpenLaw} {k : Nat} {q : Program} {loose : List Str} {XP : (Str → Option Value) → Heap → Prop} {YP : World → Heap → Prop} {d : DefRec} {K : Params → PySem.W.Frag} (hn : l.most = some 63) (hdf : d.params.defaults = []) (hr : Room k callerA)
    (hY : ∀ (w : World) (h : Heap), YP w h → (K w.params).In h)
    (F : ∀ (w : World) (mg : Str → Option Value) (fa : Addr) (h : Heap), (K w.params).In h → h.Ns mainGlobals mg → mg d.name = some (.ref fa) →
      ∃ fd : FuncData, (∀ (z : Shared) (u : Value), BindsTo z fd ⟨[u], []⟩ [("script", u)]) ∧ ∀ base : Heap, (K w.params).In base → base.Ns mainGlobals mg → GnOk l.prog w (K w.params) mg base k fa fd ["script"] (spTop (K w.params))) :
    PySem.W.WalkO q loose XP YP l.row.toRowW d [] (fun f vs => PySem.call f vs) := by
  refine Att.attach_call hn hdf ?_
  intro w s0 s mg mb fa o pm cd doc a vs ns G Y ho hd hcd hmg hobj hints hlen hg
  obtain ⟨fd, bd, hF⟩ := F w mg fa _ (hY w _ Y) G.T.g hmg
  have rv := vals_ints hints
  have hz : (ns.map V.int).length ≤ sizeLine := by
    rw [List.length_map]
    exact Nat.le_trans hlen (by decide)
  have go := entry_core (P := l.prog) (w := w) (a := a) (ns := ns) (hY w _ Y) G.T.g G.T.b G.T.builtins G.T.nolimit hg hobj hlen hr hF bd
  cases hk : (K w.params).lookup a with
  | some ok =>
    have e := hY w _ Y a ok hk
    rw [hobj] at e
    cases e
    refine go (fun _ => none) (fun b o z => nomatch z) (fun z => absurd rfl z) (fun b u z => nomatch z) (.inr ⟨_, vs.toArray, _, hk, rfl, rfl, rfl, ?_, by simpa using rv⟩)
    rw [List.size_toArray, ← rv.length]
    exact hz
  | none =>
    have at_a : (fun b => if b = a then some (HO.frz { cls := .type "list", data := .seq vs.toArray } (.lst (ns.map V.int))) else none) a = some (HO.frz { cls := .type "list", data := .seq vs.toArray } (.lst (ns.map V.int))) := if_pos rfl
    have un_a : ∀ (b : Addr) (u : HO), (if b = a then some (HO.frz { cls := .type "list", data := .seq vs.toArray } (.lst (ns.map V.int))) else none) = some u → b = a ∧ u = HO.frz { cls := .type "list", data := .seq vs.toArray } (.lst (ns.map V.int)) := by
      intro b u z
      by_cases hb : b = a
      · rw [if_pos hb] at z
        exact ⟨hb, (Option.some.inj z).symm⟩
      · rw [if_neg hb] at z
        cases z
    refine go (fun b => if b = a then some (HO.frz { cls := .type "list", data := .seq vs.toArray } (.lst (ns.map V.int))) else none) (fun b u z => ?_) (fun _ => hk) (fun b u z => ?_) (.inl (.inr ⟨_, at_a⟩))
    · obtain ⟨e1, e2⟩ := un_a b u z
      exact ⟨e1, _, _, e2⟩
    · obtain ⟨e1, e2⟩ := un_a b u z
      subst e1
      subst e2
      exact ⟨hobj, hz, vs, _, rv, hobj⟩

/-- o[i] of a list, by values -/
theorem get_list {X : Cx} : PGet X (rIxL X.K) := by
  intro pins s σ H o i ov iv Q I ro ri h
  obtain ⟨p, xs, j, v, rfl, rfl, hS, hat, q⟩ := h
  cases (show ov = Value.ref p from ro)
  obtain ⟨t, rfl⟩ := (show ∃ t, iv = Value.int j t from ri)
  obtain ⟨its, rv, pl, hz⟩ := I.list hS
  obtain ⟨n, h1, h2, h3, h4, h5⟩ := atI_get hat
  obtain ⟨u, eu, ru⟩ := rv.get h2
  have ln := rv.length
  have l63 := line63
  have done : EP X pins σ Q u s := ⟨v, H, I, ru, q⟩
  rcases Int.lt_or_le j 0 with c | c
  · refine wpAny_getItem_list_neg pl.isList (by omega) (by rw [List.size_toArray]; omega) (by omega) ?_ done
    have e : (j + (its.toArray.size : Int)).toNat = n := by
      rw [seqIndex_neg (by omega) h4] at h1
      rw [List.size_toArray, ← ln]
      exact Option.some.inj h1
    rw [e]
    simpa using eu
  · refine wpAny_getItem_list pl.isList c (by omega) ?_ done
    have e : j.toNat = n := by
      rw [seqIndex_of c h5] at h1
      exact Option.some.inj h1
    rw [e]
    simpa using eu
end Ns

/-! the tops of the text -/
namespace Y
open PySem PySem.Spec PyProof.Rows L2 Ns
def top (i : Nat) : Stmt := PySem.Challenge.pw_nightstairs_k07_whole_edits_there_and_ba.main.body.getD i (.Pass ⟨0, 0, 0, 0⟩)
abbrev sChanged : Stmt := top 5
abbrev sCapsAndCars : Stmt := top 6
abbrev sTakeCable : Stmt := top 7
abbrev sTakeCar : Stmt := top 8
abbrev sEditsBetween : Stmt := top 9
abbrev sUnlikeKeys : Stmt := top 10
abbrev sBag : Stmt := top 12
abbrev sTake : Stmt := top 13
abbrev sSome : Stmt := top 14
abbrev sAlike : Stmt := top 15
abbrev sName : Stmt := top 16
abbrev sNames : Stmt := top 17
abbrev sSize : Stmt := top 18
abbrev sCables : Stmt := top 19
abbrev sCars : Stmt := top 20
abbrev sYardOf : Stmt := top 21
abbrev sSmall : Stmt := top 22
abbrev sWide : Stmt := top 23
abbrev sDue : Stmt := top 24
abbrev sNear : Stmt := top 25
abbrev sIsWayRight : Stmt := top 26
abbrev sLaw : Stmt := top 27
end Y

/-! the bag over the heap -/
namespace Y
open PySem PySem.Spec PyProof.Rows L2 Ns
/-- the heap but for b -/
def wo (H : Hp) (b : Addr) : Hp := fun c => if c = b then none else H c
theorem wo_ne {H : Hp} {b c : Addr} (h : c ≠ b) : wo H b c = H c := if_neg h
theorem wo_at {H : Hp} {b : Addr} : wo H b b = none := if_pos rfl
theorem wo_of {H : Hp} {b c : Addr} {o : HO} (h : wo H b c = some o) : c ≠ b ∧ H c = some o := by
  by_cases e : c = b
  · rw [e, wo_at] at h
    cases h
  · exact ⟨e, (wo_ne e).symm.trans h⟩
theorem wo_sub (H : Hp) (b : Addr) : Same (wo H b) H := fun _ _ h => (wo_of h).2
/-- all but b stands; b keeps its row of numbers -/
def Sb (b : Addr) (H H' : Hp) : Prop := Same (wo H b) (wo H' b) ∧ ∀ (n0 n1 n2 : Int) (l : Addr), H b = some (.lst [.int n0, .int n1, .int n2, .ref l]) → ∃ m0 m1 m2 : Int, H' b = some (.lst [.int m0, .int m1, .int m2, .ref l])
theorem Sb.refl (b : Addr) (H : Hp) : Sb b H H := ⟨Same.refl _, fun n0 n1 n2 _ h => ⟨n0, n1, n2, h⟩⟩
theorem Sb.trans {b : Addr} {H H1 H2 : Hp} (h : Sb b H H1) (g : Sb b H1 H2) : Sb b H H2 := ⟨Same.trans h.1 g.1, fun n0 n1 n2 l e => by
  obtain ⟨m0, m1, m2, e1⟩ := h.2 n0 n1 n2 l e
  exact g.2 _ _ _ _ e1⟩
theorem Sb.get {b c : Addr} {H H' : Hp} {o : HO} (h : Sb b H H') (e : H c = some o) (n : c ≠ b) : H' c = some o := (wo_of (h.1 c o ((wo_ne n).trans e))).2
theorem Sb.new {b p : Addr} {H H' : Hp} {o : HO} (h : Sb b H H') (n : H' p = none) : Sb b H (upd H' p o) := ⟨fun c u e => by
  have q := h.1 c u e
  obtain ⟨q1, q2⟩ := wo_of q
  rw [wo_ne q1, upd_ne (ne_of_none q2 n)]
  exact q2, fun n0 n1 n2 l e => by
  obtain ⟨m0, m1, m2, e1⟩ := h.2 n0 n1 n2 l e
  exact ⟨m0, m1, m2, by rw [upd_ne (ne_of_none e1 n)]; exact e1⟩⟩
theorem Sb.put {b l : Addr} {H H' : Hp} {n0 n1 n2 m0 m1 m2 : Int} (h : Sb b H H') (e0 : H' b = some (.lst [.int n0, .int n1, .int n2, .ref l])) : Sb b H (upd H' b (.lst [.int m0, .int m1, .int m2, .ref l])) := ⟨fun c u e => by
  obtain ⟨q1, q2⟩ := wo_of (h.1 c u e)
  rw [wo_ne q1, upd_ne q1]
  exact q2, fun k0 k1 k2 l' e => by
  obtain ⟨j0, j1, j2, e1⟩ := h.2 _ _ _ _ e
  rw [e0] at e1
  cases e1
  exact ⟨m0, m1, m2, upd_same⟩⟩
theorem Sb.same {b : Addr} {H H' H2 : Hp} (h : Sb b H H') (m : Same H' H2) : Sb b H H2 := ⟨fun c u e => by
  obtain ⟨q1, q2⟩ := wo_of (h.1 c u e)
  rw [wo_ne q1]
  exact m _ _ q2, fun n0 n1 n2 l e => by
  obtain ⟨m0, m1, m2, e1⟩ := h.2 n0 n1 n2 l e
  exact ⟨m0, m1, m2, m _ _ e1⟩⟩
/-- the bag at b -/
def Bag (H : Hp) (b : Addr) : Prop := ∃ (n0 n1 n2 : Int) (l : Addr) (ns : List Int), H b = some (.lst [.int n0, .int n1, .int n2, .ref l]) ∧ H l = some (.lst (ns.map V.int)) ∧ l ≠ b ∧ 0 ≤ n0 ∧ 0 ≤ n1 ∧ n1 < 2147483647 ∧ 0 ≤ n2 ∧ (∀ n ∈ ns, 0 ≤ n) ∧ ns.length ≤ 63
theorem Bag.new {H : Hp} {b p : Addr} {o : HO} (h : Bag H b) (n : H p = none) : Bag (upd H p o) b := by
  obtain ⟨n0, n1, n2, l, ns, h1, h2, r⟩ := h
  exact ⟨n0, n1, n2, l, ns, by rw [upd_ne (ne_of_none h1 n)]; exact h1, by rw [upd_ne (ne_of_none h2 n)]; exact h2, r⟩
theorem Bag.keep {H H' : Hp} {b : Addr} (h : Bag H b) (m : Same H H') : Bag H' b := by
  obtain ⟨n0, n1, n2, l, ns, h1, h2, r⟩ := h
  exact ⟨n0, n1, n2, l, ns, m _ _ h1, m _ _ h2, r⟩
theorem Bag.ne {H : Hp} {b p : Addr} (h : Bag H b) (n : H p = none) : p ≠ b := fun e => by
  obtain ⟨_, _, _, _, _, h1, _⟩ := h
  rw [e, h1] at n
  cases n
/-- a place that was free at first is written: the bag stands -/
theorem Bag.wr {H H' : Hp} {b p : Addr} {o : HO} (h : Bag H b) (n : H p = none) (s : Sb b H H') (g : Bag H' b) : Bag (upd H' p o) b := by
  obtain ⟨n0, n1, n2, l, ns, h1, h2, h3, _⟩ := id h
  obtain ⟨k0, k1, k2, l', ns', g1, g2, r⟩ := g
  obtain ⟨m0, m1, m2, e⟩ := s.2 _ _ _ _ h1
  rw [g1] at e
  cases e
  exact ⟨_, _, _, _, ns', by rw [upd_ne (h.ne n).symm]; exact g1, by rw [upd_ne (ne_of_none h2 n)]; exact g2, r⟩
theorem Sb.wr {b p : Addr} {H H' : Hp} {o : HO} (s : Sb b H H') (n : H p = none) : Sb b H (upd H' p o) := ⟨fun c u e => by
  obtain ⟨q1, q2⟩ := wo_of (s.1 c u e)
  rw [wo_ne q1, upd_ne (ne_of_none (wo_of e).2 n)]
  exact q2, fun n0 n1 n2 l e => by
  obtain ⟨m0, m1, m2, e1⟩ := s.2 n0 n1 n2 l e
  exact ⟨m0, m1, m2, by rw [upd_ne (ne_of_none e n)]; exact e1⟩⟩
theorem Sb.free {b p : Addr} {H H' : Hp} (h : Sb b H H') (hp : H' p = none) (n : p ≠ b) : H p = none := by
  cases e : H p with
  | none => rfl
  | some o => rw [h.get e n] at hp; cases hp
/-- what stood but for the bag: lists, tuples -/
theorem Sb.sl {K : PySem.W.Frag} {b a : Addr} {H H' : Hp} {xs : List V} (s : Sb b H H') (h : SqL K (wo H b) a xs) : SqL K (wo H' b) a xs := Same.seq s.1 h
theorem wo_same {H H' : Hp} {b : Addr} (m : Same H H') : Same (wo H b) (wo H' b) := fun c o e => by
  obtain ⟨q1, q2⟩ := wo_of e
  rw [wo_ne q1]
  exact m _ _ q2
theorem ints_at {ns : List Int} {i : Nat} {v : V} (h : (ns.map V.int)[i]? = some v) : ∃ z, ns[i]? = some z ∧ v = .int z := by
  rw [List.getElem?_map] at h
  obtain ⟨z, e, q⟩ := Option.map_eq_some_iff.mp h
  exact ⟨z, e, q.symm⟩
theorem cut_ints (ns : List Int) (lo hi : Option Int) : ∃ ms : List Int, cutV (ns.map V.int) lo hi = ms.map V.int ∧ (∀ n ∈ ms, n ∈ ns) ∧ ms.length ≤ ns.length := by
  refine ⟨(ns.drop (HT.sIx (ns.map V.int).length 0 lo)).take (HT.sIx (ns.map V.int).length (ns.map V.int).length hi - HT.sIx (ns.map V.int).length 0 lo), ?_, fun n h => List.mem_of_mem_drop (List.mem_of_mem_take h), ?_⟩
  · unfold cutV
    rw [List.map_take, List.map_drop]
  · rw [List.length_take, List.length_drop]
    omega
theorem same_new {H H' : Hp} {p : Addr} {o : HO} (h : Same H H') (n : H' p = none) : Same H (upd H' p o) := fun c u e => by
  rw [upd_ne (ne_of_none (h c u e) n)]
  exact h c u e
theorem same_put {H H' : Hp} {p : Addr} {o : HO} (h : Same H H') (n : H p = none) : Same H (upd H' p o) := fun c u e => by
  rw [upd_ne (ne_of_none e n)]
  exact h c u e
/-- a thing put amid is among -/
theorem put_perm {α : Type} {xs ys : List α} {x : α} {i j : Nat} (h : ys.Perm (xs.take i)) (hx : xs[i]? = some x) : (ys.take j ++ [x] ++ ys.drop j).Perm (xs.take (i + 1)) := by
  have e : xs.take (i + 1) = xs.take i ++ [x] := by rw [List.take_succ, hx]; rfl
  rw [e]
  have p1 : (ys.take j ++ [x] ++ ys.drop j).Perm (x :: ys) := by
    rw [List.append_assoc, List.singleton_append]
    refine List.perm_middle.trans ?_
    rw [List.take_append_drop]
  exact p1.trans ((h.cons x).trans (List.perm_append_singleton x (xs.take i)).symm)
/-- what the top has left of the built-in names -/
structure Nat0 (mg : Str → Option Value) : Prop where
  abs : mg "abs" = none
  int : mg "int" = none
  len : mg "len" = none
  repr : mg "repr" = none
  isi : mg "isinstance" = none
  range : mg "range" = none
  sorted : mg "sorted" = none
  tuple : mg "tuple" = none
  list_ : mg "list" = none
  dict : mg "dict" = none
  set_ : mg "set" = none
  sum : mg "sum" = none
  max : mg "max" = none
  min : mg "min" = none
  str : mg "str" = none
  all : mg "all" = none
  any : mg "any" = none
  zip : mg "zip" = none
end Y

namespace Y
open PySem PySem.Spec PyProof.Rows L2 Ns
open C8 (pss_cut)
def spBag (K : PySem.W.Frag) : Sp := fun as H Q _ => ∃ (a : Addr) (ns : List Int), as = [.ref a] ∧ SqL K H a (ns.map V.int) ∧ ns.length ≤ 63 ∧ ∀ (b : Addr) (H' : Hp), Bag H' b → H b = none → Same H H' → Q (.ref b) H'
def spTake : Sp := fun as H Q _ => ∃ (b : Addr) (m : Int), as = [.ref b, .int m] ∧ Bag H b ∧ 0 < m ∧ m.natAbs < 2 ^ 200 ∧ ∀ (v : Int) (H' : Hp), 0 ≤ v → v < m → Bag H' b → Sb b H H' → Q (.int v) H'
section
variable {P : Program} {w : World} {K : PySem.W.Frag} {mg : Str → Option Value} {base : Heap}
theorem scB : FnScope ["script", "cell"] ["script"] (defScope sBag) := ⟨rfl, rfl, rfl, by decide +kernel, rfl, by decide +kernel, by decide +kernel⟩
theorem ok_bag {f : Addr} {fd : FuncData} (F : Fun K "_law_bag" "_law_bag" sBag f fd) (T : Nat0 mg) : FnOk P w K mg base CX0 1 f fd ["script"] (spBag K) := by
  refine F.ok scB (fun as H Q E h => ?_) (fun cdv A outer s H as Q E hr h => ?_)
  · obtain ⟨a, ns, rfl, _⟩ := h
    rfl
  · obtain ⟨a, ns, rfl, hS, hl, k⟩ := h
    refine ⟨_, pss_one (ps_ret (pe_lst (pa_cons pe_int (pa_cons pe_int (pa_cons pe_int (pa_cons
      (pe_lc (own := [("cell", 1)]) (g := gName 1) (tt := tYes) rfl scB.nd (pi_list (pe_slice sl_list (pv 0) po_none (po_some pe_int))) (blkOk_by (N := ["script", "cell"]) (sc := defScope sBag) (by decide +kernel)) (fun _ _ _ _ _ => pg_name (i := 1) scB.nd rfl (Or.inl rfl)) (fun _ _ _ _ _ => pts_nil)
        (fun _ _ _ _ _ => pe_callB call_abs (by rfl) T.abs (by decide +kernel) (pa_cons (pv 1) pa_nil))) pa_nil)))))), ?_⟩
    obtain ⟨ms, ec, hin, hlm⟩ := cut_ints ns none (some 63)
    refine ⟨_, rfl, _, rfl, a, _, rfl, hS, fun p hp => ?_⟩
    rw [ec]
    have lm : ms.length ≤ 63 := Nat.le_trans hlm hl
    refine ⟨p, rfl, ⟨_, .inl (.inl upd_same)⟩, fun D hD => ?_⟩
    refine lc_list (K := K) (a := p) (xs := ms.map V.int) (fun i H' => ∃ ks : List Int, H' D = some (.lst (ks.map V.int)) ∧ ks.length = i ∧ (∀ n ∈ ks, 0 ≤ n) ∧ H' p = some (.lst (ms.map V.int)) ∧ Same H H') ?_ ?_ ?_ ?_
    · have npd : p ≠ D := fun e => by rw [← e, upd_same] at hD; cases hD
      refine ⟨[], upd_same, rfl, (fun _ z => nomatch z), by rw [upd_ne npd, upd_same], fun c o e => ?_⟩
      have hD' : H D = none := by rw [upd_ne npd.symm] at hD; exact hD
      rw [upd_ne (ne_of_none e hD'), upd_ne (ne_of_none e hp)]
      exact e
    · rintro i H' hi ⟨ks, _, _, _, h, _⟩
      exact .inl (.inl h)
    · rintro i x H' hx ⟨ks, h1, h2, h3, h4, h5⟩
      obtain ⟨z, hz, rfl⟩ := ints_at hx
      have hi : i < ms.length := (List.getElem?_eq_some_iff.mp hz).1
      refine ⟨rfl, _, rfl, z, rfl, ks.map V.int, h1, by rw [List.length_map, h2]; exact small1000 (by omega), ks ++ [if z < 0 then -z else z], ?_, ?_, ?_, ?_, ?_⟩
      · rw [upd_same, List.map_append]
        rfl
      · rw [List.length_append, h2]
        rfl
      · intro n hn
        rcases List.mem_append.mp hn with q | q
        · exact h3 n q
        · rw [List.mem_singleton] at q
          subst q
          split <;> omega
      · have npd : p ≠ D := fun e => by rw [← e, upd_same] at hD; cases hD
        rw [upd_ne npd]
        exact h4
      · intro c o e
        have hD' : H D = none := by
          have npd : p ≠ D := fun e => by rw [← e, upd_same] at hD; cases hD
          rw [upd_ne npd.symm] at hD
          exact hD
        rw [upd_ne (ne_of_none e hD')]
        exact h5 c o e
    · rintro H' ⟨ks, h1, h2, h3, h4, h5⟩
      rw [List.length_map] at h2
      refine ⟨by show 4 ≤ sizeLine; decide, fun b hb => ?_⟩
      refine k b _ ⟨0, 1234567891, 0, D, ks, upd_same, by rw [upd_ne (ne_of_none h1 hb)]; exact h1, ne_of_none h1 hb, by decide, by decide, by decide, by decide, h3, by omega⟩ (h5.free hb) fun c o e => ?_
      rw [upd_ne (ne_of_none (h5 c o e) hb)]
      exact h5 c o e
end
section
variable {P : Program} {w : World} {K : PySem.W.Frag} {mg : Str → Option Value} {base : Heap}
theorem scT : FnScope ["bag", "many", "cell", "stirred", "value", "begin", "second"] ["bag", "many"] (defScope sTake) := ⟨rfl, rfl, rfl, by decide +kernel, rfl, by decide +kernel, by decide +kernel⟩
theorem at0 {α : Type} {x : α} {xs : List α} : atI (x :: xs) (0 : Int) = some x := atI_nat (j := 0) rfl
theorem at1 {α : Type} {x y : α} {xs : List α} : atI (x :: y :: xs) (1 : Int) = some y := atI_nat (j := 1) rfl
theorem at2 {α : Type} {x y z : α} {xs : List α} : atI (x :: y :: z :: xs) (2 : Int) = some z := atI_nat (j := 2) rfl
theorem at3 {α : Type} {x y z u : α} {xs : List α} : atI (x :: y :: z :: u :: xs) (3 : Int) = some u := atI_nat (j := 3) rfl
theorem fm {x m : Int} (h : 0 < m) : 0 ≤ x.fmod m ∧ x.fmod m < m := by
  rw [Int.fmod_eq_emod_of_nonneg x (by omega)]
  exact ⟨Int.emod_nonneg _ (by omega), Int.emod_lt_of_pos _ h⟩
theorem head_int {ms : List Int} (h : ∀ n ∈ ms, 0 ≤ n) : ∃ z : Int, 0 ≤ z ∧ atI (ms.map V.int ++ [V.int 0]) (0 : Int) = some (.int z) := by
  cases ms with
  | nil => exact ⟨0, by decide, at0⟩
  | cons n ms => exact ⟨n, h n List.mem_cons_self, at0⟩
theorem ok_take {f : Addr} {fd : FuncData} (F : Fun K "_law_take" "_law_take" sTake f fd) (T : Nat0 mg) : FnOk P w K mg base CX0 1 f fd ["bag", "many"] spTake := by
  refine F.ok scT (fun as H Q E h => ?_) (fun cdv A outer s H as Q E hr h => ?_)
  · obtain ⟨b, m, rfl, _⟩ := h
    rfl
  · obtain ⟨b, m, rfl, hB, hm, hmz, k⟩ := h
    refine ⟨_, pss_cut (ps_if (pt_cmpR op_eq (pe_ix ix_list (pv 0) pe_int (fun _ _ => rfl)) pe_int (nomark _))
        (pss_cons (ps_set (i := 2) scT.nd rfl (.inl rfl) (pe_ix ix_list (pe_op op_cat (pe_slice sl_list (pe_ix ix_list (pv 0) pe_int (fun _ _ => rfl)) (po_some (pe_ix ix_list (pv 0) pe_int (fun _ _ => rfl))) po_none) (pe_lst (pa_cons pe_int pa_nil))) pe_int (fun _ _ => rfl)))
        (pss_cons (ps_augS (pv 0) pe_int get_list pe_int ip_add set_list)
        (pss_cut (ps_if (pt_cmpR op_ge (pv 2) (pe_op op_pow pe_int pe_int) (nomark _)) (pss_one (ps_asg (pv 2) (pg_sub (pv 0) pe_int set_list))) pss_nil)
        (pss_cons (ps_set (i := 3) scT.nd rfl (.inl rfl) (pe_op op_add (pe_op op_add (pe_op op_mul (pe_ix ix_list (pv 0) pe_int (fun _ _ => rfl)) pe_int)
            (pe_op op_modN (pe_callTy call_int1 (by rfl) T.int (by decide +kernel) (pa_cons (pv 2) pa_nil)) pe_int)) (pe_op op_mul pe_int (pe_ix ix_list (pv 0) pe_int (fun _ _ => rfl)))))
        (pss_one (ps_asg (pe_op op_modN (pe_callTy call_int1 (by rfl) T.int (by decide +kernel) (pa_cons (pv 3) pa_nil)) pe_int) (pg_sub (pv 0) pe_int set_list))))))) pss_nil)
      (pss_cons (ps_if (pt_cmpR op_gt (pe_ix ix_list (pv 0) pe_int (fun _ _ => rfl)) pe_int (nomark _))
        (pss_cons (ps_set (i := 4) scT.nd rfl (.inl rfl) (pe_op op_modN (pe_callTy call_int1 (by rfl) T.int (by decide +kernel) (pa_cons (pe_ix ix_list (pv 0) pe_int (fun _ _ => rfl)) pa_nil)) (pv 1)))
        (pss_cons (ps_asg (pe_op op_fdivW (pe_callTy call_int1 (by rfl) T.int (by decide +kernel) (pa_cons (pe_ix ix_list (pv 0) pe_int (fun _ _ => rfl)) pa_nil)) (pv 1)) (pg_sub (pv 0) pe_int set_list))
        (pss_one (ps_ret (pv 4))))) pss_nil)
      (pss_cons (ps_set (i := 5) scT.nd rfl (.inl rfl) (pe_op op_modN (pe_callTy call_int1 (by rfl) T.int (by decide +kernel) (pa_cons (pe_op op_mul (pe_op op_add (pe_ix ix_list (pv 0) pe_int (fun _ _ => rfl)) pe_int) pe_int) pa_nil)) pe_int))
      (pss_cons (ps_set (i := 6) scT.nd rfl (.inl rfl) (pe_op op_modN (pe_callTy call_int1 (by rfl) T.int (by decide +kernel) (pa_cons (pe_op op_mul (pe_op op_modN (pe_callTy call_int1 (by rfl) T.int (by decide +kernel) (pa_cons (pe_op op_mul (pv 5) (pv 5)) pa_nil)) pe_int) pe_int) pa_nil)) pe_int))
      (pss_one (ps_ret (pe_op op_modN (pe_callTy call_int1 (by rfl) T.int (by decide +kernel) (pa_cons (pe_op op_fdivN (pv 6) pe_int) pa_nil)) (pv 1))))))), ?_⟩
    refine ⟨fun σ' H' => ∃ c s : Option V, σ' = [some (.ref b), some (.int m), c, s, none, none, none] ∧ Bag H' b ∧ Sb b H H', ?_, ?_⟩
    · obtain ⟨n0, n1, n2, l, ns, h1, h2, hlb, z0, z1, z1', z2, hn, hlen⟩ := id hB
      refine ⟨_, rfl, b, _, _, _, rfl, rfl, SqL.of h1, at0, rfl, _, rfl, ?_⟩
      refine ite2 (fun c => ?_) (fun c => ⟨none, none, rfl, hB, Sb.refl _ _⟩)
      obtain ⟨ms, ec, hin, hlm⟩ := cut_ints ns (some n2) none
      refine ⟨_, rfl, b, _, _, _, rfl, rfl, SqL.of h1, at3, _, rfl, b, _, _, _, rfl, rfl, SqL.of h1, at2, n2, rfl, l, _, rfl, SqL.of h2, fun p hp => ?_⟩
      rw [ec]
      refine ⟨by show 1 ≤ sizeLine; decide, fun q hq => ?_⟩
      have npq : p ≠ q := fun e => by rw [← e, upd_same] at hq; cases hq
      have lmz : (ms.map V.int).length + [V.int 0].length ≤ sizeLine := by
        rw [List.length_map]
        exact Nat.le_of_lt (small1000 (show ms.length + 1 ≤ 1000 by omega))
      refine ⟨p, q, _, _, rfl, rfl, by rw [upd_ne npq, upd_same], upd_same, lmz, fun r hr => ?_⟩
      obtain ⟨z, hz, hat⟩ := head_int (ms := ms) fun n h => hn n (hin n h)
      refine ⟨r, _, _, _, rfl, rfl, SqL.of upd_same, hat, ?_⟩
      have hb3 : upd (upd (upd H p (.lst (ms.map V.int))) q (.lst [V.int 0])) r (.lst (ms.map V.int ++ [V.int 0])) b = some (.lst [.int n0, .int n1, .int n2, .ref l]) := by
        have e1 : upd H p (.lst (ms.map V.int)) b = some (.lst [.int n0, .int n1, .int n2, .ref l]) := by rw [upd_ne (ne_of_none h1 hp)]; exact h1
        have e2 : upd (upd H p (.lst (ms.map V.int))) q (.lst [V.int 0]) b = some (.lst [.int n0, .int n1, .int n2, .ref l]) := by rw [upd_ne (ne_of_none e1 hq)]; exact e1
        rw [upd_ne (ne_of_none e2 hr)]
        exact e2
      have hl3 : upd (upd (upd H p (.lst (ms.map V.int))) q (.lst [V.int 0])) r (.lst (ms.map V.int ++ [V.int 0])) l = some (.lst (ns.map V.int)) := by
        have e1 : upd H p (.lst (ms.map V.int)) l = some (.lst (ns.map V.int)) := by rw [upd_ne (ne_of_none h2 hp)]; exact h2
        have e2 : upd (upd H p (.lst (ms.map V.int))) q (.lst [V.int 0]) l = some (.lst (ns.map V.int)) := by rw [upd_ne (ne_of_none e1 hq)]; exact e1
        rw [upd_ne (ne_of_none e2 hr)]
        exact e2
      have sb3 : Sb b H (upd (upd (upd H p (.lst (ms.map V.int))) q (.lst [V.int 0])) r (.lst (ms.map V.int ++ [V.int 0]))) := (((Sb.refl b H).new hp).new hq).new hr
      generalize upd (upd (upd H p (.lst (ms.map V.int))) q (.lst [V.int 0])) r (.lst (ms.map V.int ++ [V.int 0])) = H3 at hb3 hl3 sb3 ⊢
      refine ⟨_, rfl, b, _, _, _, rfl, rfl, SqL.of hb3, at2, n2, 1, rfl, rfl, b, _, _, 2, rfl, rfl, hb3, rfl, ?_⟩
      refine ⟨fun σ' H' => ∃ n0' : Int, σ' = [some (.ref b), some (.int m), some (.int z), none, none, none, none] ∧ H' b = some (.lst [.int n0', .int n1, .int (n2 + 1), .ref l]) ∧ H' l = some (.lst (ns.map V.int)) ∧ 0 ≤ n0' ∧ Sb b H H', ?_, ?_⟩
      · have hb4 : upd H3 b (.lst (([.int n0, .int n1, .int n2, .ref l] : List V).set 2 (.int (n2 + 1)))) b = some (.lst [.int n0, .int n1, .int (n2 + 1), .ref l]) := upd_same
        have hl4 : upd H3 b (.lst (([.int n0, .int n1, .int n2, .ref l] : List V).set 2 (.int (n2 + 1)))) l = some (.lst (ns.map V.int)) := by rw [upd_ne hlb]; exact hl3
        have sb4 : Sb b H (upd H3 b (.lst (([.int n0, .int n1, .int n2, .ref l] : List V).set 2 (.int (n2 + 1))))) := sb3.put hb3
        generalize upd H3 b (.lst (([.int n0, .int n1, .int n2, .ref l] : List V).set 2 (.int (n2 + 1)))) = H4 at hb4 hl4 sb4 ⊢
        refine ⟨_, rfl, 10, 18, rfl, rfl, ⟨by decide, by decide, by decide⟩, z, _, rfl, rfl, _, rfl, ?_⟩
        refine ite2 (fun _ => ?_) (fun _ => ⟨n0, rfl, hb4, hl4, z0, sb4⟩)
        exact ⟨_, rfl, _, rfl, b, _, _, 0, rfl, rfl, hb4, rfl, z, rfl, upd_same, by rw [upd_ne hlb]; exact hl4, hz, sb4.put hb4⟩
      · rintro σ' H' ⟨n0', rfl, hb5, hl5, z0', sb5⟩
        refine ⟨_, rfl, b, _, _, _, rfl, rfl, SqL.of hb5, at1, n1, _, rfl, rfl, .inl ⟨by omega, by omega⟩, _, rfl, .inl ⟨z, rfl, z, _, rfl, rfl, (show (2147483647 : Int) ≠ 0 by decide), _, _, rfl, rfl, _, rfl, b, _, _, _, rfl, rfl, SqL.of hb5, at2, 7919, _, rfl, rfl, .inl ⟨by decide, by decide⟩, _, _, rfl, rfl, ?_⟩⟩
        refine ⟨_, rfl, .inl ⟨_, rfl, _, _, rfl, rfl, (show (2147483647 : Int) ≠ 0 by decide), _, rfl, b, _, _, 1, rfl, rfl, hb5, rfl, ?_⟩⟩
        exact ⟨_, _, rfl, ⟨n0', _, n2 + 1, l, ns, upd_same, by rw [upd_ne hlb]; exact hl5, hlb, z0', (fm (by decide)).1, (fm (by decide)).2, by omega, hn, hlen⟩, sb5.put hb5⟩
    · rintro σ' H' ⟨c, s', rfl, hB', sb⟩
      obtain ⟨n0, n1, n2, l, ns, h1, h2, hlb, z0, z1, z1', z2, hn, hlen⟩ := id hB'
      refine ⟨_, rfl, b, _, _, _, rfl, rfl, SqL.of h1, at0, _, _, rfl, rfl, _, rfl, ?_⟩
      refine ite2 (fun _ => ?_) (fun _ => ?_)
      · refine ⟨_, rfl, b, _, _, _, rfl, rfl, SqL.of h1, at0, .inl ⟨n0, rfl, _, rfl, n0, m, rfl, rfl, by omega, ?_⟩⟩
        refine ⟨_, rfl, b, _, _, _, rfl, rfl, SqL.of h1, at0, .inl ⟨n0, rfl, _, rfl, n0, m, rfl, rfl, wide_div hm hmz (by decide) (by decide), _, rfl, b, _, _, 0, rfl, rfl, h1, rfl, ?_⟩⟩
        refine ⟨_, rfl, k _ _ (fm hm).1 (fm hm).2 ⟨n0 / m, n1, n2, l, ns, upd_same, by rw [upd_ne hlb]; exact h2, hlb, Int.ediv_nonneg z0 (by omega), z1, z1', z2, hn, hlen⟩ (sb.put h1)⟩
      · have b1 := fm (x := (n1 + 1) * 39373) (m := 1000000007) (by decide)
        refine ⟨_, rfl, b, _, _, _, rfl, rfl, SqL.of h1, at1, n1, 1, rfl, rfl, n1 + 1, _, rfl, rfl, .inl ⟨by omega, by omega⟩, .inl ⟨_, rfl, _, _, rfl, rfl, (show (1000000007 : Int) ≠ 0 by decide), ?_⟩⟩
        have b2 := fm (x := ((n1 + 1) * 39373).fmod 1000000007 * ((n1 + 1) * 39373).fmod 1000000007) (m := 998244353) (by decide)
        refine ⟨_, rfl, _, rfl, _, _, rfl, rfl, .inl ⟨by omega, by omega⟩, .inl ⟨_, rfl, _, _, rfl, rfl, (show (998244353 : Int) ≠ 0 by decide), _, _, rfl, rfl, .inl ⟨by omega, by omega⟩, .inl ⟨_, rfl, _, _, rfl, rfl, (show (998244353 : Int) ≠ 0 by decide), ?_⟩⟩⟩
        exact ⟨_, rfl, _, _, rfl, rfl, ⟨by decide, by decide⟩, .inl ⟨_, rfl, _, rfl, _, m, rfl, rfl, by omega, k _ _ (fm hm).1 (fm hm).2 hB' sb⟩⟩
end
end Y

namespace Y
open PySem PySem.Spec PyProof.Rows L2 Ns
open C8 (pss_cut)
def spSome (K : PySem.W.Frag) : Sp := fun as H Q _ => ∃ (b a : Addr) (xs : List V), as = [.ref b, .ref a] ∧ Bag H b ∧ SqL K (wo H b) a xs ∧ xs ≠ [] ∧ xs.length ≤ 1000000 ∧ ∀ (x : V) (H' : Hp), x ∈ xs → Bag H' b → Sb b H H' → Q x H'
section
variable {P : Program} {w : World} {K : PySem.W.Frag} {mg : Str → Option Value} {base : Heap}
theorem scS : FnScope ["bag", "things"] ["bag", "things"] (defScope sSome) := ⟨rfl, rfl, rfl, by decide +kernel, rfl, by decide +kernel, by decide +kernel⟩
theorem ok_some {f fT : Addr} {fd fdT : FuncData} (F : Fun K "_law_some" "_law_some" sSome f fd) (T : Nat0 mg) (FT : Fun K "_law_take" "_law_take" sTake fT fdT) (mT : mg "_law_take" = some (.ref fT)) (bT : Binds K fdT ["bag", "many"] []) :
    FnOk P w K mg base CX0 2 f fd ["bag", "things"] (spSome K) := by
  have GT : FnOk P w K mg base CX0 1 fT fdT ["bag", "many"] spTake := ok_take FT T
  refine F.ok scS (fun as H Q E h => ?_) (fun cdv A outer s H as Q E hr h => ?_)
  · obtain ⟨b, a, xs, rfl, _⟩ := h
    rfl
  · obtain ⟨b, a, xs, rfl, hB, hS, hne, hl, k⟩ := h
    have pos : 0 < xs.length := List.length_pos_iff.mpr hne
    refine ⟨_, pss_one (ps_ret (pe_ix ix_list (pv 1) (pe_call GT hr rfl mT FT.kp bT .nil pass0 (pa_cons (pv 0) (pa_cons (pe_callB call_len_seq (by rfl) T.len PySem.boot_len (pa_cons (pv 1) pa_nil)) pa_nil))) (fun _ _ => rfl))), ?_⟩
    refine ⟨_, rfl, _, rfl, _, rfl, a, _, rfl, .inl ((wo_sub H b).seq hS), b, _, rfl, hB, by omega, ?_, fun v H' h0 h1 hB' sb => ?_⟩
    · exact Nat.lt_of_le_of_lt (show ((xs.length : Int)).natAbs ≤ 1000000 by omega) (by decide)
    · have hi : v.toNat < xs.length := by omega
      have e : v = ((v.toNat : Nat) : Int) := by omega
      have hx : xs[v.toNat]? = some xs[v.toNat] := List.getElem?_eq_getElem hi
      obtain ⟨x, ex⟩ : ∃ x, xs[v.toNat]? = some x := ⟨_, hx⟩
      exact ⟨a, xs, v, x, rfl, rfl, (wo_sub H' b).seq (sb.sl hS), by rw [e]; exact atI_nat ex, k _ _ (List.mem_of_getElem? ex) hB' sb⟩
end
end Y

/-! NsD: how long the text of data is. -/
namespace Ns
open PySem PySem.Spec PyProof.Rows L2
/-- shown in at most m signs, nested at most k deep -/
def Fit (m k : Nat) (d : PyData) : Prop := d.showable = true ∧ d.shown.length ≤ m ∧ d.depth ≤ k
theorem Fit.mono {m m' k k' : Nat} {d : PyData} (h : Fit m k d) (hm : m ≤ m') (hk : k ≤ k') : Fit m' k' d := ⟨h.1, Nat.le_trans h.2.1 hm, Nat.le_trans h.2.2 hk⟩
theorem sum_le {m : Nat} : ∀ {l : List Nat}, (∀ n ∈ l, n ≤ m) → l.sum ≤ l.length * m
  | [], _ => Nat.zero_le _
  | n :: l, h => by
    have h1 := h n List.mem_cons_self
    have h2 := sum_le (l := l) fun k hk => h k (List.mem_cons_of_mem _ hk)
    rw [List.sum_cons, List.length_cons, Nat.succ_mul]
    omega
theorem depthAll_le {k : Nat} : ∀ {ds : List PyData}, (∀ d ∈ ds, d.depth ≤ k) → PyData.depthAll ds ≤ k
  | [], _ => by simp [PyData.depthAll]
  | d :: ds, h => by
    simp only [PyData.depthAll]
    exact Nat.max_le.mpr ⟨h d List.mem_cons_self, depthAll_le fun e he => h e (List.mem_cons_of_mem _ he)⟩
theorem mem_shown : ∀ {ds : List PyData} {t : Str}, t ∈ PyData.shownAll ds → ∃ d ∈ ds, t = d.shown
  | [], t, h => by rw [PyData.shownAll_nil] at h; exact nomatch h
  | d :: ds, t, h => by
    rw [PyData.shownAll_cons] at h
    rcases List.mem_cons.mp h with e | e
    · exact ⟨d, List.mem_cons_self, e⟩
    · obtain ⟨d', h1, h2⟩ := mem_shown e
      exact ⟨d', List.mem_cons_of_mem _ h1, h2⟩
theorem lens_le {m k : Nat} {ds : List PyData} (h : ∀ d ∈ ds, Fit m k d) : ((PyData.shownAll ds).map (·.length)).sum ≤ ds.length * m := by
  have e : ((PyData.shownAll ds).map (·.length)).length = ds.length := by rw [List.length_map, PyData.shownAll_length]
  have z := sum_le (l := (PyData.shownAll ds).map (·.length)) (m := m) fun n hn => by
    obtain ⟨t, ht, rfl⟩ := List.mem_map.mp hn
    obtain ⟨d, hd, rfl⟩ := mem_shown ht
    exact (h d hd).2.1
  rw [e] at z
  exact z
theorem fit_list {m k : Nat} {ds : List PyData} (h : ∀ d ∈ ds, Fit m k d) : Fit (ds.length * (m + 2) + 3) (k + 1) (.list ds) := by
  refine ⟨?_, ?_, ?_⟩
  · simp only [PyData.showable]
    exact showableAll_of fun d hd => (h d hd).1
  · simp only [PyData.shown]
    have z1 := listText_len_le (PyData.shownAll ds)
    have z2 := lens_le h
    rw [PyData.shownAll_length] at z1
    rw [Nat.mul_add]
    omega
  · have e : (PyData.list ds).depth = PyData.depthAll ds + 1 := by simp only [PyData.depth] <;> omega
    rw [e]
    exact Nat.succ_le_succ (depthAll_le fun d hd => (h d hd).2.2)
theorem fit_tuple {m k : Nat} {ds : List PyData} (h : ∀ d ∈ ds, Fit m k d) : Fit (ds.length * (m + 2) + 3) (k + 1) (.tuple ds) := by
  refine ⟨?_, ?_, ?_⟩
  · simp only [PyData.showable]
    exact showableAll_of fun d hd => (h d hd).1
  · simp only [PyData.shown]
    have z1 := tupleText_len_le (PyData.shownAll ds)
    have z2 := lens_le h
    rw [PyData.shownAll_length] at z1
    rw [Nat.mul_add]
    omega
  · have e : (PyData.tuple ds).depth = PyData.depthAll ds + 1 := by simp only [PyData.depth] <;> omega
    rw [e]
    exact Nat.succ_le_succ (depthAll_le fun d hd => (h d hd).2.2)
theorem kvs_le {m k : Nat} : ∀ {kvs : List (PyData × PyData)}, (∀ p ∈ kvs, Fit m k p.1 ∧ Fit m k p.2) → ((PyData.shownKv kvs).map (·.length)).sum ≤ kvs.length * (2 * m + 2) ∧ PyData.depthKv kvs ≤ k
  | [], _ => by simp [PyData.shownKv, PyData.depthKv]
  | (a, b) :: r, h => by
    obtain ⟨h1, h2⟩ := h (a, b) List.mem_cons_self
    obtain ⟨z1, z2⟩ := kvs_le (kvs := r) fun p hp => h p (List.mem_cons_of_mem _ hp)
    have e : (a.shown ++ ": " ++ b.shown).length = a.shown.length + 2 + b.shown.length := by
      rw [strLen_append, strLen_append]
      rfl
    have y1 := h1.2.1
    have y2 := h2.2.1
    refine ⟨?_, ?_⟩
    · rw [PyData.shownKv_cons, List.map_cons, List.sum_cons, List.length_cons, Nat.succ_mul, e]
      have y1' : a.shown.length ≤ m := y1
      have y2' : b.shown.length ≤ m := y2
      omega
    · have y3 : a.depth ≤ k := h1.2.2
      have y4 : b.depth ≤ k := h2.2.2
      simp only [PyData.depthKv]
      omega
theorem fit_dict {m k : Nat} {kvs : List (PyData × PyData)} (h : ∀ p ∈ kvs, Fit m k p.1 ∧ Fit m k p.2) : Fit (kvs.length * (2 * m + 4) + 3) (k + 1) (.dict kvs) := by
  obtain ⟨z1, z2⟩ := kvs_le h
  refine ⟨?_, ?_, ?_⟩
  · simp only [PyData.showable]
    exact showableKv_of fun p hp => ⟨(h p hp).1.1, (h p hp).2.1⟩
  · simp only [PyData.shown]
    have y := dictText_len_le (PyData.shownKv kvs)
    rw [PyData.shownKv_length] at y
    have e : kvs.length * (2 * m + 4) = kvs.length * (2 * m + 2) + 2 * kvs.length := by
      rw [Nat.mul_add, Nat.mul_add]
      omega
    omega
  · have e : (PyData.dict kvs).depth = PyData.depthKv kvs + 1 := by simp only [PyData.depth] <;> omega
    omega
theorem fit_int {i : Int} {n : Nat} (h0 : 0 < n) (h : i.natAbs < 10 ^ n) (hn : n ≤ 500) : Fit (n + 1) 0 (.int i) := by
  have z : (10 : Nat) ^ n < 2 ^ 1920 := Nat.lt_of_le_of_lt (Nat.pow_le_pow_right (by decide) hn) (by decide +kernel)
  refine ⟨decide_eq_true (log2_small (Nat.lt_trans h z)), ?_, by simp [PyData.depth]⟩
  rw [PyData.shown_int, PySem.ofString_length]
  exact int_text_length_le10 h0 h
/-- a datum is equal to itself -/
theorem eqv_self {K : PySem.W.Frag} {H : Hp} {x : V} {d : PyData} (D : DatV K H x d) (n : Nat) : EqV K H (n + 1) x x := by
  cases D with
  | non => exact .inl ⟨rfl, rfl⟩
  | bl b => exact .inl ⟨rfl, rfl⟩
  | int i => exact .inl ⟨rfl, rfl⟩
  | str y => exact .inl ⟨rfl, rfl⟩
  | lst _ _ => exact .inr (.inl ⟨_, rfl, rfl⟩)
  | tup _ _ => exact .inr (.inl ⟨_, rfl, rfl⟩)
  | dic _ _ => exact .inr (.inl ⟨_, rfl, rfl⟩)
theorem paired_rep {α β : Type} {F : α → β → Prop} {a : α} {b : β} (h : F a b) : ∀ n : Nat, Paired F (List.replicate n a) (List.replicate n b)
  | 0 => .nil
  | n + 1 => .cons h (paired_rep h n)
theorem datA_rep {K : PySem.W.Frag} {H : Hp} {x : V} {d : PyData} (D : DatV K H x d) : ∀ n : Nat, DatA K H (List.replicate n x) (List.replicate n d)
  | 0 => .nil
  | n + 1 => .cons D (datA_rep D n)
end Ns

/-! NsE: == of equal nested lists, tuples and dicts. -/
namespace Ns
open PySem PySem.Spec PyProof.Rows L2
/-- two tuples of equal items -/
def EqU (K : PySem.W.Frag) (H : Hp) (E : V → V → Prop) (x y : V) : Prop := ∃ a b xs ys, x = .ref a ∧ y = .ref b ∧ SqT K H a xs ∧ SqT K H b ys ∧ Paired E xs ys
/-- equal, of nesting below n, tuples too -/
def EqT (K : PySem.W.Frag) (H : Hp) : Nat → V → V → Prop
  | 0 => fun _ _ => False
  | n + 1 => fun x y => (x = y ∧ flatB x = true) ∨ (∃ a, x = .ref a ∧ y = .ref a) ∨ EqR K H (EqT K H n) x y ∨ EqU K H (EqT K H n) x y
section
variable {X : Cx} {pins : List (Addr × Obj)} {σ : L2.St} {H : Hp} {s : Shared}
theorem eqU_run (I : Inv X pins σ H s) {A : Around} {F : V → V → Prop} (hu : A.units < cLine) (ih : ∀ x y v u, F x y → RelV x v → RelV y u → SeqAt.EqP X.prog X.w A.in1 s v u true) {x y : V} {v u : Value} (h : EqU X.K H F x y) (rx : RelV x v) (ry : RelV y u)
    (E Q : Value → Shared → Prop) (q : Q (.bool true) s) : wpAny (model X.prog X.w) A (richCompare .Eq v u) Q E s := by
  obtain ⟨a, b, xs, ys, rfl, rfl, ha, hb, hp⟩ := h
  cases (show v = Value.ref a from rx)
  cases (show u = Value.ref b from ry)
  obtain ⟨us, r1, ⟨o1, h1, h2, n1, h3⟩, _⟩ := I.tuple ha
  obtain ⟨ws, r2, ⟨o2, g1, g2, n2, g3⟩, _⟩ := I.tuple hb
  have hsz : us.toArray.size = ws.toArray.size := by
    rw [List.size_toArray, List.size_toArray, ← r1.length, ← r2.length]
    exact Paired.length hp
  refine SeqAt.rcIn_tuples (e := fun _ => true) ⟨o1, h1, h2, n1, h3⟩ ⟨o2, g1, g2, n2, g3⟩ hu (fun j h1 h2 => ?_) ?_
  · have k := items_run ih hp r1 r2 j (by simpa using h1) (by simpa using h2)
    simp only [List.getElem_toArray]
    exact fun E Q q => k E Q q
  · rw [hsz, show ((List.range (min ws.toArray.size ws.toArray.size)).all fun _ => true) = true from List.all_eq_true.mpr fun _ _ => rfl]
    simpa using q
theorem eqT_run (I : Inv X pins σ H s) : ∀ (n : Nat) (A : Around), A.units + n < cLine → ∀ (x y : V) (v u : Value), EqT X.K H n x y → RelV x v → RelV y u → SeqAt.EqP X.prog X.w A s v u true
  | 0, _, _, _, _, _, _, h, _, _ => (show False from h).elim
  | n + 1, A, hu, x, y, v, u, h, rx, ry => by
    have ih := eqT_run I n A.in1 (by show A.units + 1 + n < cLine; omega)
    rcases h with ⟨rfl, f⟩ | ⟨a, rfl, rfl⟩ | h | h
    · exact (eqAt_same rx ry f).eqP
    · cases (show v = Value.ref a from rx)
      cases (show u = Value.ref a from ry)
      exact (SeqAt.EqAt.same _).eqP
    · have step := eqR_run I (A := A) (by omega) ih h rx ry
      obtain ⟨a, b, rfl, rfl⟩ : ∃ a b, x = .ref a ∧ y = .ref b := by
        rcases h with ⟨a, b, _, _, e1, e2, _⟩ | ⟨a, b, _, _, e1, e2, _⟩
        · exact ⟨a, b, e1, e2⟩
        · exact ⟨a, b, e1, e2⟩
      cases (show v = Value.ref a from rx)
      cases (show u = Value.ref b from ry)
      by_cases e : a = b
      · subst e
        exact (SeqAt.EqAt.same _).eqP
      · exact SeqAt.eqP_refs e step
    · have step := eqU_run I (A := A) (by omega) ih h rx ry
      obtain ⟨a, b, _, _, rfl, rfl, _⟩ := h
      cases (show v = Value.ref a from rx)
      cases (show u = Value.ref b from ry)
      by_cases e : a = b
      · subst e
        exact (SeqAt.EqAt.same _).eqP
      · exact SeqAt.eqP_refs e step
end
/-- flat, or a list, a tuple, a dict, the two of them equal -/
def EqS (K : PySem.W.Frag) (H : Hp) (n : Nat) (x y : V) : Prop := EqR K H (EqT K H n) x y ∨ EqU K H (EqT K H n) x y
section
variable {X : Cx}
/-- a == b, equal: flat ones, or lists, tuples, dicts -/
def rEqT (K : PySem.W.Frag) : R2 := fun x y H Q => ((x = y ∧ ((∃ i, x = .int i) ∨ (∃ z, x = .str z) ∨ x = .non ∨ ∃ b, x = .bl b)) ∨ ∃ n, n ≤ 60 ∧ EqS K H n x y) ∧ Q (.bl true) H
theorem op_eqT (hu : X.A.units + 64 < cLine) : OpR X (compareOp .Eq) (rEqT X.K) := by
  intro pins s σ H x y v u Q I rx ry h
  obtain ⟨h, q⟩ := h
  have qq : EP X pins σ Q (Value.bool true) s := ⟨.bl true, H, I, rfl, q⟩
  rcases h with ⟨rfl, ⟨i, rfl⟩ | ⟨z, rfl⟩ | rfl | ⟨b, rfl⟩⟩ | ⟨n, hn, h | h⟩
  · obtain ⟨t, rfl⟩ := (show ∃ t, v = Value.int i t from rx)
    obtain ⟨t', rfl⟩ := (show ∃ t, u = Value.int i t from ry)
    exact SeqAt.RcAt.int_int i t i t' _ _ _ _ (by rw [beq_self_eq_true]; exact qq)
  · obtain ⟨t, rfl⟩ := (show ∃ t, v = Value.str z t from rx)
    obtain ⟨t', rfl⟩ := (show ∃ t, u = Value.str z t from ry)
    exact SeqAt.RcAt.str_str z t z t' _ _ _ _ (by rw [beq_self_eq_true]; exact qq)
  · cases (show v = Value.none from rx)
    cases (show u = Value.none from ry)
    exact SeqAt.RcAt.none_none _ _ _ _ qq
  · cases (show v = Value.bool b from rx)
    cases (show u = Value.bool b from ry)
    exact SeqAt.RcAt.bool_bool b b _ _ _ _ (by rw [beq_self_eq_true]; exact qq)
  · exact eqR_run I (A := X.A) (by omega) (eqT_run I n X.A.in1 (by show X.A.units + 1 + n < cLine; omega)) h rx ry _ _ qq
  · exact eqU_run I (A := X.A) (by omega) (eqT_run I n X.A.in1 (by show X.A.units + 1 + n < cLine; omega)) h rx ry _ _ qq
end
end Ns

namespace Y
open PySem PySem.Spec PyProof.Rows L2 Ns
/-- equal data: True -/
def spAlike (K : PySem.W.Frag) : Sp := fun as H Q _ => ∃ (x y : V) (d : PyData), as = [x, y] ∧ ((x = y ∧ ((∃ i, x = .int i) ∨ (∃ z, x = .str z) ∨ x = .non ∨ ∃ b, x = .bl b)) ∨ ∃ n, n ≤ 60 ∧ EqS K H n x y) ∧ DatV K H x d ∧ DatV K H y d ∧ d.showable = true ∧ d.shown.length ≤ sizeLine ∧ d.depth ≤ 60 ∧ Q (.bl true) H
section
variable {P : Program} {w : World} {K : PySem.W.Frag} {mg : Str → Option Value} {base : Heap}
theorem scA : FnScope ["found", "due"] ["found", "due"] (defScope sAlike) := ⟨rfl, rfl, rfl, by decide +kernel, rfl, by decide +kernel, by decide +kernel⟩
theorem ok_alike {f : Addr} {fd : FuncData} (F : Fun K "_law_alike" "_law_alike" sAlike f fd) (T : Nat0 mg) : GnOk P w K mg base 1 f fd ["found", "due"] (spAlike K) := by
  refine Fun.okG F scA (fun as H Q E h => ?_) (fun cdv A outer s H as Q E hr hgd h => ?_)
  · obtain ⟨x, y, d, rfl, _⟩ := h
    rfl
  · obtain ⟨x, y, d, rfl, he, dx, dy, hs, hz, hd, k⟩ := h
    have hu : (A.deeper (envOfC "_law_alike" (defScope sAlike) s.heap.objs.size f cdv)).units + 64 < cLine := hr.units
    refine ⟨_, pss_one (ps_ret (pe_and (pe_cmpR (op_eqT hu) (pv 0) (pv 1) (nomark _)) (pe_one (pe_cmpR op_eq
      (pe_callB (call_reprD hgd hu) (by rfl) T.repr (by decide +kernel) (pa_cons (pv 0) pa_nil)) (pe_callB (call_reprD hgd hu) (by rfl) T.repr (by decide +kernel) (pa_cons (pv 1) pa_nil)) (nomark _))))), ?_⟩
    refine ⟨_, rfl, _, rfl, he, true, rfl, ?_⟩
    refine iteT ?_
    refine ⟨_, rfl, x, d, rfl, dx, hs, hz, hd, _, rfl, y, d, rfl, dy, hs, hz, hd, rfl, ?_⟩
    rw [decide_eq_true rfl]
    exact k
end
end Y

/-! NsS: sorted(xs) of data that are alike; sorted(d), d with pairs of texts as keys. -/
namespace Ns
open PySem PySem.Spec PyProof.Rows L2
open PySem.W (dataLe AllAlike Sortable EachIs)
section
variable {X : Cx}
theorem each_vals {bs : List (V × PyData)} : ∀ {out : List Value}, EachIs (fun v (b : V × PyData) => RelV b.1 v) out bs → Vals (bs.map (·.1)) out
  | _, .nil => .nil
  | _, .cons h t => .cons h (each_vals t)
theorem vals_each {bs : List (V × PyData)} : ∀ {us : List Value}, Vals (bs.map (·.1)) us → EachIs (fun v (b : V × PyData) => RelV b.1 v) us bs := by
  induction bs with
  | nil => intro us r; cases r; exact .nil
  | cons b bs ih => intro us r; cases r with
    | cons h t => exact .cons h (ih t)
theorem each_and {α β : Type} {R S : α → β → Prop} : ∀ {as : List α} {bs : List β}, EachIs R as bs → (∀ b ∈ bs, ∀ a, R a b → S a b) → EachIs S as bs
  | _, _, .nil, _ => .nil
  | _, _, .cons h t, k => .cons (k _ List.mem_cons_self _ h) (each_and t fun b hb => k b (List.mem_cons_of_mem _ hb))
/-- sorted(xs): alike data in Python's order -/
def rSortG (K : PySem.W.Frag) : List V → Hp → VK → Prop := fun vs H Q => ∃ (a : Addr) (bs : List (V × PyData)), vs = [V.ref a] ∧ SqL K H a (bs.map (·.1)) ∧ (∀ p ∈ bs, DatV K H p.1 p.2 ∧ p.2.depth ≤ 60) ∧ AllAlike (bs.map (·.2)) ∧ Sortable (bs.map (·.2)) ∧ bs.length ≤ sizeLine ∧
  ∀ p, H p = none → Q (.ref p) (upd H p (.lst ((bs.mergeSort (dataLe false (·.2))).map (·.1))))
theorem cr_sortG (hu : X.A.units + 64 < cLine) : CallR X (.builtin "sorted") (rSortG X.K) := by
  intro pins s σ H vs us Q I r h
  obtain ⟨a, bs, rfl, hs, hD, ha, hk, hz, q⟩ := h
  obtain ⟨its, rv, hl, _⟩ := I.list hs
  rw [Vals.ref1 r]
  have e := vals_each rv
  refine PySem.W.sorted_data (enc := fun b : V × PyData => b.2) hl.isList e (each_and e fun b hb v rb => reads_of I (hD b hb).1 rb) ha hk hz (fun b hb => by have := (hD b hb).2; omega) fun out hlo ho => ?_
  obtain ⟨ep, he'⟩ := PyProof.Rows.sortedAll_at s.heap its out.toArray
  have hlen : ((bs.mergeSort (dataLe false (·.2))).map (·.1)).length ≤ sizeLine := by rw [List.length_map, List.length_mergeSort]; exact hz
  exact ⟨.ref _, upd H (s.heap.objs.size + 1) (.lst ((bs.mergeSort (dataLe false (·.2))).map (·.1))), I.laid (t' := s.toks) (fun _ _ => PyProof.Rows.sortedAll_old) (Nat.le_succ _) ⟨hlen, out, ep, each_vals ho, by simpa using he'⟩, rfl, q _ (I.hok.fresh (Nat.le_succ _))⟩
/-- two rows of one length that agree at each place -/
theorem rows_same {α β : Type} {f : α → β} : ∀ {xs : List β} {ks : List α}, xs.length = ks.length → (∀ (j : Nat) (v : β) (b : α), xs[j]? = some v → ks[j]? = some b → v = f b) → xs = ks.map f
  | [], [], _, _ => rfl
  | v :: xs, b :: ks, hl, h => by
    rw [List.map_cons, h 0 v b rfl rfl, rows_same (Nat.succ.inj hl) fun j u c h1 h2 => h (j + 1) u c h1 h2]
/-- a pair of texts as data -/
def pD (k : Str × Str) : PyData := .tuple [.str k.1, .str k.2]
def pK (k : Str × Str) : List Key := [.inr k.1, .inr k.2]
/-- sorted(d), d with pairs of texts as keys: the keys' own tuples -/
def rSortDT : List V → Hp → VK → Prop := fun vs H Q => ∃ (a : Addr) (kvs : List (List Key × V)) (ks : List (Str × Str)), vs = [V.ref a] ∧ Rd H a (.dT kvs) ∧ kvs.map (·.1) = ks.map pK ∧ ks.length ≤ 1000 ∧
  ∀ (p : Addr) (qs : List Addr), H p = none → Paired (fun (q : Addr) (k : Str × Str) => H q = some (.tup [.str k.1, .str k.2])) qs (ks.mergeSort (dataLe false pD)) → Q (.ref p) (upd H p (.lst (qs.map V.ref)))
theorem isKeys_pairs {H : Hp} : ∀ {kvs : List (List Key × V)} {bs : List Addr} {ks : List (Str × Str)}, IsKeys H kvs bs → kvs.map (·.1) = ks.map pK → Paired (fun (q : Addr) (k : Str × Str) => H q = some (.tup [.str k.1, .str k.2])) bs ks
  | [], _, [], .nil, _ => .nil
  | [], _, _ :: _, _, e => by cases e
  | _ :: _, _, [], _, e => by cases e
  | kv :: kvs, _, k :: ks, .cons h t, e => by
    injection e with e1 e2
    refine .cons ?_ (isKeys_pairs t e2)
    rw [show kv.1 = pK k from e1] at h
    exact h
theorem pair_each {R : Addr → Str × Str → Prop} : ∀ {qs : List Addr} {ks : List (Str × Str)}, Paired R qs ks → EachIs (fun v k => ∃ q, v = Value.ref q ∧ R q k) (qs.map Value.ref) ks
  | _, _, .nil => .nil
  | _, _, .cons h t => .cons ⟨_, rfl, h⟩ (pair_each t)
theorem each_pair {R : Addr → Str × Str → Prop} : ∀ {out : List Value} {ks : List (Str × Str)}, EachIs (fun v k => ∃ q, v = Value.ref q ∧ R q k) out ks → ∃ qs : List Addr, out = qs.map Value.ref ∧ Paired R qs ks
  | _, _, .nil => ⟨[], rfl, .nil⟩
  | _, _, .cons ⟨q, e, h⟩ t => by
    obtain ⟨qs, e2, p⟩ := each_pair t
    exact ⟨q :: qs, by rw [e, e2]; rfl, .cons h p⟩
theorem alike_pD (ks : List (Str × Str)) : AllAlike (ks.map pD) := AllAlike.of fun _ _ => by simp [PySem.W.alike, PySem.W.alikeAll, pD]
theorem sortable_pD (ks : List (Str × Str)) : Sortable (ks.map pD) := Sortable.tuples fun _ => ⟨_, _, rfl⟩
theorem cr_sortDT (hc : X.calm = true) (hu : X.A.units + 64 < cLine) : CallR X (.builtin "sorted") rSortDT := by
  intro pins s σ H xs us Q I r h
  obtain ⟨d, kvs, kk, rfl, hd, hkk, h1000, q⟩ := h
  obtain ⟨u, rfl, rx⟩ := r.one
  cases rx
  obtain ⟨z, hs, ks, pr, o, es, ep, ho, hx, hdt, he, hn⟩ := (show ObjOk X.prog X.w H s.heap d (.dT kvs) from hd.ok I.hok)
  have l1 : es.size = ks.length := size_of_entries he
  have l2 : kvs.length = ks.length := Paired.length pr
  have l3 : kvs.length = kk.length := by
    have := congrArg List.length hkk
    rw [List.length_map, List.length_map] at this
    exact this
  have z16 : sizeLine = 16777216 := sizeLine_eq
  refine Calls.call_function_entry PyProof.Rows.kind_sorted PyProof.Rows.plain_sorted PyProof.Rows.entry_sorted (PyProof.Rows.args_sorted1 _) ?_
  unfold Builtin.«sorted»
  refine wpAny_bind (m := checkCount "sorted" 1 1 _) (wpAny_pure ?_)
  refine wpAny_bind (PySem.W.kdu_collect (A := X.A.in1) (kdl_raw hs hx hdt) (I.ok.hd hc) ho (by omega) fun h' tk acc hk it => ?_)
  have hsz : acc.toList.length = ks.length := (Array.length_toList).trans (it.1.trans l1)
  have ea : acc.toList = ks.map fun x => Value.ref x.2.1 := by
    refine rows_same hsz fun j v b hv hb => ?_
    obtain ⟨en, hen, rfl⟩ := it.2 j v ((Array.getElem?_toList).symm.trans hv)
    have q := (entry_at he j).symm.trans hen
    rw [hb] at q
    cases q
    rfl
  have eb : acc.toList = (ks.map fun x => x.2.1).map Value.ref := by rw [ea, List.map_map]; all_goals rfl
  have hP := isKeys_pairs (isKeys_of pr) hkk
  have hal : acc.toList.length = kk.length := by rw [Array.length_toList, it.1, l1, ← l2, l3]
  have I1 : Inv X pins σ H { s with heap := h', toks := tk } := I.kept hk
  refine wpAny_bind (wpAny_newList ?_ (by rw [hal]; omega))
  have hoL : (h'.push (seqObj "list" acc.toList.toArray 0)).get? h'.objs.size = some (seqObj "list" acc.toList.toArray 0) := Heap.get?_push_size _ rfl
  show wpAny _ _ _ _ _ { s with heap := h'.push (seqObj "list" acc.toList.toArray 0), toks := tk }
  have e0 : EachIs (fun v (k : Str × Str) => ∃ q, v = Value.ref q ∧ H q = some (.tup [.str k.1, .str k.2])) acc.toList kk := by
    rw [eb]
    exact pair_each hP
  refine wpAny_bind (wpAny_holding (PySem.W.list_sort_data (enc := pD) (s := { s with heap := h'.push (seqObj "list" acc.toList.toArray 0), toks := tk }) hoL e0 (each_and e0 fun k _ v rv => ?_) (alike_pD kk) (sortable_pD kk) (by omega) (fun k _ => ?_) fun out hlo hO => ?_))
  · obtain ⟨q, rfl, hq⟩ := rv
    obtain ⟨_, its, rv2, ot, hot, hct, nt, hdtt⟩ := (show ObjOk X.prog X.w H h' q (.tup [.str k.1, .str k.2]) from I1.hok q _ hq)
    obtain ⟨u1, u2, rfl, r1, r2⟩ := rv2.two
    obtain ⟨t1, rfl⟩ := r1
    obtain ⟨t2, rfl⟩ := r2
    refine ⟨[], Reads.tuple (Heap.get?_push_of_some _ hot) hct hdtt ?_, fun z => nomatch z⟩
    exact ReadsAll.cons (as := []) (bs := []) (.str _ _) (ReadsAll.cons (as := []) (bs := []) (.str _ _) .nil)
  · have : (pD k).depth = 1 := by simp [pD, PyData.depth, PyData.depthAll]
    show X.A.units + 1 + 1 + _ < _
    omega
  · obtain ⟨qs, eo, pq⟩ := each_pair hO
    obtain ⟨e', he'⟩ := PyProof.Rows.sortedHeap_at (vs := acc.toList) (out := out.toArray) hoL
    have hlen : (qs.map V.ref).length ≤ sizeLine := by
      have : out.length = qs.length := by rw [eo, List.length_map]
      rw [List.length_map]
      omega
    refine wpAny_pure ⟨_, rfl, .ref h'.objs.size, upd H h'.objs.size (.lst (qs.map V.ref)), I1.laid (t' := tk) (fun b u e => ?_) (Nat.le_refl _)
      (show ObjOk X.prog X.w _ _ _ (.lst (qs.map V.ref)) from ⟨hlen, out, e', by rw [eo]; exact vals_refs qs, by simpa using he'⟩), rfl, q _ qs (I1.hok.fresh (Nat.le_refl _)) pq⟩
    have hb : b < h'.objs.size := Heap.lt_size e
    rw [PyProof.Rows.sortedHeap_old (Nat.ne_of_lt hb) (by rw [size_push']; exact Nat.lt_succ_of_lt hb)]
    exact Heap.get?_push_of_some _ e
end
end Ns

/-! NsU: d.update(e), two dicts; the values and the items of a dict. -/
namespace Ns
open PySem PySem.Spec PyProof.Rows L2
open L2.DX (itemsO itemsO_ok takeT)
theorem mergeK_len : ∀ (more kvs : List (Key × V)), (mergeK kvs more).length ≤ kvs.length + more.length
  | [], kvs => Nat.le_refl _
  | p :: more, kvs => by
    have h1 := mergeK_len more (putK kvs p.1 p.2)
    have h2 := length_putK kvs p.1 p.2
    show (mergeK (putK kvs p.1 p.2) more).length ≤ _
    rw [List.length_cons]
    omega
section
variable {X : Cx}
def rDUpd : V → List V → Hp → VK → Prop := fun x xs H Q => ∃ (a b : Addr) (kvs more : List (Key × V)), x = .ref a ∧ xs = [.ref b] ∧ a ≠ b ∧ H a = some (.dK kvs) ∧ H b = some (.dK more) ∧ kvs.length + more.length ≤ sizeLine ∧ Q .non (upd H a (.dK (mergeK kvs more)))
theorem mt_dupd : MtR X "dict.update" rDUpd := by
  intro pins s σ H x xs v us Q I rx rxs h
  obtain ⟨a, b, kvs, more, rfl, rfl, hab, ha, hb, hz, q⟩ := h
  cases rx
  obtain ⟨u, rfl, ru⟩ := vals1 rxs
  cases ru
  obtain ⟨_, da, va, ka, oa⟩ := dk_of I.hok ha
  obtain ⟨_, db, vb, kb, ob⟩ := dk_of I.hok hb
  have lens : va.length + vb.length ≤ sizeLine := by rw [← ka.length, ← kb.length]; exact hz
  refine call_meetsIn PySem.F.slot_dict_update oa.typeIs PySem.F.entry_dict_update (PySem.F.args_dict_update_2 _ _) (meets_dict_update (mixKind X.prog X.w) a b hab db) ⟨va, vb, oa, ob, lens, fun h' m1 _ sb => ?_⟩
  have there : ∃ q, h'.get? a = some q := by
    obtain ⟨q, _, _, hq, _⟩ := m1
    exact ⟨q, hq⟩
  exact ⟨.non, _, d_write (t' := s.toks) I (by rw [ha]; trivial) sb there (dk_new (Nat.le_trans (mergeK_len more kvs) hz) da (KV.merge kb ka) m1), rfl, q⟩
/-- the view d.values() at p -/
def valsO (p d : Addr) : HO := .ext fun h => h.IsValuesView p d
theorem valsO_ok {P : Program} {w : World} {H : Hp} {h : Heap} {p d : Addr} (e : h.get? p = some { cls := .type "dict_values", data := .fields #[.ref d] }) : ObjOk P w H h p (valsO p d) :=
  ⟨⟨_, e, rfl, rfl⟩, ⟨_, e⟩, fun h1 h2 x k => by
    obtain ⟨o, ho, r⟩ := x
    exact ⟨o, k o ho, r⟩⟩
def rItemsK : V → List V → Hp → VK → Prop := fun x xs H Q => ∃ (a : Addr) (kvs : List (Key × V)), x = .ref a ∧ xs = [] ∧ H a = some (.dK kvs) ∧ ∀ p, H p = none → Q (.ref p) (upd H p (itemsO p a))
def rValsK : V → List V → Hp → VK → Prop := fun x xs H Q => ∃ (a : Addr) (kvs : List (Key × V)), x = .ref a ∧ xs = [] ∧ H a = some (.dK kvs) ∧ ∀ p, H p = none → Q (.ref p) (upd H p (valsO p a))
theorem mt_itemsK : MtR X "dict.items" rItemsK := by
  intro pins s σ H x xs v us Q I rx rxs h
  obtain ⟨a, kvs, rfl, rfl, ha, q⟩ := h
  cases rx
  cases rxs
  obtain ⟨_, da, va, ka, oa⟩ := dk_of I.hok ha
  refine call_meetsIn PySem.F.slot_dict_items oa.typeIs PySem.F.entry_dict_items (PySem.F.args_dict_items_1 _) (meets_dict_items (mixKind X.prog X.w) a da) ⟨⟨va, oa⟩, ?_⟩
  exact ⟨.ref s.heap.objs.size, upd H s.heap.objs.size (itemsO s.heap.objs.size a), I.laid (t' := s.toks) (fun b u e => Heap.get?_push_of_some _ e) (Nat.le_refl _) (itemsO_ok (Heap.get?_push_size _ rfl)), rfl, q _ (I.hok.fresh (Nat.le_refl _))⟩
theorem mt_valsK : MtR X "dict.values" rValsK := by
  intro pins s σ H x xs v us Q I rx rxs h
  obtain ⟨a, kvs, rfl, rfl, ha, q⟩ := h
  cases rx
  cases rxs
  obtain ⟨_, da, va, ka, oa⟩ := dk_of I.hok ha
  refine call_meetsIn PySem.F.slot_dict_values oa.typeIs PySem.F.entry_dict_values (PySem.F.args_dict_values_1 _) (meets_dict_values (mixKind X.prog X.w) a da) ⟨⟨va, oa⟩, ?_⟩
  exact ⟨.ref s.heap.objs.size, upd H s.heap.objs.size (valsO s.heap.objs.size a), I.laid (t' := s.toks) (fun b u e => Heap.get?_push_of_some _ e) (Nat.le_refl _) (valsO_ok (Heap.get?_push_size _ rfl)), rfl, q _ (I.hok.fresh (Nat.le_refl _))⟩
/-- sum(d.values()), whole numbers -/
def rSumVals : List V → Hp → VK → Prop := fun xs H Q => ∃ (p a : Addr) (kvs : List (Key × V)) (ns : List Int), xs = [.ref p] ∧ H p = some (valsO p a) ∧ H a = some (.dK kvs) ∧ kvs.map (·.2) = ns.map V.int ∧ Q (.int ns.sum) H
theorem preSum_eq : ∀ ns : List Int, preSum (fun i => ns.getD i 0) ns.length = ns.sum
  | [] => rfl
  | n :: ns => by
    rw [List.length_cons, PySem.W.kdu_shift]
    have ih := preSum_eq ns
    show n + preSum (fun i => ns.getD i 0) ns.length = _
    rw [ih, List.sum_cons]
theorem vals_num {ns : List Int} : ∀ {us : List Value}, Vals (ns.map V.int) us → ∀ (j : Nat) (u : Value), us[j]? = some u → ∃ t, u = .int (ns.getD j 0) t := by
  induction ns with
  | nil => intro us r j u h; cases r; cases h
  | cons n ns ih =>
    intro us r j u h
    cases r with
    | cons a b =>
      cases j with
      | zero =>
        cases h
        exact a
      | succ j => exact ih b j u h
theorem call_sumVals (hc : X.calm = true) : CallR X (.builtin "sum") rSumVals := by
  intro pins s σ H xs us Q I r h
  obtain ⟨p, a, kvs, ns, rfl, hp, ha, hn, q⟩ := h
  obtain rfl := Vals.ref1 r
  have view : s.heap.IsValuesView p a := (show ObjOk X.prog X.w H s.heap p (valsO p a) from I.hok p _ hp).1
  obtain ⟨_, da, va, ka, oa⟩ := dk_of I.hok ha
  obtain ⟨ep, hat⟩ := oa.dictAt
  have src := PySem.W.kdl_values (prog := X.prog) (w := X.w) (knd := mixKind X.prog X.w) (kvs := va) (ep := ep) (r := p) (d := a)
  have ok : s.heap.IsValuesView p a ∧ s.heap.DictAt (mixKind X.prog X.w) a va ep := ⟨view, hat⟩
  have nums := kv_vals ka
  rw [hn] at nums
  have ln : va.length = ns.length := by
    have := nums.length
    rw [List.length_map, List.length_map] at this
    exact this.symm
  refine call_sum_walkAnyS ?_
  obtain ⟨ob, St, step, W, st⟩ := src.iter X.A.in1 s (I.ok.hd hc) ok
  refine step _ _ ⟨s.heap.objs.size, _, _, _, va.length, _, _, fun i => ns.getD i 0, rfl, W.toS, st, fun b hb => ?_, fun i v hv => ?_, fun s' t' hm => ?_⟩
  · have there := src.there _ ok
    have up : s.heap.objs.size < (s.heap.push ob).objs.size := by rw [size_push']; omega
    rcases List.mem_cons.mp hb with e | e
    · rw [e]; exact up
    · rw [List.mem_singleton.mp e]
      exact Nat.lt_trans there.2 up
  · obtain ⟨k, hk⟩ := hv
    exact vals_num nums i v (by rw [List.getElem?_map, hk]; rfl)
  · have kept : ∀ b o, s.heap.get? b = some o → s'.heap.get? b = some o := fun b o e => by
      refine hm.heap b o (fun z => ?_) (Heap.get?_push_of_some _ e)
      have := Heap.lt_size e
      rw [List.mem_singleton.mp z] at this
      exact Nat.lt_irrefl _ this
    rw [Moved.eq_with hm, ln, preSum_eq]
    exact ⟨.int ns.sum, H, I.kept kept, ⟨_, rfl⟩, q⟩
/-- list(d.items()): new pairs -/
def rListItems : List V → Hp → VK → Prop := fun xs H Q => ∃ (p a : Addr) (kvs : List (Key × V)), xs = [.ref p] ∧ H p = some (itemsO p a) ∧ H a = some (.dK kvs) ∧
  ∀ (l : Addr) (ts : List Addr) (H' : Hp), H l = none → Same H H' → H' l = some (.lst (ts.map V.ref)) → Paired (fun (t : Addr) (kv : Key × V) => H' t = some (.tup [kV kv.1, kv.2]) ∧ H t = none) ts kvs → Q (.ref l) H'
theorem key_rel {P : Program} {w : World} {k : Key} {u : Value} (h : (mixKind P w).is k u = true) : RelV (kV k) u := by
  rcases keyIs_shape (show keyIs k u = true from h) with ⟨i, t, rfl, rfl⟩ | ⟨x, t, rfl, rfl⟩
  · exact ⟨t, rfl⟩
  · exact ⟨t, rfl⟩
theorem kv_at : ∀ {ks : List (Key × V)} {vs : List (Key × Value)}, KV ks vs → ∀ {j : Nat} {k : Key} {x : Value}, vs[j]? = some (k, x) → ∃ v, ks[j]? = some (k, v) ∧ RelV v x
  | _, _, .cons (a := a) h t, 0, k, x, e => by
    cases e
    obtain ⟨h1, h2⟩ := h
    have h1' : a.1 = k := h1
    exact ⟨a.2, by rw [← h1']; rfl, h2⟩
  | _, _, .cons h t, j + 1, k, x, e => kv_at t e
theorem pair_rows {R : Addr → Key × V → Prop} : ∀ {ts : List Addr} {kvs : List (Key × V)}, ts.length = kvs.length → (∀ (j : Nat) (t : Addr) (kv : Key × V), ts[j]? = some t → kvs[j]? = some kv → R t kv) → Paired R ts kvs
  | [], [], _, _ => .nil
  | t :: ts, kv :: kvs, hl, h => .cons (h 0 t kv rfl rfl) (pair_rows (Nat.succ.inj hl) fun j a b h1 h2 => h (j + 1) a b h1 h2)
theorem call_listItems (hc : X.calm = true) : CallR X (.type "list") rListItems := by
  intro pins s σ H xs us Q I r h
  obtain ⟨p, a, kvs, rfl, hp, ha, q⟩ := h
  obtain rfl := Vals.ref1 r
  have view : s.heap.IsItemsView p a := (show ObjOk X.prog X.w H s.heap p (itemsO p a) from I.hok p _ hp).1
  obtain ⟨hz, da, va, ka, oa⟩ := dk_of I.hok ha
  obtain ⟨ep, hat⟩ := oa.dictAt
  have lv : kvs.length = va.length := ka.length
  refine PySem.W.kdx_call (I.ok.hd hc) view hat (by rw [← lv]; exact hz) fun h' tk acc c ts kept hS hl hG hacc => ?_
  have nd : ts.Nodup := List.Pairwise.imp (fun h => Nat.ne_of_lt h) hG.rise
  have fr : H s.heap.objs.size = none := I.hok.fresh (Nat.le_refl _)
  have lz : (ts.map V.ref).length ≤ sizeLine := by rw [List.length_map, hl, ← lv]; exact hz
  have I1 : Inv X pins σ (upd H s.heap.objs.size (.lst (ts.map V.ref))) { s with heap := h', toks := tk } :=
    I.laid (t' := tk) kept (Nat.le_refl _) ⟨lz, acc.toList, c, by rw [hacc]; exact vals_refs ts, by rw [Array.toArray_toList]; exact hS⟩
  have made : ∀ (j : Nat) (t : Addr), ts[j]? = some t → ∃ (k : Key) (v : V), kvs[j]? = some (k, v) ∧ ∀ H2, ObjOk X.prog X.w H2 h' t (.tup [kV k, v]) := fun j t ht => by
    obtain ⟨key, k, x, e1, e2, e3⟩ := hG.pairs j t ht
    obtain ⟨v, e4, rv⟩ := kv_at ka e1
    exact ⟨k, v, e4, fun H2 => ⟨(by rw [sizeLine_eq]; show 2 ≤ 16777216; omega), [key, x], .cons (key_rel e2) (.cons rv .nil), ⟨_, e3, rfl, 0, rfl⟩⟩⟩
  obtain ⟨H2, I3, g, qt⟩ := takeT (P := fun t vs => ∃ (j : Nat) (k : Key) (v : V), ts[j]? = some t ∧ kvs[j]? = some (k, v) ∧ vs = [kV k, v]) I ts _ I1 nd fun t ht => by
    obtain ⟨j, hj⟩ := List.mem_iff_getElem?.mp ht
    obtain ⟨k, v, e1, e2⟩ := made j t hj
    have above := hG.above t ht
    exact ⟨Nat.le_of_lt above, by rw [upd_ne (Nat.ne_of_gt above)]; exact I.hok.fresh (Nat.le_of_lt above), [kV k, v], ⟨j, k, v, hj, e1, rfl⟩, e2⟩
  refine ⟨.ref s.heap.objs.size, H2, I3, rfl, q _ ts H2 fr (fun b o e => g b o (by rw [upd_ne (ne_of_none e fr)]; exact e)) (g _ _ upd_same) (pair_rows (by rw [hl, lv]) fun j t kv h1 h2 => ?_)⟩
  obtain ⟨vs, ⟨i, k, v, e1, e2, rfl⟩, e3⟩ := qt t (List.mem_of_getElem? h1)
  have ij : i = j := (List.getElem?_inj (List.getElem?_eq_some_iff.mp e1).1 nd).mp (e1.trans h1.symm)
  rw [ij, h2] at e2
  cases e2
  exact ⟨e3, I.hok.fresh (Nat.le_of_lt (hG.above t (List.mem_of_getElem? h1)))⟩
end
end Ns

/-! NsI: set(xs) of whole numbers, xs a list. -/
namespace Ns
open PySem PySem.Spec PyProof.Rows L2
/-- a set as it is made -/
abbrev setN (w : World) : Obj := { cls := .type "set", dict := none, data := .set #[] 0 (.fresh 0 0 (!w.params.followText "set-order")) }
section
variable {P : Program} {w : World} {A : Around} {E : Value → Shared → Prop} {s : Shared}
set_option maxHeartbeats 3200000 in
theorem set_ofI {l : Addr} {items : Array Value} (ns : List Int) {Q : Value → Shared → Prop} (hh : A.handled = none) (hl : s.heap.IsList l items) (rel : IntsAre items.toList ns) (room : ns.length + 1 < scanBound)
    (q : ∀ (h' : Heap) (tk c : Nat), (∀ b o, s.heap.get? b = some o → h'.get? b = some o) → SetR w h' s.heap.objs.size (fun j => decide (j ∈ ns)) c → c ≤ ns.length → Q (.ref s.heap.objs.size) { s with heap := h', toks := tk }) :
    wpAny (model P w) A (call (.type "set") [.ref l]) Q E s := by
  have sz : items.size = ns.length := by
    have e := IntsAre.length rel
    rw [Array.length_toList] at e
    exact e
  obtain ⟨c, tl, hmro⟩ := F.called_set.mro
  have f1 := F.called_set.made
  have f2 := F.called_set.sub
  have f3 := F.called_set.notType
  have f4 := F.called_set.canCreate
  have f5 := F.typeCall_set_1 (.ref l)
  refine wpAny_call (codeAny_of_tree ?_)
  show wpAny _ _ (callAny (.type "set") _) _ _ _
  refine wpAny_pure ⟨Code.quiet_builtin _ (by decide +kernel), codeAny_builtin F.entry_type_call ?_⟩
  rw [Around.under_plain (weight_type_call_type "set" [.ref l] []) rfl]
  repeat (any_goals (first | assumption | wp_step))
  refine codeAny_mono (code_set_led1 (.ref l) (E := E) (Q₁ := fun obj s₁ => obj = .ref s.heap.objs.size ∧ s₁ = { s with heap := s.heap.push (setN w) }) ⟨rfl, rfl⟩) fun r s₁ hr => ?_
  rcases r with e | fl
  · exact hr
  cases fl with
  | ret obj =>
    obtain ⟨rfl, rfl⟩ := hr
    have at0 : (s.heap.push (setN w)).get? s.heap.objs.size = some (setN w) := Heap.get?_push_size _ rfl
    have ty0 : Shared.TypeIs { s with heap := s.heap.push (setN w) } (.ref s.heap.objs.size) "set" := ⟨_, at0, rfl⟩
    have f6 := F.called_set.init.lookup
    have f7 := F.called_set.init.bind (.ref s.heap.objs.size)
    repeat (any_goals (first | assumption | wp_step))
    refine codeAny_mono (codeAny_call_builtin (R := wants (fun r s₂ => r = .none ∧ ∃ h' tk c, s₂ = { s with heap := h', toks := tk } ∧ (∀ c o, s.heap.get? c = some o → h'.get? c = some o) ∧ SetR w h' s.heap.objs.size (fun j => decide (j ∈ ns)) c ∧ c ≤ ns.length) E)
      F.called_set.init.plain F.entry_set_init (check_set_init_1 ty0 ?_)) fun r₂ s₂ hr₂ => ?_
    · obtain ⟨⟨ocls, odict, odata, oslots⟩, hol, hcl, nl, hdl⟩ := hl
      simp only at hcl hdl
      subst hcl; subst hdl
      have lS : l < s.heap.objs.size := Heap.lt_size hol
      have hol' : (s.heap.push (setN w)).get? l = some { cls := .type "list", dict := odict, data := .seq items nl, slots := oslots } := Heap.get?_push_of_some _ hol
      have g1 := F.sub_list_set
      have g2 := F.sub_list_frozenset
      have g3 : (Value.type "list" == Value.type "dict") = false := by decide
      have isl : (s.heap.push (setN w)).IsList l items := ⟨_, hol', rfl, nl, rfl⟩
      unfold Builtin.«set.__init__» noKeywords Builtin.Frozenset.updateFrom
      generalize keep : pyIter = PI
      wp_walk
      subst keep
      refine wpAny_pyIter_list isl (wpAny_bind (wpAny_runValue ?_))
      have up : (s.heap.push (setN w)).objs.size = s.heap.objs.size + 1 := size_push' _ _
      have nI : l ≠ (s.heap.push (setN w)).objs.size := by rw [up]; exact Nat.ne_of_lt (Nat.lt_succ_of_lt lS)
      have nS : s.heap.objs.size ∉ [(s.heap.push (setN w)).objs.size, l] := fun z => by
        rw [up] at z
        rcases List.mem_cons.mp z with e | e
        · exact Nat.ne_of_lt (Nat.lt_succ_self _) e
        · exact Nat.ne_of_gt lS (List.mem_singleton.mp e)
      have hval : ∀ (i : Nat) (v : Value), items[i]? = some v → ∃ k t, ns[i]? = some k ∧ v = .int k t := fun i v hv => by
        have hi : i < ns.length := by rw [← sz]; exact (Array.getElem?_eq_some_iff.mp hv).1
        obtain ⟨t, e⟩ := IntsAre.int_at rel i v (by rw [Array.getElem?_toList]; exact hv)
        refine ⟨ns[i], t, List.getElem?_eq_getElem hi, ?_⟩
        rw [e, List.getD_eq_getElem?_getD, List.getElem?_eq_getElem hi]
        all_goals rfl
      refine set_update_ints ((Walks.list (by simp [hh]) _ l nI items).toS) s.heap.objs.size nS ns sz room hval items.size 0 _ (Nat.sub_zero _) (Nat.zero_le _) ⟨⟨_, Heap.get?_push_size _ rfl, rfl, rfl⟩, isl.push _⟩
        ⟨0, Nat.le_refl 0, setR_new_at (Heap.get?_push_of_some _ at0)⟩ fun s' c' hm hc hS => ?_
      obtain ⟨h', g', d', tk', os'⟩ := s'
      have e1 : g' = s.gens := hm.gens
      have e2 : d' = s.drawn := hm.drawn
      have e3 : os' = s.os := hm.os
      subst e1
      subst e2
      subst e3
      refine wpAny_pure (wpAny_pure ⟨rfl, h', tk', c', rfl, fun b o e => ?_, hS, by rw [← sz]; exact hc⟩)
      have cl : b < s.heap.objs.size := Heap.lt_size e
      refine hm.heap b o (fun z => ?_) (Heap.get?_push_of_some _ (Heap.get?_push_of_some _ e))
      rcases List.mem_cons.mp z with e | e
      · exact Nat.ne_of_lt cl e
      · rw [List.mem_singleton, up] at e
        exact Nat.ne_of_lt (Nat.lt_succ_of_lt cl) e
    · rcases r₂ with e | fl₂
      · exact hr₂
      cases fl₂ with
      | ret r =>
        obtain ⟨rfl, h', tk, c', rfl, kp, X, m⟩ := hr₂
        repeat (any_goals (first | assumption | wp_step))
        exact q h' tk c' kp X m
      | _ => exact hr₂.elim
  | _ => exact hr.elim
end
section
variable {X : Cx}
/-- set(xs): whole numbers -/
def rSetI (K : PySem.W.Frag) (w : World) : List V → Hp → VK → Prop := fun xs H Q => ∃ (a : Addr) (ns : List Int), xs = [.ref a] ∧ SqL K H a (ns.map V.int) ∧ ns.length ≤ 1000 ∧ ∀ (p : Addr) (c : Nat), c ≤ ns.length → H p = none → Q (.ref p) (upd H p (SetO w p (fun j => decide (j ∈ ns)) c))
theorem vals_ints {ns : List Int} : ∀ {us : List Value}, Vals (ns.map V.int) us → IntsAre us ns := by
  induction ns with
  | nil => intro us r; cases r; exact .nil
  | cons n ns ih => intro us r; cases r with
    | cons h t =>
      obtain ⟨tk, rfl⟩ := h
      exact .cons n tk (ih t)
theorem call_setI (hc : X.calm = true) : CallR X (.type "set") (rSetI X.K X.w) := by
  intro pins s σ H xs us Q I r h
  obtain ⟨a, ns, rfl, hs, hz, q⟩ := h
  obtain ⟨its, rv, hl, _⟩ := I.list hs
  rw [Vals.ref1 r]
  refine set_ofI ns (I.ok.hd hc) hl.isList (by simpa using vals_ints rv) (Nat.lt_of_le_of_lt (show ns.length + 1 ≤ 1001 by omega) (by decide)) fun h' tk c kp R hcl => ?_
  exact ⟨.ref s.heap.objs.size, upd H s.heap.objs.size (SetO X.w s.heap.objs.size (fun j => decide (j ∈ ns)) c), I.laid (t' := tk) kp (Nat.le_refl _) (setO_new R), rfl, q _ c hcl (I.hok.fresh (Nat.le_refl _))⟩
end
end Ns

/-! NsJ: sorted(t) of a tuple of ints. -/
namespace Ns
open PySem PySem.Spec PyProof.Rows L2
section
variable {prog : Program} {w : World} {A : Around} {E : Value → Shared → Prop} {s : Shared}
/-- the heap behind the gathering of a tuple's items -/
abbrev gath (h : Heap) (vs : List Value) : Heap := (h.push (seqObj "list" #[] 0)).update h.objs.size (Obj.mapSeq (· ++ vs.toArray))
theorem gather_tup {l : Addr} {vs : List Value} {Q : List Value → Shared → Prop} (hl : IsTup s.heap l vs.toArray) (hz : vs.length ≤ sizeLine) (h : Q vs { s with heap := gath s.heap vs }) : wpAny (model prog w) A (collect (.ref l)) Q E s := by
  obtain ⟨o, e, cl, n, d⟩ := hl
  have e1 : (s.heap.push (seqObj "list" #[] 0)).get? l = some o := Heap.get?_push_of_some _ e
  have e2 : (s.heap.push (seqObj "list" #[] 0)).get? s.heap.objs.size = some (seqObj "list" #[] 0) := Heap.get?_push_size _ rfl
  have t0 : (Value.type "tuple" == Value.type "tuple") = true := rfl
  unfold collect
  refine wpAny_bind (wpAny_runValue (codeAny_builtin entry_proto_collect' ?_)); show wpAny _ _ (do again (.builtin "list.__iadd__" ⟨[← newList [], .ref l], []⟩)) _ _ s
  refine wpAny_bind (wpAny_newList (wpAny_pure ⟨Code.quiet_builtin _ (by decide +kernel), codeAny_builtin entry_list_iadd' ?_⟩)); show wpAny _ _ (Builtin.List.listExtendWith (.ref s.heap.objs.size) (.ref l) (.ref s.heap.objs.size)) _ _ { s with heap := s.heap.push (seqObj "list" #[] 0) }
  unfold Builtin.List.listExtendWith
  refine wpAny_bind (wpAny_typeOf (T := "tuple") ⟨o, e1, cl⟩ ?_)
  rw [if_pos (by rw [t0, Bool.or_true])]
  refine wpAny_bind (listItems_at e1 d (wpAny_bind (listItems_at (xs := #[]) (n := 0) e2 rfl ?_)))
  rw [if_neg (by simp)]
  refine wpAny_bind (listUpdate_at (xs := #[]) (n := 0) e2 rfl (wpAny_pure ?_) (Nat.zero_le _) (by rw [Array.empty_append, List.size_toArray]; omega))
  show wpAny (model prog w) A (do let q ← load s.heap.objs.size; match q.data with | .seq xs _ => pure xs.toList | _ => unsupported "internal:collect") Q E { s with heap := gath s.heap vs }
  refine wpAny_bind (wpAny_load (get?_update_seq e2 _) ?_)
  show wpAny _ _ (pure ((#[] : Array Value) ++ vs.toArray).toList) Q E _
  have ev : ((#[] : Array Value) ++ vs.toArray).toList = vs := by simp
  rw [ev]
  exact wpAny_pure h
theorem sorted_tupI {l : Addr} {vs : List Value} {ns : List Int} {Q : Value → Shared → Prop} (hl : IsTup s.heap l vs.toArray) (hi : IntsAre vs ns) (hz : vs.length ≤ sizeLine)
    (h : ∀ out : List Value, SrtO.Srtd SrtO.ltIv out → SrtO.Stb SrtO.ltIv out vs → Q (.ref (s.heap.objs.size + 1)) { s with heap := PyProof.Rows.sortedAll s.heap vs out.toArray }) : wpAny (model prog w) A (call (.builtin "sorted") [.ref l]) Q E s := by
  have sz : (gath s.heap vs).objs.size = s.heap.objs.size + 1 := by rw [Heap.size_update, size_push']
  have at1 : ((gath s.heap vs).push (seqObj "list" vs.toArray 0)).get? (s.heap.objs.size + 1) = some (seqObj "list" vs.toArray 0) := by rw [← sz]; exact Heap.get?_push_size _ rfl
  refine Calls.call_function_entry kind_sorted plain_sorted entry_sorted (args_sorted1 _) ?_; unfold Builtin.«sorted»
  refine wpAny_bind (m := checkCount "sorted" 1 1 _) (wpAny_pure (wpAny_bind (gather_tup hl hz (wpAny_bind (wpAny_newList ?_ hz)))))
  show wpAny _ _ _ _ _ { s with heap := (gath s.heap vs).push (seqObj "list" vs.toArray 0) }
  rw [sz]
  have srt := @SrtO.list_sort_ord prog w
  refine wpAny_bind (wpAny_holding (wpAny_call_entry slot_list_sort ⟨_, at1, rfl⟩ entry_list_sort (srt (s := { s with heap := (gath s.heap vs).push (seqObj "list" vs.toArray 0) }) SrtO.swo_int at1 hz (fun two => SrtO.ints_sortable hi two) fun o a b => ⟨_, rfl, ?_⟩) (args_list_sort _)))
  exact wpAny_pure ⟨_, rfl, h o a b⟩
end
/-- sorted(t), a tuple of ints -/
def rSortedTI (K : PySem.W.Frag) : List V → Hp → VK → Prop := fun vs H Q => ∃ (a : Addr) (ns : List Int), vs = [.ref a] ∧ SqT K H a (ns.map V.int) ∧ ∀ (ms : List Int) (p : Addr), ms.Perm ns → ms.Pairwise (· ≤ ·) → H p = none → Q (.ref p) (upd H p (.lst (ms.map V.int)))
theorem cr_sortedTI {X : Cx} : CallR X (.builtin "sorted") (rSortedTI X.K) := by
  intro pins s σ H vs us Q I r h
  obtain ⟨a, ns, rfl, hs, q⟩ := h
  obtain ⟨its, rv, hl, hz⟩ := I.tuple hs
  have hi := rv.ints
  rw [Vals.ref1 r]
  refine sorted_tupI hl hi (by rw [← rv.length]; exact hz) fun out h1 h2 => ?_
  obtain ⟨k1, k2, k3⟩ := SrtO.ints_out hi h1 h2
  obtain ⟨ep, he⟩ := PyProof.Rows.sortedAll_at s.heap its out.toArray
  have len : ((out.map SrtO.iv).map V.int).length ≤ sizeLine := by
    rw [List.length_map, k2.length_eq, ← List.length_map (f := V.int)]
    exact hz
  refine ⟨.ref _, upd H (s.heap.objs.size + 1) (.lst ((out.map SrtO.iv).map V.int)), I.laid (t' := s.toks) (fun _ _ => PyProof.Rows.sortedAll_old) (Nat.le_succ _) ⟨len, out, ep, vals_of_ints k1, he⟩, rfl, ?_⟩
  exact q _ _ k2 k3 (I.hok.fresh (Nat.le_succ _))
end Ns

/-! NsK: enumerate(t), a tuple. -/
namespace Ns
open PySem PySem.Spec PyProof.Rows L2
set_option maxHeartbeats 4000000 in
theorem meets_enum1 {v : Value} {o : Obj} {H : Heap → Prop} (B : Begins v o H) :
    Meets (Builtin.«enumerate.__new__» ⟨[.type "enumerate", v], []⟩) (fun _ R s => H s.heap ∧
      R (.ok (.ret (.ref (s.heap.push o).objs.size))) { s with heap := (s.heap.push o).push { cls := .type "enumerate", data := .fields #[.none, .bool false, .ref s.heap.objs.size, rawInt 0, .none, .none] } }) :=
  .of_wp fun prog w A R s h => by
    obtain ⟨hp, g, d, tk, os⟩ := s; obtain ⟨h1, h⟩ := h
    have hsub := sub_enumerate
    have q1 : ∀ {A' : Around} {E : Value → Shared → Prop} {Q : Value → Shared → Prop}, Q (.ref hp.objs.size) ⟨hp.push o, g, d, tk, os⟩ → wpAny (model prog w) A' (pyIter v) Q E ⟨hp, g, d, tk, os⟩ :=
      fun q => B.iter prog w _ _ ⟨hp, g, d, tk, os⟩ _ h1 q
    wp_walk using q1
    refine wpAny_stack_any fun st => wpAny_pure ?_
    split
    · rename_i c _ _ _ _ _
      cases (c == Value.type "enumerate")
      · wp_walk using q1
        exact ⟨_, rfl, h⟩
      · wp_walk using q1
        exact ⟨_, rfl, h⟩
    · wp_walk using q1
      exact ⟨_, rfl, h⟩
section
variable {prog : Program} {w : World} {A : Around} {E : Value → Shared → Prop} {s : Shared}
theorem call_enum1 {v : Value} {o : Obj} {H : Heap → Prop} {Q : Value → Shared → Prop} (B : Begins v o H) (h1 : H s.heap)
    (h : ∀ h', IsEnum h' (s.heap.objs.size + 1) s.heap.objs.size 0 .none → h'.get? s.heap.objs.size = some o → h'.objs.size = s.heap.objs.size + 2 →
      (∀ b o, s.heap.get? b = some o → h'.get? b = some o) → Q (.ref (s.heap.objs.size + 1)) { s with heap := h' }) :
    wpAny (model prog w) A (call (.type "enumerate") [v]) Q E s := by
  refine callType_new F.called_enumerate (by decide) (F.typeCall_enumerate_1 _) (F.newCall_enumerate_1 _) (fun obj => F.args_object_init_2 obj _) F.entry_enumerate_new
    (meets_enum1 B) ⟨h1, ?_⟩
  have hz : (s.heap.push o).objs.size = s.heap.objs.size + 1 := Heap.size_push ..
  show _ ∧ _
  rw [hz]
  have he : IsEnum ((s.heap.push o).push { cls := .type "enumerate", data := .fields #[.none, .bool false, .ref s.heap.objs.size, rawInt 0, .none, .none] }) (s.heap.objs.size + 1) s.heap.objs.size 0 .none := by
    have := Heap.get?_push_size (s.heap.push o) (o := { cls := .type "enumerate", data := .fields #[.none, .bool false, .ref s.heap.objs.size, rawInt 0, .none, .none] }) rfl
    rw [hz] at this; exact this
  refine ⟨⟨_, he, rfl⟩, h _ he (Heap.get?_push_of_some _ (Heap.get?_push_size _ B.free)) (by rw [Heap.size_push, hz]) fun b o x => Heap.get?_push_of_some _ (Heap.get?_push_of_some _ x)⟩
end
/-- the tuple at a, each item in a new pair -/
def IteT (K : PySem.W.Frag) (a : Addr) : It :=
  ⟨fun i H => ∃ (xs : List V) (x : V), SqT K H a xs ∧ xs[i]? = some x, fun i H v H' => ∃ T x, v = .ref T ∧ H T = none ∧ H' = upd H T (.tup [.int (i : Nat), x]) ∧ ∀ xs, SqT K H a xs → xs[i]? = some x, fun i H => ∃ xs : List V, SqT K H a xs ∧ xs.length ≤ i⟩
theorem turn_enumT {P : Program} {w : World} {K : PySem.W.Frag} {elts : List Expr} {kk : Nat} {tpos : Pos} (a e it : Addr) :
    Turn P w K (.Tuple elts kk tpos) (IteT K a) [e, it] e (fun i h => (∃ old, IsEnum h e it ((i : Nat) : Int) old) ∧ h.IsTupleIter it a i ∧ e ≠ it) where
  mem := by simp
  obj := fun i h st b hb => by
    obtain ⟨⟨old, he⟩, ⟨o, ho, hc, hd⟩, _⟩ := st
    have e' : b = e ∨ b = it := by simpa using hb
    rcases e' with z | z
    · rw [z]; exact ⟨_, he, fun v q => nomatch q⟩
    · rw [z]; exact ⟨o, ho, fun v q => by rw [hd] at q; cases q⟩
  keep := fun i h h' st k => let ⟨⟨old, he⟩, hi, hne⟩ := st; ⟨⟨old, k e (by simp) _ he⟩, hi.at fun o q => k it (by simp) o q, hne⟩
  item := by
    intro X hP hw hK hc i pins s σ H E I hf st hg
    subst hP hw hK
    obtain ⟨⟨old, he⟩, hit, hne⟩ := st
    obtain ⟨xs, x, hq, hx⟩ := hg
    obtain ⟨its, rv, p, hz⟩ := I.tuple hq
    obtain ⟨u, hu, ru⟩ := rv.get hx
    have p' : s.heap.IsTuple a its.toArray := p
    have hel : e < s.heap.objs.size := Heap.lt_size he
    have hil : it < s.heap.objs.size := by obtain ⟨_, q, _⟩ := hit; exact Heap.lt_size q
    have nai : a ≠ it := fun z => by
      obtain ⟨o, e1, c1, _⟩ := p'
      obtain ⟨o2, e2, c2, _⟩ := hit
      rw [z, e2] at e1
      cases e1
      rw [c1] at c2
      injection c2 with c3
      exact absurd c3 (by decide)
    have nea : e ≠ a := fun z => by
      obtain ⟨o, e1, c1, _⟩ := p'
      have e2 : s.heap.get? e = _ := he
      rw [z, e1] at e2
      have := congrArg (fun z => z.map Obj.cls) e2
      have c2 : o.cls = .type "enumerate" := Option.some.inj this
      rw [c1] at c2
      injection c2 with c3
      exact absurd c3 (by decide)
    have D := Draws.tuple (prog := X.prog) (w := X.w) (A := X.A.in1) (I.ok.hd hc) it a nai its.toArray
    have hi : i < its.toArray.size := by
      have := (List.getElem?_eq_some_iff.mp hu).1
      simpa using this
    refine wpAny_pyNext_enum_itemD D he ⟨hit, p'⟩ hi hne (by simp [hne, nea]) fun x' h' tk hP ho hit' hT hsz hk => ?_
    have ex : x' = u := by
      have hP : its.toArray[i]? = some x' := hP
      have h2 : its.toArray[i]? = some u := by simpa using hu
      rw [h2] at hP
      exact (Option.some.inj hP).symm
    subst ex
    refine ⟨_, rfl, wpAny_letOwnedTupleGo_enum (s := { s with heap := h', toks := tk + 1 }) ho fun h'' he' sb => ?_⟩
    have hT2 : h''.get? s.heap.objs.size = some { cls := .type "tuple", data := .seq #[.int i tk, x'] } := (sb.2 _ (Nat.ne_of_gt hel)).trans hT
    have new : ObjOk X.prog X.w (upd H s.heap.objs.size (.tup [.int (i : Nat), x])) h'' s.heap.objs.size (.tup [.int (i : Nat), x]) :=
      ⟨by show 2 ≤ sizeLine; decide, [.int i tk, x'], .cons ⟨_, rfl⟩ (.cons ru .nil), ⟨_, hT2, rfl, _, rfl⟩⟩
    have I1 : Inv X pins σ (upd H s.heap.objs.size (.tup [.int (i : Nat), x])) { s with heap := h'', toks := tk + 1 } :=
      I.turnedNew (ch := [e, it]) (fun b ob hb q => (sb.2 b (fun z => hb (by simp [z]))).trans (hk b ob (fun z => hb (by simp [z])) (fun z => hb (by simp [z])) q)) hf (Nat.le_refl _) new
    refine ⟨.ref s.heap.objs.size, _, I1, rfl, ⟨_, x, rfl, I.hok.fresh (Nat.le_refl _), rfl, fun ys hy => by rw [I.tuple_inj hy hq]; exact hx⟩, ⟨⟨x', ?_⟩, hit'.1.at fun o q => (sb.2 it (Ne.symm hne)).trans q, hne⟩, fun b hb => ?_⟩
    · have e1 : ((i + 1 : Nat) : Int) = (i : Int) + 1 := by omega
      rw [e1]; exact he'
    · have hb' : b < s.heap.objs.size := by
        have e' : b = e ∨ b = it := by simpa using hb
        rcases e' with z | z
        · rw [z]; exact hel
        · rw [z]; exact hil
      rw [upd_ne (Nat.ne_of_lt hb')]
      exact (hf b hb).1
  done := by
    intro X hP hw hK hc i pins s σ H E I hf st hg
    subst hP hw hK
    obtain ⟨⟨old, he⟩, hit, hne⟩ := st
    obtain ⟨xs, hq, hx⟩ := hg
    obtain ⟨its, rv, p, hz⟩ := I.tuple hq
    have p' : s.heap.IsTuple a its.toArray := p
    obtain ⟨f0, f1, f2, f3, f4, f5⟩ := hf it (by simp)
    have hl := rv.length
    have hT : s.TypeIs (.ref e) "enumerate" := ⟨_, he, rfl⟩
    unfold pyNext
    refine wpAny_bind (wpAny_attempt (wpAny_callSpecial?_slot (name := Str.ofString "__next__") hT F.slot_enumerate_next
      (wpAny_call_entry F.slot_enumerate_next hT F.entry_enumerate_next ?_ (F.args_enumerate_next_1 _))))
    show wpAny _ _ (field (.ref e) 2 >>= _) _ _ _
    refine wpAny_bind (wpAny_field he rfl (x := .ref it) rfl ?_)
    refine wpAny_bind (wpAny_nextOf_tuple_end (I.ok.hd hc) hit p' (by simp; omega) fun h' x he' hx' => ?_)
    obtain ⟨o, ho, hc'⟩ := hx'
    refine wpAny_bind (wpAny_isInstance (T := "StopIteration") (b := true) ⟨o, ho, hc'⟩ isSubtype_stop ?_)
    exact wpAny_pure ⟨rfl, I.turned (t' := s.toks) (fun b o hb q => he' b o hb q) f0 f1 f3 f4 f5⟩
  self := fun A i s Q E st h => let ⟨⟨_, he⟩, _⟩ := st; wpAny_pyIter_enum he h
def iEnumT (K : PySem.W.Frag) (ta : TA) : TI := fun σ H R => ta σ H fun vs H1 => ∃ a xs, vs = [.ref a] ∧ SqT K H1 a xs ∧ R (IteT K a) H1
theorem pi_enumT {X : Cx} {e : Expr} {ta : TA} {p pos tpos : Pos} {elts : List Expr} {kk : Nat} (hg : Gl X "enumerate") (hm : X.mg "enumerate" = none) (ha : PA X [e] ta) (hs : starEach [e] X.env = [(false, eval e X.env)] := by rfl) :
    PI X (.Tuple elts kk tpos) (.Call (.Name "enumerate" p) [e] [] pos) (iEnumT X.K ta) := by
  refine ⟨fun pins s σ H R I h => ?_⟩
  refine Call_ (ld_blt I hg hm boot_enumerate (PyProof.Rows.callWith_type1 (thn (ha.run pos pins s σ H _ I h) fun us s1 ⟨vs, H1, I1, r1, q1⟩ => ?_) hs rfl))
  obtain ⟨a, xs, ex, hq, q⟩ := q1
  subst ex
  cases r1 with
  | cons r rr =>
    cases rr
    cases r
    obtain ⟨its, rv, p', hz⟩ := I1.tuple hq
    have pT : s1.heap.IsTuple a its.toArray := p'
    refine call_enum1 (begins_tuple a its.toArray) pT fun h' he hit hsz hk => wpAny_pyIter_enum he ?_
    have I2 : Inv X pins σ H1 { s1 with heap := h' } := I1.kept (t' := s1.toks) hk
    refine ⟨s1.heap.objs.size + 1, [s1.heap.objs.size + 1, s1.heap.objs.size], _, _, H1, rfl, I2, turn_enumT a (s1.heap.objs.size + 1) s1.heap.objs.size, ⟨⟨.none, he⟩, ⟨_, hit, rfl, rfl⟩, Nat.succ_ne_self _⟩, fun b hb => ?_, q⟩
    have e' : b = s1.heap.objs.size + 1 ∨ b = s1.heap.objs.size := by simpa using hb
    have hle : s1.heap.objs.size ≤ b := by
      rcases e' with z | z
      · rw [z]; exact Nat.le_add_right _ _
      · rw [z]; exact Nat.le_refl _
    exact I1.fpOk hle (I1.hok.fresh hle)
theorem walk_enumT {K : PySem.W.Frag} {a : Addr} {xs : List V} : Walk (IteT K a) xs.length (fun H => SqT K H a xs) (YPair (fun i => some (.int (i : Nat))) (fun i => xs[i]?)) := by
  refine ⟨fun i _ hi q => ⟨xs, xs[i], q, by simp [hi]⟩, fun _ q => ⟨xs, q, Nat.le_refl _⟩, fun i H v H' _ q y => ?_⟩
  obtain ⟨T, x, h1, h2, h3, h4⟩ := y
  exact ⟨T, .int (i : Nat), x, h1, h2, h3, rfl, h4 xs q⟩
end Ns

/-! NsP: three plain local names stored at once. -/
namespace Ns
open PySem PySem.Spec PyProof.Rows L2
def tPar3 (i j k : Nat) (ta : TA) : TS := fun D σ H => ta σ H fun vs H1 => ∃ v w z, vs = [v, w, z] ∧ D.nx (((σ.set i (some v)).set j (some w)).set k (some z)) H1
theorem ps_par3 {X : Cx} {i j k : Nat} {x y z : Str} {a b c : Expr} {ta : TA} {px py pz pt pos : Pos} {kt k2 pt2} (hc : X.calm = true) (hN : X.N.Nodup) (hi : X.N[i]? = some x) (hj : X.N[j]? = some y) (hk : X.N[k]? = some z) (hij : i ≠ j) (hik : i ≠ k) (hjk : j ≠ k)
    (hx : X.env.scope.names.lookup x = some .local) (hy : X.env.scope.names.lookup y = some .local) (hz : X.env.scope.names.lookup z = some .local) (ha : PA X [a, b, c] ta)
    (hw : swappedStores [.Tuple [.Name x px, .Name y py, .Name z pz] kt pt] (.Tuple [a, b, c] k2 pt2) X.env = pure (some [x, y, z]))
    (hs : swapsWithSole [.Tuple [.Name x px, .Name y py, .Name z pz] kt pt] (.Tuple [a, b, c] k2 pt2) pos.line X.env = pure false := by rfl) :
    PS X (.Assign [.Tuple [.Name x px, .Name y py, .Name z pz] kt pt] (.Tuple [a, b, c] k2 pt2) pos) (tPar3 i j k ta) := by
  refine ⟨fun pins s σ H D I h => ?_⟩
  rw [exec_Assign_arm]
  refine wpAny_bind (wpAny_standAt ?_)
  rw [hs]
  refine wpAny_bind (wpAny_pure ?_)
  rw [if_neg (by decide)]
  refine wpAny_bind (Tuple_ (thn (ha.run _ pins s σ H _ I h) fun us s1 ⟨vs, H1, I1, r1, q1⟩ => ?_))
  obtain ⟨v1, v2, v3, e1, q1⟩ := q1
  subst e1
  obtain ⟨u1, u2, u3, rfl, t1, t2, t3⟩ : ∃ u1 u2 u3, us = [u1, u2, u3] ∧ RelV v1 u1 ∧ RelV v2 u2 ∧ RelV v3 u3 := by
    cases r1 with
    | cons p q => cases q with
      | cons p' q' => cases q' with
        | cons p'' q'' =>
          cases q''
          exact ⟨_, _, _, rfl, p, p', p''⟩
  refine wpAny_newObj_type ?_ (by show 3 ≤ sizeLine; decide)
  have I2 : Inv X pins σ H1 { s1 with heap := s1.heap.push { cls := .type "tuple", data := .seq [u1, u2, u3].toArray } } := I1.kept (t' := s1.toks) fun b o e => Heap.get?_push_of_some _ e
  rw [hw]
  refine wpAny_bind (wpAny_pure ?_)
  show wpAny (model X.prog X.w) X.A (do rule "assign.swapped-stores"; let items ← unpackItems (.ref s1.heap.objs.size) 3 none; assignInOrder [fun v => bindName X.env z v, fun v => bindName X.env y v, fun v => bindName X.env x v] items.reverse; pure Flow.next) _ _ _
  refine wpAny_bind (wpAny_rule (wpAny_bind (unpackItems_tuple (items := #[u1, u2, u3]) (I.ok.hd hc) (IsTup.new s1.heap _) fun h' hx' => ?_)))
  have I3 := I2.kept (h' := h') (t' := s1.toks) fun b o e => hx' b o (Nat.ne_of_lt (Heap.lt_size e)) e
  show wpAny _ _ (assignInOrder [fun v => bindName X.env z v, fun v => bindName X.env y v, fun v => bindName X.env x v] [u3, u2, u1] >>= fun _ => pure Flow.next) _ _ _
  refine wpAny_bind (assignInOrder_cons (wpAny_bindName (store_ok I3 hN hk (.inl hz) t3 (fun s2 I4 => ?_) (.inr hz))))
  refine assignInOrder_cons (wpAny_bindName (store_ok I4 hN hj (.inl hy) t2 (fun s3 I5 => ?_) (.inr hy)))
  refine assignInOrder_cons (wpAny_bindName (store_ok I5 hN hi (.inl hx) t1 (fun s4 I6 => assignInOrder_nil (wpAny_pure ?_)) (.inr hx)))
  have e : ((σ.set k (some v3)).set j (some v2)).set i (some v1) = ((σ.set i (some v1)).set j (some v2)).set k (some v3) := by
    rw [List.set_comm _ _ (Ne.symm hjk), List.set_comm _ _ (Ne.symm hik), List.set_comm _ _ (Ne.symm hij)]
  rw [e] at I6
  exact ⟨_, H1, I6, q1⟩
end Ns

/-! NsQ: zip of a tuple, a tuple and a list. -/
namespace Ns
open PySem PySem.Spec PyProof.Rows L2
def Itz3 (K : PySem.W.Frag) (a b c : Addr) : It :=
  ⟨fun i H => ∃ (xs ys zs : List V) (x y z : V), SqT K H a xs ∧ SqT K H b ys ∧ SqL K H c zs ∧ xs[i]? = some x ∧ ys[i]? = some y ∧ zs[i]? = some z,
    fun i H v H' => ∃ T x y z, v = .ref T ∧ H T = none ∧ H' = upd H T (.tup [x, y, z]) ∧ (∀ xs, SqT K H a xs → xs[i]? = some x) ∧ (∀ ys, SqT K H b ys → ys[i]? = some y) ∧ ∀ zs, SqL K H c zs → zs[i]? = some z,
    fun i H => ∃ xs ys zs : List V, SqT K H a xs ∧ SqT K H b ys ∧ SqL K H c zs ∧ xs.length = i ∧ ys.length = i ∧ i ≤ zs.length⟩
theorem turn_zip3 {P : Program} {w : World} {K : PySem.W.Frag} {elts : List Expr} {kk : Nat} {tpos : Pos} {a b c z TI TO i1 i2 i3 : Addr} (S : ZipSep3 z TI TO i1 i2 i3 [i1, a] [i2, b] [i3, c]) (na : a ≠ i1) (nb : b ≠ i2) (nc : c ≠ i3) :
    Turn P w K (.Tuple elts kk tpos) (Itz3 K a b c) [z, TI, TO, i1, i2, i3] z (fun i h => IsZip h z TI TO .none ∧ IsTupOf3 h TI (.ref i1) (.ref i2) (.ref i3) ∧ (∃ a1 a2 a3, IsTupOf3 h TO a1 a2 a3) ∧ h.IsTupleIter i1 a i ∧ h.IsTupleIter i2 b i ∧ h.IsListIter i3 c i) where
  mem := by simp
  obj := fun i h st d hd => by
    obtain ⟨hz, hTI, ⟨x, y, u, hTO⟩, ⟨o1, e1, _, d1⟩, ⟨o2, e2, _, d2⟩, ⟨o3, e3, _, d3⟩⟩ := st
    have e' : d = z ∨ d = TI ∨ d = TO ∨ d = i1 ∨ d = i2 ∨ d = i3 := by simpa using hd
    rcases e' with q | q | q | q | q | q
    · rw [q]; exact ⟨_, hz, fun v q => nomatch q⟩
    · rw [q]; exact ⟨_, hTI, fun v q => nomatch q⟩
    · rw [q]; exact ⟨_, hTO, fun v q => nomatch q⟩
    · rw [q]; exact ⟨o1, e1, fun v q => by rw [d1] at q; cases q⟩
    · rw [q]; exact ⟨o2, e2, fun v q => by rw [d2] at q; cases q⟩
    · rw [q]; exact ⟨o3, e3, fun v q => by rw [d3] at q; cases q⟩
  keep := fun i h h' st k => by
    obtain ⟨hz, hTI, ⟨x, y, u, hTO⟩, h1, h2, h3⟩ := st
    exact ⟨k z (by simp) _ hz, k TI (by simp) _ hTI, ⟨x, y, u, k TO (by simp) _ hTO⟩, h1.at fun o q => k i1 (by simp) o q, h2.at fun o q => k i2 (by simp) o q, h3.at fun o q => k i3 (by simp) o q⟩
  item := by
    intro X hP hw hK hc i pins s σ H E I hf st hg
    subst hP hw hK
    have low : ∀ d ∈ [z, TI, TO, i1, i2, i3], d < s.heap.objs.size := fun d hd => by
      obtain ⟨hz, hTI, ⟨x, y, u, hTO⟩, ⟨o1, e1, _⟩, ⟨o2, e2, _⟩, ⟨o3, e3, _⟩⟩ := st
      have e' : d = z ∨ d = TI ∨ d = TO ∨ d = i1 ∨ d = i2 ∨ d = i3 := by simpa using hd
      rcases e' with q | q | q | q | q | q
      · rw [q]; exact Heap.lt_size hz
      · rw [q]; exact Heap.lt_size hTI
      · rw [q]; exact Heap.lt_size hTO
      · rw [q]; exact Heap.lt_size e1
      · rw [q]; exact Heap.lt_size e2
      · rw [q]; exact Heap.lt_size e3
    obtain ⟨hz, hTI, hTO, h1, h2, h3⟩ := st
    obtain ⟨xs, ys, zs, x, y, u, hqx, hqy, hqz, hx, hy, hu⟩ := hg
    obtain ⟨its, rv, p, _⟩ := I.tuple hqx
    obtain ⟨its2, rv2, p2, _⟩ := I.tuple hqy
    obtain ⟨its3, rv3, p3, _⟩ := I.list hqz
    obtain ⟨v1, hv1, rx⟩ := rv.get hx
    obtain ⟨v2, hv2, ry⟩ := rv2.get hy
    obtain ⟨v3, hv3, ru⟩ := rv3.get hu
    have W := GoesN.zip3 (prog := X.prog) (w := X.w) (A := X.A) (elts := elts) (x1 := kk) (pos := tpos) S (Draws.tuple (prog := X.prog) (w := X.w) (A := X.A.in1) (I.ok.hd hc) i1 a na its.toArray) (Draws.tuple (prog := X.prog) (w := X.w) (A := X.A.in1) (I.ok.hd hc) i2 b nb its2.toArray) (Draws.list (prog := X.prog) (w := X.w) (A := X.A.in1) (I.ok.hd hc) i3 c nc its3.toArray)
    have b1 := (List.getElem?_eq_some_iff.mp hv1).1
    have b2 := (List.getElem?_eq_some_iff.mp hv2).1
    have b3 := (List.getElem?_eq_some_iff.mp hv3).1
    refine W.goes i s _ E (by simp; omega) ⟨hz, hTI, hTO, ⟨h1, p⟩, ⟨h2, p2⟩, ⟨h3, p3.isList⟩⟩ fun v h' tk hY st' hk htk => ?_
    obtain ⟨T, x', y', u', rfl, hT, P1, P2, P3, tup⟩ := hY
    have ex : x' = v1 := by
      have P1 : its.toArray[i]? = some x' := P1
      rw [show its.toArray[i]? = some v1 by simpa using hv1] at P1
      exact (Option.some.inj P1).symm
    have ey : y' = v2 := by
      have P2 : its2.toArray[i]? = some y' := P2
      rw [show its2.toArray[i]? = some v2 by simpa using hv2] at P2
      exact (Option.some.inj P2).symm
    have eu : u' = v3 := by
      have P3 : its3.toArray[i]? = some u' := P3
      rw [show its3.toArray[i]? = some v3 by simpa using hv3] at P3
      exact (Option.some.inj P3).symm
    subst ex ey eu
    have new : ObjOk X.prog X.w (upd H T (.tup [x, y, u])) h' T (.tup [x, y, u]) :=
      ⟨by show 3 ≤ sizeLine; decide, [x', y', u'], .cons rx (.cons ry (.cons ru .nil)), tup⟩
    have sub : ∀ d ∈ [z, TO, i1, i2, i3], d ∈ [z, TI, TO, i1, i2, i3] := fun d hd => by
      simp only [List.mem_cons, List.not_mem_nil, or_false] at hd ⊢
      rcases hd with q | q | q | q | q <;> simp [q]
    have I1 : Inv X pins σ (upd H T (.tup [x, y, u])) { s with heap := h', toks := tk } :=
      I.turnedNew (ch := [z, TO, i1, i2, i3]) hk (fun d hd => hf d (sub d hd)) hT new
    obtain ⟨z1, z2, z3, z4, z5, z6⟩ := st'
    refine ⟨.ref T, _, I1, rfl, ⟨T, x, y, u, rfl, I.hok.fresh hT, rfl, fun l hl => by rw [I.tuple_inj hl hqx]; exact hx, fun l hl => by rw [I.tuple_inj hl hqy]; exact hy, fun l hl => by rw [I.list_inj hl hqz]; exact hu⟩, ⟨z1, z2, z3, z4.1, z5.1, z6.1⟩, fun d hd => ?_⟩
    rw [upd_ne (Nat.ne_of_lt (Nat.lt_of_lt_of_le (low d hd) hT))]
    exact (hf d hd).1
  done := by
    intro X hP hw hK hc i pins s σ H E I hf st hg
    subst hP hw hK
    obtain ⟨hz, hTI, hTO, h1, h2, h3⟩ := st
    obtain ⟨xs, ys, zs, hqx, hqy, hqz, l1, l2, l3⟩ := hg
    obtain ⟨its, rv, p, _⟩ := I.tuple hqx
    obtain ⟨its2, rv2, p2, _⟩ := I.tuple hqy
    obtain ⟨its3, rv3, p3, _⟩ := I.list hqz
    have k1 := rv.length
    have k2 := rv2.length
    have k3 := rv3.length
    have W := GoesN.zip3 (prog := X.prog) (w := X.w) (A := X.A) (elts := elts) (x1 := kk) (pos := tpos) S (Draws.tuple (prog := X.prog) (w := X.w) (A := X.A.in1) (I.ok.hd hc) i1 a na its.toArray) (Draws.tuple (prog := X.prog) (w := X.w) (A := X.A.in1) (I.ok.hd hc) i2 b nb its2.toArray) (Draws.list (prog := X.prog) (w := X.w) (A := X.A.in1) (I.ok.hd hc) i3 c nc its3.toArray)
    have en : min (min its.toArray.size its2.toArray.size) its3.toArray.size = i := by simp; omega
    have sub : ∀ d ∈ [z, TO, i1, i2, i3], d ∈ [z, TI, TO, i1, i2, i3] := fun d hd => by
      simp only [List.mem_cons, List.not_mem_nil, or_false] at hd ⊢
      rcases hd with q | q | q | q | q <;> simp [q]
    refine W.stops s _ E (by rw [en]; exact ⟨hz, hTI, hTO, ⟨h1, p⟩, ⟨h2, p2⟩, ⟨h3, p3.isList⟩⟩) fun h' tk hk htk => ?_
    exact I.turnedL (t' := tk) (ch := [z, TO, i1, i2, i3]) hk (fun d hd => hf d (sub d hd))
  self := fun A i s Q E st h => wpAny_pyIter_zip st.1 h
def iZip3 (K : PySem.W.Frag) (ta : TA) : TI := fun σ H R => ta σ H fun vs H1 => ∃ a b c xs ys zs, vs = [.ref a, .ref b, .ref c] ∧ SqT K H1 a xs ∧ SqT K H1 b ys ∧ SqL K H1 c zs ∧ R (Itz3 K a b c) H1
theorem pi_zip3 {X : Cx} {e e2 e3 : Expr} {ta : TA} {p pos tpos : Pos} {elts : List Expr} {kk : Nat} (hg : Gl X "zip") (hm : X.mg "zip" = none) (ha : PA X [e, e2, e3] ta)
    (hs : starEach [e, e2, e3] X.env = (false, eval e X.env) :: starEach [e2, e3] X.env := by rfl) (hpl : (backTo pos (starEach [e2, e3] X.env)).any (·.1) = false := by rfl) :
    PI X (.Tuple elts kk tpos) (.Call (.Name "zip" p) [e, e2, e3] [] pos) (iZip3 X.K ta) := by
  refine ⟨fun pins s σ H R I h => ?_⟩
  refine Call_ (ld_blt I hg hm PyProof.Rows.boot_zip (PyProof.Rows.callWith_type1 (thn (ha.run pos pins s σ H _ I h) fun us s1 ⟨vs, H1, I1, r1, q1⟩ => ?_) hs hpl))
  obtain ⟨a, b, c, xs, ys, zs, ex, hqx, hqy, hqz, q⟩ := q1
  subst ex
  obtain ⟨rfl⟩ : us = [.ref a, .ref b, .ref c] := by
    cases r1 with
    | cons r rr => cases rr with
      | cons r' rr => cases rr with
        | cons r'' rr =>
          cases rr
          cases r
          cases r'
          cases r''
          rfl
  have fresh6 : ∀ d, d ∈ [s1.heap.objs.size + 5, s1.heap.objs.size + 3, s1.heap.objs.size + 4, s1.heap.objs.size, s1.heap.objs.size + 1, s1.heap.objs.size + 2] → FpOk X pins H1 d := fun d hd => by
    have e' : d = s1.heap.objs.size + 5 ∨ d = s1.heap.objs.size + 3 ∨ d = s1.heap.objs.size + 4 ∨ d = s1.heap.objs.size ∨ d = s1.heap.objs.size + 1 ∨ d = s1.heap.objs.size + 2 := by simpa using hd
    have hle : s1.heap.objs.size ≤ d := by
      rcases e' with z | z | z | z | z | z <;> rw [z]
      · exact Nat.le_add_right _ _
      · exact Nat.le_add_right _ _
      · exact Nat.le_add_right _ _
      · exact Nat.le_refl _
      · exact Nat.le_add_right _ _
      · exact Nat.le_add_right _ _
    exact I1.fpOk hle (I1.hok.fresh hle)
  obtain ⟨its, rv, p1, _⟩ := I1.tuple hqx
  obtain ⟨its2, rv2, p2, _⟩ := I1.tuple hqy
  obtain ⟨its3, rv3, p3, _⟩ := I1.list hqz
  obtain ⟨o1, ho1, _⟩ := id p1
  obtain ⟨o2, ho2, _⟩ := id p2
  have la := Heap.lt_size ho1
  have lb := Heap.lt_size ho2
  have lc := p3.lt
  refine zip_begins3 (begins_tuple a its.toArray) (begins_tuple b its2.toArray) (begins_list c its3.toArray) p1 p2 p3.isList fun h' hz hTI hTO e1 e2 e3 hsz hk => wpAny_pyIter_zip hz ?_
  have I2 : Inv X pins σ H1 { s1 with heap := h' } := I1.kept (t' := s1.toks) hk
  have S := zip_sep3 (N := s1.heap.objs.size) (fp1 := [a]) (fp2 := [b]) (fp3 := [c]) (fun d hd => by rw [List.mem_singleton.mp hd]; exact la) (fun d hd => by rw [List.mem_singleton.mp hd]; exact lb) (fun d hd => by rw [List.mem_singleton.mp hd]; exact lc)
  exact ⟨s1.heap.objs.size + 5, [s1.heap.objs.size + 5, s1.heap.objs.size + 3, s1.heap.objs.size + 4, s1.heap.objs.size, s1.heap.objs.size + 1, s1.heap.objs.size + 2], _, _, H1, rfl, I2, turn_zip3 S (Nat.ne_of_lt la) (Nat.ne_of_lt (Nat.lt_succ_of_lt lb)) (Nat.ne_of_lt (Nat.lt_succ_of_lt (Nat.lt_succ_of_lt lc))), ⟨hz, hTI, ⟨_, _, _, hTO⟩, ⟨_, e1, rfl, rfl⟩, ⟨_, e2, rfl, rfl⟩, ⟨_, e3, rfl, rfl⟩⟩, fresh6, q⟩
section
variable {K : PySem.W.Frag} {a b c : Addr} {xs ys zs : List V}
theorem walk_zip3 {n : Nat} (h1 : xs.length = n) (h2 : ys.length = n) (h3 : n ≤ zs.length) : Walk (Itz3 K a b c) n (fun H => SqT K H a xs ∧ SqT K H b ys ∧ SqL K H c zs) (fun i H v H' => ∃ T x y z, v = .ref T ∧ H T = none ∧ H' = upd H T (.tup [x, y, z]) ∧ xs[i]? = some x ∧ ys[i]? = some y ∧ zs[i]? = some z) := by
  subst h1
  refine ⟨fun i _ hi q => ⟨xs, ys, zs, xs[i], ys[i], zs[i]'(by omega), q.1, q.2.1, q.2.2, by simp [hi], by simp [h2, hi], List.getElem?_eq_getElem (by omega)⟩, fun _ q => ⟨xs, ys, zs, q.1, q.2.1, q.2.2, rfl, h2, h3⟩, fun i H v H' _ q y => ?_⟩
  obtain ⟨T, x, y, z, h1, h2, h3, h4, h5, h6⟩ := y
  exact ⟨T, x, y, z, h1, h2, h3, h4 xs q.1, h5 ys q.2.1, h6 zs q.2.2⟩
end
end Ns

/-! NsR: sum of the values of a dict of ints. -/
namespace Ns
open PySem PySem.Spec PyProof.Rows L2
def tSumVals (td : TE) : TE := fun σ H Q => td σ H fun x H1 => ∃ (a : Addr) (kvs : List (Key × V)) (is : List Int), x = V.ref a ∧ H1 a = some (.dK kvs) ∧ kvs.map (·.2) = is.map V.int ∧ Q (.int is.sum) H1
theorem preSum_is : ∀ (is : List Int) (n : Nat), n ≤ is.length → preSum (fun i => is.getD i 0) n = (is.take n).sum
  | is, 0, _ => by
    rw [List.take_zero]
    rfl
  | is, n + 1, h => by
    have ih := preSum_is is n (by omega)
    obtain ⟨x, hx⟩ : ∃ x, is[n]? = some x := ⟨_, List.getElem?_eq_getElem (by omega)⟩
    have e1 : is.getD n 0 = x := by rw [List.getD_eq_getElem?_getD, hx]; rfl
    rw [List.take_succ, hx, List.sum_append, ← ih]
    show preSum (fun i => is.getD i 0) n + is.getD n 0 = _
    rw [e1]
    simp
section
variable {X : Cx} {o : Expr} {p pos apos mpos : Pos} {td : TE}
theorem pe_sumVals (hc : X.calm = true) (hg : Gl X "sum") (hm : X.mg "sum" = none) (hd : PE X o td) (hbase : attributeBase o "values" X.env (eval o X.env) = eval o X.env := by rfl) (hline : (apos.endLine == mpos.line) = true := by rfl)
    (hse : starEach [Expr.Call (.Attribute o "values" apos) [] [] mpos] X.env = [(false, eval (Expr.Call (.Attribute o "values" apos) [] [] mpos) X.env)] := by rfl) :
    PE X (.Call (.Name "sum" p) [.Call (.Attribute o "values" apos) [] [] mpos] [] pos) (tSumVals td) := by
  refine ⟨fun pins s σ H Q I h => ?_⟩
  refine wpAny_Call_Name_kw (ld_blt I hg hm (u := .builtin "sum") (by first | rfl | decide +kernel) ?_ (by first | decide +kernel | decide) (by first | decide +kernel | decide))
  rw [hse]
  refine PySem.callWith_builtin1 (wpAny_Call_method0_late hbase hline (thn (hd.run pins s σ H _ I h) fun v s1 ⟨x, H1, I1, r1, a, kvs, is, ex, ha, hv, q⟩ => ?_))
  subst ex
  obtain rfl : v = Value.ref a := r1
  obtain ⟨_, hsys, vs, rel, dof⟩ := dk_of I1.hok ha
  obtain ⟨ep, dat⟩ := dof.dictAt
  obtain ⟨ob, es, ho, ex, _⟩ := id dat
  refine ⟨"dict", "dict.values", F.plainAttrs_dict, F.slot_dict_values, F.type_dict_values, ⟨ob, ho, ex.1⟩, fun b e => by cases e; exact ⟨ob, ho, ex.2.1⟩, Calls.callWith_builtin rfl (PySem.evalArgs_none ?_)⟩
  refine call_meetsIn F.slot_dict_values ⟨ob, ho, ex.1⟩ F.entry_dict_values (F.args_dict_values_1 _) (meets_dict_values (mixKind X.prog X.w) a hsys) ⟨⟨vs, dof⟩, ?_⟩
  have lt := Heap.lt_size ho
  have grow : ∀ b u, s1.heap.get? b = some u → (s1.heap.push { cls := .type "dict_values", data := .fields #[.ref a] }).get? b = some u := fun b u e => Heap.get?_push_of_some _ e
  have dat2 := dat.keep grow
  have sz : (s1.heap.push { cls := .type "dict_values", data := .fields #[.ref a] }).objs.size = s1.heap.objs.size + 1 := Heap.size_push _ _
  have same : vs.length = is.length := by
    have e1 := congrArg List.length hv
    rw [List.length_map, List.length_map] at e1
    exact (KV.length rel).symm.trans e1
  have look : ∀ (i : Nat) (v : Value), (∃ k, vs[i]? = some (k, v)) → ∃ t, v = Value.int (is.getD i 0) t := fun i v ⟨k, hk⟩ => by
    obtain ⟨x, h1, h2⟩ := KV.at' rel hk
    have e1 : (is.map V.int)[i]? = some x := by rw [← hv, List.getElem?_map, h1]; rfl
    rw [List.getElem?_map] at e1
    obtain ⟨j, hj, e2⟩ := Option.map_eq_some_iff.mp e1
    subst e2
    obtain ⟨t, e3⟩ := h2
    exact ⟨t, by rw [e3, List.getD_eq_getElem?_getD, hj]; rfl⟩
  refine call_sum_walkG (wpAny_pyIter_values (v := s1.heap.objs.size) (d := a) ⟨_, Heap.get?_push_size _ rfl, rfl, rfl⟩ dat2 ?_)
  refine ⟨_, _, _, _, _, _, fun i => is.getD i 0, rfl, Walks.dictValues (knd := mixKind X.prog X.w) (A := X.A.in1) (I.ok.hd hc) (s1.heap.push { cls := .type "dict_values", data := .fields #[.ref a] }).objs.size a (by rw [sz]; exact Nat.ne_of_lt (Nat.lt_succ_of_lt lt)) vs ep,
    ⟨⟨_, Heap.get?_push_size _ rfl, rfl, rfl⟩, dat2.keep fun b u e => Heap.get?_push_of_some _ e⟩, fun b hb => ?_, look, fun h' tk t' hk => ?_⟩
  · show b < ((s1.heap.push _).push _).objs.size
    rw [Heap.size_push, Heap.size_push]
    rw [sz] at hb
    rcases List.mem_cons.mp hb with e | hb
    · rw [e]
      exact Nat.lt_succ_self _
    · rw [List.mem_singleton.mp hb]
      exact Nat.lt_succ_of_lt (Nat.lt_succ_of_lt lt)
  · refine ⟨.int is.sum, H1, I1.kept (t' := tk) fun b u e => hk b u (fun hmem => ?_) (Heap.get?_push_of_some _ (grow b u e)), ⟨t', ?_⟩, q⟩
    · have e1 : b = (s1.heap.push { cls := .type "dict_values", data := .fields #[.ref a] }).objs.size := List.mem_singleton.mp hmem
      have e2 := Heap.lt_size e
      rw [sz] at e1
      rw [e1] at e2
      exact absurd e2 (Nat.not_lt.mpr (Nat.le_succ _))
    · rw [preSum_is is _ (Nat.le_of_eq same), same, List.take_length]
end
end Ns

/-! NsV: a tuple times 0 or 1. -/
namespace Ns
open PySem PySem.Spec PyProof.Rows L2
theorem tup_mul1 (l : Addr) (items : Array Value) (n : Nat) (dd : Option Addr) (sl : Array (Option Value)) (u : Tok) :
    Meets (Builtin.«tuple.__mul__» ⟨[.ref l, .int 1 u], []⟩) (fun _ R s => s.heap.get? l = some { cls := .type "tuple", dict := dd, data := .seq items n, slots := sl } ∧ R (.ok (.ret (Value.ref l))) s) :=
  .of_wp fun prog w A R s h => by
    obtain ⟨hp, g, d, tk, os⟩ := s
    obtain ⟨hl, h⟩ := h
    have f1 := AutoSeq1.idx_int
    wp_walk using wpAny_loadPart' hl
    exact ⟨_, rfl, h⟩
theorem tup_mul0 (l : Addr) (items : Array Value) (n : Nat) (dd : Option Addr) (sl : Array (Option Value)) (u : Tok) (hi : items.isEmpty = false) :
    Meets (Builtin.«tuple.__mul__» ⟨[.ref l, .int 0 u], []⟩) (fun _ R s => s.heap.get? l = some { cls := .type "tuple", dict := dd, data := .seq items n, slots := sl } ∧
      R (.ok (.ret (Value.ref s.heap.objs.size))) { s with heap := s.heap.push { cls := Value.type "tuple", data := Data.seq #[] }, toks := s.toks }) :=
  .of_wp fun prog w A R s h => by
    obtain ⟨hp, g, d, tk, os⟩ := s
    obtain ⟨hl, h⟩ := h
    have f1 := AutoSeq1.idx_int
    wp_walk using wpAny_loadPart' hl
    exact ⟨_, rfl, h⟩
def rRep01 (K : PySem.W.Frag) : R2 := fun x y H Q => ∃ (l : Addr) (k : Int) (xs : List V), x = .ref l ∧ y = .int k ∧ SqT K H l xs ∧ xs ≠ [] ∧ (k = 0 ∨ k = 1) ∧ (k = 1 → Q (.ref l) H) ∧ (k = 0 → ∀ p, H p = none → Q (.ref p) (upd H p (.tup [])))
theorem op_rep01 {X : Cx} : OpR X (binaryOp .Mult) (rRep01 X.K) := by
  intro pins s σ H x y v u Q I rx ry h
  obtain ⟨l, k, xs, rfl, rfl, hT, hne, hk, q1, q0⟩ := h
  cases rx
  obtain ⟨t, rfl⟩ := ry
  obtain ⟨its, r, ⟨⟨cls, dd, data, sl⟩, ho, hc, n, hd⟩, hs⟩ := I.tuple hT
  simp only at hc hd
  subst hc hd
  have hi : its.toArray.isEmpty = false := by
    cases its with
    | nil => exact absurd (List.eq_nil_of_length_eq_zero r.length) hne
    | cons a b => rfl
  rcases hk with rfl | rfl
  · refine wpAny_binaryOp_repeat_ref (T := "tuple") (U := "int") (by decide) ⟨_, ho, rfl⟩ (fun s' => typeIs_int s' 0 t) noFill_tuple_mul F.fills_int_mul F.slot_int_rmul repeat_tuple F.slot_int_index.lookup
      (call_meets F.slot_int_rmul (typeIs_int s 0 t) F.entry_int_rmul (F.args_int_rmul_2 _ _) (int_rmul_tuple 0 t l its.toArray n dd sl)
        ⟨ho, rfl, ⟨_, ho, rfl⟩, call_meets F.slot_tuple_mul ⟨_, ho, rfl⟩ F.entry_tuple_mul (F.args_tuple_mul_2 _ _) (tup_mul0 l its.toArray n dd sl t hi) ⟨ho, ?_⟩⟩)
    exact ⟨.ref s.heap.objs.size, _, I.laid (t' := s.toks) (o := .tup []) (fun b ob q => Heap.get?_push_of_some _ q) (Nat.le_refl _) ⟨by show 0 ≤ sizeLine; decide, [], .nil, IsTup.new _ _⟩, rfl, q0 rfl _ (I.hok.fresh (Nat.le_refl _))⟩
  · refine wpAny_binaryOp_repeat_ref (T := "tuple") (U := "int") (by decide) ⟨_, ho, rfl⟩ (fun s' => typeIs_int s' 1 t) noFill_tuple_mul F.fills_int_mul F.slot_int_rmul repeat_tuple F.slot_int_index.lookup
      (call_meets F.slot_int_rmul (typeIs_int s 1 t) F.entry_int_rmul (F.args_int_rmul_2 _ _) (int_rmul_tuple 1 t l its.toArray n dd sl)
        ⟨ho, rfl, ⟨_, ho, rfl⟩, call_meets F.slot_tuple_mul ⟨_, ho, rfl⟩ F.entry_tuple_mul (F.args_tuple_mul_2 _ _) (tup_mul1 l its.toArray n dd sl t) ⟨ho, ?_⟩⟩)
    exact ⟨.ref l, H, I, rfl, q1 rfl⟩
end Ns

/-! NsW: isinstance of data; t != (); t[::-1]; t * k; 'b' * k. -/
namespace Ns
open PySem PySem.Spec PyProof.Rows L2
/-- the name of a datum's class -/
def tyN : PyData → String
  | .none => "NoneType"
  | .bool _ => "bool"
  | .int _ => "int"
  | .str _ => "str"
  | .list _ => "list"
  | .tuple _ => "tuple"
  | .dict _ => "dict"
theorem tyX_lst {K : PySem.W.Frag} {H : Hp} {a : Addr} {xs : List V} (h : SqL K H a xs) : TyX K H (.ref a) (.type "list") := by
  rcases h with (h | ⟨o, h⟩) | ⟨o, _, _, h, c, _⟩
  · exact .base (.lst h)
  · exact .base (.frz h)
  · exact .kList h c
theorem tyX_tup {K : PySem.W.Frag} {H : Hp} {a : Addr} {xs : List V} (h : SqT K H a xs) : TyX K H (.ref a) (.type "tuple") := by
  rcases h with (h | ⟨o, h⟩) | ⟨o, _, _, h, c, _⟩
  · exact .base (.tup h)
  · exact .fTuple h
  · exact .kTuple h c
theorem tyX_dat {K : PySem.W.Frag} {H : Hp} {x : V} {d : PyData} (D : DatV K H x d) : TyX K H x (.type (tyN d)) := by
  cases D with
  | non => exact .base .non
  | bl b => exact .base (.bl b)
  | int i => exact .base (.int i)
  | str z => exact .base (.str z)
  | lst h _ => exact tyX_lst h
  | tup h _ => exact tyX_tup h
  | dic h _ => exact .base (.dK h)
section
variable {X : Cx}
/-- isinstance(x, T), x any datum -/
def rIsD (K : PySem.W.Frag) (t : String) (f : PyData → Bool) : List V → Hp → VK → Prop := fun xs H Q => ∃ (x : V) (d : PyData), xs = [x, .ty t] ∧ DatV K H x d ∧ Q (.bl (f d)) H
theorem call_isD {t : String} {f : PyData → Bool} (hf : ∀ d, kitB (tyN d) t = some (f d)) : CallR X (.builtin "isinstance") (rIsD X.K t f) := by
  intro pins s σ H xs us Q I r h
  obtain ⟨x, d, rfl, D, q⟩ := h
  exact call_isi pins s σ H _ us Q I r ⟨x, .ty t, _, _, f d, rfl, .ty t, tyX_dat D, kit_ty (hf d), q⟩
def qT : PyData → Bool | .tuple _ => true | _ => false
def qI : PyData → Bool | .int _ => true | .bool _ => true | _ => false
def qB : PyData → Bool | .bool _ => true | _ => false
def qS : PyData → Bool | .str _ => true | _ => false
def qD : PyData → Bool | .dict _ => true | _ => false
theorem kit_T : ∀ d, kitB (tyN d) "tuple" = some (qT d) := fun d => by cases d <;> simp only [tyN, qT, qI, qB, qS, qD] <;> decide +kernel
theorem kit_I : ∀ d, kitB (tyN d) "int" = some (qI d) := fun d => by cases d <;> simp only [tyN, qT, qI, qB, qS, qD] <;> decide +kernel
theorem kit_B : ∀ d, kitB (tyN d) "bool" = some (qB d) := fun d => by cases d <;> simp only [tyN, qT, qI, qB, qS, qD] <;> decide +kernel
theorem kit_S : ∀ d, kitB (tyN d) "str" = some (qS d) := fun d => by cases d <;> simp only [tyN, qT, qI, qB, qS, qD] <;> decide +kernel
theorem kit_D : ∀ d, kitB (tyN d) "dict" = some (qD d) := fun d => by cases d <;> simp only [tyN, qT, qI, qB, qS, qD] <;> decide +kernel
/-- t != (), any tuple -/
def rNeE (K : PySem.W.Frag) : R2 := fun x y H Q => ∃ (a b : Addr) (xs : List V), x = .ref a ∧ y = .ref b ∧ SqT K H a xs ∧ SqT K H b [] ∧ Q (.bl (!decide (xs = []))) H
theorem op_neE (hu : X.A.units + 64 < cLine) : OpR X (compareOp .NotEq) (rNeE X.K) := by
  intro pins s σ H x y v u Q I rx ry h
  obtain ⟨a, b, xs, rfl, rfl, ha, hb, q⟩ := h
  cases (show v = Value.ref a from rx)
  cases (show u = Value.ref b from ry)
  obtain ⟨us, r1, ⟨o1, h1, h2, n1, h3⟩, _⟩ := I.tuple ha
  obtain ⟨ws, r2, ⟨o2, g1, g2, n2, g3⟩, _⟩ := I.tuple hb
  have z : ws = [] := by cases r2; rfl
  subst z
  refine SeqAt.RcNeAt.tuples (e := fun _ => true) ⟨o1, h1, h2, n1, h3⟩ ⟨o2, g1, g2, n2, g3⟩ (by omega) (fun j _ j2 => absurd j2 (Nat.not_lt_zero j)) _ _ _ _ ?_
  have e : (!((List.range (min us.toArray.size ([] : List Value).toArray.size)).all (fun _ => true) && us.toArray.size == ([] : List Value).toArray.size)) = !decide (xs = []) := by
    have l1 := r1.length
    cases xs with
    | nil => cases us with
      | nil => rfl
      | cons _ _ => cases l1
    | cons _ _ => cases us with
      | nil => cases l1
      | cons _ _ => simp
  exact ⟨.bl (!decide (xs = [])), H, I, congrArg Value.bool e, q⟩
end
theorem filterMap_some {α β : Type} {f : α → Option β} {g : α → β} : ∀ {l : List α}, (∀ k ∈ l, f k = some (g k)) → l.filterMap f = l.map g
  | [], _ => rfl
  | a :: l, h => by
    rw [List.filterMap_cons, h a List.mem_cons_self, List.map_cons, filterMap_some fun k hk => h k (List.mem_cons_of_mem _ hk)]
section
variable {prog : Program} {w : World} {A : Around} {E : Value → Shared → Prop} {s : Shared}
theorem pick_back (xs : Array Value) : (List.range xs.size).filterMap (fun k : Nat => xs[((xs.size : Int) - 1 + (k : Int) * (-1)).toNat]?) = xs.toList.reverse := by
  refine List.ext_getElem? fun i => ?_
  have e : (List.range xs.size).filterMap (fun k : Nat => xs[((xs.size : Int) - 1 + (k : Int) * (-1)).toNat]?) = (List.range xs.size).map (fun k : Nat => (xs.toList.reverse)[k]?.getD .none) := by
    refine filterMap_some fun k hk => ?_
    have hk' := List.mem_range.mp hk
    have e1 : ((xs.size : Int) - 1 + (k : Int) * (-1)).toNat = xs.size - 1 - k := by omega
    have e2 : xs[xs.size - 1 - k]? = some xs[xs.size - 1 - k] := Array.getElem?_eq_getElem (by omega)
    rw [e1, e2]
    have e3 : xs.toList.reverse[k]? = some xs[xs.size - 1 - k] := by
      rw [List.getElem?_reverse (by rw [Array.length_toList]; exact hk'), Array.length_toList, Array.getElem?_toList, e2]
    rw [e3]
    rfl
  rw [e, List.getElem?_map]
  by_cases h : i < xs.size
  · rw [List.getElem?_range h]
    have : i < xs.toList.reverse.length := by rw [List.length_reverse, Array.length_toList]; exact h
    rw [List.getElem?_eq_getElem this]
    show some (xs.toList.reverse[i]?.getD .none) = _
    rw [List.getElem?_eq_getElem this]
    rfl
  · rw [List.getElem?_eq_none (by rw [List.length_range]; omega), List.getElem?_eq_none (by rw [List.length_reverse, Array.length_toList]; omega)]
    rfl
theorem applied_back {p : Addr} {u : Tok} {n : Nat} {Q : Int × Int × Nat → Shared → Prop} (hp : s.heap.IsSliceOf p .none .none (.int (-1) u)) (h : Q ((n : Int) - 1, -1, n) s) : wpAny (model prog w) A (Builtin.Slice.sliceApplied (.ref p) (pure (n : Int))) Q E s := by
  obtain ⟨o, e1, e2, e3⟩ := id hp
  unfold Builtin.Slice.sliceApplied Builtin.Slice.sliceFields
  refine wpAny_bind (wpAny_bind (wpAny_field e1 e3 (x := .none) rfl (wpAny_bind (wpAny_field e1 e3 (x := .none) rfl (wpAny_bind (wpAny_field e1 e3 (x := .int (-1) u) rfl (wpAny_pure ?_)))))))
  refine wpAny_bind (slicePart_int ?_)
  have nz : ¬ (((some (-1 : Int)).getD 1 == 0) = true) := by decide
  rw [if_neg nz]
  refine wpAny_bind (slicePart_none (wpAny_bind (slicePart_none (wpAny_bind (wpAny_pure (wpAny_pure ?_))))))
  have e4 : Builtin.Slice.slicePlaces ((n : Int) - 1) (-1) (-1) = n := by
    unfold Builtin.Slice.slicePlaces
    rw [if_neg (by decide)]
    split
    · rw [Int.neg_neg, Int.ediv_one]; omega
    · omega
  have e5 : Builtin.Slice.slicePlaces (Builtin.Slice.sliceAdjust none none (-1) (n : Int)).1 (Builtin.Slice.sliceAdjust none none (-1) (n : Int)).2 (-1) = n := e4
  show Q ((Builtin.Slice.sliceAdjust none none (-1) (n : Int)).1, -1, Builtin.Slice.slicePlaces (Builtin.Slice.sliceAdjust none none (-1) (n : Int)).1 (Builtin.Slice.sliceAdjust none none (-1) (n : Int)).2 (-1)) s
  rw [e5]
  exact h
theorem tup_back {t p : Addr} {its : Array Value} {u : Tok} {Q : Value → Shared → Prop} (ht : IsTup s.heap t its) (hp : s.heap.IsSliceOf p .none .none (.int (-1) u)) (hz : its.size ≤ sizeLine)
    (h : Q (.ref s.heap.objs.size) { s with heap := s.heap.push { cls := .type "tuple", data := .seq its.toList.reverse.toArray } }) : wpAny (model prog w) A (getItem (.ref t) (.ref p)) Q E s := by
  have ok : sizeOk (.seq its.toList.reverse.toArray) := by
    show its.toList.reverse.toArray.size ≤ sizeLine
    rw [List.size_toArray, List.length_reverse, Array.length_toList]
    exact hz
  have ty : s.TypeIs (.ref p) "slice" := by
    obtain ⟨o, e1, e2, _⟩ := hp
    exact ⟨o, e1, e2⟩
  unfold getItem
  refine wpAny_holding ?_
  refine wpAny_bind (wpAny_sequenceKey ht.typeIs (by decide) ?_)
  refine wpAny_bind (wpAny_callSpecial?_slot (name := Str.ofString "__getitem__") ht.typeIs PyProof.Rows.slot_tuple_getitem (wpAny_call_entry PyProof.Rows.slot_tuple_getitem ht.typeIs entry_tuple_getitem ?_ (args_tuple_getitem _ _)))
  show wpAny _ _ (Builtin.Tuple.tupleItemsOf (.ref t) >>= _) _ _ s
  refine wpAny_bind (tupleItemsOf_ ht (wpAny_bind (wpAny_typeOf ty ?_)))
  rw [if_pos (by decide)]
  refine wpAny_bind (applied_back hp ?_)
  have no : ¬ ((((its.size : Int) - 1 == 0) && ((-1 : Int) == 1) && (its.size == its.size)) = true) := by simp
  show wpAny _ _ (if (((its.size : Int) - 1 == 0) && ((-1 : Int) == 1) && (its.size == its.size)) = true then _ else _) _ _ s
  rw [if_neg no, pick_back]
  first
    | exact wpAny_bind (m := Builtin.Tuple.tupleExact _) (wpAny_newObj_type (wpAny_pure ⟨_, rfl, wpAny_pure h⟩) ok)
    | exact wpAny_bind (m := Builtin.Tuple.tupleExact _) (wpAny_newObj_type (wpAny_bind (wpAny_pure (wpAny_pure ⟨_, rfl, wpAny_pure h⟩))) ok)
    | exact wpAny_bind (wpAny_bind (m := Builtin.Tuple.tupleExact _) (wpAny_newObj_type (wpAny_pure (wpAny_pure ⟨_, rfl, wpAny_pure h⟩)) ok))
    | exact wpAny_bind (wpAny_bind (m := Builtin.Tuple.tupleExact _) (wpAny_newObj_type (wpAny_pure ⟨_, rfl, wpAny_pure h⟩) ok))
end
section
variable {X : Cx}
/-- t[::-1] -/
def tRevT (K : PySem.W.Frag) (te : TE) : TE := fun σ H Q => te σ H fun x H1 => ∃ a xs, x = .ref a ∧ SqT K H1 a xs ∧ ∀ p, H1 p = none → Q (.ref p) (upd H1 p (.tup xs.reverse))
theorem pe_revT {e : Expr} {te : TE} {k : Nat} {p1 p2 p3 pos : Pos} (he : PE X e te) : PE X (.Subscript e (.Slice none none (some (.UnaryOp .USub (.Constant (.int 1) k p1) p2)) p3) pos) (tRevT X.K te) := by
  constructor
  intro pins s σ H Q I h
  have st : PO X (some (.UnaryOp .USub (.Constant (.int 1) k p1) p2)) (tPart (tUn (rU fun i => .int (-i)) (tC (.int 1)))) := po_some (pe_un un_neg pe_int)
  refine Subscript_ (thn (he.run pins s σ H _ I h) ?_)
  rintro v s1 ⟨x, H1, I1, r1, a, xs, rfl, hx, q⟩
  cases (show v = Value.ref a from r1)
  refine wpAny_Slice (wpAny_pure (wpAny_pure (thn (st.run pins s1 σ H1 (fun o H4 => o = some (-1) ∧ H4 = H1) I1 ⟨1, rfl, -1, rfl, rfl, rfl⟩) ?_)))
  rintro vs s4 ⟨o, H4, I4, ps, rfl, rfl⟩
  obtain ⟨u, rfl⟩ : ∃ u, vs = .int (-1) u := by cases ps; exact ⟨_, rfl⟩
  have I5 : Inv X pins σ H4 { s4 with heap := s4.heap.push { cls := .type "slice", data := .fields #[.none, .none, .int (-1) u] } } := I4.kept (t' := s4.toks) fun b ob q => Heap.get?_push_of_some _ q
  obtain ⟨its, r, ht, hz⟩ := I5.tuple hx
  have ln := r.length
  show wpAny (model X.prog X.w) X.A (subscriptTail e (.Slice none none (some (.UnaryOp .USub (.Constant (.int 1) k p1) p2)) p3) (.ref a) (.ref s4.heap.objs.size)) (EP X pins σ Q) X.xe { s4 with heap := s4.heap.push { cls := .type "slice", data := .fields #[.none, .none, .int (-1) u] } }
  refine tail_any (ops := [.ref a, .ref s4.heap.objs.size]) ht.typeIs (PyProof.Rows.slot_tuple_getitem.lookup) ?_ (by with_unfolding_all rfl)
  refine tup_back ht (Heap.IsSliceOf.new _ .none .none (.int (-1) u)) (by rw [List.size_toArray, ← ln]; exact hz) ?_
  refine ⟨.ref _, _, I5.laid (t' := s4.toks) (o := .tup xs.reverse) (fun b ob q => Heap.get?_push_of_some _ q) (Nat.le_refl _) ?_, rfl, q _ (I5.hok.fresh (Nat.le_refl _))⟩
  exact ⟨by rw [List.length_reverse]; exact hz, _, r.reverse, IsTup.new _ _⟩
/-- t * k, k from 0 on, t not empty -/
def rRepN (K : PySem.W.Frag) : R2 := fun x y H Q => ∃ (l : Addr) (k : Nat) (xs : List V), x = .ref l ∧ y = .int k ∧ SqT K H l xs ∧ xs ≠ [] ∧ k ≤ 1000 ∧ xs.length ≤ 1000 ∧ ∀ (p : Addr) (H' : Hp), Same H H' → SqT K H' p (List.replicate k xs).flatten → Q (.ref p) H'
theorem op_repN : OpR X (binaryOp .Mult) (rRepN X.K) := by
  intro pins s σ H x y v u Q I rx ry h
  obtain ⟨l, k, xs, rfl, rfl, hT, hne, h1, h2, q⟩ := h
  have nw : ∀ (p : Addr) (ys : List V), H p = none → Same H (upd H p (.tup ys)) := fun p ys hp c o e => by rw [upd_ne (ne_of_none e hp)]; exact e
  by_cases c : 2 ≤ k
  · refine op_repT pins s σ H _ _ v u Q I rx ry ⟨l, (k : Int), xs, rfl, rfl, hT, hne, by omega, by omega, h2, fun p hp => ?_⟩
    exact q p _ (nw p _ hp) (SqT.of upd_same)
  · refine op_rep01 pins s σ H _ _ v u Q I rx ry ⟨l, (k : Int), xs, rfl, rfl, hT, hne, by omega, fun e => ?_, fun e p hp => ?_⟩
    · have e1 : k = 1 := by omega
      subst e1
      exact q l H (Same.refl H) (by simpa using hT)
    · have e1 : k = 0 := by omega
      subst e1
      exact q p _ (nw p _ hp) (SqT.of upd_same)
theorem fold_size {α : Type} (a : Array α) : ∀ (k : Nat) (b : Array α), ((List.replicate k a).foldl (· ++ ·) b).size = b.size + k * a.size
  | 0, b => by simp
  | k + 1, b => by
    rw [List.replicate_succ, List.foldl_cons, fold_size a k, Array.size_append, Nat.succ_mul]
    omega
theorem mulS_len (z : Str) (k : Nat) : (⟨(List.replicate k z.cps).foldl (· ++ ·) #[]⟩ : Str).length = k * z.length := by
  have := fold_size z.cps k #[]
  show Array.size _ = k * z.cps.size
  rw [this]
  simp
/-- 'b' * k -/
def rMulS : R2 := fun x y H Q => ∃ (z : Str) (k : Nat), x = .str z ∧ y = .int k ∧ 2 ≤ k ∧ k ≤ 1000 ∧ 1 ≤ z.length ∧ z.length ≤ 1000 ∧ Q (.str ⟨(List.replicate k z.cps).foldl (· ++ ·) #[]⟩) H
theorem op_mulStr : OpR X (binaryOp .Mult) rMulS := by
  intro pins s σ H x y v u Q I rx ry h
  obtain ⟨z, k, rfl, rfl, h1, h2, h3, h4, q⟩ := h
  obtain ⟨t, rfl⟩ := (show ∃ t, v = Value.str z t from rx)
  obtain ⟨t2, rfl⟩ := (show ∃ t, u = Value.int k t from ry)
  have hm : z.length * k ≤ 1000 * 1000 := Nat.mul_le_mul h4 h2
  have no : (((k : Int) == 1) || (z.length == 0)) = false := by
    rw [Bool.or_eq_false_iff]
    exact ⟨beq_eq_false_iff_ne.mpr (by omega), beq_eq_false_iff_ne.mpr (by omega)⟩
  refine P.mul_str ?_ (fun _ _ => ?_) (fun _ _ => ?_) ?_
  · rw [decide_eq_false (by omega), decide_eq_false (by omega)]; rfl
  · have : (1000 : Int) ≤ (2 ^ 63 - 1) / (k : Int) := Int.le_ediv_of_mul_le (by omega) (by omega)
    omega
  · unfold Builtin.Str.tooLong
    rw [sizeLine_eq, Int.toNat_natCast]
    exact decide_eq_false (by omega)
  · rw [if_neg (by omega), no]
    exact ⟨by rw [Int.toNat_natCast, mulS_len, Nat.mul_comm, sizeLine_eq]; omega, ⟨.str _, H, I.tok _, ⟨_, rfl⟩, by rw [Int.toNat_natCast]; exact q⟩⟩
end
end Ns

/-! OB: data within bounds; data in a heap but for the bag. -/
namespace Y
open PySem PySem.Spec PyProof.Rows L2 Ns
mutual
/-- no row, text or number is longer than w -/
def Bd (w : Nat) : PyData → Prop
  | .none => True
  | .bool _ => True
  | .int i => i.natAbs < 10 ^ w
  | .str z => z.length ≤ w
  | .list ds => ds.length ≤ w ∧ BdA w ds
  | .tuple ds => ds.length ≤ w ∧ BdA w ds
  | .dict kvs => kvs.length ≤ w
def BdA (w : Nat) : List PyData → Prop
  | [] => True
  | d :: ds => Bd w d ∧ BdA w ds
end
theorem bdA_iff {w : Nat} : ∀ {ds : List PyData}, BdA w ds ↔ ∀ d ∈ ds, Bd w d
  | [] => by simp [BdA]
  | d :: ds => by
    have ih := bdA_iff (w := w) (ds := ds)
    simp only [BdA, List.mem_cons, forall_eq_or_imp, ih]
theorem pow_up {i w w' : Nat} (h : i < 10 ^ w) (hw : w ≤ w') : i < 10 ^ w' := Nat.lt_of_lt_of_le h (Nat.pow_le_pow_right (by decide) hw)
mutual
theorem Bd.up {w w' : Nat} (hw : w ≤ w') : ∀ {d : PyData}, Bd w d → Bd w' d
  | .none, _ => by simp only [Bd]
  | .bool _, _ => by simp only [Bd]
  | .int i, h => by simp only [Bd] at h ⊢; exact pow_up h hw
  | .str z, h => by simp only [Bd] at h ⊢; omega
  | .list ds, h => by simp only [Bd] at h ⊢; exact ⟨by omega, BdA.up hw h.2⟩
  | .tuple ds, h => by simp only [Bd] at h ⊢; exact ⟨by omega, BdA.up hw h.2⟩
  | .dict kvs, h => by simp only [Bd] at h ⊢; omega
theorem BdA.up {w w' : Nat} (hw : w ≤ w') : ∀ {ds : List PyData}, BdA w ds → BdA w' ds
  | [], _ => by simp only [BdA]
  | d :: ds, h => by simp only [BdA] at h ⊢; exact ⟨Bd.up hw h.1, BdA.up hw h.2⟩
end
theorem datA_mem {K : PySem.W.Frag} {H : Hp} : ∀ {xs : List V} {ds : List PyData}, DatA K H xs ds → ∀ {x : V}, x ∈ xs → ∃ d ∈ ds, DatV K H x d
  | _, _, .cons (d := d) h t, x, hx => by
    rcases List.mem_cons.mp hx with e | e
    · exact ⟨d, List.mem_cons_self, by rw [e]; exact h⟩
    · obtain ⟨d', h1, h2⟩ := datA_mem t e
      exact ⟨d', List.mem_cons_of_mem _ h1, h2⟩
theorem datA_at {K : PySem.W.Frag} {H : Hp} : ∀ {xs : List V} {ds : List PyData}, DatA K H xs ds → ∀ {i : Nat} {x : V}, xs[i]? = some x → ∃ d, ds[i]? = some d ∧ DatV K H x d
  | _, _, .cons (d := d) h _, 0, x, e => by
    rw [List.getElem?_cons_zero] at e
    cases e
    exact ⟨d, rfl, h⟩
  | _, _, .cons _ t, i + 1, x, e => by
    rw [List.getElem?_cons_succ] at e
    exact datA_at t e
theorem datA_app {K : PySem.W.Frag} {H : Hp} : ∀ {xs : List V} {ds : List PyData}, DatA K H xs ds → ∀ {ys : List V} {es : List PyData}, DatA K H ys es → DatA K H (xs ++ ys) (ds ++ es)
  | _, _, .nil, _, _, h => h
  | _, _, .cons h t, _, _, g => .cons h (datA_app t g)
theorem datA_take {K : PySem.W.Frag} {H : Hp} : ∀ {xs : List V} {ds : List PyData}, DatA K H xs ds → ∀ n : Nat, DatA K H (xs.take n) (ds.take n)
  | _, _, .nil, n => by rw [List.take_nil, List.take_nil]; exact .nil
  | _, _, .cons _ _, 0 => .nil
  | _, _, .cons h t, n + 1 => .cons h (datA_take t n)
theorem datA_drop {K : PySem.W.Frag} {H : Hp} : ∀ {xs : List V} {ds : List PyData}, DatA K H xs ds → ∀ n : Nat, DatA K H (xs.drop n) (ds.drop n)
  | _, _, .nil, n => by rw [List.drop_nil, List.drop_nil]; exact .nil
  | _, _, .cons h t, 0 => .cons h t
  | _, _, .cons _ t, n + 1 => datA_drop t n
theorem datA_rev {K : PySem.W.Frag} {H : Hp} : ∀ {xs : List V} {ds : List PyData}, DatA K H xs ds → DatA K H xs.reverse ds.reverse
  | _, _, .nil => .nil
  | _, _, .cons h t => by
    rw [List.reverse_cons, List.reverse_cons]
    exact datA_app (datA_rev t) (.cons h .nil)
theorem datA_ints {K : PySem.W.Frag} {H : Hp} : ∀ ns : List Int, DatA K H (ns.map V.int) (ns.map PyData.int)
  | [] => .nil
  | n :: ns => .cons (.int n) (datA_ints ns)
theorem sqt_wo' {K : PySem.W.Frag} {H : Hp} {b p : Addr} {xs : List V} (h : SqT K H p xs) (B : Bag H b) : SqT K (wo H b) p xs := by
  have nb : ∀ {o : HO}, H p = some o → (∀ l, o ≠ .lst l) → p ≠ b := fun {o} e n z => by
    obtain ⟨_, _, _, _, _, h1, _⟩ := B
    rw [z, h1] at e
    exact n _ (Option.some.inj e).symm
  rcases h with (h | ⟨o, h⟩) | h
  · exact .inl (.inl ((wo_ne (nb h (fun l z => by cases z))).trans h))
  · exact .inl (.inr ⟨o, (wo_ne (nb h (fun l z => by cases z))).trans h⟩)
  · exact .inr h
/-- t[lo:hi], the result by what stands at it -/
def rSlP (K : PySem.W.Frag) : V → Option Int → Option Int → Hp → VK → Prop := fun x lo hi H Q => ∃ a xs, x = .ref a ∧ SqT K H a xs ∧ ∀ (p : Addr) (H' : Hp), Same H H' → SqT K H' p (cutV xs lo hi) → Q (.ref p) H'
theorem cut_all {xs : List V} {lo hi : Option Int} (h : HT.sIx xs.length 0 lo = 0 ∧ HT.sIx xs.length xs.length hi = xs.length) : cutV xs lo hi = xs := by
  unfold cutV
  rw [h.1, h.2, List.drop_zero, Nat.sub_zero, List.take_length]
theorem sl_tupP {X : Cx} : SlR X (rSlP X.K) := by
  intro pins s σ H x v vl vu lo hi sl Q I rx hs pl pu h
  obtain ⟨a, xs, rfl, hx, q⟩ := h
  exact sl_tupA pins s σ H _ v vl vu lo hi sl Q I rx hs pl pu ⟨a, xs, rfl, hx, fun e => q a H (Same.refl H) (by rw [cut_all e]; exact hx), fun _ p hp => q p _ (same_new (Same.refl H) hp) (SqT.of upd_same)⟩
/-- t + u, the result by what stands at it -/
def rCatP (K : PySem.W.Frag) : R2 := fun x y H Q => ∃ a b xs ys, x = .ref a ∧ y = .ref b ∧ SqT K H a xs ∧ SqT K H b ys ∧ xs.length + ys.length ≤ sizeLine ∧ ∀ (p : Addr) (H' : Hp), Same H H' → SqT K H' p (xs ++ ys) → Q (.ref p) H'
theorem op_catP {X : Cx} : OpR X (binaryOp .Add) (rCatP X.K) := by
  intro pins s σ H x y v u Q I rx ry h
  obtain ⟨a, b, xs, ys, rfl, rfl, ha, hb, hz, q⟩ := h
  refine op_catA pins s σ H _ _ v u Q I rx ry ⟨a, b, xs, ys, rfl, rfl, ha, hb, hz, fun e => q b H (Same.refl H) (by rw [e]; exact hb), fun _ e => q a H (Same.refl H) (by rw [e, List.append_nil]; exact ha), fun _ _ p hp => q p _ (same_new (Same.refl H) hp) (SqT.of upd_same)⟩
end Y

namespace Y
open PySem PySem.Spec PyProof.Rows L2 Ns
open C8 (pss_cut)
/-- the things in some order: a new list -/
def spMixed (K : PySem.W.Frag) : Sp := fun as H Q _ => ∃ (b a : Addr) (xs : List V), as = [.ref b, .ref a] ∧ Bag H b ∧ SqL K (wo H b) a xs ∧ xs.length ≤ 1000 ∧
  ∀ (p : Addr) (ys : List V) (H' : Hp), ys.Perm xs → H' p = some (.lst ys) → H p = none → p ≠ b → Bag H' b → Sb b H H' → Q (.ref p) H'
/-- one sign of a text -/
def spSomeS : Sp := fun as H Q _ => ∃ (b : Addr) (z : Str), as = [.ref b, .str z] ∧ Bag H b ∧ z.length ≠ 0 ∧ z.length ≤ 1000 ∧ ∀ (c : Nat) (H' : Hp), c ∈ z.cps.toList → Bag H' b → Sb b H H' → Q (.str ⟨#[c]⟩) H'
section
variable {P : Program} {w : World} {K : PySem.W.Frag} {mg : Str → Option Value} {base : Heap}
theorem ok_someS {f fT : Addr} {fd fdT : FuncData} (F : Fun K "_law_some" "_law_some" sSome f fd) (T : Nat0 mg) (FT : Fun K "_law_take" "_law_take" sTake fT fdT) (mT : mg "_law_take" = some (.ref fT)) (bT : Binds K fdT ["bag", "many"] []) :
    FnOk P w K mg base CX0 2 f fd ["bag", "things"] spSomeS := by
  have GT : FnOk P w K mg base CX0 1 fT fdT ["bag", "many"] spTake := ok_take FT T
  refine F.ok scS (fun as H Q E h => ?_) (fun cdv A outer s H as Q E hr h => ?_)
  · obtain ⟨b, z, rfl, _⟩ := h
    rfl
  · obtain ⟨b, z, rfl, hB, hne, hl, k⟩ := h
    refine ⟨_, pss_one (ps_ret (pe_ix ix_str (pv 1) (pe_call GT hr rfl mT FT.kp bT .nil pass0 (pa_cons (pv 0) (pa_cons (pe_callB call_len_str (by rfl) T.len PySem.boot_len (pa_cons (pv 1) pa_nil)) pa_nil))) (fun _ _ => rfl))), ?_⟩
    refine ⟨_, rfl, _, rfl, _, rfl, z, rfl, Nat.le_of_lt (small1000 hl), b, _, rfl, hB, by omega, ?_, fun v H' h0 h1 hB' sb => ?_⟩
    · exact Nat.lt_of_le_of_lt (show ((z.length : Int)).natAbs ≤ 1000 by omega) (by decide)
    · have hi : v.toNat < z.cps.toList.length := by
        have e : z.cps.toList.length = z.length := by first | rfl | simp [PySem.Str.length]
        omega
      have ev : v = ((v.toNat : Nat) : Int) := by omega
      obtain ⟨c, ec⟩ : ∃ c, z.cps.toList[v.toNat]? = some c := ⟨_, List.getElem?_eq_getElem hi⟩
      refine ⟨z, v, c, rfl, rfl, Nat.le_of_lt (small1000 hl), by rw [ev]; exact atI_nat ec, ?_⟩
      exact k c H' (List.mem_of_getElem? ec) hB' sb
end
end Y

/-! names, as texts: what is one, and that a row of tries comes to a new one -/
namespace Y
open PySem PySem.Spec PyProof.Rows L2 Ns
def isL (c : Nat) : Prop := 97 ≤ c ∧ c ≤ 122
def isD (c : Nat) : Prop := 48 ≤ c ∧ c ≤ 57
def isS (c : Nat) : Prop := isL c ∨ isD c
instance (c : Nat) : Decidable (isL c) := inferInstanceAs (Decidable (_ ∧ _))
instance (c : Nat) : Decidable (isD c) := inferInstanceAs (Decidable (_ ∧ _))
instance (c : Nat) : Decidable (isS c) := inferInstanceAs (Decidable (_ ∨ _))
/-- the signs of a name -/
def NmL (n : List Nat) : Prop := ∃ c r, n = c :: r ∧ isL c ∧ (∀ d ∈ r, isS d) ∧ r.length ≤ 19
def Nm (x : Str) : Prop := NmL x.cps.toList
abbrev letters : Str := "abcdefghijklmnopqrstuvwxyz"
abbrev signs : Str := "abcdefghijklmnopqrstuvwxyz0123456789"
theorem letters_ok : ∀ c ∈ letters.cps.toList, isL c := by decide +kernel
theorem signs_ok : ∀ c ∈ signs.cps.toList, isS c := by decide +kernel
theorem len_cps (z : Str) : z.cps.toList.length = z.length := by first | rfl | simp [PySem.Str.length]
theorem str_ext {x y : Str} (h : x.cps.toList = y.cps.toList) : x = y := by
  cases x
  cases y
  exact congrArg PySem.Str.mk (Array.toList_inj.mp h)
theorem Nm.len {x : Str} (h : Nm x) : 1 ≤ x.length ∧ x.length ≤ 20 := by
  obtain ⟨c, r, e, _, _, h⟩ := h
  rw [← len_cps, e, List.length_cons]
  omega
theorem nm_one {c : Nat} (h : isL c) : Nm ⟨#[c]⟩ := ⟨c, [], rfl, h, (fun _ z => nomatch z), by decide⟩
theorem nm_snoc {x : Str} {c : Nat} (h : Nm x) (hl : x.length ≤ 19) (hc : isS c) : Nm (x ++ ⟨#[c]⟩) := by
  obtain ⟨d, r, e, h1, h2, h3⟩ := h
  refine ⟨d, r ++ [c], by rw [cps_toList_append, e]; rfl, h1, fun k hk => ?_, ?_⟩
  · rcases List.mem_append.mp hk with q | q
    · exact h2 k q
    · rw [List.mem_singleton] at q
      rw [q]; exact hc
  · have q : x.cps.toList.length ≤ 19 := by rw [len_cps]; exact hl
    rw [e, List.length_cons] at q
    rw [List.length_append, List.length_singleton]
    omega
theorem cut_list (z : Str) (k : Nat) : (cutS z none (some (k : Int))).cps.toList = z.cps.toList.take k := by
  have e : HT.sIx z.length 0 none = 0 := rfl
  unfold cutS
  show ((z.cps.toList.drop (HT.sIx z.length 0 none)).take (HT.sIx z.length z.length (some (k : Int)) - HT.sIx z.length 0 none)) = _
  rw [e, List.drop_zero, Nat.sub_zero]
  have h : HT.sIx z.length z.length (some (k : Int)) = min k z.length := by
    unfold HT.sIx
    simp
    try omega
  rw [h, ← len_cps]
  rw [List.take_eq_take_iff]
  omega
theorem nm_cut {x : Str} {k : Nat} (h : Nm x) (hk : 1 ≤ k) : Nm (cutS x none (some (k : Int))) ∧ (cutS x none (some (k : Int))).length ≤ k := by
  obtain ⟨c, r, e, h1, h2, h3⟩ := h
  have q := cut_list x k
  obtain ⟨m, rfl⟩ : ∃ m, k = m + 1 := ⟨k - 1, by omega⟩
  rw [e, List.take_succ_cons] at q
  refine ⟨⟨c, r.take m, q, h1, fun d hd => h2 d (List.mem_of_mem_take hd), ?_⟩, ?_⟩
  · rw [List.length_take]; omega
  · rw [← len_cps, q, List.length_cons, List.length_take]; omega
/-- the digits of a number -/
def Dg (k : Nat) : List Nat := (toString (k : Int) : PySem.Str).cps.toList
theorem dg_digits : ∀ k, k < 101 → (∀ c ∈ Dg k, isD c) ∧ (Dg k).length ≤ 3 := by decide +kernel
theorem dg_inj : ∀ j, j < 101 → ∀ k, k < 101 → Dg j = Dg k → j = k := by decide +kernel
theorem not_both {c : Nat} (h : isL c) (g : isD c) : False := by
  unfold isL at h
  unfold isD at g
  omega
theorem split_same : ∀ {a b : List Nat} {c d : Nat} {r t : List Nat}, (∀ x ∈ a, isD x) → (∀ x ∈ b, isD x) → isL c → isL d → a ++ c :: r = b ++ d :: t → a = b
  | [], [], _, _, _, _, _, _, _, _, _ => rfl
  | [], y :: b, c, d, r, t, _, hb, hc, _, h => by
    injection h with h1 h2
    rw [h1] at hc
    exact (not_both hc (hb y List.mem_cons_self)).elim
  | x :: a, [], c, d, r, t, ha, _, _, hd, h => by
    injection h with h1 h2
    rw [← h1] at hd
    exact (not_both hd (ha x List.mem_cons_self)).elim
  | x :: a, y :: b, c, d, r, t, ha, hb, hc, hd, h => by
    injection h with h1 h2
    rw [h1, split_same (fun z hz => ha z (List.mem_cons_of_mem _ hz)) (fun z hz => hb z (List.mem_cons_of_mem _ hz)) hc hd h2]
/-- the k-th try -/
def Tr (k : Nat) (x : Str) : Prop := ∃ c r, isL c ∧ x.cps.toList = 120 :: (Dg k ++ c :: r)
theorem tr_inj {j k : Nat} {x : Str} (hj : j < 101) (hk : k < 101) (h : Tr j x) (g : Tr k x) : j = k := by
  obtain ⟨c, r, h1, h2⟩ := h
  obtain ⟨d, t, g1, g2⟩ := g
  rw [h2] at g2
  injection g2 with _ e
  exact dg_inj j hj k hk (split_same (dg_digits j hj).1 (dg_digits k hk).1 h1 g1 e)
def tryOf (k : Nat) (x : Str) : Str := ("x" : Str) ++ toString (k : Int) ++ cutS x none (some (16 : Int))
theorem tryOf_cps (k : Nat) (x : Str) : (tryOf k x).cps.toList = 120 :: (Dg k ++ x.cps.toList.take 16) := by
  unfold tryOf
  rw [cps_toList_append, cps_toList_append, show (16 : Int) = ((16 : Nat) : Int) from rfl, cut_list]
  rfl
theorem tr_try {k : Nat} {x : Str} (h : Nm x) : Tr k (tryOf k x) := by
  obtain ⟨c, r, e, h1, _⟩ := h
  exact ⟨c, r.take 15, h1, by rw [tryOf_cps, e]; rfl⟩
theorem nm_try {k : Nat} {x : Str} (h : Nm x) (hk : k < 101) : Nm (tryOf k x) := by
  obtain ⟨c, r, e, h1, h2, h3⟩ := h
  obtain ⟨d1, d2⟩ := dg_digits k hk
  refine ⟨120, Dg k ++ x.cps.toList.take 16, tryOf_cps k x, by decide, fun d hd => ?_, ?_⟩
  · rcases List.mem_append.mp hd with q | q
    · exact .inr (d1 d q)
    · have q' := List.mem_of_mem_take q
      rw [e] at q'
      rcases List.mem_cons.mp q' with z | z
      · rw [z]; exact .inl h1
      · exact h2 d z
  · rw [List.length_append, List.length_take]
    omega
abbrev feed : Str := "feed"
theorem tr_feed {k : Nat} {x : Str} (h : Tr k x) : x ≠ feed := by
  rintro rfl
  obtain ⟨c, r, _, e⟩ := h
  have e' : feed.cps.toList = [102, 101, 101, 100] := by decide +kernel
  rw [e'] at e
  cases e
theorem sub_len {α : Type} [DecidableEq α] : ∀ {l m : List α}, l.Nodup → (∀ x ∈ l, x ∈ m) → l.length ≤ m.length
  | [], _, _, _ => Nat.zero_le _
  | x :: l, m, hn, hs => by
    have hx := hs x List.mem_cons_self
    have q := sub_len (l := l) (m := m.erase x) (List.nodup_cons.mp hn).2 fun y hy => by
      have ne : y ≠ x := fun e => (List.nodup_cons.mp hn).1 (e ▸ hy)
      exact (List.mem_erase_of_ne ne).mpr (hs y (List.mem_cons_of_mem _ hy))
    rw [List.length_erase_of_mem hx] at q
    have := List.length_pos_of_mem hx
    rw [List.length_cons]
    omega
/-- ahead of the i-th turn -/
def Ahead (taken : List Str) (i : Nat) (x : Str) : Prop := Nm x ∧ ((x ∉ taken ∧ x ≠ feed) ∨ i = 0 ∨ ∃ seen : List Str, seen.length + 1 = i ∧ seen.Nodup ∧ (∀ s ∈ seen, s ∈ taken ∧ ∃ k, k + 1 < i ∧ Tr k s) ∧ Tr (i - 1) x)
theorem ahead_good {taken : List Str} {i : Nat} {x : Str} (h : Nm x) (h1 : x ∉ taken) (h2 : x ≠ feed) : Ahead taken (i + 1) x := ⟨h, .inl ⟨h1, h2⟩⟩
theorem ahead_bad {taken : List Str} {i : Nat} {x : Str} (hi : i < 101) (h : Ahead taken i x) (hb : x ∈ taken ∨ x = feed) : Ahead taken (i + 1) (tryOf i x) := by
  obtain ⟨n, h⟩ := h
  refine ⟨nm_try n hi, ?_⟩
  rcases h with ⟨h1, h2⟩ | rfl | ⟨seen, h1, h2, h3, h4⟩
  · rcases hb with q | q
    · exact absurd q h1
    · exact absurd q h2
  · exact .inr (.inr ⟨[], rfl, List.nodup_nil, (fun _ z => nomatch z), tr_try n⟩)
  · have hx : x ∈ taken := by
      rcases hb with q | q
      · exact q
      · exact absurd q (tr_feed h4)
    refine .inr (.inr ⟨x :: seen, by rw [List.length_cons]; omega, List.nodup_cons.mpr ⟨fun hm => ?_, h2⟩, fun s hs => ?_, tr_try n⟩)
    · obtain ⟨_, k, hk, ht⟩ := h3 x hm
      have := tr_inj (by omega) (by omega) ht h4
      omega
    · rcases List.mem_cons.mp hs with e | e
      · rw [e]
        exact ⟨hx, i - 1, by omega, h4⟩
      · obtain ⟨g1, k, g2, g3⟩ := h3 s e
        exact ⟨g1, k, by omega, g3⟩
theorem ahead_end {taken : List Str} {x : Str} (hl : taken.length ≤ 100) (h : Ahead taken (taken.length + 1) x) : Nm x ∧ x ∉ taken ∧ x ≠ feed := by
  obtain ⟨n, h⟩ := h
  refine ⟨n, ?_⟩
  rcases h with h | h | ⟨seen, h1, h2, h3, h4⟩
  · exact h
  · cases h
  · refine ⟨fun hx => ?_, tr_feed h4⟩
    have q := sub_len (l := x :: seen) (m := taken) (List.nodup_cons.mpr ⟨fun hm => ?_, h2⟩) fun s hs => by
      rcases List.mem_cons.mp hs with e | e
      · rw [e]; exact hx
      · exact (h3 s e).1
    · rw [List.length_cons] at q
      omega
    · obtain ⟨_, k, hk, ht⟩ := h3 x hm
      have := tr_inj (by omega) (by omega) ht h4
      omega
end Y

namespace Y
open PySem PySem.Spec PyProof.Rows L2 Ns
open C8 (pss_cut)
def txs (l : List Str) : List V := l.map V.str
def spName (K : PySem.W.Frag) : Sp := fun as H Q _ => ∃ (b a : Addr) (ts : List Str), as = [.ref b, .ref a] ∧ Bag H b ∧ SqL K (wo H b) a (txs ts) ∧ ts.length ≤ 100 ∧ (∀ t ∈ ts, Nm t) ∧ ∀ (x : Str) (H' : Hp), Nm x → x ∉ ts → x ≠ feed → Bag H' b → Sb b H H' → Q (.str x) H'
theorem dp_txs {K : PySem.W.Frag} {H : Hp} : ∀ ts : List Str, DpAll K H (txs ts) (ts.map PyData.str)
  | [] => .nil
  | t :: ts => .cons (.str t) (dp_txs ts)
theorem nm_ok {t : Str} (h : Nm t) : PyData.strOk t = true := by
  obtain ⟨c, r, e, h1, h2, _⟩ := h
  unfold PyData.strOk
  rw [Array.all_eq_true_iff_forall_mem]
  intro x hx
  have hx' : x ∈ t.cps.toList := by simpa using hx
  rw [e] at hx'
  refine decide_eq_true ?_
  rcases List.mem_cons.mp hx' with q | q
  · rw [q]; unfold isL at h1; omega
  · rcases h2 x q with z | z
    · unfold isL at z; omega
    · unfold isD at z; omega
theorem lay_txs : ∀ ts : List Str, (∀ t ∈ ts, Nm t) → PyData.canLayAll0 (ts.map PyData.str) = true ∧ PyData.depthAll (ts.map PyData.str) = 0
  | [], _ => ⟨rfl, rfl⟩
  | t :: ts, h => by
    obtain ⟨h1, h2⟩ := lay_txs ts fun t ht => h t (List.mem_cons_of_mem _ ht)
    exact ⟨by simp [PyData.canLayAll0, PyData.canLay0, h1, nm_ok (h t List.mem_cons_self)], by simp [PyData.depthAll, PyData.depth, h2]⟩
theorem shaped_txs {ts : List Str} (h : ∀ t ∈ ts, Nm t) : SeqAt.shaped (.list (ts.map PyData.str)) = true := by
  obtain ⟨h1, h2⟩ := lay_txs ts h
  simp [SeqAt.shaped, PyData.canLay0, PyData.depth, h1, h2]
theorem flat_txs (ts : List Str) : (txs ts).all flatV = true := by
  rw [List.all_eq_true]
  intro x hx
  obtain ⟨t, _, rfl⟩ := List.mem_map.mp hx
  rfl
theorem in_txs {x : Str} {ts : List Str} : inV (.str x) (txs ts) = true ↔ x ∈ ts := by
  unfold inV txs
  rw [List.any_map, List.any_eq_true]
  constructor
  · rintro ⟨y, hy, h⟩
    have e : y = x := by simpa [L2.eqV] using h
    rw [← e]; exact hy
  · intro h
    exact ⟨x, h, by simp [L2.eqV]⟩
theorem hx20 {x : Str} (h : Nm x) : x.length ≤ sizeLine := Nat.le_of_lt (small1000 (show x.length ≤ 1000 by have := h.len; omega))
section
variable {P : Program} {w : World} {K : PySem.W.Frag} {mg : Str → Option Value} {base : Heap}
theorem scN : FnScope ["bag", "taken", "letters", "signs", "name", "way", "k", "near"] ["bag", "taken"] (defScope sName) := ⟨rfl, rfl, rfl, by decide +kernel, rfl, by decide +kernel, by decide +kernel⟩
theorem ok_name {f fT fS : Addr} {fd fdT fdS : FuncData} (F : Fun K "_law_name" "_law_name" sName f fd) (T : Nat0 mg) (FT : Fun K "_law_take" "_law_take" sTake fT fdT) (mT : mg "_law_take" = some (.ref fT)) (bT : Binds K fdT ["bag", "many"] [])
    (FS : Fun K "_law_some" "_law_some" sSome fS fdS) (mS : mg "_law_some" = some (.ref fS)) (bS : Binds K fdS ["bag", "things"] []) :
    FnOk P w K mg base CX0 3 f fd ["bag", "taken"] (spName K) := by
  have GT : FnOk P w K mg base CX0 1 fT fdT ["bag", "many"] spTake := ok_take FT T
  have GS : FnOk P w K mg base CX0 2 fS fdS ["bag", "things"] (spSome K) := ok_some FS T FT mT bT
  have GZ : FnOk P w K mg base CX0 2 fS fdS ["bag", "things"] spSomeS := ok_someS FS T FT mT bT
  refine F.ok scN (fun as H Q E h => ?_) (fun cdv A outer s H as Q E hr h => ?_)
  · obtain ⟨b, a, ts, rfl, _⟩ := h
    rfl
  · obtain ⟨b, a, ts, rfl, hB, hS, hl, hn, k⟩ := h
    have hr1 : Room 1 _ := hr.mono (by decide)
    refine ⟨_, pss_cons (ps_asg (pe_tup (pa_cons pe_str (pa_cons pe_str pa_nil))) (pg_tup (by rfl) (pgs_cons (pg_name (i := 2) scN.nd rfl (.inl rfl)) (pgs_cons (pg_name (i := 3) scN.nd rfl (.inl rfl)) pgs_nil))))
      (pss_cons (ps_par (i := 4) (j := 5) rfl scN.nd rfl rfl (by decide) rfl rfl (pa_cons (pe_call GZ hr rfl mS FS.kp bS .nil pass0 (pa_cons (pv 0) (pa_cons (pv 2) pa_nil))) (pa_cons (pe_call GT hr1 rfl mT FT.kp bT .nil pass0 (pa_cons (pv 0) (pa_cons pe_int pa_nil))) pa_nil)) (by rfl))
      (pss_cons (ps_for PassesOwn.never rfl (pi_range1 (by rfl) T.range (pa_cons (pe_ix ix_list (pe_lst (pa_cons pe_int (pa_cons pe_int (pa_cons pe_int (pa_cons pe_int (pa_cons pe_int (pa_cons pe_int pa_nil))))))) (pv 5) (fun _ _ => rfl)) pa_nil)) (pg_name (i := 6) scN.nd rfl (.inl rfl))
        (pss_one (ps_set (i := 4) scN.nd rfl (.inl rfl) (pe_op op_add_str (pv 4) (pe_call GZ hr rfl mS FS.kp bS .nil pass0 (pa_cons (pv 0) (pa_cons (pv 3) pa_nil)))))))
      (pss_cut (ps_if (PW.pt (pw_and (pt_cmpR (op_neD hr.units) (pv 1) (pe_lst pa_nil) (nomark _)) (pw_and1 (pt_cmpR op_eq (pe_call GT hr1 rfl mT FT.kp bT .nil pass0 (pa_cons (pv 0) (pa_cons pe_int pa_nil))) pe_int (nomark _)))))
        (pss_cons (ps_set (i := 7) scN.nd rfl (.inl rfl) (pe_call GS hr rfl mS FS.kp bS .nil pass0 (pa_cons (pv 0) (pa_cons (pv 1) pa_nil))))
        (pss_one (ps_set (i := 4) scN.nd rfl (.inl rfl) (pe_op op_add_str (pe_ifExp (pt_cmpR op_eq (pe_call GT hr1 rfl mT FT.kp bT .nil pass0 (pa_cons (pv 0) (pa_cons pe_int pa_nil))) pe_int (nomark _)) (pe_slice sl_str (pv 7) po_none (po_some pe_int)) (pe_slice sl_str (pv 7) po_none (po_some pe_int)))
          (pe_call GZ hr rfl mS FS.kp bS .nil pass0 (pa_cons (pv 0) (pa_cons (pv 3) pa_nil))))))) pss_nil)
      (pss_cons (ps_for PassesOwn.never rfl (pi_range1 (by rfl) T.range (pa_cons (pe_op op_add (pe_callB call_len_seq (by rfl) T.len PySem.boot_len (pa_cons (pv 1) pa_nil)) pe_int) pa_nil)) (pg_name (i := 6) scN.nd rfl (.inl rfl))
        (pss_one (ps_if (PW.pt (pw_or (pt_cmpR op_in_seq (pv 4) (pv 1) (by rfl)) (pw_or1 (pt_cmpR op_eq (pv 4) pe_str (nomark _)))))
          (pss_one (ps_set (i := 4) scN.nd rfl (.inl rfl) (pe_op op_add_str (pe_op op_add_str pe_str (pe_callTy call_str_int (by rfl) T.str (by decide +kernel) (pa_cons (pv 6) pa_nil))) (pe_slice sl_str (pv 4) po_none (po_some pe_int))))) pss_nil)))
      (pss_one (ps_ret (pv 4))))))), ?_⟩
    refine ⟨by show 2 ≤ sizeLine; decide, fun p hp => ?_⟩
    refine ⟨p, _, rfl, SqT.of upd_same, rfl, ?_⟩
    have hB0 : Bag (upd H p (.tup [.str letters, .str signs])) b := hB.new hp
    have s0 : Sb b H (upd H p (.tup [.str letters, .str signs])) := (Sb.refl b H).new hp
    refine ⟨_, _, rfl, _, _, rfl, rfl, ?_⟩
    refine ⟨_, rfl, _, rfl, b, letters, rfl, hB0, by decide, by decide, fun c0 H1 hc0 hB1 s1 => ?_⟩
    refine ⟨_, rfl, b, 6, rfl, hB1, by decide, by decide, fun way H2 w0 w1 hB2 s2 => ?_⟩
    refine ⟨_, _, rfl, ?_⟩
    have s02 := (s0.trans s1).trans s2
    refine ⟨by show 6 ≤ sizeLine; decide, fun q hq => ⟨_, rfl, ?_⟩⟩
    obtain ⟨m, hm, hat⟩ : ∃ m : Nat, m ≤ 19 ∧ atI [V.int 0, V.int 1, V.int 2, V.int 5, V.int 12, V.int 19] way = some (.int m) := by
      have : way = 0 ∨ way = 1 ∨ way = 2 ∨ way = 3 ∨ way = 4 ∨ way = 5 := by omega
      rcases this with rfl | rfl | rfl | rfl | rfl | rfl
      · exact ⟨0, by decide, atI_nat (j := 0) rfl⟩
      · exact ⟨1, by decide, atI_nat (j := 1) rfl⟩
      · exact ⟨2, by decide, atI_nat (j := 2) rfl⟩
      · exact ⟨5, by decide, atI_nat (j := 3) rfl⟩
      · exact ⟨12, by decide, atI_nat (j := 4) rfl⟩
      · exact ⟨19, by decide, atI_nat (j := 5) rfl⟩
    refine ⟨q, _, way, _, rfl, rfl, SqL.of upd_same, hat, ?_⟩
    have hB3 := hB2.new (o := .lst [V.int 0, V.int 1, V.int 2, V.int 5, V.int 12, V.int 19]) hq
    have s3 := s02.new (o := .lst [V.int 0, V.int 1, V.int 2, V.int 5, V.int 12, V.int 19]) hq
    refine ⟨m, rfl, by omega, by omega, for_range (n := (m : Int).toNat) (fun i σ H' => ∃ (x : Str) (kk : Option V), σ = [some (.ref b), some (.ref a), some (.str letters), some (.str signs), some (.str x), some (.int way), kk, none] ∧ Nm x ∧ x.length ≤ i + 1 ∧ Bag H' b ∧ Sb b H H') ?_ ?_ ?_⟩
    · exact ⟨⟨#[c0]⟩, none, rfl, nm_one (letters_ok c0 hc0), Nat.le_refl 1, hB3, s3⟩
    · rintro i σ H' hi ⟨x, kk, rfl, hx, hxl, hB4, s4⟩
      refine ⟨_, rfl, _, rfl, _, rfl, b, signs, rfl, hB4, by decide, by decide, fun c H5 hc hB5 s5 => ?_⟩
      have hz : x.length ≤ 19 := by omega
      refine ⟨x, ⟨#[c]⟩, rfl, rfl, ?_, x ++ ⟨#[c]⟩, _, rfl, nm_snoc hx hz (signs_ok c hc), ?_, hB5, s4.trans s5⟩
      · exact Nat.le_of_lt (small1000 (show x.length + 1 ≤ 1000 by omega))
      · rw [strLen_append]
        show x.length + 1 ≤ _
        omega
    rintro σ H' ⟨x, kk, rfl, hx, hxl, hB4, s4⟩
    refine ⟨fun σ' H' => ∃ (x : Str) (kk nn : Option V), σ' = [some (.ref b), some (.ref a), some (.str letters), some (.str signs), some (.str x), some (.int way), kk, nn] ∧ Nm x ∧ Bag H' b ∧ Sb b H H', ?_, ?_⟩
    · refine ⟨_, rfl, by show 0 ≤ sizeLine; decide, fun r hr' => ?_⟩
      have hB5 := hB4.new (o := .lst []) hr'
      have s5 := s4.new (o := .lst []) hr'
      have hSn : SqL K (upd H' r (.lst [])) a (txs ts) := (wo_sub _ b).seq (s5.sl hS)
      refine ⟨.list (ts.map PyData.str), .list [], .lst hSn (dp_txs ts), .lst (SqL.of upd_same) .nil, shaped_txs hn, by decide +kernel, _, rfl, ?_⟩
      refine ite2 (fun hne => ?_) (fun _ => ⟨x, _, _, rfl, hx, hB5, s5⟩)
      have ne : txs ts ≠ [] := by
        rintro e
        have e' : ts = [] := List.map_eq_nil_iff.mp e
        rw [e'] at hne
        revert hne
        decide
      refine ⟨_, rfl, b, 3, rfl, hB5, by decide, by decide, fun v H6 v0 v1 hB6 s6 => ⟨rfl, _, rfl, ?_⟩⟩
      refine ite2 (fun _ => ?_) (fun _ => ⟨x, _, _, rfl, hx, hB6, s5.trans s6⟩)
      have s06 := s5.trans s6
      refine ⟨_, rfl, _, rfl, b, a, _, rfl, hB6, s06.sl hS, ne, ?_, fun y H7 hy hB7 s7 => ?_⟩
      · rw [show (txs ts).length = ts.length from List.length_map _]
        omega
      obtain ⟨t, ht, rfl⟩ := List.mem_map.mp hy
      have nt := hn t ht
      have s07 := s06.trans s7
      have tl : t.length ≤ sizeLine := Nat.le_of_lt (small1000 (show t.length ≤ 1000 by have := nt.len; omega))
      refine ⟨_, rfl, b, 2, rfl, hB7, by decide, by decide, fun v2 H8 v20 v21 hB8 s8 => ⟨rfl, _, rfl, ?_⟩⟩
      have s08 := s07.trans s8
      refine ite2 (fun _ => ?_) (fun _ => ?_)
      · refine ⟨_, rfl, _, rfl, t, rfl, tl, _, rfl, _, rfl, b, signs, rfl, hB8, by decide, by decide, fun c H9 hc hB9 s9 => ?_⟩
        obtain ⟨n1, n2⟩ : Nm (cutS t none (some (19 : Int))) ∧ (cutS t none (some (19 : Int))).length ≤ 19 := nm_cut nt (k := 19) (by decide)
        refine ⟨_, _, rfl, rfl, ?_, _, _, _, rfl, nm_snoc n1 n2 (signs_ok c hc), hB9, s08.trans s9⟩
        exact Nat.le_of_lt (small1000 (show _ + 1 ≤ 1000 by omega))
      · refine ⟨_, rfl, _, rfl, t, rfl, tl, _, rfl, _, rfl, b, signs, rfl, hB8, by decide, by decide, fun c H9 hc hB9 s9 => ?_⟩
        obtain ⟨n1, n2⟩ : Nm (cutS t none (some (1 : Int))) ∧ (cutS t none (some (1 : Int))).length ≤ 1 := nm_cut nt (k := 1) (by decide)
        refine ⟨_, _, rfl, rfl, ?_, _, _, _, rfl, nm_snoc n1 (Nat.le_trans n2 (by decide)) (signs_ok c hc), hB9, s08.trans s9⟩
        exact Nat.le_of_lt (small1000 (show _ + 1 ≤ 1000 by omega))
    rintro σ' H5 ⟨x, kk, nn, rfl, hx, hB5, s5⟩
    have tz : (txs ts).length = ts.length := List.length_map _
    refine ⟨_, rfl, a, _, rfl, .inl ((wo_sub _ b).seq (s5.sl hS)), ((txs ts).length : Nat), 1, rfl, rfl, ?_⟩
    refine ⟨_, rfl, by omega, by omega, for_range (n := (((txs ts).length : Int) + 1).toNat) (fun i σ H' => ∃ (x : Str) (kk : Option V), σ = [some (.ref b), some (.ref a), some (.str letters), some (.str signs), some (.str x), some (.int way), kk, nn] ∧ Ahead ts i x ∧ Bag H' b ∧ Sb b H H') ?_ ?_ ?_⟩
    · exact ⟨x, kk, rfl, ⟨hx, .inr (.inl rfl)⟩, hB5, s5⟩
    · rintro i σ H' hi ⟨x, kk, rfl, hA, hB6, s6⟩
      refine ⟨_, rfl, _, rfl, a, _, rfl, .inl ((wo_sub _ b).seq (s6.sl hS)), rfl, flat_txs ts, _, rfl, ?_⟩
      have i100 : i < 101 := by omega
      have xl := hx20 hA.1
      have go : ∀ (Z : Str → Hp → Prop), Z (tryOf i x) H' → Z ("x" ++ toString (0 + (i : Int)) ++ cutS x none (some 16)) H' := fun Z z => by rw [Int.zero_add]; exact z
      have l1 : (0 + (i : Int)).natAbs.log2 < 1920 := log2_small (Nat.lt_of_le_of_lt (show (0 + (i : Int)).natAbs ≤ 100 by omega) (by decide +kernel))
      have l2 : ("x" : Str).length + (toString (0 + (i : Int)) : Str).length ≤ sizeLine := by
        rw [Int.zero_add]
        have := (dg_digits i i100).2
        unfold Dg at this
        rw [len_cps] at this
        exact Nat.le_of_lt (small1000 (show 1 + _ ≤ 1000 by omega))
      have l3 : (("x" : Str) ++ (toString (0 + (i : Int)) : Str)).length + (cutS x none (some 16)).length ≤ sizeLine := by
        rw [Int.zero_add, strLen_append]
        have := (dg_digits i i100).2
        unfold Dg at this
        rw [len_cps] at this
        have : (cutS x none (some (16 : Int))).length ≤ 16 := (nm_cut hA.1 (k := 16) (by decide)).2
        exact Nat.le_of_lt (small1000 (show 1 + _ + _ ≤ 1000 by omega))
      refine ite2 (fun hin => ?_) (fun hin => ?_)
      · refine iteT ?_
        refine ⟨_, rfl, _, rfl, l1, _, _, rfl, rfl, l2, _, rfl, _, rfl, _, rfl, xl, _, _, rfl, rfl, l3, _, _, rfl, ?_, hB6, s6⟩
        rw [Int.zero_add]
        exact ahead_bad i100 hA (.inl (in_txs.mp hin))
      · refine ⟨_, rfl, rfl, _, rfl, ?_⟩
        refine ite2 (fun heq => ?_) (fun hne => ?_)
        · refine ⟨_, rfl, _, rfl, l1, _, _, rfl, rfl, l2, _, rfl, _, rfl, _, rfl, xl, _, _, rfl, rfl, l3, _, _, rfl, ?_, hB6, s6⟩
          rw [Int.zero_add]
          exact ahead_bad i100 hA (.inr (by simpa using heq))
        · exact ⟨x, _, rfl, ahead_good hA.1 (fun z => hin (in_txs.mpr z)) (by simpa using hne), hB6, s6⟩
    · rintro σ H' ⟨x, kk, rfl, hA, hB6, s6⟩
      obtain ⟨n1, n2, n3⟩ := ahead_end (x := x) hl (by rw [tz] at hA; exact hA)
      exact ⟨_, rfl, k x H' n1 n2 n3 hB6 s6⟩
end
end Y

namespace Y
open PySem PySem.Spec PyProof.Rows L2 Ns
open C8 (pss_cut)
theorem cut_from (xs : List V) (k : Nat) : cutV xs (some (k : Int)) none = xs.drop k := by
  unfold cutV
  rw [HT.sIx_nat, HT.sIx_none]
  rcases Nat.lt_or_ge xs.length k with h | h
  · rw [Nat.min_eq_right (Nat.le_of_lt h), Nat.sub_self, List.take_zero, List.drop_of_length_le (Nat.le_of_lt h)]
  · rw [Nat.min_eq_left h]
    exact List.take_of_length_le (by rw [List.length_drop]; exact Nat.le_refl _)
theorem cut_upto (xs : List V) (k : Nat) : cutV xs none (some (k : Int)) = xs.take k := by
  unfold cutV
  rw [HT.sIx_nat, HT.sIx_none, List.drop_zero, Nat.sub_zero]
  rw [List.take_eq_take_iff]
  omega
/-- a list that stands apart from the bag -/
theorem sql_new {K : PySem.W.Frag} {H : Hp} {b p : Addr} {xs : List V} (e : H p = some (.lst xs)) (n : p ≠ b) : SqL K (wo H b) p xs := SqL.of ((wo_ne n).trans e)
theorem sqt_new {K : PySem.W.Frag} {H : Hp} {b p : Addr} {xs : List V} (e : H p = some (.tup xs)) (n : p ≠ b) : SqT K (wo H b) p xs := SqT.of ((wo_ne n).trans e)
/-- new names -/
structure Nms (ts xs : List Str) : Prop where
  nm : ∀ x ∈ xs, Nm x
  nodup : xs.Nodup
  off : ∀ x ∈ xs, x ∉ ts ∧ x ≠ feed
def spNames (K : PySem.W.Frag) : Sp := fun as H Q _ => ∃ (b a : Addr) (m : Nat) (ts : List Str), as = [.ref b, .int m, .ref a] ∧ Bag H b ∧ SqL K (wo H b) a (txs ts) ∧ ts.length + m ≤ 100 ∧ (∀ t ∈ ts, Nm t) ∧
  ∀ (p : Addr) (xs : List Str) (H' : Hp), xs.length = m → Nms ts xs → H' p = some (.lst (txs xs)) → H p = none → Bag H' b → Sb b H H' → Q (.ref p) H'
def spSize : Sp := fun as H Q _ => ∃ (b : Addr) (m : Int), as = [.ref b, .int m] ∧ Bag H b ∧ 0 ≤ m ∧ m ≤ 10 ^ 13 ∧ ∀ (v : Int) (H' : Hp), 0 ≤ v → v ≤ m → Bag H' b → Sb b H H' → Q (.int v) H'
section
variable {P : Program} {w : World} {K : PySem.W.Frag} {mg : Str → Option Value} {base : Heap}
theorem scNs : FnScope ["bag", "many", "taken", "found", "k"] ["bag", "many", "taken"] (defScope sNames) := ⟨rfl, rfl, rfl, by decide +kernel, rfl, by decide +kernel, by decide +kernel⟩
theorem ok_names {f fN : Addr} {fd fdN : FuncData} (F : Fun K "_law_names" "_law_names" sNames f fd) (T : Nat0 mg) (GN : FnOk P w K mg base CX0 3 fN fdN ["bag", "taken"] (spName K)) (FN : Fun K "_law_name" "_law_name" sName fN fdN) (mN : mg "_law_name" = some (.ref fN)) (bN : Binds K fdN ["bag", "taken"] []) :
    FnOk P w K mg base CX0 4 f fd ["bag", "many", "taken"] (spNames K) := by
  refine F.ok scNs (fun as H Q E h => ?_) (fun cdv A outer s H as Q E hr h => ?_)
  · obtain ⟨b, a, m, ts, rfl, _⟩ := h
    rfl
  · obtain ⟨b, a, m, ts, rfl, hB, hS, hl, hn, k⟩ := h
    refine ⟨_, pss_cons (ps_set (i := 3) scNs.nd rfl (.inl rfl) (pe_callTy call_list_of (by rfl) T.list_ (by decide +kernel) (pa_cons (pv 2) pa_nil)))
      (pss_cons (ps_for PassesOwn.never rfl (pi_range1 (by rfl) T.range (pa_cons (pv 1) pa_nil)) (pg_name (i := 4) scNs.nd rfl (.inl rfl))
        (pss_one (ps_expr (pe_bm PySem.F.plainAttrs_list PySem.F.slot_list_append PySem.F.type_list_append mt_append (pv 3) (pa_cons (pe_call GN hr rfl mN FN.kp bN .nil pass0 (pa_cons (pv 0) (pa_cons (pv 3) pa_nil))) pa_nil)))))
      (pss_one (ps_ret (pe_slice sl_list (pv 3) (po_some (pe_callB call_len_seq (by rfl) T.len PySem.boot_len (pa_cons (pv 2) pa_nil))) po_none)))), ?_⟩
    refine ⟨_, rfl, a, _, rfl, .inl ((wo_sub H b).seq hS), fun p hp => ?_⟩
    have npb : p ≠ b := hB.ne hp
    refine ⟨_, rfl, m, rfl, by omega, by omega, for_range (n := ((m : Int)).toNat) (fun i σ H' => ∃ (kk : Option V) (xs : List Str), σ = [some (.ref b), some (.int m), some (.ref a), some (.ref p), kk] ∧ xs.length = i ∧ Nms ts xs ∧ H' p = some (.lst (txs (ts ++ xs))) ∧ Bag H' b ∧ Sb b H H') ?_ ?_ ?_⟩
    · exact ⟨none, [], rfl, rfl, ⟨(fun _ z => nomatch z), List.nodup_nil, (fun _ z => nomatch z)⟩, by rw [upd_same, List.append_nil], hB.new hp, (Sb.refl b H).new hp⟩
    · rintro i σ H' hi ⟨kk, xs, rfl, hx, N, e, hB1, s1⟩
      have hlen : (ts ++ xs).length ≤ 100 := by rw [List.length_append]; omega
      refine ⟨_, rfl, .inl ⟨rfl, _, SqL.of e⟩, _, rfl, _, rfl, b, p, ts ++ xs, rfl, hB1, sql_new e npb, hlen, fun t ht => ?_, fun x H2 nx n1 n2 hB2 s2 => ?_⟩
      · rcases List.mem_append.mp ht with q | q
        · exact hn t q
        · exact N.nm t q
      · have e2 := s2.get e npb
        refine ⟨p, _, _, rfl, rfl, e2, small1000 ?_, ⟨_, xs ++ [x], rfl, by rw [List.length_append, hx]; rfl, ⟨fun y hy => ?_, ?_, fun y hy => ?_⟩, ?_, hB.wr hp (s1.trans s2) hB2, (s1.trans s2).wr hp⟩⟩
        · rw [show (txs (ts ++ xs)).length = (ts ++ xs).length from List.length_map _]
          omega
        · rcases List.mem_append.mp hy with q | q
          · exact N.nm y q
          · rw [List.mem_singleton.mp q]; exact nx
        · rw [List.nodup_append]
          refine ⟨N.nodup, List.nodup_cons.mpr ⟨(fun z => nomatch z), List.nodup_nil⟩, fun y hy z hz => ?_⟩
          rw [List.mem_singleton.mp hz]
          rintro rfl
          exact n1 (List.mem_append_right _ hy)
        · rcases List.mem_append.mp hy with q | q
          · exact N.off y q
          · rw [List.mem_singleton.mp q]
            exact ⟨fun z => n1 (List.mem_append_left _ z), n2⟩
        · rw [upd_same, ← List.append_assoc]
          unfold txs
          rw [List.map_append (l₁ := ts ++ xs)]
          rfl
    · rintro σ H' ⟨kk, xs, rfl, hx, N, e, hB1, s1⟩
      refine ⟨_, rfl, _, rfl, a, _, rfl, .inl ((wo_sub H' b).seq (s1.sl hS)), _, rfl, p, _, rfl, SqL.of e, fun q hq => ?_⟩
      have e4 : cutV (txs (ts ++ xs)) (some (((txs ts).length : Nat) : Int)) none = txs xs := by
        rw [cut_from]
        unfold txs
        rw [List.map_append, List.drop_left]
      rw [e4]
      exact k q xs _ (by omega) N upd_same (s1.free hq (hB1.ne hq)) (hB1.new hq) (s1.new hq)
theorem scZ : FnScope ["bag", "most", "small"] ["bag", "most"] (defScope sSize) := ⟨rfl, rfl, rfl, by decide +kernel, rfl, by decide +kernel, by decide +kernel⟩
theorem ok_size {f fT fS : Addr} {fd fdT fdS : FuncData} (F : Fun K "_law_size" "_law_size" sSize f fd) (T : Nat0 mg) (FT : Fun K "_law_take" "_law_take" sTake fT fdT) (mT : mg "_law_take" = some (.ref fT)) (bT : Binds K fdT ["bag", "many"] [])
    (FS : Fun K "_law_some" "_law_some" sSome fS fdS) (mS : mg "_law_some" = some (.ref fS)) (bS : Binds K fdS ["bag", "things"] []) :
    FnOk P w K mg base CX0 3 f fd ["bag", "most"] spSize := by
  have GT : FnOk P w K mg base CX0 1 fT fdT ["bag", "many"] spTake := ok_take FT T
  have GS : FnOk P w K mg base CX0 2 fS fdS ["bag", "things"] (spSome K) := ok_some FS T FT mT bT
  refine F.ok scZ (fun as H Q E h => ?_) (fun cdv A outer s H as Q E hr h => ?_)
  · obtain ⟨b, m, rfl, _⟩ := h
    rfl
  · obtain ⟨b, m, rfl, hB, h0, h1, k⟩ := h
    have hr1 : Room 1 _ := hr.mono (by decide)
    refine ⟨_, pss_cons (ps_set (i := 2) scZ.nd rfl (.inl rfl) (pe_call GT hr1 rfl mT FT.kp bT .nil pass0 (pa_cons (pv 0) (pa_cons (pe_op op_add (pe_callB (call_min2 rfl) (by rfl) T.min (by decide +kernel) (pa_cons (pv 1) (pa_cons pe_int pa_nil))) pe_int) pa_nil))))
      (pss_one (ps_ret (pe_call GS hr rfl mS FS.kp bS .nil pass0 (pa_cons (pv 0) (pa_cons (pe_lst (pa_cons (pv 2) (pa_cons (pv 2) (pa_cons (pv 2) (pa_cons (pe_callB (call_min2 rfl) (by rfl) T.min (by decide +kernel) (pa_cons (pv 1) (pa_cons pe_int pa_nil)))
        (pa_cons (pe_call GT hr1 rfl mT FT.kp bT .nil pass0 (pa_cons (pv 0) (pa_cons (pe_op op_add (pv 1) pe_int) pa_nil))) (pa_cons (pv 1) pa_nil))))))) pa_nil))))), ?_⟩
    have big : ((10 : Int) ^ 13 + 1).natAbs < 2 ^ 200 := by decide +kernel
    refine ⟨_, rfl, _, rfl, m, 6, rfl, _, 1, rfl, rfl, b, _, rfl, hB, ?_, ?_, fun v H1 v0 v1 hB1 s1 => ?_⟩
    · split <;> omega
    · refine Nat.lt_of_le_of_lt ?_ big
      split <;> omega
    refine ⟨_, rfl, _, rfl, _, rfl, _, rfl, _, rfl, m, 1, rfl, _, rfl, _, rfl, m, 1, rfl, rfl, b, _, rfl, hB1, by omega, Nat.lt_of_le_of_lt (show (m + 1).natAbs ≤ _ by omega) big, fun u H2 u0 u1 hB2 s2 => ?_⟩
    refine ⟨_, rfl, by show 6 ≤ sizeLine; decide, fun p hp => ?_⟩
    refine ⟨b, p, _, rfl, hB2.new hp, sql_new upd_same (hB2.ne hp), (fun z => nomatch z), by show 6 ≤ 1000000; decide, fun x H' hx hB' s' => ?_⟩
    have fin : ∀ i : Int, x = .int i → 0 ≤ i → i ≤ m → Q x H' := fun i e g0 g1 => by
      rw [e]
      exact k i H' g0 g1 hB' (((s1.trans s2).new hp).trans s')
    have v1' : v ≤ m := by
      by_cases c : (6 : Int) < m
      · rw [if_pos c] at v1; omega
      · rw [if_neg c] at v1; omega
    simp only [List.mem_cons, List.not_mem_nil, or_false] at hx
    rcases hx with rfl | rfl | rfl | rfl | rfl | rfl
    · exact fin v rfl v0 v1'
    · exact fin v rfl v0 v1'
    · exact fin v rfl v0 v1'
    · refine fin _ rfl ?_ ?_ <;> split <;> omega
    · exact fin u rfl u0 (by omega)
    · exact fin m rfl h0 (Int.le_refl m)
end
end Y

/-! OC: _law_odd. -/
namespace Y
open PySem PySem.Spec PyProof.Rows L2 Ns
def bs : Str := ⟨(List.replicate 21 ("b" : Str).cps).foldl (· ++ ·) #[]⟩
theorem bs_len : bs.length ≤ 40 := by
  show (⟨(List.replicate 21 ("b" : Str).cps).foldl (· ++ ·) #[]⟩ : Str).length ≤ 40
  rw [mulS_len]
  decide
def oddDs : List PyData := [.none, .bool true, .bool false, .int (-1), .int 0, .int 1, .int (10 ^ Int.toNat 39), .str "", .str "a", .str "feed", .str "A", .str "a b", .str "7b", .str "a_b", .str bs, .tuple [], .list [], .dict [], .tuple [.str "a"], .tuple [.str "a", .str "b"], .tuple [.str "a", .str "b", .int 1], .list [.int 0], .tuple [.int 0], .tuple [.none], .tuple [.tuple []], .tuple [.tuple [], .tuple []], .dict [(.str "a", .int 1)], .str "\n", .tuple [.int 0, .int 1]]
theorem odd_bd : ∀ d ∈ oddDs, Bd 40 d := bdA_iff.mp (by
  unfold oddDs
  simp only [BdA, Bd, and_true, true_and]
  repeat (first | exact bs_len | (refine ⟨?_, ?_⟩) | decide)
  )
def spOdd (K : PySem.W.Frag) : Sp := fun as H Q _ => ∃ (b : Addr), as = [.ref b] ∧ Bag H b ∧ ∀ (x : V) (d : PyData) (H' : Hp), DatV K (wo H' b) x d → Bd 40 d → Bag H' b → Sb b H H' → Q x H'
section
variable {P : Program} {w : World} {K : PySem.W.Frag} {mg : Str → Option Value} {base : Heap}
end
end Y


/-! OD: whole numbers and counts among any values. -/
namespace Y
open PySem PySem.Spec PyProof.Rows L2 Ns
def isInt : PyData → Bool | .int _ => true | _ => false
def isCnt : PyData → Bool | .int i => decide (0 ≤ i) | _ => false
theorem isInt_and (d : PyData) : isInt d = (qI d && !qB d) := by cases d <;> rfl
/-- what tells something of any value -/
def spTells (K : PySem.W.Frag) (f : PyData → Bool) : Sp := fun as H Q _ => ∃ (x : V) (d : PyData), as = [x] ∧ DatV K H x d ∧ Q (.bl (f d)) H
section
variable {P : Program} {w : World} {K : PySem.W.Frag} {mg : Str → Option Value} {base : Heap}
theorem isInt_int {d : PyData} (h : isInt d = true) : ∃ i, d = .int i := by cases d <;> first | exact ⟨_, rfl⟩ | cases h
theorem dat_int {K : PySem.W.Frag} {H : Hp} {x : V} {i : Int} (D : DatV K H x (.int i)) : x = .int i := by cases D; rfl
end
end Y

/-! OQ: any datum == a text. -/
namespace Ns
open PySem PySem.Spec PyProof.Rows L2
theorem dict_no_str (l : Addr) (es : Array DictEntry) (n : Nat) (dd : Option Addr) (sl : Array (Option Value)) (b : Str) (u : Tok) :
    Meets (Builtin.«dict.__eq__» ⟨[.ref l, .str b u], []⟩) (fun _ R s => s.heap.get? l = some { cls := .type "dict", dict := dd, data := .dict es n, slots := sl } ∧ R (.ok (.ret .notImplemented)) s) :=
  .of_wp fun prog w A R s h => by
    obtain ⟨hp, g, d, tk, os⟩ := s
    obtain ⟨hl, h⟩ := h
    have f1 := F.sub_str_dict
    wp_walk using wpAny_loadPart' hl, wpAny_load hl
    exact ⟨_, rfl, h⟩
theorem str_no_dict (b : Str) (u : Tok) (l : Addr) (es : Array DictEntry) (n : Nat) (dd : Option Addr) (sl : Array (Option Value)) :
    Meets (Builtin.«str.__eq__» ⟨[.str b u, .ref l], []⟩) (fun _ R s => s.heap.get? l = some { cls := .type "dict", dict := dd, data := .dict es n, slots := sl } ∧ R (.ok (.ret .notImplemented)) s) :=
  .of_wp fun prog w A R s h => by
    obtain ⟨hp, g, d, tk, os⟩ := s
    obtain ⟨hl, h⟩ := h
    wp_walk using wpAny_loadPart' hl, wpAny_load hl
    exact ⟨_, rfl, h⟩
theorem rc_dict_str {A : Around} {s : Shared} {l : Addr} {dd : Option Addr} {es : Array DictEntry} {n : Nat} {sl : Array (Option Value)} (b : Str) (u : Tok) (ho : s.heap.get? l = some { cls := .type "dict", dict := dd, data := .dict es n, slots := sl }) (hu : A.units < cLine) : SeqAt.RcAt A s (.ref l) (.str b u) false := fun prog w E Q h =>
  SeqAt.rc_eq_decline_or (k := false) ⟨_, ho, rfl⟩ (typeIs_str s b u) (by decide) F.sub_str_dict F.slot_dict_eq F.slot_str_eq_refl
    (fun _ hq => call_meets F.slot_dict_eq ⟨_, ho, rfl⟩ F.entry_dict_eq (F.args_dict_eq_2 _ _) (dict_no_str l es n dd sl b u) ⟨ho, hq⟩)
    (fun _ hq => call_meets F.slot_str_eq_refl (typeIs_str s b u) F.entry_str_eq (F.args_str_eq_2 _ _) (str_no_dict b u l es n dd sl) ⟨ho, hq⟩)
    (fun _ hq => wpAny_of_eq (rfl : isSame (.ref l) (.str b u) = pure false) hq) (.inr hu) h
def isText (z : Str) : PyData → Bool
  | .str y => decide (y = z)
  | _ => false
/-- x == 'z', x any datum -/
def rEqTx (K : PySem.W.Frag) : R2 := fun x y H Q => ∃ (d : PyData) (z : Str), y = .str z ∧ DatV K H x d ∧ Q (.bl (isText z d)) H
theorem op_eqTx {X : Cx} (hu : X.A.units + 64 < cLine) : OpR X (compareOp .Eq) (rEqTx X.K) := by
  intro pins s σ H x y v u Q I rx ry h
  obtain ⟨d, z, rfl, D, q⟩ := h
  have flat : ∀ {c : Bool}, scal x (.str z) = true → decide (x = V.str z) = c → isText z d = c → wpAny (model X.prog X.w) X.A (compareOp .Eq v u) (EP X pins σ Q) X.xe s := fun {c} h1 h2 h3 => by
    rw [h3, ← h2] at q
    exact op_eq pins s σ H x (.str z) v u Q I rx ry ⟨h1, q⟩
  cases D with
  | non => exact flat (c := false) rfl (by simp) rfl
  | bl b => exact flat (c := false) rfl (by simp) rfl
  | int i => exact flat (c := false) rfl (by simp) rfl
  | str y =>
    refine flat (c := decide (y = z)) rfl ?_ rfl
    by_cases e : y = z
    · rw [e, decide_eq_true rfl, decide_eq_true rfl]
    · rw [decide_eq_false e, decide_eq_false (fun h => e (by injection h))]
  | @lst a xs ds h1 h2 =>
    cases (show v = Value.ref a from rx)
    obtain ⟨t, rfl⟩ := (show ∃ t, u = Value.str z t from ry)
    obtain ⟨its, _, pl, _⟩ := I.list h1
    exact SeqAt.RcAt.list_str z t pl.isList (by omega) _ _ _ _ ⟨.bl false, H, I, rfl, q⟩
  | @tup a xs ds h1 h2 =>
    cases (show v = Value.ref a from rx)
    obtain ⟨t, rfl⟩ := (show ∃ t, u = Value.str z t from ry)
    obtain ⟨its, _, ⟨o1, g1, g2, n1, g3⟩, _⟩ := I.tuple h1
    exact SeqAt.RcAt.tuple_str z t ⟨o1, g1, g2, n1, g3⟩ (by omega) _ _ _ _ ⟨.bl false, H, I, rfl, q⟩
  | @dic a kvs ds h1 h2 =>
    cases (show v = Value.ref a from rx)
    obtain ⟨t, rfl⟩ := (show ∃ t, u = Value.str z t from ry)
    obtain ⟨_, _, vs, _, ⟨oc, od, dt, sl⟩, es, ep, g1, g2, g3⟩ := (show ObjOk X.prog X.w H s.heap a (.dK kvs) from I.hok a _ h1)
    obtain ⟨k1, k2, k3⟩ := g2
    have g3' := g3.1
    simp only at k1 g3'
    subst k1
    subst g3'
    exact rc_dict_str z t g1 (by omega) _ _ _ _ ⟨.bl false, H, I, rfl, q⟩
end Ns

/-! cables and cars: what is known of them; dicts of pairs -/
namespace Y
open PySem PySem.Spec PyProof.Rows L2 Ns
open PySem.W (dataLe)
abbrev Cab := Str × Str × Int
abbrev Car := Str × Str × Int × Int
def ckey (c : Cab) : Str × Str := (c.1, c.2.1)
/-- a dict of pairs, its entries -/
def kvs (fs : List ((Str × Str) × Int)) : List (List Key × V) := fs.map fun f => (pK f.1, .int f.2)
theorem pK_inj {k j : Str × Str} (h : pK k = pK j) : k = j := by
  obtain ⟨a, b⟩ := k
  obtain ⟨c, d⟩ := j
  injection h with h1 h2
  injection h2 with h2 _
  injection h1 with h1
  injection h2 with h2
  exact Prod.ext h1 h2
def put (fs : List ((Str × Str) × Int)) (k : Str × Str) (v : Int) : List ((Str × Str) × Int) := if (fs.any fun f => decide (f.1 = k)) = true then fs.map (fun f => if f.1 = k then (f.1, v) else f) else fs ++ [(k, v)]
theorem kvs_any (k : Str × Str) : ∀ fs : List ((Str × Str) × Int), ((kvs fs).any fun kv => decide (kv.1 = pK k)) = fs.any fun f => decide (f.1 = k)
  | [] => rfl
  | f :: fs => by
    have ih := kvs_any k fs
    unfold kvs at ih ⊢
    rw [List.map_cons, List.any_cons, List.any_cons, ih]
    congr 1
    rw [decide_eq_decide]
    exact ⟨fun h => pK_inj h, fun h => by rw [h]⟩
theorem kvs_put (fs : List ((Str × Str) × Int)) (k : Str × Str) (v : Int) : putK (kvs fs) (pK k) (.int v) = kvs (put fs k v) := by
  unfold putK put
  rw [kvs_any]
  by_cases h : (fs.any fun f => decide (f.1 = k)) = true
  · rw [if_pos h, if_pos h]
    unfold kvs
    rw [List.map_map, List.map_map]
    apply List.map_congr_left
    intro f _
    by_cases e : f.1 = k
    · simp [e]
    · have e' : ¬ pK f.1 = pK k := fun z => e (pK_inj z)
      simp [e, e']
  · rw [if_neg h, if_neg h]
    unfold kvs
    rw [List.map_append]
    rfl
/-- what a dict of drawn cables holds -/
structure Fs (ns : List Str) (most : Int) (many : Nat) (fs : List ((Str × Str) × Int)) : Prop where
  len : fs.length ≤ many
  nodup : (fs.map (·.1)).Nodup
  each : ∀ f ∈ fs, f.1.1 ≠ f.1.2 ∧ f.1.1 ∈ feed :: ns ∧ f.1.2 ∈ ns ∧ 0 ≤ f.2 ∧ f.2 ≤ most
theorem Fs.nil (ns : List Str) (most : Int) (many : Nat) : Fs ns most many [] := ⟨Nat.zero_le _, List.nodup_nil, fun _ z => nomatch z⟩
theorem Fs.put {ns : List Str} {most v : Int} {many : Nat} {fs : List ((Str × Str) × Int)} {s e : Str} (h : Fs ns most many fs) (hl : fs.length < many) (h1 : s ≠ e) (h2 : s ∈ feed :: ns) (h3 : e ∈ ns) (h4 : 0 ≤ v) (h5 : v ≤ most) : Fs ns most many (put fs (s, e) v) := by
  unfold Y.put
  by_cases c : (fs.any fun f => decide (f.1 = (s, e))) = true
  · rw [if_pos c]
    refine ⟨by rw [List.length_map]; exact h.len, ?_, fun f hf => ?_⟩
    · have e1 : (fs.map (fun f => if f.1 = (s, e) then (f.1, v) else f)).map (·.1) = fs.map (·.1) := by
        rw [List.map_map]
        apply List.map_congr_left
        intro f _
        by_cases z : f.1 = (s, e)
        · simp [z]
        · simp [z]
      rw [e1]
      exact h.nodup
    · obtain ⟨g, hg, rfl⟩ := List.mem_map.mp hf
      by_cases z : g.1 = (s, e)
      · rw [if_pos z]
        obtain ⟨g1, g2, g3, _⟩ := h.each g hg
        exact ⟨g1, g2, g3, h4, h5⟩
      · rw [if_neg z]
        exact h.each g hg
  · rw [if_neg c]
    have nc : (s, e) ∉ fs.map (·.1) := fun z => c (by
      obtain ⟨f, hf, ef⟩ := List.mem_map.mp z
      exact List.any_eq_true.mpr ⟨f, hf, decide_eq_true ef⟩)
    refine ⟨by rw [List.length_append]; exact hl, ?_, fun f hf => ?_⟩
    · rw [List.map_append, List.nodup_append]
      refine ⟨h.nodup, List.nodup_cons.mpr ⟨(fun z => nomatch z), List.nodup_nil⟩, fun y hy z hz => ?_⟩
      rw [List.mem_singleton.mp hz]
      rintro rfl
      exact nc hy
    · rcases List.mem_append.mp hf with q | q
      · exact h.each f q
      · rw [List.mem_singleton.mp q]
        exact ⟨h1, h2, h3, h4, h5⟩
/-- drawn cables, in their order -/
structure Cabs (ns : List Str) (most : Int) (many : Nat) (cs : List Cab) : Prop where
  len : cs.length ≤ many
  nodup : (cs.map ckey).Nodup
  each : ∀ c ∈ cs, c.1 ≠ c.2.1 ∧ c.1 ∈ feed :: ns ∧ c.2.1 ∈ ns ∧ 0 ≤ c.2.2 ∧ c.2.2 ≤ most
  srt : ∃ ks : List (Str × Str), cs.map ckey = ks.mergeSort (dataLe false pD)
/-- a cable as a value, a car -/
def CabV (K : PySem.W.Frag) (H : Hp) (x : V) (c : Cab) : Prop := ∃ t, x = .ref t ∧ SqT K H t [.str c.1, .str c.2.1, .int c.2.2]
def CarV (K : PySem.W.Frag) (H : Hp) (x : V) (c : Car) : Prop := ∃ t, x = .ref t ∧ SqT K H t [.str c.1, .str c.2.1, .int c.2.2.1, .int c.2.2.2]
theorem sqt_more {K : PySem.W.Frag} {H H' : Hp} (m : Same H H') {a : Addr} {xs : List V} (h : SqT K H a xs) : SqT K H' a xs := h.elim (fun z => .inl (z.elim (fun z => .inl (m _ _ z)) fun ⟨o, z⟩ => .inr ⟨o, m _ _ z⟩)) .inr
theorem CabV.more {K : PySem.W.Frag} {H H' : Hp} (m : Same H H') {x : V} {c : Cab} (h : CabV K H x c) : CabV K H' x c := by
  obtain ⟨t, e, q⟩ := h
  exact ⟨t, e, sqt_more m q⟩
theorem CarV.more {K : PySem.W.Frag} {H H' : Hp} (m : Same H H') {x : V} {c : Car} (h : CarV K H x c) : CarV K H' x c := by
  obtain ⟨t, e, q⟩ := h
  exact ⟨t, e, sqt_more m q⟩
theorem paired_imp {α β : Type} {R S : α → β → Prop} (k : ∀ a b, R a b → S a b) : ∀ {as : List α} {bs : List β}, Paired R as bs → Paired S as bs
  | _, _, .nil => .nil
  | _, _, .cons h t => .cons (k _ _ h) (paired_imp k t)
theorem paired_snoc {α β : Type} {R : α → β → Prop} {a : α} {b : β} (h : R a b) : ∀ {as : List α} {bs : List β}, Paired R as bs → Paired R (as ++ [a]) (bs ++ [b])
  | _, _, .nil => .cons h .nil
  | _, _, .cons g t => .cons g (paired_snoc h t)
theorem rows_nodup {ns : List Str} (N : Nms [] ns) : (feed :: ns).Nodup := List.nodup_cons.mpr ⟨fun z => (N.off _ z).2 rfl, N.nodup⟩
theorem row_ne {α : Type} {l : List α} (n : l.Nodup) {i j : Nat} {x y : α} (h : l[i]? = some x) (g : l[j]? = some y) (ne : i ≠ j) : x ≠ y := by
  rintro rfl
  exact ne ((List.getElem?_inj (List.getElem?_eq_some_iff.mp h).1 n).mp (h.trans g.symm))
theorem txs_at {l : List Str} {j : Nat} {s : Str} (h : l[j]? = some s) : (txs l)[j]? = some (.str s) := by
  unfold txs
  rw [List.getElem?_map, h]
  rfl
/-- the value of a pair in a dict of pairs -/
theorem kvs_get {fs : List ((Str × Str) × Int)} (n : (fs.map (·.1)).Nodup) {k : Str × Str} {v : Int} (h : (k, v) ∈ fs) : valV (kvs fs) (pK k) = some (.int v) := by
  induction fs with
  | nil => cases h
  | cons f fs ih =>
    rw [List.map_cons, List.nodup_cons] at n
    show valV ((pK f.1, V.int f.2) :: kvs fs) (pK k) = _
    rcases List.mem_cons.mp h with e | e
    · rw [← e]
      exact valV_pos rfl
    · rw [valV_neg (fun z => n.1 ?_)]
      · exact ih n.2 e
      · rw [show f.1 = k from pK_inj z]
        exact List.mem_map.mpr ⟨(k, v), e, rfl⟩
end Y

namespace Y
open PySem PySem.Spec PyProof.Rows L2 Ns
open C8 (pss_cut)
open PySem.W (dataLe)
def spCables (K : PySem.W.Frag) : Sp := fun as H Q _ => ∃ (b a : Addr) (ns : List Str) (many : Nat) (most : Int), as = [.ref b, .ref a, .int many, .int most] ∧ Bag H b ∧ H a = some (.lst (txs ns)) ∧ Nms [] ns ∧ ns.length ≤ 50 ∧ many ≤ 60 ∧ 2 ≤ most ∧ most ≤ 10 ^ 12 ∧
  ∀ (p : Addr) (xs : List V) (cs : List Cab) (H' : Hp), Cabs ns most many cs → H' p = some (.tup xs) → Paired (CabV K (wo H' b)) xs cs → H p = none → p ≠ b → Bag H' b → Sb b H H' → Q (.ref p) H'
theorem s3u {H : Hp} {a q : Addr} {o u : HO} (hq : H q = none) (h : H a = some u) : upd H q o a = some u := by rw [upd_ne (ne_of_none h hq)]; exact h
theorem paired_len {α β : Type} {R : α → β → Prop} : ∀ {as : List α} {bs : List β}, Paired R as bs → as.length = bs.length
  | _, _, .nil => rfl
  | _, _, .cons _ t => by rw [List.length_cons, List.length_cons, paired_len t]
/-- a new tuple of a cable -/
def CabT (H : Hp) (b : Addr) (x : V) (c : Cab) : Prop := ∃ t, x = .ref t ∧ t ≠ b ∧ H t = some (.tup [.str c.1, .str c.2.1, .int c.2.2])
theorem CabT.more {H H' : Hp} {b : Addr} (m : Same H H') {x : V} {c : Cab} (h : CabT H b x c) : CabT H' b x c := by
  obtain ⟨t, e, n, q⟩ := h
  exact ⟨t, e, n, m _ _ q⟩
theorem CabT.upd {H : Hp} {b D : Addr} {ys : List V} {o : HO} (hD : H D = some (.lst ys)) {x : V} {c : Cab} (h : CabT H b x c) : CabT (L2.upd H D o) b x c := by
  obtain ⟨t, e, n, q⟩ := h
  exact ⟨t, e, n, by rw [upd_ne (fun z => by rw [z, hD] at q; cases q)]; exact q⟩
theorem paired_at {α β : Type} {R : α → β → Prop} : ∀ {as : List α} {bs : List β}, Paired R as bs → ∀ {i : Nat} {a : α}, as[i]? = some a → ∃ b, bs[i]? = some b ∧ R a b
  | _, _, .cons h _, 0, a, e => by
    rw [List.getElem?_cons_zero] at e
    cases e
    exact ⟨_, rfl, h⟩
  | _, _, .cons _ t, i + 1, a, e => by
    rw [List.getElem?_cons_succ] at e
    exact paired_at t e
theorem ne_at {H : Hp} {a b : Addr} {o u : HO} (h : H a = some o) (g : H b = some u) (n : o ≠ u) : a ≠ b := fun e => by
  rw [e, g] at h
  exact n (Option.some.inj h).symm
/-- amid the loops -/
def CabI (H : Hp) (b a d r : Addr) (ns : List Str) (many : Nat) (most : Int) (σ : L2.St) (H' : Hp) : Prop := ∃ (kk tt cc : Option V) (fs : List ((Str × Str) × Int)), σ = [some (.ref b), some (.ref a), some (.int many), some (.int most), some (.ref d), some (.ref r), kk, tt, cc, none, none] ∧
  H' d = some (.dT (kvs fs)) ∧ H' r = some (.lst (txs (feed :: ns))) ∧ Fs ns most many fs ∧ Bag H' b ∧ Sb b H H'
theorem cab_put {H H' : Hp} {b d r : Addr} {fs : List ((Str × Str) × Int)} {s e : Str} {v : Int} {ns : List Str} (hB : Bag H b) (hd : H d = none) (hr : H r = none) (nrd : r ≠ d) (e1 : H' d = some (.dT (kvs fs))) (e2 : H' r = some (.lst (txs (feed :: ns)))) (hB' : Bag H' b) (s' : Sb b H H') :
    upd H' d (.dT (putK (kvs fs) (pK (s, e)) (.int v))) d = some (.dT (kvs (put fs (s, e) v))) ∧ upd H' d (.dT (putK (kvs fs) (pK (s, e)) (.int v))) r = some (.lst (txs (feed :: ns))) ∧ Bag (upd H' d (.dT (putK (kvs fs) (pK (s, e)) (.int v)))) b ∧ Sb b H (upd H' d (.dT (putK (kvs fs) (pK (s, e)) (.int v)))) :=
  ⟨by rw [upd_same, kvs_put], by rw [upd_ne nrd]; exact e2, hB.wr hd s' hB', s'.wr hd⟩
section
variable {P : Program} {w : World} {K : PySem.W.Frag} {mg : Str → Option Value} {base : Heap}
theorem scC : FnScope ["bag", "knots", "many", "most", "found", "rows", "k", "turn", "couple", "one", "other"] ["bag", "knots", "many", "most"] (defScope sCables) := ⟨rfl, rfl, rfl, by decide +kernel, rfl, by decide +kernel, by decide +kernel⟩
theorem ok_cables {f fT fS fZ : Addr} {fd fdT fdS fdZ : FuncData} (F : Fun K "_law_cables" "_law_cables" sCables f fd) (T : Nat0 mg) (FT : Fun K "_law_take" "_law_take" sTake fT fdT) (mT : mg "_law_take" = some (.ref fT)) (bT : Binds K fdT ["bag", "many"] [])
    (FS : Fun K "_law_some" "_law_some" sSome fS fdS) (mS : mg "_law_some" = some (.ref fS)) (bS : Binds K fdS ["bag", "things"] [])
    (GZ : FnOk P w K mg base CX0 3 fZ fdZ ["bag", "most"] spSize) (FZ : Fun K "_law_size" "_law_size" sSize fZ fdZ) (mZ : mg "_law_size" = some (.ref fZ)) (bZ : Binds K fdZ ["bag", "most"] []) :
    FnOk P w K mg base CX0 4 f fd ["bag", "knots", "many", "most"] (spCables K) := by
  have GT : FnOk P w K mg base CX0 1 fT fdT ["bag", "many"] spTake := ok_take FT T
  have GS : FnOk P w K mg base CX0 2 fS fdS ["bag", "things"] (spSome K) := ok_some FS T FT mT bT
  refine F.ok scC (fun as H Q E h => ?_) (fun cdv A outer s H as Q E hr h => ?_)
  · obtain ⟨b, a, ns, many, most, rfl, _⟩ := h
    rfl
  · obtain ⟨b, a, ns, many, most, rfl, hB, hS, N, hns, hm, hmo, hmo2, k⟩ := h
    have hr1 : Room 1 _ := hr.mono (by decide)
    have hr2 : Room 2 _ := hr.mono (by decide)
    have hu := hu_of hr
    refine ⟨_, pss_cons (ps_asg (pe_tup (pa_cons pe_dnewT (pa_cons (pe_op op_cat (pe_lst (pa_cons pe_str pa_nil)) (pv 1)) pa_nil))) (pg_tup (by rfl) (pgs_cons (pg_name (i := 4) scC.nd rfl (.inr rfl)) (pgs_cons (pg_name (i := 5) scC.nd rfl (.inl rfl)) pgs_nil))))
      (pss_cons (ps_for PassesOwn.never rfl (pi_range2 (by rfl) T.range (pa_cons pe_int (pa_cons (pe_callB call_len_seq (by rfl) T.len PySem.boot_len (pa_cons (pv 5) pa_nil)) pa_nil))) (pg_name (i := 6) scC.nd rfl (.inl rfl))
        (pss_one (ps_if (PW.pt (pw_and (pt_cmpR op_gt (pe_call GT hr1 rfl mT FT.kp bT .nil pass0 (pa_cons (pv 0) (pa_cons pe_int pa_nil))) pe_int (nomark _)) (pw_and1 (pt_cmpR op_lt (pe_callB call_len_dT (by rfl) T.len PySem.boot_len (pa_cons (pv 4) pa_nil)) (pv 2) (nomark _)))))
          (pss_one (ps_dput hu (pv 4) (pe_tup (pa_cons (pe_ix ix_list (pv 5) (pe_call GT hr1 rfl mT FT.kp bT .nil pass0 (pa_cons (pv 0) (pa_cons (pv 6) pa_nil))) (fun _ _ => rfl)) (pa_cons (pe_ix ix_list (pv 5) (pv 6) (fun _ _ => rfl)) pa_nil)))
            (pe_callB (call_max2 rfl) (by rfl) T.max (by decide +kernel) (pa_cons (pe_call GS hr2 rfl mS FS.kp bS .nil pass0 (pa_cons (pv 0) (pa_cons (pe_lst (pa_cons pe_int (pa_cons pe_int (pa_cons pe_int (pa_cons pe_int pa_nil))))) pa_nil)))
              (pa_cons (pe_call GZ hr rfl mZ FZ.kp bZ .nil pass0 (pa_cons (pv 0) (pa_cons (pv 3) pa_nil))) pa_nil))) rfl)) pss_nil)))
      (pss_cons (ps_for PassesOwn.never rfl (pi_range1 (by rfl) T.range (pa_cons (pe_call GT hr1 rfl mT FT.kp bT .nil pass0 (pa_cons (pv 0) (pa_cons (pe_op op_add (pv 2) pe_int) pa_nil))) pa_nil)) (pg_name (i := 7) scC.nd rfl (.inl rfl))
        (pss_cons (ps_set (i := 8) scC.nd rfl (.inl rfl) (pe_tup (pa_cons (pe_call GS hr2 rfl mS FS.kp bS .nil pass0 (pa_cons (pv 0) (pa_cons (pv 5) pa_nil))) (pa_cons (pe_call GS hr2 rfl mS FS.kp bS .nil pass0 (pa_cons (pv 0) (pa_cons (pv 5) pa_nil))) pa_nil))))
        (pss_one (ps_if (PW.pt (pw_and (pt_cmpR op_ne (pe_ix ix_tup (pv 8) pe_int (fun _ _ => rfl)) (pe_ix ix_tup (pv 8) pe_int (fun _ _ => rfl)) (nomark _)) (pw_and (pt_cmpR op_ne (pe_ix ix_tup (pv 8) pe_int (fun _ _ => rfl)) pe_str (nomark _))
            (pw_and1 (pt_cmpR op_lt (pe_callB call_len_dT (by rfl) T.len PySem.boot_len (pa_cons (pv 4) pa_nil)) (pv 2) (nomark _))))))
          (pss_one (ps_dput hu (pv 4) (pv 8) (pe_call GZ hr rfl mZ FZ.kp bZ .nil pass0 (pa_cons (pv 0) (pa_cons (pv 3) pa_nil))) rfl)) pss_nil))))
      (pss_one (ps_ret (pe_callTy call_tuple_of (by rfl) T.tuple (by decide +kernel) (pa_cons
        (pe_lc (own := [("one", 9), ("other", 10)]) (g := gTup K 2 (gCons (gName 9) (gCons (gName 10) gNil))) (tt := tYes) rfl scC.nd (pi_list (pe_callB (cr_sortDT rfl hr.units) (by rfl) T.sorted (by decide +kernel) (pa_cons (pv 4) pa_nil)))
          (blkOk_by (N := ["bag", "knots", "many", "most", "found", "rows", "k", "turn", "couple", "one", "other"]) (sc := defScope sCables) (by decide +kernel)) (fun _ _ _ _ _ => pg_tup rfl (pgs_cons (pg_name (i := 9) scC.nd rfl (Or.inl rfl)) (pgs_cons (pg_name (i := 10) scC.nd rfl (Or.inl rfl)) pgs_nil))) (fun _ _ _ _ _ => pts_nil)
          (fun _ _ _ _ _ => pe_tup (pa_cons (pv 9) (pa_cons (pv 10) (pa_cons (pe_dget hu (pv 4) (pe_tup (pa_cons (pv 9) (pa_cons (pv 10) pa_nil))) (fun _ _ => rfl)) pa_nil))))) pa_nil)))))), ?_⟩
    refine fun d hd => ⟨by show 1 ≤ sizeLine; decide, fun q hq => ⟨_, rfl, q, a, [.str feed], txs ns, rfl, rfl, upd_same, ?_, ?_, fun r hr' => ⟨by show 2 ≤ sizeLine; decide, fun t ht => ⟨t, _, rfl, SqT.of upd_same, rfl, _, _, rfl, _, _, rfl, rfl, ?_⟩⟩⟩⟩
    · exact same_new (same_new (Same.refl H) hd) hq _ _ hS
    · rw [show (txs ns).length = ns.length from List.length_map _]
      exact Nat.le_of_lt (small1000 (show 1 + ns.length ≤ 1000 by omega))
    have ndb : d ≠ b := hB.ne hd
    have s0 : Sb b H (upd H d (.dT [])) := (Sb.refl b H).new hd
    have s1 := s0.new (o := .lst [.str feed]) hq
    have s2 := s1.new (o := .lst ([.str feed] ++ txs ns)) hr'
    have s3 := s2.new (o := .tup [.ref d, .ref r]) ht
    have b0 := ((((hB.new (o := .dT []) hd).new (o := .lst [.str feed]) hq).new (o := .lst ([.str feed] ++ txs ns)) hr').new (o := .tup [.ref d, .ref r]) ht)
    have nrb : r ≠ b := ((hB.new (o := .dT []) hd).new (o := .lst [.str feed]) hq).ne hr'
    have fr : H r = none := s1.free hr' nrb
    have e1 : upd (upd (upd (upd H d (.dT [])) q (.lst [.str feed])) r (.lst ([.str feed] ++ txs ns))) t (.tup [.ref d, .ref r]) d = some (.dT (kvs [])) := by
      have f0 : upd H d (.dT []) d = some (.dT (kvs [])) := upd_same
      have f1 : upd (upd H d (.dT [])) q (.lst [.str feed]) d = some (.dT (kvs [])) := by rw [upd_ne (ne_of_none f0 hq)]; exact f0
      have f2 : upd (upd (upd H d (.dT [])) q (.lst [.str feed])) r (.lst ([.str feed] ++ txs ns)) d = some (.dT (kvs [])) := by rw [upd_ne (ne_of_none f1 hr')]; exact f1
      rw [upd_ne (ne_of_none f2 ht)]; exact f2
    have e2 : upd (upd (upd (upd H d (.dT [])) q (.lst [.str feed])) r (.lst ([.str feed] ++ txs ns))) t (.tup [.ref d, .ref r]) r = some (.lst (txs (feed :: ns))) := by
      have f2 : upd (upd (upd H d (.dT [])) q (.lst [.str feed])) r (.lst ([.str feed] ++ txs ns)) r = some (.lst (txs (feed :: ns))) := upd_same
      rw [upd_ne (ne_of_none f2 ht)]; exact f2
    have nrd : r ≠ d := ne_at e2 e1 (fun z => by cases z)
    have tz : (txs (feed :: ns)).length = ns.length + 1 := by show (List.map _ _).length = _; rw [List.length_map]; rfl
    have big : ((10 : Int) ^ 13).natAbs < 2 ^ 200 := by decide +kernel
    have posR : txs (feed :: ns) ≠ [] := fun z => nomatch z
    refine ⟨_, rfl, r, _, rfl, .inl (SqL.of e2), 1, ((txs (feed :: ns)).length : Int), rfl, ⟨by decide, by decide, by omega, by omega⟩, for_range (lo := 1) (n := (((txs (feed :: ns)).length : Int) - 1).toNat) (fun i σ H' => CabI H b a d r ns many most σ H') ?_ ?_ ?_⟩
    · exact ⟨none, none, none, [], rfl, e1, e2, Fs.nil _ _ _, b0, s3⟩
    · rintro i σ H' hi ⟨kk, tt, cc, fs, rfl, g1, g2, FF, hB', s'⟩
      have hi' : i < ns.length := by omega
      refine ⟨_, rfl, b, 8, rfl, hB', by decide, by decide, fun v H2 v0 v1 hB2 s2' => ⟨v, 0, rfl, rfl, _, rfl, ?_⟩⟩
      have h1 := s2'.get g1 ndb
      have h2 := s2'.get g2 nrb
      have s02 := s'.trans s2'
      refine ite2 (fun _ => ?_) (fun _ => ⟨_, tt, cc, fs, rfl, h1, h2, FF, hB2, s02⟩)
      refine ⟨_, rfl, d, _, rfl, h1, _, rfl, _, _, rfl, rfl, _, rfl, ?_⟩
      refine ite2 (fun lt => ?_) (fun _ => ⟨_, tt, cc, fs, rfl, h1, h2, FF, hB2, s02⟩)
      have hlt : fs.length < many := by
        have q := of_decide_eq_true lt
        rw [show (kvs fs).length = fs.length from List.length_map _] at q
        omega
      refine ⟨_, rfl, by show 4 ≤ sizeLine; decide, fun q4 hq4 => ⟨b, q4, _, rfl, hB2.new hq4, sql_new upd_same (hB2.ne hq4), (fun z => nomatch z), by show 4 ≤ 1000000; decide, fun x H3 hx hB3 s3' => ?_⟩⟩
      obtain ⟨c, rfl, c0, c2⟩ : ∃ c : Int, x = .int c ∧ 0 ≤ c ∧ c ≤ 2 := by
        simp only [List.mem_cons, List.not_mem_nil, or_false] at hx
        rcases hx with rfl | rfl | rfl | rfl
        · exact ⟨1, rfl, by decide, by decide⟩
        · exact ⟨2, rfl, by decide, by decide⟩
        · exact ⟨1, rfl, by decide, by decide⟩
        · exact ⟨0, rfl, by decide, by decide⟩
      have s03 := (s02.new (o := .lst [.int 1, .int 2, .int 1, .int 0]) hq4).trans s3'
      refine ⟨_, rfl, _, rfl, b, most, rfl, hB3, by omega, by omega, fun u H4 u0 u1 hB4 s4 => ⟨c, u, rfl, _, rfl, ?_⟩⟩
      have s04 := s03.trans s4
      refine ⟨_, rfl, _, rfl, _, rfl, b, _, rfl, hB4, by omega, Nat.lt_of_le_of_lt (show (1 + (i : Int)).natAbs ≤ _ by omega) big, fun j H5 j0 j1 hB5 s5 => ?_⟩
      have s05 := s04.trans s5
      obtain ⟨sx, hsx⟩ : ∃ sx, (feed :: ns)[j.toNat]? = some sx := ⟨_, List.getElem?_eq_getElem (by rw [List.length_cons]; omega)⟩
      obtain ⟨ex, hex⟩ : ∃ ex, (feed :: ns)[1 + i]? = some ex := ⟨_, List.getElem?_eq_getElem (by rw [List.length_cons]; omega)⟩
      have m1 : sx ∈ feed :: ns := List.mem_of_getElem? hsx
      have m2 : ex ∈ ns := by
        rw [Nat.add_comm, List.getElem?_cons_succ] at hex
        exact List.mem_of_getElem? hex
      have ne : sx ≠ ex := row_ne (rows_nodup N) hsx hex (by omega)
      have k1 := s5.get (s4.get (s3'.get (s3u hq4 h1) ndb) ndb) ndb
      have k2 := s5.get (s4.get (s3'.get (s3u hq4 h2) nrb) nrb) nrb
      refine ⟨r, _, j, .str sx, rfl, rfl, SqL.of k2, by rw [show j = ((j.toNat : Nat) : Int) by omega]; exact atI_nat (txs_at hsx), ?_⟩
      refine ⟨_, rfl, _, rfl, r, _, _, .str ex, rfl, rfl, SqL.of k2, by rw [show (1 + (i : Int)) = ((1 + i : Nat) : Int) by omega]; exact atI_nat (txs_at hex), ?_⟩
      refine ⟨by show 2 ≤ sizeLine; decide, fun t' ht' => ?_⟩
      have k1' : upd H5 t' (.tup [.str sx, .str ex]) d = some (.dT (kvs fs)) := by rw [upd_ne (ne_of_none k1 ht')]; exact k1
      have k2' : upd H5 t' (.tup [.str sx, .str ex]) r = some (.lst (txs (feed :: ns))) := by rw [upd_ne (ne_of_none k2 ht')]; exact k2
      have hz : (kvs fs).length < sizeLine := by
        rw [show (kvs fs).length = fs.length from List.length_map _]
        exact small1000 (by omega)
      refine ⟨d, _, rfl, DPut.t (k := pK (sx, ex)) k1' upd_same hz, ?_⟩
      obtain ⟨p1, p2, p3, p4⟩ := cab_put (s := sx) (e := ex) (v := if u > c then u else c) hB hd fr nrd k1' k2' (hB5.new ht') (s05.new ht')
      exact ⟨_, tt, cc, _, rfl, p1, p2, FF.put hlt ne m1 m2 (by split <;> omega) (by split <;> omega), p3, p4⟩
    rintro σ H' ⟨kk, tt, cc, fs, rfl, g1, g2, FF, hB', s'⟩
    refine ⟨_, rfl, _, rfl, _, _, rfl, rfl, b, _, rfl, hB', by omega, Nat.lt_of_le_of_lt (show ((many : Int) + 1).natAbs ≤ _ by omega) big, fun n H2 n0 n1 hB2 s2' => ?_⟩
    refine ⟨n, rfl, by omega, by omega, for_range (n := n.toNat) (fun i σ H' => CabI H b a d r ns many most σ H') ?_ ?_ ?_⟩
    · exact ⟨kk, tt, cc, fs, rfl, s2'.get g1 ndb, s2'.get g2 nrb, FF, hB2, s'.trans s2'⟩
    · clear g1 g2 FF hB' s' s2' hB2
      rintro i σ H3 hi ⟨kk, tt, cc, fs, rfl, g1, g2, FF, hB3, s3'⟩
      refine ⟨_, rfl, _, rfl, b, r, _, rfl, hB3, sql_new g2 nrb, posR, by omega, fun x H4 hx hB4 s4 => ?_⟩
      obtain ⟨sx, m1, rfl⟩ := List.mem_map.mp hx
      have q1 := s4.get g1 ndb
      have q2 := s4.get g2 nrb
      refine ⟨_, rfl, _, rfl, b, r, _, rfl, hB4, sql_new q2 nrb, posR, by omega, fun y H5 hy hB5 s5 => ?_⟩
      obtain ⟨ex, m2, rfl⟩ := List.mem_map.mp hy
      have s05 := (s3'.trans s4).trans s5
      have k1 := s5.get q1 ndb
      have k2 := s5.get q2 nrb
      refine ⟨by show 2 ≤ sizeLine; decide, fun t' ht' => ?_⟩
      have k1' : upd H5 t' (.tup [.str sx, .str ex]) d = some (.dT (kvs fs)) := by rw [upd_ne (ne_of_none k1 ht')]; exact k1
      have k2' : upd H5 t' (.tup [.str sx, .str ex]) r = some (.lst (txs (feed :: ns))) := by rw [upd_ne (ne_of_none k2 ht')]; exact k2
      have kt : upd H5 t' (.tup [.str sx, .str ex]) t' = some (.tup [.str sx, .str ex]) := upd_same
      have hB6 := hB5.new (o := .tup [.str sx, .str ex]) ht'
      have s06 := s05.new (o := .tup [.str sx, .str ex]) ht'
      generalize upd H5 t' (.tup [.str sx, .str ex]) = H6 at k1' k2' kt hB6 s06 ⊢
      have stay : CabI H b a d r ns many most [some (.ref b), some (.ref a), some (.int many), some (.int most), some (.ref d), some (.ref r), kk, some (.int (0 + (i : Int))), some (.ref t'), none, none] H6 := ⟨kk, _, _, fs, rfl, k1', k2', FF, hB6, s06⟩
      refine ⟨_, rfl, t', _, 0, _, rfl, rfl, SqT.of kt, at0, _, rfl, t', _, 1, _, rfl, rfl, SqT.of kt, at1, rfl, _, rfl, ?_⟩
      refine ite2 (fun ne => ?_) (fun _ => stay)
      refine ⟨_, rfl, t', _, 1, _, rfl, rfl, SqT.of kt, at1, rfl, _, rfl, ?_⟩
      refine ite2 (fun nf => ?_) (fun _ => stay)
      refine ⟨_, rfl, d, _, rfl, k1', _, rfl, _, _, rfl, rfl, _, rfl, ?_⟩
      refine ite2 (fun lt => ?_) (fun _ => stay)
      have hlt : fs.length < many := by
        have q := of_decide_eq_true lt
        rw [show (kvs fs).length = fs.length from List.length_map _] at q
        omega
      have ne' : sx ≠ ex := fun e => by
        rw [e] at ne
        simp at ne
      have nf' : ex ≠ feed := fun e => by
        rw [e] at nf
        simp at nf
      have m2' : ex ∈ ns := (List.mem_cons.mp m2).resolve_left nf'
      refine ⟨_, rfl, _, rfl, b, most, rfl, hB6, by omega, by omega, fun v H7 v0 v1 hB7 s7 => ?_⟩
      have hz : (kvs fs).length < sizeLine := by
        rw [show (kvs fs).length = fs.length from List.length_map _]
        exact small1000 (by omega)
      have ntb : t' ≠ b := hB5.ne ht'
      refine ⟨_, rfl, _, rfl, d, _, rfl, DPut.t (k := pK (sx, ex)) (s7.get k1' ndb) (s7.get kt ntb) hz, ?_⟩
      obtain ⟨p1, p2, p3, p4⟩ := cab_put (s := sx) (e := ex) (v := v) hB hd fr nrd (s7.get k1' ndb) (s7.get k2' nrb) hB7 (s06.trans s7)
      exact ⟨kk, _, _, _, rfl, p1, p2, FF.put hlt ne' m1 m2' v0 v1, p3, p4⟩
    clear g1 g2 FF hB' s' s2' hB2
    rintro σ H3 ⟨kk, tt, cc, fs, rfl, g1, g2, FF, hB3, s3'⟩
    refine ⟨_, rfl, d, kvs fs, fs.map (·.1), rfl, Rd.of g1, by unfold kvs; rw [List.map_map, List.map_map]; rfl, by rw [List.length_map]; have := FF.len; omega, fun p qs hp pq => ?_⟩
    refine ⟨p, rfl, ⟨_, .inl (.inl upd_same)⟩, fun D hD => ?_⟩
    have npd : p ≠ D := fun e => by rw [← e, upd_same] at hD; cases hD
    have hD' : H3 D = none := by rw [upd_ne npd.symm] at hD; exact hD
    refine lc_list (K := K) (a := p) (xs := qs.map V.ref) (fun i H' => ∃ (ys : List V) (cs : List Cab), H' D = some (.lst ys) ∧ ys.length = i ∧ cs.map ckey = ((fs.map (·.1)).mergeSort (dataLe false pD)).take i ∧ (∀ c ∈ cs, (ckey c, c.2.2) ∈ fs) ∧
      Paired (CabT H' b) ys cs ∧ H' p = some (.lst (qs.map V.ref)) ∧ Same H3 H' ∧ Bag H' b) ?_ ?_ ?_ ?_
    · refine ⟨[], [], upd_same, rfl, by rw [List.take_zero]; rfl, (fun _ z => nomatch z), .nil, by rw [upd_ne npd, upd_same], same_new (same_new (Same.refl H3) hp) hD, (hB3.new hp).new hD⟩
    · rintro i H' hi ⟨ys, cs, _, _, _, _, _, h, _⟩
      exact .inl (.inl h)
    · rintro i x H' hx ⟨ys, cs, h1, h2, h3, h4, h5, h6, h7, h8⟩
      rw [List.getElem?_map] at hx
      obtain ⟨t', ht', rfl⟩ := Option.map_eq_some_iff.mp hx
      obtain ⟨kx, hkx, hq'⟩ := paired_at pq ht'
      have memk : kx ∈ fs.map (·.1) := (List.mergeSort_perm _ _).mem_iff.mp (List.mem_of_getElem? hkx)
      obtain ⟨fx, hfx, rfl⟩ := List.mem_map.mp memk
      have hv : valV (kvs fs) (pK fx.1) = some (.int fx.2) := kvs_get FF.nodup hfx
      refine ⟨t', _, rfl, SqT.of (h7 _ _ hq'), rfl, _, _, rfl, _, _, rfl, rfl, ?_⟩
      refine ⟨rfl, _, rfl, _, rfl, _, rfl, _, rfl, _, rfl, by show 2 ≤ sizeLine; decide, fun u hu' => ?_⟩
      have gd : upd H' u (.tup [.str fx.1.1, .str fx.1.2]) d = some (.dT (kvs fs)) := s3u hu' (h7 _ _ g1)
      have dg := DGet.t (k := pK fx.1) gd (upd_same (H := H') (a := u) (o := .tup [.str fx.1.1, .str fx.1.2]))
      rw [hv] at dg
      refine ⟨d, _, rfl, dg, by show 3 ≤ sizeLine; decide, fun v hv' => ?_⟩
      have nvb : v ≠ b := (h8.new hu').ne hv'
      have q1 : upd (upd H' u (.tup [.str fx.1.1, .str fx.1.2])) v (.tup [.str fx.1.1, .str fx.1.2, .int fx.2]) D = some (.lst ys) := s3u hv' (s3u hu' h1)
      have nDu : D ≠ b := (hB3.new hp).ne hD
      have nvD : v ≠ D := ne_at upd_same q1 (fun z => by cases z)
      refine ⟨ys, q1, by rw [h2]; exact small1000 (by have := (List.getElem?_eq_some_iff.mp hkx).1; rw [List.length_mergeSort, List.length_map] at this; have := FF.len; omega), ?_⟩
      have s9 : Same H' (upd (upd H' u (.tup [.str fx.1.1, .str fx.1.2])) v (.tup [.str fx.1.1, .str fx.1.2, .int fx.2])) := same_new (same_new (Same.refl H') hu') hv'
      have b9 : Bag (upd (upd H' u (.tup [.str fx.1.1, .str fx.1.2])) v (.tup [.str fx.1.1, .str fx.1.2, .int fx.2])) b := (h8.new hu').new hv'
      have v9 : upd (upd H' u (.tup [.str fx.1.1, .str fx.1.2])) v (.tup [.str fx.1.1, .str fx.1.2, .int fx.2]) v = some (.tup [.str fx.1.1, .str fx.1.2, .int fx.2]) := upd_same
      generalize upd (upd H' u (.tup [.str fx.1.1, .str fx.1.2])) v (.tup [.str fx.1.1, .str fx.1.2, .int fx.2]) = H9 at q1 s9 b9 v9 ⊢
      refine ⟨ys ++ [.ref v], cs ++ [(fx.1.1, fx.1.2, fx.2)], upd_same, by rw [List.length_append, h2]; rfl, ?_, fun c hc => ?_, ?_, ?_, ?_, ?_⟩
      · rw [List.map_append, h3, List.take_succ, hkx]
        rfl
      · rcases List.mem_append.mp hc with z | z
        · exact h4 c z
        · rw [List.mem_singleton.mp z]
          exact hfx
      · exact paired_snoc ⟨v, rfl, nvb, by rw [upd_ne nvD]; exact v9⟩ (paired_imp (fun x c h => (CabT.more s9 h).upd q1) h5)
      · rw [upd_ne npd]
        exact s9 _ _ h6
      · exact same_put (h7.trans s9) hD'
      · exact hB3.wr hD' ((Sb.refl b H3).same (h7.trans s9)) b9
    · rintro H' ⟨ys, cs, h1, h2, h3, h4, h5, h6, h7, h8⟩
      refine ⟨D, ys, rfl, .inl ⟨SqL.of h1, fun l hl => ?_⟩⟩
      have nlb : l ≠ b := h8.ne hl
      have ea : cs.map ckey = (fs.map (·.1)).mergeSort (dataLe false pD) := by
        rw [h3, List.take_of_length_le]
        rw [List.length_map, ← paired_len pq]
        exact Nat.le_refl _
      have pm := List.mergeSort_perm (fs.map (·.1)) (dataLe false pD)
      have s4 : Sb b H (upd H' l (.tup ys)) := (s3'.same h7).new hl
      refine k l ys cs _ ⟨?_, ?_, fun c hc => FF.each _ (h4 c hc), _, ea⟩ upd_same ?_ ((s3'.same h7).free hl nlb) nlb (h8.new hl) s4
      · have := congrArg List.length ea
        rw [List.length_map, pm.length_eq, List.length_map] at this
        rw [this]
        exact FF.len
      · rw [ea]
        exact pm.nodup_iff.mpr FF.nodup
      · refine paired_imp (fun x c h => ?_) h5
        obtain ⟨t', e, n, q⟩ := h
        exact ⟨t', e, sqt_new (s3u hl q) n⟩
end
end Y

/-! OAy: the place of OA in laws with yards. -/
namespace Y
open PySem PySem.Spec PyProof.Rows L2 Ns
theorem fr_none {H H' : Hp} {p : Addr} (m : Same H H') (h : H' p = none) : H p = none := by
  cases e : H p with
  | none => rfl
  | some o => rw [m _ _ e] at h; cases h
end Y

/-! OE: _law_bent_word. -/
namespace Y
open PySem PySem.Spec PyProof.Rows L2 Ns
def spBW : Sp := fun as H Q _ => ∃ (b : Addr) (z : Str), as = [.ref b, .str z] ∧ Bag H b ∧ z.length ≤ 300 ∧ ∀ (y : Str) (H' : Hp), y.length ≤ 2 * z.length + 4 → Bag H' b → Sb b H H' → Q (.str y) H'
theorem strs_in {xs : List Str} {n : Nat} (h : ∀ z ∈ xs, z.length ≤ n) {x : V} (hx : x ∈ xs.map V.str) : ∃ z, x = .str z ∧ z.length ≤ n := by
  obtain ⟨z, hz, rfl⟩ := List.mem_map.mp hx
  exact ⟨z, rfl, h z hz⟩
section
variable {P : Program} {w : World} {K : PySem.W.Frag} {mg : Str → Option Value} {base : Heap}
end
end Y

/-! OF: _law_bent, for each depth. -/
namespace Y
open PySem PySem.Spec PyProof.Rows L2 Ns
open C8 (pss_cut)
theorem datA_cut {K : PySem.W.Frag} {H : Hp} {xs : List V} {ds : List PyData} (h : DatA K H xs ds) (lo hi : Option Int) : ∃ es, DatA K H (cutV xs lo hi) es ∧ (∀ e ∈ es, e ∈ ds) ∧ es.length ≤ ds.length := by
  refine ⟨_, datA_take (datA_drop h _) _, fun e he => List.mem_of_mem_drop (List.mem_of_mem_take he), ?_⟩
  rw [List.length_take, List.length_drop]
  omega
theorem cut_one (xs : List V) : (cutV xs none (some 1)).length ≤ 1 := by
  unfold cutV
  rw [List.length_take, show HT.sIx xs.length xs.length (some 1) = min 1 xs.length from HT.sIx_nat _ _ 1]
  have := Nat.min_le_left 1 xs.length
  omega
theorem sbT {K : PySem.W.Frag} {b p : Addr} {H H' : Hp} {xs : List V} (s : Sb b H H') (B : Bag H b) (h : SqT K H p xs) : SqT K H' p xs := sqt_more (wo_sub H' b) (sqt_more s.1 (sqt_wo' h B))
theorem dat_tup {K : PySem.W.Frag} {H : Hp} {x : V} {d : PyData} (D : DatV K H x d) (h : qT d = true) : ∃ a xs ds, x = .ref a ∧ d = .tuple ds ∧ SqT K H a xs ∧ DatA K H xs ds := by
  cases D with
  | tup h1 h2 => exact ⟨_, _, _, rfl, rfl, h1, h2⟩
  | _ => cases h
theorem dat_str {K : PySem.W.Frag} {H : Hp} {x : V} {d : PyData} (D : DatV K H x d) (h : qS d = true) : ∃ z, x = .str z ∧ d = .str z := by
  cases D with
  | str z => exact ⟨z, rfl, rfl⟩
  | _ => cases h
theorem dat_whole {K : PySem.W.Frag} {H : Hp} {x : V} {d : PyData} (D : DatV K H x d) (h : qI d = true) (g : ¬ qB d = true) : ∃ i, x = .int i ∧ d = .int i := by
  cases D with
  | int i => exact ⟨i, rfl, rfl⟩
  | bl b => exact absurd rfl g
  | _ => cases h
theorem str_int {i : Int} {w : Nat} (h : i.natAbs < 10 ^ w) (hw : w ≤ 300) : (toString i : Str).length ≤ w + 2 ∧ i.natAbs.log2 < 1920 := by
  have h' : i.natAbs < 10 ^ (w + 1) := pow_up h (Nat.le_succ w)
  have f := fit_int (i := i) (n := w + 1) (by omega) h' (by omega)
  refine ⟨?_, ?_⟩
  · have := f.2.1
    exact this
  · refine log2_small (Nat.lt_trans h' (Nat.lt_of_le_of_lt (Nat.pow_le_pow_right (by decide) (show w + 1 ≤ 301 by omega)) (by decide +kernel)))
/-- a value with one part otherwise, at most n deep -/
def spBent (K : PySem.W.Frag) (n : Nat) : Sp := fun as H Q _ => ∃ (b : Addr) (x : V) (d : PyData) (w : Nat), as = [.ref b, x, .int (n : Int)] ∧ Bag H b ∧ DatV K (wo H b) x d ∧ Bd w d ∧ w ≤ 300 ∧
  ∀ (x' : V) (d' : PyData) (H' : Hp), DatV K (wo H' b) x' d' → Bd (3 * w + 40) d' → Bag H' b → Sb b H H' → Q x' H'
def spLess (K : PySem.W.Frag) : Nat → Sp
  | 0 => fun _ _ _ _ => False
  | n + 1 => spBent K n
section
variable {P : Program} {w : World} {K : PySem.W.Frag} {mg : Str → Option Value} {base : Heap}
end
end Y

/-! OR: names, cables, cars, edits among any values: the program's. -/
namespace Ns
open PySem PySem.Spec PyProof.Rows L2
/-- xs == [], any list -/
def rEqE (K : PySem.W.Frag) : R2 := fun x y H Q => ∃ (a b : Addr) (xs : List V), x = .ref a ∧ y = .ref b ∧ SqL K H a xs ∧ SqL K H b [] ∧ Q (.bl (decide (xs = []))) H
theorem op_eqE {X : Cx} (hu : X.A.units + 64 < cLine) : OpR X (compareOp .Eq) (rEqE X.K) := by
  intro pins s σ H x y v u Q I rx ry h
  obtain ⟨a, b, xs, rfl, rfl, ha, hb, q⟩ := h
  cases (show v = Value.ref a from rx)
  cases (show u = Value.ref b from ry)
  obtain ⟨us, r1, p1, _⟩ := I.list ha
  obtain ⟨ws, r2, p2, _⟩ := I.list hb
  have z : ws = [] := by cases r2; rfl
  subst z
  have l1 := r1.length
  cases xs with
  | nil =>
    cases us with
    | nil =>
      refine SeqAt.RcAt.lists (e := fun _ => true) p1.isList p2.isList rfl (by omega) (fun j h1 _ => absurd h1 (Nat.not_lt_zero j)) _ _ _ _ ?_
      exact ⟨.bl true, H, I, rfl, q⟩
    | cons _ _ => cases l1
  | cons x xs =>
    cases us with
    | nil => cases l1
    | cons u us =>
      refine SeqAt.RcAt.lists_lengths p1.isList p2.isList (by simp) (by omega) _ _ _ _ ?_
      exact ⟨.bl false, H, I, rfl, q⟩
end Ns
namespace Y
open PySem PySem.Spec PyProof.Rows L2 Ns
def nmB (z : Str) : Bool := match z.cps.toList with
  | [] => false
  | c :: r => decide (z.length ≤ 20) && (decide (c ∈ letters.cps.toList) && (c :: r).all fun c => decide (c ∈ signs.cps.toList))
def nameD : PyData → Bool | .str z => nmB z | _ => false
def isPos : PyData → Bool | .int i => decide (1 ≤ i) | _ => false
def strOf : PyData → Str | .str z => z | _ => ""
def tupN (n : Int) : PyData → Bool | .tuple ds => decide ((ds.length : Int) = n) | _ => false
def cableD : PyData → Bool
  | .tuple [a, b, c] => nameD a && (nameD b && (!decide (strOf a = strOf b) && (!decide (strOf b = feed) && isCnt c)))
  | _ => false
def carT : PyData → Bool
  | .tuple [a, b, c, d] => nameD a && (nameD b && (isPos c && isCnt d))
  | _ => false
def editD : PyData → Bool
  | .tuple (w :: r) => if isText "cable" w then cableD (.tuple r) else if isText "no cable" w then cableD (.tuple (r ++ [.int 0])) else if isText "car" w then carT (.tuple r) else isText "no car" w && (decide (((w :: r).length : Int) = 2) && nameD (r.headD .none))
  | _ => false
theorem name_str {d : PyData} (h : nameD d = true) : ∃ z, d = .str z := by cases d <;> first | exact ⟨_, rfl⟩ | cases h
theorem dat_s {K : PySem.W.Frag} {H : Hp} {x : V} {z : Str} (D : DatV K H x (.str z)) : x = .str z := by cases D; rfl
/-- what tells something of any value, and may make objects -/
def spTellS (K : PySem.W.Frag) (f : PyData → Bool) : Sp := fun as H Q _ => ∃ (x : V) (d : PyData), as = [x] ∧ DatV K H x d ∧ Bd 1000 d ∧ ∀ H', Same H H' → Q (.bl (f d)) H'
def spTup (K : PySem.W.Frag) : Sp := fun as H Q _ => ∃ (n : Int) (x : V) (d : PyData), as = [.int n, x] ∧ DatV K H x d ∧ Q (.bl (tupN n d)) H
theorem small_str {z : Str} (h : Bd 1000 (.str z)) : z.length ≤ sizeLine := by
  simp only [Bd] at h
  exact Nat.le_of_lt (small1000 h)
section
variable {P : Program} {w : World} {K : PySem.W.Frag} {mg : Str → Option Value} {base : Heap}
theorem tup3 {ds : List PyData} {K : PySem.W.Frag} {H : Hp} {xs : List V} (h : DatA K H xs ds) (e : ds.length = 3) : ∃ x y z a b c, xs = [x, y, z] ∧ ds = [a, b, c] ∧ DatV K H x a ∧ DatV K H y b ∧ DatV K H z c := by
  cases h with
  | nil => cases e
  | cons h1 t => cases t with
    | nil => cases e
    | cons h2 t => cases t with
      | nil => cases e
      | cons h3 t => cases t with
        | nil => exact ⟨_, _, _, _, _, _, rfl, rfl, h1, h2, h3⟩
        | cons _ _ => simp at e
theorem tup4 {ds : List PyData} {K : PySem.W.Frag} {H : Hp} {xs : List V} (h : DatA K H xs ds) (e : ds.length = 4) : ∃ x y z u a b c d, xs = [x, y, z, u] ∧ ds = [a, b, c, d] ∧ DatV K H x a ∧ DatV K H y b ∧ DatV K H z c ∧ DatV K H u d := by
  cases h with
  | nil => cases e
  | cons h1 t =>
    obtain ⟨x, y, z, a, b, c, rfl, rfl, h2, h3, h4⟩ := tup3 t (Nat.succ.inj e)
    exact ⟨_, _, _, _, _, _, _, _, rfl, rfl, h1, h2, h3, h4⟩
theorem cable_not {d : PyData} (h : tupN 3 d = false) : cableD d = false := by
  cases d with
  | tuple ds =>
    unfold cableD
    split
    · rename_i e
      injection e with e
      rw [e] at h
      cases h
    · rfl
  | _ => rfl
theorem car_not {d : PyData} (h : tupN 4 d = false) : carT d = false := by
  cases d with
  | tuple ds =>
    unfold carT
    split
    · rename_i e
      injection e with e
      rw [e] at h
      cases h
    · rfl
  | _ => rfl
theorem tupN_get {d : PyData} {n : Nat} (h : tupN n d = true) : ∃ ds, d = .tuple ds ∧ ds.length = n := by
  cases d with
  | tuple ds =>
    have h' := of_decide_eq_true (show decide ((ds.length : Int) = (n : Int)) = true from h)
    exact ⟨ds, rfl, by omega⟩
  | _ => cases h
theorem dat_tupT {K : PySem.W.Frag} {H : Hp} {x : V} {ds : List PyData} (D : DatV K H x (.tuple ds)) : ∃ a xs, x = .ref a ∧ SqT K H a xs ∧ DatA K H xs ds := by
  cases D with
  | tup h1 h2 => exact ⟨_, _, rfl, h1, h2⟩
theorem bd_in {ds : List PyData} {d : PyData} (h : Bd 1000 (.tuple ds)) (m : d ∈ ds) : Bd 1000 d := by
  simp only [Bd] at h
  exact bdA_iff.mp h.2 d m
theorem neS {a b : Str} : (!decide (V.str a = V.str b)) = !decide (a = b) := by
  by_cases h : a = b
  · rw [h, decide_eq_true rfl, decide_eq_true rfl]
  · rw [decide_eq_false h, decide_eq_false (fun z => h (by injection z))]
end
end Y

/-! OS: edits among any values; the law's own reading of all these. -/
namespace Ns
open PySem PySem.Spec PyProof.Rows L2
/-- t == (), any tuple -/
def rEq0 (K : PySem.W.Frag) : R2 := fun x y H Q => ∃ (a b : Addr) (xs : List V), x = .ref a ∧ y = .ref b ∧ SqT K H a xs ∧ SqT K H b [] ∧ Q (.bl (decide (xs = []))) H
theorem op_eq0 {X : Cx} (hu : X.A.units + 64 < cLine) : OpR X (compareOp .Eq) (rEq0 X.K) := by
  intro pins s σ H x y v u Q I rx ry h
  obtain ⟨a, b, xs, rfl, rfl, ha, hb, q⟩ := h
  cases (show v = Value.ref a from rx)
  cases (show u = Value.ref b from ry)
  obtain ⟨us, r1, ⟨o1, h1, h2, n1, h3⟩, _⟩ := I.tuple ha
  obtain ⟨ws, r2, ⟨o2, g1, g2, n2, g3⟩, _⟩ := I.tuple hb
  have z : ws = [] := by cases r2; rfl
  subst z
  refine SeqAt.RcAt.tuples (e := fun _ => true) ⟨o1, h1, h2, n1, h3⟩ ⟨o2, g1, g2, n2, g3⟩ (by omega) (fun j _ j2 => absurd j2 (Nat.not_lt_zero j)) _ _ _ _ ?_
  have e : ((List.range (min us.toArray.size ([] : List Value).toArray.size)).all (fun _ => true) && us.toArray.size == ([] : List Value).toArray.size) = decide (xs = []) := by
    have l1 := r1.length
    cases xs with
    | nil => cases us with
      | nil => rfl
      | cons _ _ => cases l1
    | cons _ _ => cases us with
      | nil => cases l1
      | cons _ _ => simp
  exact ⟨.bl (decide (xs = [])), H, I, congrArg Value.bool e, q⟩
end Ns
namespace Y
open PySem PySem.Spec PyProof.Rows L2 Ns
theorem cut_tail (x : V) (xs : List V) : cutV (x :: xs) (some (1 : Int)) none = xs := by
  rw [show (1 : Int) = ((1 : Nat) : Int) from rfl, cut_from]
  rfl
theorem bd_tail {d : PyData} {ds : List PyData} (h : Bd 1000 (.tuple (d :: ds))) : Bd 1000 (.tuple ds) := by
  simp only [Bd, BdA] at h ⊢
  exact ⟨by have := h.1; rw [List.length_cons] at this; omega, h.2.2⟩
theorem bd_more {d : PyData} {ds : List PyData} (h : Bd 1000 (.tuple (d :: ds))) : Bd 1000 (.tuple (ds ++ [.int 0])) := by
  simp only [Bd, BdA] at h ⊢
  refine ⟨by have := h.1; rw [List.length_cons] at this; rw [List.length_append]; exact this, bdA_iff.mpr fun u hu => ?_⟩
  rcases List.mem_append.mp hu with z | z
  · exact bdA_iff.mp h.2.2 u z
  · rw [List.mem_singleton.mp z]
    simp only [Bd]
    decide +kernel
theorem text_eq {z : Str} {d : PyData} (h : isText z d = true) : d = .str z := by
  cases d with
  | str y => rw [of_decide_eq_true (show decide (y = z) = true from h)]
  | _ => cases h
section
variable {P : Program} {w : World} {K : PySem.W.Frag} {mg : Str → Option Value} {base : Heap}
-- the law's
end
end Y

/-! OT: the law's cables, cars, edits among any values. -/
namespace Y
open PySem PySem.Spec PyProof.Rows L2 Ns
section
variable {P : Program} {w : World} {K : PySem.W.Frag} {mg : Str → Option Value} {base : Heap}
theorem len3 {xs : List V} {n : Nat} : (!decide (V.int (xs.length : Int) = V.int (n : Int))) = !decide (xs.length = n) := by
  by_cases h : xs.length = n
  · rw [h, decide_eq_true rfl, decide_eq_true rfl]
  · rw [decide_eq_false h, decide_eq_false (fun z => h (by injection z with z; omega))]
theorem cable_len {ds : List PyData} (h : ds.length ≠ 3) : cableD (.tuple ds) = false := cable_not (decide_eq_false (fun z => h (by omega)))
theorem car_len {ds : List PyData} (h : ds.length ≠ 4) : carT (.tuple ds) = false := car_not (decide_eq_false (fun z => h (by omega)))
end
end Y

/-! OU: dicts with couples of texts as keys: del, pop, dict of a list of pairs. -/
namespace Ns
open PySem PySem.Spec PyProof.Rows L2
section
variable {X : Cx} {pins : List (Addr × Obj)} {σ : L2.St} {H : Hp} {s : Shared} {a b : Addr} {kvs : List (List Key × V)} {k : List Key} {A : Around} {E : Value → Shared → Prop}
theorem kt_at {xs : List (List Key × Addr × Value)} {v : V} (rel : KT H kvs xs) (l : valV kvs k = some v) : ∃ p, atKey xs k = some p ∧ RelV v p.2 := by
  have r := rel.val k
  rw [l] at r
  cases q : atKey xs k with
  | none => rw [q] at r; exact (show False from r).elim
  | some p => rw [q] at r; exact ⟨p, rfl, r⟩
/-- behind a write: the couples stand -/
theorem kt_write {h' : Heap} {t' : Nat} {kvs' : List (List Key × V)} {xs' : List (List Key × Addr × Value)} (I : Inv X pins σ H s) (e : H a = some (.dT kvs)) (hs : Heap.SameBut a s.heap h') (rel : KT H kvs' xs') (hl : kvs'.length ≤ sizeLine) (hd : (a == sysModules) = false)
    (dd : h'.DictOfH (tupleKind (mixKind X.prog X.w)) a xs') : Inv X pins σ (upd H a (.dT kvs')) { s with heap := h', toks := t' } := by
  obtain ⟨o, es, ep, ho, hx, hdat, hes, _, hn⟩ := dd
  refine d_write I (by rw [e]; exact True.intro) hs ⟨o, ho⟩ ⟨hl, hd, xs', ?_, o, es, ep, ho, hx, hdat, hes, hn⟩
  exact rel.keeps fun c ys ec => by rw [upd_ne (ne_of ec e (fun z => nomatch z))]; exact ec
theorem d_delT {v : V} {Q : Unit → Shared → Prop} (hu : A.units + 1 < cLine) (I : Inv X pins σ H s) (e : H a = some (.dT kvs)) (eb : H b = some (.tup (k.map kV))) (l : valV kvs k = some v) (h : ∀ s', Inv X pins σ (upd H a (.dT (dropK kvs k))) s' → Q () s') :
    wpAny (model X.prog X.w) A (delItem (.ref a) (.ref b)) Q E s := by
  obtain ⟨z, hd, xs, rel, dd⟩ := dt_of I.hok e
  obtain ⟨p, hp, _⟩ := kt_at rel l
  exact wpAny_delItem_heap (hsz := by rw [← Paired.length rel]; exact z) (tupleKind_room_in1 hu) (key_of I.hok eb) hd dd hp fun h' dd' hs => h _ (kt_write I e hs (L2.DX.KT_drop k rel) (Nat.le_trans (dropK_le kvs k) z) hd dd')
end
def sDDelT (td ty : TE) : TS := fun D σ H => td σ H fun x H1 => ty σ H1 fun y H2 => ∃ (a b : Addr) (kvs : List (List Key × V)) (k : List Key) (v : V), x = .ref a ∧ y = .ref b ∧ H2 a = some (.dT kvs) ∧ H2 b = some (.tup (k.map kV)) ∧ valV kvs k = some v ∧ D.nx σ (upd H2 a (.dT (dropK kvs k)))
def rPopT1 : V → List V → Hp → VK → Prop := fun x xs H Q => ∃ (a b : Addr) (kvs : List (List Key × V)) (k : List Key) (v : V), x = .ref a ∧ xs = [.ref b] ∧ H a = some (.dT kvs) ∧ H b = some (.tup (k.map kV)) ∧ valV kvs k = some v ∧ Q v (upd H a (.dT (dropK kvs k)))
def rPopK1 : V → List V → Hp → VK → Prop := fun x xs H Q => ∃ (a : Addr) (kvs : List (Key × V)) (k : Key) (v : V), x = .ref a ∧ xs = [kV k] ∧ H a = some (.dK kvs) ∧ valV kvs k = some v ∧ Q v (upd H a (.dK (dropK kvs k)))
section
variable {X : Cx} {o i : Expr} {pos tpos : Pos} {td ty : TE}
theorem ps_delT (hu : X.A.units + 1 < cLine) (ho : PE X o td) (hi : PE X i ty) : PS X (.Delete [.Subscript o i tpos] pos) (sDDelT td ty) := by
  refine ⟨fun pins s σ H D I h => ?_⟩
  refine wpAny_Delete (wpAny_deleteEach_cons (wpAny_delete_Subscript (thn (ho.run pins s σ H _ I h) fun u s1 ⟨x, H1, I1, rx, q1⟩ => thn (hi.run pins s1 σ H1 _ I1 q1) fun iv s2 hh => ?_)))
  obtain ⟨y, H2, I2, ry, a, b, kvs, k, v, rfl, rfl, e, eb, l, q2⟩ := hh
  cases rx
  cases ry
  exact d_delT hu I2 e eb l fun s3 I3 => wpAny_deleteEach_nil ⟨σ, _, I3, q2⟩
theorem mt_popT1 (hu : X.A.units + 1 < cLine) : MtR X "dict.pop" rPopT1 := by
  intro pins s σ H x xs v us Q I rx rxs h
  obtain ⟨a, b, kvs, k, v, rfl, rfl, e, eb, l, q⟩ := h
  cases rx
  obtain ⟨u1, rfl, r1⟩ := vals1 rxs
  cases r1
  obtain ⟨z, hd, xs', rel, dd⟩ := dt_of I.hok e
  obtain ⟨p, hp, rp⟩ := kt_at rel l
  exact call_pop_heap (hsz := by rw [← Paired.length rel]; exact z) (.inl rfl) (PySem.F.args_dict_pop_2 _ _) (tupleKind_room_in1 hu) (key_of I.hok eb) hd dd hp fun h' dd' hs =>
    ⟨v, _, kt_write I e hs (L2.DX.KT_drop k rel) (Nat.le_trans (dropK_le kvs k) z) hd dd', rp, q⟩
theorem mt_popK1 : MtR X "dict.pop" rPopK1 := by
  intro pins s σ H x xs v us Q I rx rxs h
  obtain ⟨a, kvs, k, v, rfl, rfl, e, l, q⟩ := h
  cases rx
  obtain ⟨u1, rfl, r1⟩ := vals1 rxs
  exact d_pop I e r1 l (.inl rfl) fun w' s3 I3 rw' => ⟨v, _, I3, rw', q⟩
end
/-! ### dict of a list of pairs -/
def mergeT (kvs more : List (List Key × V)) : List (List Key × V) := more.foldl (fun acc kv => putK acc kv.1 kv.2) kvs
theorem kt_merge {H : Hp} : ∀ {more : List (List Key × V)} {ps xs : List (List Key × Addr × Value)} {kvs : List (List Key × V)}, KT H more ps → KT H kvs xs → KT H (mergeT kvs more) (storedAllH xs ps)
  | _, _, _, _, .nil, r => r
  | _, _, _, _, .cons (a := p) (b := q) h t, r => by
    have e := r.put p.1 h.2.1 h.2.2
    rw [h.1] at e
    have z := kt_merge t e
    rw [← h.1] at z
    exact (by rw [h.1] at z; exact (show KT H (mergeT (putK _ p.1 p.2) _) (storedAllH (storedH _ q.1 q.2.1 q.2.2) _) from by rw [h.1]; exact z))
theorem mergeT_len : ∀ (more kvs : List (List Key × V)), (mergeT kvs more).length ≤ kvs.length + more.length
  | [], kvs => Nat.le_refl _
  | p :: r, kvs => by
    have h1 := mergeT_len r (putK kvs p.1 p.2)
    have h2 := length_putK kvs p.1 p.2
    show (mergeT (putK kvs p.1 p.2) r).length ≤ _
    rw [List.length_cons]
    omega
def PrT (K : PySem.W.Frag) (H : Hp) (p : Addr) (kv : List Key × V) : Prop := ∃ b, SqT K H p [.ref b, kv.2] ∧ H b = some (.tup (kv.1.map kV))
theorem prt_of {X : Cx} {pins : List (Addr × Obj)} {σ : L2.St} {H : Hp} {s : Shared} (I : Inv X pins σ H s) : ∀ {ps : List Addr} {kvs : List (List Key × V)}, Paired (PrT X.K H) ps kvs →
    ∃ xs : List (List Key × Addr × Value), KT H kvs xs ∧ xs.length = ps.length ∧ (∀ x ∈ xs, (tupleKind (mixKind X.prog X.w)).is s.heap x.1 x.2.1) ∧ ∀ (j : Nat) (x : List Key × Addr × Value), xs[j]? = some x → ∃ c, ps[j]? = some c ∧ s.heap.IsTuple c #[.ref x.2.1, x.2.2]
  | _, _, .nil => ⟨[], .nil, rfl, (fun _ z => nomatch z), fun j x e => by simp at e⟩
  | _, _, .cons (a := p) (b := kv) h t => by
    obtain ⟨xs, r, hl, hk, hp⟩ := prt_of I t
    obtain ⟨b, sq, eb⟩ := h
    obtain ⟨its, rv, ht, _⟩ := I.tuple sq
    obtain ⟨u, y, ei, ru, ry⟩ := vals2 rv
    subst ei
    cases (show u = Value.ref b from ru)
    refine ⟨(kv.1, b, y) :: xs, .cons ⟨rfl, eb, ry⟩ r, by rw [List.length_cons, List.length_cons, hl], fun x hx => ?_, fun j x e => ?_⟩
    · rcases List.mem_cons.mp hx with rfl | hx
      · exact key_of I.hok eb
      · exact hk x hx
    · cases j with
      | zero =>
        cases (show (kv.1, b, y) = x from Option.some.inj e)
        exact ⟨p, rfl, by obtain ⟨o, ho, hc, n, hd⟩ := ht; exact ⟨o, ho, hc, n, hd⟩⟩
      | succ j => exact hp j x (by simpa using e)
def rDictPT (K : PySem.W.Frag) : List V → Hp → VK → Prop := fun xs H Q => ∃ (a : Addr) (ps : List Addr) (kvs : List (List Key × V)), xs = [.ref a] ∧ SqL K H a (ps.map V.ref) ∧ Paired (PrT K H) ps kvs ∧ ∀ p, H p = none → Q (.ref p) (upd H p (.dT (mergeT [] kvs)))
theorem call_dictPT {X : Cx} (hcalm : X.calm = true) (hu : X.A.units + 3 < cLine) : CallR X (.type "dict") (rDictPT X.K) := by
  intro pins s σ H xs us Q I r q
  obtain ⟨a, ps, kvs, rfl, hq, hp, q⟩ := q
  obtain ⟨u, rfl, rx⟩ := vals1 r
  cases rx
  obtain ⟨its, rv, pl, hz⟩ := I.list hq
  cases refs_at rv
  rw [List.length_map] at hz
  obtain ⟨es, rel, hl, his, hpr⟩ := prt_of I hp
  obtain ⟨o, n, ho, hc, hd, hdat⟩ := pl
  have pit : PairItems s.heap (ps.map Value.ref).toArray (fun j => ps.getD j 0) (es.map fun x => (Value.ref x.2.1, x.2.2)) := by
    refine ⟨by simp [hl], fun j k v e => ?_⟩
    rw [List.getElem?_map] at e
    obtain ⟨x, ex, e2⟩ := Option.map_eq_some_iff.mp e
    cases e2
    obtain ⟨c, hc1, hc2⟩ := hpr j x ex
    have ec : ps.getD j 0 = c := by rw [List.getD_eq_getElem?_getD, hc1]; rfl
    refine ⟨?_, .inl ?_⟩
    · show ((ps.map Value.ref).toArray)[j]? = some (.ref (ps.getD j 0))
      rw [ec]
      simp [hc1]
    · show s.heap.IsTuple (ps.getD j 0) _
      rw [ec]
      exact hc2
  refine call_dict_pairsH (knd := tupleKind (mixKind X.prog X.w)) (ps := es) (PairArg.list a (ps.map Value.ref).toArray (fun j => ps.getD j 0) (es.map fun x => (Value.ref x.2.1, x.2.2))) (I.ok.hd hcalm) (by show _ < cLine; exact Nat.lt_of_le_of_lt (by show X.A.units + 2 ≤ X.A.units + 3; omega) hu) ⟨⟨o, n, ho, hc, hd, hdat⟩, pit⟩ ⟨by rw [List.length_map], fun i key v e => ?_⟩ (fun h' hk x hx => ?_) (by rw [List.length_map, hl]; exact hz) fun h' tk hd' k => ?_
  · rw [show PairRel _ i key v = ((es.map fun x => (Value.ref x.2.1, x.2.2))[i]? = some (key, v)) from rfl, List.getElem?_map] at e
    obtain ⟨x, ex, e2⟩ := Option.map_eq_some_iff.mp e
    cases e2
    exact ⟨x.1, x.2.1, ex, rfl⟩
  · exact tupleKind_stays.stays (fun b o vs n e _ => hk b o (Nat.ne_of_lt (Heap.lt_size e)) (fun z => nomatch z) e) (his x hx)
  · have hm : (s.heap.objs.size == sysModules) = false := beq_eq_false_iff_ne.mpr (Nat.ne_of_gt I.big)
    have hlen : (mergeT [] kvs).length ≤ sizeLine := by
      refine Nat.le_trans (mergeT_len kvs []) ?_
      rw [List.length_nil, Nat.zero_add, Paired.length rel, hl]
      exact hz
    have hf : H s.heap.objs.size = none := I.hok.fresh (Nat.le_refl _)
    obtain ⟨o2, es2, ep2, g1, g2, g3, g4, _, g5⟩ := hd'
    refine ⟨.ref s.heap.objs.size, upd H s.heap.objs.size (.dT (mergeT [] kvs)), I.laid (t' := tk) (fun b o e => k b o (fun z => nomatch z) e) (Nat.le_refl _) ⟨hlen, hm, storedAllH [] es, ?_, o2, es2, ep2, g1, g2, g3, g4, g5⟩, rfl, q _ hf⟩
    exact (kt_merge rel .nil).keeps fun c ys ec => by rw [upd_ne (ne_of_none ec hf)]; exact ec
end Ns

/-! OV: {(a, b): v for ..}: a new dict with tuples as keys, made by a comprehension. -/
namespace Ns
open PySem PySem.Spec PyProof.Rows L2
section
variable {X : Cx}
theorem d_setT {pins : List (Addr × Obj)} {σ : L2.St} {H : Hp} {s : Shared} {E : Value → Shared → Prop} {D b : Addr} {kvs : List (List Key × V)} {k : List Key} {v : V} {r : Value} {Q : Unit → Shared → Prop} (hu : X.A.units < cLine) (I : Inv X pins σ H s) (hD : H D = some (.dT kvs))
    (hb : H b = some (.tup (k.map kV))) (hz : kvs.length < sizeLine) (rv : RelV v r) (h : ∀ s', Inv X pins σ (upd H D (.dT (putK kvs k v))) s' → Q () s') : wpAny (model X.prog X.w) X.A (dictSet D (.ref b) r) Q E s := by
  obtain ⟨z, hd, xs, rel, dd⟩ := dt_of I.hok hD
  refine wpAny_dictSet_heap (hsz := by rw [← Paired.length rel]; exact z) hu (key_of I.hok hb) dd fun h' dd' hs => h _ (kt_write I hD hs (rel.put k hb rv) ?_ hd dd')
  have := length_putK kvs k v
  omega
/-- D the new dict -/
def tDcT (wi : TI) (g : TG) (tt : TT) (tk tv : TE) (own : List Nat) : TE := fun σ H Q => wi σ H fun J H1 => ∀ D, H1 D = none → ∃ W : Nat → Nat → Hp → Prop, (∃ m, W 0 m (upd H1 D (.dT []))) ∧ ∀ i m G, W i m G →
  (J.stop i G ∧ Q (.ref D) G) ∨ (J.go i G ∧ ∃ Nx : Hp → Prop, (∀ G', Nx G' → ∃ m', m' < m ∧ W (i + 1) m' G') ∧ ∀ x G', J.yld i G x G' → g x (wipe σ own) G' fun σ2 G2 => wipe σ2 own = wipe σ own ∧ tt σ2 G2 fun o G3 =>
    if o = true then tk σ2 G3 fun y G4 => tv σ2 G4 fun z G5 => ∃ kvs k b, y = .ref b ∧ G5 b = some (.tup (k.map kV)) ∧ G5 D = some (.dT kvs) ∧ kvs.length < sizeLine ∧ Nx (upd G5 D (.dT (putK kvs k z))) else Nx G3)
variable {kx vx tg iter : Expr} {ifs : List Expr} {scope : Scope} {own : List (Str × Nat)} {pos : Pos} {wi : TI} {g : TG} {tt : TT} {tk tv : TE}
theorem pe_dcT (hu : X.A.units < cLine) (hc : X.calm = true) (hN : X.N.Nodup) (hi : PI X tg iter wi) (ok : BlkOk X.N X.env.scope scope own)
    (hg : ∀ (s : Shared) (H : Hp) (C : Addr) (cl : List (Str × Addr)) (fp : List Addr), PG (X.blk s H scope (compEnvC scope cl C X.env) fp) tg g)
    (ht : ∀ (s : Shared) (H : Hp) (C : Addr) (cl : List (Str × Addr)) (fp : List Addr), PTs (X.blk s H scope (compEnvC scope cl C X.env) fp) ifs tt)
    (hk : ∀ (s : Shared) (H : Hp) (C : Addr) (cl : List (Str × Addr)) (fp : List Addr), PE (X.blk s H scope (compEnvC scope cl C X.env) fp) kx tk)
    (hv : ∀ (s : Shared) (H : Hp) (C : Addr) (cl : List (Str × Addr)) (fp : List Addr), PE (X.blk s H scope (compEnvC scope cl C X.env) fp) vx tv) (hs : ∀ x, foldedSetIterable iter X.env x = pure x := by intro _; rfl) :
    PE X (.DictComp kx vx [⟨tg, iter, ifs, 0⟩] scope pos) (tDcT wi g tt tk tv (own.map (·.2))) := by
  refine ⟨fun pins s σ H Q I h => ?_⟩
  rw [arm_eval_DictComp]
  refine wpAny_comprehension_free (use := none) rfl hs (closure_ok fun y hy e => ?_) ok.kind (fun y hy e => by rw [ok.uniq y hy, e]) (thn (hi.run pins s σ H _ I h) fun xv s1 hx => thn hx fun _ s2 ⟨it, fp, tn, J, H2, e2, I2, T, st2, f2, q⟩ => ?_)
  · exact (ok.free y hy e).elim (fun z => I.ok.has _ (.inl z)) fun z => I.ok.has _ (.inr z)
  subst e2
  refine wpAny_newObj_type (newEnv_comp ?_)
  -- the new dict is at D
  obtain ⟨D, eD⟩ : ∃ D, D = s2.heap.objs.size := ⟨_, rfl⟩
  obtain ⟨W, ⟨m0, w0⟩, turn⟩ := q D (I2.hok.fresh (Nat.le_of_eq eD.symm))
  obtain ⟨s3, es3⟩ : ∃ s3 : Shared, s3 = { s2 with heap := s2.heap.push { cls := .type "dict", data := .dict #[] } } := ⟨_, rfl⟩
  have I3 : Inv X pins σ (upd H2 D (.dT [])) s3 := by
    subst es3 eD
    exact I2.laid (t' := s2.toks) (fun b o e => Heap.get?_push_of_some _ e) (Nat.le_refl _) (dt_empty s2.heap I2.big)
  have up3 : ∀ b o, s2.heap.get? b = some o → s3.heap.get? b = some o := fun b o e => by subst es3; exact Heap.get?_push_of_some _ e
  have f3 : ∀ b ∈ fp, FpOk X pins (upd H2 D (.dT [])) b ∧ b < s3.heap.objs.size := fun b hb => by
    obtain ⟨o, e, _⟩ := T.obj _ _ st2 b hb
    have lt := Heap.lt_size e
    refine ⟨⟨?_, (f2 b hb).2⟩, Heap.lt_size (up3 _ _ e)⟩
    rw [upd_ne (by rw [eD]; exact Nat.ne_of_lt lt)]
    exact (f2 b hb).1
  have st3 : tn 0 s3.heap := T.keep _ _ _ st2 fun b _ o e => up3 _ _ e
  have nD3 : (upd H2 D (.dT [])) D = some (.dT []) := upd_same
  rw [← eD]
  obtain ⟨H3, eH3⟩ : ∃ H3, H3 = upd H2 D (.dT []) := ⟨_, rfl⟩
  rw [← eH3] at I3 f3 w0 nD3
  -- the block
  obtain ⟨C, eC⟩ : ∃ C, C = s3.heap.objs.size := ⟨_, rfl⟩
  have I4 := block_start I3 ok hN f3
  have hgoal : ({ s2 with heap := s2.heap.push { cls := .type "dict", data := .dict #[] } } : Shared) = s3 := es3.symm
  obtain ⟨ce, ece⟩ : ∃ ce, ce = compEnvC scope (cellsFrom (C + 1) scope.names (cloFrom X.env.cells scope.names [])) C X.env := ⟨_, rfl⟩
  have pg := hg s3 H3 C (cellsFrom (C + 1) scope.names (cloFrom X.env.cells scope.names [])) fp
  have pt := ht s3 H3 C (cellsFrom (C + 1) scope.names (cloFrom X.env.cells scope.names [])) fp
  have pk := hk s3 H3 C (cellsFrom (C + 1) scope.names (cloFrom X.env.cells scope.names [])) fp
  have pv := hv s3 H3 C (cellsFrom (C + 1) scope.names (cloFrom X.env.cells scope.names [])) fp
  obtain ⟨s4, es4⟩ : ∃ s4 : Shared, s4 = { s3 with heap := pushCells (s3.heap.push { cls := .type "dict", data := .dict #[] }) scope.names } := ⟨_, rfl⟩
  rw [← eC, ← ece] at I4
  rw [← ece] at pg pt pk pv
  have up4 : ∀ b o, s3.heap.get? b = some o → s4.heap.get? b = some o := fun b o e => by subst es4; exact pushCells_keeps _ _ _ _ (Heap.get?_push_of_some _ e)
  have goal : codeAny (model X.prog X.w) X.A (.compStart (.DictComp kx vx [⟨tg, iter, ifs, 0⟩] scope pos) 0 (.ref it) (.ref D) ce) (compPost (model X.prog X.w) X.A X.xe none (EP X pins σ Q) (.ref D) C) s4 := by
    have cL : ce.locals = C := by rw [ece]; rfl
    have I5 : Inv (X.blk s3 H3 scope ce fp) [] (wipe σ (own.map (·.2))) H3 s4 := by rw [es4]; exact I4
    have apart : ∀ {σ' : L2.St} {G : Hp} {s' : Shared}, Inv (X.blk s3 H3 scope ce fp) [] σ' G s' → (∀ b ∈ fp, G b = none) → ∀ b ∈ fp, FpOk (X.blk s3 H3 scope ce fp) [] G b := fun {σ' G s'} J' hn b hb => by
      have e1 := J'.ok.exf b hb
      exact ⟨hn b hb, e1.1, J'.ok.exfs b hb, .inl hb, fun x c e => e1.2 x c e, fun p hp => (nomatch (show p ∈ ([] : List (Addr × Obj)) from hp))⟩
    have st4 : tn 0 s4.heap := T.keep _ _ _ st3 fun b _ o e => up4 _ _ e
    have none3 : ∀ b ∈ fp, H3 b = none := fun b hb => (f3 b hb).1.1
    suffices loop : codeAny (model X.prog X.w) X.A (.compLoop (.DictComp kx vx [⟨tg, iter, ifs, 0⟩] scope pos) 0 (.ref it) (.ref D) ce) (compPost (model X.prog X.w) X.A X.xe none (EP X pins σ Q) (.ref D) C) s4 from codeAny_compStart_dict loop (T.self X.A 0 _ _ _ st4 loop)
    refine compLoop_anyD (fun n s' => ∃ i G, Inv (X.blk s3 H3 scope ce fp) [] (wipe σ (own.map (·.2))) G s' ∧ tn i s'.heap ∧ (∀ b ∈ fp, G b = none) ∧ W i n G) (fun n s5 hI => ?_) m0 ⟨0, H3, I5, st4, none3, w0⟩
    obtain ⟨i, G, J5, st5, n5, w5⟩ := hI
    rcases turn i n G w5 with ⟨stop, qq⟩ | ⟨go, Nx, hNx, step⟩
    · -- done
      refine thnF (T.done (X.blk s3 H3 scope ce fp) rfl rfl rfl hc i [] s5 _ G (fun _ _ => False) J5 (apart J5 n5) st5 stop) fun r s6 hr => ?_
      obtain ⟨rfl, J6⟩ := hr
      have I7 : Inv X pins σ G s6 := I3.call' (ch := fp) J6.os J6.base J6.hok J6.bare fun b hb => by
        obtain ⟨⟨_, k1, k2, k3, k4, k5⟩, _⟩ := f3 b hb
        exact ⟨k3, k1, k4, k5⟩
      have gC : G C = none := by
        have z := J6.free
        rw [show (X.blk s3 H3 scope ce fp).env.locals = C from cL] at z
        exact z
      obtain ⟨mm, hm, _⟩ := J6.loc
      rw [show (X.blk s3 H3 scope ce fp).env.locals = C from cL] at hm
      obtain ⟨k0, k1, k2, k3, k4, k5⟩ := I3.fpOk (Nat.le_of_eq eC.symm) gC
      refine ⟨mm, hm, fun h'' sb => ?_⟩
      exact ⟨.ref D, G, I7.turned (t' := s6.toks) (fun b o hb e => (sb.2 b hb).trans e) k0 k1 k3 k4 k5, rfl, qq⟩
    · -- one more
      refine thnF (T.item (X.blk s3 H3 scope ce fp) rfl rfl rfl hc i [] s5 _ G (fun _ _ => False) J5 (apart J5 n5) st5 go) fun r s6 hr => ?_
      obtain ⟨u, rfl, h6⟩ := hr
      refine thnF h6 fun _ s7 h7 => ?_
      obtain ⟨x, G7, J7, r7, y7, st7, n7⟩ := h7
      refine thnF (pg.run _ s7 _ G7 x u _ (J7.pinned (apart J7 n7) (T.obj _ _ st7)) r7 (step x G7 y7)) fun _ s8 h8 => ?_
      obtain ⟨σ8, G8, J8, same8, q8⟩ := h8
      refine thnF (pt.run _ s8 σ8 G8 _ J8 q8) fun o s9 h9 => ?_
      obtain ⟨G9, J9, q9⟩ := h9
      have turned : ∀ {s' : Shared} {G' : Hp}, Inv (X.blk s3 H3 scope ce fp) ([] ++ pinsAt fp s7.heap) σ8 G' s' → Nx G' → ∃ m, m < n ∧ ∃ i G', Inv (X.blk s3 H3 scope ce fp) [] (wipe σ (own.map (·.2))) G' s' ∧ tn i s'.heap ∧ (∀ b ∈ fp, G' b = none) ∧ W i m G' := fun {s' G'} J' nx => by
        obtain ⟨m', lt, w'⟩ := hNx G' nx
        have pinned : ∀ b ∈ fp, ∀ ob, s7.heap.get? b = some ob → s'.heap.get? b = some ob ∧ G' b = none := fun b hb ob e => by
          have z := J'.pin (b, ob) (List.mem_append_right _ (List.mem_append_right _ (mem_pinsAt hb e)))
          exact ⟨z.1, z.2.1⟩
        have hl : (wipe σ (own.map (·.2))).length = σ8.length := by rw [← same8, wipe_length]
        refine ⟨m', lt, i + 1, G', (J'.unpinned (pins := [])).weak hl (fun j v e => ?_), T.keep _ _ _ st7 fun b hb ob e => (pinned b hb ob e).1, fun b hb => ?_, w'⟩
        · rw [← same8] at e
          exact (wipe_some e).1
        · obtain ⟨ob, e, _⟩ := T.obj _ _ st7 b hb
          exact (pinned b hb ob e).2
      cases o with
      | false => exact turned J9 (by simpa using q9)
      | true =>
        simp only [if_true] at q9 ⊢
        refine thnF (pk.run _ s9 σ8 G9 _ J9 q9) fun z s10 h10 => ?_
        obtain ⟨y, G10, J10, r10, q10⟩ := h10
        refine thnF (pv.run _ s10 σ8 G10 _ J10 q10) fun z2 s11 h11 => ?_
        obtain ⟨yv, G11, J11, r11, kvs, k, b, rfl, hb, hD, hz, nx⟩ := h11
        cases r10
        exact d_setT (X := X.blk s3 H3 scope ce fp) hu J11 hD hb hz r11 fun s12 J12 => turned J12 nx
  rw [es4, eC] at goal
  rw [ece, es3] at goal
  subst es3 eC
  exact goal
end
end Ns

namespace Y
open PySem PySem.Spec PyProof.Rows L2 Ns
open C8 (pss_cut)
/-- drawn cars, in their order -/
structure Cars (ns nm : List Str) (cs : List Car) : Prop where
  srt : sortedS (cs.map (·.1)) = true
  perm : (cs.map (·.1)).Perm nm
  each : ∀ c ∈ cs, c.2.1 ∈ feed :: ns ∧ 1 ≤ c.2.2.1 ∧ c.2.2.1 ≤ 10 ^ 12 ∧ 0 ≤ c.2.2.2 ∧ c.2.2.2 < 10 ^ 12
/-- a new tuple of a car -/
def CarT (H : Hp) (b : Addr) (x : V) (c : Car) : Prop := ∃ t, x = .ref t ∧ t ≠ b ∧ H t = some (.tup [.str c.1, .str c.2.1, .int c.2.2.1, .int c.2.2.2])
theorem CarT.more {H H' : Hp} {b : Addr} (m : ∀ t xs, t ≠ b → H t = some (.tup xs) → H' t = some (.tup xs)) {x : V} {c : Car} (h : CarT H b x c) : CarT H' b x c := by
  obtain ⟨t, e, n, q⟩ := h
  exact ⟨t, e, n, m _ _ n q⟩
def spCars (K : PySem.W.Frag) : Sp := fun as H Q _ => ∃ (b a c : Addr) (nm ns : List Str) (most : Int), as = [.ref b, .ref a, .ref c, .int most] ∧ Bag H b ∧ SqL K (wo H b) a (txs nm) ∧ H c = some (.lst (txs ns)) ∧ c ≠ b ∧ nm.length ≤ 30 ∧ ns.length ≤ 50 ∧ 2 ≤ most ∧ most < 10 ^ 12 ∧
  ∀ (p : Addr) (xs : List V) (cs : List Car) (H' : Hp), Cars ns nm cs → H' p = some (.tup xs) → Paired (CarV K (wo H' b)) xs cs → H p = none → p ≠ b → Bag H' b → Sb b H H' → Q (.ref p) H'
section
variable {P : Program} {w : World} {K : PySem.W.Frag} {mg : Str → Option Value} {base : Heap}
theorem scR : FnScope ["bag", "names", "knots", "most", "found", "name", "knot", "rate", "need"] ["bag", "names", "knots", "most"] (defScope sCars) := ⟨rfl, rfl, rfl, by decide +kernel, rfl, by decide +kernel, by decide +kernel⟩
theorem ok_cars {f fT fS fZ : Addr} {fd fdT fdS fdZ : FuncData} (F : Fun K "_law_cars" "_law_cars" sCars f fd) (T : Nat0 mg) (FT : Fun K "_law_take" "_law_take" sTake fT fdT) (mT : mg "_law_take" = some (.ref fT)) (bT : Binds K fdT ["bag", "many"] [])
    (FS : Fun K "_law_some" "_law_some" sSome fS fdS) (mS : mg "_law_some" = some (.ref fS)) (bS : Binds K fdS ["bag", "things"] [])
    (GZ : FnOk P w K mg base CX0 3 fZ fdZ ["bag", "most"] spSize) (FZ : Fun K "_law_size" "_law_size" sSize fZ fdZ) (mZ : mg "_law_size" = some (.ref fZ)) (bZ : Binds K fdZ ["bag", "most"] []) :
    FnOk P w K mg base CX0 4 f fd ["bag", "names", "knots", "most"] (spCars K) := by
  have GT : FnOk P w K mg base CX0 1 fT fdT ["bag", "many"] spTake := ok_take FT T
  have GS : FnOk P w K mg base CX0 2 fS fdS ["bag", "things"] (spSome K) := ok_some FS T FT mT bT
  refine F.ok scR (fun as H Q E h => ?_) (fun cdv A outer s H as Q E hr h => ?_)
  · obtain ⟨b, a, c, nm, ns, most, rfl, _⟩ := h
    rfl
  · obtain ⟨b, a, c, nm, ns, most, rfl, hB, hS, hC, ncb, hnm, hns, hmo, hmo2, k⟩ := h
    have hr1 : Room 1 _ := hr.mono (by decide)
    have hr2 : Room 2 _ := hr.mono (by decide)
    refine ⟨_, pss_cons (ps_set (i := 4) scR.nd rfl (.inl rfl) (pe_lst pa_nil))
      (pss_cons (ps_for PassesOwn.never rfl (pi_list (pe_callB cr_sortedS (by rfl) T.sorted (by decide +kernel) (pa_cons (pv 1) pa_nil))) (pg_name (i := 5) scR.nd rfl (.inl rfl))
        (pss_cons (ps_set (i := 6) scR.nd rfl (.inl rfl) (pe_call GS hr2 rfl mS FS.kp bS .nil pass0 (pa_cons (pv 0) (pa_cons (pe_op op_cat (pe_op op_cat (pe_lst (pa_cons pe_str pa_nil)) (pv 2)) (pv 2)) pa_nil))))
        (pss_cons (ps_set (i := 7) scR.nd rfl (.inl rfl) (pe_callB (call_max2 rfl) (by rfl) T.max (by decide +kernel) (pa_cons pe_int (pa_cons (pe_call GS hr2 rfl mS FS.kp bS .nil pass0 (pa_cons (pv 0) (pa_cons (pe_lst (pa_cons pe_int (pa_cons pe_int (pa_cons (pe_call GZ hr rfl mZ FZ.kp bZ .nil pass0 (pa_cons (pv 0) (pa_cons (pv 3) pa_nil))) (pa_cons pe_int pa_nil))))) pa_nil))) pa_nil))))
        (pss_cons (ps_set (i := 8) scR.nd rfl (.inl rfl) (pe_call GS hr2 rfl mS FS.kp bS .nil pass0 (pa_cons (pv 0) (pa_cons (pe_lst (pa_cons (pe_op op_add pe_int (pe_call GZ hr rfl mZ FZ.kp bZ .nil pass0 (pa_cons (pv 0) (pa_cons (pv 3) pa_nil)))) (pa_cons (pv 7)
            (pa_cons (pe_op op_add (pe_op op_mul pe_int (pv 7)) pe_int) (pa_cons pe_int (pa_cons pe_int (pa_cons (pe_op op_mul pe_int (pv 7)) (pa_cons (pe_call GT hr1 rfl mT FT.kp bT .nil pass0 (pa_cons (pv 0) (pa_cons (pe_op op_add (pv 3) pe_int) pa_nil))) pa_nil)))))))) pa_nil))))
        (pss_one (ps_expr (pe_bm PySem.F.plainAttrs_list PySem.F.slot_list_append PySem.F.type_list_append mt_append (pv 4) (pa_cons (pe_tup (pa_cons (pv 5) (pa_cons (pv 6) (pa_cons (pv 7) (pa_cons (pe_callB (call_min2 rfl) (by rfl) T.min (by decide +kernel) (pa_cons (pv 8) (pa_cons (pe_op op_sub (pe_op op_pow pe_int pe_int) pe_int) pa_nil))) pa_nil))))) pa_nil))))))))
      (pss_one (ps_ret (pe_callTy call_tuple_of (by rfl) T.tuple (by decide +kernel) (pa_cons (pv 4) pa_nil))))), ?_⟩
    refine ⟨by show 0 ≤ sizeLine; decide, fun d hd => ?_⟩
    have ndb : d ≠ b := hB.ne hd
    have ncd : c ≠ d := ne_of_none hC hd
    refine ⟨_, rfl, a, nm, rfl, Same.seq (same_new (Same.refl H) hd) ((wo_sub H b).seq hS), by omega, fun ys p perm srt hp => ⟨p, rfl, ⟨_, .inl (.inl upd_same)⟩, ?_⟩⟩
    have npd : p ≠ d := fun e => by rw [e, upd_same] at hp; cases hp
    have hp0 : H p = none := by rw [upd_ne npd] at hp; exact hp
    have npb : p ≠ b := hB.ne hp0
    have hlen : ys.length = nm.length := perm.length_eq
    refine for_list (K := K) (a := p) (xs := ys.map V.str) (fun i σ H' => ∃ (v5 v6 v7 v8 : Option V) (zs : List V) (cs : List Car), σ = [some (.ref b), some (.ref a), some (.ref c), some (.int most), some (.ref d), v5, v6, v7, v8] ∧ H' d = some (.lst zs) ∧ cs.map (·.1) = ys.take i ∧
      (∀ c ∈ cs, c.2.1 ∈ feed :: ns ∧ 1 ≤ c.2.2.1 ∧ c.2.2.1 ≤ 10 ^ 12 ∧ 0 ≤ c.2.2.2 ∧ c.2.2.2 < 10 ^ 12) ∧ Paired (CarT H' b) zs cs ∧ H' p = some (.lst (ys.map V.str)) ∧ Bag H' b ∧ Sb b H H') ?_ ?_ ?_ ?_
    · exact ⟨none, none, none, none, [], [], rfl, by rw [upd_ne npd.symm, upd_same], by rw [List.take_zero]; rfl, (fun _ z => nomatch z), .nil, upd_same, (hB.new hd).new hp, ((Sb.refl b H).new hd).new hp⟩
    · rintro i σ H' _ ⟨v5, v6, v7, v8, zs, cs, _, _, _, _, _, e, _⟩
      exact .inl (.inl e)
    · rintro i x σ H' hx ⟨v5, v6, v7, v8, zs, cs, rfl, g1, g2, g3, g4, g5, hB1, s1⟩
      rw [List.getElem?_map] at hx
      obtain ⟨y, hy, rfl⟩ := Option.map_eq_some_iff.mp hx
      have tl : (txs ns).length = ns.length := List.length_map _
      -- the knot
      refine ⟨_, rfl, by show 1 ≤ sizeLine; decide, fun q1 hq1 => ⟨_, rfl, q1, c, [.str feed], txs ns, rfl, rfl, upd_same, s3u hq1 (s1.get hC ncb), ?_, fun q2 hq2 => ⟨_, rfl, q2, c, [.str feed] ++ txs ns, txs ns, rfl, rfl, upd_same, s3u hq2 (s3u hq1 (s1.get hC ncb)), ?_, fun q3 hq3 => ?_⟩⟩⟩
      · exact Nat.le_of_lt (small1000 (show 1 + _ ≤ 1000 by omega))
      · rw [List.length_append]
        exact Nat.le_of_lt (small1000 (show 1 + _ + _ ≤ 1000 by omega))
      have hB2 := ((hB1.new (o := .lst [.str feed]) hq1).new (o := .lst ([.str feed] ++ txs ns)) hq2).new (o := .lst ([.str feed] ++ txs ns ++ txs ns)) hq3
      have s2 := ((s1.new (o := .lst [.str feed]) hq1).new (o := .lst ([.str feed] ++ txs ns)) hq2).new (o := .lst ([.str feed] ++ txs ns ++ txs ns)) hq3
      have m2 : Same H' (upd (upd (upd H' q1 (.lst [.str feed])) q2 (.lst ([.str feed] ++ txs ns))) q3 (.lst ([.str feed] ++ txs ns ++ txs ns))) := same_new (same_new (same_new (Same.refl H') hq1) hq2) hq3
      refine ⟨b, q3, _, rfl, hB2, sql_new upd_same (((hB1.new (o := .lst [.str feed]) hq1).new (o := .lst ([.str feed] ++ txs ns)) hq2).ne hq3), (fun z => nomatch z), ?_, fun kn H2 hkn hB3 s3 => ?_⟩
      · rw [List.length_append, List.length_append]
        show 1 + _ + _ ≤ _
        omega
      obtain ⟨kx, hkx, rfl⟩ : ∃ kx, kx ∈ feed :: ns ∧ kn = .str kx := by
        rcases List.mem_append.mp hkn with z | z
        · rcases List.mem_append.mp z with z | z
          · exact ⟨feed, List.mem_cons_self, List.mem_singleton.mp z⟩
          · obtain ⟨u, hu, rfl⟩ := List.mem_map.mp z
            exact ⟨u, List.mem_cons_of_mem _ hu, rfl⟩
        · obtain ⟨u, hu, rfl⟩ := List.mem_map.mp z
          exact ⟨u, List.mem_cons_of_mem _ hu, rfl⟩
      have s03 := s2.trans s3
      have b5 := s3
      -- the rate
      refine ⟨_, rfl, _, rfl, _, rfl, b, most, rfl, hB3, by omega, by omega, fun v H3 v0 v1 hB4 s4 => ⟨by show 4 ≤ sizeLine; decide, fun q4 hq4 => ⟨b, q4, _, rfl, hB4.new hq4, sql_new upd_same (hB4.ne hq4), (fun z => nomatch z), by show 4 ≤ 1000000; decide, fun x H4 hx hB5 s5 => ?_⟩⟩⟩
      obtain ⟨r0, rfl, r1, r2⟩ : ∃ r : Int, x = .int r ∧ 0 ≤ r ∧ r ≤ 10 ^ 12 := by
        simp only [List.mem_cons, List.not_mem_nil, or_false] at hx
        rcases hx with rfl | rfl | rfl | rfl
        · exact ⟨1, rfl, by decide, by decide⟩
        · exact ⟨2, rfl, by decide, by decide⟩
        · exact ⟨v, rfl, v0, by omega⟩
        · exact ⟨3, rfl, by decide, by decide⟩
      refine ⟨1, r0, rfl, ?_⟩
      obtain ⟨R, hR, R1, R2⟩ : ∃ R : Int, (if r0 > 1 then r0 else 1) = R ∧ 1 ≤ R ∧ R ≤ 10 ^ 12 := ⟨_, rfl, by split <;> omega, by split <;> omega⟩
      rw [hR]
      have s05 := ((s03.trans s4).new (o := .lst [.int 1, .int 2, .int v, .int 3]) hq4).trans s5
      -- the need
      refine ⟨_, rfl, _, rfl, _, rfl, b, most, rfl, hB5, by omega, by omega, fun v' H5 v0' v1' hB6 s6 => ⟨1, v', rfl, rfl, _, rfl, _, rfl, 2, R, rfl, rfl, .inl ⟨by decide, by decide⟩, _, 1, rfl, rfl, _, rfl, 3, R, rfl, rfl, .inl ⟨by decide, by decide⟩, _, rfl, _, rfl, most, 1, rfl, rfl, b, _, rfl, hB6, by omega, Nat.lt_of_le_of_lt (show (most + 1).natAbs ≤ (10 ^ 13 : Nat) by omega) (by decide +kernel), fun u H6 u0 u1 hB7 s7 => ?_⟩⟩
      refine ⟨by show 7 ≤ sizeLine; decide, fun q5 hq5 => ⟨b, q5, _, rfl, hB7.new hq5, sql_new upd_same (hB7.ne hq5), (fun z => nomatch z), by show 7 ≤ 1000000; decide, fun x H7 hx hB8 s8 => ?_⟩⟩
      obtain ⟨w', rfl, w0⟩ : ∃ r : Int, x = .int r ∧ 0 ≤ r := by
        simp only [List.mem_cons, List.not_mem_nil, or_false] at hx
        rcases hx with rfl | rfl | rfl | rfl | rfl | rfl | rfl
        · exact ⟨_, rfl, by omega⟩
        · exact ⟨_, rfl, by omega⟩
        · exact ⟨_, rfl, by omega⟩
        · exact ⟨_, rfl, by omega⟩
        · exact ⟨_, rfl, by omega⟩
        · exact ⟨_, rfl, by omega⟩
        · exact ⟨_, rfl, by omega⟩
      have s08 := (((s05.trans s6).trans s7).new (o := .lst [.int (1 + v'), .int R, .int (2 * R + 1), .int 0, .int 3, .int (3 * R), .int u]) hq5).trans s8
      -- what stood
      have sk : Sb b H' H7 := ((((((((Sb.refl b H').same m2).trans s3).trans s4).new (o := .lst [.int 1, .int 2, .int v, .int 3]) hq4).trans s5).trans s6).trans s7).new (o := .lst [.int (1 + v'), .int R, .int (2 * R + 1), .int 0, .int 3, .int (3 * R), .int u]) hq5 |>.trans s8
      have e1 := sk.get g1 ndb
      have e5 := sk.get g5 npb
      refine ⟨_, rfl, .inl ⟨rfl, _, SqL.of e1⟩, _, rfl, _, rfl, _, rfl, _, rfl, 10, 12, rfl, rfl, ⟨by decide, by decide, by decide⟩, _, 1, rfl, rfl, w', _, rfl, by show 4 ≤ sizeLine; decide, fun t ht => ?_⟩
      have ntb : t ≠ b := hB8.ne ht
      have ntd : t ≠ d := fun z => by rw [z, e1] at ht; cases ht
      have hz : zs.length ≤ 30 := by
        have h1 := paired_len g4
        have h2 := congrArg List.length g2
        rw [List.length_map, List.length_take] at h2
        omega
      refine ⟨d, zs, .ref t, rfl, rfl, s3u ht e1, small1000 (by omega), _, _, _, _, zs ++ [.ref t], cs ++ [(y, kx, R, if 10 ^ 12 - 1 < w' then 10 ^ 12 - 1 else w')], rfl, upd_same, ?_, fun cc hcc => ?_, ?_, ?_, ?_, ?_⟩
      · rw [List.map_append, g2, List.take_succ, hy]
        rfl
      · rcases List.mem_append.mp hcc with z | z
        · exact g3 cc z
        · rw [List.mem_singleton.mp z]
          refine ⟨hkx, R1, R2, ?_, ?_⟩
          · show 0 ≤ if (10 : Int) ^ 12 - 1 < w' then (10 : Int) ^ 12 - 1 else w'
            split <;> omega
          · show (if (10 : Int) ^ 12 - 1 < w' then (10 : Int) ^ 12 - 1 else w') < _
            split <;> omega
      · refine paired_snoc ⟨t, rfl, ntb, by rw [upd_ne ntd, upd_same]; rfl⟩ (paired_imp (fun x c h => CarT.more (fun t' xs' n q => ?_) h) g4)
        have n2 : t' ≠ d := fun z => by rw [z, g1] at q; cases q
        rw [upd_ne n2]
        exact s3u ht (sk.get q n)
      · rw [upd_ne npd]
        exact s3u ht e5
      · exact hB.wr hd (s08.new (o := .tup [.str y, .str kx, .int R, .int (if (10 : Int) ^ 12 - 1 < w' then 10 ^ 12 - 1 else w')]) ht) (hB8.new ht)
      · exact (s08.new (o := .tup [.str y, .str kx, .int R, .int (if (10 : Int) ^ 12 - 1 < w' then 10 ^ 12 - 1 else w')]) ht).wr hd
    · rintro σ H' ⟨v5, v6, v7, v8, zs, cs, rfl, g1, g2, g3, g4, g5, hB1, s1⟩
      rw [List.length_map, List.take_length] at g2
      refine ⟨_, rfl, d, zs, rfl, .inl ⟨SqL.of g1, fun l hl => ?_⟩⟩
      have nlb : l ≠ b := hB1.ne hl
      refine k l zs cs _ ⟨by rw [g2]; exact srt, by rw [g2]; exact perm, g3⟩ upd_same ?_ (s1.free hl nlb) nlb (hB1.new hl) (s1.new hl)
      refine paired_imp (fun x c h => ?_) g4
      obtain ⟨t', e, n, q⟩ := h
      exact ⟨t', e, sqt_new (s3u hl q) n⟩
end
end Y

namespace Y
open PySem PySem.Spec PyProof.Rows L2 Ns
open C8 (pss_cut)
theorem Cabs.mono {ns : List Str} {m m' : Int} {k k' : Nat} {cs : List Cab} (h : Cabs ns m k cs) (hm : m ≤ m') (hk : k ≤ k') : Cabs ns m' k' cs :=
  ⟨Nat.le_trans h.len hk, h.nodup, fun c hc => by
    obtain ⟨h1, h2, h3, h4, h5⟩ := h.each c hc
    exact ⟨h1, h2, h3, h4, by omega⟩, h.srt⟩
/-- what a drawn yard is -/
structure YardF (most : Int) (cs : List Cab) (rs : List Car) : Prop where
  ex : ∃ ns nm : List Str, Nms [] ns ∧ ns.length ≤ 8 ∧ Nms [] nm ∧ nm.length ≤ 24 ∧ Cabs ns most 40 cs ∧ Cars ns nm rs
theorem YardF.mono {m m' : Int} {cs : List Cab} {rs : List Car} (h : YardF m cs rs) (hm : m ≤ m') : YardF m' cs rs := by
  obtain ⟨ns, nm, h1, h2, h3, h4, h5, h6⟩ := h.ex
  exact ⟨ns, nm, h1, h2, h3, h4, h5.mono hm (Nat.le_refl _), h6⟩
/-- a yard as a value -/
def YardV (K : PySem.W.Frag) (H : Hp) (y : V) (cs : List Cab) (rs : List Car) : Prop := ∃ (t a b : Addr) (xs zs : List V), y = .ref t ∧ SqT K H t [.ref a, .ref b] ∧ SqT K H a xs ∧ SqT K H b zs ∧ Paired (CabV K H) xs cs ∧ Paired (CarV K H) zs rs
theorem YardV.more {K : PySem.W.Frag} {H H' : Hp} (m : Same H H') {y : V} {cs : List Cab} {rs : List Car} (h : YardV K H y cs rs) : YardV K H' y cs rs := by
  obtain ⟨t, a, b, xs, zs, e, h1, h2, h3, h4, h5⟩ := h
  exact ⟨t, a, b, xs, zs, e, sqt_more m h1, sqt_more m h2, sqt_more m h3, paired_imp (fun _ _ => CabV.more m) h4, paired_imp (fun _ _ => CarV.more m) h5⟩
def spYardOf (K : PySem.W.Frag) : Sp := fun as H Q _ => ∃ (b : Addr) (cars knots cables : Nat) (most : Int), as = [.ref b, .int cars, .int knots, .int cables, .int most] ∧ Bag H b ∧ 2 ≤ cars ∧ cars ≤ 24 ∧ knots ≤ 8 ∧ cables ≤ 40 ∧ 2 ≤ most ∧ most < 10 ^ 12 ∧
  ∀ (y : V) (cs : List Cab) (rs : List Car) (H' : Hp), YardF most cs rs → YardV K (wo H' b) y cs rs → Bag H' b → Sb b H H' → Q y H'
/-- a yard drawn, numbers up to most -/
def spYard (K : PySem.W.Frag) (most : Int) : Sp := fun as H Q _ => ∃ (b : Addr), as = [.ref b] ∧ Bag H b ∧ ∀ (y : V) (cs : List Cab) (rs : List Car) (H' : Hp), YardF most cs rs → YardV K (wo H' b) y cs rs → Bag H' b → Sb b H H' → Q y H'
/-- the yards' defs -/
structure Gen (P : Program) (w : World) (K : PySem.W.Frag) (mg : Str → Option Value) (base : Heap) (fT fS fN fNs fC fR : Addr) (dT dS dN dNs dC dR : FuncData) : Prop where
  T : Fun K "_law_take" "_law_take" sTake fT dT
  mT : mg "_law_take" = some (.ref fT)
  bT : Binds K dT ["bag", "many"] []
  S : Fun K "_law_some" "_law_some" sSome fS dS
  mS : mg "_law_some" = some (.ref fS)
  bS : Binds K dS ["bag", "things"] []
  N : Fun K "_law_names" "_law_names" sNames fNs dNs
  mN : mg "_law_names" = some (.ref fNs)
  bN : Binds K dNs ["bag", "many", "taken"] []
  gN : FnOk P w K mg base CX0 4 fNs dNs ["bag", "many", "taken"] (spNames K)
  C : Fun K "_law_cables" "_law_cables" sCables fC dC
  mC : mg "_law_cables" = some (.ref fC)
  bC : Binds K dC ["bag", "knots", "many", "most"] []
  gC : FnOk P w K mg base CX0 5 fC dC ["bag", "knots", "many", "most"] (spCables K)
  R : Fun K "_law_cars" "_law_cars" sCars fR dR
  mR : mg "_law_cars" = some (.ref fR)
  bR : Binds K dR ["bag", "names", "knots", "most"] []
  gR : FnOk P w K mg base CX0 5 fR dR ["bag", "names", "knots", "most"] (spCars K)
section
variable {P : Program} {w : World} {K : PySem.W.Frag} {mg : Str → Option Value} {base : Heap} {fT fS fN fNs fC fR : Addr} {dT dS dN dNs dC dR : FuncData}
theorem scY : FnScope ["bag", "cars", "knots", "cables", "most", "many", "some"] ["bag", "cars", "knots", "cables", "most"] (defScope sYardOf) := ⟨rfl, rfl, rfl, by decide +kernel, rfl, by decide +kernel, by decide +kernel⟩
theorem ok_yardOf {f : Addr} {fd : FuncData} (F : Fun K "_law_yard_of" "_law_yard_of" sYardOf f fd) (T : Nat0 mg) (G : Gen P w K mg base fT fS fN fNs fC fR dT dS dN dNs dC dR) : FnOk P w K mg base CX0 6 f fd ["bag", "cars", "knots", "cables", "most"] (spYardOf K) := by
  have GT : FnOk P w K mg base CX0 1 fT dT ["bag", "many"] spTake := ok_take G.T T
  have GS : FnOk P w K mg base CX0 2 fS dS ["bag", "things"] (spSome K) := ok_some G.S T G.T G.mT G.bT
  refine F.ok scY (fun as H Q E h => ?_) (fun cdv A outer s H as Q E hr h => ?_)
  · obtain ⟨b, cars, knots, cables, most, rfl, _⟩ := h
    rfl
  · obtain ⟨b, cars, knots, cables, most, rfl, hB, hc1, hc2, hk, hb, hmo, hmo2, k⟩ := h
    have hr1 : Room 1 _ := hr.mono (by decide)
    have hr2 : Room 2 _ := hr.mono (by decide)
    have hr4 : Room 4 _ := hr.mono (by decide)
    have hr5 : Room 5 _ := hr
    refine ⟨_, pss_cons (ps_set (i := 5) scY.nd rfl (.inl rfl) (pe_call GS hr2 rfl G.mS G.S.kp G.bS .nil pass0 (pa_cons (pv 0) (pa_cons (pe_lst (pa_cons (pv 1) (pa_cons (pe_op op_add pe_int (pe_call GT hr1 rfl G.mT G.T.kp G.bT .nil pass0 (pa_cons (pv 0) (pa_cons (pv 1) pa_nil)))) (pa_cons (pv 1)
        (pa_cons (pe_callB (call_max2 rfl) (by rfl) T.max (by decide +kernel) (pa_cons pe_int (pa_cons (pe_op op_sub (pv 1) pe_int) pa_nil))) (pa_cons (pe_call GT hr1 rfl G.mT G.T.kp G.bT .nil pass0 (pa_cons (pv 0) (pa_cons (pe_op op_add (pv 1) pe_int) pa_nil))) pa_nil)))))) pa_nil))))
      (pss_cons (ps_set (i := 6) scY.nd rfl (.inl rfl) (pe_call G.gN hr4 rfl G.mN G.N.kp G.bN .nil pass0 (pa_cons (pv 0) (pa_cons (pe_call GT hr1 rfl G.mT G.T.kp G.bT .nil pass0 (pa_cons (pv 0) (pa_cons (pe_op op_add (pv 2) pe_int) pa_nil))) (pa_cons (pe_lst pa_nil) pa_nil)))))
      (pss_one (ps_ret (pe_tup (pa_cons (pe_call G.gC hr5 rfl G.mC G.C.kp G.bC .nil pass0 (pa_cons (pv 0) (pa_cons (pv 6) (pa_cons (pv 3) (pa_cons (pv 4) pa_nil)))))
        (pa_cons (pe_call G.gR hr5 rfl G.mR G.R.kp G.bR .nil pass0 (pa_cons (pv 0) (pa_cons (pe_call G.gN hr4 rfl G.mN G.N.kp G.bN .nil pass0 (pa_cons (pv 0) (pa_cons (pv 5) (pa_cons (pe_lst pa_nil) pa_nil)))) (pa_cons (pv 6) (pa_cons (pv 4) pa_nil))))) pa_nil)))))), ?_⟩
    have big : (2000 : Nat) < 2 ^ 200 := by decide +kernel
    refine ⟨_, rfl, _, rfl, _, rfl, _, rfl, b, cars, rfl, hB, by omega, by omega, fun v H1 v0 v1 hB1 s1 => ⟨1, v, rfl, rfl, _, rfl, _, rfl, cars, 1, rfl, rfl, 1, _, rfl, _, rfl, _, rfl, cars, 1, rfl, rfl, b, _, rfl, hB1, by omega, by omega, fun u H2 u0 u1 hB2 s2 => ?_⟩⟩
    refine ⟨by show 5 ≤ sizeLine; decide, fun q hq => ⟨b, q, _, rfl, hB2.new hq, sql_new upd_same (hB2.ne hq), (fun z => nomatch z), by show 5 ≤ 1000000; decide, fun x H3 hx hB3 s3 => ?_⟩⟩
    obtain ⟨m, rfl, hm⟩ : ∃ m : Nat, x = .int m ∧ m ≤ 24 := by
      have key : ∀ i : Int, 0 ≤ i → i ≤ 24 → ∃ m : Nat, V.int i = .int m ∧ m ≤ 24 := fun i h0 h1 => ⟨i.toNat, by rw [Int.toNat_of_nonneg h0], by omega⟩
      simp only [List.mem_cons, List.not_mem_nil, or_false] at hx
      rcases hx with rfl | rfl | rfl | rfl | rfl
      · exact key _ (by omega) (by omega)
      · exact key _ (by omega) (by omega)
      · exact key _ (by omega) (by omega)
      · exact key _ (by split <;> omega) (by split <;> omega)
      · exact key _ (by omega) (by omega)
    have s03 := ((s1.trans s2).new (o := .lst [.int cars, .int (1 + v), .int cars, .int (if (cars : Int) - 1 > 1 then (cars : Int) - 1 else 1), .int u]) hq).trans s3
    refine ⟨_, rfl, _, rfl, _, rfl, knots, 1, rfl, rfl, b, _, rfl, hB3, by omega, by omega, fun kn H4 k0 k1 hB4 s4 => ⟨by show 0 ≤ sizeLine; decide, fun q2 hq2 => ?_⟩⟩
    obtain ⟨kn', rfl⟩ : ∃ n : Nat, kn = n := ⟨kn.toNat, by omega⟩
    refine ⟨b, q2, kn', [], rfl, hB4.new hq2, sql_new upd_same (hB4.ne hq2), by show 0 + kn' ≤ 100; omega, (fun _ z => nomatch z), fun p ns H5 hns N5 e5 f5 hB5 s5 => ?_⟩
    have s05 := ((s03.trans s4).new (o := .lst []) hq2).trans s5
    have npb : p ≠ b := (hB4.new (o := .lst []) hq2).ne f5
    refine ⟨_, rfl, _, rfl, _, rfl, _, rfl, b, p, ns, cables, most, rfl, hB5, e5, N5, by omega, by omega, hmo, by omega, fun pc xs cs H6 C6 e6 p6 f6 n6 hB6 s6 => ?_⟩
    refine ⟨_, rfl, _, rfl, _, rfl, by show 0 ≤ sizeLine; decide, fun q3 hq3 => ⟨b, q3, m, [], rfl, hB6.new hq3, sql_new upd_same (hB6.ne hq3), by show 0 + m ≤ 100; omega, (fun _ z => nomatch z), fun pn nm H7 hnm N7 e7 f7 hB7 s7 => ?_⟩⟩
    have npn : pn ≠ b := (hB6.new (o := .lst []) hq3).ne f7
    have s67 := ((Sb.refl b H6).new (o := .lst []) hq3).trans s7
    refine ⟨_, rfl, _, rfl, b, pn, p, nm, ns, most, rfl, hB7, sql_new e7 npn, s67.get (s6.get e5 npb) npb, npb, by omega, by omega, hmo, hmo2, fun pr zs rs H8 R8 e8 p8 f8 n8 hB8 s8 => ?_⟩
    have s68 := s67.trans s8
    refine ⟨by show 2 ≤ sizeLine; decide, fun t ht => ?_⟩
    have sT : Same (wo H8 b) (wo (upd H8 t (.tup [.ref pc, .ref pr])) b) := wo_same (same_new (Same.refl H8) ht)
    refine k (.ref t) cs rs _ ⟨ns, nm, N5, by omega, N7, by omega, C6.mono (Int.le_refl _) hb, R8⟩ ⟨t, pc, pr, xs, zs, rfl, sqt_new upd_same (hB8.ne ht), ?_, ?_, ?_, ?_⟩ (hB8.new ht) (((s05.trans s6).trans s68).new ht)
    · exact sqt_new (s3u ht (s68.get e6 n6)) n6
    · exact sqt_new (s3u ht e8) n8
    · exact paired_imp (fun _ _ h => (h.more s68.1).more sT) p6
    · exact paired_imp (fun _ _ h => h.more sT) p8
end
end Y

namespace Y
open PySem PySem.Spec PyProof.Rows L2 Ns
open C8 (pss_cut)
section
variable {P : Program} {w : World} {K : PySem.W.Frag} {mg : Str → Option Value} {base : Heap} {fT fS fN fNs fC fR : Addr} {dT dS dN dNs dC dR : FuncData}
theorem scSm : FnScope ["bag"] ["bag"] (defScope sSmall) := ⟨rfl, rfl, rfl, by decide +kernel, rfl, by decide +kernel, by decide +kernel⟩
theorem scW : FnScope ["bag", "most"] ["bag"] (defScope sWide) := ⟨rfl, rfl, rfl, by decide +kernel, rfl, by decide +kernel, by decide +kernel⟩
theorem ok_small {f fY : Addr} {fd dY : FuncData} (F : Fun K "_law_small_yard" "_law_small_yard" sSmall f fd) (T : Nat0 mg) (G : Gen P w K mg base fT fS fN fNs fC fR dT dS dN dNs dC dR)
    (FY : Fun K "_law_yard_of" "_law_yard_of" sYardOf fY dY) (mY : mg "_law_yard_of" = some (.ref fY)) (bY : Binds K dY ["bag", "cars", "knots", "cables", "most"] []) : FnOk P w K mg base CX0 7 f fd ["bag"] (spYard K 7) := by
  have GS : FnOk P w K mg base CX0 2 fS dS ["bag", "things"] (spSome K) := ok_some G.S T G.T G.mT G.bT
  have GY : FnOk P w K mg base CX0 6 fY dY ["bag", "cars", "knots", "cables", "most"] (spYardOf K) := ok_yardOf FY T G
  refine F.ok scSm (fun as H Q E h => ?_) (fun cdv A outer s H as Q E hr h => ?_)
  · obtain ⟨b, rfl, _⟩ := h
    rfl
  · obtain ⟨b, rfl, hB, k⟩ := h
    have hr2 : Room 2 _ := hr.mono (by decide)
    refine ⟨_, pss_one (ps_ret (pe_call GY hr rfl mY FY.kp bY .nil pass0 (pa_cons (pv 0) (pa_cons (pe_call GS hr2 rfl G.mS G.S.kp G.bS .nil pass0 (pa_cons (pv 0) (pa_cons (pe_lst (pa_cons pe_int (pa_cons pe_int (pa_cons pe_int (pa_cons pe_int pa_nil))))) pa_nil)))
      (pa_cons pe_int (pa_cons (pe_call GS hr2 rfl G.mS G.S.kp G.bS .nil pass0 (pa_cons (pv 0) (pa_cons (pe_lst (pa_cons pe_int (pa_cons pe_int (pa_cons pe_int pa_nil)))) pa_nil)))
      (pa_cons (pe_call GS hr2 rfl G.mS G.S.kp G.bS .nil pass0 (pa_cons (pv 0) (pa_cons (pe_lst (pa_cons pe_int (pa_cons pe_int (pa_cons pe_int pa_nil)))) pa_nil))) pa_nil))))))), ?_⟩
    refine ⟨_, rfl, _, rfl, by show 4 ≤ sizeLine; decide, fun q1 hq1 => ⟨b, q1, _, rfl, hB.new hq1, sql_new upd_same (hB.ne hq1), (fun z => nomatch z), by show 4 ≤ 1000000; decide, fun x H1 hx hB1 s1 => ?_⟩⟩
    obtain ⟨m1, rfl, a1, a2⟩ : ∃ m : Nat, x = .int m ∧ 2 ≤ m ∧ m ≤ 24 := by
      simp only [List.mem_cons, List.not_mem_nil, or_false] at hx
      rcases hx with rfl | rfl | rfl | rfl
      · exact ⟨3, rfl, by decide, by decide⟩
      · exact ⟨4, rfl, by decide, by decide⟩
      · exact ⟨5, rfl, by decide, by decide⟩
      · exact ⟨2, rfl, by decide, by decide⟩
    refine ⟨_, rfl, by show 3 ≤ sizeLine; decide, fun q2 hq2 => ⟨b, q2, _, rfl, hB1.new hq2, sql_new upd_same (hB1.ne hq2), (fun z => nomatch z), by show 3 ≤ 1000000; decide, fun x H2 hx hB2 s2 => ?_⟩⟩
    obtain ⟨m2, rfl, a3⟩ : ∃ m : Nat, x = .int m ∧ m ≤ 40 := by
      simp only [List.mem_cons, List.not_mem_nil, or_false] at hx
      rcases hx with rfl | rfl | rfl
      · exact ⟨4, rfl, by decide⟩
      · exact ⟨6, rfl, by decide⟩
      · exact ⟨3, rfl, by decide⟩
    refine ⟨_, rfl, by show 3 ≤ sizeLine; decide, fun q3 hq3 => ⟨b, q3, _, rfl, hB2.new hq3, sql_new upd_same (hB2.ne hq3), (fun z => nomatch z), by show 3 ≤ 1000000; decide, fun x H3 hx hB3 s3 => ?_⟩⟩
    obtain ⟨m3, rfl, a4, a5⟩ : ∃ m : Int, x = .int m ∧ 2 ≤ m ∧ m ≤ 7 := by
      simp only [List.mem_cons, List.not_mem_nil, or_false] at hx
      rcases hx with rfl | rfl | rfl
      · exact ⟨3, rfl, by decide, by decide⟩
      · exact ⟨7, rfl, by decide, by decide⟩
      · exact ⟨2, rfl, by decide, by decide⟩
    have s03 := ((((((Sb.refl b H).new (o := .lst [.int 3, .int 4, .int 5, .int 2]) hq1).trans s1).new (o := .lst [.int 4, .int 6, .int 3]) hq2).trans s2).new (o := .lst [.int 3, .int 7, .int 2]) hq3).trans s3
    exact ⟨b, m1, 4, m2, m3, rfl, hB3, a1, a2, by decide, a3, a4, by omega, fun y cs rs H' hY hV hB' s' => k y cs rs H' (hY.mono a5) hV hB' (s03.trans s')⟩
theorem ok_wide {f fY : Addr} {fd dY : FuncData} (F : Fun K "_law_wide_yard" "_law_wide_yard" sWide f fd) (T : Nat0 mg) (G : Gen P w K mg base fT fS fN fNs fC fR dT dS dN dNs dC dR)
    (FY : Fun K "_law_yard_of" "_law_yard_of" sYardOf fY dY) (mY : mg "_law_yard_of" = some (.ref fY)) (bY : Binds K dY ["bag", "cars", "knots", "cables", "most"] []) : FnOk P w K mg base CX0 7 f fd ["bag"] (spYard K (10 ^ 12)) := by
  have GS : FnOk P w K mg base CX0 2 fS dS ["bag", "things"] (spSome K) := ok_some G.S T G.T G.mT G.bT
  have GY : FnOk P w K mg base CX0 6 fY dY ["bag", "cars", "knots", "cables", "most"] (spYardOf K) := ok_yardOf FY T G
  refine F.ok scW (fun as H Q E h => ?_) (fun cdv A outer s H as Q E hr h => ?_)
  · obtain ⟨b, rfl, _⟩ := h
    rfl
  · obtain ⟨b, rfl, hB, k⟩ := h
    have hr2 : Room 2 _ := hr.mono (by decide)
    refine ⟨_, pss_cons (ps_set (i := 1) scW.nd rfl (.inl rfl) (pe_call GS hr2 rfl G.mS G.S.kp G.bS .nil pass0 (pa_cons (pv 0) (pa_cons (pe_lst (pa_cons pe_int (pa_cons pe_int (pa_cons (pe_op op_sub (pe_op op_pow pe_int pe_int) pe_int) (pa_cons (pe_op op_pow pe_int pe_int) pa_nil))))) pa_nil))))
      (pss_one (ps_ret (pe_call GY hr rfl mY FY.kp bY .nil pass0 (pa_cons (pv 0) (pa_cons (pe_call GS hr2 rfl G.mS G.S.kp G.bS .nil pass0 (pa_cons (pv 0) (pa_cons (pe_lst (pa_cons pe_int (pa_cons pe_int (pa_cons pe_int pa_nil)))) pa_nil)))
      (pa_cons pe_int (pa_cons (pe_call GS hr2 rfl G.mS G.S.kp G.bS .nil pass0 (pa_cons (pv 0) (pa_cons (pe_lst (pa_cons pe_int (pa_cons pe_int (pa_cons pe_int pa_nil)))) pa_nil)))
      (pa_cons (pv 1) pa_nil)))))))), ?_⟩
    refine ⟨_, rfl, 10, 12, rfl, rfl, ⟨by decide, by decide, by decide⟩, _, 1, rfl, rfl, 10, 6, rfl, rfl, ⟨by decide, by decide, by decide⟩, by show 4 ≤ sizeLine; decide, fun q1 hq1 => ⟨b, q1, _, rfl, hB.new hq1, sql_new upd_same (hB.ne hq1), (fun z => nomatch z), by show 4 ≤ 1000000; decide, fun x H1 hx hB1 s1 => ?_⟩⟩
    obtain ⟨m3, rfl, a4, a5⟩ : ∃ m : Int, x = .int m ∧ 2 ≤ m ∧ m < 10 ^ 12 := by
      simp only [List.mem_cons, List.not_mem_nil, or_false] at hx
      rcases hx with rfl | rfl | rfl | rfl
      · exact ⟨9, rfl, by decide, by decide⟩
      · exact ⟨40, rfl, by decide, by decide⟩
      · exact ⟨_, rfl, by decide, by decide⟩
      · exact ⟨_, rfl, by decide, by decide⟩
    refine ⟨_, rfl, _, rfl, by show 3 ≤ sizeLine; decide, fun q2 hq2 => ⟨b, q2, _, rfl, hB1.new hq2, sql_new upd_same (hB1.ne hq2), (fun z => nomatch z), by show 3 ≤ 1000000; decide, fun x H2 hx hB2 s2 => ?_⟩⟩
    obtain ⟨m1, rfl, a1, a2⟩ : ∃ m : Nat, x = .int m ∧ 2 ≤ m ∧ m ≤ 24 := by
      simp only [List.mem_cons, List.not_mem_nil, or_false] at hx
      rcases hx with rfl | rfl | rfl
      · exact ⟨8, rfl, by decide, by decide⟩
      · exact ⟨12, rfl, by decide, by decide⟩
      · exact ⟨24, rfl, by decide, by decide⟩
    refine ⟨_, rfl, by show 3 ≤ sizeLine; decide, fun q3 hq3 => ⟨b, q3, _, rfl, hB2.new hq3, sql_new upd_same (hB2.ne hq3), (fun z => nomatch z), by show 3 ≤ 1000000; decide, fun x H3 hx hB3 s3 => ?_⟩⟩
    obtain ⟨m2, rfl, a3⟩ : ∃ m : Nat, x = .int m ∧ m ≤ 40 := by
      simp only [List.mem_cons, List.not_mem_nil, or_false] at hx
      rcases hx with rfl | rfl | rfl
      · exact ⟨9, rfl, by decide⟩
      · exact ⟨16, rfl, by decide⟩
      · exact ⟨40, rfl, by decide⟩
    have s03 := ((((((Sb.refl b H).new (o := .lst [.int 9, .int 40, .int (10 ^ 12 - 1), .int (10 ^ 6)]) hq1).trans s1).new (o := .lst [.int 8, .int 12, .int 24]) hq2).trans s2).new (o := .lst [.int 9, .int 16, .int 40]) hq3).trans s3
    exact ⟨_, rfl, b, m1, 8, m2, m3, rfl, hB3, a1, a2, by decide, a3, a4, a5, fun y cs rs H' hY hV hB' s' => k y cs rs H' (hY.mono (Int.le_of_lt a5)) hV hB' (s03.trans s')⟩
end
end Y

namespace Y
open PySem PySem.Spec PyProof.Rows L2 Ns
open C8 (pss_cut)
theorem min_ok {v : Int} (h : 0 ≤ v) : (1 ≤ v → 1 ≤ if (10 : Int) ^ 12 - 1 < v then (10 : Int) ^ 12 - 1 else v) ∧ 0 ≤ (if (10 : Int) ^ 12 - 1 < v then (10 : Int) ^ 12 - 1 else v) ∧ (if (10 : Int) ^ 12 - 1 < v then (10 : Int) ^ 12 - 1 else v) < 10 ^ 12 := by
  split <;> omega
section
variable {P : Program} {w : World} {K : PySem.W.Frag} {mg : Str → Option Value} {base : Heap} {fT fS fN fNs fC fR : Addr} {dT dS dN dNs dC dR : FuncData}
def NG : List Str := ["bag", "yard", "times", "cables", "cars", "most", "one", "other", "cap", "name", "knot", "rate", "need"]
end
end Y

namespace Y
open PySem PySem.Spec PyProof.Rows L2 Ns
open C8 (pss_cut)
/-- a dict of texts to 1 -/
def kv1 (l : List Str) : List (Key × V) := l.map fun s => ((Sum.inr s : Key), V.int 1)
def ins (l : List Str) (s : Str) : List Str := if s ∈ l then l else l ++ [s]
theorem kv1_any (s : Str) : ∀ l : List Str, ((kv1 l).any fun kv => decide (kv.1 = Sum.inr s)) = decide (s ∈ l)
  | [] => by simp [kv1]
  | t :: l => by
    have ih := kv1_any s l
    unfold kv1 at ih ⊢
    rw [List.map_cons, List.any_cons, ih]
    by_cases e : t = s
    · simp [e]
    · have e2 : ¬ s = t := fun z => e z.symm
      simp [e, e2]
theorem kv1_put (l : List Str) (s : Str) : putK (kv1 l) (Sum.inr s) (.int 1) = kv1 (ins l s) := by
  unfold putK ins
  rw [kv1_any]
  by_cases h : s ∈ l
  · rw [if_pos (decide_eq_true h), if_pos h]
    unfold kv1
    rw [List.map_map]
    apply List.map_congr_left
    intro t _
    by_cases e : t = s
    · simp [e]
    · simp [e]
  · rw [if_neg (by simp [h]), if_neg h]
    unfold kv1
    rw [List.map_append]
    rfl
theorem kv1_merge : ∀ (m l : List Str), mergeK (kv1 l) (kv1 m) = kv1 (m.foldl ins l)
  | [], _ => rfl
  | s :: m, l => by
    show mergeK (putK (kv1 l) (Sum.inr s) (.int 1)) (kv1 m) = _
    rw [kv1_put, kv1_merge m]
    rfl
theorem mem_ins {l : List Str} {s t : Str} : t ∈ ins l s ↔ t ∈ l ∨ t = s := by
  unfold ins
  by_cases h : s ∈ l
  · rw [if_pos h]
    exact ⟨.inl, fun z => z.elim id fun e => e ▸ h⟩
  · rw [if_neg h, List.mem_append, List.mem_singleton]
theorem nodup_ins {l : List Str} (h : l.Nodup) (s : Str) : (ins l s).Nodup := by
  unfold ins
  by_cases c : s ∈ l
  · rw [if_pos c]; exact h
  · rw [if_neg c, List.nodup_append]
    refine ⟨h, List.nodup_cons.mpr ⟨(fun z => nomatch z), List.nodup_nil⟩, fun y hy z hz => ?_⟩
    rw [List.mem_singleton.mp hz]
    rintro rfl
    exact c hy
theorem mem_inss {t : Str} : ∀ {m l : List Str}, t ∈ m.foldl ins l ↔ t ∈ l ∨ t ∈ m
  | [], l => by simp
  | s :: m, l => by
    rw [List.foldl_cons, mem_inss, mem_ins, List.mem_cons, or_assoc]
theorem nodup_inss : ∀ {m l : List Str}, l.Nodup → (m.foldl ins l).Nodup
  | [], _, h => h
  | s :: m, l, h => nodup_inss (m := m) (nodup_ins h s)
/-- the knots of a yard -/
def KnIn (cs : List Cab) (rs : List Car) (s : Str) : Prop := (∃ c ∈ cs, s = c.1 ∨ s = c.2.1) ∨ ∃ r ∈ rs, s = r.2.1
theorem knIn_feed {most : Int} {cs : List Cab} {rs : List Car} (h : YardF most cs rs) : ∃ ns : List Str, ns.length ≤ 8 ∧ (∀ x ∈ ns, Nm x) ∧ ∀ s, KnIn cs rs s → s ∈ feed :: ns := by
  obtain ⟨ns, nm, N1, N2, N3, N4, C, R⟩ := h.ex
  refine ⟨ns, N2, N1.nm, fun s hs => ?_⟩
  rcases hs with ⟨c, hc, e | e⟩ | ⟨r, hr, e⟩
  · rw [e]; exact (C.each c hc).2.1
  · rw [e]; exact List.mem_cons_of_mem _ (C.each c hc).2.2.1
  · rw [e]; exact (R.each r hr).1
/-- what the knots' list is: the ascending list without feed -/
def spKnots (K : PySem.W.Frag) : Sp := fun as H Q _ => ∃ (y : V) (cs : List Cab) (rs : List Car) (ns : List Str), as = [y] ∧ YardV K H y cs rs ∧ ns.length ≤ 20 ∧ (∀ s, KnIn cs rs s → s ∈ feed :: ns) ∧
  ∀ (p : Addr) (ks : List Str) (H' : Hp), ks.Nodup → (∀ s, s ∈ ks ↔ KnIn cs rs s ∧ s ≠ feed) → H' p = some (.lst (txs ks)) → H p = none → Same H H' → Q (.ref p) H'
section
variable {P : Program} {w : World} {K : PySem.W.Frag} {mg : Str → Option Value} {base : Heap}
end
end Y

namespace Y
open PySem PySem.Spec PyProof.Rows L2 Ns
open C8 (pss_cut)
open L2.DX (itemsO)
theorem perm_map {α β : Type} {f : α → β} {ys ws : List β} (h : ys.Perm ws) : ∀ {xs : List α}, ws = xs.map f → ∃ zs : List α, zs.Perm xs ∧ ys = zs.map f := by
  induction h with
  | nil =>
    intro xs e
    have : xs = [] := List.map_eq_nil_iff.mp e.symm
    exact ⟨[], by rw [this], rfl⟩
  | @cons x l1 l2 _ ih =>
    intro xs e
    cases xs with
    | nil => cases e
    | cons a xs =>
      injection e with e1 e2
      obtain ⟨zs, p, e3⟩ := ih e2
      exact ⟨a :: zs, p.cons a, by rw [e1, e3]; rfl⟩
  | swap x y l =>
    intro xs e
    match xs, e with
    | a :: b :: xs, e =>
      injection e with e1 e2
      injection e2 with e2 e3
      exact ⟨b :: a :: xs, List.Perm.swap a b xs, by rw [e1, e2, e3]; rfl⟩
  | trans _ _ ih1 ih2 =>
    intro xs e
    obtain ⟨zs, p, e2⟩ := ih2 e
    obtain ⟨us, p2, e3⟩ := ih1 e2
    exact ⟨us, p2.trans p, e3⟩
/-- a dict of numbers by texts -/
def kvI (l : List (Str × Int)) : List (Key × V) := l.map fun p => ((Sum.inr p.1 : Key), V.int p.2)
theorem kvI_get {l : List (Str × Int)} (n : (l.map (·.1)).Nodup) {x : Str} {v : Int} (h : (x, v) ∈ l) : valV (kvI l) (Sum.inr x) = some (.int v) := by
  induction l with
  | nil => cases h
  | cons f l ih =>
    rw [List.map_cons, List.nodup_cons] at n
    show valV (((Sum.inr f.1 : Key), V.int f.2) :: kvI l) (Sum.inr x) = _
    rcases List.mem_cons.mp h with e | e
    · rw [← e]
      exact valV_pos rfl
    · rw [valV_neg (fun z => n.1 ?_)]
      · exact ih n.2 e
      · injection z with z
        rw [z]
        exact List.mem_map.mpr ⟨(x, v), e, rfl⟩
theorem kvI_none {l : List (Str × Int)} {x : Str} (h : x ∉ l.map (·.1)) : valV (kvI l) (Sum.inr x) = none := by
  induction l with
  | nil => rfl
  | cons f l ih =>
    rw [List.map_cons, List.mem_cons, not_or] at h
    show valV (((Sum.inr f.1 : Key), V.int f.2) :: kvI l) (Sum.inr x) = none
    rw [valV_neg (fun z => h.1 ?_)]
    · exact ih h.2
    · injection z with z
      exact z.symm
theorem kvI_merge : ∀ (m l : List (Str × Int)), ((l ++ m).map (·.1)).Nodup → mergeK (kvI l) (kvI m) = kvI (l ++ m)
  | [], l, _ => by rw [List.append_nil]; rfl
  | p :: m, l, h => by
    have e : l ++ p :: m = (l ++ [p]) ++ m := by rw [List.append_assoc]; rfl
    have np : p.1 ∉ l.map (·.1) := fun z => by
      rw [List.map_append, List.nodup_append] at h
      exact h.2.2 _ z _ (List.mem_map.mpr ⟨p, List.mem_cons_self, rfl⟩) rfl
    show mergeK (putK (kvI l) (Sum.inr p.1) (.int p.2)) (kvI m) = _
    rw [putK_new _ (kvI_none np), e]
    have e2 : kvI l ++ [((Sum.inr p.1 : Key), V.int p.2)] = kvI (l ++ [p]) := by
      unfold kvI
      rw [List.map_append]
      rfl
    rw [e2]
    exact kvI_merge m (l ++ [p]) (by rw [← e]; exact h)
theorem kvI_made {l : List (Str × Int)} (h : (l.map (·.1)).Nodup) : mergeK [] (kvI l) = kvI l := kvI_merge l [] h
/-- the tuple of the cars' names -/
def spNamesOf (K : PySem.W.Frag) : Sp := fun as H Q _ => ∃ (y : V) (cs : List Cab) (rs : List Car), as = [y] ∧ YardV K H y cs rs ∧ rs.length ≤ 1000 ∧
  ∀ (p : Addr) (H' : Hp), H' p = some (.tup (txs (rs.map (·.1)))) → H p = none → Same H H' → Q (.ref p) H'
def spALot (K : PySem.W.Frag) : Sp := fun as H Q _ => ∃ (b a : Addr) (ts : List Str), as = [.ref b, .ref a] ∧ Bag H b ∧ SqL K (wo H b) a (txs ts) ∧ ts.length ≤ 60 ∧ ts.Nodup ∧
  ∀ (p : Addr) (ls : List Str) (H' : Hp), sortedS ls = true → ls.Nodup → (∀ x ∈ ls, x ∈ ts) → H' p = some (.tup (txs ls)) → H p = none → p ≠ b → Bag H' b → Sb b H H' → Q (.ref p) H'
def spTurned : Sp := fun as H Q _ => ∃ (b a : Addr) (l : List (Str × Int)), as = [.ref b, .ref a] ∧ Bag H b ∧ H a = some (.dK (kvI l)) ∧ (l.map (·.1)).Nodup ∧ l.length ≤ 1000 ∧
  ∀ (p : Addr) (l' : List (Str × Int)) (H' : Hp), l'.Perm l → H' p = some (.dK (kvI l')) → H p = none → p ≠ b → Bag H' b → Sb b H H' → Q (.ref p) H'
section
variable {P : Program} {w : World} {K : PySem.W.Frag} {mg : Str → Option Value} {base : Heap}
end
end Y

namespace Y
open PySem PySem.Spec PyProof.Rows L2 Ns
open C8 (pss_cut)
def nd (r : Car) : Str × Int := (r.1, r.2.2.2)
def spCarOf (K : PySem.W.Frag) : Sp := fun as H Q _ => ∃ (y : V) (x : Str) (cs : List Cab) (rs : List Car), as = [y, .str x] ∧ YardV K H y cs rs ∧ (∀ v c, rs.find? (fun r => decide (r.1 = x)) = some c → CarV K H v c → Q v H) ∧ (rs.find? (fun r => decide (r.1 = x)) = none → Q .non H)
def spCapOf (K : PySem.W.Frag) : Sp := fun as H Q _ => ∃ (y : V) (s e : Str) (cs : List Cab) (rs : List Car), as = [y, .str s, .str e] ∧ YardV K H y cs rs ∧ (∀ c, cs.find? (fun c => decide (ckey c = (s, e))) = some c → Q (.int c.2.2) H) ∧ (cs.find? (fun c => decide (ckey c = (s, e))) = none → Q .non H)
def spNeedsOf (K : PySem.W.Frag) : Sp := fun as H Q _ => ∃ (y : V) (cs : List Cab) (rs : List Car), as = [y] ∧ YardV K H y cs rs ∧ (rs.map (·.1)).Nodup ∧ rs.length ≤ 1000 ∧ ∀ (p : Addr) (H' : Hp), H' p = some (.dK (kvI (rs.map nd))) → H p = none → Same H H' → Q (.ref p) H'
def spNeedOf (K : PySem.W.Frag) : Sp := fun as H Q _ => ∃ (y : V) (l : Addr) (ls : List Str) (cs : List Cab) (rs : List Car), as = [y, .ref l] ∧ YardV K H y cs rs ∧ SqT K H l (txs ls) ∧ rs.length ≤ 1000 ∧ ∀ H', Same H H' → Q (.int ((rs.filter fun r => decide (r.1 ∈ ls)).map (·.2.2.2)).sum) H'
def spSumOf : Sp := fun as H Q _ => ∃ (a : Addr) (l : List (Str × Int)), as = [.ref a] ∧ H a = some (.dK (kvI l)) ∧ ∀ H', Same H H' → Q (.int (l.map (·.2)).sum) H'
theorem find_take {α : Type} {p : α → Bool} {l : List α} {i : Nat} {c : α} (hc : l[i]? = some c) (hp : p c = true) (hn : ∀ r ∈ l.take i, p r = false) : l.find? p = some c := by
  induction l generalizing i with
  | nil => cases hc
  | cons a l ih =>
    cases i with
    | zero =>
      cases hc
      exact List.find?_cons_of_pos hp
    | succ i =>
      have ha := hn a (by rw [List.take_succ_cons]; exact List.mem_cons_self)
      rw [List.find?_cons_of_neg (by rw [ha]; exact Bool.false_ne_true)]
      exact ih hc fun r hr => hn r (by rw [List.take_succ_cons]; exact List.mem_cons_of_mem _ hr)
theorem not_yet {α : Type} {p : α → Bool} {l : List α} {i : Nat} {c : α} (hc : l[i]? = some c) (hp : p c = false) (hn : ∀ r ∈ l.take i, p r = false) : ∀ r ∈ l.take (i + 1), p r = false := fun r hr => by
  rw [List.take_succ, hc] at hr
  rcases List.mem_append.mp hr with z | z
  · exact hn r z
  · rw [List.mem_singleton.mp z]; exact hp
section
variable {P : Program} {w : World} {K : PySem.W.Frag} {mg : Str → Option Value} {base : Heap}
end
end Y

namespace Y
open PySem PySem.Spec PyProof.Rows L2 Ns
open C8 (pss_cut)
section
variable {P : Program} {w : World} {K : PySem.W.Frag} {mg : Str → Option Value} {base : Heap}
end
end Y

/-! NsZ: set(xs) of texts, and sorted of it. -/
namespace Ns
open PySem PySem.Spec PyProof.Rows L2
open PySem.Froz (SD sObj tailTx addTx TxOk)
/-- the set at a holds the texts l, once each, and can be walked -/
def SetX (P : Program) (w : World) (h : Heap) (a : Addr) (l : List Str) : Prop :=
  ∃ D : SD, h.get? a = some (sObj "set" D) ∧ TxOk P w D l ∧ l.Nodup ∧ Ris D.2.2.place.toList ∧ (w.params.followText "set-order" = true ∨ D.2.2.led = true)
theorem ris_tail {ep : Nat} {es : Array (Int × Value)} {t : SetTable} {b : Bool} (r : Ris t.place.toList) : Ris (tailTx ep es t b).2.2.place.toList ∧ (tailTx ep es t b).2.2.led = t.led := by
  unfold tailTx
  split
  · exact ⟨relayAll_ris _ _ _, relayAll_led _ _ _⟩
  · exact ⟨r, rfl⟩
theorem ris_add {h : Int} {v : Value} {D : SD} (r : Ris D.2.2.place.toList) : Ris (addTx h v D).2.2.place.toList ∧ (addTx h v D).2.2.led = D.2.2.led := by
  have r1 := layNew_ris D.2.2 D.1 h v r
  have l1 := layNew_led D.2.2 D.1 h v
  unfold addTx
  split
  · obtain ⟨g1, g2⟩ := ris_tail (ep := D.2.1) (es := (layNew D.2.2 D.1 h v).1) (t := { (layNew D.2.2 D.1 h v).2.1 with plain := false }) (b := (layNew D.2.2 D.1 h v).2.2.1) r1
    exact ⟨g1, g2.trans l1⟩
  · obtain ⟨g1, g2⟩ := ris_tail (ep := D.2.1) (es := (layNew D.2.2 D.1 h v).1) (t := (layNew D.2.2 D.1 h v).2.1) (b := (layNew D.2.2 D.1 h v).2.2.1) r1
    exact ⟨g1, g2.trans l1⟩
section
variable {P : Program} {w : World} {A : Around} {E : Value → Shared → Prop} {s : Shared}
theorem SetX.keep {h h' : Heap} {a : Addr} {l : List Str} (X : SetX P w h a l) (k : ∀ o, h.get? a = some o → h'.get? a = some o) : SetX P w h' a l := by
  obtain ⟨D, hD, r⟩ := X
  exact ⟨D, k _ hD, r⟩
/-- a text that is there: nothing changes -/
theorem add_there {a : Addr} {l : List Str} {k : Str} {u : Tok} {D : SD} {Q : Bool → Shared → Prop} (ho : s.heap.get? a = some (sObj "set" D)) (F : TxOk P w D l) (hk : k ∈ l) (hb : l.length < scanBound) (q : Q false s) :
    wpAny (model P w) A (setAddHashed a (.str k u) (hashStr w k)) Q E s := by
  have isk : (strKind P w).is k (.str k u) = true := PySem.Froz.is_str k u
  have small : D.1.size < scanBound := by rw [F.sz]; exact hb
  obtain ⟨j, hj⟩ : ∃ j, List.findIdx? (fun e => (strKind P w).is k e.2) D.1.toList = some j := by
    cases e : List.findIdx? (fun e => (strKind P w).is k e.2) D.1.toList with
    | some j => exact ⟨j, rfl⟩
    | none =>
      obtain ⟨x, hx, hy⟩ := (F.mem k).mp hk
      have := List.findIdx?_eq_none_iff.mp e x hx
      rw [hy] at this
      cases this
  unfold setAddHashed setAddHashedIn
  refine wpAny_holding (wpAny_bind (wpAny_setState_of ho rfl F.fit ?_))
  dsimp only
  rw [byScan_of (knd := strKind P w) rfl small F.el]
  simp only [↓reduceIte]
  unfold setAddByScan
  refine wpAny_bind (wpAny_bind (wpAny_rule (wpAny_bind (wpAny_setScan_of (knd := strKind P w) (k := k) isk ho rfl F.fit F.el ?_))))
  rw [hj]
  exact wpAny_pure (wpAny_pure q)
/-- one more text -/
theorem setX_add {a : Addr} {l : List Str} {k : Str} {u : Tok} {Q : Bool → Shared → Prop} (X : SetX P w s.heap a l) (hb : l.length + 1 < scanBound)
    (q : ∀ (b : Bool) (h' : Heap) (l' : List Str), SetX P w h' a l' → (∀ m, m ∈ l' ↔ m ∈ l ∨ m = k) → l'.length ≤ l.length + 1 → (∀ c o, c ≠ a → s.heap.get? c = some o → h'.get? c = some o) → Q b { s with heap := h' }) :
    wpAny (model P w) A (setAddHashed a (.str k u) (hashStr w k)) Q E s := by
  obtain ⟨D, hD, F, n, r, led⟩ := id X
  by_cases hk : k ∈ l
  · exact add_there hD F hk (by omega) (q false s.heap l X (fun m => ⟨.inl, fun z => z.elim id fun e => e ▸ hk⟩) (Nat.le_succ _) fun c o _ e => e)
  · refine PySem.Froz.add_x hD F hk hb (q true _ (k :: l) ⟨_, PySem.Froz.get_upd _ hD rfl, PySem.Froz.add_ok u F, List.nodup_cons.mpr ⟨hk, n⟩, (ris_add r).1, led.imp id fun z => (ris_add r).2.trans z⟩ (fun m => ?_) (Nat.le_refl _) fun c o nc e => ?_)
    · rw [List.mem_cons]
      exact Or.comm
    · exact (Heap.get?_update_other _ _ (Ne.symm nc)).trans e
/-- a row of texts goes into the set -/
theorem set_fill {I L S : Addr} {xs : List Str} {items : Array Value} (hh : A.in1.handled = none) (hL : L ≠ I) (hS : S ≠ I) (hSL : S ≠ L) (rel : Vals (xs.map V.str) items.toList) (room : items.size + 1 < scanBound) {R : Result → Shared → Prop} :
    ∀ (k i : Nat) (s : Shared) (l : List Str), items.size - i = k → i ≤ items.size → s.heap.IsListIter I L i → s.heap.IsList L items → SetX P w s.heap S l → l.length ≤ i → (∀ m, m ∈ l ↔ m ∈ xs.take i) →
      (∀ s' l', (∀ c o, c ≠ S → c ≠ I → s.heap.get? c = some o → s'.heap.get? c = some o) → s'.gens = s.gens → s'.drawn = s.drawn → s'.os = s.os → SetX P w s'.heap S l' → (∀ m, m ∈ l' ↔ m ∈ xs) → R (.ok (.ret .none)) s') →
      codeAny (model P w) A (.builtin "set.update.loop" ⟨[.ref S, .ref I], []⟩) R s := by
  have W := Walks.list (prog := P) (w := w) (A := A.in1) hh I L hL items
  have lx : xs.length = items.size := by
    have := rel.length
    rw [List.length_map, Array.length_toList] at this
    exact this
  intro k
  induction k with
  | zero =>
    intro i s l hk hi i1 i2 X hl hm q
    have e : i = items.size := by omega
    rw [e] at hm i1
    refine codeAny_builtin F.entry_set_update_loop ?_
    rw [Around.under_plainId F.plain_set_update_loop _]
    refine wpAny_bind (W.done s _ _ ⟨i1, i2⟩ fun h' tk kp => ?_)
    rw [← lx, List.take_length] at hm
    exact wpAny_pure (q _ l (fun c o _ n2 e => kp c o (by rw [List.mem_singleton]; exact n2) e) rfl rfl rfl (X.keep fun o => kp S o (by rw [List.mem_singleton]; exact hS)) hm)
  | succ k ih =>
    intro i s l hk hi i1 i2 X hl hm q
    have lt : i < items.size := by omega
    refine codeAny_builtin F.entry_set_update_loop ?_
    rw [Around.under_plainId F.plain_set_update_loop _]
    refine wpAny_bind (W.item i s _ _ lt ⟨i1, i2⟩ fun v h' tk hv st kp => ?_)
    obtain ⟨x, hx, rx⟩ : ∃ x, xs[i]? = some x ∧ RelV (.str x) v := by
      have hx : xs[i]? = some xs[i] := List.getElem?_eq_getElem (by omega)
      obtain ⟨u, hu, ru⟩ := rel.get (i := i) (x := .str xs[i]) (by rw [List.getElem?_map, hx]; rfl)
      rw [Array.getElem?_toList] at hu
      rw [hv] at hu
      cases hu
      exact ⟨_, hx, ru⟩
    obtain ⟨t, rfl⟩ := rx
    refine wpAny_bind (wpAny_holding ?_)
    unfold setAdd
    refine wpAny_holding (wpAny_bind ((strKind P w).pyHash (PySem.Froz.is_str x t) ?_))
    have X1 : SetX P w h' S l := X.keep fun o => kp S o (by rw [List.mem_singleton]; exact hS)
    refine setX_add X1 (by omega) fun b h2 l2 X2 m2 n2 k2 => ?_
    have i3 : h2.IsListIter I L (i + 1) := st.1.at fun o e => k2 I o (Ne.symm hS) e
    have i4 : h2.IsList L items := st.2.at fun o e => k2 L o (Ne.symm hSL) e
    refine wpAny_pure ⟨plainId_quiet F.plain_set_update_loop _, ih (i + 1) _ l2 (by omega) lt i3 i4 X2 (by omega) (fun m => ?_) fun s' l' k3 g1 g2 g3 X3 m3 => ?_⟩
    · rw [m2, hm, List.take_succ, hx, List.mem_append]
      simp
    · exact q s' l' (fun c o c1 c2 e => k3 c o c1 c2 (k2 c o c1 (kp c o (by rw [List.mem_singleton]; exact c2) e))) g1 g2 g3 X3 m3
end
end Ns

/-! NsZ2: the calls set(xs), sorted(set). -/
namespace Ns
open PySem PySem.Spec PyProof.Rows L2
open PySem.Froz (SD sObj TxOk)
/-- a set as it is made -/
abbrev set0 (w : World) : Obj := { cls := .type "set", dict := none, data := .set #[] 0 (.fresh 0 0 (!w.params.followText "set-order")) }
theorem setX_new {P : Program} {w : World} {h : Heap} {a : Addr} (e : h.get? a = some (set0 w)) : SetX P w h a [] := by
  refine ⟨(#[], 0, .fresh 0 0 (!w.params.followText "set-order")), e, PySem.Froz.TxOk.nil (by rfl), List.nodup_nil, List.Pairwise.nil, ?_⟩
  show _ ∨ (!w.params.followText "set-order") = true
  cases w.params.followText "set-order" <;> simp
section
variable {P : Program} {w : World} {A : Around} {E : Value → Shared → Prop} {s : Shared}
set_option maxHeartbeats 3200000 in
theorem set_of {l : Addr} {items : Array Value} {xs : List Str} {Q : Value → Shared → Prop} (hh : A.handled = none) (hl : s.heap.IsList l items) (rel : Vals (xs.map V.str) items.toList) (room : items.size + 1 < scanBound)
    (q : ∀ (h' : Heap) (tk : Nat) (ls : List Str), (∀ c o, s.heap.get? c = some o → h'.get? c = some o) → SetX P w h' s.heap.objs.size ls → (∀ m, m ∈ ls ↔ m ∈ xs) → Q (.ref s.heap.objs.size) { s with heap := h', toks := tk }) :
    wpAny (model P w) A (call (.type "set") [.ref l]) Q E s := by
  obtain ⟨c, tl, hmro⟩ := F.called_set.mro
  have f1 := F.called_set.made
  have f2 := F.called_set.sub
  have f3 := F.called_set.notType
  have f4 := F.called_set.canCreate
  have f5 := F.typeCall_set_1 (.ref l)
  refine wpAny_call (codeAny_of_tree ?_)
  show wpAny _ _ (callAny (.type "set") _) _ _ _
  refine wpAny_pure ⟨Code.quiet_builtin _ (by decide +kernel), codeAny_builtin F.entry_type_call ?_⟩
  rw [Around.under_plain (weight_type_call_type "set" [.ref l] []) rfl]
  repeat (any_goals (first | assumption | wp_step))
  refine codeAny_mono (code_set_led1 (.ref l) (E := E) (Q₁ := fun obj s₁ => obj = .ref s.heap.objs.size ∧ s₁ = { s with heap := s.heap.push (set0 w) }) ⟨rfl, rfl⟩) fun r s₁ hr => ?_
  rcases r with e | fl
  · exact hr
  cases fl with
  | ret obj =>
    obtain ⟨rfl, rfl⟩ := hr
    have at0 : (s.heap.push (set0 w)).get? s.heap.objs.size = some (set0 w) := Heap.get?_push_size _ rfl
    have ty0 : Shared.TypeIs { s with heap := s.heap.push (set0 w) } (.ref s.heap.objs.size) "set" := ⟨_, at0, rfl⟩
    have f6 := F.called_set.init.lookup
    have f7 := F.called_set.init.bind (.ref s.heap.objs.size)
    repeat (any_goals (first | assumption | wp_step))
    refine codeAny_mono (codeAny_call_builtin (R := wants (fun r s₂ => r = .none ∧ ∃ h' tk ls, s₂ = { s with heap := h', toks := tk } ∧ (∀ c o, s.heap.get? c = some o → h'.get? c = some o) ∧ SetX P w h' s.heap.objs.size ls ∧ ∀ m, m ∈ ls ↔ m ∈ xs) E)
      F.called_set.init.plain F.entry_set_init (check_set_init_1 ty0 ?_)) fun r₂ s₂ hr₂ => ?_
    · obtain ⟨⟨ocls, odict, odata, oslots⟩, hol, hcl, nl, hdl⟩ := hl
      simp only at hcl hdl
      subst hcl; subst hdl
      have lS : l < s.heap.objs.size := Heap.lt_size hol
      have hol' : (s.heap.push (set0 w)).get? l = some { cls := .type "list", dict := odict, data := .seq items nl, slots := oslots } := Heap.get?_push_of_some _ hol
      have g1 := F.sub_list_set
      have g2 := F.sub_list_frozenset
      have g3 : (Value.type "list" == Value.type "dict") = false := by decide
      have isl : (s.heap.push (set0 w)).IsList l items := ⟨_, hol', rfl, nl, rfl⟩
      unfold Builtin.«set.__init__» noKeywords Builtin.Frozenset.updateFrom
      generalize keep : pyIter = PI
      wp_walk
      subst keep
      refine wpAny_pyIter_list isl (wpAny_bind (wpAny_runValue ?_))
      have up : (s.heap.push (set0 w)).objs.size = s.heap.objs.size + 1 := size_push' _ _
      refine set_fill (xs := xs) (by simp [hh]) (by rw [up]; exact Nat.ne_of_lt (Nat.lt_succ_of_lt lS)) (by rw [up]; exact Nat.ne_of_lt (Nat.lt_succ_self _)) (Nat.ne_of_gt lS) rel room items.size 0 _ [] (Nat.sub_zero _) (Nat.zero_le _) ⟨_, Heap.get?_push_size _ rfl, rfl, rfl⟩ (isl.push _)
        (setX_new (Heap.get?_push_of_some _ at0)) (Nat.le_refl _) (fun m => by rw [List.take_zero]) fun s' ls kp e1 e2 e3 X m => ?_
      obtain ⟨h', g', d', tk', os'⟩ := s'
      cases e1
      cases e2
      cases e3
      refine wpAny_pure (wpAny_pure ⟨rfl, h', tk', ls, rfl, fun c o e => ?_, X, m⟩)
      have cl : c < s.heap.objs.size := Heap.lt_size e
      exact kp c o (Nat.ne_of_lt cl) (by rw [up]; exact Nat.ne_of_lt (Nat.lt_succ_of_lt cl)) (Heap.get?_push_of_some _ (Heap.get?_push_of_some _ e))
    · rcases r₂ with e | fl₂
      · exact hr₂
      cases fl₂ with
      | ret r =>
        obtain ⟨rfl, h', tk, ls, rfl, kp, X, m⟩ := hr₂
        repeat (any_goals (first | assumption | wp_step))
        exact q h' tk ls kp X m
      | _ => exact hr₂.elim
  | _ => exact hr.elim
end
end Ns

/-! NsZ3: sorted of a set of texts. -/
namespace Ns
open PySem PySem.Spec PyProof.Rows L2
open PySem.Froz (SD sObj TxOk)
section
variable {P : Program} {w : World} {A : Around} {E : Value → Shared → Prop} {s : Shared}
theorem texts_of {l : List Value} (h : ∀ v ∈ l, ∃ x t, v = Value.str x t) : ∃ xs, StrsAre l xs := by
  induction l with
  | nil => exact ⟨[], .nil⟩
  | cons v l ih =>
    obtain ⟨x, t, rfl⟩ := h v List.mem_cons_self
    obtain ⟨xs, r⟩ := ih fun u hu => h u (List.mem_cons_of_mem _ hu)
    exact ⟨x :: xs, .cons x t r⟩
theorem strs_mem {vs : List Value} {xs : List Str} (r : StrsAre vs xs) : ∀ m, m ∈ xs ↔ ∃ t, Value.str m t ∈ vs := by
  induction r with
  | nil => simp
  | cons y t _ ih =>
    intro m
    rw [List.mem_cons, ih]
    constructor
    · rintro (rfl | ⟨u, hu⟩)
      · exact ⟨t, List.mem_cons_self⟩
      · exact ⟨u, List.mem_cons_of_mem _ hu⟩
    · rintro ⟨u, hu⟩
      rcases List.mem_cons.mp hu with e | e
      · injection e with e1 _
        exact .inl e1
      · exact .inr ⟨u, e⟩
theorem sorted_setX {a : Addr} {ls : List Str} {Q : Value → Shared → Prop} (X : SetX P w s.heap a ls) (hh : A.handled = none) (few : ls.length < 64)
    (q : ∀ s' p (out : Array Value) (c : Nat) (ys : List Str), (∀ b o, s.heap.get? b = some o → s'.heap.get? b = some o) → s'.gens = s.gens → s'.os = s.os → s.heap.objs.size ≤ p → s'.heap.get? p = some (seqObj "list" out c) →
      StrsAre out.toList ys → sortedS ys = true → ys.length = ls.length → (∀ m, m ∈ ys ↔ m ∈ ls) → Q (.ref p) s') :
    wpAny (model P w) A (call (.builtin "sorted") [.ref a]) Q E s := by
  obtain ⟨D, hD, F, n, r, led⟩ := X
  have sz := F.sz
  refine Calls.call_function_entry kind_sorted plain_sorted entry_sorted (args_sorted1 _) ?_
  unfold Builtin.«sorted»
  refine wpAny_bind (m := checkCount "sorted" 1 1 _) (wpAny_pure ?_)
  refine wpAny_bind (collect_set (A := A.in1) hh ⟨_, hD, rfl, rfl⟩ F.fit (by rw [sz]; exact Nat.lt_trans few (by decide)) r led fun s1 vs k1 z1 g1 o1 pm => ?_)
  have vl : vs.length = ls.length := by rw [pm.length_eq, List.length_map, Array.length_toList]; exact sz
  have isS : ∀ v ∈ vs, ∃ x t, v = Value.str x t := fun v hv => by
    obtain ⟨e, he, rfl⟩ := List.mem_map.mp (pm.mem_iff.mp hv)
    obtain ⟨⟨k, hk, _⟩, _⟩ := F.el e he
    obtain ⟨t, ht⟩ := Value.isStrOf_shape (x := k) (v := e.2) hk
    exact ⟨k, t, ht⟩
  obtain ⟨us, hS⟩ := texts_of isS
  have um : ∀ m, m ∈ us ↔ m ∈ ls := fun m => by
    rw [strs_mem hS, F.mem m]
    constructor
    · rintro ⟨t, ht⟩
      obtain ⟨e, he, ee⟩ := List.mem_map.mp (pm.mem_iff.mp ht)
      exact ⟨e, he, by rw [show e.2 = Value.str m t from ee]; exact PySem.Froz.is_str m t⟩
    · rintro ⟨e, he, ee⟩
      obtain ⟨t, ht⟩ := Value.isStrOf_shape (x := m) (v := e.2) ee
      exact ⟨t, by rw [← ht]; exact pm.mem_iff.mpr (List.mem_map.mpr ⟨e, he, rfl⟩)⟩
  refine wpAny_bind (wpAny_newList ?_ (by rw [vl, sizeLine_eq]; omega))
  have hoL : (s1.heap.push (seqObj "list" vs.toArray 0)).get? s1.heap.objs.size = some (seqObj "list" vs.toArray 0) := Heap.get?_push_size _ rfl
  refine wpAny_bind (wpAny_holding (wpAny_call_entry slot_list_sort ⟨_, hoL, rfl⟩ entry_list_sort
    (list_sort_treeK strKind_oneLt (s := { s1 with heap := s1.heap.push (seqObj "list" vs.toArray 0) }) hoL hS.keysOf (fun v₁ v₂ rest e => keyKind_strs (by rw [← e]; exact hS)) (by rw [vl]; exact few) fun st' hp hs => ⟨_, rfl, ?_⟩) (args_list_sort _)))
  obtain ⟨ys, y1, y2, y3⟩ := sorted_out_str hS hp hs
  obtain ⟨c, hc⟩ := sortedHeap_at (vs := vs) (out := (arrOf st').map (·.2)) hoL
  refine wpAny_pure ⟨_, rfl, q _ s1.heap.objs.size _ c ys (fun b u e => ?_) g1 o1 z1 hc y1 y3 ?_ fun m => (y2.mem_iff).trans (um m)⟩
  · have k := k1 b u e
    have lt := Heap.lt_size k
    have top : b < (s1.heap.push (seqObj "list" vs.toArray 0)).objs.size := by rw [size_push']; exact Nat.lt_succ_of_lt lt
    have k2 : (s1.heap.push (seqObj "list" vs.toArray 0)).get? b = some u := Heap.get?_push_of_some _ k
    have same := sortedHeap_old (h := s1.heap.push (seqObj "list" vs.toArray 0)) (vs := vs) (out := (arrOf st').map (·.2)) (Nat.ne_of_lt lt) top
    rw [k2] at same
    exact same
  · rw [y2.length_eq, ← vl]
    exact hS.len_eq.symm
end
/-- a set of texts -/
def SetS (P : Program) (w : World) (a : Addr) (ls : List Str) : HO := .ext fun h => SetX P w h a ls
theorem setS_ok {P : Program} {w : World} {H : Hp} {h : Heap} {a : Addr} {ls : List Str} (X : SetX P w h a ls) : ObjOk P w H h a (SetS P w a ls) :=
  ⟨X, (by obtain ⟨D, hD, _⟩ := X; exact ⟨_, hD⟩), fun h1 h2 x k => x.keep k⟩
section
variable {X : Cx}
def rSetTx (K : PySem.W.Frag) (P : Program) (w : World) : List V → Hp → VK → Prop := fun xs H Q => ∃ (a : Addr) (ts : List Str), xs = [.ref a] ∧ SqL K H a (ts.map V.str) ∧ ts.length ≤ 1000 ∧ ∀ (p : Addr) (ls : List Str), H p = none → (∀ m, m ∈ ls ↔ m ∈ ts) → Q (.ref p) (upd H p (SetS P w p ls))
theorem call_setTx (hc : X.calm = true) : CallR X (.type "set") (rSetTx X.K X.prog X.w) := by
  intro pins s σ H xs us Q I r h
  obtain ⟨a, ts, rfl, hs, hz, q⟩ := h
  obtain ⟨its, rv, hl, _⟩ := I.list hs
  rw [Vals.ref1 r]
  have il : its.length = ts.length := by rw [← rv.length, List.length_map]
  refine set_of (xs := ts) (I.ok.hd hc) hl.isList (by simpa using rv) (by rw [List.size_toArray, il]; exact Nat.lt_of_le_of_lt (show ts.length + 1 ≤ 1001 by omega) (by decide)) fun h' tk ls kp XX m => ?_
  exact ⟨.ref s.heap.objs.size, upd H s.heap.objs.size (SetS X.prog X.w s.heap.objs.size ls), I.laid (t' := tk) kp (Nat.le_refl _) (setS_ok XX), rfl, q _ ls (I.hok.fresh (Nat.le_refl _)) m⟩
def rSortSet (P : Program) (w : World) : List V → Hp → VK → Prop := fun xs H Q => ∃ (a : Addr) (ls : List Str), xs = [.ref a] ∧ H a = some (SetS P w a ls) ∧ (∀ l : List Str, l.Nodup → (∀ m, m ∈ l ↔ m ∈ ls) → l.length < 64) ∧
  ∀ (p : Addr) (ys : List Str), H p = none → sortedS ys = true → ys.Nodup → (∀ m, m ∈ ys ↔ m ∈ ls) → Q (.ref p) (upd H p (.lst (ys.map V.str)))
theorem perm_of {α : Type} [DecidableEq α] : ∀ {l ys : List α}, l.Nodup → (∀ m ∈ l, m ∈ ys) → ys.length = l.length → ys.Perm l
  | [], ys, _, _, e => by rw [List.length_eq_zero_iff.mp e]
  | x :: l, ys, n, h, e => by
    obtain ⟨n1, n2⟩ := List.nodup_cons.mp n
    have hx : x ∈ ys := h x List.mem_cons_self
    have le : (ys.erase x).length = l.length := by
      rw [List.length_erase_of_mem hx, e, List.length_cons, Nat.add_sub_cancel]
    exact (List.perm_cons_erase hx).trans ((perm_of n2 (fun m hm => (List.mem_erase_of_ne (fun z : m = x => n1 (by rw [← z]; exact hm))).mpr (h m (List.mem_cons_of_mem _ hm))) le).cons x)
theorem cr_sortSet (hc : X.calm = true) : CallR X (.builtin "sorted") (rSortSet X.prog X.w) := by
  intro pins s σ H xs us Q I r h
  obtain ⟨a, ls, rfl, ha, few, q⟩ := h
  obtain rfl := Vals.ref1 r
  have XX : SetX X.prog X.w s.heap a ls := (show ObjOk X.prog X.w H s.heap a (SetS X.prog X.w a ls) from I.hok a _ ha).1
  have nls : ls.Nodup := by
    obtain ⟨_, _, _, n, _⟩ := XX
    exact n
  refine sorted_setX XX (I.ok.hd hc) (few ls nls fun _ => Iff.rfl) fun s' p out c ys kp eg eo hp hat r1 r2 r3 r4 => ?_
  have yl : (ys.map V.str).length ≤ sizeLine := by
    rw [List.length_map, r3, sizeLine_eq]
    have := few ls nls fun _ => Iff.rfl
    omega
  have fr : H p = none := I.hok.fresh hp
  have nys : ys.Nodup := (perm_of nls (fun m hm => (r4 m).mpr hm) r3).nodup_iff.mpr nls
  obtain ⟨h', g', d', tk', os'⟩ := s'
  cases eo
  have J : Inv X pins σ (upd H p (.lst (ys.map V.str))) { s with heap := h', gens := g', drawn := d', toks := tk' } :=
    I.call (ch := []) (Un.laid kp hp fr) (I.hok.laid kp hp ⟨yl, out.toList, c, vals_of_strs r1, hat⟩) (by rw [show g' = s.gens from eg]; exact I.bare) fun _ z => nomatch z
  exact ⟨.ref p, _, J, rfl, q p ys fr r2 nys r4⟩
end
end Ns

namespace Y
open PySem PySem.Spec PyProof.Rows L2 Ns
open C8 (pss_cut)
def spKin (K : PySem.W.Frag) : Sp := fun as H Q _ => ∃ (y : V) (cs : List Cab) (rs : List Car) (most : Int), as = [y] ∧ YardV K H y cs rs ∧ YardF most cs rs ∧
  ∀ (p : Addr) (ws : List Str) (H' : Hp), sortedS ws = true → ws.Nodup → (∀ s, s ∈ ws ↔ s = feed ∨ KnIn cs rs s) → H' p = some (.tup (txs ws)) → H p = none → Same H H' → Q (.ref p) H'
section
variable {P : Program} {w : World} {K : PySem.W.Frag} {mg : Str → Option Value} {base : Heap}
theorem fr_same {H H' : Hp} {p : Addr} (m : Same H H') (h : H' p = none) : H p = none := by
  cases e : H p with
  | none => rfl
  | some o => rw [m _ _ e] at h; cases h
end
end Y

/-! sizes of yards' texts; equal data; ascending texts are one -/
namespace Y
open PySem PySem.Spec PyProof.Rows L2 Ns
theorem not_lt_trans {a b c : List Nat} (h1 : ¬ b < a) (h2 : ¬ c < b) : ¬ c < a := by
  rw [List.not_lt] at h1 h2 ⊢
  exact List.le_trans h1 h2
theorem rising_all : ∀ {r : List Str} {p : Str}, risingS p r = true → ∀ y ∈ r, ¬ y.cps.toList < p.cps.toList
  | [], _, _, y, hy => nomatch hy
  | x :: r, p, h, y, hy => by
    unfold risingS at h
    rw [Bool.and_eq_true, ltCps_eq] at h
    have h1 : ¬ x.cps.toList < p.cps.toList := by simpa using h.1
    rcases List.mem_cons.mp hy with e | e
    · rw [e]; exact h1
    · exact not_lt_trans h1 (rising_all h.2 y e)
theorem rising_tail {x : Str} {r : List Str} (h : sortedS (x :: r) = true) : sortedS r = true := by
  cases r with
  | nil => rfl
  | cons y r =>
    have h' : risingS x (y :: r) = true := h
    unfold risingS at h'
    exact (Bool.and_eq_true_iff.mp h').2
theorem sorted_one : ∀ {xs ys : List Str}, sortedS xs = true → sortedS ys = true → xs.Perm ys → xs = ys
  | [], ys, _, _, p => (List.nil_perm.mp p).symm
  | x :: xs, [], _, _, p => by cases List.perm_nil.mp p
  | x :: xs, y :: ys, h1, h2, p => by
    have e : x = y := by
      have mx := p.mem_iff.mp (List.mem_cons_self (a := x) (l := xs))
      have my := p.mem_iff.mpr (List.mem_cons_self (a := y) (l := ys))
      rcases List.mem_cons.mp mx with e | hx
      · exact e
      · rcases List.mem_cons.mp my with e | hy
        · exact e.symm
        · have a1 := rising_all h2 x hx
          have a2 := rising_all h1 y hy
          rw [List.not_lt] at a1 a2
          exact str_ext (List.le_antisymm a2 a1)
    subst e
    rw [sorted_one (rising_tail h1) (rising_tail h2) (List.perm_cons x |>.mp p)]
theorem perm_of_mem {xs ys : List Str} (n1 : xs.Nodup) (n2 : ys.Nodup) (h : ∀ s, s ∈ xs ↔ s ∈ ys) : xs.Perm ys := by
  have l1 := sub_len n1 (m := ys) fun s hs => (h s).mp hs
  have l2 := sub_len n2 (m := xs) fun s hs => (h s).mpr hs
  exact perm_of n2 (fun m hm => (h m).mpr hm) (by omega)
/-- a name, or feed -/
def Nf (x : Str) : Prop := Nm x ∨ x = feed
theorem nm_codes {x : Str} (h : Nf x) : (∀ c ∈ x.cps.toList, c < 200) ∧ x.length ≤ 20 := by
  rcases h with h | rfl
  · obtain ⟨c, r, e, h1, h2, h3⟩ := id h
    refine ⟨fun d hd => ?_, h.len.2⟩
    rw [e] at hd
    rcases List.mem_cons.mp hd with z | z
    · rw [z]; unfold isL at h1; omega
    · rcases h2 d z with y | y
      · unfold isL at y; omega
      · unfold isD at y; omega
  · exact ⟨by decide +kernel, by decide +kernel⟩
theorem fit_name {x : Str} (h : Nf x) : Fit 300 0 (.str x) := by
  obtain ⟨h1, h2⟩ := nm_codes h
  refine ⟨by simp [PyData.showable], ?_, by simp [PyData.depth]⟩
  rw [PyData.shown_str]
  have := PySem.StrLaws.reprText_len x fun c hc => Nat.lt_trans (h1 c hc) (by decide)
  omega
theorem fit_num {i : Int} (h0 : 0 ≤ i) (h : i ≤ 10 ^ 12) : Fit 300 0 (.int i) :=
  (fit_int (n := 13) (by decide) (by omega) (by decide)).mono (by decide) (Nat.le_refl _)
def cabD (c : Cab) : PyData := .tuple [.str c.1, .str c.2.1, .int c.2.2]
def carD (c : Car) : PyData := .tuple [.str c.1, .str c.2.1, .int c.2.2.1, .int c.2.2.2]
theorem fit_cab {c : Cab} (h1 : Nf c.1) (h2 : Nf c.2.1) (h3 : 0 ≤ c.2.2) (h4 : c.2.2 ≤ 10 ^ 12) : Fit 1300 1 (cabD c) := by
  refine (fit_tuple (m := 300) (k := 0) fun d hd => ?_).mono (show 3 * (300 + 2) + 3 ≤ 1300 by decide) (by decide)
  simp only [List.mem_cons, List.not_mem_nil, or_false] at hd
  rcases hd with rfl | rfl | rfl
  · exact fit_name h1
  · exact fit_name h2
  · exact fit_num h3 h4
theorem fit_car {c : Car} (h1 : Nf c.1) (h2 : Nf c.2.1) (h3 : 0 ≤ c.2.2.1) (h4 : c.2.2.1 ≤ 10 ^ 12) (h5 : 0 ≤ c.2.2.2) (h6 : c.2.2.2 ≤ 10 ^ 12) : Fit 1300 1 (carD c) := by
  refine (fit_tuple (m := 300) (k := 0) fun d hd => ?_).mono (show 4 * (300 + 2) + 3 ≤ 1300 by decide) (by decide)
  simp only [List.mem_cons, List.not_mem_nil, or_false] at hd
  rcases hd with rfl | rfl | rfl | rfl
  · exact fit_name h1
  · exact fit_name h2
  · exact fit_num h3 h4
  · exact fit_num h5 h6
/-- the facts of a yard's parts, plainly -/
structure YardP (cs : List Cab) (rs : List Car) : Prop where
  lc : cs.length ≤ 40
  lr : rs.length ≤ 24
  cab : ∀ c ∈ cs, Nf c.1 ∧ Nf c.2.1 ∧ 0 ≤ c.2.2 ∧ c.2.2 ≤ 10 ^ 12
  car : ∀ r ∈ rs, Nm r.1 ∧ Nf r.2.1 ∧ 1 ≤ r.2.2.1 ∧ r.2.2.1 ≤ 10 ^ 12 ∧ 0 ≤ r.2.2.2 ∧ r.2.2.2 ≤ 10 ^ 12
  keys : (cs.map ckey).Nodup
  names : (rs.map (·.1)).Nodup
theorem YardF.plain {most : Int} {cs : List Cab} {rs : List Car} (h : YardF most cs rs) (hm : most ≤ 10 ^ 12) : YardP cs rs := by
  obtain ⟨ns, nm, N1, N2, N3, N4, C, R⟩ := h.ex
  have nf : ∀ s, s ∈ feed :: ns → Nf s := fun s hs => by
    rcases List.mem_cons.mp hs with e | e
    · exact .inr e
    · exact .inl (N1.nm s e)
  refine ⟨C.len, ?_, fun c hc => ?_, fun r hr => ?_, C.nodup, R.perm.nodup_iff.mpr N3.nodup⟩
  · have := R.perm.length_eq
    rw [List.length_map] at this
    omega
  · obtain ⟨c1, c2, c3, c4, c5⟩ := C.each c hc
    exact ⟨nf _ c2, .inl (N1.nm _ c3), c4, by omega⟩
  · obtain ⟨r1, r2, r3, r4, r5⟩ := R.each r hr
    exact ⟨N3.nm _ (R.perm.mem_iff.mp (List.mem_map.mpr ⟨r, hr, rfl⟩)), nf _ r1, r2, r3, r4, by omega⟩
def yardD (cs : List Cab) (rs : List Car) : PyData := .tuple [.tuple (cs.map cabD), .tuple (rs.map carD)]
theorem fit_yard {cs : List Cab} {rs : List Car} (h : YardP cs rs) : Fit 130000 3 (yardD cs rs) := by
  have f1 : Fit 60000 2 (.tuple (cs.map cabD)) := by
    refine (fit_tuple (m := 1300) (k := 1) fun d hd => ?_).mono ?_ (by decide)
    · obtain ⟨c, hc, rfl⟩ := List.mem_map.mp hd
      obtain ⟨h1, h2, h3, h4⟩ := h.cab c hc
      exact fit_cab h1 h2 h3 h4
    · rw [List.length_map]
      have := h.lc
      omega
  have f2 : Fit 60000 2 (.tuple (rs.map carD)) := by
    refine (fit_tuple (m := 1300) (k := 1) fun d hd => ?_).mono ?_ (by decide)
    · obtain ⟨c, hc, rfl⟩ := List.mem_map.mp hd
      obtain ⟨h1, h2, h3, h4, h5, h6⟩ := h.car c hc
      exact fit_car (.inl h1) h2 (by omega) h4 h5 h6
    · rw [List.length_map]
      have := h.lr
      omega
  refine (fit_tuple (m := 60000) (k := 2) fun d hd => ?_).mono (show 2 * (60000 + 2) + 3 ≤ 130000 by decide) (by decide)
  simp only [List.mem_cons, List.not_mem_nil, or_false] at hd
  rcases hd with rfl | rfl
  · exact f1
  · exact f2
theorem big_ok {n : Nat} (h : n ≤ 1000000) : n ≤ sizeLine := by rw [sizeLine_eq]; omega
section
variable {K : PySem.W.Frag} {H : Hp}
theorem dat_cabs : ∀ {xs : List V} {cs : List Cab}, Paired (CabV K H) xs cs → DatA K H xs (cs.map cabD)
  | _, _, .nil => .nil
  | _, _, .cons ⟨t, e, h⟩ r => by
    subst e
    exact .cons (.tup h (.cons (.str _) (.cons (.str _) (.cons (.int _) .nil)))) (dat_cabs r)
theorem dat_cars : ∀ {xs : List V} {cs : List Car}, Paired (CarV K H) xs cs → DatA K H xs (cs.map carD)
  | _, _, .nil => .nil
  | _, _, .cons ⟨t, e, h⟩ r => by
    subst e
    exact .cons (.tup h (.cons (.str _) (.cons (.str _) (.cons (.int _) (.cons (.int _) .nil))))) (dat_cars r)
theorem dat_yard {y : V} {cs : List Cab} {rs : List Car} (h : YardV K H y cs rs) : DatV K H y (yardD cs rs) := by
  obtain ⟨t, a, b, xs, zs, rfl, h1, h2, h3, h4, h5⟩ := h
  exact .tup h1 (.cons (.tup h2 (dat_cabs h4)) (.cons (.tup h3 (dat_cars h5)) .nil))
theorem dat_txs : ∀ ls : List Str, DatA K H (txs ls) (ls.map PyData.str)
  | [] => .nil
  | _ :: ls => .cons (.str _) (dat_txs ls)
theorem dat_ints : ∀ ls : List Int, DatA K H (ls.map V.int) (ls.map PyData.int)
  | [] => .nil
  | _ :: ls => .cons (.int _) (dat_ints ls)
theorem same_rows {E : V → V → Prop} : ∀ {xs : List V}, (∀ x ∈ xs, E x x) → Paired E xs xs
  | [], _ => .nil
  | x :: xs, h => .cons (h x List.mem_cons_self) (same_rows fun y hy => h y (List.mem_cons_of_mem _ hy))
theorem eqT_flat {x : V} (n : Nat) (h : flatB x = true) : EqT K H (n + 1) x x := .inl ⟨rfl, h⟩
theorem eqT_tup {a b : Addr} {xs : List V} (n : Nat) (ha : SqT K H a xs) (hb : SqT K H b xs) (h : ∀ x ∈ xs, flatB x = true) : EqT K H (n + 2) (.ref a) (.ref b) :=
  .inr (.inr (.inr ⟨a, b, xs, xs, rfl, rfl, ha, hb, same_rows fun x hx => eqT_flat n (h x hx)⟩))
theorem flat_str {l : List Str} : ∀ x ∈ txs l, flatB x = true := fun x hx => by
  obtain ⟨t, _, rfl⟩ := List.mem_map.mp hx
  rfl
theorem eqT_dict {a b : Addr} {l : List (Str × Int)} (n : Nat) (nd : (l.map (·.1)).Nodup) (ha : H a = some (.dK (kvI l))) (hb : H b = some (.dK (kvI l))) : EqT K H (n + 2) (.ref a) (.ref b) :=
  .inr (.inr (.inl (.inr ⟨a, b, kvI l, kvI l, rfl, rfl, ha, hb, rfl, fun p hp => by
    obtain ⟨q, hq, rfl⟩ := List.mem_map.mp hp
    exact ⟨_, kvI_get nd hq, eqT_flat n rfl⟩⟩)))
end
end Y

/-! data of cars, of numbers, compared by == -/
namespace Y
open PySem PySem.Spec PyProof.Rows L2 Ns
theorem dp_cars {K : PySem.W.Frag} {H : Hp} : ∀ {ys : List V} {fl : List Car}, Paired (CarV K H) ys fl → DpAll K H ys (fl.map carD)
  | _, _, .nil => .nil
  | _, _, .cons ⟨t, e, h⟩ r => by
    subst e
    exact .cons (.tup h (.cons (.str _) (.cons (.str _) (.cons (.int _) (.cons (.int _) .nil))))) (dp_cars r)
theorem nf_ok {t : Str} (h : Nf t) : PyData.strOk t = true := by
  rcases h with h | rfl
  · exact nm_ok h
  · decide +kernel
theorem lay_cars : ∀ {fl : List Car}, (∀ r ∈ fl, Nm r.1 ∧ Nf r.2.1 ∧ 1 ≤ r.2.2.1 ∧ r.2.2.1 ≤ 10 ^ 12 ∧ 0 ≤ r.2.2.2 ∧ r.2.2.2 ≤ 10 ^ 12) → PyData.canLayAll0 (fl.map carD) = true ∧ PyData.depthAll (fl.map carD) ≤ 1
  | [], _ => ⟨rfl, by simp [PyData.depthAll]⟩
  | r :: fl, h => by
    obtain ⟨h1, h2⟩ := lay_cars fun r hr => h r (List.mem_cons_of_mem _ hr)
    obtain ⟨g1, g2, _⟩ := h r List.mem_cons_self
    refine ⟨by simp [carD, PyData.canLayAll0, PyData.canLay0, h1, nm_ok g1, nf_ok g2], ?_⟩
    simp only [List.map_cons, PyData.depthAll, carD, PyData.depth]
    omega
theorem shaped_cars {fl : List Car} (h : ∀ r ∈ fl, Nm r.1 ∧ Nf r.2.1 ∧ 1 ≤ r.2.2.1 ∧ r.2.2.1 ≤ 10 ^ 12 ∧ 0 ≤ r.2.2.2 ∧ r.2.2.2 ≤ 10 ^ 12) : SeqAt.shaped (.list (fl.map carD)) = true := by
  obtain ⟨h1, h2⟩ := lay_cars h
  unfold SeqAt.shaped
  rw [Bool.and_eq_true]
  refine ⟨by simp [PyData.canLay0, h1], decide_eq_true ?_⟩
  simp only [PyData.depth]
  omega
theorem dp_ints {K : PySem.W.Frag} {H : Hp} : ∀ l : List Int, DpAll K H (l.map V.int) (l.map PyData.int)
  | [] => .nil
  | i :: l => .cons (.int i) (dp_ints l)
theorem lay_ints : ∀ l : List Int, PyData.canLayAll0 (l.map PyData.int) = true ∧ PyData.depthAll (l.map PyData.int) = 0
  | [] => ⟨rfl, by simp [PyData.depthAll]⟩
  | i :: l => by
    obtain ⟨h1, h2⟩ := lay_ints l
    exact ⟨by simp [PyData.canLayAll0, PyData.canLay0, h1], by simp [PyData.depthAll, PyData.depth, h2]⟩
theorem shaped_ints (l : List Int) : SeqAt.shaped (.list (l.map PyData.int)) = true := by
  obtain ⟨h1, h2⟩ := lay_ints l
  unfold SeqAt.shaped
  rw [Bool.and_eq_true]
  refine ⟨by simp [PyData.canLay0, h1], decide_eq_true ?_⟩
  simp only [PyData.depth, h2]
  decide
end Y

/-! OW: edits, what they make of a yard's parts. -/
namespace Y
open PySem PySem.Spec PyProof.Rows L2 Ns
inductive Ed where
  | cab (s e : Str) (v : Int) : Ed
  | noc (s e : Str) : Ed
  | car (r : Car) : Ed
  | nor (n : Str) : Ed
inductive Er where
  | cab (s e : Str) : Er
  | car (n : Str) : Er
def edV : Ed → List V
  | .cab s e v => [.str "cable", .str s, .str e, .int v]
  | .noc s e => [.str "no cable", .str s, .str e]
  | .car r => [.str "car", .str r.1, .str r.2.1, .int r.2.2.1, .int r.2.2.2]
  | .nor n => [.str "no car", .str n]
def edD : Ed → PyData
  | .cab s e v => .tuple [.str "cable", .str s, .str e, .int v]
  | .noc s e => .tuple [.str "no cable", .str s, .str e]
  | .car r => .tuple [.str "car", .str r.1, .str r.2.1, .int r.2.2.1, .int r.2.2.2]
  | .nor n => .tuple [.str "no car", .str n]
def EdV (K : PySem.W.Frag) (H : Hp) (x : V) (e : Ed) : Prop := ∃ t, x = .ref t ∧ SqT K H t (edV e)
theorem EdV.more {K : PySem.W.Frag} {H H' : Hp} (m : Same H H') {x : V} {e : Ed} (h : EdV K H x e) : EdV K H' x e := by
  obtain ⟨t, q, h⟩ := h
  exact ⟨t, q, sqt_more m h⟩
theorem EdV.dat {K : PySem.W.Frag} {H : Hp} {x : V} {e : Ed} (h : EdV K H x e) : DatV K H x (edD e) := by
  obtain ⟨t, rfl, h⟩ := h
  cases e with
  | cab s e v => exact .tup h (.cons (.str _) (.cons (.str _) (.cons (.str _) (.cons (.int _) .nil))))
  | noc s e => exact .tup h (.cons (.str _) (.cons (.str _) (.cons (.str _) .nil)))
  | car r => exact .tup h (.cons (.str _) (.cons (.str _) (.cons (.str _) (.cons (.int _) (.cons (.int _) .nil)))))
  | nor n => exact .tup h (.cons (.str _) (.cons (.str _) .nil))
abbrev Caps := List ((Str × Str) × Int)
def dropP (c : Caps) (k : Str × Str) : Caps := c.filter fun f => decide (f.1 ≠ k)
def putR (rs : List Car) (r : Car) : List Car := if (rs.any fun q => decide (q.1 = r.1)) = true then rs.map (fun q => if q.1 = r.1 then r else q) else rs ++ [r]
def dropR (rs : List Car) (n : Str) : List Car := rs.filter fun q => decide (q.1 ≠ n)
def stp : Caps × List Car → Ed → Except Er (Caps × List Car)
  | (c, r), .cab s e v => .ok (put c (s, e) v, r)
  | (c, r), .noc s e => if (s, e) ∈ c.map (·.1) then .ok (dropP c (s, e), r) else .error (.cab s e)
  | (c, r), .car q => .ok (c, putR r q)
  | (c, r), .nor n => if n ∈ r.map (·.1) then .ok (c, dropR r n) else .error (.car n)
def nxt : Except Er (Caps × List Car) → Ed → Except Er (Caps × List Car)
  | .ok s, e => stp s e
  | .error x, _ => .error x
def runE (s : Caps × List Car) (es : List Ed) : Except Er (Caps × List Car) := es.foldl nxt (.ok s)
theorem runE_take {s : Caps × List Car} {es : List Ed} {i : Nat} {e : Ed} (h : es[i]? = some e) : runE s (es.take (i + 1)) = nxt (runE s (es.take i)) e := by
  unfold runE
  rw [List.take_succ, h, List.foldl_append]
  rfl
theorem run_err : ∀ {es : List Ed} {x : Er}, es.foldl nxt (.error x) = .error x
  | [], _ => rfl
  | e :: es, x => run_err (es := es)
theorem runE_stuck {s st : Caps × List Car} {es : List Ed} {i : Nat} {e : Ed} {x : Er} (h : es[i]? = some e) (g : runE s (es.take i) = .ok st) (k : stp st e = .error x) : runE s es = .error x := by
  have q : runE s (es.take (i + 1)) = .error x := by rw [runE_take h, g]; exact k
  unfold runE at q ⊢
  rw [← List.take_append_drop (i + 1) es, List.foldl_append, q]
  exact run_err
/-! ### the dicts -/
def cK (l : List (Key × V)) (rs : List Car) (K : PySem.W.Frag) (H : Hp) : Prop := Paired (fun p r => p.1 = (Sum.inr r.1 : Key) ∧ CarV K H p.2 r) l rs
theorem cK.more {K : PySem.W.Frag} {H H' : Hp} (m : Same H H') {l : List (Key × V)} {rs : List Car} (h : cK l rs K H) : cK l rs K H' := paired_imp (fun _ _ z => ⟨z.1, z.2.more m⟩) h
theorem cK_any {K : PySem.W.Frag} {H : Hp} (n : Str) : ∀ {l : List (Key × V)} {rs : List Car}, cK l rs K H → (l.any fun p => decide (p.1 = (Sum.inr n : Key))) = rs.any fun r => decide (r.1 = n)
  | _, _, .nil => rfl
  | _, _, .cons h t => by
    rw [List.any_cons, List.any_cons, cK_any n t, h.1]
    congr 1
    rw [decide_eq_decide]
    exact ⟨fun z => by injection z, fun z => by rw [z]⟩
theorem any_mem {rs : List Car} {n : Str} : (rs.any fun r => decide (r.1 = n)) = decide (n ∈ rs.map (·.1)) := by
  rw [Bool.eq_iff_iff, List.any_eq_true, decide_eq_true_iff, List.mem_map]
  constructor
  · rintro ⟨r, h, e⟩
    exact ⟨r, h, of_decide_eq_true e⟩
  · rintro ⟨r, h, e⟩
    exact ⟨r, h, decide_eq_true e⟩
theorem cK_is {K : PySem.W.Frag} {H : Hp} {n : Str} {l : List (Key × V)} {rs : List Car} (h : cK l rs K H) : (valV l (Sum.inr n : Key)).isSome = decide (n ∈ rs.map (·.1)) := by
  rw [← valV_any, cK_any n h, any_mem]
theorem cK_put {K : PySem.W.Frag} {H : Hp} {x : V} {r : Car} (hx : CarV K H x r) : ∀ {l : List (Key × V)} {rs : List Car}, cK l rs K H → cK (putK l (Sum.inr r.1 : Key) x) (putR rs r) K H := by
  have rep : ∀ {l : List (Key × V)} {rs : List Car}, cK l rs K H → cK (l.map fun kv => if kv.1 = (Sum.inr r.1 : Key) then (kv.1, x) else kv) (rs.map fun q => if q.1 = r.1 then r else q) K H := by
    intro l rs h
    induction h with
    | nil => exact .nil
    | @cons p q ps qs h t ih =>
      rw [List.map_cons, List.map_cons]
      refine .cons ?_ ih
      by_cases e : q.1 = r.1
      · rw [if_pos e, if_pos (by rw [h.1, e])]
        exact ⟨by rw [h.1, e], hx⟩
      · rw [if_neg e, if_neg (fun z => e (by rw [h.1] at z; injection z))]
        exact h
  intro l rs h
  unfold putK putR
  rw [cK_any r.1 h]
  by_cases e : (rs.any fun q => decide (q.1 = r.1)) = true
  · rw [if_pos e, if_pos e]; exact rep h
  · rw [if_neg e, if_neg e]; exact paired_snoc ⟨rfl, hx⟩ h
theorem cK_drop {K : PySem.W.Frag} {H : Hp} (n : Str) : ∀ {l : List (Key × V)} {rs : List Car}, cK l rs K H → cK (dropK l (Sum.inr n : Key)) (dropR rs n) K H
  | _, _, .nil => .nil
  | _, _, .cons (a := p) (b := q) (l₁ := ps) (l₂ := qs) h t => by
    have ih := cK_drop n t
    unfold dropK dropR at ih ⊢
    rw [List.filter_cons, List.filter_cons]
    by_cases e : q.1 = n
    · rw [if_neg (by simp [h.1, e]), if_neg (by simp [e])]; exact ih
    · rw [if_pos (by rw [h.1]; exact decide_eq_true (fun z => e (by injection z))), if_pos (by simp [e])]; exact .cons h ih
theorem cK_get {K : PySem.W.Frag} {H : Hp} {r : Car} : ∀ {l : List (Key × V)} {rs : List Car}, cK l rs K H → (rs.map (·.1)).Nodup → r ∈ rs → ∃ x, valV l (Sum.inr r.1 : Key) = some x ∧ CarV K H x r
  | _, _, .nil, _, h => nomatch h
  | _, _, .cons (a := p) (b := q) h t, n, hm => by
    rw [List.map_cons, List.nodup_cons] at n
    rcases List.mem_cons.mp hm with rfl | hm
    · exact ⟨_, valV_pos h.1, h.2⟩
    · obtain ⟨x, e, c⟩ := cK_get t n.2 hm
      refine ⟨x, ?_, c⟩
      rw [valV_neg]
      · exact e
      · intro z
        rw [h.1] at z
        injection z with z
        exact n.1 (z ▸ List.mem_map.mpr ⟨r, hm, rfl⟩)
theorem cK_keys {K : PySem.W.Frag} {H : Hp} : ∀ {l : List (Key × V)} {rs : List Car}, cK l rs K H → l.map (·.1) = rs.map fun r => (Sum.inr r.1 : Key)
  | _, _, .nil => rfl
  | _, _, .cons h t => by rw [List.map_cons, List.map_cons, cK_keys t, h.1]
theorem kvs_drop (k : Str × Str) : ∀ c : Caps, dropK (kvs c) (pK k) = kvs (dropP c k)
  | [] => rfl
  | f :: c => by
    have ih := kvs_drop k c
    unfold dropK dropP at ih ⊢
    unfold kvs at ih ⊢
    rw [List.map_cons, List.filter_cons, List.filter_cons]
    by_cases e : f.1 = k
    · rw [if_neg (by simp [e]), if_neg (by simp [e])]; exact ih
    · rw [if_pos (decide_eq_true (show ¬ pK f.1 = pK k from fun z => e (pK_inj z))), if_pos (by simp [e]), List.map_cons, ih]
theorem kvs_is (c : Caps) (k : Str × Str) : (valV (kvs c) (pK k)).isSome = decide (k ∈ c.map (·.1)) := by
  rw [← valV_any, kvs_any, Bool.eq_iff_iff, List.any_eq_true, decide_eq_true_iff, List.mem_map]
  constructor
  · rintro ⟨r, h, e⟩
    exact ⟨r, h, of_decide_eq_true e⟩
  · rintro ⟨r, h, e⟩
    exact ⟨r, h, decide_eq_true e⟩
/-! ### what is known behind edits -/
def CarQ (r : Car) : Prop := Nm r.1 ∧ Nf r.2.1 ∧ 1 ≤ r.2.2.1 ∧ r.2.2.1 ≤ 10 ^ 12 ∧ 0 ≤ r.2.2.2 ∧ r.2.2.2 ≤ 10 ^ 12
structure StQ (m : Nat) (c : Caps) (rs : List Car) : Prop where
  lc : c.length ≤ 40 + m
  lr : rs.length ≤ 24 + m
  cab : ∀ f ∈ c, Nf f.1.1 ∧ Nf f.1.2 ∧ 0 ≤ f.2 ∧ f.2 ≤ 10 ^ 12
  car : ∀ r ∈ rs, CarQ r
  keys : (c.map (·.1)).Nodup
  names : (rs.map (·.1)).Nodup
def EdQ : Ed → Prop
  | .cab s e v => Nf s ∧ Nf e ∧ 0 ≤ v ∧ v ≤ 10 ^ 12
  | .noc s e => Nf s ∧ Nf e
  | .car r => CarQ r
  | .nor n => Nm n
theorem put_keys {c : Caps} {k : Str × Str} {v : Int} (h : (c.map (·.1)).Nodup) : ((put c k v).map (·.1)).Nodup := by
  unfold put
  by_cases e : (c.any fun f => decide (f.1 = k)) = true
  · rw [if_pos e]
    have e1 : (c.map (fun f => if f.1 = k then (f.1, v) else f)).map (·.1) = c.map (·.1) := by
      rw [List.map_map]
      apply List.map_congr_left
      intro f _
      by_cases z : f.1 = k
      · simp [z]
      · simp [z]
    rw [e1]; exact h
  · rw [if_neg e, List.map_append, List.nodup_append]
    refine ⟨h, List.nodup_cons.mpr ⟨(fun z => nomatch z), List.nodup_nil⟩, fun y hy z hz => ?_⟩
    rw [List.mem_singleton.mp hz]
    rintro rfl
    obtain ⟨f, hf, ef⟩ := List.mem_map.mp hy
    exact e (List.any_eq_true.mpr ⟨f, hf, decide_eq_true ef⟩)
theorem put_len (c : Caps) (k : Str × Str) (v : Int) : (put c k v).length ≤ c.length + 1 := by
  unfold put
  split
  · rw [List.length_map]; omega
  · rw [List.length_append]; exact Nat.le_refl _
theorem mem_put {c : Caps} {k : Str × Str} {v : Int} {f : (Str × Str) × Int} (h : f ∈ put c k v) : f ∈ c ∨ f = (k, v) := by
  unfold put at h
  split at h
  · obtain ⟨g, hg, rfl⟩ := List.mem_map.mp h
    by_cases e : g.1 = k
    · rw [if_pos e, e]; exact .inr rfl
    · rw [if_neg e]; exact .inl hg
  · rcases List.mem_append.mp h with z | z
    · exact .inl z
    · exact .inr (List.mem_singleton.mp z)
theorem mem_putR {rs : List Car} {r q : Car} (h : q ∈ putR rs r) : q ∈ rs ∨ q = r := by
  unfold putR at h
  split at h
  · obtain ⟨g, hg, rfl⟩ := List.mem_map.mp h
    by_cases e : g.1 = r.1
    · rw [if_pos e]; exact .inr rfl
    · rw [if_neg e]; exact .inl hg
  · rcases List.mem_append.mp h with z | z
    · exact .inl z
    · exact .inr (List.mem_singleton.mp z)
theorem putR_len (rs : List Car) (r : Car) : (putR rs r).length ≤ rs.length + 1 := by
  unfold putR
  split
  · rw [List.length_map]; omega
  · rw [List.length_append]; exact Nat.le_refl _
theorem putR_names {rs : List Car} {r : Car} (h : (rs.map (·.1)).Nodup) : ((putR rs r).map (·.1)).Nodup := by
  unfold putR
  by_cases e : (rs.any fun q => decide (q.1 = r.1)) = true
  · rw [if_pos e]
    have e1 : (rs.map (fun q => if q.1 = r.1 then r else q)).map (·.1) = rs.map (·.1) := by
      rw [List.map_map]
      apply List.map_congr_left
      intro q _
      by_cases z : q.1 = r.1
      · simp [z]
      · simp [z]
    rw [e1]; exact h
  · rw [if_neg e, List.map_append, List.nodup_append]
    refine ⟨h, List.nodup_cons.mpr ⟨(fun z => nomatch z), List.nodup_nil⟩, fun y hy z hz => ?_⟩
    rw [List.mem_singleton.mp hz]
    rintro rfl
    obtain ⟨f, hf, ef⟩ := List.mem_map.mp hy
    exact e (List.any_eq_true.mpr ⟨f, hf, decide_eq_true ef⟩)
theorem StQ.step {m : Nat} {c c' : Caps} {rs rs' : List Car} {e : Ed} (h : StQ m c rs) (q : EdQ e) (k : stp (c, rs) e = .ok (c', rs')) : StQ (m + 1) c' rs' := by
  cases e with
  | cab s e v =>
    cases (show Except.ok (put c (s, e) v, rs) = Except.ok (c', rs') from k)
    refine ⟨Nat.le_trans (put_len c _ v) (by have := h.lc; omega), by have := h.lr; omega, fun f hf => ?_, h.car, put_keys h.keys, h.names⟩
    rcases mem_put hf with z | z
    · exact h.cab f z
    · rw [z]; exact q
  | noc s e =>
    have k : (if (s, e) ∈ c.map (·.1) then Except.ok (dropP c (s, e), rs) else .error (Er.cab s e)) = Except.ok (c', rs') := k
    split at k
    · cases k
      refine ⟨Nat.le_trans (List.length_filter_le _ _) (by have := h.lc; omega), by have := h.lr; omega, fun f hf => h.cab f (List.mem_filter.mp hf).1, h.car, ?_, h.names⟩
      exact h.keys.sublist (List.filter_sublist.map _)
    · cases k
  | car r =>
    cases (show Except.ok (c, putR rs r) = Except.ok (c', rs') from k)
    refine ⟨by have := h.lc; omega, Nat.le_trans (putR_len rs r) (by have := h.lr; omega), h.cab, fun p hp => ?_, h.keys, putR_names h.names⟩
    rcases mem_putR hp with z | z
    · exact h.car p z
    · rw [z]; exact q
  | nor n =>
    have k : (if n ∈ rs.map (·.1) then Except.ok (c, dropR rs n) else .error (Er.car n)) = Except.ok (c', rs') := k
    split at k
    · cases k
      refine ⟨by have := h.lc; omega, Nat.le_trans (List.length_filter_le _ _) (by have := h.lr; omega), h.cab, fun p hp => h.car p (List.mem_filter.mp hp).1, h.keys, ?_⟩
      exact h.names.sublist (List.filter_sublist.map _)
    · cases k
/-- a yard, its parts as dicts -/
def capsOf (cs : List Cab) : Caps := cs.map fun c => (ckey c, c.2.2)
theorem capsOf_keys (cs : List Cab) : (capsOf cs).map (·.1) = cs.map ckey := by unfold capsOf; rw [List.map_map]; rfl
/-- .. made a yard again -/
structure Res (c : Caps) (rs : List Car) (cs' : List Cab) (rs' : List Car) : Prop where
  srt : cs'.map ckey = (c.map (·.1)).mergeSort (PySem.W.dataLe false pD)
  cab : ∀ x ∈ cs', (ckey x, x.2.2) ∈ c
  rise : sortedS (rs'.map (·.1)) = true
  perm : rs'.Perm rs
structure YardQ (m : Nat) (cs : List Cab) (rs : List Car) : Prop where
  lc : cs.length ≤ 40 + m
  lr : rs.length ≤ 24 + m
  cab : ∀ c ∈ cs, Nf c.1 ∧ Nf c.2.1 ∧ 0 ≤ c.2.2 ∧ c.2.2 ≤ 10 ^ 12
  car : ∀ r ∈ rs, CarQ r
  keys : (cs.map ckey).Nodup
  names : (rs.map (·.1)).Nodup
theorem YardP.q {cs : List Cab} {rs : List Car} (h : YardP cs rs) (m : Nat) : YardQ m cs rs := ⟨by have := h.lc; omega, by have := h.lr; omega, h.cab, h.car, h.keys, h.names⟩
theorem YardQ.st {m : Nat} {cs : List Cab} {rs : List Car} (h : YardQ m cs rs) : StQ m (capsOf cs) rs := by
  refine ⟨by unfold capsOf; rw [List.length_map]; exact h.lc, h.lr, fun f hf => ?_, h.car, by rw [capsOf_keys]; exact h.keys, h.names⟩
  obtain ⟨c, hc, rfl⟩ := List.mem_map.mp hf
  exact h.cab c hc
theorem Res.q {m : Nat} {c : Caps} {rs rs' : List Car} {cs' : List Cab} (h : StQ m c rs) (r : Res c rs cs' rs') : YardQ m cs' rs' := by
  have pm := List.mergeSort_perm (c.map (·.1)) (PySem.W.dataLe false pD)
  refine ⟨?_, by rw [r.perm.length_eq]; exact h.lr, fun x hx => h.cab _ (r.cab x hx), fun q hq => h.car q (r.perm.mem_iff.mp hq), by rw [r.srt]; exact pm.nodup_iff.mpr h.keys, (r.perm.map _).nodup_iff.mpr h.names⟩
  have := congrArg List.length r.srt
  rw [List.length_map, pm.length_eq, List.length_map] at this
  rw [this]; exact h.lc
theorem key_val {c : Caps} (n : (c.map (·.1)).Nodup) {k : Str × Str} {u v : Int} (h : (k, u) ∈ c) (g : (k, v) ∈ c) : u = v := by
  have e := (kvs_get n h).symm.trans (kvs_get n g)
  injection e with e
  injection e
theorem same_names : ∀ {as bs : List Car}, (∀ x ∈ as, ∀ y ∈ bs, x.1 = y.1 → x = y) → as.map (·.1) = bs.map (·.1) → as = bs
  | [], [], _, _ => rfl
  | [], _ :: _, _, e => by cases e
  | _ :: _, [], _, e => by cases e
  | a :: as, b :: bs, h, e => by
    rw [List.map_cons, List.map_cons] at e
    injection e with e1 e2
    rw [h a List.mem_cons_self b List.mem_cons_self e1, same_names (fun x hx y hy => h x (List.mem_cons_of_mem _ hx) y (List.mem_cons_of_mem _ hy)) e2]
theorem same_keys : ∀ {as bs : List Cab}, (∀ x ∈ as, ∀ y ∈ bs, ckey x = ckey y → x = y) → as.map ckey = bs.map ckey → as = bs
  | [], [], _, _ => rfl
  | [], _ :: _, _, e => by cases e
  | _ :: _, [], _, e => by cases e
  | a :: as, b :: bs, h, e => by
    rw [List.map_cons, List.map_cons] at e
    injection e with e1 e2
    rw [h a List.mem_cons_self b List.mem_cons_self e1, same_keys (fun x hx y hy => h x (List.mem_cons_of_mem _ hx) y (List.mem_cons_of_mem _ hy)) e2]
theorem names_in {rs : List Car} (n : (rs.map (·.1)).Nodup) : ∀ {x y : Car}, x ∈ rs → y ∈ rs → x.1 = y.1 → x = y := by
  induction rs with
  | nil => intro x y h; cases h
  | cons r rs ih =>
    rw [List.map_cons, List.nodup_cons] at n
    intro x y hx hy e
    rcases List.mem_cons.mp hx with ex | gx
    · rcases List.mem_cons.mp hy with ey | gy
      · rw [ex, ey]
      · exact (n.1 (by rw [← ex, e]; exact List.mem_map.mpr ⟨y, gy, rfl⟩)).elim
    · rcases List.mem_cons.mp hy with ey | gy
      · exact (n.1 (by rw [← ey, ← e]; exact List.mem_map.mpr ⟨x, gx, rfl⟩)).elim
      · exact ih n.2 gx gy e
theorem Res.uniq {m : Nat} {c : Caps} {rs rs1 rs2 : List Car} {cs1 cs2 : List Cab} (h : StQ m c rs) (a : Res c rs cs1 rs1) (b : Res c rs cs2 rs2) : cs1 = cs2 ∧ rs1 = rs2 := by
  refine ⟨same_keys (fun x hx y hy e => ?_) (a.srt.trans b.srt.symm), same_names (fun x hx y hy e => names_in h.names (a.perm.mem_iff.mp hx) (b.perm.mem_iff.mp hy) e) ?_⟩
  · have v := key_val h.keys (a.cab x hx) (e ▸ b.cab y hy)
    obtain ⟨x1, x2, x3⟩ := x
    obtain ⟨y1, y2, y3⟩ := y
    injection e with e1 e2
    cases e1
    cases e2
    cases (show x3 = y3 from v)
    rfl
  · exact sorted_one a.rise b.rise ((a.perm.trans b.perm.symm).map _)
end Y

/-! NsX: own exceptions as values: made, their fields read, asked by isinstance; a try whose second clause takes what is raised. -/
namespace Ns
open PySem PySem.Spec PyProof.Rows L2

/-- an exception of the class at C stands at a, its own dict (if it has one) holds fs -/
def ExAt (H : Hp) (a C : Addr) (fs : List (Str × V)) : Prop := (fs = [] ∧ H a = some (exo a C none)) ∨ ∃ d, H a = some (exo a C (some d)) ∧ H d = some (exd d fs)
theorem ExAt.more {H H' : Hp} {a C : Addr} {fs : List (Str × V)} (h : ExAt H a C fs) (m : Same H H') : ExAt H' a C fs :=
  h.imp (fun z => ⟨z.1, m _ _ z.2⟩) fun ⟨d, z1, z2⟩ => ⟨d, m _ _ z1, m _ _ z2⟩
/-- C(e, ..) as a value -/
def tOexV (C : Addr) (sp : Sp) (ta : TA) : TE := fun σ H Q => ta σ H fun as H1 => as.length ≤ 1000 ∧ ∀ a, H1 a = none → sp (.ref a :: as) (upd H1 a (exo a C none)) (fun v H2 => v = .non ∧ Q (.ref a) H2) E0
section
variable {X : Cx} {e : Expr} {es : List Expr} {ta : TA} {te : TE} {x : Str} {p pos : Pos}
theorem pe_oexV {C fI : Addr} {k : Nat} {fd : FuncData} {ps : List Str} {sp : Sp} (T : OexC X.K C) (iC : PySem.W.findIn X.K (.ref C) "__init__" = some (some (.ref fI))) (tI : PySem.W.typeIn X.K (.ref fI) = some (.type "function"))
    (F1 : FnOk X.prog X.w X.K X.mg X.base CX0 k fI fd ps sp) (hr : Room (k + 1) X.A) (hb : Binds X.K fd ps []) (hg : Gl X x) (hm : X.mg x = some (.ref C)) (ha : PA X (e :: es) ta)
    (hdb : (x == ("__debug__" : Str)) = false := by decide) (he : starEach (e :: es) X.env = (false, eval e X.env) :: starEach es X.env := by rfl) (hpl : (backTo pos (starEach es X.env)).any (·.1) = false := by rfl) :
    PE X (.Call (.Name x p) (e :: es) [] pos) (tOexV C sp ta) := by
  refine ⟨fun pins s σ H Q I h => wpAny_Call_Name_kw (ld_glob I hg hm (PySem.W.callWith_K (h₀ := X.base) I.ok.mod.kin T.kC (thn (ha.run pos pins s σ H _ I h) fun us s1 hq => ?_) he hpl) hdb)⟩
  obtain ⟨as, H1, I1, r1, hz, q1⟩ := hq
  refine ⟨I1.kIn, ?_⟩
  obtain ⟨nm, q, N, bs, bm, sn, sub, ab, col, dd, k0, k1, k2, k3, k5, hC, hbm⟩ := T.cls
  obtain ⟨hp, g, dr, tk, os⟩ := s1
  have h9 := q1 (hp.objs.size + 1) (I1.hok.fresh (Nat.le_succ _))
  have old : ∀ b o, hp.get? b = some o → ((hp.push (PySem.W.kdv_tup us)).push (PySem.HandSPX.excO C hp.objs.size)).get? b = some o := fun b o z => Heap.get?_push_of_some _ (Heap.get?_push_of_some _ z)
  have new : ((hp.push (PySem.W.kdv_tup us)).push (PySem.HandSPX.excO C hp.objs.size)).get? (hp.objs.size + 1) = some (PySem.HandSPX.excO C hp.objs.size) := by heap_get
  have J := I1.laid (t' := tk) (a := hp.objs.size + 1) (o := exo (hp.objs.size + 1) C none) old (Nat.le_succ _) (exo_ok new)
  have rr : Vals (V.ref (hp.objs.size + 1) :: as) (Value.ref (hp.objs.size + 1) :: us) := .cons rfl r1
  have ll : (Value.ref (hp.objs.size + 1) :: us).length = ps.length := rr.length.symm.trans (F1.len _ _ _ _ h9)
  have bb := hb ⟨(hp.push (PySem.W.kdv_tup us)).push (PySem.HandSPX.excO C hp.objs.size), g, dr, tk, os⟩ (Value.ref (hp.objs.size + 1) :: us) J.kIn (by rw [List.append_nil]; exact ll)
  rw [List.append_nil] at bb
  have us9 : us.length ≤ sizeLine := by
    rw [← Paired.length r1, sizeLine_eq]
    omega
  have run := F1.run (X.A.under (.builtin "type.__call__" ⟨.ref C :: us, []⟩)) X.stack _ _ ⟨Value.ref (hp.objs.size + 1) :: us, []⟩ _ _ _ E0 (hr.make C us []) (J.env0.make C us []) bb rr h9
  refine wpAny_call (PySem.HandSPX.call_own F.excBase_ValueError (fun Y => PySem.HandSPX.refsVE_contains Y bm hbm) (I1.kIn _ _ hC) (PySem.W.looks_findIn I1.kIn iC) (fun self => PySem.W.bind_fn I1.kIn self tI) us9 (codeAny_mono run fun r s' hs => ?_))
  match r, hs with
  | .error _, hs => exact (show False from hs).elim
  | .ok .next, hs => exact (show False from hs).elim
  | .ok .brk, hs => exact (show False from hs).elim
  | .ok .cont, hs => exact (show False from hs).elim
  | .ok (.ret u), hs =>
    obtain ⟨v, H2, J2, rv, ev, q2⟩ := J.after hs
    rw [ev] at rv
    exact ⟨rv, ⟨.ref (hp.objs.size + 1), H2, J2, rfl, q2⟩⟩
/-- C(), without an __init__ of its own -/
theorem pe_oex0 {C : Addr} {bmB : List Value} {B newId initId : String} (F : ExcBaseFacts B newId initId bmB) (q : PySem.W.excIn X.K C bmB newId = true) (kC : PySem.W.keepIn X.K (.ref C) = true) (hg : Gl X x) (hm : X.mg x = some (.ref C))
    (hdb : (x == ("__debug__" : Str)) = false := by decide) : PE X (.Call (.Name x p) [] [] pos) (fun _ H Q => ∀ a, H a = none → Q (.ref a) (upd H a (exo a C none))) := by
  refine ⟨fun pins s σ H Q I h => wpAny_Call_Name_kw (ld_glob I hg hm (PySem.W.callWith_K0 I.kIn kC ?_) hdb)⟩
  obtain ⟨bm, N, nm, qn, bs, hdct, sn, sub, ab, col, dd, k0, k1, k2, k3, k5, mN, hC, hN, hni, T⟩ := exc_obj I.kIn q
  refine wpAny_call_exc_subT (rest := []) F T hC hN hni (fun h' a hm => ?_) (Nat.zero_le _)
  have hn : H a = none := I.hok.gone hm.new
  obtain ⟨t, ht, _⟩ := hm.there
  exact ⟨.ref a, upd H a (exo a C none), I.laidN hm.keeps hm.new hn (exo_ok ht), rfl, h a hn⟩
/-- e.f of an exception -/
def tExF (K : PySem.W.Frag) (f : Str) (te : TE) : TE := fun σ H Q => te σ H fun x H1 => ∃ a C fs v, x = .ref a ∧ ExAt H1 a C fs ∧ XfC K C ∧ PySem.W.findIn K (.ref C) f = some none ∧ fs.lookup f = some v ∧ Q v H1
theorem pe_exF {f : Str} (he : PE X e te) (hb : attributeBase e f X.env (eval e X.env) = eval e X.env := by rfl) : PE X (.Attribute e f pos) (tExF X.K f te) := by
  refine ⟨fun pins s σ H Q I h => attr_of hb (thn (he.run pins s σ H _ I h) fun u s1 hh => ?_)⟩
  obtain ⟨x, H1, I1, rx, a, C, fs, v, rfl, hA, T, hno, hl, q⟩ := hh
  cases (show u = Value.ref a from rx)
  rcases hA with ⟨rfl, _⟩ | ⟨d, ea, ed⟩
  · cases hl
  · obtain ⟨t1, ho⟩ := exo_at I1.hok ea
    obtain ⟨mA, hns, hr⟩ := exd_at I1.hok ed
    obtain ⟨od, hod, look⟩ := lookIn_ns hns
    have rv := hr f
    rw [hl] at rv
    obtain ⟨u, hu, ru⟩ := RelO.some_of rv
    have J : PySem.W.InstAt s1.heap a _ C (some od) := ⟨ho, rfl, rfl, hod⟩
    exact HandSPX.exc_get I1.kIn J T.ga T.gg T.exC (PySem.W.findObj_own T.hdC hno rfl (by rw [look, hu])) (handed_of ru) ⟨v, H1, I1.tok _, ru, q⟩
end
end Ns

/-! NsY: isinstance of an exception that is held as a value. -/
namespace Ns
open PySem PySem.Spec PySem.Calls PyProof.Rows PySem.W
section
variable {prog : Program} {w : World} {A : Around} {E : Value → Shared → Prop} {s : Shared} {K : Frag} {x D : Addr} {ox : Obj} {od : Option Obj}
theorem find_class {C : Addr} {a g : Value} {name : Str} (hc : (clsIn K C).isSome = true) (h1 : findIn K (.ref C) name = some (some a)) (h2 : specialIn K a "__get__" = some (some g)) (h3 : takesIn K a = some true) : findObj K C od name = some (.bind g a) := by
  cases od with
  | none => exact findObj_dataN hc h1 h2 h3
  | some o => exact findObj_data hc h1 h2 h3
/-- x.__class__ of an exception, with or without a dict of its own -/
theorem class_of {Q : Option Value → Shared → Prop} (c : L2.ExcC K D) (kin : K.In s.heap) (J : InstAt s.heap x ox D od) (hq : Q (some (.ref D)) { s with toks := s.toks + 1 }) : wpAny (model prog w) A (getAttr? (.ref x) "__class__") Q E s := by
  have has : (clsIn K D).isSome = true := by
    obtain ⟨cd, e, _⟩ := any_some c.hd
    rw [e]
    rfl
  have fd : findObj K D od "__class__" = some (.bind (.builtin "getset_descriptor.__get__") (.builtin "object.__class__")) := find_class has c.ha c.hn c.ht
  obtain ⟨hp, g, dr, tk, os⟩ := s
  have ty := J.type (M := model prog w)
  have lk := looks_find (M := model prog w) kin J fd
  have ga := looks_findIn (M := model prog w) kin c.hg
  have gt := looks_findIn (M := model prog w) kin c.hk
  have is : Looks (model prog w) hp (isInstance (.ref x) (.type "BaseException")) true := ty.andThen (looks_subIn kin c.hs)
  have b1 : (false && onTheHeap (Value.builtin "BaseException.__getattribute__")) = false := rfl
  have b3 : (Value.builtin "BaseException.__getattribute__" == Value.builtin "object.__getattribute__") = false := by decide +kernel
  have b2 : (onTheHeap (Value.ref D) && Value.builtin "BaseException.__getattribute__" == Value.builtin "object.__getattribute__") = false := (congrArg (onTheHeap (Value.ref D) && ·) b3).trans rfl
  unfold getAttr? getAttrBy? getAttrBy
  refine wpAny_bind (wpAny_mkText (wpAny_bind (wpAny_attempt (wpAny_holding (wpAny_bind (ty.at (wpAny_bind (ga.at ?_))))))))
  show wpAny _ _ (if (onTheHeap (Value.ref D) && Value.builtin "BaseException.__getattribute__" == Value.builtin "object.__getattribute__") = true then _ else _) _ _ ⟨hp, g, dr, tk + 1, os⟩
  rw [if_neg (show ¬ (onTheHeap (Value.ref D) && Value.builtin "BaseException.__getattribute__" == Value.builtin "object.__getattribute__") = true from fun z => by rw [b2] at z; exact Bool.noConfusion z)]
  unfold getAttrByItsOwn hookBefore
  refine wpAny_bind ((if_pos (show onTheHeap (Value.ref D) = true from rfl)).symm ▸ gt.at (wpAny_bind (wpAny_attempt (wpAny_holding ?_))))
  unfold callGetattribute
  rw [if_neg (show ¬ (false && onTheHeap (Value.builtin "BaseException.__getattribute__")) = true from fun z => by rw [b1] at z; exact Bool.noConfusion z)]
  unfold boundAndCalled
  rw [PySem.F.excAttr_ValueError.ga.bind (.ref x)]
  refine wpAny_bind (wpAny_pure (wpAny_call (codeAny_call_builtin PySem.F.excAttr_ValueError.ga.plain PySem.F.entry_bexc_ga
    (@check_slot (model prog w) _ _ ⟨hp, g, dr, tk + 1, os⟩ "BaseException.__getattribute__" "BaseException" "__getattribute__" (.ref x) [.str "__class__" tk] [] _ (by decide +kernel) (by decide +kernel) is (PySem.F.args_bexc_ga (.ref x) (.str "__class__" tk)) ?_))))
  unfold Builtin.«object.__getattribute__»
  refine wpAny_bind (wpAny_of_eq (a := ((Value.ref x : Value), [Value.str "__class__" tk])) (by first | rfl | (simp only [slotArgs]; rfl)) (wpAny_bind (wpAny_pure (wpAny_bind (ty.at (wpAny_bind (lk.at ?_)))))))
  show wpAny _ _ (holding [Value.builtin "object.__class__"] (call (.builtin "getset_descriptor.__get__") [.builtin "object.__class__", .ref x, .ref D]) >>= ret) _ _ ⟨hp, g, dr, tk + 1, os⟩
  refine wpAny_bind (wpAny_holding (wpAny_call (class_get (s := ⟨hp, g, dr, tk + 1, os⟩) (ox := ox) (od := od) kin J c.hm (wpAny_pure ?_))))
  show wpAny _ _ (handedOut (.ref D)) _ _ ⟨hp, g, dr, tk + 1, os⟩
  rw [handedOut_of (v := .ref D) rfl]
  first
    | exact wpAny_pure (wpAny_pure hq)
    | exact wpAny_pure hq
    | exact wpAny_pure (wpAny_bind (wpAny_pure (wpAny_pure hq)))
/-- the class's own object -/
theorem cls_obj (hd : hasDictIn K D = true) : ∃ o cd, K.lookup D = some o ∧ o.data = .cls cd := by
  obtain ⟨cd, e, _⟩ := any_some hd
  unfold clsIn at e
  split at e
  · rename_i c' d' k' s' q
    exact ⟨_, k', q, rfl⟩
  · exact nomatch e
theorem kx_exc (c : L2.ExcC K D) : KitX K (.ref x) (.ref D) (fun h => InstAt h x ox D od) where
  ty _ _ _ J := J.type
  it M h kin _ := by
    obtain ⟨o, cd, q, dq⟩ := cls_obj c.hd
    intro A' Q' E' s' k hq
    unfold isType loadHead
    refine wpAny_bind (wpAny_loadPart (k D o (kin D o q)) (wpAny_pure ?_))
    rw [dq]
    exact hq
  ne h tp dd its n sl kin z := by
    cases e : (Value.ref D == .ref tp) with
    | false => rfl
    | true =>
      obtain ⟨o, cd, q, dq⟩ := cls_obj c.hd
      have e' : D = tp := Value.ref.inj (beq_iff_eq.mp e)
      have y := kin D o q
      rw [e', z] at y
      cases y
      cases dq
  ca kin J q := class_of c kin J q
end
end Ns
namespace Ns
open PySem PySem.Spec PyProof.Rows L2
/-- isinstance(e, c), e an exception that is held -/
def rIsX (K : PySem.W.Frag) : List V → Hp → VK → Prop := fun xs H Q => ∃ (a C : Addr) (fs : List (Str × V)) (c : V) (cv : Value) (b : Bool), xs = [.ref a, c] ∧ ExAt H a C fs ∧ ExcC K C ∧ ClsV c cv ∧ PySem.W.kitOne K (.ref C) cv = some b ∧ Q (.bl b) H
theorem call_isX {X : Cx} : CallR X (.builtin "isinstance") (rIsX X.K) := by
  intro pins s σ H xs us Q I r h
  obtain ⟨a, C, fs, c, cv, b, rfl, hA, T, k, e, q⟩ := h
  obtain ⟨u1, u2, rfl, r1, r2⟩ := vals2 r
  cases (show u1 = Value.ref a from r1)
  have e2 := k.eq r2
  rw [e2]
  obtain ⟨ox, od, J⟩ : ∃ ox od, PySem.W.InstAt s.heap a ox C od := by
    rcases hA with ⟨_, ea⟩ | ⟨d, ea, ed⟩
    · obtain ⟨t1, ho⟩ := exo_at I.hok ea
      exact ⟨_, none, ho, rfl, rfl, trivial⟩
    · obtain ⟨t1, ho⟩ := exo_at I.hok ea
      obtain ⟨mA, ⟨od, es, ep, hod, rr⟩, _⟩ := exd_at I.hok ed
      exact ⟨_, some od, ho, rfl, rfl, hod⟩
  exact PySem.W.kia_one (kx_exc T) I.kIn J e (fun z => nomatch z) fun tk => ⟨.bl b, H, I.kept (t' := tk) fun _ _ z => z, rfl, q⟩
end Ns

/-! NsT: try .. except A: .. except B as e: suite, where what is raised is taken by B. -/
namespace Ns
open PySem PySem.Spec PyProof.Rows L2
def wTwo (K : PySem.W.Frag) (c1 c2 : Value) (i : Nat) (ts : Addr → Value → Option Addr → TS) (D : Ends) : WX := fun cls d σ H => PySem.W.exmOne K cls c1 = some false ∧ PySem.W.exmOne K cls c2 = some true ∧
  ∀ a, H a = none → ts a cls d { nx := fun σ' H' => D.nx (σ'.set i none) H', rt := D.rt, bk := fun σ' H' => D.bk (σ'.set i none) H', ct := fun σ' H' => D.ct (σ'.set i none) H' } (σ.set i (some (.ref a))) H
section
variable {X : Cx} {x1 x2 n : Str} {c1 c2 : Value} {i : Nat} {body suite1 suite : List Stmt} {b1 b2 : Stmt} {p1 p2 p3 p4 pos : Pos} {tb : WX → TS} {ts : Addr → Value → Option Addr → TS}
theorem ps_try_two (hs : X.stack = X.env :: X.outer) (hf : X.env.frame = some X.env.locals) (hN : X.N.Nodup) (hi : X.N[i]? = some n) (hln : X.env.kindOf n = some .local) (hc1 : Names X x1 c1) (hc2 : Names X x2 c2)
    (hb : ∀ (W : WX) (pn : List (Addr × Obj)) (xe : Value → Shared → Prop), Takes (X.tr pn xe) W → PassesOwn (model X.prog X.w) X.A X.env xe → PSs (X.tr pn xe) body (tb W))
    (hsu : ∀ (a : Addr) (oe : Obj) (cls : Value) (d : Option Addr) (pn : List (Addr × Obj)), Zc cls d oe → (∃ vs, oe.data = .fields vs) → PSs (X.suite a ((a, oe) :: pn)) (b2 :: suite) (ts a cls d)) :
    PS X (.Try body [.ExceptHandler (some (.Name x1 p1)) none (b1 :: suite1) p2, .ExceptHandler (some (.Name x2 p3)) (some n) (b2 :: suite) p4] [] [] pos) (fun D σ H => tb (wTwo X.K c1 c2 i ts D) D σ H) := by
  refine ⟨fun pins s σ H D I h => wpAny_Try_except ?_⟩
  have fr : X.A.frames = some (X.env :: X.outer) := hs ▸ I.ok.frames
  have R := hb (wTwo X.K c1 c2 i ts D) (X.pn ++ pins) (fun e s₁ => wpAny (model X.prog X.w) X.A (noteFrame e X.env) (fun _ s₂ => wpAny (model X.prog X.w) X.A (setFlight e none) (fun _ s₃ => wpAny (model X.prog X.w) X.A
    (handleBy e X.env [.ExceptHandler (some (.Name x1 p1)) none (b1 :: suite1) p2, .ExceptHandler (some (.Name x2 p3)) (some n) (b2 :: suite) p4]) (SP X pins D) X.xe s₃) X.xe s₂) X.xe s₁) ?_ PassesOwn.looking
  · refine wpAny_mono (R.run [] s σ H D (I.toTry _) h) (fun f s1 q => ?_) fun e s1 q => q
    match f, q with
    | .next, ⟨σ', H', J, q⟩ => exact wpAny_execs_nil ⟨σ', H', J.ofTry I.ok, q⟩
    | .brk, ⟨σ', H', J, q⟩ => exact ⟨σ', H', J.ofTry I.ok, q⟩
    | .cont, ⟨σ', H', J, q⟩ => exact ⟨σ', H', J.ofTry I.ok, q⟩
    | .ret u, ⟨v, σ', H', J, r, q⟩ => exact ⟨v, σ', H', J.ofTry I.ok, r, q⟩
  · rintro u s' ⟨a, B, sI, pins', σ', H', cls, d, rfl, J', nb, up, sky, na, os, ag, w1, w2, w3⟩
    have J : Inv X pins σ' H' sI := J'.ofTry I.ok
    show wpAny (model X.prog X.w) X.A (noteFrame (.ref a) X.env) _ _ s'
    refine Sky.land Zc.steady fr hf (show Sky B (X.env :: X.outer) a (Zc cls d) X.env.locals s'.heap from hs ▸ sky) fun h3 fl up3 => ?_
    obtain ⟨oe, vs, he, hz, hd⟩ := fl.there
    have out : a ∉ frs (X.env :: X.outer) := fun hm => by
      obtain ⟨_, o2, e2, nf⟩ := fl.2.2.1.mem hm
      cases he.symm.trans e2
      exact nf _ hd
    have nl : a ≠ X.env.locals := fun z => out (List.mem_filterMap.mpr ⟨X.env, .head _, by rw [hf, z]⟩)
    have nf : a ∉ X.fs := fun hm => by
      obtain ⟨ev, h1, h2⟩ := List.mem_filterMap.mp hm
      exact out (List.mem_filterMap.mpr ⟨ev, .tail _ h1, h2⟩)
    have J3 : Inv X pins σ' H' { s' with heap := h3 } := J.landed nb fl.1 (up.trans up3) os ag
    have S3 := J3.suite he hd na nl nf
    have ty : PySem.W.Looks (model X.prog X.w) h3 (typeOf (.ref a)) cls := fun A Q E s k q => wpAny_typeOf_ref (k a oe he) (by rw [hz.1]; exact q)
    have ask : ∀ {x : Str} {c : Value} {np : Pos}, Names X x c → ∀ {Q : Value → Shared → Prop} {E : Value → Shared → Prop}, Q c { s' with heap := h3 } → wpAny (model X.prog X.w) (X.A.mark (some (.ref a))) (eval (.Name x np) X.env) Q E { s' with heap := h3 } := by
      rintro x c np ⟨hg, db, hm | ⟨hm, hv, nn⟩⟩ Q E q
      · exact ld_glob (X := X.suite a ((a, oe) :: (X.pn ++ pins))) S3 hg hm q db
      · exact ld_blt (X := X.suite a ((a, oe) :: (X.pn ++ pins))) S3 hg hm hv q nn db
    -- the first clause declines
    refine wpAny_handleBy_cons (codeAny_handlers_test (ask hc1 ((PySem.W.exm_one (M := model X.prog X.w) J3.kIn ty w1).here ?_))) (fun z => nomatch z)
    show wpAny _ X.A (handleBy (.ref a) X.env [.ExceptHandler (some (.Name x2 p3)) (some n) (b2 :: suite) p4]) _ _ { s' with heap := h3 }
    -- the second one takes it
    refine wpAny_handleBy_cons (codeAny_handlers_test (ask hc2 ((PySem.W.exm_one (M := model X.prog X.w) J3.kIn ty w2).here (codeAny_handlers_suite_as (HandSPX.lands_againZ fl fun h4 fl4 up4 => ?_))))) (fun z => nomatch z)
    obtain ⟨oe4, vs4, he4, hz4, hd4⟩ := fl4.there
    have J4 : Inv X pins σ' H' { s' with heap := h4 } := J.landed nb fl4.1 ((up.trans up3).trans up4) os ag
    have S4 := J4.suite he4 hd4 na nl nf
    refine store_ok (X := X.suite a ((a, oe4) :: (X.pn ++ pins))) (v := .ref a) S4 hN hi (.inl hln) rfl (fun s5 S5 => ?_) (.inr hln)
    refine wpAny_mono ((hsu a oe4 cls d (X.pn ++ pins) hz4 ⟨_, hd4⟩).run [] s5 _ H' _ S5 (w3 a na)) (fun f s6 q => ?_) fun _ _ z => (show False from z).elim
    match f, q with
    | .next, ⟨σ6, H6, S6, q6⟩ => exact gone_ok (S6.unsuite I.ok) hN hi hln fun s7 J7 => ⟨_, _, J7, q6⟩
    | .brk, ⟨σ6, H6, S6, q6⟩ => exact gone_ok (S6.unsuite I.ok) hN hi hln fun s7 J7 => ⟨_, _, J7, q6⟩
    | .cont, ⟨σ6, H6, S6, q6⟩ => exact gone_ok (S6.unsuite I.ok) hN hi hln fun s7 J7 => ⟨_, _, J7, q6⟩
    | .ret u, ⟨v6, σ6, H6, S6, r6, q6⟩ => exact gone_ok (S6.unsuite I.ok) hN hi hln fun s7 J7 => ⟨_, _, _, J7, r6, q6⟩
end
end Ns

/-! OX: the program's dicts of a yard; what takes away, and raises. -/
namespace Y
open PySem PySem.Spec PyProof.Rows L2 Ns
/-- a class of the program's errors with an __init__ of its own -/
structure ErI (K : PySem.W.Frag) (mg : Str → Option Value) (name qual : Str) (st : Stmt) (ps : List Str) (C fI : Addr) (fd : FuncData) : Prop where
  oex : OexC K C
  xf : XfC K C
  g : mg name = some (.ref C)
  iC : PySem.W.findIn K (.ref C) "__init__" = some (some (.ref fI))
  tI : PySem.W.typeIn K (.ref fI) = some (.type "function")
  F : Fun K "__init__" qual st fI fd
  b : Binds K fd ps []
def spI (C : Addr) (f : Str) : Sp := fun as H Q _ => ∃ (a : Addr) (y : V), as = [.ref a, y] ∧ H a = some (exo a C none) ∧ ∀ dx, H dx = none → dx ≠ a → Q .non (upd (upd H dx (exd dx [(f, y)])) a (exo a C (some dx)))
def spI2 (C : Addr) (f g : Str) : Sp := fun as H Q _ => ∃ (a : Addr) (y z : V), as = [.ref a, y, z] ∧ H a = some (exo a C none) ∧ ∀ dx, H dx = none → dx ≠ a → Q .non (upd (upd (upd H dx (exd dx [(f, y)])) a (exo a C (some dx))) dx (exd dx [(g, z), (f, y)]))
theorem lk1 {f : Str} {y : V} {fs : List (Str × V)} : List.lookup f ((f, y) :: fs) = some y := by rw [lookup_put, if_pos rfl]
theorem lk2 {f g : Str} {y : V} {fs : List (Str × V)} (h : ¬ f = g) : List.lookup f ((g, y) :: fs) = List.lookup f fs := by rw [lookup_put, if_neg h]
theorem same_raise {H H' : Hp} {a d : Addr} {u : HO} (ha : H a = none) (hd : H d = none) (h : ∀ c, c ≠ a → c ≠ d → H' c = H c) : Same H (upd (L2.del H' a) d u) := fun c o e => by
  have n1 := ne_of_none e ha
  have n2 := ne_of_none e hd
  rw [upd_ne n2, del_ne n1, h c n1 n2]
  exact e
theorem free2 {H : Hp} {a d : Addr} {u : HO} (h : upd H a u d = none) (n : d ≠ a) : H d = none := (upd_ne n).symm.trans h
abbrev sNoCar : Stmt := inClass (top 2) 0
abbrev sNoCable : Stmt := inClass (top 3) 0
section
variable {P : Program} {w : World} {K : PySem.W.Frag} {mg : Str → Option Value} {base : Heap}
theorem scNoCar : FnScope ["self", "name"] ["self", "name"] (defScope sNoCar) := ⟨rfl, rfl, rfl, by decide +kernel, rfl, by decide +kernel, by decide +kernel⟩
theorem init_NoCar {C fI : Addr} {fd : FuncData} (T : ErI K mg "NoCar" "NoCar.__init__" sNoCar ["self", "name"] C fI fd) (no : PySem.W.findIn K (.ref C) "name" = some none) : FnOk P w K mg base CX0 1 fI fd ["self", "name"] (spI C "name") := by
  refine T.F.ok scNoCar (fun as H Q E h => ?_) (fun cdv A outer s H as Q E hr h => ?_)
  · obtain ⟨a, y, rfl, _⟩ := h
    rfl
  · obtain ⟨a, y, rfl, ha, k⟩ := h
    exact ⟨_, pss_one (ps_ost (pv 0) (pv 1)), _, rfl, _, rfl, a, C, rfl, T.oex, no, .inl ⟨ha, fun dx h1 h2 => k dx h1 h2⟩⟩
theorem scNoCable : FnScope ["self", "start", "end"] ["self", "start", "end"] (defScope sNoCable) := ⟨rfl, rfl, rfl, by decide +kernel, rfl, by decide +kernel, by decide +kernel⟩
theorem init_NoCable {C fI : Addr} {fd : FuncData} (T : ErI K mg "NoCable" "NoCable.__init__" sNoCable ["self", "start", "end"] C fI fd) (no : PySem.W.findIn K (.ref C) "start" = some none) (no2 : PySem.W.findIn K (.ref C) "end" = some none) : FnOk P w K mg base CX0 1 fI fd ["self", "start", "end"] (spI2 C "start" "end") := by
  refine T.F.ok scNoCable (fun as H Q E h => ?_) (fun cdv A outer s H as Q E hr h => ?_)
  · obtain ⟨a, y, z, rfl, _⟩ := h
    rfl
  · obtain ⟨a, y, z, rfl, ha, k⟩ := h
    refine ⟨_, pss_cons (ps_ost (pv 0) (pv 1)) (pss_one (ps_ost (pv 0) (pv 2))), _, rfl, _, rfl, a, C, rfl, T.oex, no, .inl ⟨ha, fun dx h1 h2 => ?_⟩⟩
    exact ⟨_, rfl, _, rfl, a, C, rfl, T.oex, no2, .inr ⟨dx, _, upd_same, by rw [upd_ne h2, upd_same], by show 1 ≤ 900; decide, k dx h1 h2⟩⟩
/-- what they raise -/
def Thrown (cC cB : Addr) (E : XK) (H : Hp) : Er → Prop
  | .cab s e => ∀ (dx : Addr) (H' : Hp), H' dx = some (.xd [("end", .str e), ("start", .str s)]) → Same H H' → E (.ref cB) (some dx) H'
  | .car n => ∀ (dx : Addr) (H' : Hp), H' dx = some (.xd [("name", .str n)]) → Same H H' → E (.ref cC) (some dx) H'
theorem Thrown.more {cC cB : Addr} {E : XK} {H H' : Hp} {x : Er} (m : Same H H') (h : Thrown cC cB E H x) : Thrown cC cB E H' x := by
  cases x with
  | cab s e => exact fun dx G g k => h dx G g (m.trans k)
  | car n => exact fun dx G g k => h dx G g (m.trans k)
def spTakeB (cC cB : Addr) : Sp := fun as H Q E => ∃ (d : Addr) (s e : Str) (c : Caps), as = [.ref d, .str s, .str e] ∧ H d = some (.dT (kvs c)) ∧
  if (s, e) ∈ c.map (·.1) then ∀ H', H' d = some (.dT (kvs (dropP c (s, e)))) → (∀ a o, a ≠ d → H a = some o → H' a = some o) → Q .non H' else Thrown cC cB E H (.cab s e)
def spTakeC (cC cB : Addr) : Sp := fun as H Q E => ∃ (d : Addr) (n : Str) (l : List (Key × V)), as = [.ref d, .str n] ∧ H d = some (.dK l) ∧
  if (valV l (Sum.inr n : Key)).isSome = true then ∀ H', H' d = some (.dK (dropK l (Sum.inr n : Key))) → (∀ a o, a ≠ d → H a = some o → H' a = some o) → Q .non H' else Thrown cC cB E H (.car n)
theorem scTB : FnScope ["caps", "start", "end"] ["caps", "start", "end"] (defScope sTakeCable) := ⟨rfl, rfl, rfl, by decide +kernel, rfl, by decide +kernel, by decide +kernel⟩
theorem ok_takeB {f cC cB fB : Addr} {fd fdB : FuncData} (F : Fun K "_take_cable" "_take_cable" sTakeCable f fd) (TB : ErI K mg "NoCable" "NoCable.__init__" sNoCable ["self", "start", "end"] cB fB fdB)
    (n1 : PySem.W.findIn K (.ref cB) "start" = some none) (n2 : PySem.W.findIn K (.ref cB) "end" = some none) : FnOk P w K mg base (L2.CX P w) 3 f fd ["caps", "start", "end"] (spTakeB cC cB) := by
  refine F.okX scTB (fun as H Q E h => ?_) (fun cdv A outer s H as Q E hr h => ?_)
  · obtain ⟨d, s, e, c, rfl, _⟩ := h
    rfl
  · obtain ⟨d, x, y, c, rfl, hd, k⟩ := h
    have hu := hu_of hr
    refine ⟨_, pss_cons (ps_if (pt_cmp (pc_dnotin hu (pe_tup (pa_cons (pv 1) (pa_cons (pv 2) pa_nil))) (pv 0))) (pss_one (ps_raise rfl (takes_of rfl rfl rfl rfl) (pmk_oex TB.oex TB.iC TB.tI (init_NoCable TB n1 n2) hr TB.b .nil pass0 rfl TB.g (pa_cons (pv 1) (pa_cons (pv 2) pa_nil))))) pss_nil)
      (pss_one (ps_delT hu (pv 0) (pe_tup (pa_cons (pv 1) (pa_cons (pv 2) pa_nil))))), ?_⟩
    refine ⟨_, rfl, _, rfl, by show 2 ≤ sizeLine; decide, fun t ht => ⟨_, rfl, d, _, rfl, DGet.t (k := pK (x, y)) (s3u ht hd) upd_same, _, rfl, ?_⟩⟩
    have M1 := same_new (o := .tup [.str x, .str y]) (Same.refl H) ht
    rw [kvs_is]
    refine ite2 (fun h => ?_) (fun h => ?_)
    · have nin : ¬ (x, y) ∈ c.map (·.1) := fun z => by rw [decide_eq_true z] at h; cases h
      rw [if_neg nin] at k
      refine ⟨_, rfl, _, rfl, by show 2 ≤ 1000; decide, fun a ha => ⟨a, _, _, rfl, upd_same, fun dx hdx nda => ⟨rfl, dx, _, by rw [upd_ne nda.symm, upd_same], upd_same, free2 hdx nda, ?_⟩⟩⟩
      refine k dx _ upd_same (M1.trans (same_raise ha (free2 hdx nda) fun c n1 n2 => by rw [upd_ne n2, upd_ne n1, upd_ne n2, upd_ne n1]))
    · have yin : (x, y) ∈ c.map (·.1) := Decidable.byContradiction fun z => h (by rw [decide_eq_false z]; rfl)
      rw [if_pos yin] at k
      obtain ⟨v, ev⟩ := Option.isSome_iff_exists.mp ((kvs_is c (x, y)).trans (decide_eq_true yin))
      refine ⟨_, rfl, _, rfl, _, rfl, by show 2 ≤ sizeLine; decide, fun u hu' => ⟨d, u, _, pK (x, y), v, rfl, rfl, s3u hu' (s3u ht hd), upd_same, ev, k _ (by rw [upd_same, kvs_drop]) fun a o n e => ?_⟩⟩
      rw [upd_ne n]
      exact s3u hu' (s3u ht e)
theorem scTC : FnScope ["cars", "name"] ["cars", "name"] (defScope sTakeCar) := ⟨rfl, rfl, rfl, by decide +kernel, rfl, by decide +kernel, by decide +kernel⟩
theorem ok_takeC {f cC cB fC : Addr} {fd fdC : FuncData} (F : Fun K "_take_car" "_take_car" sTakeCar f fd) (TC : ErI K mg "NoCar" "NoCar.__init__" sNoCar ["self", "name"] cC fC fdC)
    (n1 : PySem.W.findIn K (.ref cC) "name" = some none) : FnOk P w K mg base (L2.CX P w) 3 f fd ["cars", "name"] (spTakeC cC cB) := by
  refine F.okX scTC (fun as H Q E h => ?_) (fun cdv A outer s H as Q E hr h => ?_)
  · obtain ⟨d, n, l, rfl, _⟩ := h
    rfl
  · obtain ⟨d, n, l, rfl, hd, k⟩ := h
    have hu := hu_of hr
    refine ⟨_, pss_cons (ps_if (pt_cmp (pc_dnotin hu (pv 1) (pv 0))) (pss_one (ps_raise rfl (takes_of rfl rfl rfl rfl) (pmk_oex TC.oex TC.iC TC.tI (init_NoCar TC n1) hr TC.b .nil pass0 rfl TC.g (pa_cons (pv 1) pa_nil)))) pss_nil)
      (pss_one (ps_ddel (pv 0) (pv 1))), ?_⟩
    refine ⟨_, rfl, _, rfl, d, _, rfl, DGet.k (k := Sum.inr n) hd, _, rfl, ?_⟩
    refine ite2 (fun h => ?_) (fun h => ?_)
    · have nin : ¬ (valV l (Sum.inr n : Key)).isSome = true := fun z => by rw [z] at h; cases h
      rw [if_neg nin] at k
      refine ⟨_, rfl, by show 1 ≤ 1000; decide, fun a ha => ⟨a, _, rfl, upd_same, fun dx hdx nda => ⟨rfl, dx, _, upd_same, by rw [upd_ne nda, upd_same], free2 hdx nda, ?_⟩⟩⟩
      exact k dx _ upd_same (same_raise ha (free2 hdx nda) fun c n1 n2 => by rw [upd_ne n1, upd_ne n2, upd_ne n1])
    · have yin : (valV l (Sum.inr n : Key)).isSome = true := by
        cases e : (valV l (Sum.inr n : Key)).isSome with
        | true => rfl
        | false => rw [e] at h; exact absurd rfl h
      rw [if_pos yin] at k
      exact ⟨_, rfl, _, rfl, d, _, _, rfl, hd, rfl, yin, k _ upd_same fun a o n e => by rw [upd_ne n]; exact e⟩
/-- the dicts of a yard -/
def spCaps (K : PySem.W.Frag) : Sp := fun as H Q _ => ∃ (y : V) (cs : List Cab) (rs : List Car), as = [y] ∧ YardV K H y cs rs ∧ (cs.map ckey).Nodup ∧ (rs.map (·.1)).Nodup ∧ cs.length ≤ 1000 ∧ rs.length ≤ 1000 ∧
  ∀ (t d q : Addr) (l : List (Key × V)) (H' : Hp), Same H H' → H' t = some (.tup [.ref d, .ref q]) → H d = none → H q = none → d ≠ q → H' d = some (.dT (kvs (capsOf cs))) → H' q = some (.dK l) → cK l rs K H → Q (.ref t) H'
/-- over a tuple that stays, couples as keys -/
theorem dcT_tup {a : Addr} {xs : List V} {g : TG} {tk tv : TE} {vs : List Nat} {σ : L2.St} {H1 : Hp} {D : Addr} {Qd : Hp → Prop} (Pv : Nat → Hp → Prop) (h0 : Pv 0 (upd H1 D (.dT []))) (hl : ∀ i G, i ≤ xs.length → Pv i G → SqT K G a xs)
    (hs : ∀ i x G, xs[i]? = some x → Pv i G → g x (wipe σ vs) G fun σ2 G2 => wipe σ2 vs = wipe σ vs ∧ tk σ2 G2 fun y G4 => tv σ2 G4 fun z G5 => ∃ kvs k b, y = .ref b ∧ G5 b = some (.tup (k.map kV)) ∧ G5 D = some (.dT kvs) ∧ kvs.length < sizeLine ∧ Pv (i + 1) (upd G5 D (.dT (putK kvs k z))))
    (hd : ∀ G, Pv xs.length G → Qd G) :
    ∃ W : Nat → Nat → Hp → Prop, (∃ m, W 0 m (upd H1 D (.dT []))) ∧ ∀ i m G, W i m G → ((Itt K a).stop i G ∧ Qd G) ∨ ((Itt K a).go i G ∧ ∃ Nx : Hp → Prop, (∀ G', Nx G' → ∃ m', m' < m ∧ W (i + 1) m' G') ∧ ∀ x G', (Itt K a).yld i G x G' → g x (wipe σ vs) G' fun σ2 G2 => wipe σ2 vs = wipe σ vs ∧ tYes σ2 G2 fun o G3 =>
      if o = true then tk σ2 G3 fun y G4 => tv σ2 G4 fun z G5 => ∃ kvs k b, y = .ref b ∧ G5 b = some (.tup (k.map kV)) ∧ G5 D = some (.dT kvs) ∧ kvs.length < sizeLine ∧ Nx (upd G5 D (.dT (putK kvs k z))) else Nx G3) := by
  refine ⟨fun i m G => m = xs.length - i ∧ i ≤ xs.length ∧ Pv i G, ⟨_, rfl, Nat.zero_le _, h0⟩, fun i m G w0 => ?_⟩
  obtain ⟨rfl, hi, p⟩ := w0
  have st := hl i G hi p
  rcases Nat.lt_or_ge i xs.length with lt | ge
  · refine .inr ⟨⟨xs, xs[i], st, by simp [lt]⟩, Pv (i + 1), fun G' p' => ⟨_, Nat.sub_lt_sub_left lt (Nat.lt_succ_self i), rfl, lt, p'⟩, fun x G' y => ?_⟩
    obtain ⟨rfl, y⟩ := y
    exact hs i x _ (y xs st) p
  · cases Nat.le_antisymm hi ge
    exact .inl ⟨⟨xs, st, Nat.le_refl _⟩, hd G p⟩
theorem put_new {c : Caps} {k : Str × Str} {v : Int} (h : k ∉ c.map (·.1)) : put c k v = c ++ [(k, v)] := by
  unfold put
  rw [if_neg]
  intro z
  obtain ⟨f, hf, e⟩ := List.any_eq_true.mp z
  exact h (List.mem_map.mpr ⟨f, hf, of_decide_eq_true e⟩)
theorem putR_new {rs : List Car} {r : Car} (h : r.1 ∉ rs.map (·.1)) : putR rs r = rs ++ [r] := by
  unfold putR
  rw [if_neg]
  intro z
  obtain ⟨f, hf, e⟩ := List.any_eq_true.mp z
  exact h (List.mem_map.mpr ⟨f, hf, of_decide_eq_true e⟩)
theorem take_new {α β : Type} {f : α → β} {l : List α} (n : (l.map f).Nodup) {i : Nat} {x : α} (h : l[i]? = some x) : f x ∉ (l.take i).map f := by
  intro z
  obtain ⟨y, hy, e⟩ := List.mem_map.mp z
  obtain ⟨j, hj⟩ := List.getElem?_of_mem hy
  rw [List.getElem?_take] at hj
  split at hj
  · rename_i lt
    have a1 : (l.map f)[j]? = some (f y) := by rw [List.getElem?_map, hj]; rfl
    have a2 : (l.map f)[i]? = some (f x) := by rw [List.getElem?_map, h]; rfl
    rw [e] at a1
    have := (List.getElem?_inj (List.getElem?_eq_some_iff.mp a1).1 n).mp (a1.trans a2.symm)
    omega
  · cases hj
theorem scCC : FnScope ["yard", "cables", "cars", "start", "end", "cap", "car"] ["yard"] (defScope sCapsAndCars) := ⟨rfl, rfl, rfl, by decide +kernel, rfl, by decide +kernel, by decide +kernel⟩
theorem ok_caps {f : Addr} {fd : FuncData} (F : Fun K "_caps_and_cars" "_caps_and_cars" sCapsAndCars f fd) : FnOk P w K mg base CX0 1 f fd ["yard"] (spCaps K) := by
  refine F.ok scCC (fun as H Q E h => ?_) (fun cdv A outer s H as Q E hr h => ?_)
  · obtain ⟨y, cs, rs, rfl, _⟩ := h
    rfl
  · obtain ⟨y, cs, rs, rfl, hV, nk, nn, lc, lr, k⟩ := h
    have hu := hu_of hr
    refine ⟨_, pss_cons (ps_asg (pv 0) (pg_tup (by rfl) (pgs_cons (pg_name (i := 1) scCC.nd rfl (.inl rfl)) (pgs_cons (pg_name (i := 2) scCC.nd rfl (.inl rfl)) pgs_nil))))
      (pss_one (ps_ret (pe_tup (pa_cons (pe_dcT (own := [("start", 3), ("end", 4), ("cap", 5)]) (g := gTup K 3 (gCons (gName 3) (gCons (gName 4) (gCons (gName 5) gNil)))) (tt := tYes) (Nat.lt_of_succ_lt hu) rfl scCC.nd (pi_tup (pv 1))
          (blkOk_by (N := ["yard", "cables", "cars", "start", "end", "cap", "car"]) (sc := defScope sCapsAndCars) (by decide +kernel)) (fun _ _ _ _ _ => pg_tup rfl (pgs_cons (pg_name (i := 3) scCC.nd rfl (Or.inl rfl)) (pgs_cons (pg_name (i := 4) scCC.nd rfl (Or.inl rfl)) (pgs_cons (pg_name (i := 5) scCC.nd rfl (Or.inl rfl)) pgs_nil)))) (fun _ _ _ _ _ => pts_nil)
          (fun _ _ _ _ _ => pe_tup (pa_cons (pv 3) (pa_cons (pv 4) pa_nil))) (fun _ _ _ _ _ => pv 5))
        (pa_cons (pe_dc (own := [("car", 6)]) (g := gName 6) (tt := tYes) (tk := tOp (rIxT K) (tVar 6) (tC (V.int 0))) rfl scCC.nd (pi_tup (pv 2))
          (blkOk_by (N := ["yard", "cables", "cars", "start", "end", "cap", "car"]) (sc := defScope sCapsAndCars) (by decide +kernel)) (fun _ _ _ _ _ => pg_name (i := 6) scCC.nd rfl (Or.inl rfl)) (fun _ _ _ _ _ => pts_nil)
          (fun _ _ _ _ _ => by exact pe_ix ix_tup (pv 6) pe_int (fun _ _ => rfl)) (fun _ _ _ _ _ => pv 6)) pa_nil))))), ?_⟩
    obtain ⟨ty, ya, yb, xs, zs, rfl, v1, v2, v3, v4, v5⟩ := hV
    have lx : xs.length = cs.length := paired_len v4
    have lz : zs.length = rs.length := paired_len v5
    refine ⟨_, rfl, ty, _, rfl, v1, rfl, _, _, rfl, _, _, rfl, rfl, ?_⟩
    refine ⟨_, rfl, ya, rfl, ⟨_, v2⟩, fun D hD => ?_⟩
    refine dcT_tup (fun i G => G D = some (.dT (kvs (capsOf (cs.take i)))) ∧ Same H G) ⟨by rw [upd_same]; rfl, same_new (Same.refl H) hD⟩ (fun i G _ p => sqt_more p.2 v2) ?_ ?_
    · rintro i x G hx ⟨g1, g2⟩
      obtain ⟨c, hc, t', rfl, hq⟩ := paired_at v4 hx
      refine ⟨t', _, rfl, sqt_more g2 hq, rfl, _, _, rfl, _, _, rfl, _, _, rfl, rfl, ?_⟩
      refine ⟨rfl, _, rfl, _, rfl, by show 2 ≤ sizeLine; decide, fun u hu' => ⟨_, rfl, _, pK (ckey c), u, rfl, upd_same, s3u hu' g1, ?_, ?_, same_put (same_new g2 hu') hD⟩⟩
      · rw [show (kvs (capsOf (cs.take i))).length = (capsOf (cs.take i)).length from List.length_map _]
        unfold capsOf
        rw [List.length_map, List.length_take]
        exact small1000 (by omega)
      · rw [upd_same, kvs_put, put_new (by rw [capsOf_keys]; exact take_new nk hc), List.take_succ, hc]
        unfold capsOf
        rw [List.map_append]
        rfl
    rintro G ⟨g1, g2⟩
    rw [lx, List.take_length] at g1
    refine ⟨_, rfl, yb, rfl, ⟨_, sqt_more g2 v3⟩, fun D2 hD2 => ?_⟩
    have nD : D ≠ D2 := ne_of_none g1 hD2
    refine dc_tup (K := K) (xs := zs) (fun i G' => ∃ l, G' D2 = some (.dK l) ∧ l.length = i ∧ cK l (rs.take i) K H ∧ Same G G') ⟨[], upd_same, rfl, by rw [List.take_zero]; exact .nil, same_new (Same.refl G) hD2⟩ ?_ ?_ ?_
    · rintro i G' hi ⟨l, _, _, _, m⟩
      exact sqt_more (g2.trans m) v3
    · rintro i x G' hx ⟨l, q1, q2, q3, q4⟩
      obtain ⟨r, hr', hc⟩ := paired_at v5 hx
      obtain ⟨t', rfl, hq⟩ := id hc
      have hi : i < rs.length := (List.getElem?_eq_some_iff.mp hr').1
      refine ⟨rfl, _, rfl, t', _, 0, _, rfl, rfl, sqt_more (g2.trans q4) hq, at0, _, rfl, l, (Sum.inr r.1 : Key), rfl, q1, small1000 (by omega), putK l (Sum.inr r.1 : Key) (.ref t'), upd_same, ?_, ?_, same_put q4 hD2⟩
      · have := paired_len (cK_put hc q3)
        rw [this, putR_new (take_new nn hr'), List.length_append, List.length_take]
        show min i rs.length + 1 = i + 1
        omega
      · rw [List.take_succ, hr']
        have z := cK_put hc q3
        rw [putR_new (take_new nn hr')] at z
        exact z
    rintro G' ⟨l, q1, q2, q3, q4⟩
    rw [lz, List.take_length] at q3
    refine ⟨by show 2 ≤ sizeLine; decide, fun t ht => k t D D2 l _ ((g2.trans q4).trans (same_new (Same.refl G') ht)) upd_same hD ?_ nD (s3u ht (q4 _ _ g1)) (s3u ht q1) q3⟩
    cases e : H D2 with
    | none => rfl
    | some o => rw [g2 _ _ e] at hD2; cases hD2
end
end Y

/-! OY: edits done by the program. -/
namespace Y
open PySem PySem.Spec PyProof.Rows L2 Ns
/-- over a list or a tuple that a variable holds -/
structure AnyV (K : PySem.W.Frag) (i : Nat) (σ : L2.St) (H : Hp) (R : It → Hp → Prop) : Prop where
  has : ∃ (a : Addr) (xs : List V), σ[i]? = some (some (.ref a)) ∧
    ((SqL K H a xs ∧ ∀ J, (∀ G : Hp → Prop, (∀ H', G H' → SqL K H' a xs) → Walk J xs.length G (YAt xs)) → R J H) ∨ (SqT K H a xs ∧ ∀ J, (∀ G : Hp → Prop, (∀ H', G H' → SqT K H' a xs) → Walk J xs.length G (YAt xs)) → R J H))
theorem pi_any {X : Cx} {tg : Expr} {i : Nat} {x : Str} {pos : Pos} (h : PE X (.Name x pos) (tVar i)) : PI X tg (.Name x pos) (AnyV X.K i) := by
  refine ⟨fun pins s σ H R I hw => ?_⟩
  obtain ⟨⟨a, xs, hi, hs⟩⟩ := hw
  rcases hs with ⟨hs, k⟩ | ⟨hs, k⟩
  · exact (pi_list h).run pins s σ H R I ⟨_, hi, a, rfl, ⟨xs, hs⟩, k _ fun G g => walk_list.mono g fun _ _ _ _ _ _ y => y⟩
  · exact (pi_tup h).run pins s σ H R I ⟨_, hi, a, rfl, ⟨xs, hs⟩, k _ fun G g => walk_tup.mono g fun _ _ _ _ _ _ y => y⟩
theorem any_use {K : PySem.W.Frag} {σ : L2.St} {Hb H : Hp} {R : It → Hp → Prop} {i : Nat} {a : Addr} {xs : List V} (hi : σ[i]? = some (some (.ref a))) (h : SqL K Hb a xs ∨ SqT K Hb a xs) (m : Same Hb H) (k : ∀ J, Walk J xs.length (fun H' => Same Hb H') (YAt xs) → R J H) : AnyV K i σ H R := by
  rcases h with h | h
  · exact ⟨⟨a, xs, hi, .inl ⟨m.seq h, fun J w => k J (w _ fun H' g => g.seq h)⟩⟩⟩
  · exact ⟨⟨a, xs, hi, .inr ⟨sqt_more m h, fun J w => k J (w _ fun H' g => sqt_more g h)⟩⟩⟩
/-- the heap but for two places -/
def w2 (H : Hp) (d q : Addr) : Hp := fun a => if a = d ∨ a = q then none else H a
theorem w2_of {H : Hp} {d q a : Addr} {o : HO} (h : w2 H d q a = some o) : a ≠ d ∧ a ≠ q ∧ H a = some o := by
  unfold w2 at h
  split at h
  · cases h
  · rename_i n
    exact ⟨fun z => n (.inl z), fun z => n (.inr z), h⟩
theorem w2_ne {H : Hp} {d q a : Addr} (h1 : a ≠ d) (h2 : a ≠ q) : w2 H d q a = H a := if_neg (fun z => z.elim h1 h2)
theorem w2_sub (H : Hp) (d q : Addr) : Same (w2 H d q) H := fun _ _ h => (w2_of h).2.2
theorem w2_more {H H' : Hp} {d q : Addr} (m : Same H H') : Same (w2 H d q) (w2 H' d q) := fun a o e => by
  obtain ⟨h1, h2, h3⟩ := w2_of e
  rw [w2_ne h1 h2]
  exact m _ _ h3
theorem w2_but {H H' : Hp} {d q x : Addr} (hx : x = d ∨ x = q) (m : ∀ a o, a ≠ x → H a = some o → H' a = some o) : Same (w2 H d q) (w2 H' d q) := fun a o e => by
  obtain ⟨h1, h2, h3⟩ := w2_of e
  rw [w2_ne h1 h2]
  exact m _ _ (fun z => hx.elim (fun y => h1 (z.trans y)) fun y => h2 (z.trans y)) h3
theorem w2_new {H H' : Hp} {d q : Addr} (hd : H d = none) (hq : H q = none) (m : Same H H') : Same H (w2 H' d q) := fun a o e => by
  rw [w2_ne (ne_of_none e hd) (ne_of_none e hq)]
  exact m _ _ e
theorem sqt_w2 {K : PySem.W.Frag} {H : Hp} {d q p : Addr} {xs : List V} {u v : HO} (h : SqT K H p xs) (hd : H d = some u) (hq : H q = some v) (nu : ∀ zs, u ≠ .tup zs) (nu' : ∀ o w, u ≠ .frz o w) (nv : ∀ zs, v ≠ .tup zs) (nv' : ∀ o w, v ≠ .frz o w) : SqT K (w2 H d q) p xs := by
  have key : ∀ {o : HO}, H p = some o → o ≠ u → o ≠ v → w2 H d q p = some o := fun {o} e n1 n2 => by
    rw [w2_ne (fun z => by rw [z, hd] at e; exact n1 (Option.some.inj e).symm) (fun z => by rw [z, hq] at e; exact n2 (Option.some.inj e).symm)]
    exact e
  rcases h with (h | ⟨o, h⟩) | h
  · exact .inl (.inl (key h (Ne.symm (nu _)) (Ne.symm (nv _))))
  · exact .inl (.inr ⟨o, key h (Ne.symm (nu' _ _)) (Ne.symm (nv' _ _))⟩)
  · exact .inr h
theorem nodup_map {α β : Type} {f : α → β} : ∀ {l : List α}, (l.map f).Nodup → l.Nodup
  | [], _ => List.nodup_nil
  | x :: l, h => by
    rw [List.map_cons, List.nodup_cons] at h
    exact List.nodup_cons.mpr ⟨fun z => h.1 (List.mem_map.mpr ⟨x, z, rfl⟩), nodup_map h.2⟩
def spChanged (K : PySem.W.Frag) (cC cB : Addr) : Sp := fun as H Q E => ∃ (y : V) (a : Addr) (xs : List V) (cs : List Cab) (rs : List Car) (eds : List Ed) (m : Nat), as = [y, .ref a] ∧ YardV K H y cs rs ∧ (SqL K H a xs ∨ SqT K H a xs) ∧ Paired (EdV K H) xs eds ∧ YardQ m cs rs ∧ (∀ e ∈ eds, EdQ e) ∧ m + eds.length ≤ 400 ∧
  match runE (capsOf cs, rs) eds with
  | .ok (c', r') => c'.length ≤ 60 ∧ r'.length ≤ 60 ∧ ∀ (y' : V) (cs' : List Cab) (rs' : List Car) (H' : Hp), Res c' r' cs' rs' → YardV K H' y' cs' rs' → Same H H' → Q y' H'
  | .error x => Thrown cC cB E H x
section
variable {P : Program} {w : World} {K : PySem.W.Frag} {mg : Str → Option Value} {base : Heap}
theorem scCh : FnScope ["yard", "edits", "caps", "cars", "edit", "cables", "start", "end", "name"] ["yard", "edits"] (defScope sChanged) := ⟨rfl, rfl, rfl, by decide +kernel, rfl, by decide +kernel, by decide +kernel⟩
theorem ok_changed {f fK fB fC cC cB : Addr} {fd dK dB dC : FuncData} (F : Fun K "changed" "changed" sChanged f fd) (T : Nat0 mg) (GK : FnOk P w K mg base CX0 1 fK dK ["yard"] (spCaps K)) (FK : Fun K "_caps_and_cars" "_caps_and_cars" sCapsAndCars fK dK) (mK : mg "_caps_and_cars" = some (.ref fK)) (bK : Binds K dK ["yard"] [])
    (GB : FnOk P w K mg base (L2.CX P w) 3 fB dB ["caps", "start", "end"] (spTakeB cC cB)) (FB : Fun K "_take_cable" "_take_cable" sTakeCable fB dB) (mB : mg "_take_cable" = some (.ref fB)) (bB : Binds K dB ["caps", "start", "end"] [])
    (GC : FnOk P w K mg base (L2.CX P w) 3 fC dC ["cars", "name"] (spTakeC cC cB)) (FC : Fun K "_take_car" "_take_car" sTakeCar fC dC) (mC : mg "_take_car" = some (.ref fC)) (bC : Binds K dC ["cars", "name"] []) :
    FnOk P w K mg base (L2.CX P w) 4 f fd ["yard", "edits"] (spChanged K cC cB) := by
  refine F.okX scCh (fun as H Q E h => ?_) (fun cdv A outer s H as Q E hr h => ?_)
  · obtain ⟨y, a, xs, cs, rs, eds, m, rfl, _⟩ := h
    rfl
  · obtain ⟨y, a, xs, cs, rs, eds, m, rfl, hV, hS, hE, YQ, EQ, lm, k⟩ := h
    have hu := hu_of hr
    have hr1 : Room 1 _ := hr.mono (by decide)
    refine ⟨_, pss_cons (ps_asg (pe_call GK hr1 rfl mK FK.kp bK .nil pass0 (pa_cons (pv 0) pa_nil)) (pg_tup (by rfl) (pgs_cons (pg_name (i := 2) scCh.nd rfl (.inr rfl)) (pgs_cons (pg_name (i := 3) scCh.nd rfl (.inr rfl)) pgs_nil))))
      (pss_cons (ps_for (passes_of rfl) rfl (pi_any (pv 1)) (pg_name (i := 4) scCh.nd rfl (.inl rfl))
        (pss_one (ps_if (pt_cmpR op_eq (pe_ix ix_tup (pv 4) pe_int (fun _ _ => rfl)) pe_str (nomark _))
          (pss_one (ps_dput hu (pv 2) (pe_tup (pa_cons (pe_ix ix_tup (pv 4) pe_int (fun _ _ => rfl)) (pa_cons (pe_ix ix_tup (pv 4) pe_int (fun _ _ => rfl)) pa_nil))) (pe_ix ix_tup (pv 4) pe_int (fun _ _ => rfl)) rfl))
          (pss_one (ps_if (pt_cmpR op_eq (pe_ix ix_tup (pv 4) pe_int (fun _ _ => rfl)) pe_str (nomark _))
            (pss_one (ps_expr (pe_call GB hr rfl mB FB.kp bB .nil (passes_call (W := fun cls d _ H => E cls d H) (E := E) (takes_of rfl rfl rfl rfl) fun _ _ _ _ h => h) (pa_cons (pv 2) (pa_cons (pe_ix ix_tup (pv 4) pe_int (fun _ _ => rfl)) (pa_cons (pe_ix ix_tup (pv 4) pe_int (fun _ _ => rfl)) pa_nil))))))
            (pss_one (ps_if (pt_cmpR op_eq (pe_ix ix_tup (pv 4) pe_int (fun _ _ => rfl)) pe_str (nomark _))
              (pss_one (ps_dput hu (pv 3) (pe_ix ix_tup (pv 4) pe_int (fun _ _ => rfl)) (pe_slice sl_tupP (pv 4) (po_some pe_int) po_none) rfl))
              (pss_one (ps_expr (pe_call GC hr rfl mC FC.kp bC .nil (passes_call (W := fun cls d _ H => E cls d H) (E := E) (takes_of rfl rfl rfl rfl) fun _ _ _ _ h => h) (pa_cons (pv 3) (pa_cons (pe_ix ix_tup (pv 4) pe_int (fun _ _ => rfl)) pa_nil))))))))))))
      (pss_cons (ps_setLc (i := 5) (own := [("start", 6), ("end", 7)]) (g := gTup K 2 (gCons (gName 6) (gCons (gName 7) gNil))) (tt := tYes) (by rfl) scCh.nd rfl rfl (sw_true rfl rfl rfl (by decide +kernel)) (pi_list (pe_callB (cr_sortDT rfl hr.units) (by rfl) T.sorted (by decide +kernel) (pa_cons (pv 2) pa_nil)))
          (blkOk_by (N := ["yard", "edits", "caps", "cars", "edit", "cables", "start", "end", "name"]) (sc := defScope sChanged) (by decide +kernel)) (fun _ _ _ _ _ => pg_tup rfl (pgs_cons (pg_name (i := 6) scCh.nd rfl (Or.inl rfl)) (pgs_cons (pg_name (i := 7) scCh.nd rfl (Or.inl rfl)) pgs_nil))) (fun _ _ _ _ _ => pts_nil)
          (fun _ _ _ _ _ => pe_tup (pa_cons (pv 6) (pa_cons (pv 7) (pa_cons (pe_dget hu (pv 2) (pe_tup (pa_cons (pv 6) (pa_cons (pv 7) pa_nil))) (fun _ _ => rfl)) pa_nil)))))
      (pss_one (ps_ret (pe_tup (pa_cons (pe_callTy call_tuple_of (by rfl) T.tuple (by decide +kernel) (pa_cons (pv 5) pa_nil))
        (pa_cons (pe_callTy call_tuple_of (by rfl) T.tuple (by decide +kernel) (pa_cons (pe_lc (own := [("name", 8)]) (g := gName 8) (tt := tYes) (te := tDGet (tVar 3) (tVar 8)) rfl scCh.nd (pi_list (pe_callB (call_sortedD rfl) (by rfl) T.sorted (by decide +kernel) (pa_cons (pv 3) pa_nil)))
          (blkOk_by (N := ["yard", "edits", "caps", "cars", "edit", "cables", "start", "end", "name"]) (sc := defScope sChanged) (by decide +kernel)) (fun _ _ _ _ _ => pg_name (i := 8) scCh.nd rfl (Or.inl rfl)) (fun _ _ _ _ _ => pts_nil)
          (fun _ _ _ _ _ => by exact pe_dget hu (pv 3) (pv 8) (fun _ _ => rfl))) pa_nil)) pa_nil))))))), ?_⟩
    refine ⟨_, rfl, y, cs, rs, rfl, hV, YQ.keys, YQ.names, by have := YQ.lc; omega, by have := YQ.lr; omega, fun t d q l H1 m1 et hd hq ndq ed eq ck => ?_⟩
    refine ⟨t, _, rfl, SqT.of et, rfl, _, _, rfl, _, _, rfl, rfl, ?_⟩
    have lxe : xs.length = eds.length := paired_len hE
    have q1 : V.str "no cable" ≠ V.str "cable" := fun z => absurd (V.str.inj z) (by decide +kernel)
    have q2 : V.str "car" ≠ V.str "cable" := fun z => absurd (V.str.inj z) (by decide +kernel)
    have q3 : V.str "no car" ≠ V.str "cable" := fun z => absurd (V.str.inj z) (by decide +kernel)
    have q4 : V.str "car" ≠ V.str "no cable" := fun z => absurd (V.str.inj z) (by decide +kernel)
    have q5 : V.str "no car" ≠ V.str "no cable" := fun z => absurd (V.str.inj z) (by decide +kernel)
    have q6 : V.str "no car" ≠ V.str "car" := fun z => absurd (V.str.inj z) (by decide +kernel)
    have yes : ∀ {z : Str} {A B : Prop}, A → if decide (V.str z = V.str z) = true then A else B := fun {z A B} h => by rw [if_pos (decide_eq_true rfl)]; exact h
    have no : ∀ {x z : Str} {A B : Prop}, V.str x ≠ V.str z → B → if decide (V.str x = V.str z) = true then A else B := fun {x z A B} n h => by rw [if_neg (fun k => n (of_decide_eq_true k))]; exact h
    refine any_use (K := K) (i := 1) (a := a) (xs := xs) (Hb := H) rfl hS m1 (fun J wk => for_it wk (fun i σ H' => ∃ (w4 : Option V) (c : Caps) (r' : List Car) (l' : List (Key × V)), σ = [some y, some (.ref a), some (.ref d), some (.ref q), w4, none, none, none, none] ∧
      runE (capsOf cs, rs) (eds.take i) = .ok (c, r') ∧ StQ (m + i) c r' ∧ H' d = some (.dT (kvs c)) ∧ H' q = some (.dK l') ∧ cK l' r' K (w2 H' d q) ∧ Same H (w2 H' d q)) ?_ ?_ ?_ ?_)
    · exact ⟨none, capsOf cs, rs, l, rfl, rfl, YQ.st, ed, eq, ck.more (w2_new hd hq m1), w2_new hd hq m1⟩
    · rintro i σ H' hi ⟨w4, c, r', l', _, _, _, _, _, _, mm⟩
      exact mm.trans (w2_sub _ _ _)
    · rintro i x σ H' H'' hi ⟨w4, c, r', l', rfl, run, SQ, e1, e2, ck', mm⟩ ⟨rfl, hx⟩
      obtain ⟨e, he, t', rfl, hq'⟩ := paired_at hE hx
      have EQe := EQ e (List.mem_of_getElem? he)
      have sq : SqT K H'' t' (edV e) := sqt_more (mm.trans (w2_sub _ _ _)) hq'
      have nr : runE (capsOf cs, rs) (eds.take (i + 1)) = stp (c, r') e := by rw [runE_take he, run]; rfl
      have hc := SQ.lc
      have hcr := SQ.lr
      have lc' : (kvs c).length < sizeLine := by
        rw [show (kvs c).length = c.length from List.length_map _]
        exact small1000 (by omega)
      have ll : l'.length < sizeLine := by
        rw [paired_len ck']
        exact small1000 (by omega)
      cases e with
      | cab s e v =>
        refine ⟨_, rfl, t', _, 0, _, rfl, rfl, sq, at0, rfl, _, rfl, yes ?_⟩
        refine ⟨_, rfl, t', _, 3, _, rfl, rfl, sq, at3, _, rfl, _, rfl, t', _, 1, _, rfl, rfl, sq, at1, _, rfl, t', _, 2, _, rfl, rfl, sq, at2, by show 2 ≤ sizeLine; decide, fun u hu' => ⟨d, _, rfl, DPut.t (k := pK (s, e)) (s3u hu' e1) upd_same lc', ?_⟩⟩
        have M : Same (w2 H'' d q) (w2 (upd (upd H'' u (.tup [.str s, .str e])) d (.dT (putK (kvs c) (pK (s, e)) (.int v)))) d q) := (w2_more (same_new (Same.refl H'') hu')).trans (w2_but (.inl rfl) fun a o n e => by rw [upd_ne n]; exact e)
        exact ⟨_, put c (s, e) v, r', l', rfl, nr, SQ.step EQe rfl, by rw [upd_same, kvs_put], by rw [upd_ne ndq.symm]; exact s3u hu' e2, ck'.more M, mm.trans M⟩
      | noc s e =>
        refine ⟨_, rfl, t', _, 0, _, rfl, rfl, sq, at0, rfl, _, rfl, no q1 ?_⟩
        refine ⟨_, rfl, t', _, 0, _, rfl, rfl, sq, at0, rfl, _, rfl, yes ?_⟩
        refine ⟨_, rfl, _, rfl, t', _, 1, _, rfl, rfl, sq, at1, _, rfl, t', _, 2, _, rfl, rfl, sq, at2, d, s, e, c, rfl, e1, ?_⟩
        by_cases hin : (s, e) ∈ c.map (·.1)
        · rw [if_pos hin]
          intro G g1 g2
          have M : Same (w2 H'' d q) (w2 G d q) := w2_but (.inl rfl) g2
          have st : stp (c, r') (.noc s e) = .ok (dropP c (s, e), r') := if_pos hin
          exact ⟨_, dropP c (s, e), r', l', rfl, nr.trans st, SQ.step EQe st, g1, g2 _ _ ndq.symm e2, ck'.more M, mm.trans M⟩
        · rw [if_neg hin]
          rw [runE_stuck he run (show stp (c, r') (.noc s e) = .error (.cab s e) from if_neg hin)] at k
          exact Thrown.more (mm.trans (w2_sub _ _ _)) k
      | car r =>
        refine ⟨_, rfl, t', _, 0, _, rfl, rfl, sq, at0, rfl, _, rfl, no q2 ?_⟩
        refine ⟨_, rfl, t', _, 0, _, rfl, rfl, sq, at0, rfl, _, rfl, no q4 ?_⟩
        refine ⟨_, rfl, t', _, 0, _, rfl, rfl, sq, at0, rfl, _, rfl, yes ?_⟩
        refine ⟨_, rfl, _, rfl, t', _, rfl, sq, fun p H2 M2 p2 => ?_⟩
        have p2 : SqT K H2 p [.str r.1, .str r.2.1, .int r.2.2.1, .int r.2.2.2] := by
          rw [show edV (.car r) = [.str "car", .str r.1, .str r.2.1, .int r.2.2.1, .int r.2.2.2] from rfl, cut_tail] at p2
          exact p2
        have f1 := M2 _ _ e1
        have f2 := M2 _ _ e2
        have p3 := sqt_w2 p2 f1 f2 (fun zs z => by cases z) (fun o w z => by cases z) (fun zs z => by cases z) (fun o w z => by cases z)
        refine ⟨_, rfl, _, rfl, t', _, 1, _, rfl, rfl, sqt_more M2 sq, at1, q, _, rfl, DPut.k (k := Sum.inr r.1) f2 ll, ?_⟩
        have M : Same (w2 H2 d q) (w2 (upd H2 q (.dK (putK l' (Sum.inr r.1 : Key) (.ref p)))) d q) := w2_but (.inr rfl) fun a o n e => by rw [upd_ne n]; exact e
        exact ⟨_, c, putR r' r, _, rfl, nr, SQ.step EQe rfl, by rw [upd_ne ndq]; exact f1, upd_same, cK_put ⟨p, rfl, sqt_more M p3⟩ (ck'.more ((w2_more M2).trans M)), mm.trans ((w2_more M2).trans M)⟩
      | nor n =>
        refine ⟨_, rfl, t', _, 0, _, rfl, rfl, sq, at0, rfl, _, rfl, no q3 ?_⟩
        refine ⟨_, rfl, t', _, 0, _, rfl, rfl, sq, at0, rfl, _, rfl, no q5 ?_⟩
        refine ⟨_, rfl, t', _, 0, _, rfl, rfl, sq, at0, rfl, _, rfl, no q6 ?_⟩
        refine ⟨_, rfl, _, rfl, t', _, 1, _, rfl, rfl, sq, at1, q, n, l', rfl, e2, ?_⟩
        rw [cK_is ck']
        by_cases hin : n ∈ r'.map (·.1)
        · rw [if_pos (decide_eq_true hin)]
          intro G g1 g2
          have M : Same (w2 H'' d q) (w2 G d q) := w2_but (.inr rfl) g2
          have st : stp (c, r') (.nor n) = .ok (c, dropR r' n) := if_pos hin
          exact ⟨_, c, dropR r' n, _, rfl, nr.trans st, SQ.step EQe st, g2 _ _ ndq e1, g1, cK_drop n (ck'.more M), mm.trans M⟩
        · rw [if_neg (by rw [decide_eq_false hin]; exact Bool.false_ne_true)]
          rw [runE_stuck he run (show stp (c, r') (.nor n) = .error (.car n) from if_neg hin)] at k
          exact Thrown.more (mm.trans (w2_sub _ _ _)) k
    rintro σ H3 ⟨w4, c, r', l', rfl, run, SQ, g1, g2, ck', mm⟩
    have m3 : Same H H3 := mm.trans (w2_sub _ _ _)
    rw [lxe, List.take_length] at run
    rw [run] at k
    obtain ⟨c60, r60, k⟩ : c.length ≤ 60 ∧ r'.length ≤ 60 ∧ ∀ (y' : V) (cs' : List Cab) (rs' : List Car) (H' : Hp), Res c r' cs' rs' → YardV K H' y' cs' rs' → Same H H' → Q y' H' := k
    have hc := SQ.lc
    have hcr := SQ.lr
    rw [lxe] at hc hcr
    refine ⟨_, rfl, d, kvs c, c.map (·.1), rfl, Rd.of g1, by unfold kvs; rw [List.map_map, List.map_map]; rfl, by rw [List.length_map]; omega, fun p qs hp pq => ?_⟩
    refine ⟨p, rfl, ⟨_, .inl (.inl upd_same)⟩, fun D hD => ?_⟩
    have npd : p ≠ D := fun e => by rw [← e, upd_same] at hD; cases hD
    have hD' : H3 D = none := by rw [upd_ne npd.symm] at hD; exact hD
    refine lc_list (K := K) (a := p) (xs := qs.map V.ref) (fun i H' => ∃ (ys : List V) (cs : List Cab), H' D = some (.lst ys) ∧ ys.length = i ∧ cs.map ckey = ((c.map (·.1)).mergeSort (PySem.W.dataLe false pD)).take i ∧ (∀ x ∈ cs, (ckey x, x.2.2) ∈ c) ∧
      Paired (CabT H' D) ys cs ∧ H' p = some (.lst (qs.map V.ref)) ∧ Same H3 H') ?_ ?_ ?_ ?_
    · exact ⟨[], [], upd_same, rfl, by rw [List.take_zero]; rfl, (fun _ z => nomatch z), .nil, by rw [upd_ne npd, upd_same], same_new (same_new (Same.refl H3) hp) hD⟩
    · rintro i H' hi ⟨ys, cs, _, _, _, _, _, h, _⟩
      exact .inl (.inl h)
    · rintro i x H' hx ⟨ys, cs, h1, h2, h3, h4, h5, h6, h7⟩
      rw [List.getElem?_map] at hx
      obtain ⟨t', ht', rfl⟩ := Option.map_eq_some_iff.mp hx
      obtain ⟨kx, hkx, hq'⟩ := paired_at pq ht'
      have memk : kx ∈ c.map (·.1) := (List.mergeSort_perm _ _).mem_iff.mp (List.mem_of_getElem? hkx)
      obtain ⟨fx, hfx, rfl⟩ := List.mem_map.mp memk
      have hv : valV (kvs c) (pK fx.1) = some (.int fx.2) := kvs_get SQ.keys hfx
      refine ⟨t', _, rfl, SqT.of (h7 _ _ hq'), rfl, _, _, rfl, _, _, rfl, rfl, ?_⟩
      refine ⟨rfl, _, rfl, _, rfl, _, rfl, _, rfl, _, rfl, by show 2 ≤ sizeLine; decide, fun u hu' => ?_⟩
      have gd : upd H' u (.tup [.str fx.1.1, .str fx.1.2]) d = some (.dT (kvs c)) := s3u hu' (h7 _ _ g1)
      have dg := DGet.t (k := pK fx.1) gd (upd_same (H := H') (a := u) (o := .tup [.str fx.1.1, .str fx.1.2]))
      rw [hv] at dg
      refine ⟨d, _, rfl, dg, by show 3 ≤ sizeLine; decide, fun v hv' => ?_⟩
      have r1 : upd (upd H' u (.tup [.str fx.1.1, .str fx.1.2])) v (.tup [.str fx.1.1, .str fx.1.2, .int fx.2]) D = some (.lst ys) := s3u hv' (s3u hu' h1)
      have nvD : v ≠ D := ne_at upd_same r1 (fun z => by cases z)
      refine ⟨ys, r1, by rw [h2]; exact small1000 (by have := (List.getElem?_eq_some_iff.mp hkx).1; rw [List.length_mergeSort, List.length_map] at this; omega), ?_⟩
      have s9 : Same H' (upd (upd H' u (.tup [.str fx.1.1, .str fx.1.2])) v (.tup [.str fx.1.1, .str fx.1.2, .int fx.2])) := same_new (same_new (Same.refl H') hu') hv'
      have v9 : upd (upd H' u (.tup [.str fx.1.1, .str fx.1.2])) v (.tup [.str fx.1.1, .str fx.1.2, .int fx.2]) v = some (.tup [.str fx.1.1, .str fx.1.2, .int fx.2]) := upd_same
      generalize upd (upd H' u (.tup [.str fx.1.1, .str fx.1.2])) v (.tup [.str fx.1.1, .str fx.1.2, .int fx.2]) = H9 at r1 s9 v9 ⊢
      refine ⟨ys ++ [.ref v], cs ++ [(fx.1.1, fx.1.2, fx.2)], upd_same, by rw [List.length_append, h2]; rfl, ?_, fun x hx => ?_, ?_, ?_, ?_⟩
      · rw [List.map_append, h3, List.take_succ, hkx]
        rfl
      · rcases List.mem_append.mp hx with z | z
        · exact h4 x z
        · rw [List.mem_singleton.mp z]
          exact hfx
      · exact paired_snoc ⟨v, rfl, nvD, by rw [upd_ne nvD]; exact v9⟩ (paired_imp (fun x c h => (CabT.more s9 h).upd r1) h5)
      · rw [upd_ne npd]
        exact s9 _ _ h6
      · exact same_put (h7.trans s9) hD'
    rintro H4 ⟨ys, cs', h1, h2, h3, h4, h5, h6, h7⟩
    have ea : cs'.map ckey = (c.map (·.1)).mergeSort (PySem.W.dataLe false pD) := by
      rw [h3, List.take_of_length_le]
      rw [List.length_map, ← paired_len pq]
      exact Nat.le_refl _
    have cv : Paired (CabV K H4) ys cs' := paired_imp (fun x c h => let ⟨t, e, _, q⟩ := h; ⟨t, e, SqT.of q⟩) h5
    refine ⟨_, rfl, D, ys, rfl, .inl ⟨SqL.of h1, fun tc htc => ?_⟩⟩
    have m5 : Same H4 (upd H4 tc (.tup ys)) := same_new (Same.refl H4) htc
    have etc : upd H4 tc (.tup ys) tc = some (.tup ys) := upd_same
    have cv5 : Paired (CabV K (upd H4 tc (.tup ys))) ys cs' := paired_imp (fun _ _ h => h.more m5) cv
    generalize upd H4 tc (.tup ys) = H5 at m5 etc cv5 ⊢
    have g5 := m5 _ _ (h7 _ _ g2)
    refine ⟨_, rfl, q, l', r'.map (·.1), rfl, Rd.of g5, by rw [cK_keys ck', List.map_map]; rfl, by rw [List.length_map]; omega, fun ns p2 perm srt hp2 => ⟨p2, rfl, ⟨_, .inl (.inl upd_same)⟩, fun D2 hD2 => ?_⟩⟩
    have npD2 : p2 ≠ D2 := fun e => by rw [← e, upd_same] at hD2; cases hD2
    have hD2' : H5 D2 = none := by rw [upd_ne npD2.symm] at hD2; exact hD2
    have lns : ns.length = r'.length := by rw [perm.length_eq, List.length_map]
    refine lc_list (K := K) (a := p2) (xs := ns.map V.str) (fun i H' => ∃ (zs : List V) (rs' : List Car), H' D2 = some (.lst zs) ∧ zs.length = i ∧ rs'.map (·.1) = ns.take i ∧ (∀ r ∈ rs', r ∈ r') ∧ Paired (CarV K (w2 H3 d q)) zs rs' ∧ H' p2 = some (.lst (ns.map V.str)) ∧ Same H5 H') ?_ ?_ ?_ ?_
    · exact ⟨[], [], upd_same, rfl, by rw [List.take_zero]; rfl, (fun _ z => nomatch z), .nil, by rw [upd_ne npD2, upd_same], same_new (same_new (Same.refl H5) hp2) hD2⟩
    · rintro i H' hi ⟨zs, rs', _, _, _, _, _, h, _⟩
      exact .inl (.inl h)
    · rintro i x H' hx ⟨zs, rs', j1, j2, j3, j4, j5, j6, j7⟩
      rw [List.getElem?_map] at hx
      obtain ⟨z, hz, rfl⟩ := Option.map_eq_some_iff.mp hx
      obtain ⟨r, hr', rfl⟩ := List.mem_map.mp (perm.mem_iff.mp (List.mem_of_getElem? hz))
      obtain ⟨xv, hv, hcv⟩ := cK_get ck' SQ.names hr'
      have dg := DGet.k (k := (Sum.inr r.1 : Key)) (j7 _ _ g5)
      rw [hv] at dg
      refine ⟨rfl, _, rfl, _, rfl, q, xv, rfl, dg, zs, j1, by rw [j2]; exact small1000 (by have := (List.getElem?_eq_some_iff.mp hz).1; omega), zs ++ [xv], rs' ++ [r], upd_same, by rw [List.length_append, j2]; rfl, ?_, fun x hx => ?_, paired_snoc hcv j5, by rw [upd_ne npD2]; exact j6, same_put j7 hD2'⟩
      · rw [List.map_append, j3, List.take_succ, hz]
        rfl
      · rcases List.mem_append.mp hx with y | y
        · exact j4 x y
        · rw [List.mem_singleton.mp y]
          exact hr'
    rintro H6 ⟨zs, rs', j1, j2, j3, j4, j5, j6, j7⟩
    rw [List.length_map, List.take_length] at j3
    refine ⟨D2, zs, rfl, .inl ⟨SqL.of j1, fun tr htr => ?_⟩⟩
    have m7 : Same H6 (upd H6 tr (.tup zs)) := same_new (Same.refl H6) htr
    have etr : upd H6 tr (.tup zs) tr = some (.tup zs) := upd_same
    generalize upd H6 tr (.tup zs) = H7 at m7 etr ⊢
    refine ⟨by show 2 ≤ sizeLine; decide, fun ty hty => ?_⟩
    have m8 : Same H7 (upd H7 ty (.tup [.ref tc, .ref tr])) := same_new (Same.refl H7) hty
    have m58 := j7.trans (m7.trans m8)
    have m38 : Same H3 (upd H7 ty (.tup [.ref tc, .ref tr])) := h7.trans (m5.trans m58)
    have lrs : r'.length = rs'.length := by rw [← lns, ← j3, List.length_map]
    have nrs : (rs'.map (·.1)).Nodup := by rw [j3]; exact perm.nodup_iff.mpr SQ.names
    refine k (.ref ty) cs' rs' _ ⟨ea, h4, by rw [j3]; exact srt, ?_⟩ ⟨ty, tc, tr, ys, zs, rfl, SqT.of upd_same, SqT.of (m58 _ _ etc), SqT.of (m8 _ _ etr), paired_imp (fun _ _ h => h.more m58) cv5, paired_imp (fun _ _ h => h.more ((w2_sub _ _ _).trans m38)) j5⟩ (m3.trans m38)
    exact (perm_of (nodup_map nrs) j4 lrs).symm
end
end Y

/-! SQ1: sets of tuples whatever their elements are: the search, one more. -/
namespace Ns
open PySem PySem.Spec PyProof.Rows L2
section
variable {P : Program} {w : World} {K : Type} [DecidableEq K] (knd : KeyKind P w K)
/-- of the elements a table shows nothing -/
structure Mute : Prop where
  cls : ∀ (n : Nat) (k : K) (v : Value), knd.is k v = true → ofAClassStatement n v = pure false
  val : ∀ (n : Nat) (k : K) (v : Value), knd.is k v = true → ∃ b : Bool, hashByValue n v = pure b
/-- a row's entry -/
def entQ (r : Addr × List K) : Int × Value := (tupleKeyHash knd r.2, .ref r.1)
abbrev hshQ (r : Addr × List K) : Int := tupleKeyHash knd r.2
structure InQ (h : Heap) (a : Addr) (rs : List (Addr × List K)) (es : Array (Int × Value)) (ep : Nat) (t : SetTable) : Prop where
  obj : ∃ ob, h.get? a = some ob ∧ ob.ExactSet ∧ ob.data = .set es ep t
  ents : es.toList = rs.map (entQ knd)
  tbl : TabOk t (rs.map (hshQ knd))
  once : (rs.map (·.2)).Nodup
  tups : ∀ r ∈ rs, IsTupleKey knd h r.2 r.1
  seen : w.params.followText "set-order" = true ∨ t.led = true
  space : rs.length * 5 < t.mask * 3
  most : rs.length < 64
variable {knd} {A : Around} {E : Value → Shared → Prop} {s : Shared}
theorem each_item {ks : List K} {vs : List Value} (h : ItemsAre knd ks vs) : ∀ v ∈ vs, ∃ k, knd.is k v = true := by
  induction h with
  | nil => exact fun _ z => nomatch z
  | cons h1 _ ih => exact fun v hv => (List.mem_cons.mp hv).elim (fun e => ⟨_, e ▸ h1⟩) (ih v)
theorem mute_cls (m : Mute knd) {ks : List K} {a : Addr} {Q : Bool → Shared → Prop} (hk : IsTupleKey knd s.heap ks a) (q : Q false s) : wpAny (model P w) A (ofAClassStatement 8 (.ref a)) Q E s := by
  have ty := hk.typeIs
  obtain ⟨ob, its, nn, hob, _, hdat, hits⟩ := hk
  unfold ofAClassStatement
  refine wpAny_bind (wpAny_typeOf ty ?_)
  dsimp only
  have tt : (("tuple" : String) == "tuple") = true := by decide
  simp only [tt, if_true, Bool.not_true, Bool.false_eq_true, if_false]
  show wpAny _ _ (seqItems? (.ref a) >>= _) _ _ s
  refine wpAny_bind (wpAny_seqItems hob hdat ?_)
  dsimp only
  refine wpAny_bind ?_
  show wpAny _ _ (forIn its _ _) _ _ s
  rw [← Array.forIn_toList]
  refine wpAny_forIn_list _ (fun left r s' => r.1 = none ∧ s' = s ∧ ∀ v ∈ left, ∃ k, knd.is k v = true) _ ?_ ?_ _ _ ⟨rfl, rfl, each_item hits⟩
  · rintro v left r s' ⟨_, rfl, each⟩
    obtain ⟨k, hk⟩ := each v List.mem_cons_self
    rw [m.cls _ k v hk]
    refine wpAny_bind (wpAny_pure ?_)
    simp only [Bool.false_eq_true, if_false]
    exact wpAny_pure ⟨rfl, rfl, fun u hu => each u (List.mem_cons_of_mem _ hu)⟩
  · rintro ⟨r1, r2⟩ s' ⟨e1, rfl, _⟩
    simp only at e1
    subst e1
    exact wpAny_pure q
theorem mute_val (m : Mute knd) {ks : List K} {a : Addr} {Q : Bool → Shared → Prop} (hk : IsTupleKey knd s.heap ks a) (q : ∀ b, Q b s) : wpAny (model P w) A (hashByValue 8 (.ref a)) Q E s := by
  have ty := hk.typeIs
  obtain ⟨ob, its, nn, hob, _, hdat, hits⟩ := hk
  unfold hashByValue
  refine wpAny_bind (wpAny_specialOf ty F.slot_tuple_hash.lookup ?_)
  show wpAny _ _ (seqItems? (.ref a) >>= _) _ _ s
  refine wpAny_bind (wpAny_seqItems hob hdat ?_)
  refine wpAny_bind ?_
  show wpAny _ _ (forIn its _ _) _ _ s
  rw [← Array.forIn_toList]
  refine wpAny_forIn_list _ (fun left r s' => r.1 = none ∧ s' = s ∧ ∀ v ∈ left, ∃ k, knd.is k v = true) _ ?_ ?_ _ _ ⟨rfl, rfl, each_item hits⟩
  · rintro v left r s' ⟨_, rfl, each⟩
    obtain ⟨k, hk⟩ := each v List.mem_cons_self
    obtain ⟨b, hb⟩ := m.val 7 k v hk
    rw [hb]
    refine wpAny_bind (wpAny_pure ?_)
    cases b
    · simp only [Bool.not_false, if_true]
      exact wpAny_pure (wpAny_pure (q false))
    · simp only [Bool.not_true, Bool.false_eq_true, if_false]
      exact wpAny_pure ⟨rfl, rfl, fun u hu => each u (List.mem_cons_of_mem _ hu)⟩
  · rintro ⟨r1, r2⟩ s' ⟨e1, rfl, _⟩
    simp only at e1
    subst e1
    exact wpAny_pure (q true)
/-- a search among such shows nothing -/
theorem unseen (m : Mute knd) {ks : List K} {a : Addr} {Q : Bool → Shared → Prop} (hk : IsTupleKey knd s.heap ks a) {ys : List Value} (hy : ∀ y ∈ ys, ∃ k' c, y = Value.ref c ∧ IsTupleKey knd s.heap k' c) (q : Q false s) :
    wpAny (model P w) A (searchCouldBeSeen (.ref a) ys) Q E s := by
  unfold searchCouldBeSeen
  refine wpAny_bind ?_
  refine wpAny_forIn_list _ (fun left r s' => r.1 = none ∧ s' = s ∧ ∀ y ∈ left, ∃ k' c, y = Value.ref c ∧ IsTupleKey knd s.heap k' c) _ ?_ ?_ _ _ ⟨rfl, rfl, hy⟩
  · rintro v left r s' ⟨_, rfl, each⟩
    obtain ⟨k2, c, rfl, hc⟩ := each v List.mem_cons_self
    have more : ∀ y ∈ left, ∃ k' c, y = Value.ref c ∧ IsTupleKey knd s'.heap k' c := fun u hu => each u (List.mem_cons_of_mem _ hu)
    dsimp only
    by_cases same : (a == c || (carriedByValue (.ref a) && carriedByValue (.ref c))) = true
    · exact wp_if_pos same (wpAny_pure ⟨rfl, rfl, more⟩)
    · refine wp_if_neg same (wpAny_bind (wpAny_eqIsQuiet_tuple hk ?_))
      simp only [Bool.not_true, Bool.false_eq_true, if_false]
      refine wpAny_bind (wpAny_eqIsQuiet_tuple hc ?_)
      simp only [Bool.not_true, Bool.false_eq_true, if_false]
      refine wpAny_bind (mute_cls m hk ?_)
      simp only [Bool.false_eq_true, if_false]
      refine wpAny_bind (mute_cls m hc ?_)
      simp only [Bool.false_eq_true, if_false]
      exact wpAny_pure ⟨rfl, rfl, more⟩
  · rintro ⟨r1, r2⟩ s' ⟨e1, rfl, _⟩
    simp only at e1
    subst e1
    exact wpAny_pure q
variable {a : Addr} {rs : List (Addr × List K)} {es : Array (Int × Value)} {ep : Nat} {t : SetTable}
theorem InQ.len (G : InQ knd s.heap a rs es ep t) : es.size = rs.length := by
  have e := congrArg List.length G.ents
  rwa [Array.length_toList, List.length_map] at e
theorem InQ.plen (G : InQ knd s.heap a rs es ep t) : t.place.toList.length = rs.length := by
  have e := G.tbl.sz
  rwa [List.length_map, ← Array.length_toList] at e
theorem InQ.fit (G : InQ knd s.heap a rs es ep t) : t.fits es.size = true := by
  have e1 := G.plen
  have e2 := G.len
  have e3 := G.space
  rw [Array.length_toList] at e1
  unfold SetTable.fits SetTable.fill
  rw [G.tbl.dm, Bool.and_eq_true, beq_iff_eq, decide_eq_true_eq]
  exact ⟨by omega, by show t.place.size + 0 ≤ t.mask; omega⟩
theorem InQ.ent (G : InQ knd s.heap a rs es ep t) {i : Nat} {r : Addr × List K} (hr : rs[i]? = some r) : es[i]? = some (entQ knd r) := by
  rw [← Array.getElem?_toList, G.ents, List.getElem?_map, hr]
  rfl
/-- the c-th place of a key's way -/
abbrev wy (t : SetTable) (knd : KeyKind P w K) (k : List K) (c : Nat) : Nat := way t.mask (tupleKeyHash knd k) c
abbrev st0 (t : SetTable) (knd : KeyKind P w K) (k : List K) : SetTable.Probe := runAt t.mask (SetTable.bits (tupleKeyHash knd k) % (t.mask + 1)) (SetTable.bits (tupleKeyHash knd k))
theorem nth_dummy (m : Nat) : ∀ (n : Nat) (p : SetTable.Probe), p.dummy = none → (nth m p n).dummy = none
  | 0, _, h => h
  | n + 1, p, h => nth_dummy m n (adv m p) (by unfold adv; split <;> exact h)
/-- the search, c places having been looked at -/
theorem look (m : Mute knd) (G : InQ knd s.heap a rs es ep t) {x : Addr} {k : List K} (hx : IsTupleKey knd s.heap k x) (hu : A.units < cLine) {N : Nat} (hN : N < 10 * SetTable.turns t.mask) (hN1 : wy t knd k N ∉ t.place.toList) (hN2 : ∀ c, c < N → wy t knd k c ∈ t.place.toList)
    {Q : SetFound → Shared → Prop} (yes : k ∈ rs.map (·.2) → Q (.there none) s) (no : k ∉ rs.map (·.2) → Q (.free (wy t knd k N) false) s) :
    ∀ (f c : Nat) (at' : Option SetTable.Probe), at'.getD (t.probeStart (tupleKeyHash knd k)) = nth t.mask (st0 t knd k) c → c ≤ N → N - c < f →
      (∀ (i : Nat) r, rs[i]? = some r → r.2 = k → ∃ d, c ≤ d ∧ d < N ∧ t.place.toList[i]? = some (wy t knd k d)) → wpAny (model P w) A (setSearchFrom a (.ref x) (tupleKeyHash knd k) true f at') Q E s
  | 0, _, _, _, _, z, _ => absurd z (Nat.not_lt_zero _)
  | f + 1, c, at', hat, hc, hf, left => by
    obtain ⟨ob, hob, hset, hdat⟩ := G.obj
    have shift : ∀ q, nth t.mask (nth t.mask (st0 t knd k) c) q = nth t.mask (st0 t knd k) (c + q) := fun q => (nth_add t.mask c _ q).symm
    have place : ∀ q, (nth t.mask (nth t.mask (st0 t knd k) c) q).j = wy t knd k (c + q) := fun q => congrArg SetTable.Probe.j (shift q)
    have hash : ∀ (i : Nat) r, rs[i]? = some r → (es[i]?.map (·.1)).getD 0 = tupleKeyHash knd r.2 := fun i r hr => by rw [G.ent hr]; rfl
    rw [setSearchFrom_succ]
    refine wpAny_bind (wpAny_setState_of hob hdat G.fit ?_)
    dsimp only
    have gw : ¬ t.gaveWay = true := by unfold SetTable.gaveWay; rw [mask_odd G.tbl.mok]; decide
    refine wp_if_neg gw ?_
    have sp := go_spec t G.tbl.ris G.tbl.dm (fun i => (es[i]?.map (·.1)).getD 0) (tupleKeyHash knd k) (10 * SetTable.turns t.mask) (N - c) _ (nth_dummy t.mask c (st0 t knd k) rfl) (by omega)
      (fun q hq => by rw [place]; exact hN2 _ (by omega)) (by rw [place, show c + (N - c) = N by omega]; exact hN1)
    rcases sp with ⟨q, i, hq, hi, _, before, found⟩ | ⟨never, found⟩
    · rw [place] at hi
      have e : t.probe (fun i => (es[i]?.map (·.1)).getD 0) (tupleKeyHash knd k) (at'.getD (t.probeStart (tupleKeyHash knd k))) = some (.candidate (wy t knd k (c + q)) i (nth t.mask (st0 t knd k) (c + (q + 1)))) := by
        rw [hat, ← place, ← shift]
        exact found
      rw [e]
      dsimp only
      have il : i < rs.length := by rw [← G.plen]; exact (List.getElem?_eq_some_iff.mp hi).1
      obtain ⟨r, hr⟩ : ∃ r, rs[i]? = some r := ⟨_, List.getElem?_eq_getElem il⟩
      have rm : r ∈ rs := List.mem_of_getElem? hr
      have go : wpAny (model P w) A (searchRest a (.ref x) (tupleKeyHash knd k) true f es t (wy t knd k (c + q)) i (nth t.mask (st0 t knd k) (c + (q + 1)))) Q E s := by
        unfold searchRest
        rw [G.ent hr]
        dsimp only [entQ]
        refine wpAny_bind (wpAny_holding (wpAny_eqBool_tuple hu (G.tups r rm) hx ?_))
        refine wpAny_bind (wpAny_setState_of hob hdat G.fit ?_)
        dsimp only
        by_cases same : r.2 = k
        · exact wp_if_pos (by simp [same]) (wpAny_pure (yes (List.mem_map.mpr ⟨r, rm, same⟩)))
        · refine wp_if_neg (by simp [same]) ?_
          rw [sameMem]
          dsimp only
          have live : t.slot (wy t knd k (c + q)) = .live i := slot_live G.tbl.ris hi
          simp only [if_true, live, G.ent hr]
          dsimp only [entQ]
          refine wpAny_bind (wpAny_isSame_ref_self (wpAny_bind (wpAny_pure ?_)))
          simp only [if_true]
          refine wp_if_neg (by simp [same]) ?_
          refine look m G hx hu hN hN1 hN2 yes no f (c + (q + 1)) _ rfl (by omega) (by omega) fun i2 r2 h2 k2 => ?_
          obtain ⟨d, d1, d2, d3⟩ := left i2 r2 h2 k2
          refine ⟨d, ?_, d2, d3⟩
          rcases Nat.lt_trichotomy d (c + q) with z | z | z
          · exact absurd ((hash i2 r2 h2).trans (congrArg (tupleKeyHash knd) k2)) (before (d - c) i2 (by omega) (by rw [place, show c + (d - c) = d by omega]; exact d3))
          · rw [z] at d3
            have l2 := slot_live G.tbl.ris d3
            rw [live] at l2
            injection l2 with l2
            rw [← l2, hr] at h2
            cases h2
            exact absurd k2 same
          · omega
      by_cases led : t.led = true
      · exact wp_if_neg (by simp [led]) go
      · refine wp_if_pos (by simp [led]) (wpAny_bind (unseen m hx (fun y hy => ?_) (wp_if_neg (by decide) go)))
        obtain ⟨e1, he1, rfl⟩ := List.mem_map.mp hy
        have he2 : e1 ∈ es.toList := by
          have : e1 ∈ es ∧ e1.1 = tupleKeyHash knd k := by simpa using he1
          simpa using this.1
        rw [G.ents] at he2
        obtain ⟨r2, hr2, rfl⟩ := List.mem_map.mp he2
        exact ⟨r2.2, r2.1, rfl, G.tups r2 hr2⟩
    · have e : t.probe (fun i => (es[i]?.map (·.1)).getD 0) (tupleKeyHash knd k) (at'.getD (t.probeStart (tupleKeyHash knd k))) = some (.empty (wy t knd k N) none) := by
        have e2 : wy t knd k N = (nth t.mask (nth t.mask (st0 t knd k) c) (N - c)).j := by rw [place, show c + (N - c) = N by omega]
        rw [hat, e2]
        exact found
      rw [e]
      dsimp only
      refine wpAny_pure (no fun hm => ?_)
      obtain ⟨r, hr, kr⟩ := List.mem_map.mp hm
      obtain ⟨i, hi⟩ := List.getElem?_of_mem hr
      obtain ⟨d, d1, d2, d3⟩ := left i r hi kr
      exact never (d - c) i (by omega) (by rw [place, show c + (d - c) = d by omega]; exact d3) ((hash i r hi).trans (congrArg (tupleKeyHash knd) kr))
/-- the search for adding -/
theorem look_add (m : Mute knd) (G : InQ knd s.heap a rs es ep t) {x : Addr} {k : List K} (hx : IsTupleKey knd s.heap k x) (hu : A.units < cLine) {Q : SetFound → Shared → Prop} (yes : k ∈ rs.map (·.2) → Q (.there none) s)
    (no : ∀ N, k ∉ rs.map (·.2) → wy t knd k N ∉ t.place.toList → (∀ c, c < N → wy t knd k c ∈ t.place.toList) → Q (.free (wy t knd k N) false) s) : wpAny (model P w) A (setSearch a (.ref x) (tupleKeyHash knd k) true) Q E s := by
  have sp := G.space
  obtain ⟨N, n1, n2, n3⟩ := G.tbl.first (by rw [List.length_map]; omega) (tupleKeyHash knd k)
  have few : N < 100000 := by
    have : 10 * SetTable.turns t.mask ≤ 1420 := by
      unfold SetTable.turns
      rcases G.tbl.mok with z | z | z <;> omega
    omega
  unfold setSearch
  refine look m G hx hu n1 n2 n3 yes (fun h => no N h n2 n3) 100000 0 none rfl (Nat.zero_le _) (by omega) fun i r hr hk => ?_
  have hh : (rs.map (hshQ knd))[i]? = some (tupleKeyHash knd k) := by rw [List.getElem?_map, hr, ← hk]; rfl
  have il : i < t.place.toList.length := by rw [G.plen]; exact (List.getElem?_eq_some_iff.mp hr).1
  obtain ⟨d, d1, d2⟩ := G.tbl.before n2 hh (List.getElem?_eq_getElem il)
  exact ⟨d, Nat.zero_le _, d1, by rw [List.getElem?_eq_getElem il]; exact congrArg some d2.symm⟩
end
end Ns

/-! SQ2: one tuple more in a set. -/
namespace Ns
open PySem PySem.Spec PyProof.Rows L2
section
variable {P : Program} {w : World} {K : Type} [DecidableEq K] {knd : KeyKind P w K} {A : Around} {E : Value → Shared → Prop} {s : Shared}
/-- a tuple stands where a set is written -/
theorem tup_but {h h' : Heap} {ks : List K} {a b : Addr} {ob : Obj} {es : Array (Int × Value)} {ep : Nat} {t : SetTable} (hk : IsTupleKey knd h ks b) (hob : h.get? a = some ob) (hdat : ob.data = .set es ep t) (but : Heap.SameBut a h h') : IsTupleKey knd h' ks b := by
  obtain ⟨o2, its, nn, h1, h2, h3, h4⟩ := hk
  refine ⟨o2, its, nn, (but.2 b fun e => ?_).trans h1, h2, h3, h4⟩
  rw [e, hob] at h1
  cases h1
  rw [hdat] at h3
  cases h3
theorem put_in {α β : Type} (f : α → β) (l : List α) (p : Nat) (x : α) : (l.take p ++ x :: l.drop p).map f = (l.map f).take p ++ f x :: (l.map f).drop p := by
  rw [List.map_append, List.map_cons, List.map_take, List.map_drop]
/-- by places: a row's items in another order -/
theorem by_places {α β : Type} (f : α → β) (l : List α) : ∀ ord : List Nat, ord.filterMap (fun i => (l.map f)[i]?) = (ord.filterMap fun i => l[i]?).map f
  | [] => rfl
  | i :: ord => by
    have ih := by_places f l ord
    cases e : l[i]? with
    | none => rw [List.filterMap_cons_none e, List.filterMap_cons_none (by rw [List.getElem?_map, e]; rfl), ih]
    | some x => rw [List.filterMap_cons_some e, List.filterMap_cons_some (show (l.map f)[i]? = some (f x) by rw [List.getElem?_map, e]; rfl), List.map_cons, ih]
theorem places_all {α : Type} (l : List α) : (List.range l.length).filterMap (fun i => l[i]?) = l := by
  have key : ∀ n, n ≤ l.length → (List.range n).filterMap (fun i => l[i]?) = l.take n := by
    intro n
    induction n with
    | zero => exact fun _ => rfl
    | succ n ih =>
      intro hn
      rw [List.range_succ, List.filterMap_append, ih (Nat.le_of_lt hn), List.take_succ, List.getElem?_eq_getElem hn]
      rw [List.filterMap_cons_some (List.getElem?_eq_getElem hn)]
      rfl
  rw [key _ (Nat.le_refl _), List.take_length]
theorem places_perm {α : Type} {l : List α} {ord : List Nat} (h : ord.Perm (List.range l.length)) : (ord.filterMap fun i => l[i]?).Perm l := by
  have := h.filterMap fun i => l[i]?
  rwa [places_all] at this
theorem places_get {α β : Type} (f : α → β) (d : β) (l : List α) : ∀ {ord : List Nat}, (∀ i ∈ ord, i < l.length) → ord.map (fun i => (l.map f).toArray.getD i d) = (ord.filterMap fun i => l[i]?).map f
  | [], _ => rfl
  | i :: ord, h => by
    have il := h i List.mem_cons_self
    rw [List.map_cons, places_get f d l fun j hj => h j (List.mem_cons_of_mem _ hj), List.filterMap_cons_some (List.getElem?_eq_getElem il), List.map_cons]
    congr 1
    have il2 : i < (l.map f).toArray.size := by simpa using il
    simp [Array.getD_eq_getD_getElem?, il]
variable {a : Addr} {rs : List (Addr × List K)} {es : Array (Int × Value)} {ep : Nat} {t : SetTable}
/-- the table laid anew -/
theorem relay_q {ob : Obj} (hob : s.heap.get? a = some ob) (hset : ob.ExactSet) (hdat : ob.data = .set es ep t) (ents : es.toList = rs.map (entQ knd)) (psz : t.place.size = es.size) (dm : t.dummies = #[]) (le : es.size ≤ t.mask) (once : (rs.map (·.2)).Nodup)
    (tups : ∀ r ∈ rs, IsTupleKey knd s.heap r.2 r.1) (seen : w.params.followText "set-order" = true ∨ t.led = true) (most : rs.length < 64) {want M : Nat} (hM : SetTable.sizeAbove want - 1 = M) (mok : MaskOk M) (small : SetTable.sizeAbove want ≤ 128) (space : rs.length * 5 < M * 3)
    {Q : Unit → Shared → Prop} (q : ∀ h' rs' es' ep' t', Heap.SameBut a s.heap h' → InQ knd h' a rs' es' ep' t' → rs'.Perm rs → Q () { s with heap := h' }) : wpAny (model P w) A (setRelay a want) Q E s := by
  have len : es.size = rs.length := by
    have e := congrArg List.length ents
    rwa [Array.length_toList, List.length_map] at e
  have fit : t.fits es.size = true := by
    unfold SetTable.fits SetTable.fill
    rw [dm, Bool.and_eq_true, beq_iff_eq, decide_eq_true_eq]
    exact ⟨psz, by show t.place.size + 0 ≤ t.mask; omega⟩
  have hs : es.map (·.1) = (rs.map (hshQ knd)).toArray := by
    apply Array.toList_inj.mp
    rw [Array.toList_map, ents, List.map_map]
    rfl
  obtain ⟨t2, ord, e, per, T, em, el, _, _⟩ := relaid_ok t (hs := es.map (·.1)) (wanted := want) hM mok (by rw [Array.size_map, len]; omega)
  rw [Array.size_map, len] at per
  have bd : ∀ i ∈ ord.toList, i < rs.length := fun i hi => List.mem_range.mp (per.mem_iff.mp hi)
  rw [hs, places_get (hshQ knd) 0 rs bd] at T
  have pr : (ord.toList.filterMap fun i => rs[i]?).Perm rs := places_perm per
  have ents2 : (ord.filterMap (es[·]?)).toList = (ord.toList.filterMap fun i => rs[i]?).map (entQ knd) := by
    rw [← by_places, ← ents, Array.toList_filterMap]
    congr 1
    funext i
    rw [Array.getElem?_toList]
  generalize (ord.toList.filterMap fun i => rs[i]?) = rs2 at T pr ents2
  have len2 : (ord.filterMap (es[·]?)).size = es.size := by
    have e := congrArg List.length ents2
    rw [Array.length_toList, List.length_map, pr.length_eq] at e
    rw [e, len]
  rw [setRelay_eq]
  refine wpAny_bind (wpAny_setState_of hob hdat fit ?_)
  dsimp only
  refine wp_if_neg (by rw [sizeLine_eq]; omega) ?_
  rw [e]
  dsimp only
  refine wpAny_bind (wp_if_neg (by rw [len2]; simp) (wpAny_pure ?_))
  dsimp only
  refine wpAny_storeSet_of hob hdat ?_ (by rw [len2, len, sizeLine_eq]; omega)
  have but : Heap.SameBut a s.heap (s.heap.update a (Obj.putSet (ord.filterMap (es[·]?)) t2)) := Heap.SameBut.update ..
  refine q _ rs2 (ord.filterMap (es[·]?)) (ep + 1) t2 but ⟨⟨_, store_at hob hdat, ⟨hset.1, hset.2.1, hset.2.2⟩, rfl⟩, ents2, T, (pr.map (·.2)).nodup_iff.mpr once, fun r hr => tup_but (tups r (pr.mem_iff.mp hr)) hob hdat but, by rw [el]; exact seen, by rw [pr.length_eq, em]; exact space, by rw [pr.length_eq]; exact most⟩ pr
theorem flag_q (m : Mute knd) {x : Addr} {k : List K} (hx : IsTupleKey knd s.heap k x) {c : Bool} {Q : Bool → Shared → Prop} (q : ∀ b, Q b s) : wpAny (model P w) A (if c = true then hashByValue 8 (.ref x) else pure true) Q E s := by
  split
  · exact mute_val m hx q
  · exact wpAny_pure (q true)
/-- ADDING a tuple -/
theorem add_q (m : Mute knd) (G : InQ knd s.heap a rs es ep t) {x : Addr} {k : List K} (hx : IsTupleKey knd s.heap k x) (hu : A.units < cLine) (most : rs.length + 1 < 64) {Q : Bool → Shared → Prop}
    (q : ∀ b h' rs' es' ep' t', Heap.SameBut a s.heap h' → InQ knd h' a rs' es' ep' t' → (k ∈ rs.map (·.2) → rs' = rs) → (k ∉ rs.map (·.2) → rs'.Perm ((x, k) :: rs)) → Q b { s with heap := h' }) :
    wpAny (model P w) A (setAddHashed a (.ref x) (tupleKeyHash knd k)) Q E s := by
  obtain ⟨ob, hob, hset, hdat⟩ := G.obj
  have len := G.len
  have sp := G.space
  unfold setAddHashed
  refine wpAny_holding ?_
  rw [show (100000 : Nat) = 99999 + 1 from rfl, setAddHashedIn_succ]
  refine wpAny_bind (wpAny_setState_of hob hdat G.fit ?_)
  dsimp only
  refine wp_if_neg (by simp [byScan, Value.scannable]) ?_
  refine wpAny_bind (look_add m G hx hu (fun hm => wpAny_pure (q false s.heap rs es ep t (Heap.SameBut.refl a s.heap) G (fun _ => rfl) fun z => absurd hm z)) fun N nin h1 h2 => ?_)
  dsimp only
  refine wpAny_bind (wpAny_setState_of hob hdat G.fit ?_)
  dsimp only
  obtain ⟨g1, g2, g3, g4, g5, g6, g7, g8, g9⟩ := G.tbl.put h1 h2
  generalize t.put (wy t knd k N) = tp at g1 g3 g4 g5 g7 g8 g9 ⊢
  obtain ⟨t0, p⟩ := tp
  dsimp only at g1 g3 g4 g5 g7 g8 g9 ⊢
  subst g1
  suffices key : ∀ fl : Bool, wpAny (model P w) A (do
      storeSet a (SetTable.insertAt es (SetTable.below t.place (way t.mask (tupleKeyHash knd k) N)) (tupleKeyHash knd k, Value.ref x)) (if fl = true then t0 else { t0 with plain := false })
      if (!false && (if fl = true then t0 else { t0 with plain := false }).tooFull) = true then do
          setRelay a (SetTable.grown (es.size + 1))
          pure true
        else pure true) Q E s by
    by_cases pl : t0.plain = true
    · exact wp_if_pos pl (wpAny_bind (mute_val m hx key))
    · refine wp_if_neg pl ?_
      first
        | exact key true
        | exact wpAny_bind (wpAny_pure (key true))
  intro fl
  have same : ∃ t1 : SetTable, (if fl = true then t0 else { t0 with plain := false }) = t1 ∧ TabOk t1 ((rs.map (hshQ knd)).take (SetTable.below t.place (way t.mask (tupleKeyHash knd k) N)) ++ tupleKeyHash knd k :: (rs.map (hshQ knd)).drop (SetTable.below t.place (way t.mask (tupleKeyHash knd k) N))) ∧ t1.mask = t.mask ∧ t1.led = t.led ∧ t1.tooFull = t0.tooFull := by
    cases fl
    · exact ⟨_, rfl, ⟨g3.ris, g3.dm, g3.sz, g3.mok, g3.bd, g3.reach⟩, g4, g5, rfl⟩
    · exact ⟨_, rfl, g3, g4, g5, rfl⟩
  have g0 : t0.mask = t.mask := g4
  obtain ⟨t1, e1, g3, g4, g5, g10⟩ := same
  rw [← g4] at g0
  rw [e1]
  clear e1
  have ents1 : (SetTable.insertAt es (SetTable.below t.place (way t.mask (tupleKeyHash knd k) N)) (tupleKeyHash knd k, Value.ref x)).toList = (rs.take (SetTable.below t.place (way t.mask (tupleKeyHash knd k) N)) ++ (x, k) :: rs.drop (SetTable.below t.place (way t.mask (tupleKeyHash knd k) N))).map (entQ knd) := by
    rw [SetTable.toList_insertAt, put_in, G.ents]
    rfl
  generalize SetTable.below t.place (way t.mask (tupleKeyHash knd k) N) = p at g2 g3 ents1 ⊢
  have per := L2.put_perm rs p (x, k)
  have len1 : (rs.take p ++ (x, k) :: rs.drop p).length = rs.length + 1 := per.length_eq
  rw [show tupleKeyHash knd k = hshQ knd (x, k) from rfl, ← put_in] at g3
  have once1 : ((rs.take p ++ (x, k) :: rs.drop p).map (·.2)).Nodup := (per.map (·.2)).nodup_iff.mpr (by rw [List.map_cons]; exact List.nodup_cons.mpr ⟨nin, G.once⟩)
  have sz1 : (SetTable.insertAt es p (tupleKeyHash knd k, Value.ref x)).size = rs.length + 1 := by
    have e := congrArg List.length ents1
    rwa [Array.length_toList, List.length_map, len1] at e
  generalize SetTable.insertAt es p (tupleKeyHash knd k, Value.ref x) = es1 at ents1 sz1 ⊢
  generalize rs.take p ++ (x, k) :: rs.drop p = rs1 at per len1 g3 once1 ents1
  refine wpAny_bind (wpAny_storeSet_of hob hdat ?_ (by rw [sz1, sizeLine_eq]; omega))
  have but : Heap.SameBut a s.heap (s.heap.update a (Obj.putSet es1 t1)) := Heap.SameBut.update ..
  have hob1 := store_at (es' := es1) (t' := t1) hob hdat
  generalize s.heap.update a (Obj.putSet es1 t1) = h1' at but hob1 ⊢
  have tups1 : ∀ r ∈ rs1, IsTupleKey knd h1' r.2 r.1 := fun r hr => (List.mem_cons.mp (per.mem_iff.mp hr)).elim (fun e => by rw [e]; exact tup_but hx hob hdat but) fun hr => tup_but (G.tups r hr) hob hdat but
  have seen1 : w.params.followText "set-order" = true ∨ t1.led = true := by rw [g5]; exact G.seen
  by_cases full : t1.tooFull = true
  · have big : (rs.length + 1) * 5 ≥ t1.mask * 3 := by
      have f := full
      rw [g10] at f
      unfold SetTable.tooFull at f
      rwa [decide_eq_true_eq, g9, List.length_map, g0] at f
    have two : (t.mask = 7 ∧ rs.length = 4) ∨ (t.mask = 31 ∧ rs.length = 18) := by
      rw [g4] at big
      rcases G.tbl.mok with z | z | z
      · exact .inl ⟨z, by omega⟩
      · exact .inr ⟨z, by omega⟩
      · omega
    have psz : t1.place.size = es1.size := by
      have e := g3.sz
      rw [List.length_map, len1] at e
      rw [e, sz1]
    have go : ∀ M, SetTable.sizeAbove (SetTable.grown (rs.length + 1)) - 1 = M → MaskOk M → SetTable.sizeAbove (SetTable.grown (rs.length + 1)) ≤ 128 → (rs.length + 1) * 5 < M * 3 →
        wpAny (model P w) A (setRelay a (SetTable.grown (rs.length + 1))) (fun _ s' => wpAny (model P w) A (pure true) Q E s') E { s with heap := h1' } := fun M m1 m2 m3 m4 => by
      refine relay_q (s := { s with heap := h1' }) hob1 ⟨hset.1, hset.2.1, hset.2.2⟩ rfl ents1 psz g3.dm (by rw [sz1, g4]; rcases two with ⟨z, z2⟩ | ⟨z, z2⟩ <;> omega) once1 tups1 seen1 (by rw [len1]; exact most) m1 m2 m3 (by rw [len1]; exact m4) fun h2' rs2 es2 ep2 t2 but2 G2 per2 => ?_
      exact wpAny_pure (q true h2' rs2 es2 ep2 t2 (but.trans but2) G2 (fun z => absurd z nin) fun _ => per2.trans per)
    rw [len]
    have run : wpAny (model P w) A (setRelay a (SetTable.grown (rs.length + 1))) (fun _ s' => wpAny (model P w) A (pure true) Q E s') E { s with heap := h1' } := by
      rcases two with ⟨_, z⟩ | ⟨_, z⟩
      · exact go 31 (by rw [z, size_20]) (.inr (.inl rfl)) (by rw [z, size_20]; decide) (by omega)
      · exact go 127 (by rw [z, size_76]) (.inr (.inr rfl)) (by rw [z, size_76]; decide) (by omega)
    first
      | exact wpAny_bind (wp_if_pos (by simp [full]) run)
      | exact wp_if_pos (by simp [full]) (wpAny_bind run)
  · have ok : (rs.length + 1) * 5 < t1.mask * 3 := by
      have f := full
      rw [g10] at f
      unfold SetTable.tooFull at f
      rw [decide_eq_true_eq, g9, List.length_map, g0] at f
      omega
    have fin : Q true { s with heap := h1' } := q true h1' rs1 es1 (ep + 1) t1 but ⟨⟨_, hob1, ⟨hset.1, hset.2.1, hset.2.2⟩, rfl⟩, ents1, g3, once1, tups1, seen1, by rw [len1]; exact ok, by rw [len1]; exact most⟩ (fun z => absurd z nin) fun _ => per
    first
      | exact wp_if_neg (by simp [full]) (wpAny_pure fin)
      | exact wpAny_bind (wp_if_neg (by simp [full]) (wpAny_pure (wpAny_pure fin)))
end
end Ns

/-! SQ3: set(xs), xs couples of texts; sorted of it; < of data. -/
namespace Ns
open PySem PySem.Spec PyProof.Rows L2
open PySem.W (dataLe AllAlike Sortable EachIs)
section
variable {P : Program} {w : World} {K : Type} [DecidableEq K] {knd : KeyKind P w K} {A : Around} {E : Value → Shared → Prop} {s : Shared}
theorem tup_keep {h h' : Heap} {ks : List K} {b : Addr} (hk : IsTupleKey knd h ks b) (k : ∀ o, h.get? b = some o → h'.get? b = some o) : IsTupleKey knd h' ks b := by
  obtain ⟨ob, its, nn, hob, r⟩ := hk
  exact ⟨ob, its, nn, k _ hob, r⟩
theorem InQ.keep {h h' : Heap} {a : Addr} {rs : List (Addr × List K)} {es : Array (Int × Value)} {ep : Nat} {t : SetTable} (G : InQ knd h a rs es ep t) (k : ∀ o, h.get? a = some o → h'.get? a = some o) (tups : ∀ r ∈ rs, IsTupleKey knd h' r.2 r.1) : InQ knd h' a rs es ep t := by
  obtain ⟨ob, hob, r⟩ := G.obj
  exact ⟨⟨ob, k _ hob, r⟩, G.ents, G.tbl, G.once, tups, G.seen, G.space, G.most⟩
theorem inQ_new {h : Heap} {a : Addr} (e : h.get? a = some (set0 w)) : InQ knd h a [] #[] 0 (.fresh 0 0 (!w.params.followText "set-order")) :=
  ⟨⟨_, e, ⟨rfl, rfl, rfl⟩, rfl⟩, rfl, ⟨List.Pairwise.nil, rfl, rfl, .inl rfl, (fun _ z => by cases z), fun i _ _ z => by simp at z⟩, List.nodup_nil, (fun _ z => nomatch z),
    (by show _ ∨ (!w.params.followText "set-order") = true
        cases w.params.followText "set-order" <;> simp), (by show 0 * 5 < 7 * 3; decide), (by show 0 < 64; decide)⟩
/-- a row of tuples goes into the set -/
theorem fill_q (m : Mute knd) {I L S : Addr} {ks : List (Addr × List K)} {items : Array Value} (hh : A.in1.handled = none) (hu : A.in1.units < cLine) (hL : L ≠ I) (hS : S ≠ I) (hSL : S ≠ L) (its : items.toList = ks.map fun r => Value.ref r.1) (few : ∀ l : List (List K), l.Nodup → (∀ k ∈ l, k ∈ ks.map (·.2)) → l.length < 63) {R : Result → Shared → Prop} :
    ∀ (n i : Nat) (s : Shared) (rs : List (Addr × List K)) (es : Array (Int × Value)) (ep : Nat) (t : SetTable), items.size - i = n → i ≤ items.size → s.heap.IsListIter I L i → s.heap.IsList L items → InQ knd s.heap S rs es ep t → rs.length ≤ i → (∀ r ∈ rs, r ∈ ks) → (∀ k, k ∈ rs.map (·.2) ↔ k ∈ (ks.take i).map (·.2)) →
      (∀ r ∈ ks, IsTupleKey knd s.heap r.2 r.1 ∧ r.1 ≠ S ∧ r.1 ≠ I) →
      (∀ s' rs' es' ep' t', (∀ c o, c ≠ S → c ≠ I → s.heap.get? c = some o → s'.heap.get? c = some o) → s'.gens = s.gens → s'.drawn = s.drawn → s'.os = s.os → InQ knd s'.heap S rs' es' ep' t' → (∀ r ∈ rs', r ∈ ks) → (∀ k, k ∈ rs'.map (·.2) ↔ k ∈ ks.map (·.2)) → R (.ok (.ret .none)) s') →
      codeAny (model P w) A (.builtin "set.update.loop" ⟨[.ref S, .ref I], []⟩) R s := by
  have W := Walks.list (prog := P) (w := w) (A := A.in1) hh I L hL items
  have lx : ks.length = items.size := by rw [← Array.length_toList, its, List.length_map]
  intro n
  induction n with
  | zero =>
    intro i s rs es ep t hn hi i1 i2 G hl sub hm tk q
    have e : i = items.size := by omega
    rw [e] at hm i1
    refine codeAny_builtin F.entry_set_update_loop ?_
    rw [Around.under_plainId F.plain_set_update_loop _]
    refine wpAny_bind (W.done s _ _ ⟨i1, i2⟩ fun h' tok kp => ?_)
    rw [← lx, List.take_length] at hm
    have kpS : ∀ {c : Addr} {o : Obj}, c ≠ I → s.heap.get? c = some o → h'.get? c = some o := fun n2 e => kp _ _ (by rw [List.mem_singleton]; exact n2) e
    exact wpAny_pure (q _ rs es ep t (fun c o _ n2 e => kpS n2 e) rfl rfl rfl (G.keep (fun o => kpS hS) fun r hr => tup_keep (tk r (sub r hr)).1 fun o => kpS (tk r (sub r hr)).2.2) sub hm)
  | succ n ih =>
    intro i s rs es ep t hn hi i1 i2 G hl sub hm tk q
    have lt : i < items.size := by omega
    refine codeAny_builtin F.entry_set_update_loop ?_
    rw [Around.under_plainId F.plain_set_update_loop _]
    refine wpAny_bind (W.item i s _ _ lt ⟨i1, i2⟩ fun v h' tok hv st kp => ?_)
    have kpS : ∀ {c : Addr} {o : Obj}, c ≠ I → s.heap.get? c = some o → h'.get? c = some o := fun n2 e => kp _ _ (by rw [List.mem_singleton]; exact n2) e
    obtain ⟨r, hr, rfl⟩ : ∃ r, ks[i]? = some r ∧ v = .ref r.1 := by
      rw [← Array.getElem?_toList, its, List.getElem?_map] at hv
      obtain ⟨r, h1, h2⟩ := Option.map_eq_some_iff.mp hv
      exact ⟨r, h1, h2.symm⟩
    have rk : r ∈ ks := List.mem_of_getElem? hr
    have tk' : ∀ r ∈ ks, IsTupleKey knd h' r.2 r.1 := fun r hr => tup_keep (tk r hr).1 fun o => kpS (tk r hr).2.2
    have G1 : InQ knd h' S rs es ep t := G.keep (fun o => kpS hS) fun r hr => tk' r (sub r hr)
    refine wpAny_bind (wpAny_holding ?_)
    unfold setAdd
    refine wpAny_holding (wpAny_bind (wpAny_pyHash_tuple hu (tk' r rk) ?_))
    refine add_q m (s := { s with heap := h', toks := tok + (r.2.length + 1) }) G1 (tk' r rk) hu (by
      have := few (rs.map (·.2)) G.once fun k hk => by
        obtain ⟨x, hx, rfl⟩ := List.mem_map.mp hk
        exact List.mem_map.mpr ⟨x, sub x hx, rfl⟩
      rw [List.length_map] at this
      omega) fun b h2 rs2 es2 ep2 t2 but G2 c1 c2 => ?_
    have bs : ∀ {c : Addr} {o : Obj}, c ≠ S → h'.get? c = some o → h2.get? c = some o := fun n e => (but.2 _ n).trans e
    have i3 : h2.IsListIter I L (i + 1) := st.1.at fun o e => bs (Ne.symm hS) e
    have i4 : h2.IsList L items := st.2.at fun o e => bs (Ne.symm hSL) e
    have now : (ks.take (i + 1)).map (·.2) = (ks.take i).map (·.2) ++ [r.2] := by rw [List.take_succ, hr, List.map_append]; rfl
    have fin : rs2.length ≤ i + 1 ∧ (∀ r ∈ rs2, r ∈ ks) ∧ ∀ k, k ∈ rs2.map (·.2) ↔ k ∈ (ks.take (i + 1)).map (·.2) := by
      by_cases hin : r.2 ∈ rs.map (·.2)
      · rw [c1 hin]
        refine ⟨by omega, sub, fun k => ?_⟩
        rw [now, List.mem_append, List.mem_singleton, hm]
        exact ⟨.inl, fun z => z.elim id fun e => e ▸ (hm _).mp hin⟩
      · have per := c2 hin
        refine ⟨by rw [per.length_eq, List.length_cons]; omega, fun x hx => (List.mem_cons.mp (per.mem_iff.mp hx)).elim (fun e => e ▸ rk) (sub x), fun k => ?_⟩
        rw [(per.map (·.2)).mem_iff, List.map_cons, List.mem_cons, now, List.mem_append, List.mem_singleton, hm]
        exact Or.comm
    obtain ⟨f1, f2, f3⟩ := fin
    refine wpAny_pure ⟨plainId_quiet F.plain_set_update_loop _, ih (i + 1) _ rs2 es2 ep2 t2 (by omega) lt i3 i4 G2 f1 f2 f3 (fun r hr => ⟨tup_keep (tk' r hr) fun o => bs (tk r hr).2.1, (tk r hr).2⟩) fun s' rs' es' ep' t' k3 g1 g2 g3 G3 s3 m3 => ?_⟩
    exact q s' rs' es' ep' t' (fun c o n1 n2 e => k3 c o n1 n2 (bs n1 (kpS n2 e))) g1 g2 g3 G3 s3 m3
set_option maxHeartbeats 3200000 in
/-- set(xs), xs a list of tuples -/
theorem set_of_q (m : Mute knd) {l : Addr} {items : Array Value} {ks : List (Addr × List K)} {Q : Value → Shared → Prop} (hh : A.handled = none) (hu : A.units + 3 < cLine) (hl : s.heap.IsList l items) (its : items.toList = ks.map fun r => Value.ref r.1) (few : ∀ l : List (List K), l.Nodup → (∀ k ∈ l, k ∈ ks.map (·.2)) → l.length < 63) (tk : ∀ r ∈ ks, IsTupleKey knd s.heap r.2 r.1)
    (q : ∀ (h' : Heap) (tok : Nat) rs es ep t, (∀ c o, s.heap.get? c = some o → h'.get? c = some o) → InQ knd h' s.heap.objs.size rs es ep t → (∀ r ∈ rs, r ∈ ks) → (∀ k, k ∈ rs.map (·.2) ↔ k ∈ ks.map (·.2)) → Q (.ref s.heap.objs.size) { s with heap := h', toks := tok }) :
    wpAny (model P w) A (call (.type "set") [.ref l]) Q E s := by
  obtain ⟨c, tl, hmro⟩ := F.called_set.mro
  have f1 := F.called_set.made
  have f2 := F.called_set.sub
  have f3 := F.called_set.notType
  have f4 := F.called_set.canCreate
  have f5 := F.typeCall_set_1 (.ref l)
  refine wpAny_call (codeAny_of_tree ?_)
  show wpAny _ _ (callAny (.type "set") _) _ _ _
  refine wpAny_pure ⟨Code.quiet_builtin _ (by decide +kernel), codeAny_builtin F.entry_type_call ?_⟩
  rw [Around.under_plain (weight_type_call_type "set" [.ref l] []) rfl]
  repeat (any_goals (first | assumption | wp_step))
  refine codeAny_mono (code_set_led1 (.ref l) (E := E) (Q₁ := fun obj s₁ => obj = .ref s.heap.objs.size ∧ s₁ = { s with heap := s.heap.push (set0 w) }) ⟨rfl, rfl⟩) fun r s₁ hr => ?_
  rcases r with e | fl
  · exact hr
  cases fl with
  | ret obj =>
    obtain ⟨rfl, rfl⟩ := hr
    have at0 : (s.heap.push (set0 w)).get? s.heap.objs.size = some (set0 w) := Heap.get?_push_size _ rfl
    have ty0 : Shared.TypeIs { s with heap := s.heap.push (set0 w) } (.ref s.heap.objs.size) "set" := ⟨_, at0, rfl⟩
    have f6 := F.called_set.init.lookup
    have f7 := F.called_set.init.bind (.ref s.heap.objs.size)
    repeat (any_goals (first | assumption | wp_step))
    refine codeAny_mono (codeAny_call_builtin (R := wants (fun r s₂ => r = .none ∧ ∃ h' tok rs es ep t, s₂ = { s with heap := h', toks := tok } ∧ (∀ c o, s.heap.get? c = some o → h'.get? c = some o) ∧ InQ knd h' s.heap.objs.size rs es ep t ∧ (∀ r ∈ rs, r ∈ ks) ∧ (∀ k, k ∈ rs.map (·.2) ↔ k ∈ ks.map (·.2))) E)
      F.called_set.init.plain F.entry_set_init (check_set_init_1 ty0 ?_)) fun r₂ s₂ hr₂ => ?_
    · obtain ⟨⟨ocls, odict, odata, oslots⟩, hol, hcl, nl, hdl⟩ := hl
      simp only at hcl hdl
      subst hcl; subst hdl
      have lS : l < s.heap.objs.size := Heap.lt_size hol
      have hol' : (s.heap.push (set0 w)).get? l = some { cls := .type "list", dict := odict, data := .seq items nl, slots := oslots } := Heap.get?_push_of_some _ hol
      have g1 := F.sub_list_set
      have g2 := F.sub_list_frozenset
      have g3 : (Value.type "list" == Value.type "dict") = false := by decide
      have isl : (s.heap.push (set0 w)).IsList l items := ⟨_, hol', rfl, nl, rfl⟩
      unfold Builtin.«set.__init__» noKeywords Builtin.Frozenset.updateFrom
      generalize keep : pyIter = PI
      wp_walk
      subst keep
      refine wpAny_pyIter_list isl (wpAny_bind (wpAny_runValue ?_))
      have up : (s.heap.push (set0 w)).objs.size = s.heap.objs.size + 1 := size_push' _ _
      refine fill_q m (ks := ks) (by simp [hh]) hu (by rw [up]; exact Nat.ne_of_lt (Nat.lt_succ_of_lt lS)) (by rw [up]; exact Nat.ne_of_lt (Nat.lt_succ_self _)) (Nat.ne_of_gt lS) its few items.size 0 _ [] #[] 0 _ (Nat.sub_zero _) (Nat.zero_le _) ⟨_, Heap.get?_push_size _ rfl, rfl, rfl⟩ (isl.push _)
        (inQ_new (Heap.get?_push_of_some _ at0)) (Nat.le_refl _) (fun _ z => nomatch z) (fun k => by rw [List.take_zero]) (fun r hr => ?_) fun s' rs es ep t kp e1 e2 e3 G sub m2 => ?_
      · obtain ⟨ob, i2, nn, hob, rest⟩ := tk r hr
        have lt := Heap.lt_size hob
        exact ⟨⟨ob, i2, nn, Heap.get?_push_of_some _ (Heap.get?_push_of_some _ hob), rest⟩, Nat.ne_of_lt lt, by rw [up]; exact Nat.ne_of_lt (Nat.lt_succ_of_lt lt)⟩
      · obtain ⟨h', g', d', tk', os'⟩ := s'
        cases e1
        cases e2
        cases e3
        refine wpAny_pure (wpAny_pure ⟨rfl, h', tk', rs, es, ep, t, rfl, fun c o e => ?_, G, sub, m2⟩)
        have cl : c < s.heap.objs.size := Heap.lt_size e
        exact kp c o (Nat.ne_of_lt cl) (by rw [up]; exact Nat.ne_of_lt (Nat.lt_succ_of_lt cl)) (Heap.get?_push_of_some _ (Heap.get?_push_of_some _ e))
    · rcases r₂ with e | fl₂
      · exact hr₂
      cases fl₂ with
      | ret r =>
        obtain ⟨rfl, h', tok, rs, es, ep, t, rfl, kp, G, sub, m2⟩ := hr₂
        repeat (any_goals (first | assumption | wp_step))
        exact q h' tok rs es ep t kp G sub m2
      | _ => exact hr₂.elim
  | _ => exact hr.elim
end
end Ns

/-! SQ4: the hand rules of sets of couples of texts; < of data. -/
namespace Ns
open PySem PySem.Spec PyProof.Rows L2
open PySem.W (dataLe dataLt AllAlike Sortable EachIs)
theorem mute_mix (P : Program) (w : World) : Mute (mixKind P w) where
  cls := fun n k v h => by
    rcases keyIs_shape (show keyIs k v = true from h) with ⟨i, t, rfl, rfl⟩ | ⟨x, t, rfl, rfl⟩ <;> cases n <;> rfl
  val := fun n k v h => by
    rcases keyIs_shape (show keyIs k v = true from h) with ⟨i, t, rfl, rfl⟩ | ⟨x, t, rfl, rfl⟩
    · exact ⟨true, by cases n <;> rfl⟩
    · exact ⟨false, by cases n <;> rfl⟩
abbrev Cp := Addr × (Str × Str)
def cpK (p : Cp) : Addr × List Key := (p.1, pK p.2)
theorem pK_one {a b : Str × Str} (h : pK a = pK b) : a = b := by
  injection h with h1 h2
  injection h2 with h2 _
  injection h1 with h1
  injection h2 with h2
  exact Prod.ext h1 h2
/-- what is known of the set's own object -/
def Q0 (P : Program) (w : World) (h : Heap) (a : Addr) (rs : List Cp) : Prop := ∃ (es : Array (Int × Value)) (ep : Nat) (t : SetTable), (∃ ob, h.get? a = some ob ∧ ob.ExactSet ∧ ob.data = .set es ep t) ∧ es.toList = (rs.map cpK).map (entQ (mixKind P w)) ∧
  TabOk t ((rs.map cpK).map (hshQ (mixKind P w))) ∧ ((rs.map cpK).map (·.2)).Nodup ∧ (w.params.followText "set-order" = true ∨ t.led = true) ∧ (rs.map cpK).length * 5 < t.mask * 3 ∧ (rs.map cpK).length < 64
def SetC (P : Program) (w : World) (a : Addr) (rs : List Cp) : HO := .ext fun h => Q0 P w h a rs
theorem setC_ok {P : Program} {w : World} {H : Hp} {h : Heap} {a : Addr} {rs : List Cp} (X : Q0 P w h a rs) : ObjOk P w H h a (SetC P w a rs) := by
  refine ⟨X, ?_, fun h1 h2 x k => ?_⟩
  · obtain ⟨_, _, _, ⟨ob, hob, _⟩, _⟩ := X
    exact ⟨ob, hob⟩
  · obtain ⟨es, ep, t, ⟨ob, hob, r⟩, r2⟩ := (show Q0 P w h1 a rs from x)
    exact ⟨es, ep, t, ⟨ob, k _ hob, r⟩, r2⟩
theorem pull {α β : Type} {f : α → β} {ps : List α} : ∀ {rs : List β}, (∀ r ∈ rs, r ∈ ps.map f) → ∃ qs : List α, rs = qs.map f ∧ ∀ q ∈ qs, q ∈ ps
  | [], _ => ⟨[], rfl, (fun _ z => nomatch z)⟩
  | r :: rs, h => by
    obtain ⟨qs, e, g⟩ := pull (rs := rs) fun x hx => h x (List.mem_cons_of_mem _ hx)
    obtain ⟨p, hp, ep⟩ := List.mem_map.mp (h r List.mem_cons_self)
    exact ⟨p :: qs, by rw [List.map_cons, e, ep], fun q hq => (List.mem_cons.mp hq).elim (fun z => z ▸ hp) (g q)⟩
theorem unmap {α β : Type} {f : α → β} {vs ws : List β} (h : vs.Perm ws) : ∀ {l : List α}, ws = l.map f → ∃ l2 : List α, vs = l2.map f ∧ l2.Perm l := by
  intro l e
  have h2 := h.symm
  clear h
  induction h2 generalizing l with
  | nil => cases l with
    | nil => exact ⟨[], rfl, .nil⟩
    | cons _ _ => cases e
  | cons x _ ih => cases l with
    | nil => cases e
    | cons y l =>
      injection e with e1 e2
      obtain ⟨l2, g1, g2⟩ := ih e2
      exact ⟨y :: l2, by rw [List.map_cons, e1, g1], g2.cons y⟩
  | swap x y l' => match l, e with
    | [], e => cases e
    | [_], e => cases e
    | a :: b :: l, e =>
      injection e with e1 e
      injection e with e2 e3
      exact ⟨b :: a :: l, by rw [List.map_cons, List.map_cons, e1, e2, e3], .swap a b l⟩
  | trans _ _ ih1 ih2 =>
    obtain ⟨l2, g1, g2⟩ := ih1 e
    obtain ⟨l3, g3, g4⟩ := ih2 g1
    exact ⟨l3, g3, g4.trans g2⟩
theorem refs_of {α : Type} {f : α → Addr} : ∀ {ps : List α} {us : List Value}, Vals (ps.map fun p => V.ref (f p)) us → us = ps.map fun p => Value.ref (f p)
  | [], _, .nil => rfl
  | p :: ps, _, .cons r t => by rw [refs_of t, List.map_cons, show _ = Value.ref (f p) from r]
section
variable {X : Cx} {pins : List (Addr × Obj)} {σ : L2.St} {H : Hp} {s : Shared}
theorem cp_tup (I : Inv X pins σ H s) {t : Addr} {k : Str × Str} (h : SqT X.K H t [.str k.1, .str k.2]) : IsTupleKey (mixKind X.prog X.w) s.heap (pK k) t := by
  obtain ⟨its, rv, ⟨ob, hob, hc, nn, hd⟩, _⟩ := I.tuple h
  exact ⟨ob, _, nn, hob, hc, hd, items_are (ks := pK k) (show Vals ((pK k).map kV) its from rv)⟩
def rSetC (K : PySem.W.Frag) (P : Program) (w : World) : List V → Hp → VK → Prop := fun xs H Q => ∃ (l : Addr) (ps : List Cp), xs = [.ref l] ∧ SqL K H l (ps.map fun p => V.ref p.1) ∧ (∀ l : List (Str × Str), l.Nodup → (∀ k ∈ l, k ∈ ps.map (·.2)) → l.length < 63) ∧ (∀ p ∈ ps, SqT K H p.1 [.str p.2.1, .str p.2.2]) ∧
  ∀ (S : Addr) (rs : List Cp), H S = none → (∀ r ∈ rs, r ∈ ps) → (rs.map (·.2)).Nodup → (∀ k, k ∈ rs.map (·.2) ↔ k ∈ ps.map (·.2)) → Q (.ref S) (upd H S (SetC P w S rs))
theorem call_setC (hc : X.calm = true) (hu : X.A.units + 64 < cLine) : CallR X (.type "set") (rSetC X.K X.prog X.w) := by
  intro pins s σ H xs us Q I r h
  obtain ⟨l, ps, rfl, hs, few, tk, q⟩ := h
  obtain ⟨its, rv, hl, _⟩ := I.list hs
  rw [Vals.ref1 r]
  have ei := refs_of (f := fun p : Cp => p.1) rv
  refine set_of_q (mute_mix X.prog X.w) (ks := ps.map cpK) (I.ok.hd hc) (by omega) hl.isList (by show its = _; rw [ei, List.map_map]; rfl) (fun l nd hm => by
      obtain ⟨qs, rfl, g⟩ := pull (f := pK) (ps := ps.map (·.2)) (rs := l) fun k hk => by
        obtain ⟨x, hx, rfl⟩ := List.mem_map.mp (hm k hk)
        obtain ⟨p, hp, rfl⟩ := List.mem_map.mp hx
        exact List.mem_map.mpr ⟨p.2, List.mem_map.mpr ⟨p, hp, rfl⟩, rfl⟩
      rw [List.length_map]
      exact few qs (List.Pairwise.of_map pK (fun _ _ ne e => ne (congrArg pK e)) nd) g) (fun r hr => ?_) fun h' tok rs es ep t kp G sub m => ?_
  · obtain ⟨p, hp, rfl⟩ := List.mem_map.mp hr
    exact cp_tup I (tk p hp)
  · obtain ⟨qs, rfl, mem⟩ := pull sub
    have X0 : Q0 X.prog X.w h' s.heap.objs.size qs := ⟨es, ep, t, G.obj, G.ents, G.tbl, G.once, G.seen, G.space, G.most⟩
    have nd := G.once
    rw [List.map_map] at nd
    have nd2 : (qs.map (·.2)).Nodup := by
      have : qs.map ((fun r => r.2) ∘ cpK) = (qs.map (·.2)).map pK := by rw [List.map_map]; rfl
      rw [this] at nd
      exact List.Pairwise.of_map pK (fun _ _ ne e => ne (congrArg pK e)) nd
    refine ⟨.ref s.heap.objs.size, upd H s.heap.objs.size (SetC X.prog X.w s.heap.objs.size qs), I.laid (t' := tok) kp (Nat.le_refl _) (setC_ok X0), rfl, q _ qs (I.hok.fresh (Nat.le_refl _)) mem nd2 fun k => ?_⟩
    have e := m (pK k)
    have key : ∀ l : List Cp, pK k ∈ (l.map cpK).map (·.2) ↔ k ∈ l.map (·.2) := fun l => by
      rw [List.map_map]
      constructor
      · intro z
        obtain ⟨p, hp, ep⟩ := List.mem_map.mp z
        exact List.mem_map.mpr ⟨p, hp, pK_one ep⟩
      · intro z
        obtain ⟨p, hp, ep⟩ := List.mem_map.mp z
        exact List.mem_map.mpr ⟨p, hp, by rw [← ep]; rfl⟩
    rw [key, key] at e
    exact e
def rSortC (K : PySem.W.Frag) (P : Program) (w : World) : List V → Hp → VK → Prop := fun xs H Q => ∃ (S : Addr) (rs : List Cp), xs = [.ref S] ∧ H S = some (SetC P w S rs) ∧ (∀ r ∈ rs, SqT K H r.1 [.str r.2.1, .str r.2.2]) ∧
  ∀ (p : Addr) (qs : List Cp), H p = none → qs.Perm rs → qs.Pairwise (fun a b => dataLe false (fun q : Cp => pD q.2) a b = true) → Q (.ref p) (upd H p (.lst (qs.map fun q => V.ref q.1)))
theorem cr_sortC (hc : X.calm = true) (hu : X.A.units + 64 < cLine) : CallR X (.builtin "sorted") (rSortC X.K X.prog X.w) := by
  intro pins s σ H xs us Q I r h
  obtain ⟨S, rs, rfl, hS, tk, q⟩ := h
  obtain rfl := Vals.ref1 r
  obtain ⟨es, ep, t, ⟨ob, hob, hx, hd⟩, ents, tbl, once, seen, space, most⟩ := (show Q0 X.prog X.w s.heap S rs from (show ObjOk X.prog X.w H s.heap S (SetC X.prog X.w S rs) from I.hok S _ hS).1)
  have len : es.size = rs.length := by
    have e := congrArg List.length ents
    rwa [Array.length_toList, List.length_map, List.length_map] at e
  rw [List.length_map] at most space
  have fit : t.fits es.size = true := by
    have e := tbl.sz
    rw [List.length_map, List.length_map] at e
    unfold SetTable.fits SetTable.fill
    rw [tbl.dm, Bool.and_eq_true, beq_iff_eq, decide_eq_true_eq]
    exact ⟨by omega, by show t.place.size + 0 ≤ t.mask; omega⟩
  refine Calls.call_function_entry kind_sorted plain_sorted entry_sorted (args_sorted1 _) ?_
  unfold Builtin.«sorted»
  refine wpAny_bind (m := checkCount "sorted" 1 1 _) (wpAny_pure ?_)
  refine wpAny_bind (collect_set (A := X.A.in1) (I.ok.hd hc) ⟨ob, hob, hx.1, hd⟩ fit (by rw [len]; exact Nat.lt_trans most (by decide)) tbl.ris seen fun s1 vs k1 z1 g1 o1 pm => ?_)
  rw [ents, List.map_map, List.map_map] at pm
  obtain ⟨r2, rfl, per⟩ := unmap (f := fun r : Cp => Value.ref r.1) pm rfl
  have lv : (r2.map fun r : Cp => Value.ref r.1).length < 64 := by rw [List.length_map, per.length_eq]; exact most
  obtain ⟨h', g', d', tk', os'⟩ := s1
  cases o1
  have J : Inv X pins σ H { s with heap := h', gens := g', drawn := d', toks := tk' } := by
    have eg : g' = s.gens := g1
    exact I.call (ch := []) (Un.kept k1) (I.hok.kept k1) (by rw [eg]; exact I.bare) fun _ z => nomatch z
  refine wpAny_bind (wpAny_newList ?_ (by rw [sizeLine_eq]; omega))
  have hoL : (h'.push (seqObj "list" (r2.map fun r : Cp => Value.ref r.1).toArray 0)).get? h'.objs.size = some (seqObj "list" (r2.map fun r : Cp => Value.ref r.1).toArray 0) := Heap.get?_push_size _ rfl
  have e0 : EachIs (fun v (b : Cp) => v = Value.ref b.1 ∧ SqT X.K H b.1 [.str b.2.1, .str b.2.2]) (r2.map fun r : Cp => Value.ref r.1) r2 := by
    have tk2 : ∀ r ∈ r2, SqT X.K H r.1 [.str r.2.1, .str r.2.2] := fun r hr => tk r (per.mem_iff.mp hr)
    clear per hoL lv pm
    induction r2 with
    | nil => exact .nil
    | cons r r2 ih => exact .cons ⟨rfl, tk2 r List.mem_cons_self⟩ (ih fun x hx => tk2 x (List.mem_cons_of_mem _ hx))
  have al : AllAlike (r2.map fun b : Cp => pD b.2) := AllAlike.of fun _ _ => by simp [PySem.W.alike, PySem.W.alikeAll, pD]
  have so : Sortable (r2.map fun b : Cp => pD b.2) := Sortable.tuples fun _ => ⟨_, _, rfl⟩
  refine wpAny_bind (wpAny_holding (PySem.W.list_sort_data (enc := fun b : Cp => pD b.2) (s := { s with heap := h'.push (seqObj "list" (r2.map fun r : Cp => Value.ref r.1).toArray 0), gens := g', drawn := d', toks := tk' }) hoL e0 (each_and e0 fun b _ v rv => ?_) al so (by rw [← List.length_map (f := fun r : Cp => Value.ref r.1), sizeLine_eq]; omega) (fun b _ => ?_) fun out hlo hO => ?_))
  · obtain ⟨rfl, hq⟩ := rv
    obtain ⟨its, rv2, ⟨ot, hot, hct, nt, hdtt⟩, _⟩ := J.tuple hq
    obtain ⟨u1, u2, rfl, r1, r2⟩ := rv2.two
    obtain ⟨t1, rfl⟩ := r1
    obtain ⟨t2, rfl⟩ := r2
    refine ⟨[], Reads.tuple (Heap.get?_push_of_some _ hot) hct hdtt ?_, fun z => nomatch z⟩
    exact ReadsAll.cons (as := []) (bs := []) (.str _ _) (ReadsAll.cons (as := []) (bs := []) (.str _ _) .nil)
  · have : (pD b.2).depth = 1 := by simp [pD, PyData.depth, PyData.depthAll]
    show X.A.units + 1 + 1 + _ < _
    omega
  · have eo : ∀ {o : List Value} {bs : List Cp}, EachIs (fun v (b : Cp) => v = Value.ref b.1 ∧ SqT X.K H b.1 [.str b.2.1, .str b.2.2]) o bs → o = bs.map fun b : Cp => Value.ref b.1 := fun h => by
      induction h with
      | nil => rfl
      | cons h _ ih => rw [List.map_cons, ih, h.1]
    have eo := eo hO
    obtain ⟨e', he'⟩ := PyProof.Rows.sortedHeap_at (vs := r2.map fun r : Cp => Value.ref r.1) (out := out.toArray) hoL
    have pq : (r2.mergeSort (dataLe false fun b : Cp => pD b.2)).Perm rs := (List.mergeSort_perm _ _).trans per
    have hlen : ((r2.mergeSort (dataLe false fun b : Cp => pD b.2)).map fun q : Cp => V.ref q.1).length ≤ sizeLine := by rw [List.length_map, pq.length_eq, sizeLine_eq]; omega
    have vr : Vals ((r2.mergeSort (dataLe false fun b : Cp => pD b.2)).map fun q : Cp => V.ref q.1) out := by
      rw [eo]
      have := vals_refs ((r2.mergeSort (dataLe false fun b : Cp => pD b.2)).map (·.1))
      rw [List.map_map, List.map_map] at this
      exact this
    refine wpAny_pure ⟨_, rfl, .ref h'.objs.size, upd H h'.objs.size (.lst ((r2.mergeSort (dataLe false fun b : Cp => pD b.2)).map fun q : Cp => V.ref q.1)), J.laid (t' := tk') (fun b u e => ?_) (Nat.le_refl _)
      (show ObjOk X.prog X.w _ _ _ (.lst ((r2.mergeSort (dataLe false fun b : Cp => pD b.2)).map fun q : Cp => V.ref q.1)) from ⟨hlen, out, e', vr, by simpa using he'⟩), rfl, q _ _ (J.hok.fresh (Nat.le_refl _)) pq (PySem.W.sort_pairwise (PySem.W.sortLe_total _ _ _) _)⟩
    have hb : b < h'.objs.size := Heap.lt_size e
    rw [PyProof.Rows.sortedHeap_old (Nat.ne_of_lt hb) (by rw [size_push']; exact Nat.lt_succ_of_lt hb)]
    exact Heap.get?_push_of_some _ e
end
end Ns

/-! UK1: the keys under which two dicts have not the same. -/
namespace Y
open PySem PySem.Spec PyProof.Rows L2 Ns
open PySem.W (dataLe dataLt alike)
def capAt : Caps → Str × Str → Option Int
  | [], _ => none
  | p :: c, k => if p.1 = k then some p.2 else capAt c k
theorem kvs_at (k : Str × Str) : ∀ c : Caps, valV (kvs c) (pK k) = (capAt c k).map V.int
  | [] => rfl
  | p :: c => by
    unfold capAt
    by_cases e : p.1 = k
    · rw [if_pos e]
      exact valV_pos (by rw [← e])
    · rw [if_neg e]
      have : valV (kvs (p :: c)) (pK k) = valV (kvs c) (pK k) := valV_neg fun z => e (pK_inj z)
      rw [this, kvs_at k c]
theorem cps_keys {H : Hp} : ∀ {c : Caps} {bs : List Addr}, IsKeys H (kvs c) bs → ∃ ps : List Cp, ps.map (·.1) = bs ∧ ps.map (·.2) = c.map (·.1) ∧ ∀ p ∈ ps, H p.1 = some (.tup [.str p.2.1, .str p.2.2])
  | [], _, .nil => ⟨[], rfl, rfl, (fun _ z => nomatch z)⟩
  | p :: c, _, .cons (b := b) h t => by
    obtain ⟨ps, e1, e2, g⟩ := cps_keys (c := c) t
    exact ⟨(b, p.1) :: ps, by rw [List.map_cons, e1], by rw [List.map_cons, e2, List.map_cons], fun x hx => (List.mem_cons.mp hx).elim (fun z => by rw [z]; exact h) (g x)⟩
def optD : Option Int → PyData
  | none => .none
  | some i => .int i
theorem dp_opt {K : PySem.W.Frag} {H : Hp} (o : Option Int) : Dp K H ((o.map V.int).getD .non) (optD o) := by
  cases o with
  | none => exact .non
  | some i => exact .int i
theorem shaped_opt (o : Option Int) : SeqAt.shaped (optD o) = true := by cases o <;> rfl
theorem eqv_opt (o p : Option Int) : PyData.eqv (optD o) (optD p) = decide (o = p) := by
  cases o with
  | none => cases p with
    | none => rfl
    | some j => rfl
  | some i => cases p with
    | none => rfl
    | some j =>
      have : PyData.eqv (.int i) (.int j) = (i == j) := by simp [PyData.eqv]
      show PyData.eqv (.int i) (.int j) = _
      rw [this]
      by_cases e : i = j <;> simp [e]
/-- what both keep: few keys -/
def Few (a b : List (Str × Str)) : Prop := ∀ l : List (Str × Str), l.Nodup → (∀ k ∈ l, k ∈ a ∨ k ∈ b) → l.length < 63
def spUnC (K : PySem.W.Frag) : Sp := fun as H Q _ => ∃ (d q : Addr) (c1 c2 : Caps), as = [.ref d, .ref q] ∧ H d = some (.dT (kvs c1)) ∧ H q = some (.dT (kvs c2)) ∧ c1.length ≤ 100 ∧ c2.length ≤ 100 ∧ Few (c1.map (·.1)) (c2.map (·.1)) ∧
  ∀ (p : Addr) (ks : List (Str × Str)) (qs : List Cp) (H' : Hp), ks.Nodup → (∀ k, k ∈ ks ↔ k ∈ c1.map (·.1) ∨ k ∈ c2.map (·.1)) → ks.Pairwise (fun a b => dataLe false pD a b = true) → qs.map (·.2) = ks.filter (fun k => !decide (capAt c1 k = capAt c2 k)) →
    H' p = some (.lst (qs.map fun q => V.ref q.1)) → (∀ q ∈ qs, H' q.1 = some (.tup [.str q.2.1, .str q.2.2])) → Same H H' → H p = none → Q (.ref p) H'
section
variable {P : Program} {w : World} {K : PySem.W.Frag} {mg : Str → Option Value} {base : Heap}
theorem scUn : FnScope ["one", "other", "key"] ["one", "other"] (defScope sUnlikeKeys) := ⟨rfl, rfl, rfl, by decide +kernel, rfl, by decide +kernel, by decide +kernel⟩
theorem ok_unC {f : Addr} {fd : FuncData} (F : Fun K "_unlike_keys" "_unlike_keys" sUnlikeKeys f fd) (T : Nat0 mg) : FnOk P w K mg base CX0 1 f fd ["one", "other"] (spUnC K) := by
  refine F.ok scUn (fun as H Q E h => ?_) (fun cdv A outer s H as Q E hr h => ?_)
  · obtain ⟨d, q, c1, c2, rfl, _⟩ := h
    rfl
  · obtain ⟨d, q, c1, c2, rfl, hd, hq, l1, l2, few, k⟩ := h
    have hun := hr.units
    have hu := hu_of hr
    refine ⟨_, pss_one (ps_ret (pe_lc (own := [("key", 2)]) (g := gName 2) (te := tVar 2) rfl scUn.nd (pi_list (pe_callB (cr_sortC rfl hun) (by rfl) T.sorted (by decide +kernel) (pa_cons (pe_callTy (call_setC rfl hun) (by rfl) T.set_ (by decide +kernel)
        (pa_cons (pe_op op_cat (pe_callTy (call_list_dT rfl) (by rfl) T.list_ (by decide +kernel) (pa_cons (pv 0) pa_nil)) (pe_callTy (call_list_dT rfl) (by rfl) T.list_ (by decide +kernel) (pa_cons (pv 1) pa_nil))) pa_nil)) pa_nil)))
      (blkOk_by (N := ["one", "other", "key"]) (sc := defScope sUnlikeKeys) (by decide +kernel)) (fun _ _ _ _ _ => pg_name (i := 2) scUn.nd rfl (Or.inl rfl))
      (fun _ _ _ _ _ => pts_one (pt_cmpR (r := rNeD K) (op_neD hun) (pe_dget1 hu (pv 0) (pv 2) ⟨by rfl, by rfl, by rfl, by rfl⟩) (pe_dget1 hu (pv 1) (pv 2) ⟨by rfl, by rfl, by rfl, by rfl⟩) (nomark _))) (fun _ _ _ _ _ => by exact pv 2))), ?_⟩
    refine ⟨_, rfl, d, _, rfl, Rd.of hd, fun p1 bs1 h1 k1 => ?_⟩
    obtain ⟨ps1, e1, f1, t1⟩ := cps_keys k1
    have M1 := same_new (o := .lst (bs1.map V.ref)) (Same.refl H) h1
    have g1 : upd H p1 (.lst (bs1.map V.ref)) p1 = some (.lst (bs1.map V.ref)) := upd_same
    generalize upd H p1 (.lst (bs1.map V.ref)) = H1 at M1 g1 ⊢
    refine ⟨_, rfl, q, _, rfl, Rd.of (M1 _ _ hq), fun p2 bs2 h2 k2 => ?_⟩
    obtain ⟨ps2, e2, f2, t2⟩ := cps_keys k2
    have M2 := same_new (o := .lst (bs2.map V.ref)) (Same.refl H1) h2
    have g2 : upd H1 p2 (.lst (bs2.map V.ref)) p2 = some (.lst (bs2.map V.ref)) := upd_same
    generalize upd H1 p2 (.lst (bs2.map V.ref)) = H2 at M2 g2 ⊢
    have lb1 : bs1.length = c1.length := by rw [← e1, List.length_map, ← List.length_map (f := (·.2)), f1, List.length_map]
    have lb2 : bs2.length = c2.length := by rw [← e2, List.length_map, ← List.length_map (f := (·.2)), f2, List.length_map]
    refine ⟨p1, p2, _, _, rfl, rfl, M2 _ _ g1, g2, by rw [List.length_map, List.length_map]; exact Nat.le_of_lt (small1000 (by omega)), fun p3 h3 => ?_⟩
    have ej : bs1.map V.ref ++ bs2.map V.ref = (ps1 ++ ps2).map fun p : Cp => V.ref p.1 := by
      rw [← e1, ← e2, List.map_map, List.map_map, List.map_append]
      rfl
    rw [ej]
    have M3 := same_new (o := .lst ((ps1 ++ ps2).map fun p : Cp => V.ref p.1)) (Same.refl H2) h3
    have g3 : upd H2 p3 (.lst ((ps1 ++ ps2).map fun p : Cp => V.ref p.1)) p3 = some (.lst ((ps1 ++ ps2).map fun p : Cp => V.ref p.1)) := upd_same
    have t3 : ∀ p ∈ ps1 ++ ps2, upd H2 p3 (.lst ((ps1 ++ ps2).map fun p : Cp => V.ref p.1)) p.1 = some (.tup [.str p.2.1, .str p.2.2]) := fun p hp => by
      rcases List.mem_append.mp hp with z | z
      · exact (M2.trans M3) _ _ (M1 _ _ (t1 p z))
      · exact M3 _ _ (M2 _ _ (t2 p z))
    generalize upd H2 p3 (.lst ((ps1 ++ ps2).map fun p : Cp => V.ref p.1)) = H3 at M3 g3 t3 ⊢
    have keys : ∀ x, x ∈ (ps1 ++ ps2).map (·.2) ↔ x ∈ c1.map (·.1) ∨ x ∈ c2.map (·.1) := fun x => by rw [List.map_append, List.mem_append, f1, f2]
    have M0 := (M1.trans M2).trans M3
    clear M1 M2 M3 g1 g2 h1 h2 h3 k1 k2
    refine ⟨p3, ps1 ++ ps2, rfl, SqL.of g3, fun l nd hl => few l nd fun x hx => (keys x).mp (hl x hx), fun p hp => SqT.of (t3 p hp), fun S rs hS sub nd mem => ?_⟩
    have M4 := same_new (o := SetC P w S rs) (Same.refl H3) hS
    refine ⟨S, rs, rfl, upd_same, fun r hr => SqT.of (M4 _ _ (t3 r (sub r hr))), fun p qs hp perm pw => ?_⟩
    have M5 := same_new (o := .lst (qs.map fun q => V.ref q.1)) M4 hp
    have g5 : upd (upd H3 S (SetC P w S rs)) p (.lst (qs.map fun q => V.ref q.1)) p = some (.lst (qs.map fun q => V.ref q.1)) := upd_same
    have M := M0.trans M5
    have tq : ∀ x ∈ qs, (upd (upd H3 S (SetC P w S rs)) p (.lst (qs.map fun q => V.ref q.1))) x.1 = some (.tup [.str x.2.1, .str x.2.2]) := fun x hx => M5 _ _ (t3 x (sub x (perm.mem_iff.mp hx)))
    have nq : (qs.map (·.2)).Nodup := (perm.map (·.2)).nodup_iff.mpr nd
    have mq : ∀ x, x ∈ qs.map (·.2) ↔ x ∈ c1.map (·.1) ∨ x ∈ c2.map (·.1) := fun x => ((perm.map (·.2)).mem_iff.trans (mem x)).trans (keys x)
    have l63 : qs.length < 63 := by
      have := few _ nq fun x hx => (mq x).mp hx
      rwa [List.length_map] at this
    refine ⟨p, rfl, ⟨_, SqL.of g5⟩, fun D hD => ?_⟩
    refine lc_list (K := K) (a := p) (xs := qs.map fun q => V.ref q.1) (fun i H' => H' D = some (.lst (((qs.take i).filter fun q => !decide (capAt c1 q.2 = capAt c2 q.2)).map fun q => V.ref q.1)) ∧ Same (upd (upd H3 S (SetC P w S rs)) p (.lst (qs.map fun q => V.ref q.1))) H') ?_ ?_ ?_ ?_
    · exact ⟨by rw [List.take_zero, upd_same]; rfl, same_new (Same.refl (upd (upd H3 S (SetC P w S rs)) p (.lst (qs.map fun q => V.ref q.1)))) hD⟩
    · rintro i H' _ ⟨_, m⟩
      exact SqL.of (m _ _ g5)
    · rintro i x H' hx ⟨q1, m⟩
      rw [List.getElem?_map] at hx
      obtain ⟨y, hy, rfl⟩ := Option.map_eq_some_iff.mp hx
      have ty := m _ _ (tq y (List.mem_of_getElem? hy))
      have dG := m _ _ (M _ _ hd)
      have qG := m _ _ (M _ _ hq)
      refine ⟨rfl, _, rfl, d, rfl, .inr ⟨_, Rd.of dG⟩, _, rfl, _, DGet.t (k := pK y.2) dG ty, _, rfl, q, rfl, .inr ⟨_, Rd.of qG⟩, _, rfl, _, DGet.t (k := pK y.2) qG ty, ?_⟩
      rw [kvs_at, kvs_at]
      refine ⟨optD (capAt c1 y.2), optD (capAt c2 y.2), dp_opt _, dp_opt _, shaped_opt _, shaped_opt _, _, rfl, ?_⟩
      rw [eqv_opt]
      have step : (qs.take (i + 1)).filter (fun q => !decide (capAt c1 q.2 = capAt c2 q.2)) = (qs.take i).filter (fun q => !decide (capAt c1 q.2 = capAt c2 q.2)) ++ if (!decide (capAt c1 y.2 = capAt c2 y.2)) = true then [y] else [] := by
        rw [List.take_succ, hy, List.filter_append, Option.toList_some, List.filter_cons, List.filter_nil]
      refine ite2 (fun h => ?_) (fun h => ?_)
      · refine ⟨_, rfl, _, q1, ?_, ?_, same_put m hD⟩
        · rw [List.length_map]
          refine small1000 ?_
          have := List.length_filter_le (fun q : Cp => !decide (capAt c1 q.2 = capAt c2 q.2)) (qs.take i)
          rw [List.length_take] at this
          omega
        · rw [upd_same, step, if_pos h, List.map_append]
          rfl
      · refine ⟨?_, m⟩
        rw [step, if_neg h, List.append_nil]
        exact q1
    rintro H6 ⟨q6, m6⟩
    rw [List.length_map, List.take_length] at q6
    refine k D (qs.map (·.2)) _ H6 nq mq (List.pairwise_map.mpr (pw.imp fun {a b} h => by rw [PySem.W.dataLe_eq] at h ⊢; exact h)) ?_ q6 (fun x hx => m6 _ _ (tq x (List.mem_filter.mp hx).1)) (M.trans m6) (fr_none M hD)
    rw [List.filter_map]
    rfl
end
end Y

/-! UK2: the names under which two dicts of cars have not the same. -/
namespace Y
open PySem PySem.Spec PyProof.Rows L2 Ns
def carAt : List Car → Str → Option Car
  | [], _ => none
  | r :: rs, n => if r.1 = n then some r else carAt rs n
theorem cK_at {K : PySem.W.Frag} {H : Hp} (n : Str) : ∀ {l : List (Key × V)} {rs : List Car}, cK l rs K H → (∃ r x, carAt rs n = some r ∧ r ∈ rs ∧ valV l (Sum.inr n : Key) = some x ∧ CarV K H x r) ∨ (carAt rs n = none ∧ valV l (Sum.inr n : Key) = none)
  | _, _, .nil => .inr ⟨rfl, rfl⟩
  | _, _, .cons (a := p) (b := r) h t => by
    unfold carAt
    by_cases e : r.1 = n
    · rw [if_pos e]
      exact .inl ⟨r, p.2, rfl, List.mem_cons_self, valV_pos (by rw [h.1, e]), h.2⟩
    · rw [if_neg e]
      have nv : ∀ l, valV (p :: l) (Sum.inr n : Key) = valV l (Sum.inr n : Key) := fun l => valV_neg fun z => e (by
        rw [h.1] at z
        injection z)
      rcases cK_at n t with ⟨r', x, h1, h2, h3, h4⟩ | ⟨h1, h2⟩
      · exact .inl ⟨r', x, h1, List.mem_cons_of_mem _ h2, (nv _).trans h3, h4⟩
      · exact .inr ⟨h1, (nv _).trans h2⟩
def optC : Option Car → PyData
  | none => .none
  | some c => carD c
theorem dp_car {K : PySem.W.Frag} {H : Hp} {x : V} {c : Car} (h : CarV K H x c) : Dp K H x (carD c) := by
  obtain ⟨t, rfl, h⟩ := h
  exact .tup h (.cons (.str _) (.cons (.str _) (.cons (.int _) (.cons (.int _) .nil))))
theorem eqv_car (a b : Car) : PyData.eqv (carD a) (carD b) = decide (a = b) := by
  obtain ⟨a1, a2, a3, a4⟩ := a
  obtain ⟨b1, b2, b3, b4⟩ := b
  have e : PyData.eqv (carD (a1, a2, a3, a4)) (carD (b1, b2, b3, b4)) = (a1 == b1 && (a2 == b2 && (a3 == b3 && (a4 == b4 && true)))) := by simp [carD, PyData.eqv, PyData.eqvAll]
  rw [e]
  by_cases e1 : a1 = b1 <;> by_cases e2 : a2 = b2 <;> by_cases e3 : a3 = b3 <;> by_cases e4 : a4 = b4 <;> simp [e1, e2, e3, e4]
theorem eqv_optC (o p : Option Car) : PyData.eqv (optC o) (optC p) = decide (o = p) := by
  cases o with
  | none => cases p with
    | none => rfl
    | some j => rfl
  | some i => cases p with
    | none => rfl
    | some j =>
      show PyData.eqv (carD i) (carD j) = _
      rw [eqv_car]
      by_cases e : i = j <;> simp [e]
theorem shaped_car {c : Car} (h : Nm c.1 ∧ Nf c.2.1) : SeqAt.shaped (carD c) = true := by
  obtain ⟨h1, h2⟩ := h
  have f2 : PyData.canLay0 (.str c.2.1) = true := by
    rcases h2 with h2 | h2
    · simp [PyData.canLay0, nm_ok h2]
    · rw [h2]; decide +kernel
  have f1 : PyData.canLay0 (.str c.1) = true := by simp [PyData.canLay0, nm_ok h1]
  unfold SeqAt.shaped
  have e1 : PyData.canLay0 (carD c) = (PyData.canLay0 (.str c.1) && (PyData.canLay0 (.str c.2.1) && true)) := by simp [carD, PyData.canLay0, PyData.canLayAll0]
  rw [e1, f1, f2]
  simp [carD, PyData.depth, PyData.depthAll]
def FewN (a b : List Str) : Prop := ∀ l : List Str, l.Nodup → (∀ k ∈ l, k ∈ a ∨ k ∈ b) → l.length ≤ 60
def spUnN (K : PySem.W.Frag) : Sp := fun as H Q _ => ∃ (d q : Addr) (l1 l2 : List (Key × V)) (r1 r2 : List Car), as = [.ref d, .ref q] ∧ H d = some (.dK l1) ∧ H q = some (.dK l2) ∧ cK l1 r1 K H ∧ cK l2 r2 K H ∧ r1.length ≤ 100 ∧ r2.length ≤ 100 ∧ FewN (r1.map (·.1)) (r2.map (·.1)) ∧ (∀ r, r ∈ r1 ∨ r ∈ r2 → Nm r.1 ∧ Nf r.2.1) ∧
  ∀ (p : Addr) (ks : List Str) (H' : Hp), ks.Nodup → (∀ k, k ∈ ks ↔ k ∈ r1.map (·.1) ∨ k ∈ r2.map (·.1)) → sortedS ks = true → H' p = some (.lst (txs (ks.filter fun k => !decide (carAt r1 k = carAt r2 k)))) → Same H H' → H p = none → Q (.ref p) H'
section
variable {P : Program} {w : World} {K : PySem.W.Frag} {mg : Str → Option Value} {base : Heap}
theorem ok_unN {f : Addr} {fd : FuncData} (F : Fun K "_unlike_keys" "_unlike_keys" sUnlikeKeys f fd) (T : Nat0 mg) : FnOk P w K mg base CX0 1 f fd ["one", "other"] (spUnN K) := by
  refine F.ok scUn (fun as H Q E h => ?_) (fun cdv A outer s H as Q E hr h => ?_)
  · obtain ⟨d, q, l1, l2, r1, r2, rfl, _⟩ := h
    rfl
  · obtain ⟨d, q, l1, l2, r1, r2, rfl, hd, hq, ck1, ck2, z1, z2, few, nms, k⟩ := h
    have hun := hr.units
    have hu := hu_of hr
    refine ⟨_, pss_one (ps_ret (pe_lc (own := [("key", 2)]) (g := gName 2) (te := tVar 2) rfl scUn.nd (pi_list (pe_callB (cr_sortSet rfl) (by rfl) T.sorted (by decide +kernel) (pa_cons (pe_callTy (call_setTx rfl) (by rfl) T.set_ (by decide +kernel)
        (pa_cons (pe_op op_cat (pe_callTy (call_listD rfl) (by rfl) T.list_ (by decide +kernel) (pa_cons (pv 0) pa_nil)) (pe_callTy (call_listD rfl) (by rfl) T.list_ (by decide +kernel) (pa_cons (pv 1) pa_nil))) pa_nil)) pa_nil)))
      (blkOk_by (N := ["one", "other", "key"]) (sc := defScope sUnlikeKeys) (by decide +kernel)) (fun _ _ _ _ _ => pg_name (i := 2) scUn.nd rfl (Or.inl rfl))
      (fun _ _ _ _ _ => pts_one (pt_cmpR (r := rNeD K) (op_neD hun) (pe_dget1 hu (pv 0) (pv 2) ⟨by rfl, by rfl, by rfl, by rfl⟩) (pe_dget1 hu (pv 1) (pv 2) ⟨by rfl, by rfl, by rfl, by rfl⟩) (nomark _))) (fun _ _ _ _ _ => by exact pv 2))), ?_⟩
    have tl : ∀ l : List Str, (txs l).length = l.length := fun l => List.length_map _
    have ek : ∀ {l : List (Key × V)} {rs : List Car}, cK l rs K H → (l.map fun kv => kV kv.1) = txs (rs.map (·.1)) := fun {l rs} c => by
      have e : (l.map fun kv => kV kv.1) = (l.map (·.1)).map kV := by rw [List.map_map]; rfl
      rw [e, cK_keys c, List.map_map]
      unfold txs
      rw [List.map_map]
      rfl
    refine ⟨_, rfl, d, _, rfl, Rd.of hd, fun p1 h1 => ?_⟩
    rw [ek ck1]
    have M1 := same_new (o := .lst (txs (r1.map (·.1)))) (Same.refl H) h1
    have g1 : upd H p1 (.lst (txs (r1.map (·.1)))) p1 = some (.lst (txs (r1.map (·.1)))) := upd_same
    generalize upd H p1 (.lst (txs (r1.map (·.1)))) = H1 at M1 g1 ⊢
    refine ⟨_, rfl, q, _, rfl, Rd.of (M1 _ _ hq), fun p2 h2 => ?_⟩
    rw [ek ck2]
    have M2 := same_new (o := .lst (txs (r2.map (·.1)))) (Same.refl H1) h2
    have g2 : upd H1 p2 (.lst (txs (r2.map (·.1)))) p2 = some (.lst (txs (r2.map (·.1)))) := upd_same
    generalize upd H1 p2 (.lst (txs (r2.map (·.1)))) = H2 at M2 g2 ⊢
    refine ⟨p1, p2, _, _, rfl, rfl, M2 _ _ g1, g2, by rw [tl, tl, List.length_map, List.length_map]; exact Nat.le_of_lt (small1000 (by omega)), fun p3 h3 => ?_⟩
    have ej : txs (r1.map (·.1)) ++ txs (r2.map (·.1)) = (r1.map (·.1) ++ r2.map (·.1)).map V.str := by unfold txs; rw [List.map_append]
    rw [ej]
    have M3 := same_new (o := .lst ((r1.map (·.1) ++ r2.map (·.1)).map V.str)) (Same.refl H2) h3
    have g3 : upd H2 p3 (.lst ((r1.map (·.1) ++ r2.map (·.1)).map V.str)) p3 = some (.lst ((r1.map (·.1) ++ r2.map (·.1)).map V.str)) := upd_same
    generalize upd H2 p3 (.lst ((r1.map (·.1) ++ r2.map (·.1)).map V.str)) = H3 at M3 g3 ⊢
    have M0 := (M1.trans M2).trans M3
    clear M1 M2 M3 g1 g2 h1 h2 h3
    refine ⟨p3, r1.map (·.1) ++ r2.map (·.1), rfl, SqL.of g3, by rw [List.length_append, List.length_map, List.length_map]; omega, fun S ls hS mem => ?_⟩
    have M4 := same_new (o := SetS P w S ls) (Same.refl H3) hS
    refine ⟨S, ls, rfl, upd_same, fun l nl ml => ?_, fun p ys hp sy ny my => ?_⟩
    · have := few l nl fun x hx => List.mem_append.mp ((mem x).mp ((ml x).mp hx))
      omega
    have mq : ∀ x, x ∈ ys ↔ x ∈ r1.map (·.1) ∨ x ∈ r2.map (·.1) := fun x => ((my x).trans (mem x)).trans List.mem_append
    have l60 := few ys ny fun x hx => (mq x).mp hx
    have M5 := M0.trans (same_new (o := .lst (ys.map V.str)) M4 hp)
    refine ⟨p, rfl, ⟨_, SqL.of upd_same⟩, fun D hD => ?_⟩
    refine lc_list (K := K) (a := p) (xs := ys.map V.str) (fun i H' => H' D = some (.lst (txs ((ys.take i).filter fun k => !decide (carAt r1 k = carAt r2 k)))) ∧ Same (upd (upd H3 S (SetS P w S ls)) p (.lst (ys.map V.str))) H') ?_ ?_ ?_ ?_
    · exact ⟨by rw [List.take_zero, upd_same]; rfl, same_new (Same.refl _) hD⟩
    · rintro i H' _ ⟨_, m⟩
      exact SqL.of (m _ _ upd_same)
    · rintro i x H' hx ⟨q1, m⟩
      rw [List.getElem?_map] at hx
      obtain ⟨y, hy, rfl⟩ := Option.map_eq_some_iff.mp hx
      have MG := M5.trans m
      have dG := MG _ _ hd
      have qG := MG _ _ hq
      have side : ∀ {l : List (Key × V)} {rs : List Car}, cK l rs K H → (∀ r ∈ rs, Nm r.1 ∧ Nf r.2.1) → Dp K H' ((valV l (Sum.inr y : Key)).getD .non) (optC (carAt rs y)) ∧ SeqAt.shaped (optC (carAt rs y)) = true := fun c nm => by
        rcases cK_at y c with ⟨r, x, e1, e2, e3, e4⟩ | ⟨e1, e2⟩
        · rw [e1, e3]
          exact ⟨dp_car (e4.more MG), shaped_car (nm r e2)⟩
        · rw [e1, e2]
          exact ⟨.non, rfl⟩
      obtain ⟨a1, a2⟩ := side ck1 fun r hr => nms r (.inl hr)
      obtain ⟨b1, b2⟩ := side ck2 fun r hr => nms r (.inr hr)
      refine ⟨rfl, _, rfl, d, rfl, .inl ⟨_, Rd.of dG⟩, _, rfl, _, DGet.k (k := Sum.inr y) dG, _, rfl, q, rfl, .inl ⟨_, Rd.of qG⟩, _, rfl, _, DGet.k (k := Sum.inr y) qG, ?_⟩
      refine ⟨_, _, a1, b1, a2, b2, _, rfl, ?_⟩
      rw [eqv_optC]
      have step : (ys.take (i + 1)).filter (fun k => !decide (carAt r1 k = carAt r2 k)) = (ys.take i).filter (fun k => !decide (carAt r1 k = carAt r2 k)) ++ if (!decide (carAt r1 y = carAt r2 y)) = true then [y] else [] := by
        rw [List.take_succ, hy, List.filter_append, Option.toList_some, List.filter_cons, List.filter_nil]
      refine ite2 (fun h => ?_) (fun h => ?_)
      · refine ⟨_, rfl, _, q1, ?_, ?_, same_put m hD⟩
        · rw [tl]
          refine small1000 ?_
          have := List.length_filter_le (fun k => !decide (carAt r1 k = carAt r2 k)) (ys.take i)
          rw [List.length_take] at this
          omega
        · rw [upd_same, step, if_pos h]
          unfold txs
          rw [List.map_append]
          rfl
      · refine ⟨?_, m⟩
        rw [step, if_neg h, List.append_nil]
        exact q1
    rintro H6 ⟨q6, m6⟩
    rw [List.length_map, List.take_length] at q6
    exact k D ys H6 ny mq sy q6 (M5.trans m6) (fr_none M5 hD)
end
end Y

/-! UK3: the fewest edits between two yards, as the program has them. -/
namespace Y
open PySem PySem.Spec PyProof.Rows L2 Ns
open PySem.W (dataLe dataLt alike)
theorem sqt_put {K : PySem.W.Frag} {H : Hp} {a e : Addr} {xs ys : List V} {o : HO} (he : H e = some (.lst ys)) (h : SqT K H a xs) : SqT K (upd H e o) a xs := by
  rcases h with (h | ⟨u, h⟩) | h
  · exact .inl (.inl (by rw [upd_ne (fun z => by rw [z, he] at h; cases h)]; exact h))
  · exact .inl (.inr ⟨u, by rw [upd_ne (fun z => by rw [z, he] at h; cases h)]; exact h⟩)
  · exact .inr h
def cEd (c2 : Caps) (k : Str × Str) : Ed := match capAt c2 k with
  | some v => .cab k.1 k.2 v
  | none => .noc k.1 k.2
def nEd (r2 : List Car) (n : Str) : Ed := match carAt r2 n with
  | some r => .car r
  | none => .nor n
/-- the edits from one yard's parts to another's -/
def edsOf (c1 c2 : Caps) (r1 r2 : List Car) (ks : List (Str × Str)) (ns : List Str) : List Ed :=
  (ks.filter fun k => !decide (capAt c1 k = capAt c2 k)).map (cEd c2) ++ (ns.filter fun k => !decide (carAt r1 k = carAt r2 k)).map (nEd r2)
/-- the keys of both, ascending -/
structure Kys (c1 c2 : Caps) (r1 r2 : List Car) (ks : List (Str × Str)) (ns : List Str) : Prop where
  knd : ks.Nodup
  kin : ∀ k, k ∈ ks ↔ k ∈ c1.map (·.1) ∨ k ∈ c2.map (·.1)
  krs : ks.Pairwise (fun a b => dataLe false pD a b = true)
  nnd : ns.Nodup
  nin : ∀ k, k ∈ ns ↔ k ∈ r1.map (·.1) ∨ k ∈ r2.map (·.1)
  nrs : sortedS ns = true
/-- what two yards keep that are put beside one another -/
structure Two (cs1 cs2 : List Cab) (rs1 rs2 : List Car) : Prop where
  k1 : (cs1.map ckey).Nodup
  k2 : (cs2.map ckey).Nodup
  n1 : (rs1.map (·.1)).Nodup
  n2 : (rs2.map (·.1)).Nodup
  lc1 : cs1.length ≤ 60
  lc2 : cs2.length ≤ 60
  lr1 : rs1.length ≤ 60
  lr2 : rs2.length ≤ 60
  few : Few (cs1.map ckey) (cs2.map ckey)
  fewn : FewN (rs1.map (·.1)) (rs2.map (·.1))
  nms : ∀ r, r ∈ rs1 ∨ r ∈ rs2 → Nm r.1 ∧ Nf r.2.1
def spBetw (K : PySem.W.Frag) : Sp := fun as H Q _ => ∃ (y1 y2 : V) (cs1 cs2 : List Cab) (rs1 rs2 : List Car), as = [y1, y2] ∧ YardV K H y1 cs1 rs1 ∧ YardV K H y2 cs2 rs2 ∧ Two cs1 cs2 rs1 rs2 ∧
  ∀ (p : Addr) (xs : List V) (ks : List (Str × Str)) (ns : List Str) (H' : Hp), Kys (capsOf cs1) (capsOf cs2) rs1 rs2 ks ns → H' p = some (.lst xs) → Paired (EdV K H') xs (edsOf (capsOf cs1) (capsOf cs2) rs1 rs2 ks ns) → H p = none → Same H H' → Q (.ref p) H'
section
variable {P : Program} {w : World} {K : PySem.W.Frag} {mg : Str → Option Value} {base : Heap}
theorem scEB : FnScope ["one", "other", "caps", "cars", "later_caps", "later_cars", "edits", "start", "end", "name"] ["one", "other"] (defScope sEditsBetween) := ⟨rfl, rfl, rfl, by decide +kernel, rfl, by decide +kernel, by decide +kernel⟩
theorem ok_between {f fK fU : Addr} {fd dK dU : FuncData} (F : Fun K "edits_between" "edits_between" sEditsBetween f fd) (T : Nat0 mg) (GK : FnOk P w K mg base CX0 1 fK dK ["yard"] (spCaps K)) (FK : Fun K "_caps_and_cars" "_caps_and_cars" sCapsAndCars fK dK) (mK : mg "_caps_and_cars" = some (.ref fK)) (bK : Binds K dK ["yard"] [])
    (GC : FnOk P w K mg base CX0 1 fU dU ["one", "other"] (spUnC K)) (GN : FnOk P w K mg base CX0 1 fU dU ["one", "other"] (spUnN K)) (FU : Fun K "_unlike_keys" "_unlike_keys" sUnlikeKeys fU dU) (mU : mg "_unlike_keys" = some (.ref fU)) (bU : Binds K dU ["one", "other"] []) :
    FnOk P w K mg base CX0 2 f fd ["one", "other"] (spBetw K) := by
  refine F.ok scEB (fun as H Q E h => ?_) (fun cdv A outer s H as Q E hr h => ?_)
  · obtain ⟨y1, y2, cs1, cs2, rs1, rs2, rfl, _⟩ := h
    rfl
  · obtain ⟨y1, y2, cs1, cs2, rs1, rs2, rfl, V1, V2, TW, k⟩ := h
    have hu := hu_of hr
    refine ⟨_, pss_cons (ps_asg (pe_call GK hr rfl mK FK.kp bK .nil pass0 (pa_cons (pv 0) pa_nil)) (pg_tup (by rfl) (pgs_cons (pg_name (i := 2) scEB.nd rfl (.inl rfl)) (pgs_cons (pg_name (i := 3) scEB.nd rfl (.inl rfl)) pgs_nil))))
      (pss_cons (ps_asg (pe_call GK hr rfl mK FK.kp bK .nil pass0 (pa_cons (pv 1) pa_nil)) (pg_tup (by rfl) (pgs_cons (pg_name (i := 4) scEB.nd rfl (.inl rfl)) (pgs_cons (pg_name (i := 5) scEB.nd rfl (.inl rfl)) pgs_nil))))
      (pss_cons (ps_set (i := 6) scEB.nd rfl (.inl rfl) (pe_lst pa_nil))
      (pss_cons (ps_for PassesOwn.never rfl (pi_list (pe_call GC hr rfl mU FU.kp bU .nil pass0 (pa_cons (pv 2) (pa_cons (pv 4) pa_nil)))) (pg_tup rfl (pgs_cons (pg_name (i := 7) scEB.nd rfl (.inl rfl)) (pgs_cons (pg_name (i := 8) scEB.nd rfl (.inl rfl)) pgs_nil)))
        (pss_one (ps_if (pt_cmp (pc_din hu (pe_tup (pa_cons (pv 7) (pa_cons (pv 8) pa_nil))) (pv 4)))
          (pss_one (ps_expr (pe_bm PySem.F.plainAttrs_list PySem.F.slot_list_append PySem.F.type_list_append mt_append (pv 6) (pa_cons (pe_tup (pa_cons pe_str (pa_cons (pv 7) (pa_cons (pv 8) (pa_cons (pe_dget hu (pv 4) (pe_tup (pa_cons (pv 7) (pa_cons (pv 8) pa_nil))) (fun _ _ => rfl)) pa_nil))))) pa_nil))))
          (pss_one (ps_expr (pe_bm PySem.F.plainAttrs_list PySem.F.slot_list_append PySem.F.type_list_append mt_append (pv 6) (pa_cons (pe_tup (pa_cons pe_str (pa_cons (pv 7) (pa_cons (pv 8) pa_nil)))) pa_nil)))))))
      (pss_cons (ps_for PassesOwn.never rfl (pi_list (pe_call GN hr rfl mU FU.kp bU .nil pass0 (pa_cons (pv 3) (pa_cons (pv 5) pa_nil)))) (pg_name (i := 9) scEB.nd rfl (.inl rfl))
        (pss_one (ps_if (pt_cmp (pc_din hu (pv 9) (pv 5)))
          (pss_one (ps_expr (pe_bm PySem.F.plainAttrs_list PySem.F.slot_list_append PySem.F.type_list_append mt_append (pv 6) (pa_cons (pe_op op_catA (pe_tup (pa_cons pe_str pa_nil)) (pe_dget hu (pv 5) (pv 9) (fun _ _ => rfl))) pa_nil))))
          (pss_one (ps_expr (pe_bm PySem.F.plainAttrs_list PySem.F.slot_list_append PySem.F.type_list_append mt_append (pv 6) (pa_cons (pe_tup (pa_cons pe_str (pa_cons (pv 9) pa_nil))) pa_nil)))))))
      (pss_one (ps_ret (pv 6))))))), ?_⟩
    refine ⟨_, rfl, y1, cs1, rs1, rfl, V1, TW.k1, TW.n1, by have := TW.lc1; omega, by have := TW.lr1; omega, fun t1 d1 q1 l1 H1 m1 e1 n1 n1' dq1 hd1 hq1 ck1 => ⟨t1, _, rfl, SqT.of e1, rfl, _, _, rfl, _, _, rfl, rfl, ?_⟩⟩
    refine ⟨_, rfl, y2, cs2, rs2, rfl, V2.more m1, TW.k2, TW.n2, by have := TW.lc2; omega, by have := TW.lr2; omega, fun t2 d2 q2 l2 H2 m2 e2 n2 n2' dq2 hd2 hq2 ck2 => ⟨t2, _, rfl, SqT.of e2, rfl, _, _, rfl, _, _, rfl, rfl, ?_⟩⟩
    have hd1 := m2 _ _ hd1
    have hq1 := m2 _ _ hq1
    have ck1 := (ck1.more m1).more m2
    have ck2 := ck2.more m2
    have M2 := m1.trans m2
    clear e1 e2 n1 n1' n2 n2' m1 m2
    refine ⟨by show 0 ≤ sizeLine; decide, fun e he => ?_⟩
    have M3 := same_new (o := .lst []) M2 he
    have e3 : upd H2 e (.lst []) e = some (.lst []) := upd_same
    have hd1 := s3u (o := .lst []) he hd1
    have hq1 := s3u (o := .lst []) he hq1
    have hd2 := s3u (o := .lst []) he hd2
    have hq2 := s3u (o := .lst []) he hq2
    have ck1 := ck1.more (same_new (o := .lst []) (Same.refl H2) he)
    have ck2 := ck2.more (same_new (o := .lst []) (Same.refl H2) he)
    have he0 : H e = none := fr_none M2 he
    generalize upd H2 e (.lst []) = H3 at M3 e3 hd1 hq1 hd2 hq2 ck1 ck2 ⊢
    clear M2 he
    have lcc : ∀ cs : List Cab, (capsOf cs).length = cs.length := fun cs => List.length_map _
    refine ⟨_, rfl, _, rfl, d1, d2, capsOf cs1, capsOf cs2, rfl, hd1, hd2, by rw [lcc]; have := TW.lc1; omega, by rw [lcc]; have := TW.lc2; omega, by rw [capsOf_keys, capsOf_keys]; exact TW.few, fun p ks qs H4 knd kin krs eqs g4 tq m4 np => ⟨p, rfl, ⟨_, SqL.of g4⟩, ?_⟩⟩
    have M4 := M3.trans m4
    have e4 := m4 _ _ e3
    have hd2 := m4 _ _ hd2
    have hq1 := m4 _ _ hq1
    have hq2 := m4 _ _ hq2
    have ck1 := ck1.more m4
    have ck2 := ck2.more m4
    have l63 : qs.length < 63 := by
      have := TW.few (qs.map (·.2)) (by rw [eqs]; exact knd.filter _) fun x hx => by
        have := (kin x).mp ((List.mem_filter.mp (eqs ▸ hx)).1)
        rwa [capsOf_keys, capsOf_keys] at this
      rwa [List.length_map] at this
    have npe : p ≠ e := (ne_of_none e3 np).symm
    clear hd1 M3 m4 e3
    refine for_list (K := K) (a := p) (xs := qs.map fun q => V.ref q.1) (fun i σ H' => ∃ (v7 v8 : Option V) (xs : List V), σ = [some y1, some y2, some (.ref d1), some (.ref q1), some (.ref d2), some (.ref q2), some (.ref e), v7, v8, none] ∧ H' e = some (.lst xs) ∧ xs.length = i ∧ Paired (EdV K H') xs ((qs.take i).map fun q => cEd (capsOf cs2) q.2) ∧
      (∀ a o, a ≠ e → H4 a = some o → H' a = some o) ∧ Same H H') ?_ ?_ ?_ ?_
    · exact ⟨none, none, [], rfl, e4, rfl, by rw [List.take_zero]; exact .nil, fun _ _ _ h => h, M4⟩
    · rintro i σ H' _ ⟨_, _, _, _, _, _, _, bt, _⟩
      exact SqL.of (bt _ _ npe g4)
    · rintro i x σ H' hx ⟨v7, v8, xs, rfl, eH, lx, EV, bt, MH⟩
      rw [List.getElem?_map] at hx
      obtain ⟨y, hy, rfl⟩ := Option.map_eq_some_iff.mp hx
      have ym := List.mem_of_getElem? hy
      have iq : i < qs.length := (List.getElem?_eq_some_iff.mp hy).1
      have nye : y.1 ≠ e := ne_at (tq y ym) e4 (fun z => by cases z)
      have nde : d2 ≠ e := ne_at hd2 e4 (fun z => by cases z)
      have ty := bt _ _ nye (tq y ym)
      have dH := bt _ _ nde hd2
      have fin : ∀ {G : Hp} {w : Addr} {o : Ed}, Same H' G → G w = some (.tup (edV o)) → o = cEd (capsOf cs2) y.2 → ∃ (v7 v8 : Option V) (xs' : List V), [some y1, some y2, some (.ref d1), some (.ref q1), some (.ref d2), some (.ref q2), some (.ref e), some (.str y.2.1), some (.str y.2.2), none] = [some y1, some y2, some (.ref d1), some (.ref q1), some (.ref d2), some (.ref q2), some (.ref e), v7, v8, none] ∧
          upd G e (.lst (xs ++ [.ref w])) e = some (.lst xs') ∧ xs'.length = i + 1 ∧ Paired (EdV K (upd G e (.lst (xs ++ [.ref w])))) xs' ((qs.take (i + 1)).map fun q => cEd (capsOf cs2) q.2) ∧ (∀ a o, a ≠ e → H4 a = some o → upd G e (.lst (xs ++ [.ref w])) a = some o) ∧ Same H (upd G e (.lst (xs ++ [.ref w]))) := fun {G w o} mG ew eo => by
        have eG := mG _ _ eH
        refine ⟨_, _, _, rfl, upd_same, by rw [List.length_append, lx]; rfl, ?_, fun a u n h => by rw [upd_ne n]; exact mG _ _ (bt _ _ n h), same_put (MH.trans mG) he0⟩
        rw [List.take_succ, hy, List.map_append, Option.toList_some, List.map_singleton, ← eo]
        exact paired_snoc ⟨w, rfl, sqt_put eG (SqT.of ew)⟩ (paired_imp (fun _ _ h => let ⟨t, q, h⟩ := h; ⟨t, q, sqt_put eG (sqt_more mG h)⟩) EV)
      refine ⟨y.1, _, rfl, SqT.of ty, rfl, _, _, rfl, _, _, rfl, rfl, ?_⟩
      refine ⟨_, rfl, _, rfl, by show 2 ≤ sizeLine; decide, fun t ht => ⟨_, rfl, d2, _, rfl, DGet.t (k := pK y.2) (s3u ht dH) upd_same, _, rfl, ?_⟩⟩
      have Mt := same_new (o := .tup [.str y.2.1, .str y.2.2]) (Same.refl H') ht
      generalize upd H' t (.tup [.str y.2.1, .str y.2.2]) = G1 at Mt ⊢
      rw [kvs_at]
      refine ite2 (fun h => ?_) (fun h => ?_)
      · obtain ⟨v, ev⟩ : ∃ v, capAt (capsOf cs2) y.2 = some v := by
          cases e : capAt (capsOf cs2) y.2 with
          | none => rw [e] at h; cases h
          | some v => exact ⟨v, rfl⟩
        refine ⟨_, rfl, .inl ⟨rfl, _, SqL.of (Mt _ _ eH)⟩, _, rfl, _, rfl, _, rfl, _, rfl, _, rfl, by show 2 ≤ sizeLine; decide, fun u hu' => ⟨d2, .int v, rfl, ?_, by show 4 ≤ sizeLine; decide, fun w hw => ⟨e, xs, _, rfl, rfl, ?_, small1000 (by omega), ?_⟩⟩⟩
        · have := DGet.t (k := pK y.2) (s3u (o := .tup [.str y.2.1, .str y.2.2]) hu' (Mt _ _ dH)) upd_same
          rw [kvs_at, ev] at this
          exact this
        · exact s3u hw (s3u hu' (Mt _ _ eH))
        · exact fin (o := .cab y.2.1 y.2.2 v) (same_new (same_new Mt hu') hw) upd_same (by unfold cEd; rw [ev])
      · have ev : capAt (capsOf cs2) y.2 = none := by
          cases e : capAt (capsOf cs2) y.2 with
          | none => rfl
          | some v => rw [e] at h; exact absurd rfl h
        refine ⟨_, rfl, .inl ⟨rfl, _, SqL.of (Mt _ _ eH)⟩, _, rfl, _, rfl, by show 3 ≤ sizeLine; decide, fun w hw => ⟨e, xs, _, rfl, rfl, s3u hw (Mt _ _ eH), small1000 (by omega), ?_⟩⟩
        exact fin (o := .noc y.2.1 y.2.2) (same_new Mt hw) upd_same (by unfold cEd; rw [ev])
    rintro σ H5 ⟨v7, v8, xs, rfl, e5, lx, EV, bt, M5⟩
    rw [List.length_map] at lx
    rw [List.length_map, List.take_length] at EV
    have EV : Paired (EdV K H5) xs ((ks.filter fun k => !decide (capAt (capsOf cs1) k = capAt (capsOf cs2) k)).map (cEd (capsOf cs2))) := by
      rw [← eqs, List.map_map]
      exact EV
    have sb : ∀ {a : Addr} {xs : List V}, SqT K H4 a xs → SqT K H5 a xs := fun {a xs} h => by
      have ne : ∀ {a : Addr} {o : HO}, H4 a = some o → (∀ ys, o ≠ .lst ys) → a ≠ e := fun {a o} h n z => by
        rw [z, e4] at h
        exact n _ (Option.some.inj h).symm
      rcases h with (h | ⟨u, h⟩) | h
      · exact .inl (.inl (bt _ _ (ne h fun _ z => by cases z) h))
      · exact .inl (.inr ⟨u, bt _ _ (ne h fun _ z => by cases z) h⟩)
      · exact .inr h
    have cb : ∀ {l : List (Key × V)} {rs : List Car}, cK l rs K H4 → cK l rs K H5 := fun c => paired_imp (fun _ _ h => ⟨h.1, let ⟨t, q, g⟩ := h.2; ⟨t, q, sb g⟩⟩) c
    have ck1 := cb ck1
    have ck2 := cb ck2
    have hq1 := bt _ _ (ne_at hq1 e4 (fun z => by cases z)) hq1
    have hq2 := bt _ _ (ne_at hq2 e4 (fun z => by cases z)) hq2
    clear cb sb bt
    refine ⟨_, rfl, _, rfl, q1, q2, l1, l2, rs1, rs2, rfl, hq1, hq2, ck1, ck2, by have := TW.lr1; omega, by have := TW.lr2; omega, TW.fewn, TW.nms, fun p2 ns H6 nnd nin nrs g6 m6 np2 => ⟨p2, rfl, ⟨_, SqL.of g6⟩, ?_⟩⟩
    have M6 := M5.trans m6
    have e6 := m6 _ _ e5
    have hq2 := m6 _ _ hq2
    have ck2 := ck2.more m6
    have EV := paired_imp (fun _ _ h => EdV.more m6 h) EV
    have npe : p2 ≠ e := (ne_of_none e5 np2).symm
    have n60 : ns.length ≤ 60 := TW.fewn ns nnd fun x hx => (nin x).mp hx
    have f60 : (ns.filter fun k => !decide (carAt rs1 k = carAt rs2 k)).length ≤ 60 := Nat.le_trans (List.length_filter_le _ _) n60
    clear m6
    generalize hF : (ns.filter fun k => !decide (carAt rs1 k = carAt rs2 k)) = nf at g6 f60
    generalize hA : ((ks.filter fun k => !decide (capAt (capsOf cs1) k = capAt (capsOf cs2) k)).map (cEd (capsOf cs2))) = ea at EV
    refine for_list (K := K) (a := p2) (xs := txs nf) (fun i σ H' => ∃ (v9 : Option V) (xs' : List V), σ = [some y1, some y2, some (.ref d1), some (.ref q1), some (.ref d2), some (.ref q2), some (.ref e), v7, v8, v9] ∧ H' e = some (.lst xs') ∧ xs'.length = qs.length + i ∧ Paired (EdV K H') xs' (ea ++ (nf.take i).map (nEd rs2)) ∧
      (∀ a o, a ≠ e → H6 a = some o → H' a = some o) ∧ Same H H') ?_ ?_ ?_ ?_
    · exact ⟨none, xs, rfl, e6, lx, by rw [List.take_zero, List.map_nil, List.append_nil]; exact EV, fun _ _ _ h => h, M6⟩
    · rintro i σ H' _ ⟨_, _, _, _, _, _, bt, _⟩
      exact SqL.of (bt _ _ npe g6)
    · rintro i x σ H' hx ⟨v9, xs', rfl, eH, lx', EV', bt, MH⟩
      unfold txs at hx
      rw [List.getElem?_map] at hx
      obtain ⟨n, hn, rfl⟩ := Option.map_eq_some_iff.mp hx
      have iq : i < nf.length := (List.getElem?_eq_some_iff.mp hn).1
      have qH := bt _ _ (ne_at hq2 e6 (fun z => by cases z)) hq2
      have sb : ∀ {a : Addr} {xs : List V}, SqT K H6 a xs → SqT K H' a xs := fun {a xs} h => by
        have ne : ∀ {a : Addr} {o : HO}, H6 a = some o → (∀ ys, o ≠ .lst ys) → a ≠ e := fun {a o} h n z => by
          rw [z, e6] at h
          exact n _ (Option.some.inj h).symm
        rcases h with (h | ⟨u, h⟩) | h
        · exact .inl (.inl (bt _ _ (ne h fun _ z => by cases z) h))
        · exact .inl (.inr ⟨u, bt _ _ (ne h fun _ z => by cases z) h⟩)
        · exact .inr h
      have fin : ∀ {G : Hp} {w : Addr} {o : Ed}, Same H' G → G w = some (.tup (edV o)) → o = nEd rs2 n → ∃ (v9 : Option V) (xs2 : List V), [some y1, some y2, some (.ref d1), some (.ref q1), some (.ref d2), some (.ref q2), some (.ref e), v7, v8, some (.str n)] = [some y1, some y2, some (.ref d1), some (.ref q1), some (.ref d2), some (.ref q2), some (.ref e), v7, v8, v9] ∧
          upd G e (.lst (xs' ++ [.ref w])) e = some (.lst xs2) ∧ xs2.length = qs.length + (i + 1) ∧ Paired (EdV K (upd G e (.lst (xs' ++ [.ref w])))) xs2 (ea ++ (nf.take (i + 1)).map (nEd rs2)) ∧ (∀ a o, a ≠ e → H6 a = some o → upd G e (.lst (xs' ++ [.ref w])) a = some o) ∧ Same H (upd G e (.lst (xs' ++ [.ref w]))) := fun {G w o} mG ew eo => by
        have eG := mG _ _ eH
        refine ⟨_, _, rfl, upd_same, by rw [List.length_append, lx']; show qs.length + i + 1 = _; omega, ?_, fun a u n h => by rw [upd_ne n]; exact mG _ _ (bt _ _ n h), same_put (MH.trans mG) he0⟩
        rw [List.take_succ, hn, List.map_append, Option.toList_some, List.map_singleton, ← eo, ← List.append_assoc]
        exact paired_snoc ⟨w, rfl, sqt_put eG (SqT.of ew)⟩ (paired_imp (fun _ _ h => let ⟨t, q, h⟩ := h; ⟨t, q, sqt_put eG (sqt_more mG h)⟩) EV')
      refine ⟨_, rfl, _, rfl, q2, _, rfl, DGet.k (k := Sum.inr n) qH, _, rfl, ?_⟩
      rcases cK_at n ck2 with ⟨r, x, c1, c2, c3, t', rfl, c4⟩ | ⟨c1, c3⟩
      · rw [c3]
        refine ite2 (fun _ => ?_) (fun h => absurd rfl h)
        refine ⟨_, rfl, .inl ⟨rfl, _, SqL.of eH⟩, by show 1 ≤ sizeLine; decide, fun u hu' => ⟨_, rfl, _, rfl, q2, .ref t', rfl, ?_, u, t', [.str "car"], _, rfl, rfl, SqT.of upd_same, sqt_more (same_new (Same.refl H') hu') (sb c4), by show 1 + 4 ≤ sizeLine; decide, (fun z => by cases z), (fun _ z => by cases z), fun _ _ w hw => ⟨e, xs', _, rfl, rfl, ?_, small1000 (by omega), ?_⟩⟩⟩
        · have := DGet.k (k := Sum.inr n) (s3u (o := .tup [.str "car"]) hu' qH)
          rw [c3] at this
          exact this
        · exact s3u hw (s3u hu' eH)
        · exact fin (o := .car r) (same_new (same_new (Same.refl H') hu') hw) upd_same (by unfold nEd; rw [c1])
      · rw [c3]
        refine ite2 (fun h => by cases h) (fun _ => ?_)
        refine ⟨_, rfl, .inl ⟨rfl, _, SqL.of eH⟩, _, rfl, by show 2 ≤ sizeLine; decide, fun w hw => ⟨e, xs', _, rfl, rfl, s3u hw eH, small1000 (by omega), ?_⟩⟩
        exact fin (o := .nor n) (same_new (Same.refl H') hw) upd_same (by unfold nEd; rw [c1])
    rintro σ H7 ⟨v9, xs', rfl, e7, lx', EV', bt, M7⟩
    have lt : (txs nf).length = nf.length := List.length_map _
    rw [lt, List.take_length, ← hA, ← hF] at EV'
    exact ⟨_, rfl, k e xs' ks ns H7 ⟨knd, kin, krs, nnd, nin, nrs⟩ e7 EV' he0 M7⟩
end
end Y

/-! UK4: the fewest edits between two yards, as the law has them. -/
namespace Y
open PySem PySem.Spec PyProof.Rows L2 Ns
open PySem.W (dataLe dataLt alike)
theorem nodup_ix' {α : Type} {l : List α} (n : l.Nodup) {i j : Nat} {x : α} (a : l[i]? = some x) (b : l[j]? = some x) : i = j := by
  obtain ⟨h1, e1⟩ := List.getElem?_eq_some_iff.mp a
  obtain ⟨h2, e2⟩ := List.getElem?_eq_some_iff.mp b
  exact (List.getElem_inj n).mp (e1.trans e2.symm)
theorem cap_none {k : Str × Str} : ∀ {c : Caps}, k ∉ c.map (·.1) → capAt c k = none
  | [], _ => rfl
  | p :: c, h => by
    unfold capAt
    rw [if_neg (fun e => h (by rw [← e]; exact List.mem_cons_self)), cap_none fun z => h (List.mem_cons_of_mem _ z)]
theorem cap_some {k : Str × Str} : ∀ {c : Caps}, k ∈ c.map (·.1) → ∃ v, capAt c k = some v
  | p :: c, h => by
    unfold capAt
    by_cases e : p.1 = k
    · exact ⟨p.2, if_pos e⟩
    · rw [if_neg e]
      exact cap_some ((List.mem_cons.mp h).resolve_left fun z => e z.symm)
theorem caps_step {cs : List Cab} {i : Nat} {c : Cab} (nd : (cs.map ckey).Nodup) (hc : cs[i]? = some c) : putK (kvs (capsOf (cs.take i))) (pK (ckey c)) (.int c.2.2) = kvs (capsOf (cs.take (i + 1))) := by
  have lt := (List.getElem?_eq_some_iff.mp hc).1
  have nin : ckey c ∉ (capsOf (cs.take i)).map (·.1) := fun z => by
    rw [capsOf_keys] at z
    obtain ⟨x, hx, ex⟩ := List.mem_map.mp z
    obtain ⟨j, hj, ej⟩ := List.getElem_of_mem hx
    rw [List.length_take] at hj
    rw [List.getElem_take] at ej
    have h1 : (cs.map ckey)[j]? = some (ckey c) := by rw [List.getElem?_map, List.getElem?_eq_getElem (by omega), ej, Option.map_some, ex]
    have h2 : (cs.map ckey)[i]? = some (ckey c) := by rw [List.getElem?_map, hc, Option.map_some]
    have := nodup_ix' nd h1 h2
    omega
  rw [putK_new _ (by rw [kvs_at, cap_none nin]; rfl), List.take_succ, hc]
  unfold kvs capsOf
  rw [List.map_append, List.map_append]
  rfl
theorem merge_new {κ : Type} [DecidableEq κ] : ∀ (l acc : List (κ × V)), ((acc ++ l).map (·.1)).Nodup → l.foldl (fun acc kv => putK acc kv.1 kv.2) acc = acc ++ l
  | [], acc, _ => by rw [List.append_nil]; rfl
  | p :: l, acc, h => by
    have fresh : valV acc p.1 = none := by
      cases e : valV acc p.1 with
      | none => rfl
      | some v =>
        have z : (acc.any fun kv => decide (kv.1 = p.1)) = true := by rw [valV_any, e]; rfl
        obtain ⟨f, hf, ef⟩ := List.any_eq_true.mp z
        rw [List.map_append, List.nodup_append] at h
        exact (h.2.2 f.1 (List.mem_map.mpr ⟨f, hf, rfl⟩) p.1 (List.mem_map.mpr ⟨p, List.mem_cons_self, rfl⟩) (of_decide_eq_true ef)).elim
    show l.foldl _ (putK acc p.1 p.2) = _
    rw [putK_new _ fresh, merge_new l (acc ++ [(p.1, p.2)]) (by rw [List.append_assoc]; exact h), List.append_assoc]
    rfl
def spDue (K : PySem.W.Frag) : Sp := spBetw K
section
variable {P : Program} {w : World} {K : PySem.W.Frag} {mg : Str → Option Value} {base : Heap}
theorem scDu : FnScope ["one", "other", "found", "ahead", "behind", "start", "end", "cap", "couple", "first", "last", "name", "car"] ["one", "other"] (defScope sDue) := ⟨rfl, rfl, rfl, by decide +kernel, rfl, by decide +kernel, by decide +kernel⟩
theorem ok_due {f : Addr} {fd : FuncData} (F : Fun K "_law_due" "_law_due" sDue f fd) (T : Nat0 mg) : FnOk P w K mg base CX0 1 f fd ["one", "other"] (spBetw K) := by
  refine F.ok scDu (fun as H Q E h => ?_) (fun cdv A outer s H as Q E hr h => ?_)
  · obtain ⟨y1, y2, cs1, cs2, rs1, rs2, rfl, _⟩ := h
    rfl
  · obtain ⟨y1, y2, cs1, cs2, rs1, rs2, rfl, V1, V2, TW, k⟩ := h
    have hu := hu_of hr
    have hun := hr.units
    refine ⟨_, pss_cons (ps_par3 (i := 2) (j := 3) (k := 4) rfl scDu.nd rfl rfl rfl (by decide) (by decide) (by decide) rfl rfl rfl (pa_cons (pe_lst pa_nil) (pa_cons pe_dnewT (pa_cons pe_dnewT pa_nil))) (by rfl))
      (pss_cons (ps_for PassesOwn.never rfl (pi_tup (pe_ix ix_tup (pv 0) pe_int (fun _ _ => rfl))) (pg_tup rfl (pgs_cons (pg_name (i := 5) scDu.nd rfl (.inl rfl)) (pgs_cons (pg_name (i := 6) scDu.nd rfl (.inl rfl)) (pgs_cons (pg_name (i := 7) scDu.nd rfl (.inl rfl)) pgs_nil)))) (pss_one (ps_dput hu (pv 3) (pe_tup (pa_cons (pv 5) (pa_cons (pv 6) pa_nil))) (pv 7) rfl)))
      (pss_cons (ps_for PassesOwn.never rfl (pi_tup (pe_ix ix_tup (pv 1) pe_int (fun _ _ => rfl))) (pg_tup rfl (pgs_cons (pg_name (i := 5) scDu.nd rfl (.inl rfl)) (pgs_cons (pg_name (i := 6) scDu.nd rfl (.inl rfl)) (pgs_cons (pg_name (i := 7) scDu.nd rfl (.inl rfl)) pgs_nil)))) (pss_one (ps_dput hu (pv 4) (pe_tup (pa_cons (pv 5) (pa_cons (pv 6) pa_nil))) (pv 7) rfl)))
      (pss_cons (ps_for PassesOwn.never rfl (pi_list (pe_callB (cr_sortC rfl hun) (by rfl) T.sorted (by decide +kernel) (pa_cons (pe_callTy (call_setC rfl hun) (by rfl) T.set_ (by decide +kernel) (pa_cons (pe_op op_cat (pe_callTy (call_list_dT rfl) (by rfl) T.list_ (by decide +kernel) (pa_cons (pv 3) pa_nil)) (pe_callTy (call_list_dT rfl) (by rfl) T.list_ (by decide +kernel) (pa_cons (pv 4) pa_nil))) pa_nil)) pa_nil))) (pg_name (i := 8) scDu.nd rfl (.inl rfl)) (pss_one (ps_if (pt_cmp (pc_dnotin hu (pv 8) (pv 4))) (pss_one (ps_expr (pe_bm PySem.F.plainAttrs_list PySem.F.slot_list_append PySem.F.type_list_append mt_append (pv 2) (pa_cons (pe_op op_catA (pe_tup (pa_cons pe_str pa_nil)) (pv 8)) pa_nil)))) (pss_one (ps_if (pt_cmpR (op_neD hun) (pe_dget2 hu (pv 3) (pv 8) pe_non ⟨by rfl, by rfl, by rfl, by rfl⟩) (pe_dget hu (pv 4) (pv 8) (fun _ _ => rfl)) (nomark _)) (pss_one (ps_expr (pe_bm PySem.F.plainAttrs_list PySem.F.slot_list_append PySem.F.type_list_append mt_append (pv 2) (pa_cons (pe_op op_catA (pe_op op_catA (pe_tup (pa_cons pe_str pa_nil)) (pv 8)) (pe_tup (pa_cons (pe_dget hu (pv 4) (pv 8) (fun _ _ => rfl)) pa_nil))) pa_nil)))) pss_nil)))))
      (pss_cons (ps_par (i := 9) (j := 10) rfl scDu.nd rfl rfl (by decide) rfl rfl (pa_cons (pe_callTy (call_dictP rfl) (by rfl) T.dict (by decide +kernel) (pa_cons (pe_lc (own := [("car", 12)]) (g := gName 12) (tt := tYes) (te := tTup (tCons (tOp (rIxT K) (tVar 12) (tC (V.int 0))) (tCons (tVar 12) tNil))) rfl scDu.nd (pi_tup (pe_ix ix_tup (pv 0) pe_int (fun _ _ => rfl))) (blkOk_by (N := ["one", "other", "found", "ahead", "behind", "start", "end", "cap", "couple", "first", "last", "name", "car"]) (sc := defScope sDue) (by decide +kernel)) (fun _ _ _ _ _ => pg_name (i := 12) scDu.nd rfl (Or.inl rfl)) (fun _ _ _ _ _ => pts_nil) (fun _ _ _ _ _ => by exact pe_tup (pa_cons (pe_ix ix_tup (pv 12) pe_int (fun _ _ => rfl)) (pa_cons (pv 12) pa_nil)))) pa_nil)) (pa_cons (pe_callTy (call_dictP rfl) (by rfl) T.dict (by decide +kernel) (pa_cons (pe_lc (own := [("car", 12)]) (g := gName 12) (tt := tYes) (te := tTup (tCons (tOp (rIxT K) (tVar 12) (tC (V.int 0))) (tCons (tVar 12) tNil))) rfl scDu.nd (pi_tup (pe_ix ix_tup (pv 1) pe_int (fun _ _ => rfl))) (blkOk_by (N := ["one", "other", "found", "ahead", "behind", "start", "end", "cap", "couple", "first", "last", "name", "car"]) (sc := defScope sDue) (by decide +kernel)) (fun _ _ _ _ _ => pg_name (i := 12) scDu.nd rfl (Or.inl rfl)) (fun _ _ _ _ _ => pts_nil) (fun _ _ _ _ _ => by exact pe_tup (pa_cons (pe_ix ix_tup (pv 12) pe_int (fun _ _ => rfl)) (pa_cons (pv 12) pa_nil)))) pa_nil)) pa_nil)) (by rfl))
      (pss_cons (ps_for PassesOwn.never rfl (pi_list (pe_callB (cr_sortSet rfl) (by rfl) T.sorted (by decide +kernel) (pa_cons (pe_callTy (call_setTx rfl) (by rfl) T.set_ (by decide +kernel) (pa_cons (pe_op op_cat (pe_callTy (call_listD rfl) (by rfl) T.list_ (by decide +kernel) (pa_cons (pv 9) pa_nil)) (pe_callTy (call_listD rfl) (by rfl) T.list_ (by decide +kernel) (pa_cons (pv 10) pa_nil))) pa_nil)) pa_nil))) (pg_name (i := 11) scDu.nd rfl (.inl rfl)) (pss_one (ps_if (pt_cmp (pc_dnotin hu (pv 11) (pv 10))) (pss_one (ps_expr (pe_bm PySem.F.plainAttrs_list PySem.F.slot_list_append PySem.F.type_list_append mt_append (pv 2) (pa_cons (pe_tup (pa_cons pe_str (pa_cons (pv 11) pa_nil))) pa_nil)))) (pss_one (ps_if (pt_cmpR (op_neD hun) (pe_dget2 hu (pv 9) (pv 11) pe_non ⟨by rfl, by rfl, by rfl, by rfl⟩) (pe_dget hu (pv 10) (pv 11) (fun _ _ => rfl)) (nomark _)) (pss_one (ps_expr (pe_bm PySem.F.plainAttrs_list PySem.F.slot_list_append PySem.F.type_list_append mt_append (pv 2) (pa_cons (pe_op op_catA (pe_tup (pa_cons pe_str pa_nil)) (pe_dget hu (pv 10) (pv 11) (fun _ _ => rfl))) pa_nil)))) pss_nil)))))
      (pss_one (ps_ret (pv 2)))))))), ?_⟩
    obtain ⟨ty1, ya1, yb1, xs1, zs1, rfl, v1, v2, v3, v4, v5⟩ := V1
    obtain ⟨ty2, ya2, yb2, xs2, zs2, rfl, u1, u2, u3, u4, u5⟩ := V2
    have lx1 : xs1.length = cs1.length := paired_len v4
    have lx2 : xs2.length = cs2.length := paired_len u4
    refine ⟨by show 0 ≤ sizeLine; decide, fun e he d hd q hq => ⟨_, _, _, rfl, ?_⟩⟩
    have nde : d ≠ e := fun z => by rw [z, upd_same] at hd; cases hd
    have ned : e ≠ d := nde.symm
    have hd' : upd H e (.lst []) d = none := hd
    have nqd : q ≠ d := fun z => by rw [z, upd_same] at hq; cases hq
    have nqe : q ≠ e := fun z => by rw [upd_ne nqd, z, upd_same] at hq; cases hq
    have he0 : H e = none := he
    have hd0 : H d = none := by rw [upd_ne nde] at hd; exact hd
    have hq0 : H q = none := by rw [upd_ne nqd, upd_ne nqe] at hq; exact hq
    have g1 := s3u (o := .dT []) hq (s3u (o := .dT []) hd (upd_same (H := H) (a := e) (o := .lst [])))
    have g2 := s3u (o := .dT []) hq (upd_same (H := upd H e (.lst [])) (a := d) (o := .dT []))
    have g3 := upd_same (H := upd (upd H e (.lst [])) d (.dT [])) (a := q) (o := .dT [])
    have M1 := same_new (o := .dT []) (same_new (o := .dT []) (same_new (o := .lst []) (Same.refl H) he) hd) hq
    generalize upd (upd (upd H e (.lst [])) d (.dT [])) q (.dT []) = H1 at g1 g2 g3 M1 ⊢
    clear hd hq he hd'
    refine ⟨_, rfl, ty1, _, 0, .ref ya1, rfl, rfl, sqt_more M1 v1, at0, ya1, rfl, ⟨_, sqt_more M1 v2⟩, ?_⟩
    refine for_tup (K := K) (a := ya1) (xs := xs1) (fun i σ H' => ∃ v5 v6 v7 : Option V, σ = [some (.ref ty1), some (.ref ty2), some (.ref e), some (.ref d), some (.ref q), v5, v6, v7, none, none, none, none, none] ∧ H' e = some (.lst []) ∧ H' d = some (.dT (kvs (capsOf (cs1.take i)))) ∧ H' q = some (.dT []) ∧ Same H H') ?_ ?_ ?_ ?_
    · exact ⟨none, none, none, rfl, g1, by rw [List.take_zero]; exact g2, g3, M1⟩
    · rintro i σ H' _ ⟨_, _, _, _, _, _, _, m⟩
      exact sqt_more m v2
    · clear g1 g2 g3 M1
      rintro i x σ H' hx ⟨w5, w6, w7, rfl, g1, g2, g3, m⟩
      obtain ⟨c, hc, t', rfl, hT⟩ := paired_at v4 hx
      have ci := (List.getElem?_eq_some_iff.mp hc).1
      have l60 := TW.lc1
      refine ⟨t', _, rfl, sqt_more m hT, rfl, _, _, rfl, _, _, rfl, _, _, rfl, rfl, ?_⟩
      refine ⟨_, rfl, _, rfl, _, rfl, _, rfl, by show 2 ≤ sizeLine; decide, fun t ht => ⟨d, _, rfl, DPut.t (k := pK (ckey c)) (s3u ht g2) upd_same ?_, ?_⟩⟩
      · unfold kvs capsOf
        rw [List.length_map, List.length_map, List.length_take]
        exact small1000 (by omega)
      · rw [caps_step TW.k1 hc]
        exact ⟨_, _, _, rfl, by rw [upd_ne ned]; exact s3u ht g1, upd_same, by rw [upd_ne nqd]; exact s3u ht g3, same_put (same_new m ht) hd0⟩
    clear g1 g2 g3 M1 H1
    rintro σ H2 ⟨w5, w6, w7, rfl, g1, g2, g3, M2⟩
    rw [lx1, List.take_length] at g2
    refine ⟨_, rfl, ty2, _, 0, .ref ya2, rfl, rfl, sqt_more M2 u1, at0, ya2, rfl, ⟨_, sqt_more M2 u2⟩, ?_⟩
    refine for_tup (K := K) (a := ya2) (xs := xs2) (fun i σ H' => ∃ v5 v6 v7 : Option V, σ = [some (.ref ty1), some (.ref ty2), some (.ref e), some (.ref d), some (.ref q), v5, v6, v7, none, none, none, none, none] ∧ H' e = some (.lst []) ∧ H' d = some (.dT (kvs (capsOf cs1))) ∧ H' q = some (.dT (kvs (capsOf (cs2.take i)))) ∧ Same H H') ?_ ?_ ?_ ?_
    · exact ⟨w5, w6, w7, rfl, g1, g2, by rw [List.take_zero]; exact g3, M2⟩
    · rintro i σ H' _ ⟨_, _, _, _, _, _, _, m⟩
      exact sqt_more m u2
    · clear g1 g2 g3 M2
      rintro i x σ H' hx ⟨w5, w6, w7, rfl, g1, g2, g3, m⟩
      obtain ⟨c, hc, t', rfl, hT⟩ := paired_at u4 hx
      have ci := (List.getElem?_eq_some_iff.mp hc).1
      have l60 := TW.lc2
      refine ⟨t', _, rfl, sqt_more m hT, rfl, _, _, rfl, _, _, rfl, _, _, rfl, rfl, ?_⟩
      refine ⟨_, rfl, _, rfl, _, rfl, _, rfl, by show 2 ≤ sizeLine; decide, fun t ht => ⟨q, _, rfl, DPut.t (k := pK (ckey c)) (s3u ht g3) upd_same ?_, ?_⟩⟩
      · unfold kvs capsOf
        rw [List.length_map, List.length_map, List.length_take]
        exact small1000 (by omega)
      · rw [caps_step TW.k2 hc]
        exact ⟨_, _, _, rfl, by rw [upd_ne nqe.symm]; exact s3u ht g1, by rw [upd_ne nqd.symm]; exact s3u ht g2, upd_same, same_put (same_new m ht) hq0⟩
    clear g1 g2 g3 M2 H2
    rintro σ H2 ⟨w5, w6, w7, rfl, g1, g2, g3, M2⟩
    rw [lx2, List.take_length] at g3
    have lcc : ∀ cs : List Cab, (capsOf cs).length = cs.length := fun cs => List.length_map _
    have z1 := TW.lc1
    have z2 := TW.lc2
    refine ⟨_, rfl, d, _, rfl, Rd.of g2, fun p1 bs1 h1 k1 => ?_⟩
    obtain ⟨ps1, e1, f1, t1⟩ := cps_keys k1
    have M3 := same_new (o := .lst (bs1.map V.ref)) (Same.refl H2) h1
    have a1 : upd H2 p1 (.lst (bs1.map V.ref)) p1 = some (.lst (bs1.map V.ref)) := upd_same
    generalize upd H2 p1 (.lst (bs1.map V.ref)) = H3 at M3 a1 ⊢
    refine ⟨_, rfl, q, _, rfl, Rd.of (M3 _ _ g3), fun p2 bs2 h2 k2 => ?_⟩
    obtain ⟨ps2, e2, f2, t2⟩ := cps_keys k2
    have M4 := same_new (o := .lst (bs2.map V.ref)) (Same.refl H3) h2
    have a2 : upd H3 p2 (.lst (bs2.map V.ref)) p2 = some (.lst (bs2.map V.ref)) := upd_same
    generalize upd H3 p2 (.lst (bs2.map V.ref)) = H4 at M4 a2 ⊢
    have lb1 : bs1.length = cs1.length := by rw [← e1, List.length_map, ← List.length_map (f := (·.2)), f1, List.length_map, lcc]
    have lb2 : bs2.length = cs2.length := by rw [← e2, List.length_map, ← List.length_map (f := (·.2)), f2, List.length_map, lcc]
    refine ⟨p1, p2, _, _, rfl, rfl, M4 _ _ a1, a2, by rw [List.length_map, List.length_map]; exact Nat.le_of_lt (small1000 (by omega)), fun p3 h3 => ?_⟩
    have ej : bs1.map V.ref ++ bs2.map V.ref = (ps1 ++ ps2).map fun p : Cp => V.ref p.1 := by
      rw [← e1, ← e2, List.map_map, List.map_map, List.map_append]
      rfl
    rw [ej]
    have M5 := same_new (o := .lst ((ps1 ++ ps2).map fun p : Cp => V.ref p.1)) (Same.refl H4) h3
    have a3 : upd H4 p3 (.lst ((ps1 ++ ps2).map fun p : Cp => V.ref p.1)) p3 = some (.lst ((ps1 ++ ps2).map fun p : Cp => V.ref p.1)) := upd_same
    have t3 : ∀ p ∈ ps1 ++ ps2, upd H4 p3 (.lst ((ps1 ++ ps2).map fun p : Cp => V.ref p.1)) p.1 = some (.tup [.str p.2.1, .str p.2.2]) := fun p hp => by
      rcases List.mem_append.mp hp with z | z
      · exact (M4.trans M5) _ _ (M3 _ _ (t1 p z))
      · exact M5 _ _ (M4 _ _ (t2 p z))
    generalize upd H4 p3 (.lst ((ps1 ++ ps2).map fun p : Cp => V.ref p.1)) = H5 at M5 a3 t3 ⊢
    have keys : ∀ x, x ∈ (ps1 ++ ps2).map (·.2) ↔ x ∈ (capsOf cs1).map (·.1) ∨ x ∈ (capsOf cs2).map (·.1) := fun x => by rw [List.map_append, List.mem_append, f1, f2]
    have M0 := (M3.trans M4).trans M5
    have few : Few ((capsOf cs1).map (·.1)) ((capsOf cs2).map (·.1)) := by rw [capsOf_keys, capsOf_keys]; exact TW.few
    clear M3 M4 M5 a1 a2 h1 h2 h3 k1 k2
    refine ⟨p3, ps1 ++ ps2, rfl, SqL.of a3, fun l nd hl => few l nd fun x hx => (keys x).mp (hl x hx), fun p hp => SqT.of (t3 p hp), fun S rs hS sub nd mem => ?_⟩
    have M6 := same_new (o := SetC P w S rs) (Same.refl H5) hS
    refine ⟨S, rs, rfl, upd_same, fun r hr => SqT.of (M6 _ _ (t3 r (sub r hr))), fun p qs hp perm pw => ?_⟩
    have M7 := same_new (o := .lst (qs.map fun q => V.ref q.1)) M6 hp
    have M := M0.trans M7
    have tq : ∀ x ∈ qs, (upd (upd H5 S (SetC P w S rs)) p (.lst (qs.map fun q => V.ref q.1))) x.1 = some (.tup [.str x.2.1, .str x.2.2]) := fun x hx => M7 _ _ (t3 x (sub x (perm.mem_iff.mp hx)))
    have nq : (qs.map (·.2)).Nodup := (perm.map (·.2)).nodup_iff.mpr nd
    have mq : ∀ x, x ∈ qs.map (·.2) ↔ x ∈ (capsOf cs1).map (·.1) ∨ x ∈ (capsOf cs2).map (·.1) := fun x => ((perm.map (·.2)).mem_iff.trans (mem x)).trans (keys x)
    have l63 : qs.length < 63 := by
      have := few _ nq fun x hx => (mq x).mp hx
      rwa [List.length_map] at this
    have krs : (qs.map (·.2)).Pairwise (fun a b => dataLe false pD a b = true) := List.pairwise_map.mpr (pw.imp fun {a b} h => by rw [PySem.W.dataLe_eq] at h ⊢; exact h)
    have e4 : (upd (upd H5 S (SetC P w S rs)) p (.lst (qs.map fun q => V.ref q.1))) e = some (.lst []) := M _ _ g1
    have d4 : (upd (upd H5 S (SetC P w S rs)) p (.lst (qs.map fun q => V.ref q.1))) d = some (.dT (kvs (capsOf cs1))) := M _ _ g2
    have q4 : (upd (upd H5 S (SetC P w S rs)) p (.lst (qs.map fun q => V.ref q.1))) q = some (.dT (kvs (capsOf cs2))) := M _ _ g3
    have p4 : (upd (upd H5 S (SetC P w S rs)) p (.lst (qs.map fun q => V.ref q.1))) p = some (.lst (qs.map fun q => V.ref q.1)) := upd_same
    have npe : p ≠ e := (ne_of_none (M0.trans M6 _ _ g1) hp).symm
    have MT := M2.trans M
    refine ⟨p, rfl, ⟨_, SqL.of p4⟩, ?_⟩
    refine for_list (K := K) (a := p) (xs := qs.map fun q => V.ref q.1) (fun i σ H' => ∃ (v8 : Option V) (xs : List V), σ = [some (.ref ty1), some (.ref ty2), some (.ref e), some (.ref d), some (.ref q), w5, w6, w7, v8, none, none, none, none] ∧ H' e = some (.lst xs) ∧ xs.length ≤ i ∧ Paired (EdV K H') xs (((qs.take i).filter fun q => !decide (capAt (capsOf cs1) q.2 = capAt (capsOf cs2) q.2)).map fun q => cEd (capsOf cs2) q.2) ∧
      (∀ a o, a ≠ e → (upd (upd H5 S (SetC P w S rs)) p (.lst (qs.map fun q => V.ref q.1))) a = some o → H' a = some o) ∧ Same H H') ?_ ?_ ?_ ?_
    · exact ⟨none, [], rfl, e4, Nat.le_refl _, by rw [List.take_zero]; exact .nil, fun _ _ _ h => h, MT⟩
    · rintro i σ H' _ ⟨_, _, _, _, _, _, bt, _⟩
      exact SqL.of (bt _ _ npe p4)
    · rintro i x σ H' hx ⟨v8, xs, rfl, eH, lx, EV, bt, MH⟩
      rw [List.getElem?_map] at hx
      obtain ⟨y, hy, rfl⟩ := Option.map_eq_some_iff.mp hx
      have ym := List.mem_of_getElem? hy
      have iq : i < qs.length := (List.getElem?_eq_some_iff.mp hy).1
      have ty := bt _ _ (ne_at (tq y ym) e4 (fun z => by cases z)) (tq y ym)
      have dH := bt _ _ nde d4
      have qH := bt _ _ nqe q4
      have step : (qs.take (i + 1)).filter (fun q => !decide (capAt (capsOf cs1) q.2 = capAt (capsOf cs2) q.2)) = (qs.take i).filter (fun q => !decide (capAt (capsOf cs1) q.2 = capAt (capsOf cs2) q.2)) ++ if (!decide (capAt (capsOf cs1) y.2 = capAt (capsOf cs2) y.2)) = true then [y] else [] := by
        rw [List.take_succ, hy, List.filter_append, Option.toList_some, List.filter_cons, List.filter_nil]
      have fin : ∀ {G : Hp} {v : Addr} {o : Ed}, Same H' G → G v = some (.tup (edV o)) → o = cEd (capsOf cs2) y.2 → (!decide (capAt (capsOf cs1) y.2 = capAt (capsOf cs2) y.2)) = true → ∃ (v8 : Option V) (xs' : List V), [some (.ref ty1), some (.ref ty2), some (.ref e), some (.ref d), some (.ref q), w5, w6, w7, some (.ref y.1), none, none, none, none] = [some (.ref ty1), some (.ref ty2), some (.ref e), some (.ref d), some (.ref q), w5, w6, w7, v8, none, none, none, none] ∧
          upd G e (.lst (xs ++ [.ref v])) e = some (.lst xs') ∧ xs'.length ≤ i + 1 ∧ Paired (EdV K (upd G e (.lst (xs ++ [.ref v])))) xs' (((qs.take (i + 1)).filter fun q => !decide (capAt (capsOf cs1) q.2 = capAt (capsOf cs2) q.2)).map fun q => cEd (capsOf cs2) q.2) ∧ (∀ a o, a ≠ e → (upd (upd H5 S (SetC P w S rs)) p (.lst (qs.map fun q => V.ref q.1))) a = some o → upd G e (.lst (xs ++ [.ref v])) a = some o) ∧ Same H (upd G e (.lst (xs ++ [.ref v]))) := fun {G v o} mG ew eo un => by
        have eG := mG _ _ eH
        refine ⟨_, _, rfl, upd_same, by rw [List.length_append]; show xs.length + 1 ≤ _; omega, ?_, fun a u n h => by rw [upd_ne n]; exact mG _ _ (bt _ _ n h), same_put (MH.trans mG) he0⟩
        rw [step, if_pos un, List.map_append, List.map_singleton, ← eo]
        exact paired_snoc ⟨v, rfl, sqt_put eG (SqT.of ew)⟩ (paired_imp (fun _ _ h => let ⟨t, q, h⟩ := h; ⟨t, q, sqt_put eG (sqt_more mG h)⟩) EV)
      have yin := (mq y.2).mp (List.mem_map.mpr ⟨y, ym, rfl⟩)
      refine ⟨_, rfl, _, rfl, q, _, rfl, DGet.t (k := pK y.2) qH ty, _, rfl, ?_⟩
      rw [kvs_at]
      refine ite2 (fun h => ?_) (fun h => ?_)
      · have ev : capAt (capsOf cs2) y.2 = none := by
          cases e : capAt (capsOf cs2) y.2 with
          | none => rfl
          | some v => rw [e] at h; cases h
        have un : (!decide (capAt (capsOf cs1) y.2 = capAt (capsOf cs2) y.2)) = true := by
          rcases yin with z | z
          · obtain ⟨v, e1⟩ := cap_some z
            rw [e1, ev]
            rfl
          · obtain ⟨v, e1⟩ := cap_some z
            rw [ev] at e1
            cases e1
        refine ⟨_, rfl, .inl ⟨rfl, _, SqL.of eH⟩, by show 1 ≤ sizeLine; decide, fun u hu' => ⟨_, rfl, u, y.1, [.str "no cable"], [.str y.2.1, .str y.2.2], rfl, rfl, SqT.of upd_same, SqT.of (s3u hu' ty), by show 1 + 2 ≤ sizeLine; decide, (fun z => by cases z), (fun _ z => by cases z), fun _ _ v hv => ⟨e, xs, _, rfl, rfl, s3u hv (s3u hu' eH), small1000 (by omega), ?_⟩⟩⟩
        exact fin (o := .noc y.2.1 y.2.2) (same_new (same_new (Same.refl H') hu') hv) upd_same (by unfold cEd; rw [ev]) un
      · obtain ⟨v, ev⟩ : ∃ v, capAt (capsOf cs2) y.2 = some v := by
          cases e : capAt (capsOf cs2) y.2 with
          | none => rw [e] at h; exact absurd rfl h
          | some v => exact ⟨v, rfl⟩
        have gq : ∀ {G : Hp}, Same H' G → DGet G q (.ref y.1) (some (.int v)) := fun {G} m => by
          have := DGet.t (k := pK y.2) (m _ _ qH) (m _ _ ty)
          rw [kvs_at, ev] at this
          exact this
        refine ⟨_, rfl, d, rfl, .inr ⟨_, Rd.of dH⟩, _, rfl, _, DGet.t (k := pK y.2) dH ty, _, rfl, _, rfl, q, .int v, rfl, gq (Same.refl H'), ?_⟩
        rw [kvs_at]
        refine ⟨optD (capAt (capsOf cs1) y.2), optD (some v), dp_opt _, .int v, shaped_opt _, shaped_opt _, _, rfl, ?_⟩
        rw [eqv_opt, ← ev]
        refine ite2 (fun un => ?_) (fun un => ?_)
        · refine ⟨_, rfl, .inl ⟨rfl, _, SqL.of eH⟩, by show 1 ≤ sizeLine; decide, fun u hu' => ⟨_, rfl, u, y.1, [.str "cable"], [.str y.2.1, .str y.2.2], rfl, rfl, SqT.of upd_same, SqT.of (s3u hu' ty), by show 1 + 2 ≤ sizeLine; decide, (fun z => by cases z), (fun _ z => by cases z), fun _ _ v1 hv => ?_⟩⟩
          have m1 := same_new (o := .tup ([V.str "cable"] ++ [.str y.2.1, .str y.2.2])) (same_new (o := .tup [.str "cable"]) (Same.refl H') hu') hv
          refine ⟨_, rfl, _, rfl, q, .int v, rfl, gq m1, by show 1 ≤ sizeLine; decide, fun v2 hv2 => ⟨v1, v2, _, [.int v], rfl, rfl, SqT.of (s3u hv2 upd_same), SqT.of upd_same, by show 3 + 1 ≤ sizeLine; decide, (fun z => by cases z), (fun _ z => by cases z), fun _ _ v3 hv3 => ⟨e, xs, _, rfl, rfl, s3u hv3 (s3u hv2 (m1 _ _ eH)), small1000 (by omega), ?_⟩⟩⟩
          exact fin (o := .cab y.2.1 y.2.2 v) (same_new (same_new m1 hv2) hv3) upd_same (by unfold cEd; rw [ev]) un
        · refine ⟨_, xs, rfl, eH, by omega, ?_, bt, MH⟩
          rw [step, if_neg un, List.append_nil]
          exact EV
    rintro σ H6 ⟨v8, xs, rfl, e6, lx, EV, bt, M6'⟩
    rw [List.length_map, List.take_length] at EV
    rw [List.length_map] at lx
    have lz1 : zs1.length = rs1.length := paired_len v5
    have lz2 : zs2.length = rs2.length := paired_len u5
    have y1' := TW.lr1
    have y2' := TW.lr2
    have EV : Paired (EdV K H6) xs (((qs.map (·.2)).filter fun k => !decide (capAt (capsOf cs1) k = capAt (capsOf cs2) k)).map (cEd (capsOf cs2))) := by
      rw [List.filter_map, List.map_map]
      exact EV
    refine ⟨_, rfl, ty1, _, 1, .ref yb1, rfl, rfl, sqt_more M6' v1, at1, yb1, rfl, ⟨_, sqt_more M6' v3⟩, fun D1 hD1 => ?_⟩
    refine lc_tup (K := K) (a := yb1) (xs := zs1) (fun i G => ∃ (ps : List Addr) (l : List (Key × V)), G D1 = some (.lst (ps.map V.ref)) ∧ ps.length = i ∧ Paired (fun p kv => p ≠ D1 ∧ G p = some (.tup [kV kv.1, kv.2])) ps l ∧ cK l (rs1.take i) K H ∧ Same H6 G) ⟨[], [], upd_same, rfl, .nil, by rw [List.take_zero]; exact .nil, same_new (Same.refl H6) hD1⟩ ?_ ?_ ?_
    · rintro i G' hi ⟨ps, l, _, _, _, _, g⟩
      exact sqt_more (M6'.trans g) v3
    · rintro i x G hx ⟨ps, l, b1, b2, b3, b4, b5⟩
      obtain ⟨r, hr', hcv⟩ := paired_at v5 hx
      obtain ⟨t', rfl, hT⟩ := id hcv
      have hi : i < rs1.length := (List.getElem?_eq_some_iff.mp hr').1
      refine ⟨rfl, _, rfl, t', _, 0, _, rfl, rfl, sqt_more (M6'.trans b5) hT, at0, _, rfl, by show 2 ≤ sizeLine; decide, fun v hv' => ?_⟩
      have m9 : Same G (upd G v (.tup [.str r.1, .ref t'])) := same_new (Same.refl G) hv'
      have r1 : upd G v (.tup [.str r.1, .ref t']) v = some (.tup [.str r.1, .ref t']) := upd_same
      generalize upd G v (.tup [.str r.1, .ref t']) = G9 at m9 r1 ⊢
      have n1 := m9 _ _ b1
      have nv : v ≠ D1 := ne_at r1 n1 (fun z => by cases z)
      refine ⟨ps.map V.ref, n1, by rw [List.length_map]; exact small1000 (by omega), ps ++ [v], l ++ [((Sum.inr r.1 : Key), .ref t')], by rw [upd_same, List.map_append]; rfl, by rw [List.length_append, b2]; rfl, ?_, ?_, same_put (b5.trans m9) hD1⟩
      · refine paired_snoc ⟨nv, by rw [upd_ne nv]; exact r1⟩ (paired_imp (fun p kv h => ⟨h.1, by rw [upd_ne h.1]; exact m9 _ _ h.2⟩) b3)
      · rw [List.take_succ, hr']
        exact paired_snoc ⟨rfl, hcv⟩ b4
    rintro G1 ⟨ps1, l1, b1, b2, b3, ck1, b5⟩
    rw [lz1, List.take_length] at ck1
    refine ⟨D1, ps1, l1, rfl, SqL.of b1, paired_imp (fun p kv h => SqT.of h.2) b3, fun q1 hq1 => ?_⟩
    have em1 : mergeK [] l1 = l1 := merge_new _ [] (by
      show (l1.map (·.1)).Nodup
      rw [cK_keys ck1, show (rs1.map fun r => (Sum.inr r.1 : Key)) = (rs1.map (·.1)).map (fun s => (Sum.inr s : Key)) by rw [List.map_map]; rfl]
      exact List.pairwise_map.mpr (TW.n1.imp fun n z => n (by injection z)))
    rw [em1]
    have mq1 : Same H6 (upd G1 q1 (.dK l1)) := same_new b5 hq1
    have eq1 : upd G1 q1 (.dK l1) q1 = some (.dK l1) := upd_same
    generalize upd G1 q1 (.dK l1) = H7 at mq1 eq1 ⊢
    have M7' := M6'.trans mq1
    clear b1 b2 b3 b5
    refine ⟨_, rfl, ty2, _, 1, .ref yb2, rfl, rfl, sqt_more M7' u1, at1, yb2, rfl, ⟨_, sqt_more M7' u3⟩, fun D2 hD2 => ?_⟩
    refine lc_tup (K := K) (a := yb2) (xs := zs2) (fun i G => ∃ (ps : List Addr) (l : List (Key × V)), G D2 = some (.lst (ps.map V.ref)) ∧ ps.length = i ∧ Paired (fun p kv => p ≠ D2 ∧ G p = some (.tup [kV kv.1, kv.2])) ps l ∧ cK l (rs2.take i) K H ∧ Same H7 G) ⟨[], [], upd_same, rfl, .nil, by rw [List.take_zero]; exact .nil, same_new (Same.refl H7) hD2⟩ ?_ ?_ ?_
    · rintro i G' hi ⟨ps, l, _, _, _, _, g⟩
      exact sqt_more (M7'.trans g) u3
    · rintro i x G hx ⟨ps, l, b1, b2, b3, b4, b5⟩
      obtain ⟨r, hr', hcv⟩ := paired_at u5 hx
      obtain ⟨t', rfl, hT⟩ := id hcv
      have hi : i < rs2.length := (List.getElem?_eq_some_iff.mp hr').1
      refine ⟨rfl, _, rfl, t', _, 0, _, rfl, rfl, sqt_more (M7'.trans b5) hT, at0, _, rfl, by show 2 ≤ sizeLine; decide, fun v hv' => ?_⟩
      have m9 : Same G (upd G v (.tup [.str r.1, .ref t'])) := same_new (Same.refl G) hv'
      have r1 : upd G v (.tup [.str r.1, .ref t']) v = some (.tup [.str r.1, .ref t']) := upd_same
      generalize upd G v (.tup [.str r.1, .ref t']) = G9 at m9 r1 ⊢
      have n1 := m9 _ _ b1
      have nv : v ≠ D2 := ne_at r1 n1 (fun z => by cases z)
      refine ⟨ps.map V.ref, n1, by rw [List.length_map]; exact small1000 (by omega), ps ++ [v], l ++ [((Sum.inr r.1 : Key), .ref t')], by rw [upd_same, List.map_append]; rfl, by rw [List.length_append, b2]; rfl, ?_, ?_, same_put (b5.trans m9) hD2⟩
      · refine paired_snoc ⟨nv, by rw [upd_ne nv]; exact r1⟩ (paired_imp (fun p kv h => ⟨h.1, by rw [upd_ne h.1]; exact m9 _ _ h.2⟩) b3)
      · rw [List.take_succ, hr']
        exact paired_snoc ⟨rfl, hcv⟩ b4
    rintro G2 ⟨ps2, l2, b1, b2, b3, ck2, b5⟩
    rw [lz2, List.take_length] at ck2
    refine ⟨D2, ps2, l2, rfl, SqL.of b1, paired_imp (fun p kv h => SqT.of h.2) b3, fun q2 hq2 => ?_⟩
    have em2 : mergeK [] l2 = l2 := merge_new _ [] (by
      show (l2.map (·.1)).Nodup
      rw [cK_keys ck2, show (rs2.map fun r => (Sum.inr r.1 : Key)) = (rs2.map (·.1)).map (fun s => (Sum.inr s : Key)) by rw [List.map_map]; rfl]
      exact List.pairwise_map.mpr (TW.n2.imp fun n z => n (by injection z)))
    rw [em2]
    have mq2 : Same H7 (upd G2 q2 (.dK l2)) := same_new b5 hq2
    have eq2 : upd G2 q2 (.dK l2) q2 = some (.dK l2) := upd_same
    generalize upd G2 q2 (.dK l2) = H8 at mq2 eq2 ⊢
    have M8' := M7'.trans mq2
    clear b1 b2 b3 b5
    have eq1 := mq2 _ _ eq1
    have e8 := (mq1.trans mq2) _ _ e6
    have EV := paired_imp (fun _ _ h => EdV.more (mq1.trans mq2) h) EV
    have ck1 := ck1.more M8'
    have ck2 := ck2.more M8'
    refine ⟨_, _, rfl, ?_⟩
    have tl : ∀ l : List Str, (txs l).length = l.length := fun l => List.length_map _
    have ek : ∀ {l : List (Key × V)} {rs : List Car}, cK l rs K H8 → (l.map fun kv => kV kv.1) = txs (rs.map (·.1)) := fun {l rs} c => by
      have e : (l.map fun kv => kV kv.1) = (l.map (·.1)).map kV := by rw [List.map_map]; rfl
      rw [e, cK_keys c, List.map_map]
      unfold txs
      rw [List.map_map]
      rfl
    refine ⟨_, rfl, q1, _, rfl, Rd.of eq1, fun p1 h1 => ?_⟩
    rw [ek ck1]
    have M1 := same_new (o := .lst (txs (rs1.map (·.1)))) (Same.refl H8) h1
    have c1 : upd H8 p1 (.lst (txs (rs1.map (·.1)))) p1 = some (.lst (txs (rs1.map (·.1)))) := upd_same
    generalize upd H8 p1 (.lst (txs (rs1.map (·.1)))) = H9 at M1 c1 ⊢
    refine ⟨_, rfl, q2, _, rfl, Rd.of (M1 _ _ eq2), fun p2 h2 => ?_⟩
    rw [ek ck2]
    have M2' := same_new (o := .lst (txs (rs2.map (·.1)))) (Same.refl H9) h2
    have c2 : upd H9 p2 (.lst (txs (rs2.map (·.1)))) p2 = some (.lst (txs (rs2.map (·.1)))) := upd_same
    generalize upd H9 p2 (.lst (txs (rs2.map (·.1)))) = HA at M2' c2 ⊢
    refine ⟨p1, p2, _, _, rfl, rfl, M2' _ _ c1, c2, by rw [tl, tl, List.length_map, List.length_map]; exact Nat.le_of_lt (small1000 (by omega)), fun p3 h3 => ?_⟩
    have ej2 : txs (rs1.map (·.1)) ++ txs (rs2.map (·.1)) = (rs1.map (·.1) ++ rs2.map (·.1)).map V.str := by unfold txs; rw [List.map_append]
    rw [ej2]
    have M3 := same_new (o := .lst ((rs1.map (·.1) ++ rs2.map (·.1)).map V.str)) (Same.refl HA) h3
    have c3 : upd HA p3 (.lst ((rs1.map (·.1) ++ rs2.map (·.1)).map V.str)) p3 = some (.lst ((rs1.map (·.1) ++ rs2.map (·.1)).map V.str)) := upd_same
    generalize upd HA p3 (.lst ((rs1.map (·.1) ++ rs2.map (·.1)).map V.str)) = HB at M3 c3 ⊢
    have MB := (M1.trans M2').trans M3
    clear M1 M2' M3 c1 c2 h1 h2 h3
    refine ⟨p3, rs1.map (·.1) ++ rs2.map (·.1), rfl, SqL.of c3, by rw [List.length_append, List.length_map, List.length_map]; omega, fun S2 ls hS2 mem2 => ?_⟩
    have MC := MB.trans (same_new (o := SetS P w S2 ls) (Same.refl HB) hS2)
    refine ⟨S2, ls, rfl, upd_same, fun l nl ml => ?_, fun pn ys hpn sy ny my => ?_⟩
    · have := TW.fewn l nl fun x hx => List.mem_append.mp ((mem2 x).mp ((ml x).mp hx))
      omega
    have my2 : ∀ x, x ∈ ys ↔ x ∈ rs1.map (·.1) ∨ x ∈ rs2.map (·.1) := fun x => ((my x).trans (mem2 x)).trans List.mem_append
    have l60 := TW.fewn ys ny fun x hx => (my2 x).mp hx
    have MD := same_new (o := .lst (ys.map V.str)) MC hpn
    have nne : pn ≠ e := (ne_of_none (MC _ _ e8) hpn).symm
    have eD := MD _ _ e8
    have EV := paired_imp (fun _ _ h => EdV.more MD h) EV
    have a1 := MD _ _ eq1
    have a2 := MD _ _ eq2
    have ck1 := ck1.more MD
    have ck2 := ck2.more MD
    have HM := M8'.trans MD
    generalize hA : (((qs.map (·.2)).filter fun k => !decide (capAt (capsOf cs1) k = capAt (capsOf cs2) k)).map (cEd (capsOf cs2))) = ea at EV
    refine ⟨pn, rfl, ⟨_, SqL.of upd_same⟩, ?_⟩
    refine for_list (K := K) (a := pn) (xs := ys.map V.str) (fun i σ H' => ∃ (v11 : Option V) (xs' : List V), σ = [some (.ref ty1), some (.ref ty2), some (.ref e), some (.ref d), some (.ref q), w5, w6, w7, v8, some (.ref q1), some (.ref q2), v11, none] ∧ H' e = some (.lst xs') ∧ xs'.length ≤ qs.length + i ∧ Paired (EdV K H') xs' (ea ++ ((ys.take i).filter fun k => !decide (carAt rs1 k = carAt rs2 k)).map (nEd rs2)) ∧
      (∀ a o, a ≠ e → (upd (upd HB S2 (SetS P w S2 ls)) pn (.lst (ys.map V.str))) a = some o → H' a = some o) ∧ Same H H') ?_ ?_ ?_ ?_
    · exact ⟨none, xs, rfl, eD, lx, by rw [List.take_zero, List.filter_nil, List.map_nil, List.append_nil]; exact EV, fun _ _ _ h => h, HM⟩
    · rintro i σ H' _ ⟨_, _, _, _, _, _, bt, _⟩
      exact SqL.of (bt _ _ nne upd_same)
    · rintro i x σ H' hx ⟨v11, xs', rfl, eH, lx', EV', bt, MH⟩
      rw [List.getElem?_map] at hx
      obtain ⟨n, hn, rfl⟩ := Option.map_eq_some_iff.mp hx
      have iq : i < ys.length := (List.getElem?_eq_some_iff.mp hn).1
      have oH := bt _ _ (ne_at a1 eD (fun z => by cases z)) a1
      have qH := bt _ _ (ne_at a2 eD (fun z => by cases z)) a2
      have sb : ∀ {a : Addr} {xs : List V}, SqT K (upd (upd HB S2 (SetS P w S2 ls)) pn (.lst (ys.map V.str))) a xs → SqT K H' a xs := fun {a xs} h => by
        have ne : ∀ {a : Addr} {o : HO}, (upd (upd HB S2 (SetS P w S2 ls)) pn (.lst (ys.map V.str))) a = some o → (∀ ys, o ≠ .lst ys) → a ≠ e := fun {a o} h n z => by
          rw [z, eD] at h
          exact n _ (Option.some.inj h).symm
        rcases h with (h | ⟨u, h⟩) | h
        · exact .inl (.inl (bt _ _ (ne h fun _ z => by cases z) h))
        · exact .inl (.inr ⟨u, bt _ _ (ne h fun _ z => by cases z) h⟩)
        · exact .inr h
      have step : (ys.take (i + 1)).filter (fun k => !decide (carAt rs1 k = carAt rs2 k)) = (ys.take i).filter (fun k => !decide (carAt rs1 k = carAt rs2 k)) ++ if (!decide (carAt rs1 n = carAt rs2 n)) = true then [n] else [] := by
        rw [List.take_succ, hn, List.filter_append, Option.toList_some, List.filter_cons, List.filter_nil]
      have fin : ∀ {G : Hp} {v : Addr} {o : Ed}, Same H' G → G v = some (.tup (edV o)) → o = nEd rs2 n → (!decide (carAt rs1 n = carAt rs2 n)) = true → ∃ (v11 : Option V) (xs2 : List V), [some (.ref ty1), some (.ref ty2), some (.ref e), some (.ref d), some (.ref q), w5, w6, w7, v8, some (.ref q1), some (.ref q2), some (.str n), none] = [some (.ref ty1), some (.ref ty2), some (.ref e), some (.ref d), some (.ref q), w5, w6, w7, v8, some (.ref q1), some (.ref q2), v11, none] ∧
          upd G e (.lst (xs' ++ [.ref v])) e = some (.lst xs2) ∧ xs2.length ≤ qs.length + (i + 1) ∧ Paired (EdV K (upd G e (.lst (xs' ++ [.ref v])))) xs2 (ea ++ ((ys.take (i + 1)).filter fun k => !decide (carAt rs1 k = carAt rs2 k)).map (nEd rs2)) ∧ (∀ a o, a ≠ e → (upd (upd HB S2 (SetS P w S2 ls)) pn (.lst (ys.map V.str))) a = some o → upd G e (.lst (xs' ++ [.ref v])) a = some o) ∧ Same H (upd G e (.lst (xs' ++ [.ref v]))) := fun {G v o} mG ew eo un => by
        have eG := mG _ _ eH
        refine ⟨_, _, rfl, upd_same, by rw [List.length_append]; show xs'.length + 1 ≤ _; omega, ?_, fun a u n h => by rw [upd_ne n]; exact mG _ _ (bt _ _ n h), same_put (MH.trans mG) he0⟩
        rw [step, if_pos un, List.map_append, List.map_singleton, ← eo, ← List.append_assoc]
        exact paired_snoc ⟨v, rfl, sqt_put eG (SqT.of ew)⟩ (paired_imp (fun _ _ h => let ⟨t, q, h⟩ := h; ⟨t, q, sqt_put eG (sqt_more mG h)⟩) EV')
      have yin := (my2 n).mp (List.mem_of_getElem? hn)
      refine ⟨_, rfl, _, rfl, q2, _, rfl, DGet.k (k := Sum.inr n) qH, _, rfl, ?_⟩
      have side : ∀ {l : List (Key × V)} {rs : List Car}, cK l rs K (upd (upd HB S2 (SetS P w S2 ls)) pn (.lst (ys.map V.str))) → (∀ r ∈ rs, Nm r.1 ∧ Nf r.2.1) → Dp K H' ((valV l (Sum.inr n : Key)).getD .non) (optC (carAt rs n)) ∧ SeqAt.shaped (optC (carAt rs n)) = true := fun c nm => by
        rcases cK_at n c with ⟨r, x, e1, e2, e3, t', rfl, e4⟩ | ⟨e1, e2⟩
        · rw [e1, e3]
          exact ⟨dp_car ⟨t', rfl, sb e4⟩, shaped_car (nm r e2)⟩
        · rw [e1, e2]
          exact ⟨.non, rfl⟩
      rcases cK_at n ck2 with ⟨r, x, c1, c2, c3, t', rfl, c4⟩ | ⟨c1, c3⟩
      · rw [c3]
        refine ite2 (fun h => by cases h) (fun _ => ?_)
        obtain ⟨o1, o2⟩ := side ck1 fun r hr => TW.nms r (.inl hr)
        obtain ⟨o3, o4⟩ := side ck2 fun r hr => TW.nms r (.inr hr)
        rw [c3] at o3
        have gq : ∀ {G : Hp}, Same H' G → DGet G q2 (.str n) (some (.ref t')) := fun {G} m => by
          have := DGet.k (k := Sum.inr n) (m _ _ qH)
          rw [c3] at this
          exact this
        refine ⟨_, rfl, q1, rfl, .inl ⟨_, Rd.of oH⟩, _, rfl, _, DGet.k (k := Sum.inr n) oH, _, rfl, _, rfl, q2, .ref t', rfl, gq (Same.refl H'), ?_⟩
        refine ⟨_, _, o1, o3, o2, o4, _, rfl, ?_⟩
        rw [eqv_optC]
        refine ite2 (fun un => ?_) (fun un => ?_)
        · refine ⟨_, rfl, .inl ⟨rfl, _, SqL.of eH⟩, by show 1 ≤ sizeLine; decide, fun u hu' => ⟨_, rfl, _, rfl, q2, .ref t', rfl, gq (same_new (Same.refl H') hu'), u, t', [.str "car"], _, rfl, rfl, SqT.of upd_same, sqt_more (same_new (Same.refl H') hu') (sb c4), by show 1 + 4 ≤ sizeLine; decide, (fun z => by cases z), (fun _ z => by cases z), fun _ _ v hv => ⟨e, xs', _, rfl, rfl, s3u hv (s3u hu' eH), small1000 (by omega), ?_⟩⟩⟩
          exact fin (o := .car r) (same_new (same_new (Same.refl H') hu') hv) upd_same (by unfold nEd; rw [c1]) un
        · refine ⟨_, xs', rfl, eH, by omega, ?_, bt, MH⟩
          rw [step, if_neg un, List.append_nil]
          exact EV'
      · rw [c3]
        refine ite2 (fun _ => ?_) (fun h => absurd rfl h)
        have un : (!decide (carAt rs1 n = carAt rs2 n)) = true := by
          rcases cK_at n ck1 with ⟨r, x, d1, d2, d3, _⟩ | ⟨d1, d3⟩
          · rw [c1, d1]
            rfl
          · exfalso
            rcases yin with z | z
            · have := cK_is (n := n) ck1
              rw [d3, decide_eq_true z] at this
              cases this
            · have := cK_is (n := n) ck2
              rw [c3, decide_eq_true z] at this
              cases this
        refine ⟨_, rfl, .inl ⟨rfl, _, SqL.of eH⟩, _, rfl, by show 2 ≤ sizeLine; decide, fun v hv => ⟨e, xs', _, rfl, rfl, s3u hv eH, small1000 (by omega), ?_⟩⟩
        exact fin (o := .nor n) (same_new (Same.refl H') hv) upd_same (by unfold nEd; rw [c1]) un
    rintro σ HE ⟨v11, xs', rfl, eE, lx', EV', bt2, ME⟩
    rw [List.length_map, List.take_length, ← hA] at EV'
    exact ⟨_, rfl, k e xs' (qs.map fun q : Cp => q.2) ys HE ⟨nq, mq, krs, ny, my2, sy⟩ eE EV' he0 ME⟩
end
end Y

/-! UK7: the fewest edits lead there; each is wanted; no way round is shorter. -/
namespace Y
open PySem PySem.Spec PyProof.Rows L2 Ns
open PySem.W (dataLe dataLt alike TotalLe)
abbrev KX := (Str × Str) ⊕ Str
def Lk (s : Caps × List Car) : KX → Option (Int ⊕ Car)
  | .inl k => (capAt s.1 k).map .inl
  | .inr n => (carAt s.2 n).map .inr
def eKy : Ed → KX
  | .cab s e _ => .inl (s, e)
  | .noc s e => .inl (s, e)
  | .car r => .inr r.1
  | .nor n => .inr n
def eVl : Ed → Option (Int ⊕ Car)
  | .cab _ _ v => some (.inl v)
  | .car r => some (.inr r)
  | _ => none
theorem cap_app {k k' : Str × Str} {v : Int} : ∀ {c : Caps}, k ∉ c.map (·.1) → capAt (c ++ [(k, v)]) k' = if k' = k then some v else capAt c k'
  | [], _ => by
    show (if k = k' then some v else none) = _
    by_cases e : k' = k
    · rw [if_pos e, if_pos e.symm]
    · rw [if_neg e, if_neg (fun z => e z.symm)]
      rfl
  | p :: c, h => by
    have ih := cap_app (k := k) (k' := k') (v := v) (c := c) fun z => h (List.mem_cons_of_mem _ z)
    have np : p.1 ≠ k := fun z => h (by rw [← z]; exact List.mem_cons_self)
    rw [List.cons_append]
    unfold capAt
    by_cases e : p.1 = k'
    · rw [if_pos e, if_pos e, if_neg (fun z => np (e.trans z))]
    · rw [if_neg e, if_neg e, ih]
theorem cap_map {k k' : Str × Str} {v : Int} : ∀ {c : Caps}, k ∈ c.map (·.1) → capAt (c.map fun f => if f.1 = k then (f.1, v) else f) k' = if k' = k then some v else capAt c k'
  | p :: c, h => by
    rw [List.map_cons]
    by_cases ep : p.1 = k
    · rw [if_pos ep]
      unfold capAt
      by_cases e : p.1 = k'
      · rw [if_pos e, if_pos (e.symm.trans ep)]
      · rw [if_neg e, if_neg e, if_neg (fun z => e (ep.trans z.symm))]
        by_cases hc : k ∈ c.map (·.1)
        · rw [cap_map hc, if_neg (fun z => e (ep.trans z.symm))]
        · have : (c.map fun f => if f.1 = k then (f.1, v) else f) = c := by
            refine (List.map_congr_left fun f hf => if_neg fun z => hc ?_).trans (List.map_id _)
            rw [← z]
            exact List.mem_map.mpr ⟨f, hf, rfl⟩
          rw [this]
    · rw [if_neg ep]
      have hc := (List.mem_cons.mp h).resolve_left fun z => ep z.symm
      unfold capAt
      by_cases e : p.1 = k'
      · rw [if_pos e, if_pos e, if_neg (fun z => ep (e.trans z))]
      · rw [if_neg e, if_neg e, cap_map hc]
theorem cap_put {c : Caps} {k k' : Str × Str} {v : Int} : capAt (put c k v) k' = if k' = k then some v else capAt c k' := by
  unfold put
  split
  · rename_i h
    obtain ⟨f, hf, ef⟩ := List.any_eq_true.mp h
    exact cap_map (List.mem_map.mpr ⟨f, hf, of_decide_eq_true ef⟩)
  · rename_i h
    refine cap_app fun z => h ?_
    obtain ⟨f, hf, ef⟩ := List.mem_map.mp z
    exact List.any_eq_true.mpr ⟨f, hf, decide_eq_true ef⟩
theorem cap_drop {k k' : Str × Str} : ∀ {c : Caps}, capAt (dropP c k) k' = if k' = k then none else capAt c k'
  | [] => by
    show none = _
    split <;> rfl
  | p :: c => by
    have ih := cap_drop (k := k) (k' := k') (c := c)
    unfold dropP at ih ⊢
    rw [List.filter_cons]
    by_cases ep : p.1 = k
    · rw [if_neg (by simp [ep]), ih]
      by_cases e : k' = k
      · rw [if_pos e, if_pos e]
      · rw [if_neg e, if_neg e]
        conv => rhs; unfold capAt
        rw [if_neg (fun z => e (z.symm.trans ep))]
    · rw [if_pos (by simp [ep])]
      unfold capAt
      by_cases e : p.1 = k'
      · rw [if_pos e, if_pos e, if_neg (fun z => ep (e.trans z))]
      · rw [if_neg e, if_neg e, ih]
theorem car_app {r : Car} {n : Str} : ∀ {rs : List Car}, r.1 ∉ rs.map (·.1) → carAt (rs ++ [r]) n = if n = r.1 then some r else carAt rs n
  | [], _ => by
    show (if r.1 = n then some r else none) = _
    by_cases e : n = r.1
    · rw [if_pos e, if_pos e.symm]
    · rw [if_neg e, if_neg (fun z => e z.symm)]
      rfl
  | p :: c, h => by
    have ih := car_app (r := r) (n := n) (rs := c) fun z => h (List.mem_cons_of_mem _ z)
    have np : p.1 ≠ r.1 := fun z => h (by rw [← z]; exact List.mem_cons_self)
    rw [List.cons_append]
    unfold carAt
    by_cases e : p.1 = n
    · rw [if_pos e, if_pos e, if_neg (fun z => np (e.trans z))]
    · rw [if_neg e, if_neg e, ih]
theorem car_map {r : Car} {n : Str} : ∀ {rs : List Car}, r.1 ∈ rs.map (·.1) → carAt (rs.map fun q => if q.1 = r.1 then r else q) n = if n = r.1 then some r else carAt rs n
  | p :: c, h => by
    rw [List.map_cons]
    by_cases ep : p.1 = r.1
    · rw [if_pos ep]
      unfold carAt
      by_cases e : r.1 = n
      · rw [if_pos e, if_pos e.symm]
      · rw [if_neg e, if_neg (fun z => e z.symm), if_neg (fun z => e (ep.symm.trans z))]
        by_cases hc : r.1 ∈ c.map (·.1)
        · rw [car_map hc, if_neg (fun z => e z.symm)]
        · have : (c.map fun q => if q.1 = r.1 then r else q) = c := by
            refine (List.map_congr_left fun f hf => if_neg fun z => hc ?_).trans (List.map_id _)
            rw [← z]
            exact List.mem_map.mpr ⟨f, hf, rfl⟩
          rw [this]
    · rw [if_neg ep]
      have hc := (List.mem_cons.mp h).resolve_left fun z => ep z.symm
      unfold carAt
      by_cases e : p.1 = n
      · rw [if_pos e, if_pos e, if_neg (fun z => ep (e.trans z))]
      · rw [if_neg e, if_neg e, car_map hc]
theorem car_put {rs : List Car} {r : Car} {n : Str} : carAt (putR rs r) n = if n = r.1 then some r else carAt rs n := by
  unfold putR
  split
  · rename_i h
    obtain ⟨f, hf, ef⟩ := List.any_eq_true.mp h
    exact car_map (List.mem_map.mpr ⟨f, hf, of_decide_eq_true ef⟩)
  · rename_i h
    refine car_app fun z => h ?_
    obtain ⟨f, hf, ef⟩ := List.mem_map.mp z
    exact List.any_eq_true.mpr ⟨f, hf, decide_eq_true ef⟩
theorem car_drop {m n : Str} : ∀ {rs : List Car}, carAt (dropR rs m) n = if n = m then none else carAt rs n
  | [] => by
    show none = _
    split <;> rfl
  | p :: c => by
    have ih := car_drop (m := m) (n := n) (rs := c)
    unfold dropR at ih ⊢
    rw [List.filter_cons]
    by_cases ep : p.1 = m
    · rw [if_neg (by simp [ep]), ih]
      by_cases e : n = m
      · rw [if_pos e, if_pos e]
      · rw [if_neg e, if_neg e]
        conv => rhs; unfold carAt
        rw [if_neg (fun z => e (z.symm.trans ep))]
    · rw [if_pos (by simp [ep])]
      unfold carAt
      by_cases e : p.1 = n
      · rw [if_pos e, if_pos e, if_neg (fun z => ep (e.trans z))]
      · rw [if_neg e, if_neg e, ih]
theorem cap_in {k : Str × Str} {c : Caps} (h : capAt c k ≠ none) : k ∈ c.map (·.1) := Decidable.byContradiction fun z => h (cap_none z)
theorem car_in {n : Str} : ∀ {rs : List Car}, carAt rs n ≠ none → n ∈ rs.map (·.1)
  | [], h => absurd rfl h
  | p :: c, h => by
    unfold carAt at h
    by_cases e : p.1 = n
    · rw [← e]; exact List.mem_cons_self
    · rw [if_neg e] at h
      exact List.mem_cons_of_mem _ (car_in h)
/-- one edit that can be made -/
theorem stp_ok {s : Caps × List Car} {e : Ed} (h : eVl e ≠ none ∨ Lk s (eKy e) ≠ none) : ∃ s', stp s e = .ok s' ∧ ∀ κ, Lk s' κ = if κ = eKy e then eVl e else Lk s κ := by
  obtain ⟨c, r⟩ := s
  cases e with
  | cab a b v =>
    refine ⟨_, rfl, fun κ => ?_⟩
    cases κ with
    | inl k =>
      show (capAt (put c (a, b) v) k).map Sum.inl = if (Sum.inl k : KX) = Sum.inl (a, b) then some (Sum.inl v) else (capAt c k).map Sum.inl
      rw [cap_put]
      by_cases e : k = (a, b)
      · rw [if_pos e, if_pos (by rw [e])]; rfl
      · rw [if_neg e, if_neg (fun z => e (by injection z))]
    | inr n => exact (if_neg (fun z => by cases z)).symm
  | noc a b =>
    have hin : (a, b) ∈ c.map (·.1) := cap_in fun z => by
      rcases h with h | h
      · exact h rfl
      · exact h (by show (capAt c (a, b)).map Sum.inl = none; rw [z]; rfl)
    refine ⟨(dropP c (a, b), r), if_pos hin, fun κ => ?_⟩
    cases κ with
    | inl k =>
      show (capAt (dropP c (a, b)) k).map Sum.inl = if (Sum.inl k : KX) = Sum.inl (a, b) then none else (capAt c k).map Sum.inl
      rw [cap_drop]
      by_cases e : k = (a, b)
      · rw [if_pos e, if_pos (by rw [e])]; rfl
      · rw [if_neg e, if_neg (fun z => e (by injection z))]
    | inr n => exact (if_neg (fun z => by cases z)).symm
  | car q =>
    refine ⟨_, rfl, fun κ => ?_⟩
    cases κ with
    | inl k => exact (if_neg (fun z => by cases z)).symm
    | inr n =>
      show (carAt (putR r q) n).map Sum.inr = if (Sum.inr n : KX) = Sum.inr q.1 then some (Sum.inr q) else (carAt r n).map Sum.inr
      rw [car_put]
      by_cases e : n = q.1
      · rw [if_pos e, if_pos (by rw [e])]; rfl
      · rw [if_neg e, if_neg (fun z => e (by injection z))]
  | nor m =>
    have hin : m ∈ r.map (·.1) := car_in fun z => by
      rcases h with h | h
      · exact h rfl
      · exact h (by show (carAt r m).map Sum.inr = none; rw [z]; rfl)
    refine ⟨(c, dropR r m), if_pos hin, fun κ => ?_⟩
    cases κ with
    | inl k => exact (if_neg (fun z => by cases z)).symm
    | inr n =>
      show (carAt (dropR r m) n).map Sum.inr = if (Sum.inr n : KX) = Sum.inr m then none else (carAt r n).map Sum.inr
      rw [car_drop]
      by_cases e : n = m
      · rw [if_pos e, if_pos (by rw [e])]; rfl
      · rw [if_neg e, if_neg (fun z => e (by injection z))]
/-- edits of unlike keys, each of which can be made -/
theorem run_ok : ∀ {es : List Ed} {s : Caps × List Car} {m : Nat}, (es.map eKy).Nodup → (∀ e ∈ es, eVl e ≠ none ∨ Lk s (eKy e) ≠ none) → (∀ e ∈ es, EdQ e) → StQ m s.1 s.2 → ∃ s', runE s es = .ok s' ∧ StQ (m + es.length) s'.1 s'.2 ∧
    (∀ e ∈ es, Lk s' (eKy e) = eVl e) ∧ ∀ κ, κ ∉ es.map eKy → Lk s' κ = Lk s κ
  | [], s, m, _, _, _, q => ⟨s, rfl, q, (fun _ z => nomatch z), fun _ _ => rfl⟩
  | e :: es, s, m, nd, h, hq, q => by
    rw [List.map_cons, List.nodup_cons] at nd
    obtain ⟨s1, e1, l1⟩ := stp_ok (h e List.mem_cons_self)
    have q1 : StQ (m + 1) s1.1 s1.2 := StQ.step (c := s.1) (rs := s.2) (c' := s1.1) (rs' := s1.2) q (hq e List.mem_cons_self) e1
    have nk : ∀ x ∈ es, eKy x ≠ eKy e := fun x hx z => nd.1 (z ▸ List.mem_map.mpr ⟨x, hx, rfl⟩)
    obtain ⟨s2, e2, q2, l2, l3⟩ := run_ok (es := es) (s := s1) (m := m + 1) nd.2 (fun x hx => by
      rw [l1, if_neg (nk x hx)]
      exact h x (List.mem_cons_of_mem _ hx)) (fun x hx => hq x (List.mem_cons_of_mem _ hx)) q1
    refine ⟨s2, ?_, by rw [List.length_cons, show m + (es.length + 1) = m + 1 + es.length by omega]; exact q2, fun x hx => ?_, fun κ hκ => ?_⟩
    · show (e :: es).foldl nxt (.ok s) = _
      rw [List.foldl_cons, show nxt (.ok s) e = .ok s1 from e1]
      exact e2
    · rcases List.mem_cons.mp hx with z | z
      · rw [z, l3 _ nd.1, l1, if_pos rfl]
      · exact l2 x z
    · rw [List.map_cons, List.mem_cons, not_or] at hκ
      rw [l3 κ hκ.2, l1, if_neg hκ.1]
end Y

/-! UK8: what the fewest edits do. -/
namespace Y
open PySem PySem.Spec PyProof.Rows L2 Ns
open PySem.W (dataLe dataLt alike TotalLe)
theorem car_name {n : Str} {r : Car} : ∀ {rs : List Car}, carAt rs n = some r → r.1 = n ∧ r ∈ rs
  | p :: c, h => by
    unfold carAt at h
    by_cases e : p.1 = n
    · rw [if_pos e] at h
      cases h
      exact ⟨e, List.mem_cons_self⟩
    · rw [if_neg e] at h
      obtain ⟨h1, h2⟩ := car_name h
      exact ⟨h1, List.mem_cons_of_mem _ h2⟩
theorem cap_mem {k : Str × Str} {v : Int} : ∀ {c : Caps}, capAt c k = some v → (k, v) ∈ c
  | p :: c, h => by
    unfold capAt at h
    by_cases e : p.1 = k
    · rw [if_pos e] at h
      cases h
      rw [← e]
      exact List.mem_cons_self
    · rw [if_neg e] at h
      exact List.mem_cons_of_mem _ (cap_mem h)
theorem cap_of {f : (Str × Str) × Int} : ∀ {c : Caps}, (c.map (·.1)).Nodup → f ∈ c → capAt c f.1 = some f.2
  | p :: c, nd, h => by
    rw [List.map_cons, List.nodup_cons] at nd
    unfold capAt
    rcases List.mem_cons.mp h with z | z
    · rw [if_pos (by rw [z]), z]
    · rw [if_neg (fun e => nd.1 (by rw [e]; exact List.mem_map.mpr ⟨f, z, rfl⟩)), cap_of nd.2 z]
theorem car_of {r : Car} : ∀ {rs : List Car}, (rs.map (·.1)).Nodup → r ∈ rs → carAt rs r.1 = some r
  | p :: c, nd, h => by
    rw [List.map_cons, List.nodup_cons] at nd
    unfold carAt
    rcases List.mem_cons.mp h with z | z
    · rw [if_pos (by rw [z]), z]
    · rw [if_neg (fun e => nd.1 (by rw [e]; exact List.mem_map.mpr ⟨r, z, rfl⟩)), car_of nd.2 z]
theorem key_c (c2 : Caps) (k : Str × Str) : eKy (cEd c2 k) = .inl k := by
  unfold cEd
  cases capAt c2 k <;> rfl
theorem key_n (r2 : List Car) (n : Str) : eKy (nEd r2 n) = .inr n := by
  unfold nEd
  cases e : carAt r2 n with
  | none => rfl
  | some r => exact congrArg Sum.inr (car_name e).1
theorem val_c (c2 : Caps) (r2 : List Car) (k : Str × Str) : eVl (cEd c2 k) = Lk (c2, r2) (.inl k) := by
  unfold cEd
  show _ = (capAt c2 k).map Sum.inl
  cases capAt c2 k <;> rfl
theorem val_n (c2 : Caps) (r2 : List Car) (n : Str) : eVl (nEd r2 n) = Lk (c2, r2) (.inr n) := by
  unfold nEd
  show _ = (carAt r2 n).map Sum.inr
  cases carAt r2 n <;> rfl
theorem lk_inl {s t : Caps × List Car} {k : Str × Str} : Lk s (.inl k) = Lk t (.inl k) ↔ capAt s.1 k = capAt t.1 k := by
  show (capAt s.1 k).map Sum.inl = (capAt t.1 k).map Sum.inl ↔ _
  constructor
  · intro h
    cases e : capAt s.1 k <;> cases f : capAt t.1 k <;> rw [e, f] at h
    · cases h
    · cases h
    · injection h with h
      injection h with h
      rw [h]
  · intro h
    rw [h]
theorem lk_inr {s t : Caps × List Car} {n : Str} : Lk s (.inr n) = Lk t (.inr n) ↔ carAt s.2 n = carAt t.2 n := by
  show (carAt s.2 n).map Sum.inr = (carAt t.2 n).map Sum.inr ↔ _
  constructor
  · intro h
    cases e : carAt s.2 n <;> cases f : carAt t.2 n <;> rw [e, f] at h
    · cases h
    · cases h
    · injection h with h
      injection h with h
      rw [h]
  · intro h
    rw [h]
structure Fewest (s1 s2 : Caps × List Car) (es : List Ed) : Prop where
  nd : (es.map eKy).Nodup
  val : ∀ e ∈ es, eVl e = Lk s2 (eKy e)
  dif : ∀ e ∈ es, Lk s1 (eKy e) ≠ Lk s2 (eKy e)
  all : ∀ κ, Lk s1 κ ≠ Lk s2 κ → κ ∈ es.map eKy
theorem eds_few {c1 c2 : Caps} {r1 r2 : List Car} {ks : List (Str × Str)} {ns : List Str} (h : Kys c1 c2 r1 r2 ks ns) : Fewest (c1, r1) (c2, r2) (edsOf c1 c2 r1 r2 ks ns) := by
  have keys : (edsOf c1 c2 r1 r2 ks ns).map eKy = (ks.filter fun k => !decide (capAt c1 k = capAt c2 k)).map Sum.inl ++ (ns.filter fun k => !decide (carAt r1 k = carAt r2 k)).map Sum.inr := by
    unfold edsOf
    rw [List.map_append, List.map_map, List.map_map]
    congr 1
    · exact List.map_congr_left fun k _ => key_c c2 k
    · exact List.map_congr_left fun n _ => key_n r2 n
  have each : ∀ e ∈ edsOf c1 c2 r1 r2 ks ns, (∃ k, e = cEd c2 k ∧ capAt c1 k ≠ capAt c2 k) ∨ ∃ n, e = nEd r2 n ∧ carAt r1 n ≠ carAt r2 n := fun e he => by
    rcases List.mem_append.mp he with z | z
    · obtain ⟨k, hk, rfl⟩ := List.mem_map.mp z
      exact .inl ⟨k, rfl, by simpa using (List.mem_filter.mp hk).2⟩
    · obtain ⟨n, hn, rfl⟩ := List.mem_map.mp z
      exact .inr ⟨n, rfl, by simpa using (List.mem_filter.mp hn).2⟩
  refine ⟨?_, fun e he => ?_, fun e he => ?_, fun κ hκ => ?_⟩
  · rw [keys, List.nodup_append]
    refine ⟨List.pairwise_map.mpr ((h.knd.filter _).imp fun n z => n (by injection z)), List.pairwise_map.mpr ((h.nnd.filter _).imp fun n z => n (by injection z)), fun a ha b hb => ?_⟩
    obtain ⟨k, _, rfl⟩ := List.mem_map.mp ha
    obtain ⟨n, _, rfl⟩ := List.mem_map.mp hb
    exact fun z => by cases z
  · rcases each e he with ⟨k, rfl, _⟩ | ⟨n, rfl, _⟩
    · rw [key_c, val_c c2 r2]
    · rw [key_n, val_n c2 r2]
  · rcases each e he with ⟨k, rfl, d⟩ | ⟨n, rfl, d⟩
    · rw [key_c]
      exact fun z => d (lk_inl.mp z)
    · rw [key_n]
      exact fun z => d (lk_inr.mp z)
  · rw [keys]
    cases κ with
    | inl k =>
      have d : capAt c1 k ≠ capAt c2 k := fun z => hκ (lk_inl.mpr z)
      refine List.mem_append_left _ (List.mem_map.mpr ⟨k, List.mem_filter.mpr ⟨(h.kin k).mpr ?_, by simpa using d⟩, rfl⟩)
      by_cases e : capAt c1 k = none
      · exact .inr (cap_in fun z => d (e.trans z.symm))
      · exact .inl (cap_in e)
    | inr n =>
      have d : carAt r1 n ≠ carAt r2 n := fun z => hκ (lk_inr.mpr z)
      refine List.mem_append_right _ (List.mem_map.mpr ⟨n, List.mem_filter.mpr ⟨(h.nin n).mpr ?_, by simpa using d⟩, rfl⟩)
      by_cases e : carAt r1 n = none
      · exact .inr (car_in fun z => d (e.trans z.symm))
      · exact .inl (car_in e)
theorem eds_q {m1 m2 : Nat} {c1 c2 : Caps} {r1 r2 : List Car} {ks : List (Str × Str)} {ns : List Str} (h : Kys c1 c2 r1 r2 ks ns) (q1 : StQ m1 c1 r1) (q2 : StQ m2 c2 r2) : ∀ e ∈ edsOf c1 c2 r1 r2 ks ns, EdQ e := by
  intro e he
  have nk : ∀ k, k ∈ ks → Nf k.1 ∧ Nf k.2 := fun k hk => by
    rcases (h.kin k).mp hk with z | z
    · obtain ⟨f, hf, rfl⟩ := List.mem_map.mp z
      exact ⟨(q1.cab f hf).1, (q1.cab f hf).2.1⟩
    · obtain ⟨f, hf, rfl⟩ := List.mem_map.mp z
      exact ⟨(q2.cab f hf).1, (q2.cab f hf).2.1⟩
  rcases List.mem_append.mp he with z | z
  · obtain ⟨k, hk, rfl⟩ := List.mem_map.mp z
    have hk := (List.mem_filter.mp hk).1
    unfold cEd
    cases ev : capAt c2 k with
    | none => exact nk k hk
    | some v =>
      obtain ⟨a, b, c, d⟩ := q2.cab _ (cap_mem ev)
      exact ⟨a, b, c, d⟩
  · obtain ⟨n, hn, rfl⟩ := List.mem_map.mp z
    have hn := (List.mem_filter.mp hn).1
    unfold nEd
    cases ev : carAt r2 n with
    | some r => exact q2.car r (car_name ev).2
    | none =>
      show Nm n
      rcases (h.nin n).mp hn with z | z
      · obtain ⟨f, hf, rfl⟩ := List.mem_map.mp z
        exact (q1.car f hf).1
      · obtain ⟨f, hf, rfl⟩ := List.mem_map.mp z
        exact (q2.car f hf).1
/-- they lead there -/
theorem Fewest.run {s1 s2 t1 : Caps × List Car} {es : List Ed} {m : Nat} (F : Fewest s1 s2 es) (e1 : ∀ κ, Lk t1 κ = Lk s1 κ) (q : StQ m t1.1 t1.2) (hq : ∀ e ∈ es, EdQ e) : ∃ t2, runE t1 es = .ok t2 ∧ StQ (m + es.length) t2.1 t2.2 ∧ ∀ κ, Lk t2 κ = Lk s2 κ := by
  obtain ⟨t2, h1, h2, h3, h4⟩ := run_ok F.nd (fun e he => by
    by_cases z : eVl e = none
    · refine .inr fun y => F.dif e he ?_
      rw [← F.val e he, z, ← e1]
      exact y
    · exact .inl z) hq q
  refine ⟨t2, h1, h2, fun κ => ?_⟩
  by_cases hk : κ ∈ es.map eKy
  · obtain ⟨e, he, rfl⟩ := List.mem_map.mp hk
    rw [h3 e he, F.val e he]
  · rw [h4 κ hk, e1]
    exact Decidable.byContradiction fun z => hk (F.all κ z)
/-- without one of them: elsewhere -/
theorem Fewest.less {s1 s2 : Caps × List Car} {es : List Ed} {m i : Nat} (F : Fewest s1 s2 es) (q : StQ m s1.1 s1.2) (hq : ∀ e ∈ es, EdQ e) (hi : i < es.length) : ∃ t2, runE s1 (es.take i ++ es.drop (i + 1)) = .ok t2 ∧ StQ (m + es.length) t2.1 t2.2 ∧ (∃ κ, Lk t2 κ ≠ Lk s2 κ) ∧ ∀ κ, Lk t2 κ = Lk s1 κ ∨ Lk t2 κ = Lk s2 κ := by
  have sub : (es.take i ++ es.drop (i + 1)).Sublist es := by
    have : es = es.take i ++ es.drop i := (List.take_append_drop i es).symm
    conv => rhs; rw [this]
    exact List.Sublist.append (List.Sublist.refl _) (List.drop_sublist_drop_left es (Nat.le_succ i))
  have mem : ∀ e ∈ es.take i ++ es.drop (i + 1), e ∈ es := fun e he => sub.subset he
  obtain ⟨t2, h1, h2, h3, h4⟩ := run_ok (es := es.take i ++ es.drop (i + 1)) (s := s1) (m := m) (F.nd.sublist (sub.map _)) (fun e he => by
    by_cases z : eVl e = none
    · refine .inr fun y => F.dif e (mem e he) ?_
      rw [← F.val e (mem e he), z]
      exact y
    · exact .inl z) (fun e he => hq e (mem e he)) q
  have ll : (es.take i ++ es.drop (i + 1)).length ≤ es.length := sub.length_le
  have nin : eKy es[i] ∉ (es.take i ++ es.drop (i + 1)).map eKy := fun z => by
    have e0 : es = es.take i ++ es[i] :: es.drop (i + 1) := by rw [← List.drop_eq_getElem_cons hi, List.take_append_drop]
    have nd := F.nd
    rw [e0, List.map_append, List.map_cons, List.nodup_append] at nd
    rw [List.map_append] at z
    rcases List.mem_append.mp z with z | z
    · exact nd.2.2 _ z _ List.mem_cons_self rfl
    · exact (List.nodup_cons.mp nd.2.1).1 z
  refine ⟨t2, h1, ?_, ⟨eKy es[i], ?_⟩, fun κ => ?_⟩
  · exact ⟨by have := h2.lc; omega, by have := h2.lr; omega, h2.cab, h2.car, h2.keys, h2.names⟩
  · rw [h4 _ nin]
    exact F.dif _ (List.getElem_mem hi)
  · by_cases hk : κ ∈ (es.take i ++ es.drop (i + 1)).map eKy
    · obtain ⟨e, he, rfl⟩ := List.mem_map.mp hk
      exact .inr (by rw [h3 e he, F.val e (mem e he)])
    · exact .inl (h4 κ hk)
/-- no way round is shorter -/
theorem Fewest.round {s1 s2 s3 : Caps × List Car} {a b c : List Ed} (A : Fewest s1 s2 a) (B : Fewest s2 s3 b) (C : Fewest s1 s3 c) : c.length ≤ a.length + b.length := by
  have := sub_len C.nd (m := a.map eKy ++ b.map eKy) fun κ hκ => by
    obtain ⟨e, he, rfl⟩ := List.mem_map.mp hκ
    have d := C.dif e he
    by_cases z : Lk s1 (eKy e) = Lk s2 (eKy e)
    · exact List.mem_append_right _ (B.all _ fun y => d (z.trans y))
    · exact List.mem_append_left _ (A.all _ z)
  rw [List.length_append, List.length_map, List.length_map, List.length_map] at this
  exact this
/-- a state that is told as these: the same rows -/
theorem lk_perm {m n : Nat} {c c' : Caps} {r r' : List Car} (q : StQ m c r) (q' : StQ n c' r') (h : ∀ κ, Lk (c, r) κ = Lk (c', r') κ) : c.Perm c' ∧ r.Perm r' := by
  have hc : ∀ k, capAt c k = capAt c' k := fun k => lk_inl.mp (h (.inl k))
  have hr : ∀ n, carAt r n = carAt r' n := fun n => lk_inr.mp (h (.inr n))
  refine ⟨(List.perm_ext_iff_of_nodup (nodup_map q.keys) (nodup_map q'.keys)).mpr fun f => ⟨fun hf => ?_, fun hf => ?_⟩, (List.perm_ext_iff_of_nodup (nodup_map q.names) (nodup_map q'.names)).mpr fun f => ⟨fun hf => ?_, fun hf => ?_⟩⟩
  · exact cap_mem ((hc _).symm.trans (cap_of q.keys hf))
  · exact cap_mem ((hc _).trans (cap_of q'.keys hf))
  · exact (car_name ((hr _).symm.trans (car_of q.names hf))).2
  · exact (car_name ((hr _).trans (car_of q'.names hf))).2
theorem lk_res {m : Nat} {c : Caps} {r rs' : List Car} {cs' : List Cab} (q : StQ m c r) (R : Res c r cs' rs') : ∀ κ, Lk (capsOf cs', rs') κ = Lk (c, r) κ := by
  have nk : ((capsOf cs').map (·.1)).Nodup := by
    rw [capsOf_keys, R.srt]
    exact (List.mergeSort_perm _ _).nodup_iff.mpr q.keys
  have nn : (rs'.map (·.1)).Nodup := (R.perm.map (·.1)).nodup_iff.mpr q.names
  intro κ
  cases κ with
  | inl k =>
    refine lk_inl.mpr ?_
    show capAt (capsOf cs') k = capAt c k
    cases e : capAt (capsOf cs') k with
    | some v =>
      obtain ⟨x, hx, ex⟩ := List.mem_map.mp (cap_mem e)
      injection ex with e1 e2
      have := cap_of q.keys (R.cab x hx)
      rw [← e1, ← e2]
      exact this.symm
    | none =>
      cases f : capAt c k with
      | none => rfl
      | some v =>
        have : k ∈ cs'.map ckey := by
          rw [R.srt]
          exact (List.mergeSort_perm _ _).mem_iff.mpr (List.mem_map.mpr ⟨_, cap_mem f, rfl⟩)
        rw [← capsOf_keys] at this
        obtain ⟨v', e'⟩ := cap_some this
        rw [e] at e'
        cases e'
  | inr n =>
    refine lk_inr.mpr ?_
    show carAt rs' n = carAt r n
    cases e : carAt rs' n with
    | some x =>
      obtain ⟨e1, e2⟩ := car_name e
      rw [← e1]
      exact (car_of q.names (R.perm.mem_iff.mp e2)).symm
    | none =>
      cases f : carAt r n with
      | none => rfl
      | some x =>
        obtain ⟨e1, e2⟩ := car_name f
        have := car_of nn (R.perm.mem_iff.mpr e2)
        rw [e1, e] at this
        cases this
end Y

/-! QW: the small yard again, with how many cables and cars. -/
namespace Y
open PySem PySem.Spec PyProof.Rows L2 Ns
open C8 (pss_cut)
def spYardOf2 (K : PySem.W.Frag) : Sp := fun as H Q _ => ∃ (b : Addr) (cars knots cables : Nat) (most : Int), as = [.ref b, .int cars, .int knots, .int cables, .int most] ∧ Bag H b ∧ 2 ≤ cars ∧ cars ≤ 24 ∧ knots ≤ 8 ∧ cables ≤ 40 ∧ 2 ≤ most ∧ most < 10 ^ 12 ∧
  ∀ (y : V) (cs : List Cab) (rs : List Car) (H' : Hp), YardF most cs rs → cs.length ≤ cables → rs.length ≤ cars → YardV K (wo H' b) y cs rs → Bag H' b → Sb b H H' → Q y H'
def spYardS (K : PySem.W.Frag) : Sp := fun as H Q _ => ∃ (b : Addr), as = [.ref b] ∧ Bag H b ∧ ∀ (y : V) (cs : List Cab) (rs : List Car) (H' : Hp), YardF 7 cs rs → cs.length ≤ 6 → rs.length ≤ 5 → YardV K (wo H' b) y cs rs → Bag H' b → Sb b H H' → Q y H'
section
variable {P : Program} {w : World} {K : PySem.W.Frag} {mg : Str → Option Value} {base : Heap} {fT fS fN fNs fC fR : Addr} {dT dS dN dNs dC dR : FuncData}
theorem ok_yardOf2 {f : Addr} {fd : FuncData} (F : Fun K "_law_yard_of" "_law_yard_of" sYardOf f fd) (T : Nat0 mg) (G : Gen P w K mg base fT fS fN fNs fC fR dT dS dN dNs dC dR) : FnOk P w K mg base CX0 6 f fd ["bag", "cars", "knots", "cables", "most"] (spYardOf2 K) := by
  have GT : FnOk P w K mg base CX0 1 fT dT ["bag", "many"] spTake := ok_take G.T T
  have GS : FnOk P w K mg base CX0 2 fS dS ["bag", "things"] (spSome K) := ok_some G.S T G.T G.mT G.bT
  refine F.ok scY (fun as H Q E h => ?_) (fun cdv A outer s H as Q E hr h => ?_)
  · obtain ⟨b, cars, knots, cables, most, rfl, _⟩ := h
    rfl
  · obtain ⟨b, cars, knots, cables, most, rfl, hB, hc1, hc2, hk, hb, hmo, hmo2, k⟩ := h
    have hr1 : Room 1 _ := hr.mono (by decide)
    have hr2 : Room 2 _ := hr.mono (by decide)
    have hr4 : Room 4 _ := hr.mono (by decide)
    have hr5 : Room 5 _ := hr
    refine ⟨_, pss_cons (ps_set (i := 5) scY.nd rfl (.inl rfl) (pe_call GS hr2 rfl G.mS G.S.kp G.bS .nil pass0 (pa_cons (pv 0) (pa_cons (pe_lst (pa_cons (pv 1) (pa_cons (pe_op op_add pe_int (pe_call GT hr1 rfl G.mT G.T.kp G.bT .nil pass0 (pa_cons (pv 0) (pa_cons (pv 1) pa_nil)))) (pa_cons (pv 1)
        (pa_cons (pe_callB (call_max2 rfl) (by rfl) T.max (by decide +kernel) (pa_cons pe_int (pa_cons (pe_op op_sub (pv 1) pe_int) pa_nil))) (pa_cons (pe_call GT hr1 rfl G.mT G.T.kp G.bT .nil pass0 (pa_cons (pv 0) (pa_cons (pe_op op_add (pv 1) pe_int) pa_nil))) pa_nil)))))) pa_nil))))
      (pss_cons (ps_set (i := 6) scY.nd rfl (.inl rfl) (pe_call G.gN hr4 rfl G.mN G.N.kp G.bN .nil pass0 (pa_cons (pv 0) (pa_cons (pe_call GT hr1 rfl G.mT G.T.kp G.bT .nil pass0 (pa_cons (pv 0) (pa_cons (pe_op op_add (pv 2) pe_int) pa_nil))) (pa_cons (pe_lst pa_nil) pa_nil)))))
      (pss_one (ps_ret (pe_tup (pa_cons (pe_call G.gC hr5 rfl G.mC G.C.kp G.bC .nil pass0 (pa_cons (pv 0) (pa_cons (pv 6) (pa_cons (pv 3) (pa_cons (pv 4) pa_nil)))))
        (pa_cons (pe_call G.gR hr5 rfl G.mR G.R.kp G.bR .nil pass0 (pa_cons (pv 0) (pa_cons (pe_call G.gN hr4 rfl G.mN G.N.kp G.bN .nil pass0 (pa_cons (pv 0) (pa_cons (pv 5) (pa_cons (pe_lst pa_nil) pa_nil)))) (pa_cons (pv 6) (pa_cons (pv 4) pa_nil))))) pa_nil)))))), ?_⟩
    have big : (2000 : Nat) < 2 ^ 200 := by decide +kernel
    refine ⟨_, rfl, _, rfl, _, rfl, _, rfl, b, cars, rfl, hB, by omega, by omega, fun v H1 v0 v1 hB1 s1 => ⟨1, v, rfl, rfl, _, rfl, _, rfl, cars, 1, rfl, rfl, 1, _, rfl, _, rfl, _, rfl, cars, 1, rfl, rfl, b, _, rfl, hB1, by omega, by omega, fun u H2 u0 u1 hB2 s2 => ?_⟩⟩
    refine ⟨by show 5 ≤ sizeLine; decide, fun q hq => ⟨b, q, _, rfl, hB2.new hq, sql_new upd_same (hB2.ne hq), (fun z => nomatch z), by show 5 ≤ 1000000; decide, fun x H3 hx hB3 s3 => ?_⟩⟩
    obtain ⟨m, rfl, hm⟩ : ∃ m : Nat, x = .int m ∧ m ≤ cars := by
      have key : ∀ i : Int, 0 ≤ i → i ≤ cars → ∃ m : Nat, V.int i = .int m ∧ m ≤ cars := fun i h0 h1 => ⟨i.toNat, by rw [Int.toNat_of_nonneg h0], by omega⟩
      simp only [List.mem_cons, List.not_mem_nil, or_false] at hx
      rcases hx with rfl | rfl | rfl | rfl | rfl
      · exact key _ (by omega) (by omega)
      · exact key _ (by omega) (by omega)
      · exact key _ (by omega) (by omega)
      · exact key _ (by split <;> omega) (by split <;> omega)
      · exact key _ (by omega) (by omega)
    have s03 := ((s1.trans s2).new (o := .lst [.int cars, .int (1 + v), .int cars, .int (if (cars : Int) - 1 > 1 then (cars : Int) - 1 else 1), .int u]) hq).trans s3
    refine ⟨_, rfl, _, rfl, _, rfl, knots, 1, rfl, rfl, b, _, rfl, hB3, by omega, by omega, fun kn H4 k0 k1 hB4 s4 => ⟨by show 0 ≤ sizeLine; decide, fun q2 hq2 => ?_⟩⟩
    obtain ⟨kn', rfl⟩ : ∃ n : Nat, kn = n := ⟨kn.toNat, by omega⟩
    refine ⟨b, q2, kn', [], rfl, hB4.new hq2, sql_new upd_same (hB4.ne hq2), by show 0 + kn' ≤ 100; omega, (fun _ z => nomatch z), fun p ns H5 hns N5 e5 f5 hB5 s5 => ?_⟩
    have s05 := ((s03.trans s4).new (o := .lst []) hq2).trans s5
    have npb : p ≠ b := (hB4.new (o := .lst []) hq2).ne f5
    refine ⟨_, rfl, _, rfl, _, rfl, _, rfl, b, p, ns, cables, most, rfl, hB5, e5, N5, by omega, by omega, hmo, by omega, fun pc xs cs H6 C6 e6 p6 f6 n6 hB6 s6 => ?_⟩
    refine ⟨_, rfl, _, rfl, _, rfl, by show 0 ≤ sizeLine; decide, fun q3 hq3 => ⟨b, q3, m, [], rfl, hB6.new hq3, sql_new upd_same (hB6.ne hq3), by show 0 + m ≤ 100; omega, (fun _ z => nomatch z), fun pn nm H7 hnm N7 e7 f7 hB7 s7 => ?_⟩⟩
    have npn : pn ≠ b := (hB6.new (o := .lst []) hq3).ne f7
    have s67 := ((Sb.refl b H6).new (o := .lst []) hq3).trans s7
    refine ⟨_, rfl, _, rfl, b, pn, p, nm, ns, most, rfl, hB7, sql_new e7 npn, s67.get (s6.get e5 npb) npb, npb, by omega, by omega, hmo, hmo2, fun pr zs rs H8 R8 e8 p8 f8 n8 hB8 s8 => ?_⟩
    have s68 := s67.trans s8
    refine ⟨by show 2 ≤ sizeLine; decide, fun t ht => ?_⟩
    have sT : Same (wo H8 b) (wo (upd H8 t (.tup [.ref pc, .ref pr])) b) := wo_same (same_new (Same.refl H8) ht)
    refine k (.ref t) cs rs _ ⟨ns, nm, N5, by omega, N7, by omega, C6.mono (Int.le_refl _) hb, R8⟩ C6.len (by have := R8.perm.length_eq; rw [List.length_map] at this; omega) ⟨t, pc, pr, xs, zs, rfl, sqt_new upd_same (hB8.ne ht), ?_, ?_, ?_, ?_⟩ (hB8.new ht) (((s05.trans s6).trans s68).new ht)
    · exact sqt_new (s3u ht (s68.get e6 n6)) n6
    · exact sqt_new (s3u ht e8) n8
    · exact paired_imp (fun _ _ h => (h.more s68.1).more sT) p6
    · exact paired_imp (fun _ _ h => h.more sT) p8
theorem scSm2 : FnScope ["bag"] ["bag"] (defScope sSmall) := ⟨rfl, rfl, rfl, by decide +kernel, rfl, by decide +kernel, by decide +kernel⟩
theorem ok_small2 {f fY : Addr} {fd dY : FuncData} (F : Fun K "_law_small_yard" "_law_small_yard" sSmall f fd) (T : Nat0 mg) (G : Gen P w K mg base fT fS fN fNs fC fR dT dS dN dNs dC dR)
    (FY : Fun K "_law_yard_of" "_law_yard_of" sYardOf fY dY) (mY : mg "_law_yard_of" = some (.ref fY)) (bY : Binds K dY ["bag", "cars", "knots", "cables", "most"] []) : FnOk P w K mg base CX0 7 f fd ["bag"] (spYardS K) := by
  have GS : FnOk P w K mg base CX0 2 fS dS ["bag", "things"] (spSome K) := ok_some G.S T G.T G.mT G.bT
  have GY : FnOk P w K mg base CX0 6 fY dY ["bag", "cars", "knots", "cables", "most"] (spYardOf2 K) := ok_yardOf2 FY T G
  refine F.ok scSm2 (fun as H Q E h => ?_) (fun cdv A outer s H as Q E hr h => ?_)
  · obtain ⟨b, rfl, _⟩ := h
    rfl
  · obtain ⟨b, rfl, hB, k⟩ := h
    have hr2 : Room 2 _ := hr.mono (by decide)
    refine ⟨_, pss_one (ps_ret (pe_call GY hr rfl mY FY.kp bY .nil pass0 (pa_cons (pv 0) (pa_cons (pe_call GS hr2 rfl G.mS G.S.kp G.bS .nil pass0 (pa_cons (pv 0) (pa_cons (pe_lst (pa_cons pe_int (pa_cons pe_int (pa_cons pe_int (pa_cons pe_int pa_nil))))) pa_nil)))
      (pa_cons pe_int (pa_cons (pe_call GS hr2 rfl G.mS G.S.kp G.bS .nil pass0 (pa_cons (pv 0) (pa_cons (pe_lst (pa_cons pe_int (pa_cons pe_int (pa_cons pe_int pa_nil)))) pa_nil)))
      (pa_cons (pe_call GS hr2 rfl G.mS G.S.kp G.bS .nil pass0 (pa_cons (pv 0) (pa_cons (pe_lst (pa_cons pe_int (pa_cons pe_int (pa_cons pe_int pa_nil)))) pa_nil))) pa_nil))))))), ?_⟩
    refine ⟨_, rfl, _, rfl, by show 4 ≤ sizeLine; decide, fun q1 hq1 => ⟨b, q1, _, rfl, hB.new hq1, sql_new upd_same (hB.ne hq1), (fun z => nomatch z), by show 4 ≤ 1000000; decide, fun x H1 hx hB1 s1 => ?_⟩⟩
    obtain ⟨m1, rfl, a1, a2⟩ : ∃ m : Nat, x = .int m ∧ 2 ≤ m ∧ m ≤ 5 := by
      simp only [List.mem_cons, List.not_mem_nil, or_false] at hx
      rcases hx with rfl | rfl | rfl | rfl
      · exact ⟨3, rfl, by decide, by decide⟩
      · exact ⟨4, rfl, by decide, by decide⟩
      · exact ⟨5, rfl, by decide, by decide⟩
      · exact ⟨2, rfl, by decide, by decide⟩
    refine ⟨_, rfl, by show 3 ≤ sizeLine; decide, fun q2 hq2 => ⟨b, q2, _, rfl, hB1.new hq2, sql_new upd_same (hB1.ne hq2), (fun z => nomatch z), by show 3 ≤ 1000000; decide, fun x H2 hx hB2 s2 => ?_⟩⟩
    obtain ⟨m2, rfl, a3⟩ : ∃ m : Nat, x = .int m ∧ m ≤ 6 := by
      simp only [List.mem_cons, List.not_mem_nil, or_false] at hx
      rcases hx with rfl | rfl | rfl
      · exact ⟨4, rfl, by decide⟩
      · exact ⟨6, rfl, by decide⟩
      · exact ⟨3, rfl, by decide⟩
    refine ⟨_, rfl, by show 3 ≤ sizeLine; decide, fun q3 hq3 => ⟨b, q3, _, rfl, hB2.new hq3, sql_new upd_same (hB2.ne hq3), (fun z => nomatch z), by show 3 ≤ 1000000; decide, fun x H3 hx hB3 s3 => ?_⟩⟩
    obtain ⟨m3, rfl, a4, a5⟩ : ∃ m : Int, x = .int m ∧ 2 ≤ m ∧ m ≤ 7 := by
      simp only [List.mem_cons, List.not_mem_nil, or_false] at hx
      rcases hx with rfl | rfl | rfl
      · exact ⟨3, rfl, by decide, by decide⟩
      · exact ⟨7, rfl, by decide, by decide⟩
      · exact ⟨2, rfl, by decide, by decide⟩
    have s03 := ((((((Sb.refl b H).new (o := .lst [.int 3, .int 4, .int 5, .int 2]) hq1).trans s1).new (o := .lst [.int 4, .int 6, .int 3]) hq2).trans s2).new (o := .lst [.int 3, .int 7, .int 2]) hq3).trans s3
    exact ⟨b, m1, 4, m2, m3, rfl, hB3, a1, by omega, by decide, by omega, a4, by omega, fun y cs rs H' hY l1 l2 hV hB' s' => k y cs rs H' (hY.mono a5) (by omega) (by omega) hV hB' (s03.trans s')⟩
end
end Y

/-! UK5: a yard near another one. -/
namespace Ns
open PySem PySem.Spec PyProof.Rows L2
/-- a value with what is known of it -/
def tCut (te : TE) : TE := fun σ H Q => ∃ R : VK, te σ H R ∧ ∀ v H', R v H' → Q v H'
theorem pe_cut {X : Cx} {e : Expr} {te : TE} (he : PE X e te) : PE X e (tCut te) := by
  refine ⟨fun pins s σ H Q I h => ?_⟩
  obtain ⟨R, h1, h2⟩ := h
  refine thn (he.run pins s σ H R I h1) fun u s1 hu => ?_
  obtain ⟨v, H1, I1, r, q⟩ := hu
  exact ⟨v, H1, I1, r, h2 _ _ q⟩
end Ns
namespace Y
open PySem PySem.Spec PyProof.Rows L2 Ns
open PySem.W (dataLe dataLt alike TotalLe)
theorem paired_app7 {α β : Type} {R : α → β → Prop} : ∀ {as : List α} {bs : List β}, Paired R as bs → ∀ {cs : List α} {ds : List β}, Paired R cs ds → Paired R (as ++ cs) (bs ++ ds)
  | _, _, .nil, _, _, h => h
  | _, _, .cons h t, _, _, g => .cons h (paired_app7 t g)
theorem nf_feed : Nf feed := .inr rfl
/-- what a drawn yard keeps here -/
structure YardG (cs : List Cab) (rs : List Car) : Prop where
  p : YardP cs rs
  cars : ∀ r ∈ rs, CarQ r
  csrt : (cs.map ckey).Pairwise (fun a b => dataLe false pD a b = true)
  rsrt : sortedS (rs.map (·.1)) = true
def spNear7 (K : PySem.W.Frag) : Sp := fun as H Q _ => ∃ (b : Addr) (y : V) (cs : List Cab) (rs : List Car), as = [.ref b, y] ∧ Bag H b ∧ YardV K (wo H b) y cs rs ∧ YardP cs rs ∧
  ∀ (z : V) (cs' : List Cab) (rs' : List Car) (H' : Hp), (cs'.map ckey).Sublist (cs.map ckey) → (rs'.map (·.1)).Sublist (rs.map (·.1)) → (∀ c ∈ cs', Nf c.1 ∧ Nf c.2.1 ∧ 0 ≤ c.2.2 ∧ c.2.2 ≤ 10 ^ 12) → (∀ r ∈ rs', Nm r.1 ∧ Nf r.2.1 ∧ 1 ≤ r.2.2.1 ∧ r.2.2.1 ≤ 10 ^ 12 ∧ 0 ≤ r.2.2.2 ∧ r.2.2.2 ≤ 10 ^ 12) →
    YardV K (wo H' b) z cs' rs' → Bag H' b → Sb b H H' → Q z H'
section
variable {P : Program} {w : World} {K : PySem.W.Frag} {mg : Str → Option Value} {base : Heap}
theorem scN7 : FnScope ["bag", "yard", "cables", "cars", "one", "other", "cap", "more", "name", "knot", "rate", "need"] ["bag", "yard"] (defScope sNear) := ⟨rfl, rfl, rfl, by decide +kernel, rfl, by decide +kernel, by decide +kernel⟩
theorem ok_near7 {f fT fS : Addr} {fd dT dS : FuncData} (F : Fun K "_law_near" "_law_near" sNear f fd) (T : Nat0 mg) (FT : Fun K "_law_take" "_law_take" sTake fT dT) (mT : mg "_law_take" = some (.ref fT)) (bT : Binds K dT ["bag", "many"] [])
    (FS : Fun K "_law_some" "_law_some" sSome fS dS) (mS : mg "_law_some" = some (.ref fS)) (bS : Binds K dS ["bag", "things"] []) : FnOk P w K mg base CX0 3 f fd ["bag", "yard"] (spNear7 K) := by
  have GT : FnOk P w K mg base CX0 1 fT dT ["bag", "many"] spTake := ok_take FT T
  have GS : FnOk P w K mg base CX0 2 fS dS ["bag", "things"] (spSome K) := ok_some FS T FT mT bT
  refine F.ok scN7 (fun as H Q E h => ?_) (fun cdv A outer s H as Q E hr h => ?_)
  · obtain ⟨b, y, cs, rs, rfl, _⟩ := h
    rfl
  · obtain ⟨b, y, cs, rs, rfl, hB, hV, hP, k⟩ := h
    have hr1 : Room 1 _ := hr.mono (by decide)
    refine ⟨_, pss_cons (ps_par (i := 2) (j := 3) rfl scN7.nd rfl rfl (by decide) rfl rfl (pa_cons (pe_lst pa_nil) (pa_cons (pe_lst pa_nil) pa_nil)) (by rfl))
      (pss_cons (ps_for PassesOwn.never rfl (pi_tup (pe_ix ix_tup (pv 1) pe_int (fun _ _ => rfl))) (pg_tup rfl (pgs_cons (pg_name (i := 4) scN7.nd rfl (.inl rfl)) (pgs_cons (pg_name (i := 5) scN7.nd rfl (.inl rfl)) (pgs_cons (pg_name (i := 6) scN7.nd rfl (.inl rfl)) pgs_nil)))) (pss_cons (ps_set (i := 7) scN7.nd rfl (.inl rfl) (pe_callB (call_min2 rfl) (by rfl) T.min (by decide +kernel) (pa_cons (pe_op op_sub (pe_op op_pow pe_int pe_int) pe_int) (pa_cons (pe_op op_add (pv 6) pe_int) pa_nil))))
        (pss_one (ps_expr (pe_bm PySem.F.plainAttrs_list PySem.F.slot_list_extend PySem.F.type_list_extend mt_extend (pv 2) (pa_cons (pe_cut (pe_ifExp (pt_cmpR op_gt (pe_call GT hr1 rfl mT FT.kp bT .nil pass0 (pa_cons (pv 0) (pa_cons pe_int pa_nil))) pe_int (nomark _)) (pe_lst (pa_cons (pe_tup (pa_cons (pv 4) (pa_cons (pv 5) (pa_cons (pe_call GS hr rfl mS FS.kp bS .nil pass0 (pa_cons (pv 0) (pa_cons (pe_lst (pa_cons (pv 6) (pa_cons (pv 6) (pa_cons (pv 7) (pa_cons pe_int pa_nil))))) pa_nil))) pa_nil)))) pa_nil)) (pe_lst pa_nil))) pa_nil))))))
      (pss_cons (ps_for PassesOwn.never rfl (pi_tup (pe_ix ix_tup (pv 1) pe_int (fun _ _ => rfl))) (pg_tup rfl (pgs_cons (pg_name (i := 8) scN7.nd rfl (.inl rfl)) (pgs_cons (pg_name (i := 9) scN7.nd rfl (.inl rfl)) (pgs_cons (pg_name (i := 10) scN7.nd rfl (.inl rfl)) (pgs_cons (pg_name (i := 11) scN7.nd rfl (.inl rfl)) pgs_nil))))) (pss_cons (ps_par (i := 9) (j := 10) rfl scN7.nd rfl rfl (by decide) rfl rfl (pa_cons (pe_call GS hr rfl mS FS.kp bS .nil pass0 (pa_cons (pv 0) (pa_cons (pe_lst (pa_cons (pv 9) (pa_cons (pv 9) (pa_cons (pv 9) (pa_cons pe_str pa_nil))))) pa_nil))) (pa_cons (pe_call GS hr rfl mS FS.kp bS .nil pass0 (pa_cons (pv 0) (pa_cons (pe_lst (pa_cons (pv 10) (pa_cons (pv 10) (pa_cons (pv 10) (pa_cons pe_int pa_nil))))) pa_nil))) pa_nil)) (by rfl))
        (pss_cons (ps_set (i := 7) scN7.nd rfl (.inl rfl) (pe_callB (call_min2 rfl) (by rfl) T.min (by decide +kernel) (pa_cons (pe_op op_sub (pe_op op_pow pe_int pe_int) pe_int) (pa_cons (pe_op op_add (pv 11) pe_int) pa_nil))))
        (pss_one (ps_expr (pe_bm PySem.F.plainAttrs_list PySem.F.slot_list_extend PySem.F.type_list_extend mt_extend (pv 3) (pa_cons (pe_cut (pe_ifExp (pt_cmpR op_gt (pe_call GT hr1 rfl mT FT.kp bT .nil pass0 (pa_cons (pv 0) (pa_cons pe_int pa_nil))) pe_int (nomark _)) (pe_lst (pa_cons (pe_tup (pa_cons (pv 8) (pa_cons (pv 9) (pa_cons (pv 10) (pa_cons (pe_call GS hr rfl mS FS.kp bS .nil pass0 (pa_cons (pv 0) (pa_cons (pe_lst (pa_cons (pv 11) (pa_cons (pv 7) (pa_cons pe_int pa_nil)))) pa_nil))) pa_nil))))) pa_nil)) (pe_lst pa_nil))) pa_nil)))))))
      (pss_one (ps_ret (pe_tup (pa_cons (pe_callTy call_tuple_of (by rfl) T.tuple (by decide +kernel) (pa_cons (pv 2) pa_nil)) (pa_cons (pe_callTy call_tuple_of (by rfl) T.tuple (by decide +kernel) (pa_cons (pv 3) pa_nil)) pa_nil))))))), ?_⟩
    obtain ⟨ty, ya, yb, xs, zs, rfl, v1, v2, v3, v4, v5⟩ := hV
    have lx : xs.length = cs.length := paired_len v4
    have lz : zs.length = rs.length := paired_len v5
    have lc := hP.lc
    have lr := hP.lr
    have neb : ∀ {G : Hp} {p : Addr}, Bag G b → G p = none → p ≠ b := fun B h => B.ne h
    refine ⟨by show 0 ≤ sizeLine; decide, fun e he => ⟨by show 0 ≤ sizeLine; decide, fun g hg => ⟨_, _, rfl, ?_⟩⟩⟩
    have nge : g ≠ e := fun z => by rw [z, upd_same] at hg; cases hg
    have hg0 : H g = none := by rw [upd_ne nge] at hg; exact hg
    have nb : e ≠ b := hB.ne he
    have ngb : g ≠ b := hB.ne hg0
    have e1 := s3u (o := .lst []) hg (upd_same (H := H) (a := e) (o := .lst []))
    have g1 := upd_same (H := upd H e (.lst [])) (a := g) (o := .lst [])
    have B1 := (hB.new (o := .lst []) he).new (o := .lst []) hg
    have S1 := ((Sb.refl b H).new (o := .lst []) he).new (o := .lst []) hg
    generalize upd (upd H e (.lst [])) g (.lst []) = H1 at e1 g1 B1 S1 ⊢
    clear hg
    have vt : ∀ {G : Hp} {a : Addr} {ys : List V}, Sb b H G → SqT K (wo H b) a ys → SqT K G a ys := fun {G a ys} s h => sqt_more (wo_sub G b) (sqt_more s.1 h)
    have e12 : (10 : Int) ^ (12 : Int).toNat - 1 = 999999999999 := by decide
    refine ⟨_, rfl, ty, _, 0, .ref ya, rfl, rfl, vt S1 v1, at0, ya, rfl, ⟨_, vt S1 v2⟩, ?_⟩
    refine for_tup (K := K) (a := ya) (xs := xs) (fun i σ H' => ∃ (w4 w5 w6 w7 : Option V) (xs' : List V) (cs' : List Cab), σ = [some (.ref b), some (.ref ty), some (.ref e), some (.ref g), w4, w5, w6, w7, none, none, none, none] ∧ H' e = some (.lst xs') ∧ H' g = some (.lst []) ∧ xs'.length ≤ i ∧ Paired (CabV K H') xs' cs' ∧
      (cs'.map ckey).Sublist ((cs.take i).map ckey) ∧ (∀ c ∈ cs', Nf c.1 ∧ Nf c.2.1 ∧ 0 ≤ c.2.2 ∧ c.2.2 ≤ 10 ^ 12) ∧ Bag H' b ∧ Sb b H H') ?_ ?_ ?_ ?_
    · exact ⟨none, none, none, none, [], [], rfl, e1, g1, Nat.le_refl _, .nil, by rw [List.take_zero]; exact List.Sublist.refl _, (fun _ z => nomatch z), B1, S1⟩
    · rintro i σ H' _ ⟨_, _, _, _, _, _, _, _, _, _, _, _, _, _, s⟩
      exact vt s v2
    · clear e1 g1 B1 S1
      rintro i x σ H' hx ⟨w4, w5, w6, w7, xs', cs', rfl, eH, gH, lx', PC, SB, bd, BH, SH⟩
      obtain ⟨c, hc, t', rfl, hq⟩ := paired_at v4 hx
      obtain ⟨n1, n2, n3, n4⟩ := hP.cab c (List.mem_of_getElem? hc)
      refine ⟨t', _, rfl, vt SH hq, rfl, _, _, rfl, _, _, rfl, _, _, rfl, rfl, ?_⟩
      refine ⟨10, 12, rfl, rfl, ⟨by decide, by decide, by decide⟩, _, _, rfl, rfl, _, rfl, _, _, rfl, rfl, _, _, rfl, ?_⟩
      rw [e12]
      obtain ⟨m, em, m0, m1⟩ : ∃ m : Int, (if c.2.2 + 1 < 999999999999 then c.2.2 + 1 else 999999999999) = m ∧ 0 ≤ m ∧ m ≤ 10 ^ 12 := ⟨_, rfl, by split <;> omega, by split <;> omega⟩
      rw [em]
      refine ⟨_, rfl, .inl ⟨rfl, _, SqL.of eH⟩, ?_⟩
      refine ⟨fun v H'' => ∃ (l : Addr) (ys : List V) (cs2 : List Cab), v = .ref l ∧ l ≠ e ∧ H'' l = some (.lst ys) ∧ Paired (CabV K H'') ys cs2 ∧ (cs2 = [] ∨ ∃ v' : Int, cs2 = [(c.1, c.2.1, v')] ∧ 0 ≤ v' ∧ v' ≤ 10 ^ 12) ∧ ys.length ≤ 1 ∧ Bag H'' b ∧ Sb b H' H'', ?_, ?_⟩
      · refine ⟨_, rfl, b, 4, rfl, BH, by decide, by decide, fun v H2 v0 v1 B2 s2 => ⟨v, 0, rfl, rfl, _, rfl, ?_⟩⟩
        have e2 := s2.get eH nb
        refine ite2 (fun _ => ?_) (fun _ => ?_)
        · refine ⟨_, rfl, _, rfl, _, rfl, _, rfl, _, rfl, _, rfl, by show 4 ≤ sizeLine; decide, fun l1 h1 => ⟨b, l1, _, rfl, B2.new h1, sql_new upd_same (B2.ne h1), by simp, by show 4 ≤ 1000000; decide, fun x H3 hx B3 s3 => ⟨by show 3 ≤ sizeLine; decide, fun t ht => ⟨by show 1 ≤ sizeLine; decide, fun l2 hl2 => ?_⟩⟩⟩⟩
          obtain ⟨v', rfl, a0, a1⟩ : ∃ v' : Int, x = .int v' ∧ 0 ≤ v' ∧ v' ≤ 10 ^ 12 := by
            simp only [List.mem_cons, List.not_mem_nil, or_false] at hx
            rcases hx with rfl | rfl | rfl | rfl
            · exact ⟨_, rfl, n3, n4⟩
            · exact ⟨_, rfl, n3, n4⟩
            · exact ⟨_, rfl, m0, m1⟩
            · exact ⟨0, rfl, by decide, by decide⟩
          have e3 := s3.get (s3u (o := .lst [.int c.2.2, .int c.2.2, .int m, .int 0]) h1 e2) nb
          have e4 := s3u (o := .tup [.str c.1, .str c.2.1, .int v']) ht e3
          exact ⟨l2, [.ref t], [(c.1, c.2.1, v')], rfl, (ne_of_none e4 hl2).symm, upd_same, .cons ⟨t, rfl, SqT.of (s3u hl2 upd_same)⟩ .nil, .inr ⟨v', rfl, a0, a1⟩, Nat.le_refl _, (B3.new ht).new hl2, (((s2.new h1).trans s3).new ht).new hl2⟩
        · refine ⟨by show 0 ≤ sizeLine; decide, fun l2 hl2 => ?_⟩
          exact ⟨l2, [], [], rfl, (ne_of_none e2 hl2).symm, upd_same, .nil, .inl rfl, Nat.zero_le _, B2.new hl2, s2.new hl2⟩
      rintro _ H2 ⟨l, ys, cs2, rfl, nl, el, PY, hy, ly, B2, s2⟩
      have e2 := s2.get eH nb
      have hi : i < cs.length := (List.getElem?_eq_some_iff.mp hc).1
      refine ⟨e, l, xs', ys, rfl, rfl, e2, el, Nat.le_of_lt (small1000 (by omega)), ?_⟩
      refine ⟨_, _, _, _, xs' ++ ys, cs' ++ cs2, rfl, upd_same, by rw [upd_ne nge]; exact s2.get gH ngb, by rw [List.length_append]; omega, ?_, ?_, fun x hx => ?_, hB.wr he (SH.trans s2) B2, (SH.trans s2).wr he⟩
      · exact paired_app7 (paired_imp (fun _ _ ⟨t, q, h⟩ => ⟨t, q, sqt_put e2 (sbT s2 BH h)⟩) PC) (paired_imp (fun _ _ ⟨t, q, h⟩ => ⟨t, q, sqt_put e2 h⟩) PY)
      · rw [List.take_succ, hc, List.map_append, List.map_append]
        refine List.Sublist.append SB ?_
        rcases hy with rfl | ⟨v', rfl, _⟩
        · exact List.nil_sublist _
        · exact List.Sublist.refl _
      · rcases List.mem_append.mp hx with z | z
        · exact bd x z
        · rcases hy with rfl | ⟨v', rfl, a0, a1⟩
          · cases z
          · rw [List.mem_singleton.mp z]
            exact ⟨n1, n2, a0, a1⟩
    clear e1 g1 B1 S1
    rintro σ H2 ⟨w4, w5, w6, w7, xs', cs', rfl, e2, g2, lx', PC, SB, bd, B2, S2⟩
    rw [lx, List.take_length] at SB
    have lx' : xs'.length ≤ 40 := by omega
    refine ⟨_, rfl, ty, _, 1, .ref yb, rfl, rfl, vt S2 v1, at1, yb, rfl, ⟨_, vt S2 v3⟩, ?_⟩
    refine for_tup (K := K) (a := yb) (xs := zs) (fun i σ H' => ∃ (w7 w8 w9 w10 w11 : Option V) (zs' : List V) (rs' : List Car), σ = [some (.ref b), some (.ref ty), some (.ref e), some (.ref g), w4, w5, w6, w7, w8, w9, w10, w11] ∧ H' e = some (.lst xs') ∧ H' g = some (.lst zs') ∧ zs'.length ≤ i ∧ Paired (CabV K H') xs' cs' ∧ Paired (CarV K H') zs' rs' ∧
      (rs'.map (·.1)).Sublist ((rs.take i).map (·.1)) ∧ (∀ r ∈ rs', Nm r.1 ∧ Nf r.2.1 ∧ 1 ≤ r.2.2.1 ∧ r.2.2.1 ≤ 10 ^ 12 ∧ 0 ≤ r.2.2.2 ∧ r.2.2.2 ≤ 10 ^ 12) ∧ Bag H' b ∧ Sb b H H') ?_ ?_ ?_ ?_
    · exact ⟨_, none, none, none, none, [], [], rfl, e2, g2, Nat.le_refl _, PC, .nil, by rw [List.take_zero]; exact List.Sublist.refl _, (fun _ z => nomatch z), B2, S2⟩
    · rintro i σ H' _ ⟨_, _, _, _, _, _, _, _, _, _, _, _, _, _, _, _, s⟩
      exact vt s v3
    · clear e2 g2 B2 S2 PC
      rintro i x σ H' hx ⟨w7, w8, w9, w10, w11, zs', rs', rfl, eH, gH, lz', PC, PR, SR, br, BH, SH⟩
      obtain ⟨c, hc, t', rfl, hq⟩ := paired_at v5 hx
      obtain ⟨n1, n2, n3, n4, n5, n6⟩ := hP.car c (List.mem_of_getElem? hc)
      refine ⟨t', _, rfl, vt SH hq, rfl, _, _, rfl, _, _, rfl, _, _, rfl, _, _, rfl, rfl, ?_⟩
      refine ⟨_, rfl, _, rfl, _, rfl, _, rfl, by show 4 ≤ sizeLine; decide, fun l1 h1 => ⟨b, l1, _, rfl, BH.new h1, sql_new upd_same (BH.ne h1), by simp, by show 4 ≤ 1000000; decide, fun x1 H2 hx1 B2 s2 => ?_⟩⟩
      obtain ⟨kn, rfl, nk⟩ : ∃ kn : Str, x1 = .str kn ∧ Nf kn := by
        simp only [List.mem_cons, List.not_mem_nil, or_false] at hx1
        rcases hx1 with rfl | rfl | rfl | rfl
        · exact ⟨_, rfl, n2⟩
        · exact ⟨_, rfl, n2⟩
        · exact ⟨_, rfl, n2⟩
        · exact ⟨_, rfl, nf_feed⟩
      refine ⟨_, rfl, _, rfl, _, rfl, _, rfl, by show 4 ≤ sizeLine; decide, fun l2 h2 => ⟨b, l2, _, rfl, B2.new h2, sql_new upd_same (B2.ne h2), by simp, by show 4 ≤ 1000000; decide, fun x2 H3 hx2 B3 s3 => ?_⟩⟩
      obtain ⟨ra, rfl, ra0, ra1⟩ : ∃ ra : Int, x2 = .int ra ∧ 1 ≤ ra ∧ ra ≤ 10 ^ 12 := by
        simp only [List.mem_cons, List.not_mem_nil, or_false] at hx2
        rcases hx2 with rfl | rfl | rfl | rfl
        · exact ⟨_, rfl, n3, n4⟩
        · exact ⟨_, rfl, n3, n4⟩
        · exact ⟨_, rfl, n3, n4⟩
        · exact ⟨1, rfl, by decide, by decide⟩
      have s03 : Sb b H' H3 := (((Sb.refl b H').new h1).trans s2).trans (((Sb.refl b H2).new h2).trans s3)
      have SH3 := SH.trans s03
      have e3 := s03.get eH nb
      have g3 := s03.get gH ngb
      have PC3 : Paired (CabV K H3) xs' cs' := paired_imp (fun _ _ ⟨t, q, h⟩ => ⟨t, q, sbT s03 BH h⟩) PC
      have PR3 : Paired (CarV K H3) zs' rs' := paired_imp (fun _ _ ⟨t, q, h⟩ => ⟨t, q, sbT s03 BH h⟩) PR
      clear s2 s3 h1 h2 hx1 hx2 B2 BH SH eH gH PC PR s03
      refine ⟨_, _, rfl, ?_⟩
      refine ⟨10, 12, rfl, rfl, ⟨by decide, by decide, by decide⟩, _, _, rfl, rfl, _, rfl, _, _, rfl, rfl, _, _, rfl, ?_⟩
      rw [e12]
      obtain ⟨m, em, m0, m1⟩ : ∃ m : Int, (if c.2.2.2 + 1 < 999999999999 then c.2.2.2 + 1 else 999999999999) = m ∧ 0 ≤ m ∧ m ≤ 10 ^ 12 := ⟨_, rfl, by split <;> omega, by split <;> omega⟩
      rw [em]
      refine ⟨_, rfl, .inl ⟨rfl, _, SqL.of g3⟩, ?_⟩
      refine ⟨fun v H'' => ∃ (l : Addr) (ys : List V) (rs2 : List Car), v = .ref l ∧ l ≠ g ∧ H'' l = some (.lst ys) ∧ Paired (CarV K H'') ys rs2 ∧ (rs2 = [] ∨ ∃ v' : Int, rs2 = [(c.1, kn, ra, v')] ∧ 0 ≤ v' ∧ v' ≤ 10 ^ 12) ∧ ys.length ≤ 1 ∧ Bag H'' b ∧ Sb b H3 H'', ?_, ?_⟩
      · refine ⟨_, rfl, b, 4, rfl, B3, by decide, by decide, fun v H4 v0 v1 B4 s4 => ⟨v, 0, rfl, rfl, _, rfl, ?_⟩⟩
        have e4 := s4.get g3 ngb
        refine ite2 (fun _ => ?_) (fun _ => ?_)
        · refine ⟨_, rfl, _, rfl, _, rfl, _, rfl, _, rfl, _, rfl, by show 3 ≤ sizeLine; decide, fun l1 h1 => ⟨b, l1, _, rfl, B4.new h1, sql_new upd_same (B4.ne h1), by simp, by show 3 ≤ 1000000; decide, fun x H5 hx B5 s5 => ⟨by show 4 ≤ sizeLine; decide, fun t ht => ⟨by show 1 ≤ sizeLine; decide, fun l2 hl2 => ?_⟩⟩⟩⟩
          obtain ⟨v', rfl, a0, a1⟩ : ∃ v' : Int, x = .int v' ∧ 0 ≤ v' ∧ v' ≤ 10 ^ 12 := by
            simp only [List.mem_cons, List.not_mem_nil, or_false] at hx
            rcases hx with rfl | rfl | rfl
            · exact ⟨_, rfl, n5, n6⟩
            · exact ⟨_, rfl, m0, m1⟩
            · exact ⟨0, rfl, by decide, by decide⟩
          have e5 := s5.get (s3u (o := .lst [.int c.2.2.2, .int m, .int 0]) h1 e4) ngb
          have e6 := s3u (o := .tup [.str c.1, .str kn, .int ra, .int v']) ht e5
          exact ⟨l2, [.ref t], [(c.1, kn, ra, v')], rfl, (ne_of_none e6 hl2).symm, upd_same, .cons ⟨t, rfl, SqT.of (s3u hl2 upd_same)⟩ .nil, .inr ⟨v', rfl, a0, a1⟩, Nat.le_refl _, (B5.new ht).new hl2, (((s4.new h1).trans s5).new ht).new hl2⟩
        · refine ⟨by show 0 ≤ sizeLine; decide, fun l2 hl2 => ?_⟩
          exact ⟨l2, [], [], rfl, (ne_of_none e4 hl2).symm, upd_same, .nil, .inl rfl, Nat.zero_le _, B4.new hl2, s4.new hl2⟩
      rintro _ H4 ⟨l, ys, rs2, rfl, nl, el, PY, hy, ly, B4, s4⟩
      have g4 := s4.get g3 ngb
      have hi : i < rs.length := (List.getElem?_eq_some_iff.mp hc).1
      refine ⟨g, l, zs', ys, rfl, rfl, g4, el, Nat.le_of_lt (small1000 (by omega)), ?_⟩
      refine ⟨_, _, _, _, _, zs' ++ ys, rs' ++ rs2, rfl, by rw [upd_ne nge.symm]; exact s4.get e3 nb, upd_same, by rw [List.length_append]; omega, ?_, ?_, ?_, fun x hx => ?_, hB.wr hg0 (SH3.trans s4) B4, (SH3.trans s4).wr hg0⟩
      · exact paired_imp (fun _ _ ⟨t, q, h⟩ => ⟨t, q, sqt_put g4 (sbT s4 B3 h)⟩) PC3
      · exact paired_app7 (paired_imp (fun _ _ ⟨t, q, h⟩ => ⟨t, q, sqt_put g4 (sbT s4 B3 h)⟩) PR3) (paired_imp (fun _ _ ⟨t, q, h⟩ => ⟨t, q, sqt_put g4 h⟩) PY)
      · rw [List.take_succ, hc, List.map_append, List.map_append]
        refine List.Sublist.append SR ?_
        rcases hy with rfl | ⟨v', rfl, _⟩
        · exact List.nil_sublist _
        · exact List.Sublist.refl _
      · rcases List.mem_append.mp hx with z | z
        · exact br x z
        · rcases hy with rfl | ⟨v', rfl, a0, a1⟩
          · cases z
          · rw [List.mem_singleton.mp z]
            exact ⟨n1, nk, ra0, ra1, a0, a1⟩
    clear e2 g2 B2 S2 PC
    rintro σ H3 ⟨w7, w8, w9, w10, w11, zs', rs', rfl, e3, g3, lz', PC, PR, SR, br, B3, S3⟩
    rw [lz, List.take_length] at SR
    refine ⟨_, rfl, e, xs', rfl, .inl ⟨SqL.of e3, fun t1 h1 => ⟨_, rfl, g, zs', rfl, .inl ⟨SqL.of (s3u h1 g3), fun t2 h2 => ⟨by show 2 ≤ sizeLine; decide, fun t3 h3 => ?_⟩⟩⟩⟩⟩
    have M : Same H3 (upd (upd (upd H3 t1 (.tup xs')) t2 (.tup zs')) t3 (.tup [.ref t1, .ref t2])) := same_new (same_new (same_new (Same.refl _) h1) h2) h3
    have BF := B3.keep M
    refine k (.ref t3) cs' rs' _ SB SR bd br ?_ BF (S3.same M)
    have q1 := SqT.of (K := K) (s3u (o := .tup [.ref t1, .ref t2]) h3 (s3u (o := .tup zs') h2 (upd_same (H := H3) (a := t1) (o := .tup xs'))))
    have q2 := SqT.of (K := K) (s3u (o := .tup [.ref t1, .ref t2]) h3 (upd_same (H := upd H3 t1 (.tup xs')) (a := t2) (o := .tup zs')))
    exact ⟨t3, t1, t2, xs', zs', rfl, sqt_wo' (SqT.of upd_same) BF, sqt_wo' q1 BF, sqt_wo' q2 BF, paired_imp (fun _ _ ⟨t, q, h⟩ => ⟨t, q, sqt_wo' (sqt_more M h) BF⟩) PC, paired_imp (fun _ _ ⟨t, q, h⟩ => ⟨t, q, sqt_wo' (sqt_more M h) BF⟩) PR⟩
end
end Y

/-! UK6: what of edits and yards is asked when they are put beside one another. -/
namespace Y
open PySem PySem.Spec PyProof.Rows L2 Ns
open PySem.W (dataLe dataLt alike TotalLe)
section
variable {K : PySem.W.Frag} {H : Hp}
/-- the same datum twice: equal -/
theorem datA_eq {E : V → V → Prop} : ∀ {xs ys : List V} {ds : List PyData}, DatA K H xs ds → DatA K H ys ds → (∀ d ∈ ds, ∀ x y, DatV K H x d → DatV K H y d → E x y) → Paired E xs ys
  | _, _, _, .nil, .nil, _ => .nil
  | _, _, _, .cons h t, .cons h' t', k => .cons (k _ List.mem_cons_self _ _ h h') (datA_eq t t' fun d hd => k d (List.mem_cons_of_mem _ hd))
def flatD : PyData → Bool
  | .int _ => true
  | .str _ => true
  | .none => true
  | .bool _ => true
  | _ => false
theorem eq_flat {n : Nat} {d : PyData} (f : flatD d = true) {x y : V} (h : DatV K H x d) (g : DatV K H y d) : EqT K H (n + 1) x y := by
  cases d with
  | int i => cases h; cases g; exact .inl ⟨rfl, rfl⟩
  | str i => cases h; cases g; exact .inl ⟨rfl, rfl⟩
  | none => cases h; cases g; exact .inl ⟨rfl, rfl⟩
  | bool i => cases h; cases g; exact .inl ⟨rfl, rfl⟩
  | _ => cases f
theorem eq_tupU {n : Nat} {ds : List PyData} (k : ∀ d ∈ ds, ∀ x y, DatV K H x d → DatV K H y d → EqT K H n x y) {x y : V} (h : DatV K H x (.tuple ds)) (g : DatV K H y (.tuple ds)) : EqU K H (EqT K H n) x y := by
  cases h with
  | tup h1 h2 =>
    cases g with
    | tup g1 g2 => exact ⟨_, _, _, _, rfl, rfl, h1, g1, datA_eq h2 g2 k⟩
theorem eq_tup {n : Nat} {ds : List PyData} (k : ∀ d ∈ ds, ∀ x y, DatV K H x d → DatV K H y d → EqT K H n x y) {x y : V} (h : DatV K H x (.tuple ds)) (g : DatV K H y (.tuple ds)) : EqT K H (n + 1) x y := .inr (.inr (.inr (eq_tupU k h g)))
theorem eq_row {n : Nat} {ds : List PyData} (f : ∀ d ∈ ds, flatD d = true) {x y : V} (h : DatV K H x (.tuple ds)) (g : DatV K H y (.tuple ds)) : EqT K H (n + 2) x y := eq_tup (fun d hd x y hx hy => eq_flat (f d hd) hx hy) h g
theorem eqs_yard {cs : List Cab} {rs : List Car} {x y : V} (h : DatV K H x (yardD cs rs)) (g : DatV K H y (yardD cs rs)) : EqS K H 3 x y := by
  refine .inr (eq_tupU (fun d hd x y hx hy => ?_) h g)
  simp only [List.mem_cons, List.not_mem_nil, or_false] at hd
  rcases hd with rfl | rfl
  · refine eq_tup (fun d hd x y hx hy => ?_) hx hy
    obtain ⟨c, _, rfl⟩ := List.mem_map.mp hd
    refine eq_row (n := 0) (fun d hd => ?_) hx hy
    simp only [List.mem_cons, List.not_mem_nil, or_false] at hd
    rcases hd with rfl | rfl | rfl <;> rfl
  · refine eq_tup (fun d hd x y hx hy => ?_) hx hy
    obtain ⟨c, _, rfl⟩ := List.mem_map.mp hd
    refine eq_row (n := 0) (fun d hd => ?_) hx hy
    simp only [List.mem_cons, List.not_mem_nil, or_false] at hd
    rcases hd with rfl | rfl | rfl | rfl <;> rfl
theorem eq_ed {e : Ed} {x y : V} (h : DatV K H x (edD e)) (g : DatV K H y (edD e)) : EqT K H 2 x y := by
  cases e <;> refine eq_row (n := 0) (fun d hd => ?_) h g <;> simp only [List.mem_cons, List.not_mem_nil, or_false] at hd
  · rcases hd with rfl | rfl | rfl | rfl <;> rfl
  · rcases hd with rfl | rfl | rfl <;> rfl
  · rcases hd with rfl | rfl | rfl | rfl | rfl <;> rfl
  · rcases hd with rfl | rfl <;> rfl
theorem datA_eds {xs : List V} {es : List Ed} (h : Paired (EdV K H) xs es) : DatA K H xs (es.map edD) := by
  induction h with
  | nil => exact .nil
  | cons h t ih => exact .cons h.dat ih
theorem eqs_eds {a b : Addr} {xs ys : List V} {es : List Ed} (h1 : SqL K H a xs) (h2 : SqL K H b ys) (p1 : Paired (EdV K H) xs es) (p2 : Paired (EdV K H) ys es) : EqS K H 2 (.ref a) (.ref b) :=
  .inl (.inl ⟨a, b, xs, ys, rfl, rfl, h1, h2, datA_eq (datA_eds p1) (datA_eds p2) fun d hd x y hx hy => by
    obtain ⟨e, _, rfl⟩ := List.mem_map.mp hd
    exact eq_ed hx hy⟩)
end
theorem fit_word {z : Str} (h : ∀ c ∈ z.cps.toList, c < 200) (hl : z.length ≤ 20) : Fit 300 0 (.str z) := by
  refine ⟨by simp [PyData.showable], ?_, by simp [PyData.depth]⟩
  rw [PyData.shown_str]
  have := PySem.StrLaws.reprText_len z fun c hc => Nat.lt_trans (h c hc) (by decide)
  omega
theorem fit_ed {e : Ed} (h : EdQ e) : Fit 2000 1 (edD e) := by
  cases e with
  | cab s e v =>
    obtain ⟨h1, h2, h3, h4⟩ := h
    refine (fit_tuple (m := 300) (k := 0) fun d hd => ?_).mono (show 4 * (300 + 2) + 3 ≤ 2000 by decide) (by decide)
    simp only [List.mem_cons, List.not_mem_nil, or_false] at hd
    rcases hd with rfl | rfl | rfl | rfl
    · exact fit_word (by decide +kernel) (by decide +kernel)
    · exact fit_name h1
    · exact fit_name h2
    · exact fit_num h3 h4
  | noc s e =>
    obtain ⟨h1, h2⟩ := h
    refine (fit_tuple (m := 300) (k := 0) fun d hd => ?_).mono (show 3 * (300 + 2) + 3 ≤ 2000 by decide) (by decide)
    simp only [List.mem_cons, List.not_mem_nil, or_false] at hd
    rcases hd with rfl | rfl | rfl
    · exact fit_word (by decide +kernel) (by decide +kernel)
    · exact fit_name h1
    · exact fit_name h2
  | car r =>
    obtain ⟨h1, h2, h3, h4, h5, h6⟩ := h
    refine (fit_tuple (m := 300) (k := 0) fun d hd => ?_).mono (show 5 * (300 + 2) + 3 ≤ 2000 by decide) (by decide)
    simp only [List.mem_cons, List.not_mem_nil, or_false] at hd
    rcases hd with rfl | rfl | rfl | rfl | rfl
    · exact fit_word (by decide +kernel) (by decide +kernel)
    · exact fit_name (.inl h1)
    · exact fit_name h2
    · exact fit_num (by omega) h4
    · exact fit_num h5 h6
  | nor n =>
    refine (fit_tuple (m := 300) (k := 0) fun d hd => ?_).mono (show 2 * (300 + 2) + 3 ≤ 2000 by decide) (by decide)
    simp only [List.mem_cons, List.not_mem_nil, or_false] at hd
    rcases hd with rfl | rfl
    · exact fit_word (by decide +kernel) (by decide +kernel)
    · exact fit_name (.inl h)
theorem fit_eds {es : List Ed} (h : ∀ e ∈ es, EdQ e) (l : es.length ≤ 400) : (PyData.list (es.map edD)).showable = true ∧ (PyData.list (es.map edD)).shown.length ≤ sizeLine ∧ (PyData.list (es.map edD)).depth ≤ 60 := by
  have f : Fit ((es.map edD).length * (2000 + 2) + 3) (1 + 1) (.list (es.map edD)) := fit_list fun d hd => by
    obtain ⟨e, he, rfl⟩ := List.mem_map.mp hd
    exact fit_ed (h e he)
  refine ⟨f.1, Nat.le_trans f.2.1 ?_, Nat.le_trans f.2.2 (by decide)⟩
  rw [List.length_map, sizeLine_eq]
  omega
theorem all_eqv {α : Type} [DecidableEq α] {k : α → PyData} (h : ∀ a b, PyData.eqv (k a) (k b) = decide (a = b)) : ∀ l m : List α, PyData.eqvAll (l.map k) (m.map k) = decide (l = m)
  | [], [] => rfl
  | [], _ :: _ => rfl
  | _ :: _, [] => rfl
  | a :: l, b :: m => by
    have e : PyData.eqvAll ((a :: l).map k) ((b :: m).map k) = (PyData.eqv (k a) (k b) && PyData.eqvAll (l.map k) (m.map k)) := by simp [PyData.eqvAll]
    rw [e, h, all_eqv h l m]
    by_cases e1 : a = b <;> by_cases e2 : l = m <;> simp [e1, e2]
theorem eqv_cab (a b : Cab) : PyData.eqv (cabD a) (cabD b) = decide (a = b) := by
  obtain ⟨a1, a2, a3⟩ := a
  obtain ⟨b1, b2, b3⟩ := b
  have e : PyData.eqv (cabD (a1, a2, a3)) (cabD (b1, b2, b3)) = (a1 == b1 && (a2 == b2 && (a3 == b3 && true))) := by simp [cabD, PyData.eqv, PyData.eqvAll]
  rw [e]
  by_cases e1 : a1 = b1 <;> by_cases e2 : a2 = b2 <;> by_cases e3 : a3 = b3 <;> simp [e1, e2, e3]
theorem eqv_yard (a b : List Cab) (r q : List Car) : PyData.eqv (yardD a r) (yardD b q) = decide (a = b ∧ r = q) := by
  have e : PyData.eqv (yardD a r) (yardD b q) = (PyData.eqvAll (a.map cabD) (b.map cabD) && (PyData.eqvAll (r.map carD) (q.map carD) && true)) := by simp [yardD, PyData.eqv, PyData.eqvAll]
  rw [e, all_eqv eqv_cab, all_eqv eqv_car]
  by_cases e1 : a = b <;> by_cases e2 : r = q <;> simp [e1, e2]
theorem dp_cabs {K : PySem.W.Frag} {H : Hp} : ∀ {ys : List V} {fl : List Cab}, Paired (CabV K H) ys fl → DpAll K H ys (fl.map cabD)
  | _, _, .nil => .nil
  | _, _, .cons ⟨t, e, h⟩ r => by
    subst e
    exact .cons (.tup h (.cons (.str _) (.cons (.str _) (.cons (.int _) .nil)))) (dp_cabs r)
theorem lay_cs7 : ∀ {fl : List Cab}, (∀ c ∈ fl, Nf c.1 ∧ Nf c.2.1) → PyData.canLayAll0 (fl.map cabD) = true ∧ PyData.depthAll (fl.map cabD) ≤ 1
  | [], _ => ⟨rfl, by simp [PyData.depthAll]⟩
  | r :: fl, h => by
    obtain ⟨h1, h2⟩ := lay_cs7 fun r hr => h r (List.mem_cons_of_mem _ hr)
    obtain ⟨g1, g2⟩ := h r List.mem_cons_self
    refine ⟨by simp [cabD, PyData.canLayAll0, PyData.canLay0, h1, nf_ok g1, nf_ok g2], ?_⟩
    simp only [List.map_cons, PyData.depthAll, cabD, PyData.depth]
    omega
theorem lay_rs7 : ∀ {fl : List Car}, (∀ r ∈ fl, Nm r.1 ∧ Nf r.2.1) → PyData.canLayAll0 (fl.map carD) = true ∧ PyData.depthAll (fl.map carD) ≤ 1
  | [], _ => ⟨rfl, by simp [PyData.depthAll]⟩
  | r :: fl, h => by
    obtain ⟨h1, h2⟩ := lay_rs7 fun r hr => h r (List.mem_cons_of_mem _ hr)
    obtain ⟨g1, g2⟩ := h r List.mem_cons_self
    refine ⟨by simp [carD, PyData.canLayAll0, PyData.canLay0, h1, nm_ok g1, nf_ok g2], ?_⟩
    simp only [List.map_cons, PyData.depthAll, carD, PyData.depth]
    omega
theorem shaped_yard {cs : List Cab} {rs : List Car} (h1 : ∀ c ∈ cs, Nf c.1 ∧ Nf c.2.1) (h2 : ∀ r ∈ rs, Nm r.1 ∧ Nf r.2.1) : SeqAt.shaped (yardD cs rs) = true := by
  obtain ⟨a1, a2⟩ := lay_cs7 h1
  obtain ⟨b1, b2⟩ := lay_rs7 h2
  unfold SeqAt.shaped
  rw [Bool.and_eq_true]
  refine ⟨by simp [yardD, PyData.canLay0, PyData.canLayAll0, a1, b1], decide_eq_true ?_⟩
  simp only [yardD, PyData.depth, PyData.depthAll]
  omega
theorem dp_yard {K : PySem.W.Frag} {H : Hp} {y : V} {cs : List Cab} {rs : List Car} (h : YardV K H y cs rs) : Dp K H y (yardD cs rs) := by
  obtain ⟨t, a, b, xs, zs, rfl, h1, h2, h3, h4, h5⟩ := h
  exact .tup h1 (.cons (.tup h2 (dp_cabs h4)) (.cons (.tup h3 (dp_cars h5)) .nil))
theorem sorted_iff : ∀ {l : List Str}, sortedS l = true ↔ l.Pairwise (fun x y => ¬ y.cps.toList < x.cps.toList)
  | [] => ⟨fun _ => .nil, fun _ => rfl⟩
  | [x] => ⟨fun _ => List.pairwise_singleton _ _, fun _ => rfl⟩
  | x :: y :: r => by
    constructor
    · intro h
      exact List.pairwise_cons.mpr ⟨fun z hz => rising_all h z hz, sorted_iff.mp (rising_tail h)⟩
    · intro h
      obtain ⟨h1, h2⟩ := List.pairwise_cons.mp h
      have ih : sortedS (y :: r) = true := sorted_iff.mpr h2
      show risingS x (y :: r) = true
      unfold risingS
      rw [Bool.and_eq_true, ltCps_eq]
      exact ⟨by simpa using h1 y List.mem_cons_self, ih⟩
end Y

/-! UK9: _law_is_way_right. -/
namespace Y
open PySem PySem.Spec PyProof.Rows L2 Ns
open PySem.W (dataLe dataLt alike TotalLe)
section
variable {α : Type} {le : α → α → Bool}
theorem perm_one (anti : ∀ a b, le a b = true → le b a = true → a = b) (tl : TotalLe le) : ∀ {l m : List α}, l.Perm m → l.Pairwise (fun a b => le a b = true) → m.Pairwise (fun a b => le a b = true) → l = m
  | [], m, p, _, _ => (List.nil_perm.mp p).symm
  | a :: l, [], p, _, _ => by cases List.perm_nil.mp p
  | a :: l, b :: m, p, h1, h2 => by
    have e : a = b := by
      obtain ⟨h1, _⟩ := List.pairwise_cons.mp h1
      obtain ⟨h2, _⟩ := List.pairwise_cons.mp h2
      rcases List.mem_cons.mp (p.mem_iff.mp List.mem_cons_self) with z | z
      · exact z
      · rcases List.mem_cons.mp (p.mem_iff.mpr List.mem_cons_self) with y | y
        · exact y.symm
        · exact anti a b (h1 b y) (h2 a z)
    subst e
    rw [perm_one anti tl (List.perm_cons a |>.mp p) (List.pairwise_cons.mp h1).2 (List.pairwise_cons.mp h2).2]
end
theorem le_pD7 : TotalLe (dataLe false pD) := PySem.W.sortLe_total _ _ _
theorem cps_one {x y : Str} (h1 : ¬ x.cps.toList < y.cps.toList) (h2 : ¬ y.cps.toList < x.cps.toList) : x = y := str_ext (List.le_antisymm h2 h1)
theorem anti_pD (a b : Str × Str) (h1 : dataLe false pD a b = true) (h2 : dataLe false pD b a = true) : a = b := by
  obtain ⟨a1, a2⟩ := a
  obtain ⟨b1, b2⟩ := b
  rw [PySem.W.dataLe_eq] at h1 h2
  have h1 : (!dataLt (.tuple [.str b1, .str b2]) (.tuple [.str a1, .str a2])) = true := h1
  have h2 : (!dataLt (.tuple [.str a1, .str a2]) (.tuple [.str b1, .str b2])) = true := h2
  rw [PySem.W.dataLt_pair rfl rfl, PySem.W.dataLt_str, PySem.W.dataLt_str] at h1 h2
  have q : ∀ x y : Str, PyData.eqv (.str x) (.str y) = (x == y) := fun x y => by simp [PyData.eqv]
  rw [q, q] at h1 h2
  by_cases e1 : a1 = b1
  · subst e1
    simp only [beq_self_eq_true, if_true] at h1 h2
    by_cases e2 : a2 = b2
    · rw [e2]
    · have n1 : (b2 == a2) = false := by simp [Ne.symm e2]
      have n2 : (a2 == b2) = false := by simp [e2]
      rw [n1] at h1
      rw [n2] at h2
      exact absurd (cps_one (by simpa using h2) (by simpa using h1)) e2
  · have n1 : (b1 == a1) = false := by simp [Ne.symm e1]
    have n2 : (a1 == b1) = false := by simp [e1]
    rw [n1] at h1
    rw [n2] at h2
    exact absurd (cps_one (by simpa using h2) (by simpa using h1)) e1
theorem perm_one7 {l m : List (Str × Str)} (p : l.Perm m) (h1 : l.Pairwise (fun a b => dataLe false pD a b = true)) (h2 : m.Pairwise (fun a b => dataLe false pD a b = true)) : l = m := perm_one anti_pD le_pD7 p h1 h2
theorem paired_take7 {α β : Type} {R : α → β → Prop} : ∀ {as : List α} {bs : List β}, Paired R as bs → ∀ n, Paired R (as.take n) (bs.take n)
  | _, _, .nil, n => by rw [List.take_nil, List.take_nil]; exact .nil
  | _, _, .cons h t, 0 => .nil
  | _, _, .cons h t, n + 1 => .cons h (paired_take7 t n)
theorem paired_drop7 {α β : Type} {R : α → β → Prop} : ∀ {as : List α} {bs : List β}, Paired R as bs → ∀ n, Paired R (as.drop n) (bs.drop n)
  | _, _, .nil, n => by rw [List.drop_nil, List.drop_nil]; exact .nil
  | _, _, .cons h t, 0 => .cons h t
  | _, _, .cons h t, n + 1 => paired_drop7 t n
/-- nothing is let out -/
theorem passF {X : Cx} : Passes (L2.CX X.prog X.w) X (fun _ _ _ => False) := by
  intro pins σ H s e s' I c
  obtain ⟨a, B, H', cls, d, _, _, _, _, _, _, _, h⟩ := c
  exact h.elim
/-- a yard of a turn, its keys and names among these -/
structure YG (U : List (Str × Str)) (V : List Str) (cs : List Cab) (rs : List Car) : Prop where
  p : YardP cs rs
  csrt : (cs.map ckey).Pairwise (fun a b => dataLe false pD a b = true)
  rsrt : sortedS (rs.map (·.1)) = true
  ku : ∀ k ∈ cs.map ckey, k ∈ U
  nv : ∀ n ∈ rs.map (·.1), n ∈ V
structure Lim (U : List (Str × Str)) (V : List Str) : Prop where
  u : U.length ≤ 60
  v : V.length ≤ 60
theorem YG.st {U : List (Str × Str)} {V : List Str} {cs : List Cab} {rs : List Car} (h : YG U V cs rs) : StQ 0 (capsOf cs) rs := (h.p.q 0).st
theorem YG.two {U : List (Str × Str)} {V : List Str} {cs1 cs2 : List Cab} {rs1 rs2 : List Car} (L : Lim U V) (a : YG U V cs1 rs1) (b : YG U V cs2 rs2) : Two cs1 cs2 rs1 rs2 where
  k1 := a.p.keys
  k2 := b.p.keys
  n1 := a.p.names
  n2 := b.p.names
  lc1 := by have := a.p.lc; omega
  lc2 := by have := b.p.lc; omega
  lr1 := by have := a.p.lr; omega
  lr2 := by have := b.p.lr; omega
  few := fun l nd h => by
    have := sub_len nd (m := U) fun k hk => (h k hk).elim (a.ku k) (b.ku k)
    have := L.u
    omega
  fewn := fun l nd h => by
    have := sub_len nd (m := V) fun k hk => (h k hk).elim (a.nv k) (b.nv k)
    have := L.v
    omega
  nms := fun r hr => by
    rcases hr with hr | hr
    · obtain ⟨h1, h2, _⟩ := a.p.car r hr
      exact ⟨h1, h2⟩
    · obtain ⟨h1, h2, _⟩ := b.p.car r hr
      exact ⟨h1, h2⟩
/-- the keys of both are told in one way only -/
theorem Kys.uniq {c1 c2 : Caps} {r1 r2 : List Car} {ks ks' : List (Str × Str)} {ns ns' : List Str} (a : Kys c1 c2 r1 r2 ks ns) (b : Kys c1 c2 r1 r2 ks' ns') : ks = ks' ∧ ns = ns' := by
  refine ⟨perm_one7 ((List.perm_ext_iff_of_nodup a.knd b.knd).mpr fun k => (a.kin k).trans (b.kin k).symm) a.krs b.krs, sorted_one a.nrs b.nrs ((List.perm_ext_iff_of_nodup a.nnd b.nnd).mpr fun n => (a.nin n).trans (b.nin n).symm)⟩
theorem Kys.len {r1 r2 : List Car} {ks : List (Str × Str)} {ns : List Str} {cs1 cs2 : List Cab} (h : Kys (capsOf cs1) (capsOf cs2) r1 r2 ks ns) (T : Two cs1 cs2 r1 r2) : (edsOf (capsOf cs1) (capsOf cs2) r1 r2 ks ns).length ≤ 122 := by
  have h1 := T.few ks h.knd fun k hk => by
    have := (h.kin k).mp hk
    rwa [capsOf_keys, capsOf_keys] at this
  have h2 := T.fewn ns h.nnd fun k hk => (h.nin k).mp hk
  unfold edsOf
  rw [List.length_append, List.length_map, List.length_map]
  have := List.length_filter_le (fun k => !decide (capAt (capsOf cs1) k = capAt (capsOf cs2) k)) ks
  have := List.length_filter_le (fun k => !decide (carAt r1 k = carAt r2 k)) ns
  omega
/-- a state that is told as a yard is that yard again -/
theorem YG.back {U : List (Str × Str)} {V : List Str} {m : Nat} {c : Caps} {r : List Car} {cs cs' : List Cab} {rs rs' : List Car} (h : YG U V cs rs) (q : StQ m c r) (e : ∀ κ, Lk (c, r) κ = Lk (capsOf cs, rs) κ) (R : Res c r cs' rs') : cs' = cs ∧ rs' = rs := by
  obtain ⟨p1, p2⟩ := lk_perm q h.st e
  refine Res.uniq q R ⟨?_, fun x hx => ?_, h.rsrt, p2.symm⟩
  · refine perm_one7 ?_ h.csrt (List.pairwise_mergeSort (fun a b c h1 h2 => le_pD7.trans a b c h1 h2) (fun a b => by
      rcases le_pD7.total a b with h | h
      · rw [h]; rfl
      · rw [h, Bool.or_true]) _)
    rw [← capsOf_keys]
    exact (p1.symm.map (·.1)).trans (List.mergeSort_perm _ _).symm
  · exact p1.mem_iff.mpr (List.mem_map.mpr ⟨x, hx, rfl⟩)
theorem YG.size {U : List (Str × Str)} {V : List Str} {m : Nat} {s1 s2 t : Caps × List Car} (L : Lim U V) (q : StQ m t.1 t.2) (k1 : ∀ k ∈ s1.1.map (·.1), k ∈ U) (k2 : ∀ k ∈ s2.1.map (·.1), k ∈ U) (n1 : ∀ n ∈ s1.2.map (·.1), n ∈ V) (n2 : ∀ n ∈ s2.2.map (·.1), n ∈ V) (h : ∀ κ, Lk t κ = Lk s1 κ ∨ Lk t κ = Lk s2 κ) : t.1.length ≤ 60 ∧ t.2.length ≤ 60 := by
  constructor
  · have := sub_len q.keys (m := U) fun k hk => by
      obtain ⟨v, ev⟩ := cap_some hk
      rcases h (.inl k) with z | z
      · exact k1 k (cap_in (by rw [← lk_inl.mp z, ev]; exact fun y => by cases y))
      · exact k2 k (cap_in (by rw [← lk_inl.mp z, ev]; exact fun y => by cases y))
    rw [List.length_map] at this
    have := L.u
    omega
  · have := sub_len q.names (m := V) fun n hn => by
      obtain ⟨r, hr, rfl⟩ := List.mem_map.mp hn
      have ev := car_of q.names hr
      rcases h (.inr r.1) with z | z
      · exact n1 _ (car_in (by rw [← lk_inr.mp z, ev]; exact fun y => by cases y))
      · exact n2 _ (car_in (by rw [← lk_inr.mp z, ev]; exact fun y => by cases y))
    rw [List.length_map] at this
    have := L.v
    omega
def spWay (K : PySem.W.Frag) : Sp := fun as H Q _ => ∃ (y1 y2 : V) (cs1 cs2 : List Cab) (rs1 rs2 : List Car) (U : List (Str × Str)) (Vs : List Str), as = [y1, y2] ∧ YardV K H y1 cs1 rs1 ∧ YardV K H y2 cs2 rs2 ∧ Lim U Vs ∧ YG U Vs cs1 rs1 ∧ YG U Vs cs2 rs2 ∧ ∀ H', Same H H' → Q (.bl true) H'
section
variable {P : Program} {w : World} {K : PySem.W.Frag} {mg : Str → Option Value} {base : Heap}
theorem scWR : FnScope ["one", "other", "due", "again", "told", "at"] ["one", "other"] (defScope sIsWayRight) := ⟨rfl, rfl, rfl, by decide +kernel, rfl, by decide +kernel, by decide +kernel⟩
theorem ok_way {f fD fB fC fA cC cB : Addr} {fd dD dB dC dA : FuncData} (F : Fun K "_law_is_way_right" "_law_is_way_right" sIsWayRight f fd) (T : Nat0 mg)
    (GD : FnOk P w K mg base CX0 1 fD dD ["one", "other"] (spBetw K)) (FD : Fun K "_law_due" "_law_due" sDue fD dD) (mD : mg "_law_due" = some (.ref fD)) (bD : Binds K dD ["one", "other"] [])
    (GB : FnOk P w K mg base CX0 2 fB dB ["one", "other"] (spBetw K)) (FB : Fun K "edits_between" "edits_between" sEditsBetween fB dB) (mB : mg "edits_between" = some (.ref fB)) (bB : Binds K dB ["one", "other"] [])
    (GC : FnOk P w K mg base (L2.CX P w) 4 fC dC ["yard", "edits"] (spChanged K cC cB)) (FC : Fun K "changed" "changed" sChanged fC dC) (mC : mg "changed" = some (.ref fC)) (bC : Binds K dC ["yard", "edits"] [])
    (GA : GnOk P w K mg base 1 fA dA ["found", "due"] (spAlike K)) (FA : Fun K "_law_alike" "_law_alike" sAlike fA dA) (mA : mg "_law_alike" = some (.ref fA)) (bA : Binds K dA ["found", "due"] []) : GnOk P w K mg base 5 f fd ["one", "other"] (spWay K) := by
  refine Fun.okG F scWR (fun as H Q E h => ?_) (fun cdv A outer s H as Q E hr hgd h => ?_)
  · obtain ⟨y1, y2, _, _, _, _, _, _, rfl, _⟩ := h
    rfl
  · obtain ⟨y1, y2, cs1, cs2, rs1, rs2, U, Vs, rfl, V1, V2, L, G1, G2, k⟩ := h
    have hr1 : Room 1 _ := hr.mono (by decide)
    have hr2 : Room 2 _ := hr.mono (by decide)
    have hun := hr.units
    refine ⟨_, pss_cons (ps_set (i := 2) scWR.nd rfl (.inl rfl) (pe_call GD hr1 rfl mD FD.kp bD .nil pass0 (pa_cons (pv 0) (pa_cons (pv 1) pa_nil))))
      (pss_cons (ps_for PassesOwn.never rfl (pi_range1 (by rfl) T.range (pa_cons pe_int pa_nil)) (pg_name (i := 3) scWR.nd rfl (.inl rfl)) (pss_cons (ps_set (i := 4) scWR.nd rfl (.inl rfl) (pe_call GB hr2 rfl mB FB.kp bB .nil pass0 (pa_cons (pv 0) (pa_cons (pv 1) pa_nil))))
        (pss_cons (ps_if (PW.pt (pw_or (pt_not (pt_val (pe_callG GA hr1 hgd rfl mA FA.kp bA (pa_cons (pv 4) (pa_cons (pv 2) pa_nil))))) (pw_or1 (pt_not (pt_val (pe_callG GA hr1 hgd rfl mA FA.kp bA (pa_cons (pe_call (E := fun _ _ _ => False) GC hr rfl mC FC.kp bC .nil passF (pa_cons (pv 0) (pa_cons (pv 4) pa_nil))) (pa_cons (pv 1) pa_nil)))))))) (pss_one (ps_ret pe_bl)) pss_nil)
        (pss_one (ps_expr (pe_bm PySem.F.plainAttrs_list PySem.F.slot_list_append PySem.F.type_list_append mt_append (pv 4) (pa_cons pe_non pa_nil)))))))
      (pss_cons (ps_for PassesOwn.never rfl (pi_range1 (by rfl) T.range (pa_cons (pe_callB (call_min2 rfl) (by rfl) T.min (by decide +kernel) (pa_cons (pe_callB call_len_seq (by rfl) T.len PySem.boot_len (pa_cons (pv 2) pa_nil)) (pa_cons pe_int pa_nil))) pa_nil)) (pg_name (i := 5) scWR.nd rfl (.inl rfl)) (pss_one (ps_if (pt_cmpR (op_eqD hun) (pe_call (E := fun _ _ _ => False) GC hr rfl mC FC.kp bC .nil passF (pa_cons (pv 0) (pa_cons (pe_op op_cat (pe_slice sl_list (pv 2) po_none (po_some (pv 5))) (pe_slice sl_list (pv 2) (po_some (pe_op op_add (pv 5) pe_int)) po_none)) pa_nil))) (pv 1) (nomark _)) (pss_one (ps_ret pe_bl)) pss_nil)))
      (pss_one (ps_ret pe_bl)))), ?_⟩
    have TW := YG.two L G1 G2
    refine ⟨_, rfl, _, rfl, y1, y2, cs1, cs2, rs1, rs2, rfl, V1, V2, TW, fun dl xsD ks ns H1 KY eD PD nD M1 => ?_⟩
    have FW := eds_few KY
    have EQ := eds_q KY G1.st G2.st
    have le := KY.len TW
    have lxD := paired_len PD
    obtain ⟨f1, f2, f3⟩ := fit_eds EQ (by omega)
    have fy := fit_yard G2.p
    have fy2 : (yardD cs2 rs2).shown.length ≤ sizeLine := Nat.le_trans fy.2.1 (by rw [sizeLine_eq]; decide)
    have fy3 : (yardD cs2 rs2).depth ≤ 60 := Nat.le_trans fy.2.2 (by decide)
    have kk : ∀ {cs : List Cab} {rs : List Car}, YG U Vs cs rs → ∀ x ∈ (capsOf cs).map (·.1), x ∈ U := fun g x hx => g.ku x (by rwa [capsOf_keys] at hx)
    refine ⟨2, rfl, by decide, by decide, for_range (n := 2) (fun i σ H' => ∃ w3 w4 : Option L2.V, σ = [some y1, some y2, some (.ref dl), w3, w4, none] ∧ Same H1 H') ?_ ?_ ?_⟩
    · exact ⟨none, none, rfl, Same.refl _⟩
    · rintro i σ H' hi ⟨w3, w4, rfl, m⟩
      have M' := M1.trans m
      refine ⟨_, rfl, _, rfl, y1, y2, cs1, cs2, rs1, rs2, rfl, V1.more M', V2.more M', TW, fun tl xsT ks' ns' H2 KY' eT PT nT M2 => ?_⟩
      obtain ⟨rfl, rfl⟩ := KY'.uniq KY
      have mD := m.trans M2
      have eD2 := mD _ _ eD
      have PD2 := paired_imp (fun _ _ h => EdV.more mD h) PD
      have lxT := paired_len PT
      refine ⟨_, rfl, _, rfl, .ref tl, .ref dl, .list ((edsOf (capsOf cs1) (capsOf cs2) rs1 rs2 ks' ns').map edD), rfl, .inr ⟨2, by decide, eqs_eds (SqL.of eT) (SqL.of eD2) PT PD2⟩, .lst (SqL.of eT) (datA_eds PT), .lst (SqL.of eD2) (datA_eds PD2), f1, f2, f3, ?_⟩
      refine ⟨_, rfl, ?_⟩
      refine ite2 (fun h => by cases h) (fun _ => ?_)
      obtain ⟨⟨c2', r2'⟩, h1, q2, l2⟩ := FW.run (t1 := (capsOf cs1, rs1)) (fun _ => rfl) G1.st EQ
      obtain ⟨z1, z2⟩ := YG.size (s1 := (capsOf cs1, rs1)) (s2 := (capsOf cs2, rs2)) L q2 (kk G1) (kk G2) G1.nv G2.nv fun κ => .inr (l2 κ)
      refine ⟨_, rfl, _, rfl, y1, tl, xsT, cs1, rs1, edsOf (capsOf cs1) (capsOf cs2) rs1 rs2 ks' ns', 0, rfl, V1.more (M'.trans M2), .inl (SqL.of eT), PT, G1.p.q 0, EQ, by omega, ?_⟩
      rw [h1]
      refine ⟨z1, z2, fun y' cs' rs' H3 R V' M3 => ?_⟩
      obtain ⟨rfl, rfl⟩ := G2.back q2 l2 R
      have V2' := V2.more ((M'.trans M2).trans M3)
      refine ⟨_, rfl, y', y2, yardD cs' rs', rfl, .inr ⟨3, by decide, eqs_yard (dat_yard V') (dat_yard V2')⟩, dat_yard V', dat_yard V2', fy.1, fy2, fy3, ?_⟩
      refine ⟨_, rfl, ?_⟩
      refine ite2 (fun h => by cases h) (fun _ => ?_)
      have eT3 := M3 _ _ eT
      refine ⟨_, rfl, .inl ⟨rfl, _, SqL.of eT3⟩, tl, xsT, .non, rfl, rfl, eT3, small1000 (by omega), _, _, rfl, same_put (mD.trans M3) (fr_none m nT)⟩
    · rintro σ H2 ⟨w3, w4, rfl, m⟩
      have eD2 := m _ _ eD
      obtain ⟨n, en, n0, n1⟩ : ∃ n : Int, (if (6 : Int) < (xsD.length : Int) then (6 : Int) else (xsD.length : Int)) = n ∧ 0 ≤ n ∧ n ≤ xsD.length := ⟨_, rfl, by split <;> omega, by split <;> omega⟩
      refine ⟨_, rfl, dl, xsD, rfl, .inl (SqL.of eD2), _, _, rfl, ?_⟩
      rw [en]
      refine ⟨n, rfl, by omega, by omega, for_range (n := n.toNat) (fun i σ H' => ∃ w5 : Option L2.V, σ = [some y1, some y2, some (.ref dl), w3, w4, w5] ∧ Same H1 H') ?_ ?_ ?_⟩
      · exact ⟨none, rfl, m⟩
      · clear eD2 m H2
        rintro i σ H' hi ⟨w5, rfl, m⟩
        have hi' : i < (edsOf (capsOf cs1) (capsOf cs2) rs1 rs2 ks ns).length := by omega
        have eD2 := m _ _ eD
        have M' := M1.trans m
        refine ⟨_, rfl, _, rfl, _, rfl, 0 + (i : Int), rfl, dl, xsD, rfl, SqL.of eD2, fun p1 h1 => ?_⟩
        have m1 := same_new (o := .lst (cutV xsD none (some (0 + (i : Int))))) (Same.refl H') h1
        have e1 : upd H' p1 (.lst (cutV xsD none (some (0 + (i : Int))))) p1 = some (.lst (cutV xsD none (some (0 + (i : Int))))) := upd_same
        generalize upd H' p1 (.lst (cutV xsD none (some (0 + (i : Int))))) = G1' at m1 e1 ⊢
        refine ⟨_, rfl, _, rfl, _, _, rfl, rfl, _, rfl, dl, xsD, rfl, SqL.of (m1 _ _ eD2), fun p2 h2 => ?_⟩
        have m2 := same_new (o := .lst (cutV xsD (some (0 + (i : Int) + 1)) none)) (Same.refl G1') h2
        have e2 : upd G1' p2 (.lst (cutV xsD (some (0 + (i : Int) + 1)) none)) p2 = some (.lst (cutV xsD (some (0 + (i : Int) + 1)) none)) := upd_same
        generalize upd G1' p2 (.lst (cutV xsD (some (0 + (i : Int) + 1)) none)) = G2' at m2 e2 ⊢
        have e1 := m2 _ _ e1
        rw [show (0 + (i : Int)) = ((i : Nat) : Int) by omega, cut_upto] at e1
        rw [show (0 + (i : Int) + 1) = ((i + 1 : Nat) : Int) by omega, cut_from] at e2
        refine ⟨p1, p2, xsD.take i, xsD.drop (i + 1), rfl, rfl, e1, e2, by rw [List.length_take, List.length_drop]; exact Nat.le_of_lt (small1000 (by omega)), fun p3 h3 => ?_⟩
        have m3 := (m1.trans m2).trans (same_new (o := .lst (xsD.take i ++ xsD.drop (i + 1))) (Same.refl G2') h3)
        have e3 : upd G2' p3 (.lst (xsD.take i ++ xsD.drop (i + 1))) p3 = some (.lst (xsD.take i ++ xsD.drop (i + 1))) := upd_same
        generalize upd G2' p3 (.lst (xsD.take i ++ xsD.drop (i + 1))) = G3' at m3 e3 ⊢
        have PD3 := paired_imp (fun _ _ h => EdV.more (m.trans m3) h) PD
        obtain ⟨⟨c3, r3⟩, h1', q3, ⟨κ, nκ⟩, lo⟩ := FW.less (i := i) G1.st EQ hi'
        obtain ⟨z1, z2⟩ := YG.size (s1 := (capsOf cs1, rs1)) (s2 := (capsOf cs2, rs2)) L q3 (kk G1) (kk G2) G1.nv G2.nv lo
        refine ⟨y1, p3, _, cs1, rs1, (edsOf (capsOf cs1) (capsOf cs2) rs1 rs2 ks ns).take i ++ (edsOf (capsOf cs1) (capsOf cs2) rs1 rs2 ks ns).drop (i + 1), 0, rfl, V1.more (M'.trans m3), .inl (SqL.of e3), paired_app7 (paired_take7 PD3 i) (paired_drop7 PD3 (i + 1)), G1.p.q 0, fun e he => ?_, ?_, ?_⟩
        · rcases List.mem_append.mp he with z | z
          · exact EQ e (List.mem_of_mem_take z)
          · exact EQ e (List.mem_of_mem_drop z)
        · rw [List.length_append, List.length_take, List.length_drop]
          omega
        rw [h1']
        refine ⟨z1, z2, fun y' cs' rs' H3 R V' M3 => ?_⟩
        have V2' := V2.more ((M'.trans m3).trans M3)
        refine ⟨_, rfl, yardD cs' rs', yardD cs2 rs2, dp_yard V', dp_yard V2', shaped_yard (fun c hc => ?_) (fun r hr' => ?_), shaped_yard (fun c hc => ?_) (fun r hr' => ?_), _, rfl, ?_⟩
        · obtain ⟨a1, a2, _⟩ := q3.cab _ (R.cab c hc)
          exact ⟨a1, a2⟩
        · obtain ⟨a1, a2, _⟩ := q3.car r (R.perm.mem_iff.mp hr')
          exact ⟨a1, a2⟩
        · obtain ⟨a1, a2, _⟩ := G2.p.cab c hc
          exact ⟨a1, a2⟩
        · obtain ⟨a1, a2, _⟩ := G2.p.car r hr'
          exact ⟨a1, a2⟩
        rw [eqv_yard]
        refine ite2 (fun h => ?_) (fun _ => ?_)
        · obtain ⟨rfl, rfl⟩ := of_decide_eq_true h
          exact absurd ((lk_res q3 R κ).symm) nκ
        · exact ⟨_, rfl, (m.trans m3).trans M3⟩
      · rintro σ H3 ⟨w5, rfl, m3⟩
        exact k H3 (M1.trans m3)
end
end Y

/-! UK10: the law. -/
namespace Y
open PySem PySem.Spec PyProof.Rows L2 Ns
open PySem.W (dataLe dataLt alike TotalLe)
theorem YardF.yg {most : Int} {cs : List Cab} {rs : List Car} (h : YardF most cs rs) (hm : most ≤ 10 ^ 12) {U : List (Str × Str)} {Vs : List Str} (ku : ∀ k ∈ cs.map ckey, k ∈ U) (nv : ∀ n ∈ rs.map (·.1), n ∈ Vs) : YG U Vs cs rs := by
  have hp := h.plain hm
  obtain ⟨ns, nm, N1, N2, N3, N4, C, R⟩ := h.ex
  refine ⟨hp, ?_, R.srt, ku, nv⟩
  obtain ⟨ks, e⟩ := C.srt
  rw [e]
  exact List.pairwise_mergeSort (fun a b c h1 h2 => le_pD7.trans a b c h1 h2) (fun a b => by
    rcases le_pD7.total a b with h | h
    · rw [h]; rfl
    · rw [h, Bool.or_true]) ks
theorem YG.near {U : List (Str × Str)} {Vs : List Str} {cs cs' : List Cab} {rs rs' : List Car} (h : YG U Vs cs rs) (s1 : (cs'.map ckey).Sublist (cs.map ckey)) (s2 : (rs'.map (·.1)).Sublist (rs.map (·.1))) (b1 : ∀ c ∈ cs', Nf c.1 ∧ Nf c.2.1 ∧ 0 ≤ c.2.2 ∧ c.2.2 ≤ 10 ^ 12)
    (b2 : ∀ r ∈ rs', Nm r.1 ∧ Nf r.2.1 ∧ 1 ≤ r.2.2.1 ∧ r.2.2.1 ≤ 10 ^ 12 ∧ 0 ≤ r.2.2.2 ∧ r.2.2.2 ≤ 10 ^ 12) : YG U Vs cs' rs' := by
  have l1 := s1.length_le
  have l2 := s2.length_le
  rw [List.length_map, List.length_map] at l1 l2
  have lc := h.p.lc
  have lr := h.p.lr
  exact ⟨⟨by omega, by omega, b1, b2, h.p.keys.sublist s1, h.p.names.sublist s2⟩, h.csrt.sublist s1, sorted_iff.mpr ((sorted_iff.mp h.rsrt).sublist s2), fun k hk => h.ku k (s1.subset hk), fun n hn => h.nv n (s2.subset hn)⟩
theorem YG.none (U : List (Str × Str)) (Vs : List Str) : YG U Vs [] [] := ⟨⟨by simp, by simp, (fun _ h => nomatch h), (fun _ h => nomatch h), by simp, by simp⟩, by simp, rfl, (fun _ h => nomatch h), (fun _ h => nomatch h)⟩
theorem runE_app {s t : Caps × List Car} {a b : List Ed} (h : runE s a = .ok t) : runE s (a ++ b) = runE t b := by
  unfold runE at h ⊢
  rw [List.foldl_append, h]
section
variable {P : Program} {w : World} {K : PySem.W.Frag} {mg : Str → Option Value} {base : Heap} {fB fT fS fSm fW fNr fEB fCh fWy fA cC cB : Addr} {dB dT dS dSm dW dNr dEB dCh dWy dA : FuncData}
structure D07 (P : Program) (w : World) (K : PySem.W.Frag) (mg : Str → Option Value) (base : Heap) (fB fT fS fSm fW fNr fEB fCh fWy fA cC cB : Addr) (dB dT dS dSm dW dNr dEB dCh dWy dA : FuncData) : Prop where
  B : Fun K "_law_bag" "_law_bag" sBag fB dB
  mB : mg "_law_bag" = some (.ref fB)
  bB : Binds K dB ["script"] []
  gB : FnOk P w K mg base CX0 1 fB dB ["script"] (spBag K)
  T : Fun K "_law_take" "_law_take" sTake fT dT
  mT : mg "_law_take" = some (.ref fT)
  bT : Binds K dT ["bag", "many"] []
  gT : FnOk P w K mg base CX0 1 fT dT ["bag", "many"] spTake
  S : Fun K "_law_some" "_law_some" sSome fS dS
  mS : mg "_law_some" = some (.ref fS)
  bS : Binds K dS ["bag", "things"] []
  gS : FnOk P w K mg base CX0 2 fS dS ["bag", "things"] (spSome K)
  Sm : Fun K "_law_small_yard" "_law_small_yard" sSmall fSm dSm
  mSm : mg "_law_small_yard" = some (.ref fSm)
  bSm : Binds K dSm ["bag"] []
  gSm : FnOk P w K mg base CX0 7 fSm dSm ["bag"] (spYardS K)
  W : Fun K "_law_wide_yard" "_law_wide_yard" sWide fW dW
  mW : mg "_law_wide_yard" = some (.ref fW)
  bW : Binds K dW ["bag"] []
  gW : FnOk P w K mg base CX0 7 fW dW ["bag"] (spYard K (10 ^ 12))
  Nr : Fun K "_law_near" "_law_near" sNear fNr dNr
  mNr : mg "_law_near" = some (.ref fNr)
  bNr : Binds K dNr ["bag", "yard"] []
  gNr : FnOk P w K mg base CX0 3 fNr dNr ["bag", "yard"] (spNear7 K)
  EB : Fun K "edits_between" "edits_between" sEditsBetween fEB dEB
  mEB : mg "edits_between" = some (.ref fEB)
  bEB : Binds K dEB ["one", "other"] []
  gEB : FnOk P w K mg base CX0 2 fEB dEB ["one", "other"] (spBetw K)
  Ch : Fun K "changed" "changed" sChanged fCh dCh
  mCh : mg "changed" = some (.ref fCh)
  bCh : Binds K dCh ["yard", "edits"] []
  gCh : FnOk P w K mg base (L2.CX P w) 4 fCh dCh ["yard", "edits"] (spChanged K cC cB)
  Wy : Fun K "_law_is_way_right" "_law_is_way_right" sIsWayRight fWy dWy
  mWy : mg "_law_is_way_right" = some (.ref fWy)
  bWy : Binds K dWy ["one", "other"] []
  gWy : GnOk P w K mg base 5 fWy dWy ["one", "other"] (spWay K)
  A : Fun K "_law_alike" "_law_alike" sAlike fA dA
  mA : mg "_law_alike" = some (.ref fA)
  bA : Binds K dA ["found", "due"] []
  gA : GnOk P w K mg base 1 fA dA ["found", "due"] (spAlike K)
theorem scL : FnScope ["script", "bag", "turn", "one", "other", "third", "start", "end", "row"] ["script"] (defScope sLaw) := ⟨rfl, rfl, rfl, by decide +kernel, rfl, by decide +kernel, by decide +kernel⟩
theorem ok_law {f : Addr} {fd : FuncData} (F : Fun K "law" "law" sLaw f fd) (T : Nat0 mg) (D : D07 P w K mg base fB fT fS fSm fW fNr fEB fCh fWy fA cC cB dB dT dS dSm dW dNr dEB dCh dWy dA) : GnOk P w K mg base 8 f fd ["script"] (spTop K) := by
  refine Fun.okG F scL (fun as H Q E h => ?_) (fun cdv A outer s H as Q E hr hgd h => ?_)
  · obtain ⟨a, ns, rfl, _⟩ := h
    rfl
  · obtain ⟨a, ns, rfl, hS, hl, k⟩ := h
    have hr1 : Room 1 _ := hr.mono (by decide)
    have hr2 : Room 2 _ := hr.mono (by decide)
    have hr3 : Room 3 _ := hr.mono (by decide)
    have hr4 : Room 4 _ := hr.mono (by decide)
    have hr5 : Room 5 _ := hr.mono (by decide)
    have hr7 : Room 7 _ := hr.mono (by decide)
    refine ⟨_, pss_cons (ps_set (i := 1) scL.nd rfl (.inl rfl) (pe_call D.gB hr1 rfl D.mB D.B.kp D.bB .nil pass0 (pa_cons (pv 0) pa_nil)))
      (pss_cons (ps_for PassesOwn.never rfl (pi_range1 (by rfl) T.range (pa_cons pe_int pa_nil)) (pg_name (i := 2) scL.nd rfl (.inl rfl))
      (pss_cons (ps_set (i := 3) scL.nd rfl (.inl rfl) (pe_cut (pe_ifExp (pt_cmpR op_gt (pe_call D.gT hr1 rfl D.mT D.T.kp D.bT .nil pass0 (pa_cons (pv 1) (pa_cons pe_int pa_nil))) pe_int (nomark _)) (pe_call D.gSm hr7 rfl D.mSm D.Sm.kp D.bSm .nil pass0 (pa_cons (pv 1) pa_nil)) (pe_call D.gW hr7 rfl D.mW D.W.kp D.bW .nil pass0 (pa_cons (pv 1) pa_nil)))))
        (pss_cons (ps_set (i := 4) scL.nd rfl (.inl rfl) (pe_cut (pe_ifExp (pt_cmpR op_gt (pe_call D.gT hr1 rfl D.mT D.T.kp D.bT .nil pass0 (pa_cons (pv 1) (pa_cons pe_int pa_nil))) pe_int (nomark _)) (pe_call D.gNr hr3 rfl D.mNr D.Nr.kp D.bNr .nil pass0 (pa_cons (pv 1) (pa_cons (pv 3) pa_nil))) (pe_call D.gSm hr7 rfl D.mSm D.Sm.kp D.bSm .nil pass0 (pa_cons (pv 1) pa_nil)))))
        (pss_cons (ps_set (i := 5) scL.nd rfl (.inl rfl) (pe_call D.gS hr2 rfl D.mS D.S.kp D.bS .nil pass0 (pa_cons (pv 1) (pa_cons (pe_lst (pa_cons (pe_call D.gNr hr3 rfl D.mNr D.Nr.kp D.bNr .nil pass0 (pa_cons (pv 1) (pa_cons (pv 4) pa_nil))) (pa_cons (pv 3) (pa_cons (pe_tup (pa_cons (pe_tup pa_nil) (pa_cons (pe_tup pa_nil) pa_nil))) (pa_cons (pe_call D.gNr hr3 rfl D.mNr D.Nr.kp D.bNr .nil pass0 (pa_cons (pv 1) (pa_cons (pv 3) pa_nil))) pa_nil))))) pa_nil))))
        (pss_cons (ps_for PassesOwn.never rfl (pi_tup (pe_tup (pa_cons (pe_tup (pa_cons (pv 3) (pa_cons (pv 4) pa_nil))) (pa_cons (pe_tup (pa_cons (pv 4) (pa_cons (pv 3) pa_nil))) (pa_cons (pe_tup (pa_cons (pv 4) (pa_cons (pv 5) pa_nil))) (pa_cons (pe_tup (pa_cons (pv 3) (pa_cons (pv 5) pa_nil))) (pa_cons (pe_tup (pa_cons (pv 5) (pa_cons (pv 5) pa_nil))) pa_nil))))))) (pg_tup rfl (pgs_cons (pg_name (i := 6) scL.nd rfl (.inl rfl)) (pgs_cons (pg_name (i := 7) scL.nd rfl (.inl rfl)) pgs_nil))) (pss_one (ps_if (pt_not (pt_val (pe_callG D.gWy hr5 hgd rfl D.mWy D.Wy.kp D.bWy (pa_cons (pv 6) (pa_cons (pv 7) pa_nil))))) (pss_one (ps_ret pe_bl)) pss_nil)))
        (pss_cons (ps_set (i := 8) scL.nd rfl (.inl rfl) (pe_op op_cat (pe_call D.gEB hr2 rfl D.mEB D.EB.kp D.bEB .nil pass0 (pa_cons (pv 3) (pa_cons (pv 4) pa_nil))) (pe_call D.gEB hr2 rfl D.mEB D.EB.kp D.bEB .nil pass0 (pa_cons (pv 4) (pa_cons (pv 5) pa_nil)))))
        (pss_one (ps_if (PW.pt (pw_or (pt_not (pt_val (pe_callG D.gA hr1 hgd rfl D.mA D.A.kp D.bA (pa_cons (pe_call (E := fun _ _ _ => False) D.gCh hr4 rfl D.mCh D.Ch.kp D.bCh .nil passF (pa_cons (pv 3) (pa_cons (pv 8) pa_nil))) (pa_cons (pv 5) pa_nil))))) (pw_or1 (pt_cmpR op_gt (pe_callB call_len_seq (by rfl) T.len PySem.boot_len (pa_cons (pe_call D.gEB hr2 rfl D.mEB D.EB.kp D.bEB .nil pass0 (pa_cons (pv 3) (pa_cons (pv 5) pa_nil))) pa_nil)) (pe_callB call_len_seq (by rfl) T.len PySem.boot_len (pa_cons (pv 8) pa_nil)) (nomark _))))) (pss_one (ps_ret pe_bl)) pss_nil))))))))
      (pss_one (ps_ret pe_bl))), ?_⟩
    refine ⟨_, rfl, a, ns, rfl, hS, hl, fun b H1 hB1 _ _ => ?_⟩
    refine ⟨3, rfl, by decide, by decide, for_range (n := 3) (fun i σ H' => ∃ v2 v3 v4 v5 v6 v7 v8 : Option V, σ = [some (.ref a), some (.ref b), v2, v3, v4, v5, v6, v7, v8] ∧ Bag H' b) ?_ ?_ ?_⟩
    · exact ⟨none, none, none, none, none, none, none, rfl, hB1⟩
    · clear hB1
      rintro i σ H0 hi ⟨v2, v3, v4, v5, v6, v7, v8, rfl, hB⟩
      refine ⟨fun v H' => ∃ (cs : List Cab) (rs : List Car), YG (cs.map ckey) (rs.map (·.1)) cs rs ∧ YardV K (wo H' b) v cs rs ∧ Bag H' b, ?_, ?_⟩
      · refine ⟨_, rfl, b, 3, rfl, hB, by decide, by decide, fun v H2 v0 v1 B2 s2 => ⟨v, 0, rfl, rfl, _, rfl, ?_⟩⟩
        refine ite2 (fun _ => ?_) (fun _ => ?_)
        · exact ⟨_, rfl, b, rfl, B2, fun y cs rs H3 F lc lr VY B3 s3 => ⟨cs, rs, F.yg (by decide) (fun _ h => h) (fun _ h => h), VY, B3⟩⟩
        · exact ⟨_, rfl, b, rfl, B2, fun y cs rs H3 F VY B3 s3 => ⟨cs, rs, F.yg (Int.le_refl _) (fun _ h => h) (fun _ h => h), VY, B3⟩⟩
      rintro y1 H2 ⟨cs1, rs1, G0, V1, B2⟩
      clear hB
      have lc1 := G0.p.lc
      have lr1 := G0.p.lr
      refine ⟨fun v H' => ∃ (cs2 : List Cab) (rs2 : List Car) (U : List (Str × Str)) (Vs : List Str), Lim U Vs ∧ YG U Vs cs1 rs1 ∧ YG U Vs cs2 rs2 ∧ YardV K (wo H' b) y1 cs1 rs1 ∧ YardV K (wo H' b) v cs2 rs2 ∧ Bag H' b, ?_, ?_⟩
      · refine ⟨_, rfl, b, 3, rfl, B2, by decide, by decide, fun v H3 v0 v1 B3 s3 => ⟨v, 0, rfl, rfl, _, rfl, ?_⟩⟩
        have V1 := V1.more s3.1
        refine ite2 (fun _ => ?_) (fun _ => ?_)
        · refine ⟨_, rfl, _, rfl, b, y1, cs1, rs1, rfl, B3, V1, G0.p, fun z cs' rs' H4 s1 s2 b1 b2 VZ B4 s4 => ?_⟩
          exact ⟨cs', rs', cs1.map ckey, rs1.map (·.1), ⟨by rw [List.length_map]; omega, by rw [List.length_map]; omega⟩, G0, G0.near s1 s2 b1 b2, V1.more s4.1, VZ, B4⟩
        · refine ⟨_, rfl, b, rfl, B3, fun y cs rs H4 F lc lr VY B4 s4 => ?_⟩
          exact ⟨cs, rs, cs1.map ckey ++ cs.map ckey, rs1.map (·.1) ++ rs.map (·.1), ⟨by rw [List.length_append, List.length_map, List.length_map]; omega, by rw [List.length_append, List.length_map, List.length_map]; omega⟩,
            ⟨G0.p, G0.csrt, G0.rsrt, fun k hk => List.mem_append_left _ hk, fun n hn => List.mem_append_left _ hn⟩, F.yg (by decide) (fun k hk => List.mem_append_right _ hk) (fun n hn => List.mem_append_right _ hn), V1.more s4.1, VY, B4⟩
      clear V1 B2
      rintro y2 H3 ⟨cs2, rs2, U, Vs, L, G1, G2, V1, V2, B3⟩
      clear G0 H2
      refine ⟨_, rfl, _, rfl, _, rfl, b, y2, cs2, rs2, rfl, B3, V2, G2.p, fun za csa rsa H4 s1 s2 b1 b2 VA B4 s4 => ?_⟩
      have Ga := G2.near s1 s2 b1 b2
      clear s1 s2 b1 b2
      refine ⟨_, rfl, by show 0 ≤ sizeLine; decide, fun t1 h1 => ⟨by show 0 ≤ sizeLine; decide, fun t2 h2 => ⟨by show 2 ≤ sizeLine; decide, fun t3 h3 => ?_⟩⟩⟩
      have q1 := s3u (o := .tup [.ref t1, .ref t2]) h3 (s3u (o := .tup []) h2 (upd_same (H := H4) (a := t1) (o := .tup [])))
      have q2 := s3u (o := .tup [.ref t1, .ref t2]) h3 (upd_same (H := upd H4 t1 (.tup [])) (a := t2) (o := .tup []))
      have q3 := upd_same (H := upd (upd H4 t1 (.tup [])) t2 (.tup [])) (a := t3) (o := .tup [.ref t1, .ref t2])
      have m5 := same_new (o := .tup [.ref t1, .ref t2]) (same_new (o := .tup []) (same_new (o := .tup []) (Same.refl H4) h1) h2) h3
      generalize upd (upd (upd H4 t1 (.tup [])) t2 (.tup [])) t3 (.tup [.ref t1, .ref t2]) = H5 at q1 q2 q3 m5 ⊢
      have B5 := B4.keep m5
      have w5 := s4.1.trans (wo_same m5)
      have VE : YardV K (wo H5 b) (.ref t3) [] [] := ⟨t3, t1, t2, [], [], rfl, sqt_wo' (SqT.of q3) B5, sqt_wo' (SqT.of q1) B5, sqt_wo' (SqT.of q2) B5, .nil, .nil⟩
      clear h1 h2 h3 q1 q2 q3
      refine ⟨_, rfl, _, rfl, b, y1, cs1, rs1, rfl, B5, V1.more w5, G1.p, fun zb csb rsb H6 s1 s2 b1 b2 VB B6 s6 => ?_⟩
      have Gb := G1.near s1 s2 b1 b2
      clear s1 s2 b1 b2
      have w6 := w5.trans s6.1
      refine ⟨by show 4 ≤ sizeLine; decide, fun l hl => ⟨b, l, _, rfl, B6.new hl, sql_new upd_same (B6.ne hl), by simp, by show 4 ≤ 1000000; decide, fun y3 H7 hy B7 s7 => ?_⟩⟩
      have w67 := (wo_same (b := b) (same_new (o := .lst [za, y1, .ref t3, zb]) (Same.refl H6) hl)).trans s7.1
      obtain ⟨cs3, rs3, G3, V3⟩ : ∃ cs3 rs3, YG U Vs cs3 rs3 ∧ YardV K (wo H7 b) y3 cs3 rs3 := by
        simp only [List.mem_cons, List.not_mem_nil, or_false] at hy
        rcases hy with rfl | rfl | rfl | rfl
        · exact ⟨csa, rsa, Ga, ((VA.more (wo_same m5)).more s6.1).more w67⟩
        · exact ⟨cs1, rs1, G1, (V1.more w6).more w67⟩
        · exact ⟨[], [], YG.none U Vs, (VE.more s6.1).more w67⟩
        · exact ⟨csb, rsb, Gb, VB.more w67⟩
      have V1 := ((V1.more w6).more w67).more (wo_sub H7 b)
      have V2 := ((V2.more w6).more w67).more (wo_sub H7 b)
      have V3 := V3.more (wo_sub H7 b)
      clear w6 w67 w5 VA VB VE Ga Gb m5 hy hl s7 s6 s4 B3 B4 B5 B6
      -- the couples
      refine ⟨_, rfl, _, rfl, by show 2 ≤ sizeLine; decide, fun c1 h1 => ⟨_, rfl, _, rfl, by show 2 ≤ sizeLine; decide, fun c2 h2 => ⟨_, rfl, _, rfl, by show 2 ≤ sizeLine; decide, fun c3 h3 => ⟨_, rfl, _, rfl, by show 2 ≤ sizeLine; decide, fun c4 h4 => ⟨_, rfl, _, rfl, by show 2 ≤ sizeLine; decide, fun c5 h5 => ⟨by show 5 ≤ sizeLine; decide, fun t ht => ⟨t, rfl, ⟨_, SqT.of upd_same⟩, ?_⟩⟩⟩⟩⟩⟩⟩
      have a1 := s3u (o := .tup [.ref c1, .ref c2, .ref c3, .ref c4, .ref c5]) ht (s3u (o := .tup [y3, y3]) h5 (s3u (o := .tup [y1, y3]) h4 (s3u (o := .tup [y2, y3]) h3 (s3u (o := .tup [y2, y1]) h2 (upd_same (H := H7) (a := c1) (o := .tup [y1, y2]))))))
      have a2 := s3u (o := .tup [.ref c1, .ref c2, .ref c3, .ref c4, .ref c5]) ht (s3u (o := .tup [y3, y3]) h5 (s3u (o := .tup [y1, y3]) h4 (s3u (o := .tup [y2, y3]) h3 (upd_same (H := upd H7 c1 (.tup [y1, y2])) (a := c2) (o := .tup [y2, y1])))))
      have a3 := s3u (o := .tup [.ref c1, .ref c2, .ref c3, .ref c4, .ref c5]) ht (s3u (o := .tup [y3, y3]) h5 (s3u (o := .tup [y1, y3]) h4 (upd_same (H := upd (upd H7 c1 (.tup [y1, y2])) c2 (.tup [y2, y1])) (a := c3) (o := .tup [y2, y3]))))
      have a4 := s3u (o := .tup [.ref c1, .ref c2, .ref c3, .ref c4, .ref c5]) ht (s3u (o := .tup [y3, y3]) h5 (upd_same (H := upd (upd (upd H7 c1 (.tup [y1, y2])) c2 (.tup [y2, y1])) c3 (.tup [y2, y3])) (a := c4) (o := .tup [y1, y3])))
      have a5 := s3u (o := .tup [.ref c1, .ref c2, .ref c3, .ref c4, .ref c5]) ht (upd_same (H := upd (upd (upd (upd H7 c1 (.tup [y1, y2])) c2 (.tup [y2, y1])) c3 (.tup [y2, y3])) c4 (.tup [y1, y3])) (a := c5) (o := .tup [y3, y3]))
      have at' := upd_same (H := upd (upd (upd (upd (upd H7 c1 (.tup [y1, y2])) c2 (.tup [y2, y1])) c3 (.tup [y2, y3])) c4 (.tup [y1, y3])) c5 (.tup [y3, y3])) (a := t) (o := .tup [.ref c1, .ref c2, .ref c3, .ref c4, .ref c5])
      have M8 : Same H7 (upd (upd (upd (upd (upd (upd H7 c1 (.tup [y1, y2])) c2 (.tup [y2, y1])) c3 (.tup [y2, y3])) c4 (.tup [y1, y3])) c5 (.tup [y3, y3])) t (.tup [.ref c1, .ref c2, .ref c3, .ref c4, .ref c5])) := same_new (same_new (same_new (same_new (same_new (same_new (Same.refl _) h1) h2) h3) h4) h5) ht
      generalize upd (upd (upd (upd (upd (upd H7 c1 (.tup [y1, y2])) c2 (.tup [y2, y1])) c3 (.tup [y2, y3])) c4 (.tup [y1, y3])) c5 (.tup [y3, y3])) t (.tup [.ref c1, .ref c2, .ref c3, .ref c4, .ref c5]) = H8 at a1 a2 a3 a4 a5 at' M8 ⊢
      have V1 := V1.more M8
      have V2 := V2.more M8
      have V3 := V3.more M8
      have B8 := B7.keep M8
      clear h1 h2 h3 h4 h5 ht M8 B7
      have each : ∀ x ∈ [V.ref c1, .ref c2, .ref c3, .ref c4, .ref c5], ∃ (u : Addr) (ya yb : V) (csa csb : List Cab) (rsa rsb : List Car), x = .ref u ∧ H8 u = some (.tup [ya, yb]) ∧ YardV K H8 ya csa rsa ∧ YardV K H8 yb csb rsb ∧ YG U Vs csa rsa ∧ YG U Vs csb rsb := fun x hx => by
        simp only [List.mem_cons, List.not_mem_nil, or_false] at hx
        rcases hx with rfl | rfl | rfl | rfl | rfl
        · exact ⟨c1, y1, y2, _, _, _, _, rfl, a1, V1, V2, G1, G2⟩
        · exact ⟨c2, y2, y1, _, _, _, _, rfl, a2, V2, V1, G2, G1⟩
        · exact ⟨c3, y2, y3, _, _, _, _, rfl, a3, V2, V3, G2, G3⟩
        · exact ⟨c4, y1, y3, _, _, _, _, rfl, a4, V1, V3, G1, G3⟩
        · exact ⟨c5, y3, y3, _, _, _, _, rfl, a5, V3, V3, G3, G3⟩
      refine for_tup (K := K) (a := t) (xs := [V.ref c1, .ref c2, .ref c3, .ref c4, .ref c5]) (fun j σ H' => ∃ v6 v7 : Option V, σ = [some (.ref a), some (.ref b), some (.int (0 + (i : Int))), some y1, some y2, some y3, v6, v7, v8] ∧ Same H8 H') ?_ ?_ ?_ ?_
      · exact ⟨_, _, rfl, Same.refl _⟩
      · rintro j σ H' _ ⟨_, _, _, m⟩
        exact SqT.of (m _ _ at')
      · rintro j x σ H' hx ⟨v6, v7, rfl, m⟩
        obtain ⟨u, ya, yb, csa, csb, rsa, rsb, rfl, hu, VA, VB, GA, GB⟩ := each x (List.mem_of_getElem? hx)
        refine ⟨u, _, rfl, SqT.of (m _ _ hu), rfl, _, _, rfl, _, _, rfl, rfl, ?_⟩
        refine ⟨_, rfl, _, rfl, ya, yb, csa, csb, rsa, rsb, U, Vs, rfl, VA.more m, VB.more m, L, GA, GB, fun H9 m9 => ?_⟩
        refine ⟨_, rfl, ?_⟩
        refine ite2 (fun h => by cases h) (fun _ => ?_)
        exact ⟨_, _, rfl, m.trans m9⟩
      rintro σ H9 ⟨v6, v7, rfl, m9⟩
      have V1 := V1.more m9
      have V2 := V2.more m9
      have V3 := V3.more m9
      have B9 := B8.keep m9
      clear each a1 a2 a3 a4 a5 at' B8 m9
      have T12 := YG.two L G1 G2
      have T23 := YG.two L G2 G3
      have T13 := YG.two L G1 G3
      refine ⟨_, rfl, _, rfl, y1, y2, cs1, cs2, rs1, rs2, rfl, V1, V2, T12, fun p1 xs1 ks1 ns1 HA KA eA PA nA MA => ?_⟩
      refine ⟨_, rfl, _, rfl, y2, y3, cs2, cs3, rs2, rs3, rfl, V2.more MA, V3.more MA, T23, fun p2 xs2 ks2 ns2 HB KB eB PB nB MB => ?_⟩
      have F12 := eds_few KA
      have F23 := eds_few KB
      have Q12 := eds_q KA G1.st G2.st
      have Q23 := eds_q KB G2.st G3.st
      have l12 := KA.len T12
      have l23 := KB.len T23
      have x12 := paired_len PA
      have x23 := paired_len PB
      refine ⟨p1, p2, xs1, xs2, rfl, rfl, MB _ _ eA, eB, Nat.le_of_lt (small1000 (by omega)), fun p3 h3 => ?_⟩
      have MC := same_new (o := .lst (xs1 ++ xs2)) (Same.refl HB) h3
      have eC : upd HB p3 (.lst (xs1 ++ xs2)) p3 = some (.lst (xs1 ++ xs2)) := upd_same
      generalize upd HB p3 (.lst (xs1 ++ xs2)) = HC at MC eC ⊢
      have PC := paired_app7 (paired_imp (fun _ _ h => EdV.more (MB.trans MC) h) PA) (paired_imp (fun _ _ h => EdV.more MC h) PB)
      have M9C := (MA.trans MB).trans MC
      obtain ⟨t2, r1, q2, l2⟩ := F12.run (t1 := (capsOf cs1, rs1)) (fun _ => rfl) G1.st Q12
      obtain ⟨⟨c3', r3'⟩, r2, q3, l3⟩ := F23.run (t1 := t2) l2 q2 Q23
      obtain ⟨z1, z2⟩ := YG.size (s1 := (capsOf cs3, rs3)) (s2 := (capsOf cs3, rs3)) L q3 (fun x hx => G3.ku x (by rwa [capsOf_keys] at hx)) (fun x hx => G3.ku x (by rwa [capsOf_keys] at hx)) G3.nv G3.nv fun κ => .inr (l3 κ)
      refine ⟨_, rfl, _, rfl, y1, p3, _, cs1, rs1, _, 0, rfl, V1.more M9C, .inl (SqL.of eC), PC, G1.p.q 0, fun e he => (List.mem_append.mp he).elim (Q12 e) (Q23 e), by rw [List.length_append]; omega, ?_⟩
      rw [runE_app r1, r2]
      refine ⟨z1, z2, fun y' cs' rs' HD R V' MD => ?_⟩
      obtain ⟨rfl, rfl⟩ := G3.back q3 l3 R
      have fy := fit_yard G3.p
      have fy2 : (yardD cs' rs').shown.length ≤ sizeLine := Nat.le_trans fy.2.1 (by rw [sizeLine_eq]; decide)
      have fy3 : (yardD cs' rs').depth ≤ 60 := Nat.le_trans fy.2.2 (by decide)
      have M9D := M9C.trans MD
      have V3' := V3.more M9D
      refine ⟨_, rfl, y', y3, yardD cs' rs', rfl, .inr ⟨3, by decide, eqs_yard (dat_yard V') (dat_yard V3')⟩, dat_yard V', dat_yard V3', fy.1, fy2, fy3, ?_⟩
      refine ⟨_, rfl, ?_⟩
      refine ite2 (fun h => by cases h) (fun _ => ?_)
      refine ⟨_, rfl, _, rfl, y1, y3, cs1, cs', rs1, rs', rfl, V1.more M9D, V3', T13, fun p4 xs4 ks4 ns4 HE KE eE PE nE ME => ?_⟩
      have F13 := eds_few KE
      have x13 := paired_len PE
      have rd := F12.round F23 F13
      refine ⟨p4, xs4, rfl, .inl (SqL.of eE), _, rfl, p3, _, rfl, .inl (SqL.of (ME _ _ (MD _ _ eC))), _, _, rfl, rfl, _, rfl, ?_⟩
      refine ite2 (fun h => ?_) (fun _ => ?_)
      · have h := of_decide_eq_true h
        rw [List.length_append] at h
        omega
      · exact ⟨_, _, _, _, _, _, _, rfl, B9.keep (M9D.trans ME)⟩
    · rintro σ H2 _
      exact k H2
end
end Y

/-! EXw: what an error class and a constant of the text must say, asked at once. -/
namespace Y
open PySem PySem.Spec PyProof.Rows L2 Ns
def exB (K : PySem.W.Frag) (C : Addr) : Bool :=
  decide (PySem.W.findIn K (.ref C) "__setattr__" = some (some (.builtin "object.__setattr__"))) && (decide (PySem.W.subIn K (.ref C) (.type "BaseException") = some true) && (decide (PySem.W.typeIn K (.ref C) = some (.type "type")) && (PySem.W.keepIn K (.ref C) &&
  (decide (PySem.W.findIn K (.ref C) "__getattribute__" = some (some (.builtin "BaseException.__getattribute__"))) && (decide (PySem.W.findIn K (.ref C) "__getattr__" = some none) && (PySem.W.hasDictIn K C &&
  (decide (PySem.W.findIn K (.ref C) "__class__" = some (some (.builtin "object.__class__"))) && (decide (PySem.W.specialIn K (.builtin "object.__class__") "__get__" = some (some (.builtin "getset_descriptor.__get__"))) &&
  (decide (PySem.W.takesIn K (.builtin "object.__class__") = some true) && decide (PySem.W.mroIn K C (.type "object") = some true))))))))))
structure ExB (K : PySem.W.Frag) (C : Addr) : Prop where
  sa : PySem.W.findIn K (.ref C) "__setattr__" = some (some (.builtin "object.__setattr__"))
  ty : PySem.W.typeIn K (.ref C) = some (.type "type")
  kp : PySem.W.keepIn K (.ref C) = true
  ex : ExcC K C
theorem exB_ok {K : PySem.W.Frag} {C : Addr} (h : exB K C = true) : ExB K C := by
  unfold exB at h
  simp only [Bool.and_eq_true, decide_eq_true_eq] at h
  obtain ⟨h1, h2, h3, h4, h5, h6, h7, h8, h9, h10, h11⟩ := h
  exact ⟨h1, h3, h4, ⟨h5, h6, h2, h7, h8, h9, h10, h11⟩⟩
theorem ExB.xf {K : PySem.W.Frag} {C : Addr} (h : ExB K C) : XfC K C := ⟨h.ex.hg, h.ex.hk, h.ex.hs, h.ex.hd⟩
def strIn (K : PySem.W.Frag) (x z : Str) : Bool := match PySem.W.nsIn K mainGlobals x with
  | some (some (.str y _)) => decide (y = z)
  | _ => false
theorem strIn_ok {K : PySem.W.Frag} {x z : Str} {h : Heap} {mg : Str → Option Value} (X : K.In h) (G : h.Ns mainGlobals mg) (e : strIn K x z = true) : ∃ u, mg x = some u ∧ RelV (.str z) u := by
  unfold strIn at e
  split at e
  · rename_i y t q
    rw [← of_decide_eq_true e]
    exact ⟨_, PySem.W.mg_of X G q, t, rfl⟩
  · cases e
end Y

namespace Y
open PySem PySem.Spec PyProof.Rows L2 Ns
/-- the def's data -/
def fdOf {K : PySem.W.Frag} {x q : Str} {st : Stmt} {f : Addr} {fd : FuncData} (_ : Fun K x q st f fd) : FuncData := fd
set_option maxHeartbeats 4000000 in
theorem all_mk {l : PySem.W.OpenLaw} {w : World} {K : PySem.W.Frag} {h : Heap} {mg : Str → Option Value} {fa : Addr} (X : K.In h) (G : h.Ns mainGlobals mg) (hfa : mg "law" = some (.ref fa))
    {fCh fCC fTB fTC fB fT fS fA fN fNN fZ fC fR fY fSm fW fEB fUK fDu fNr fWy fL cXR cXB wXR wXB : Addr}
    {nmXR qXR : Str} {NXR : Addr} {bsXR bmXR : List Value} {snXR : List Str} {subXR : List Value} {abXR : Bool} {colXR : Option Bool} {ddXR : Option Addr} {m0XR m1XR m2XR m3XR m5XR : Option Value}
    {odiXR aniXR : Option Addr} {sliXR : Array (Option Value)} {ociXR kViXR dciXR pmiXR cdiXR ctiXR : Value}
    {nmXB qXB : Str} {NXB : Addr} {bsXB bmXB : List Value} {snXB : List Str} {subXB : List Value} {abXB : Bool} {colXB : Option Bool} {ddXB : Option Addr} {m0XB m1XB m2XB m3XB m5XB : Option Value}
    {odiXB aniXB : Option Addr} {sliXB : Array (Option Value)} {ociXB kViXB dciXB pmiXB cdiXB ctiXB : Value}
    {oddCh andCh : Option Addr} {sldCh : Array (Option Value)} {ocdCh kVdCh dcdCh pmdCh cddCh ctdCh : Value}
    {oddCC andCC : Option Addr} {sldCC : Array (Option Value)} {ocdCC kVdCC dcdCC pmdCC cddCC ctdCC : Value}
    {oddTB andTB : Option Addr} {sldTB : Array (Option Value)} {ocdTB kVdTB dcdTB pmdTB cddTB ctdTB : Value}
    {oddTC andTC : Option Addr} {sldTC : Array (Option Value)} {ocdTC kVdTC dcdTC pmdTC cddTC ctdTC : Value}
    {oddB andB : Option Addr} {sldB : Array (Option Value)} {ocdB kVdB dcdB pmdB cddB ctdB : Value}
    {oddT andT : Option Addr} {sldT : Array (Option Value)} {ocdT kVdT dcdT pmdT cddT ctdT : Value}
    {oddS andS : Option Addr} {sldS : Array (Option Value)} {ocdS kVdS dcdS pmdS cddS ctdS : Value}
    {oddA andA : Option Addr} {sldA : Array (Option Value)} {ocdA kVdA dcdA pmdA cddA ctdA : Value}
    {oddN andN : Option Addr} {sldN : Array (Option Value)} {ocdN kVdN dcdN pmdN cddN ctdN : Value}
    {oddNN andNN : Option Addr} {sldNN : Array (Option Value)} {ocdNN kVdNN dcdNN pmdNN cddNN ctdNN : Value}
    {oddZ andZ : Option Addr} {sldZ : Array (Option Value)} {ocdZ kVdZ dcdZ pmdZ cddZ ctdZ : Value}
    {oddC andC : Option Addr} {sldC : Array (Option Value)} {ocdC kVdC dcdC pmdC cddC ctdC : Value}
    {oddR andR : Option Addr} {sldR : Array (Option Value)} {ocdR kVdR dcdR pmdR cddR ctdR : Value}
    {oddY andY : Option Addr} {sldY : Array (Option Value)} {ocdY kVdY dcdY pmdY cddY ctdY : Value}
    {oddSm andSm : Option Addr} {sldSm : Array (Option Value)} {ocdSm kVdSm dcdSm pmdSm cddSm ctdSm : Value}
    {oddW andW : Option Addr} {sldW : Array (Option Value)} {ocdW kVdW dcdW pmdW cddW ctdW : Value}
    {oddEB andEB : Option Addr} {sldEB : Array (Option Value)} {ocdEB kVdEB dcdEB pmdEB cddEB ctdEB : Value}
    {oddUK andUK : Option Addr} {sldUK : Array (Option Value)} {ocdUK kVdUK dcdUK pmdUK cddUK ctdUK : Value}
    {oddDu andDu : Option Addr} {sldDu : Array (Option Value)} {ocdDu kVdDu dcdDu pmdDu cddDu ctdDu : Value}
    {oddNr andNr : Option Addr} {sldNr : Array (Option Value)} {ocdNr kVdNr dcdNr pmdNr cddNr ctdNr : Value}
    {oddWy andWy : Option Addr} {sldWy : Array (Option Value)} {ocdWy kVdWy dcdWy pmdWy cddWy ctdWy : Value}
    {oddL andL : Option Addr} {sldL : Array (Option Value)} {ocdL kVdL dcdL pmdL cddL ctdL : Value}
    (adCh : PySem.W.nsIn K mainGlobals "changed" = some (some (.ref fCh)))
    (ldCh : K.lookup fCh = some ⟨ocdCh, oddCh, .func (PySem.W.fnOf "changed" "changed" (defArgs sChanged) (defBody sChanged) (defScope sChanged) .none kVdCh dcdCh pmdCh andCh cddCh ctdCh), sldCh⟩)
    (cdCh : PySem.W.codeIn K cddCh "changed" = true)
    (kdCh : PySem.W.keepIn K (.ref fCh) = true)
    (adCC : PySem.W.nsIn K mainGlobals "_caps_and_cars" = some (some (.ref fCC)))
    (ldCC : K.lookup fCC = some ⟨ocdCC, oddCC, .func (PySem.W.fnOf "_caps_and_cars" "_caps_and_cars" (defArgs sCapsAndCars) (defBody sCapsAndCars) (defScope sCapsAndCars) .none kVdCC dcdCC pmdCC andCC cddCC ctdCC), sldCC⟩)
    (cdCC : PySem.W.codeIn K cddCC "_caps_and_cars" = true)
    (kdCC : PySem.W.keepIn K (.ref fCC) = true)
    (adTB : PySem.W.nsIn K mainGlobals "_take_cable" = some (some (.ref fTB)))
    (ldTB : K.lookup fTB = some ⟨ocdTB, oddTB, .func (PySem.W.fnOf "_take_cable" "_take_cable" (defArgs sTakeCable) (defBody sTakeCable) (defScope sTakeCable) .none kVdTB dcdTB pmdTB andTB cddTB ctdTB), sldTB⟩)
    (cdTB : PySem.W.codeIn K cddTB "_take_cable" = true)
    (kdTB : PySem.W.keepIn K (.ref fTB) = true)
    (adTC : PySem.W.nsIn K mainGlobals "_take_car" = some (some (.ref fTC)))
    (ldTC : K.lookup fTC = some ⟨ocdTC, oddTC, .func (PySem.W.fnOf "_take_car" "_take_car" (defArgs sTakeCar) (defBody sTakeCar) (defScope sTakeCar) .none kVdTC dcdTC pmdTC andTC cddTC ctdTC), sldTC⟩)
    (cdTC : PySem.W.codeIn K cddTC "_take_car" = true)
    (kdTC : PySem.W.keepIn K (.ref fTC) = true)
    (adB : PySem.W.nsIn K mainGlobals "_law_bag" = some (some (.ref fB)))
    (ldB : K.lookup fB = some ⟨ocdB, oddB, .func (PySem.W.fnOf "_law_bag" "_law_bag" (defArgs sBag) (defBody sBag) (defScope sBag) .none kVdB dcdB pmdB andB cddB ctdB), sldB⟩)
    (cdB : PySem.W.codeIn K cddB "_law_bag" = true)
    (kdB : PySem.W.keepIn K (.ref fB) = true)
    (adT : PySem.W.nsIn K mainGlobals "_law_take" = some (some (.ref fT)))
    (ldT : K.lookup fT = some ⟨ocdT, oddT, .func (PySem.W.fnOf "_law_take" "_law_take" (defArgs sTake) (defBody sTake) (defScope sTake) .none kVdT dcdT pmdT andT cddT ctdT), sldT⟩)
    (cdT : PySem.W.codeIn K cddT "_law_take" = true)
    (kdT : PySem.W.keepIn K (.ref fT) = true)
    (adS : PySem.W.nsIn K mainGlobals "_law_some" = some (some (.ref fS)))
    (ldS : K.lookup fS = some ⟨ocdS, oddS, .func (PySem.W.fnOf "_law_some" "_law_some" (defArgs sSome) (defBody sSome) (defScope sSome) .none kVdS dcdS pmdS andS cddS ctdS), sldS⟩)
    (cdS : PySem.W.codeIn K cddS "_law_some" = true)
    (kdS : PySem.W.keepIn K (.ref fS) = true)
    (adA : PySem.W.nsIn K mainGlobals "_law_alike" = some (some (.ref fA)))
    (ldA : K.lookup fA = some ⟨ocdA, oddA, .func (PySem.W.fnOf "_law_alike" "_law_alike" (defArgs sAlike) (defBody sAlike) (defScope sAlike) .none kVdA dcdA pmdA andA cddA ctdA), sldA⟩)
    (cdA : PySem.W.codeIn K cddA "_law_alike" = true)
    (kdA : PySem.W.keepIn K (.ref fA) = true)
    (adN : PySem.W.nsIn K mainGlobals "_law_name" = some (some (.ref fN)))
    (ldN : K.lookup fN = some ⟨ocdN, oddN, .func (PySem.W.fnOf "_law_name" "_law_name" (defArgs sName) (defBody sName) (defScope sName) .none kVdN dcdN pmdN andN cddN ctdN), sldN⟩)
    (cdN : PySem.W.codeIn K cddN "_law_name" = true)
    (kdN : PySem.W.keepIn K (.ref fN) = true)
    (adNN : PySem.W.nsIn K mainGlobals "_law_names" = some (some (.ref fNN)))
    (ldNN : K.lookup fNN = some ⟨ocdNN, oddNN, .func (PySem.W.fnOf "_law_names" "_law_names" (defArgs sNames) (defBody sNames) (defScope sNames) .none kVdNN dcdNN pmdNN andNN cddNN ctdNN), sldNN⟩)
    (cdNN : PySem.W.codeIn K cddNN "_law_names" = true)
    (kdNN : PySem.W.keepIn K (.ref fNN) = true)
    (adZ : PySem.W.nsIn K mainGlobals "_law_size" = some (some (.ref fZ)))
    (ldZ : K.lookup fZ = some ⟨ocdZ, oddZ, .func (PySem.W.fnOf "_law_size" "_law_size" (defArgs sSize) (defBody sSize) (defScope sSize) .none kVdZ dcdZ pmdZ andZ cddZ ctdZ), sldZ⟩)
    (cdZ : PySem.W.codeIn K cddZ "_law_size" = true)
    (kdZ : PySem.W.keepIn K (.ref fZ) = true)
    (adC : PySem.W.nsIn K mainGlobals "_law_cables" = some (some (.ref fC)))
    (ldC : K.lookup fC = some ⟨ocdC, oddC, .func (PySem.W.fnOf "_law_cables" "_law_cables" (defArgs sCables) (defBody sCables) (defScope sCables) .none kVdC dcdC pmdC andC cddC ctdC), sldC⟩)
    (cdC : PySem.W.codeIn K cddC "_law_cables" = true)
    (kdC : PySem.W.keepIn K (.ref fC) = true)
    (adR : PySem.W.nsIn K mainGlobals "_law_cars" = some (some (.ref fR)))
    (ldR : K.lookup fR = some ⟨ocdR, oddR, .func (PySem.W.fnOf "_law_cars" "_law_cars" (defArgs sCars) (defBody sCars) (defScope sCars) .none kVdR dcdR pmdR andR cddR ctdR), sldR⟩)
    (cdR : PySem.W.codeIn K cddR "_law_cars" = true)
    (kdR : PySem.W.keepIn K (.ref fR) = true)
    (adY : PySem.W.nsIn K mainGlobals "_law_yard_of" = some (some (.ref fY)))
    (ldY : K.lookup fY = some ⟨ocdY, oddY, .func (PySem.W.fnOf "_law_yard_of" "_law_yard_of" (defArgs sYardOf) (defBody sYardOf) (defScope sYardOf) .none kVdY dcdY pmdY andY cddY ctdY), sldY⟩)
    (cdY : PySem.W.codeIn K cddY "_law_yard_of" = true)
    (kdY : PySem.W.keepIn K (.ref fY) = true)
    (adSm : PySem.W.nsIn K mainGlobals "_law_small_yard" = some (some (.ref fSm)))
    (ldSm : K.lookup fSm = some ⟨ocdSm, oddSm, .func (PySem.W.fnOf "_law_small_yard" "_law_small_yard" (defArgs sSmall) (defBody sSmall) (defScope sSmall) .none kVdSm dcdSm pmdSm andSm cddSm ctdSm), sldSm⟩)
    (cdSm : PySem.W.codeIn K cddSm "_law_small_yard" = true)
    (kdSm : PySem.W.keepIn K (.ref fSm) = true)
    (adW : PySem.W.nsIn K mainGlobals "_law_wide_yard" = some (some (.ref fW)))
    (ldW : K.lookup fW = some ⟨ocdW, oddW, .func (PySem.W.fnOf "_law_wide_yard" "_law_wide_yard" (defArgs sWide) (defBody sWide) (defScope sWide) .none kVdW dcdW pmdW andW cddW ctdW), sldW⟩)
    (cdW : PySem.W.codeIn K cddW "_law_wide_yard" = true)
    (kdW : PySem.W.keepIn K (.ref fW) = true)
    (adEB : PySem.W.nsIn K mainGlobals "edits_between" = some (some (.ref fEB)))
    (ldEB : K.lookup fEB = some ⟨ocdEB, oddEB, .func (PySem.W.fnOf "edits_between" "edits_between" (defArgs sEditsBetween) (defBody sEditsBetween) (defScope sEditsBetween) .none kVdEB dcdEB pmdEB andEB cddEB ctdEB), sldEB⟩)
    (cdEB : PySem.W.codeIn K cddEB "edits_between" = true)
    (kdEB : PySem.W.keepIn K (.ref fEB) = true)
    (adUK : PySem.W.nsIn K mainGlobals "_unlike_keys" = some (some (.ref fUK)))
    (ldUK : K.lookup fUK = some ⟨ocdUK, oddUK, .func (PySem.W.fnOf "_unlike_keys" "_unlike_keys" (defArgs sUnlikeKeys) (defBody sUnlikeKeys) (defScope sUnlikeKeys) .none kVdUK dcdUK pmdUK andUK cddUK ctdUK), sldUK⟩)
    (cdUK : PySem.W.codeIn K cddUK "_unlike_keys" = true)
    (kdUK : PySem.W.keepIn K (.ref fUK) = true)
    (adDu : PySem.W.nsIn K mainGlobals "_law_due" = some (some (.ref fDu)))
    (ldDu : K.lookup fDu = some ⟨ocdDu, oddDu, .func (PySem.W.fnOf "_law_due" "_law_due" (defArgs sDue) (defBody sDue) (defScope sDue) .none kVdDu dcdDu pmdDu andDu cddDu ctdDu), sldDu⟩)
    (cdDu : PySem.W.codeIn K cddDu "_law_due" = true)
    (kdDu : PySem.W.keepIn K (.ref fDu) = true)
    (adNr : PySem.W.nsIn K mainGlobals "_law_near" = some (some (.ref fNr)))
    (ldNr : K.lookup fNr = some ⟨ocdNr, oddNr, .func (PySem.W.fnOf "_law_near" "_law_near" (defArgs sNear) (defBody sNear) (defScope sNear) .none kVdNr dcdNr pmdNr andNr cddNr ctdNr), sldNr⟩)
    (cdNr : PySem.W.codeIn K cddNr "_law_near" = true)
    (kdNr : PySem.W.keepIn K (.ref fNr) = true)
    (adWy : PySem.W.nsIn K mainGlobals "_law_is_way_right" = some (some (.ref fWy)))
    (ldWy : K.lookup fWy = some ⟨ocdWy, oddWy, .func (PySem.W.fnOf "_law_is_way_right" "_law_is_way_right" (defArgs sIsWayRight) (defBody sIsWayRight) (defScope sIsWayRight) .none kVdWy dcdWy pmdWy andWy cddWy ctdWy), sldWy⟩)
    (cdWy : PySem.W.codeIn K cddWy "_law_is_way_right" = true)
    (kdWy : PySem.W.keepIn K (.ref fWy) = true)
    (adL : PySem.W.nsIn K mainGlobals "law" = some (some (.ref fL)))
    (ldL : K.lookup fL = some ⟨ocdL, oddL, .func (PySem.W.fnOf "law" "law" (defArgs sLaw) (defBody sLaw) (defScope sLaw) .none kVdL dcdL pmdL andL cddL ctdL), sldL⟩)
    (cdL : PySem.W.codeIn K cddL "law" = true)
    (kdL : PySem.W.keepIn K (.ref fL) = true)
    (eaXR : PySem.W.nsIn K mainGlobals "NoCar" = some (some (.ref cXR)))
    (exXR : K.lookup cXR = some (excClassObj nmXR qXR cXR NXR bsXR bmXR true snXR subXR abXR colXR ddXR m0XR m1XR m2XR m3XR m5XR "ValueError.__new__"))
    (erXR : PySem.HandSPX.refsVE bmXR = true)
    (eiXR : PySem.W.findIn K (.ref cXR) "__init__" = some (some (.ref wXR)))
    (etXR : PySem.W.typeIn K (.ref wXR) = some (.type "function"))
    (elXR : K.lookup wXR = some ⟨ociXR, odiXR, .func (PySem.W.fnOf "__init__" "NoCar.__init__" (defArgs sNoCar) (defBody sNoCar) (defScope sNoCar) .none kViXR dciXR pmiXR aniXR cdiXR ctiXR), sliXR⟩)
    (ecXR : PySem.W.codeIn K cdiXR "NoCar.__init__" = true)
    (ekXR : PySem.W.keepIn K (.ref wXR) = true)
    (enXR_name : PySem.W.findIn K (.ref cXR) "name" = some none)
    (ebXR : exB K cXR = true)
    (eaXB : PySem.W.nsIn K mainGlobals "NoCable" = some (some (.ref cXB)))
    (exXB : K.lookup cXB = some (excClassObj nmXB qXB cXB NXB bsXB bmXB true snXB subXB abXB colXB ddXB m0XB m1XB m2XB m3XB m5XB "ValueError.__new__"))
    (erXB : PySem.HandSPX.refsVE bmXB = true)
    (eiXB : PySem.W.findIn K (.ref cXB) "__init__" = some (some (.ref wXB)))
    (etXB : PySem.W.typeIn K (.ref wXB) = some (.type "function"))
    (elXB : K.lookup wXB = some ⟨ociXB, odiXB, .func (PySem.W.fnOf "__init__" "NoCable.__init__" (defArgs sNoCable) (defBody sNoCable) (defScope sNoCable) .none kViXB dciXB pmiXB aniXB cdiXB ctiXB), sliXB⟩)
    (ecXB : PySem.W.codeIn K cdiXB "NoCable.__init__" = true)
    (ekXB : PySem.W.keepIn K (.ref wXB) = true)
    (enXB_start : PySem.W.findIn K (.ref cXB) "start" = some none)
    (enXB_end : PySem.W.findIn K (.ref cXB) "end" = some none)
    (ebXB : exB K cXB = true)
    (zabs : PySem.W.nsIn K mainGlobals "abs" = some none)
    (zint : PySem.W.nsIn K mainGlobals "int" = some none)
    (zlen : PySem.W.nsIn K mainGlobals "len" = some none)
    (zrepr : PySem.W.nsIn K mainGlobals "repr" = some none)
    (zisinstance : PySem.W.nsIn K mainGlobals "isinstance" = some none)
    (zrange : PySem.W.nsIn K mainGlobals "range" = some none)
    (zsorted : PySem.W.nsIn K mainGlobals "sorted" = some none)
    (ztuple : PySem.W.nsIn K mainGlobals "tuple" = some none)
    (zlist : PySem.W.nsIn K mainGlobals "list" = some none)
    (zdict : PySem.W.nsIn K mainGlobals "dict" = some none)
    (zset : PySem.W.nsIn K mainGlobals "set" = some none)
    (zsum : PySem.W.nsIn K mainGlobals "sum" = some none)
    (zmax : PySem.W.nsIn K mainGlobals "max" = some none)
    (zmin : PySem.W.nsIn K mainGlobals "min" = some none)
    (zstr : PySem.W.nsIn K mainGlobals "str" = some none)
    (zall : PySem.W.nsIn K mainGlobals "all" = some none)
    (zany : PySem.W.nsIn K mainGlobals "any" = some none)
    (zzip : PySem.W.nsIn K mainGlobals "zip" = some none) :
    ∃ fd : FuncData, (∀ (s : Shared) (v : Value), BindsTo s fd ⟨[v], []⟩ [("script", v)]) ∧ ∀ base : Heap, K.In base → base.Ns mainGlobals mg → GnOk l.prog w K mg base 8 fa fd ["script"] (spTop K) := by
  have e := hfa.symm.trans (PySem.W.mg_of X G adL)
  cases e
  have T : Nat0 mg := ⟨PySem.W.mg_none_of X G zabs, PySem.W.mg_none_of X G zint, PySem.W.mg_none_of X G zlen, PySem.W.mg_none_of X G zrepr, PySem.W.mg_none_of X G zisinstance, PySem.W.mg_none_of X G zrange, PySem.W.mg_none_of X G zsorted, PySem.W.mg_none_of X G ztuple, PySem.W.mg_none_of X G zlist, PySem.W.mg_none_of X G zdict, PySem.W.mg_none_of X G zset, PySem.W.mg_none_of X G zsum, PySem.W.mg_none_of X G zmax, PySem.W.mg_none_of X G zmin, PySem.W.mg_none_of X G zstr, PySem.W.mg_none_of X G zall, PySem.W.mg_none_of X G zany, PySem.W.mg_none_of X G zzip⟩
  have FCh := fun_mk (st := sChanged) ldCh cdCh kdCh
  have bCh := FCh.binds (ps := ["yard", "edits"]) fun _ _ _ _ _ _ us hl => match us, hl with | [_, _], _ => rfl
  have mCh := PySem.W.mg_of X G adCh
  have FCC := fun_mk (st := sCapsAndCars) ldCC cdCC kdCC
  have bCC := FCC.binds (ps := ["yard"]) fun _ _ _ _ _ _ us hl => match us, hl with | [_], _ => rfl
  have mCC := PySem.W.mg_of X G adCC
  have FTB := fun_mk (st := sTakeCable) ldTB cdTB kdTB
  have bTB := FTB.binds (ps := ["caps", "start", "end"]) fun _ _ _ _ _ _ us hl => match us, hl with | [_, _, _], _ => rfl
  have mTB := PySem.W.mg_of X G adTB
  have FTC := fun_mk (st := sTakeCar) ldTC cdTC kdTC
  have bTC := FTC.binds (ps := ["cars", "name"]) fun _ _ _ _ _ _ us hl => match us, hl with | [_, _], _ => rfl
  have mTC := PySem.W.mg_of X G adTC
  have FB := fun_mk (st := sBag) ldB cdB kdB
  have bB := FB.binds (ps := ["script"]) fun _ _ _ _ _ _ us hl => match us, hl with | [_], _ => rfl
  have mB := PySem.W.mg_of X G adB
  have FT := fun_mk (st := sTake) ldT cdT kdT
  have bT := FT.binds (ps := ["bag", "many"]) fun _ _ _ _ _ _ us hl => match us, hl with | [_, _], _ => rfl
  have mT := PySem.W.mg_of X G adT
  have FS := fun_mk (st := sSome) ldS cdS kdS
  have bS := FS.binds (ps := ["bag", "things"]) fun _ _ _ _ _ _ us hl => match us, hl with | [_, _], _ => rfl
  have mS := PySem.W.mg_of X G adS
  have FA := fun_mk (st := sAlike) ldA cdA kdA
  have bA := FA.binds (ps := ["found", "due"]) fun _ _ _ _ _ _ us hl => match us, hl with | [_, _], _ => rfl
  have mA := PySem.W.mg_of X G adA
  have FN := fun_mk (st := sName) ldN cdN kdN
  have bN := FN.binds (ps := ["bag", "taken"]) fun _ _ _ _ _ _ us hl => match us, hl with | [_, _], _ => rfl
  have mN := PySem.W.mg_of X G adN
  have FNN := fun_mk (st := sNames) ldNN cdNN kdNN
  have bNN := FNN.binds (ps := ["bag", "many", "taken"]) fun _ _ _ _ _ _ us hl => match us, hl with | [_, _, _], _ => rfl
  have mNN := PySem.W.mg_of X G adNN
  have FZ := fun_mk (st := sSize) ldZ cdZ kdZ
  have bZ := FZ.binds (ps := ["bag", "most"]) fun _ _ _ _ _ _ us hl => match us, hl with | [_, _], _ => rfl
  have mZ := PySem.W.mg_of X G adZ
  have FC := fun_mk (st := sCables) ldC cdC kdC
  have bC := FC.binds (ps := ["bag", "knots", "many", "most"]) fun _ _ _ _ _ _ us hl => match us, hl with | [_, _, _, _], _ => rfl
  have mC := PySem.W.mg_of X G adC
  have FR := fun_mk (st := sCars) ldR cdR kdR
  have bR := FR.binds (ps := ["bag", "names", "knots", "most"]) fun _ _ _ _ _ _ us hl => match us, hl with | [_, _, _, _], _ => rfl
  have mR := PySem.W.mg_of X G adR
  have FY := fun_mk (st := sYardOf) ldY cdY kdY
  have bY := FY.binds (ps := ["bag", "cars", "knots", "cables", "most"]) fun _ _ _ _ _ _ us hl => match us, hl with | [_, _, _, _, _], _ => rfl
  have mY := PySem.W.mg_of X G adY
  have FSm := fun_mk (st := sSmall) ldSm cdSm kdSm
  have bSm := FSm.binds (ps := ["bag"]) fun _ _ _ _ _ _ us hl => match us, hl with | [_], _ => rfl
  have mSm := PySem.W.mg_of X G adSm
  have FW := fun_mk (st := sWide) ldW cdW kdW
  have bW := FW.binds (ps := ["bag"]) fun _ _ _ _ _ _ us hl => match us, hl with | [_], _ => rfl
  have mW := PySem.W.mg_of X G adW
  have FEB := fun_mk (st := sEditsBetween) ldEB cdEB kdEB
  have bEB := FEB.binds (ps := ["one", "other"]) fun _ _ _ _ _ _ us hl => match us, hl with | [_, _], _ => rfl
  have mEB := PySem.W.mg_of X G adEB
  have FUK := fun_mk (st := sUnlikeKeys) ldUK cdUK kdUK
  have bUK := FUK.binds (ps := ["one", "other"]) fun _ _ _ _ _ _ us hl => match us, hl with | [_, _], _ => rfl
  have mUK := PySem.W.mg_of X G adUK
  have FDu := fun_mk (st := sDue) ldDu cdDu kdDu
  have bDu := FDu.binds (ps := ["one", "other"]) fun _ _ _ _ _ _ us hl => match us, hl with | [_, _], _ => rfl
  have mDu := PySem.W.mg_of X G adDu
  have FNr := fun_mk (st := sNear) ldNr cdNr kdNr
  have bNr := FNr.binds (ps := ["bag", "yard"]) fun _ _ _ _ _ _ us hl => match us, hl with | [_, _], _ => rfl
  have mNr := PySem.W.mg_of X G adNr
  have FWy := fun_mk (st := sIsWayRight) ldWy cdWy kdWy
  have bWy := FWy.binds (ps := ["one", "other"]) fun _ _ _ _ _ _ us hl => match us, hl with | [_, _], _ => rfl
  have mWy := PySem.W.mg_of X G adWy
  have FL := fun_mk (st := sLaw) ldL cdL kdL
  have FXR := fun_mk (st := sNoCar) elXR ecXR ekXR
  have yXR := exB_ok ebXR
  have EXR : ErI K mg "NoCar" "NoCar.__init__" sNoCar ["self", "name"] cXR wXR _ := { oex := ⟨⟨nmXR, qXR, NXR, bsXR, bmXR, snXR, subXR, abXR, colXR, ddXR, m0XR, m1XR, m2XR, m3XR, m5XR, exXR, erXR⟩, yXR.sa, yXR.ex.hs, yXR.ty, yXR.kp⟩, xf := yXR.xf, g := PySem.W.mg_of X G eaXR, iC := eiXR, tI := etXR, F := FXR, b := FXR.binds (ps := ["self", "name"]) fun _ _ _ _ _ _ us hl => match us, hl with | [_, _], _ => rfl }
  have FXB := fun_mk (st := sNoCable) elXB ecXB ekXB
  have yXB := exB_ok ebXB
  have EXB : ErI K mg "NoCable" "NoCable.__init__" sNoCable ["self", "start", "end"] cXB wXB _ := { oex := ⟨⟨nmXB, qXB, NXB, bsXB, bmXB, snXB, subXB, abXB, colXB, ddXB, m0XB, m1XB, m2XB, m3XB, m5XB, exXB, erXB⟩, yXB.sa, yXB.ex.hs, yXB.ty, yXB.kp⟩, xf := yXB.xf, g := PySem.W.mg_of X G eaXB, iC := eiXB, tI := etXB, F := FXB, b := FXB.binds (ps := ["self", "start", "end"]) fun _ _ _ _ _ _ us hl => match us, hl with | [_, _, _], _ => rfl }
  exact ⟨_, fun s v => .of_eq rfl, fun base _ _ =>
    have gCC : FnOk l.prog w K mg base CX0 1 fCC _ ["yard"] (spCaps K) := ok_caps FCC
    have gTB : FnOk l.prog w K mg base (L2.CX l.prog w) 3 fTB _ ["caps", "start", "end"] (spTakeB cXR cXB) := ok_takeB FTB EXB enXB_start enXB_end
    have gTC : FnOk l.prog w K mg base (L2.CX l.prog w) 3 fTC _ ["cars", "name"] (spTakeC cXR cXB) := ok_takeC FTC EXR enXR_name
    have gCh : FnOk l.prog w K mg base (L2.CX l.prog w) 4 fCh _ ["yard", "edits"] (spChanged K cXR cXB) := ok_changed FCh T gCC FCC mCC bCC gTB FTB mTB bTB gTC FTC mTC bTC
    have gS : FnOk l.prog w K mg base CX0 2 fS _ ["bag", "things"] (spSome K) := ok_some FS T FT mT bT
    have gN : FnOk l.prog w K mg base CX0 3 fN _ ["bag", "taken"] (spName K) := ok_name FN T FT mT bT FS mS bS
    have gNN : FnOk l.prog w K mg base CX0 4 fNN _ ["bag", "many", "taken"] (spNames K) := ok_names FNN T gN FN mN bN
    have gZ : FnOk l.prog w K mg base CX0 3 fZ _ ["bag", "most"] spSize := ok_size FZ T FT mT bT FS mS bS
    have gC : FnOk l.prog w K mg base CX0 4 fC _ ["bag", "knots", "many", "most"] (spCables K) := ok_cables FC T FT mT bT FS mS bS gZ FZ mZ bZ
    have gR : FnOk l.prog w K mg base CX0 4 fR _ ["bag", "names", "knots", "most"] (spCars K) := ok_cars FR T FT mT bT FS mS bS gZ FZ mZ bZ
    have Gg : Gen l.prog w K mg base fT fS fN fNN fC fR _ _ (fdOf FN) _ _ _ := { T := FT, mT := mT, bT := bT, S := FS, mS := mS, bS := bS, N := FNN, mN := mNN, bN := bNN, gN := gNN, C := FC, mC := mC, bC := bC, gC := gC.mono (by decide), R := FR, mR := mR, bR := bR, gR := gR.mono (by decide) }
    have gSm : FnOk l.prog w K mg base CX0 7 fSm _ ["bag"] (spYardS K) := ok_small2 FSm T Gg FY mY bY
    have gW : FnOk l.prog w K mg base CX0 7 fW _ ["bag"] (spYard K (10 ^ 12)) := ok_wide FW T Gg FY mY bY
    have gUC : FnOk l.prog w K mg base CX0 1 fUK _ ["one", "other"] (spUnC K) := ok_unC FUK T
    have gUN : FnOk l.prog w K mg base CX0 1 fUK _ ["one", "other"] (spUnN K) := ok_unN FUK T
    have gEB : FnOk l.prog w K mg base CX0 2 fEB _ ["one", "other"] (spBetw K) := ok_between FEB T gCC FCC mCC bCC gUC gUN FUK mUK bUK
    have gDu : FnOk l.prog w K mg base CX0 1 fDu _ ["one", "other"] (spBetw K) := ok_due FDu T
    have gNr : FnOk l.prog w K mg base CX0 3 fNr _ ["bag", "yard"] (spNear7 K) := ok_near7 FNr T FT mT bT FS mS bS
    have gWy : GnOk l.prog w K mg base 5 fWy _ ["one", "other"] (spWay K) := ok_way FWy T gDu FDu mDu bDu gEB FEB mEB bEB gCh FCh mCh bCh (ok_alike FA T) FA mA bA
    have D : D07 l.prog w K mg base fB fT fS fSm fW fNr fEB fCh fWy fA cXR cXB _ _ _ _ _ _ _ _ _ _ := { B := FB, mB := mB, bB := bB, gB := ok_bag FB T, T := FT, mT := mT, bT := bT, gT := ok_take FT T, S := FS, mS := mS, bS := bS, gS := gS, Sm := FSm, mSm := mSm, bSm := bSm, gSm := gSm, W := FW, mW := mW, bW := bW, gW := gW, Nr := FNr, mNr := mNr, bNr := bNr, gNr := gNr, EB := FEB, mEB := mEB, bEB := bEB, gEB := gEB, Ch := FCh, mCh := mCh, bCh := bCh, gCh := gCh, Wy := FWy, mWy := mWy, bWy := bWy, gWy := gWy, A := FA, mA := mA, bA := bA, gA := ok_alike FA T }
    ok_law FL T D⟩
end Y
open PySem PySem.W PyProof.Rows in
set_option maxRecDepth 100000 in
set_option maxHeartbeats 0 in
theorem PySem.Challenge.cw_nightstairs_k07_whole_edits_there_and_ba_holds : PySem.Challenge.rw_nightstairs_k07_whole_edits_there_and_ba.Holds := by
  w_on; o_law; k_head; (case hw => w_witness2)
  k_fill
  refine Ns.walk_ofG (l := PySem.Challenge.rw_nightstairs_k07_whole_edits_there_and_ba) (k := 8) rfl rfl ⟨rfl, by decide, by decide⟩ (fun w h Y => PySem.W.kIn_of Y) ?F
  case F =>
    intro w mg fa h KX G hmg
    refine' Y.all_mk KX G hmg ?adCh ?ldCh ?cdCh ?kdCh ?adCC ?ldCC ?cdCC ?kdCC ?adTB ?ldTB ?cdTB ?kdTB ?adTC ?ldTC ?cdTC ?kdTC ?adB ?ldB ?cdB ?kdB ?adT ?ldT ?cdT ?kdT ?adS ?ldS ?cdS ?kdS ?adA ?ldA ?cdA ?kdA ?adN ?ldN ?cdN ?kdN ?adNN ?ldNN ?cdNN ?kdNN ?adZ ?ldZ ?cdZ ?kdZ ?adC ?ldC ?cdC ?kdC ?adR ?ldR ?cdR ?kdR ?adY ?ldY ?cdY ?kdY ?adSm ?ldSm ?cdSm ?kdSm ?adW ?ldW ?cdW ?kdW ?adEB ?ldEB ?cdEB ?kdEB ?adUK ?ldUK ?cdUK ?kdUK ?adDu ?ldDu ?cdDu ?kdDu ?adNr ?ldNr ?cdNr ?kdNr ?adWy ?ldWy ?cdWy ?kdWy ?adL ?ldL ?cdL ?kdL ?eaXR ?exXR ?erXR ?eiXR ?etXR ?elXR ?ecXR ?ekXR ?enXR_name ?ebXR ?eaXB ?exXB ?erXB ?eiXB ?etXB ?elXB ?ecXB ?ekXB ?enXB_start ?enXB_end ?ebXB ?zabs ?zint ?zlen ?zrepr ?zisinstance ?zrange ?zsorted ?ztuple ?zlist ?zdict ?zset ?zsum ?zmax ?zmin ?zstr ?zall ?zany ?zzip
    (case adCh => k_is)
    (case ldCh => k_is)
    (case cdCh => k_is)
    (case kdCh => k_is)
    (case adCC => k_is)
    (case ldCC => k_is)
    (case cdCC => k_is)
    (case kdCC => k_is)
    (case adTB => k_is)
    (case ldTB => k_is)
    (case cdTB => k_is)
    (case kdTB => k_is)
    (case adTC => k_is)
    (case ldTC => k_is)
    (case cdTC => k_is)
    (case kdTC => k_is)
    (case adB => k_is)
    (case ldB => k_is)
    (case cdB => k_is)
    (case kdB => k_is)
    (case adT => k_is)
    (case ldT => k_is)
    (case cdT => k_is)
    (case kdT => k_is)
    (case adS => k_is)
    (case ldS => k_is)
    (case cdS => k_is)
    (case kdS => k_is)
    (case adA => k_is)
    (case ldA => k_is)
    (case cdA => k_is)
    (case kdA => k_is)
    (case adN => k_is)
    (case ldN => k_is)
    (case cdN => k_is)
    (case kdN => k_is)
    (case adNN => k_is)
    (case ldNN => k_is)
    (case cdNN => k_is)
    (case kdNN => k_is)
    (case adZ => k_is)
    (case ldZ => k_is)
    (case cdZ => k_is)
    (case kdZ => k_is)
    (case adC => k_is)
    (case ldC => k_is)
    (case cdC => k_is)
    (case kdC => k_is)
    (case adR => k_is)
    (case ldR => k_is)
    (case cdR => k_is)
    (case kdR => k_is)
    (case adY => k_is)
    (case ldY => k_is)
    (case cdY => k_is)
    (case kdY => k_is)
    (case adSm => k_is)
    (case ldSm => k_is)
    (case cdSm => k_is)
    (case kdSm => k_is)
    (case adW => k_is)
    (case ldW => k_is)
    (case cdW => k_is)
    (case kdW => k_is)
    (case adEB => k_is)
    (case ldEB => k_is)
    (case cdEB => k_is)
    (case kdEB => k_is)
    (case adUK => k_is)
    (case ldUK => k_is)
    (case cdUK => k_is)
    (case kdUK => k_is)
    (case adDu => k_is)
    (case ldDu => k_is)
    (case cdDu => k_is)
    (case kdDu => k_is)
    (case adNr => k_is)
    (case ldNr => k_is)
    (case cdNr => k_is)
    (case kdNr => k_is)
    (case adWy => k_is)
    (case ldWy => k_is)
    (case cdWy => k_is)
    (case kdWy => k_is)
    (case adL => k_is)
    (case ldL => k_is)
    (case cdL => k_is)
    (case kdL => k_is)
    (case eaXR => k_is)
    (case exXR => k_is)
    (case erXR => kernel_rfl)
    (case eiXR => k_is)
    (case etXR => k_is)
    (case elXR => k_is)
    (case ecXR => k_is)
    (case ekXR => k_is)
    (case enXR_name => k_is)
    (case ebXR => kernel_rfl)
    (case eaXB => k_is)
    (case exXB => k_is)
    (case erXB => kernel_rfl)
    (case eiXB => k_is)
    (case etXB => k_is)
    (case elXB => k_is)
    (case ecXB => k_is)
    (case ekXB => k_is)
    (case enXB_start => k_is)
    (case enXB_end => k_is)
    (case ebXB => kernel_rfl)
    (case zabs => k_is)
    (case zint => k_is)
    (case zlen => k_is)
    (case zrepr => k_is)
    (case zisinstance => k_is)
    (case zrange => k_is)
    (case zsorted => k_is)
    (case ztuple => k_is)
    (case zlist => k_is)
    (case zdict => k_is)
    (case zset => k_is)
    (case zsum => k_is)
    (case zmax => k_is)
    (case zmin => k_is)
    (case zstr => k_is)
    (case zall => k_is)
    (case zany => k_is)
    (case zzip => k_is)

