import PyProof.Rows.All
import Wide.All
import OpenK.AllK
import Wide.FinOn
import PyProof.ReprRoads
import HandS.ForMost
import HandS.DeepEq
import HandS.Ends
import HandS.Wide
import HandS.Codes
import KE.KEqNest
import HandS.IsInst
import HandS.TupAny
import HandS.Conv
import KE.SortData
import HandS.DictTup
import PyProof.DictUpdate
import KE.KItemsList
import KE.KDictSum
import HandS.Strs
import HandS.SetFor
import HandS.SortInts
import KE.GoesMore
import KE.GoesEnum
import HandS.Iter
import HandS.Walk
import KE.GoesNew
import HandS.Zip
import HandS.Sort
import PyProof.SumWalkG
import HandS.TupMul
import HandS.More
import HandS.Text
import HandS.TupLen
import PyProof.EqKinds
import PyProof.IsiFacts
import PyProof.FactsAll.dict_1
import HandS.Steps
import HandS.SetTxt0
import HandS.Set
import HandS.SetKeys
import HandS.TupSets
import KE.LtData
import HandS.DictComp
import HandS.Style
import PySem.Challenge.RW_nightstairs_k02_whole_yards_of_any_value
set_option Elab.async false
set_option linter.all false
set_option maxRecDepth 100000
set_option pp.maxSteps 150
set_option pp.deepTerms false
set_option maxHeartbeats 8000000
/-! NsA: data as a whole over the abstract heap; its repr; its ==. -/
namespace Ns
open PySem PySem.Spec PyProof.Rows L2

/-- a key as data -/
def kD : Key → PyData
  | .inl i => .int i
  | .inr x => .str x

mutual
/-- the value x is the datum d -/
inductive DatV (K : PySem.W.Frag) (H : Hp) : V → PyData → Prop
  | non : DatV K H .non .none
  | bl (b : Bool) : DatV K H (.bl b) (.bool b)
  | int (i : Int) : DatV K H (.int i) (.int i)
  | str (x : Str) : DatV K H (.str x) (.str x)
  | lst {a : Addr} {xs : List V} {ds : List PyData} : SqL K H a xs → DatA K H xs ds → DatV K H (.ref a) (.list ds)
  | tup {a : Addr} {xs : List V} {ds : List PyData} : SqT K H a xs → DatA K H xs ds → DatV K H (.ref a) (.tuple ds)
  | dic {a : Addr} {kvs : List (Key × V)} {ds : List PyData} : H a = some (.dK kvs) → DatA K H (kvs.map (·.2)) ds → DatV K H (.ref a) (.dict ((kvs.map fun p => kD p.1).zip ds))
inductive DatA (K : PySem.W.Frag) (H : Hp) : List V → List PyData → Prop
  | nil : DatA K H [] []
  | cons {x : V} {d : PyData} {xs : List V} {ds : List PyData} : DatV K H x d → DatA K H xs ds → DatA K H (x :: xs) (d :: ds)
end

theorem DatA.len {K : PySem.W.Frag} {H : Hp} : ∀ {xs : List V} {ds : List PyData}, DatA K H xs ds → xs.length = ds.length
  | _, _, .nil => rfl
  | _, _, .cons _ t => by rw [List.length_cons, List.length_cons, t.len]

mutual
/-- what stood stands: the datum too -/
theorem DatV.more {K : PySem.W.Frag} {H H' : Hp} (m : Same H H') : ∀ {x : V} {d : PyData}, DatV K H x d → DatV K H' x d
  | _, _, .non => .non
  | _, _, .bl b => .bl b
  | _, _, .int i => .int i
  | _, _, .str x => .str x
  | _, _, .lst h t => .lst (m.seq h) (t.more m)
  | _, _, .tup h t => .tup (h.elim (fun z => .inl (z.elim (fun z => .inl (m _ _ z)) fun ⟨o, z⟩ => .inr ⟨o, m _ _ z⟩)) .inr) (t.more m)
  | _, _, .dic h t => .dic (m _ _ h) (t.more m)
theorem DatA.more {K : PySem.W.Frag} {H H' : Hp} (m : Same H H') : ∀ {xs : List V} {ds : List PyData}, DatA K H xs ds → DatA K H' xs ds
  | _, _, .nil => .nil
  | _, _, .cons h t => .cons (h.more m) (t.more m)
end

theorem map_fst_zip {α β : Type} : ∀ {as : List α} {bs : List β}, as.length = bs.length → (as.zip bs).map (·.1) = as
  | [], [], _ => rfl
  | a :: as, b :: bs, h => by
    have h' : as.length = bs.length := by simpa using h
    simp [map_fst_zip h']
theorem map_snd_zip {α β : Type} : ∀ {as : List α} {bs : List β}, as.length = bs.length → (as.zip bs).map (·.2) = bs
  | [], [], _ => rfl
  | a :: as, b :: bs, h => by
    have h' : as.length = bs.length := by simpa using h
    simp [map_snd_zip h']

section
variable {X : Cx} {pins : List (Addr × Obj)} {σ : L2.St} {H : Hp} {s : Shared}

/-- the keys of a dict's entries are read -/
theorem keys_read {h : Heap} {P : Program} {w : World} : ∀ {es : List DictEntry} {vs : List (Key × Value)}, Pairs (mixKind P w) es vs → ReadsAll h (es.map (·.key)) (vs.map fun p => kD p.1) []
  | _, _, .nil => .nil
  | e :: es, kv :: vs, .cons h1 _ t => by
    have q : Reads h e.key (kD kv.1) [] := by
      rcases keyIs_shape (show keyIs kv.1 e.key = true from h1) with ⟨i, t, ek, ev⟩ | ⟨x, t, ek, ev⟩
      · rw [ek, ev]; exact .int i t
      · rw [ek, ev]; exact .str x t
    exact ReadsAll.cons (as := []) (bs := []) q (keys_read t)
theorem pairs_vals {P : Program} {w : World} : ∀ {es : List DictEntry} {vs : List (Key × Value)}, Pairs (mixKind P w) es vs → es.map (·.val) = vs.map (·.2)
  | _, _, .nil => rfl
  | e :: es, kv :: vs, .cons _ h2 t => by
    rw [List.map_cons, List.map_cons, h2, pairs_vals t]
theorem kv_fst : ∀ {ks : List (Key × V)} {vs : List (Key × Value)}, KV ks vs → vs.map (fun p => kD p.1) = ks.map fun p => kD p.1
  | _, _, .nil => rfl
  | _, _, .cons h t => by rw [List.map_cons, List.map_cons, h.1, kv_fst t]
theorem kv_vals : ∀ {ks : List (Key × V)} {vs : List (Key × Value)}, KV ks vs → Vals (ks.map (·.2)) (vs.map (·.2))
  | _, _, .nil => .nil
  | _, _, .cons h t => .cons h.2 (kv_vals t)

mutual
/-- what the heap reads of it -/
theorem reads_of (I : Inv X pins σ H s) : ∀ {x : V} {d : PyData}, DatV X.K H x d → ∀ {v : Value}, RelV x v → ∃ as, Reads s.heap v d as
  | _, _, .non, v, r => by cases (show v = Value.none from r); exact ⟨_, .none⟩
  | _, _, .bl b, v, r => by cases (show v = Value.bool b from r); exact ⟨_, .bool b⟩
  | _, _, .int i, v, r => by obtain ⟨t, rfl⟩ := (show ∃ t, v = Value.int i t from r); exact ⟨_, .int i t⟩
  | _, _, .str x, v, r => by obtain ⟨t, rfl⟩ := (show ∃ t, v = Value.str x t from r); exact ⟨_, .str x t⟩
  | _, _, .lst (a := a) h t, v, r => by
    cases (show v = Value.ref a from r)
    obtain ⟨its, rv, ⟨o, n, h1, h2, h3, h4⟩, _⟩ := I.list h
    obtain ⟨as, q⟩ := readsA_of I t rv
    exact ⟨_, .list h1 h2 (by first | exact h3 | exact h4) (by simpa using q)⟩
  | _, _, .tup (a := a) h t, v, r => by
    cases (show v = Value.ref a from r)
    obtain ⟨its, rv, ⟨o, h1, h2, n, h3⟩, _⟩ := I.tuple h
    obtain ⟨as, q⟩ := readsA_of I t rv
    exact ⟨_, .tuple h1 h2 h3 (by simpa using q)⟩
  | _, _, .dic (a := a) (kvs := kvs) (ds := ds) h t, v, r => by
    cases (show v = Value.ref a from r)
    obtain ⟨_, _, vs, rv, o, es, ep, h1, h2, h3, _, h5, _⟩ := (show ObjOk X.prog X.w H s.heap a (.dK kvs) from I.hok a _ h)
    obtain ⟨as, q⟩ := readsA_of I t (kv_vals rv)
    have hl : (kvs.map fun p => kD p.1).length = ds.length := by
      have z := t.len
      rw [List.length_map] at z ⊢
      exact z
    refine ⟨_, Reads.dict (as := []) (bs := as) h1 h2.1 h3 ?_ ?_⟩
    · rw [map_fst_zip hl, ← kv_fst rv]
      exact keys_read h5
    · rw [map_snd_zip hl, pairs_vals h5]
      exact q
theorem readsA_of (I : Inv X pins σ H s) : ∀ {xs : List V} {ds : List PyData}, DatA X.K H xs ds → ∀ {us : List Value}, Vals xs us → ∃ as, ReadsAll s.heap us ds as
  | _, _, .nil, us, r => by cases r; exact ⟨_, .nil⟩
  | _, _, .cons h t, us, r => by
    cases r with
    | cons r1 r2 =>
      obtain ⟨as, q⟩ := reads_of I h r1
      obtain ⟨bs, q2⟩ := readsA_of I t r2
      exact ⟨_, .cons q q2⟩
end
end
end Ns

/-! NsB: repr of data. -/
namespace Ns
open PySem PySem.Spec PyProof.Rows L2
section
variable {X : Cx} {pins : List (Addr × Obj)} {σ : L2.St} {H : Hp} {s : Shared}

theorem zip_kv : ∀ {as : List Key} {ds : List PyData}, as.length = ds.length → ((as.map kD).zip ds).map (·.1) = as.map kD := fun {as ds} h => map_fst_zip (by rw [List.length_map]; exact h)

theorem kv_of_zip {α : Type} {f : α → PyData} {l : List α} {ds : List PyData} (h : l.length = ds.length) : (((l.map f).zip ds).map (·.1) = l.map f) ∧ (((l.map f).zip ds).map (·.2) = ds) :=
  ⟨map_fst_zip (by rw [List.length_map]; exact h), map_snd_zip (by rw [List.length_map]; exact h)⟩

/-- keys show themselves, whatever stands -/
theorem keys_shown {P : Program} {w : World} {h : Heap} {n : Nat} : ∀ {es : List DictEntry} {vs : List (Key × Value)}, Pairs (mixKind P w) es vs → (∀ p ∈ vs, (kD p.1).showable = true ∧ (kD p.1).shown.length ≤ sizeLine) →
    ReprAllK P w [] h n (es.map (·.key)) (PyData.shownAll (vs.map fun p => kD p.1))
  | _, _, .nil, _ => by simp only [List.map_nil, PyData.shownAll]; exact .nil
  | e :: es, kv :: vs, .cons h1 _ t, hz => by
    rw [List.map_cons, List.map_cons, PyData.shownAll_cons]
    obtain ⟨z1, z2⟩ := hz kv List.mem_cons_self
    refine .cons (ReprK.of_is ?_ _ _ _) (keys_shown t fun p hp => hz p (List.mem_cons_of_mem _ hp))
    rcases keyIs_shape (show keyIs kv.1 e.key = true from h1) with ⟨i, tk, ek, ev⟩ | ⟨x, tk, ek, ev⟩
    · rw [ek] at z1 ⊢
      rw [ev]
      show ReprIs P w _ (PyData.int i).shown
      rw [PyData.shown_int]
      exact ReprIs.int tk (of_decide_eq_true (by simpa [kD, PyData.showable] using z1))
    · rw [ek] at z2 ⊢
      rw [ev]
      show ReprIs P w _ (PyData.str x).shown
      have z2' : (PyData.str x).shown.length ≤ sizeLine := z2
      rw [PyData.shown_str] at z2' ⊢
      exact ReprIs.str x tk z2'

theorem all_of : ∀ {l : List PyData}, PyData.showableAll l = true → ∀ d ∈ l, d.showable = true
  | [], _, _, hd => nomatch hd
  | x :: l, h, d, hd => by
    have h' : x.showable = true ∧ PyData.showableAll l = true := by simpa [PyData.showableAll] using h
    rcases List.mem_cons.mp hd with e | e
    · rw [e]; exact h'.1
    · exact all_of h'.2 d e
theorem shown_mem : ∀ {l : List PyData} {d : PyData}, d ∈ l → d.shown ∈ PyData.shownAll l
  | [], _, h => nomatch h
  | x :: l, d, h => by
    rw [PyData.shownAll_cons]
    rcases List.mem_cons.mp h with e | e
    · rw [e]; exact List.mem_cons_self
    · exact List.mem_cons_of_mem _ (shown_mem e)

mutual
theorem reprK_of (I : Inv X pins σ H s) : ∀ {x : V} {d : PyData}, DatV X.K H x d → ∀ {v : Value}, RelV x v → d.showable = true → d.shown.length ≤ sizeLine →
    ∃ bs, ReadAtMost s.heap d.depth bs ∧ ReprK X.prog X.w bs s.heap d.depth v d.shown
  | _, _, .non, v, r, _, _ => by
    cases (show v = Value.none from r)
    exact ⟨[], (fun _ z => nomatch z), by rw [PyData.shown_none]; exact .of_is ReprIs.none _ _ _⟩
  | _, _, .bl b, v, r, _, _ => by
    cases (show v = Value.bool b from r)
    refine ⟨[], (fun _ z => nomatch z), ?_⟩
    simp only [PyData.shown]
    exact .of_is (ReprIs.bool b) _ _ _
  | _, _, .int i, v, r, hs, _ => by
    obtain ⟨t, rfl⟩ := (show ∃ t, v = Value.int i t from r)
    refine ⟨[], (fun _ z => nomatch z), ?_⟩
    rw [PyData.shown_int]
    exact .of_is (ReprIs.int t (by simpa [PyData.showable] using hs)) _ _ _
  | _, _, .str x, v, r, _, hz => by
    obtain ⟨t, rfl⟩ := (show ∃ t, v = Value.str x t from r)
    refine ⟨[], (fun _ z => nomatch z), ?_⟩
    rw [PyData.shown_str] at hz ⊢
    exact .of_is (ReprIs.str x t hz) _ _ _
  | _, _, .lst (a := a) (ds := ds) h t, v, r, hs, hz => by
    cases (show v = Value.ref a from r)
    have hz1 : (listText (PyData.shownAll ds)).length ≤ sizeLine := by simpa only [PyData.shown] using hz
    have hs1 : PyData.showableAll ds = true := by simpa [PyData.showable] using hs
    obtain ⟨as, rd⟩ := reads_of I (.lst h t) (v := .ref a) rfl
    obtain ⟨its, rv, ⟨o, n, h1, h2, h3, h4⟩, _⟩ := I.list h
    have h5 : o.data = .seq its.toArray n := by first | exact h3 | exact h4
    obtain ⟨bs, hb, hk⟩ := reprA_of I t rv hs1 fun u hu => Nat.le_trans (listText_mem_le hu) hz1
    have dp : (PyData.list ds).depth = PyData.depthAll ds + 1 := by simp only [PyData.depth] <;> omega
    have hna : a ∉ bs := not_mem_of_deeper rd (by rw [dp]; omega) hb
    refine ⟨a :: bs, ReadAtMost.cons rd (by rw [dp]; omega) hb, ?_⟩
    rw [dp]
    simp only [PyData.shown]
    cases its with
    | nil =>
      have e0 : PyData.shownAll ds = [] := List.length_eq_zero_iff.mp (by simpa using hk.length_eq)
      rw [e0, listText_nil]
      exact ReprK.listEmpty h1 h2 h5
    | cons y l => exact ReprK.list h1 h2 h5 hna (by simpa using hk.length_eq) fun i u e => hk.item i u (by simpa using e)
  | _, _, .tup (a := a) (ds := ds) h t, v, r, hs, hz => by
    cases (show v = Value.ref a from r)
    have hz1 : (tupleText (PyData.shownAll ds)).length ≤ sizeLine := by simpa only [PyData.shown] using hz
    have hs1 : PyData.showableAll ds = true := by simpa [PyData.showable] using hs
    obtain ⟨as, rd⟩ := reads_of I (.tup h t) (v := .ref a) rfl
    obtain ⟨its, rv, ⟨o, h1, h2, n, h3⟩, _⟩ := I.tuple h
    obtain ⟨bs, hb, hk⟩ := reprA_of I t rv hs1 fun u hu => Nat.le_trans (tupleText_mem_le hu) hz1
    have dp : (PyData.tuple ds).depth = PyData.depthAll ds + 1 := by simp only [PyData.depth] <;> omega
    have hna : a ∉ bs := not_mem_of_deeper rd (by rw [dp]; omega) hb
    refine ⟨a :: bs, ReadAtMost.cons rd (by rw [dp]; omega) hb, ?_⟩
    rw [dp]
    simp only [PyData.shown]
    exact ReprK.tuple h1 h2 h3 hna (by simpa using hk)
  | _, _, .dic (a := a) (kvs := kvs) (ds := ds) h t, v, r, hs, hz => by
    cases (show v = Value.ref a from r)
    have hl : kvs.length = ds.length := by
      have z := t.len
      rw [List.length_map] at z
      exact z
    obtain ⟨e1, e2⟩ := kv_of_zip (f := fun p : Key × V => kD p.1) (l := kvs) hl
    have hz1 : (dictText (PyData.shownKv ((kvs.map fun p => kD p.1).zip ds))).length ≤ sizeLine := by simpa only [PyData.shown] using hz
    have hs1 : PyData.showableKv ((kvs.map fun p => kD p.1).zip ds) = true := by simpa [PyData.showable] using hs
    obtain ⟨s1, s2⟩ := PyData.showableKv_split _ hs1
    rw [e1] at s1
    rw [e2] at s2
    obtain ⟨as, rd⟩ := reads_of I (.dic h t) (v := .ref a) rfl
    obtain ⟨_, hsy, vs, rv, o, es, ep, h1, h2, h3, _, h5, _⟩ := (show ObjOk X.prog X.w H s.heap a (.dK kvs) from I.hok a _ h)
    have vl : ∀ u ∈ PyData.shownAll ds, u.length ≤ sizeLine := fun u hu => by
      obtain ⟨p, hp, hq⟩ := PyData.shownKv_val_le _ u (by rw [e2]; exact hu)
      exact Nat.le_trans hq (Nat.le_trans (dictText_mem_le hp) hz1)
    have kl : ∀ u ∈ PyData.shownAll (kvs.map fun p => kD p.1), u.length ≤ sizeLine := fun u hu => by
      obtain ⟨p, hp, hq⟩ := PyData.shownKv_key_le _ u (by rw [e1]; exact hu)
      exact Nat.le_trans hq (Nat.le_trans (dictText_mem_le hp) hz1)
    obtain ⟨bs, hb, hk⟩ := reprA_of I t (kv_vals rv) s2 vl
    have kk : ReprAllK X.prog X.w [] s.heap (PyData.depthKv ((kvs.map fun p => kD p.1).zip ds)) (es.toList.map (·.key)) (PyData.shownAll (kvs.map fun p => kD p.1)) := by
      rw [← kv_fst rv]
      refine keys_shown h5 fun p hp => ?_
      have hm : kD p.1 ∈ kvs.map fun p => kD p.1 := by
        rw [← kv_fst rv]
        exact List.mem_map.mpr ⟨p, hp, rfl⟩
      exact ⟨all_of s1 _ hm, kl _ (shown_mem hm)⟩
    have dv : PyData.depthAll ds ≤ PyData.depthKv ((kvs.map fun p => kD p.1).zip ds) := by
      have z := PyData.depthAll_vals_le ((kvs.map fun p => kD p.1).zip ds)
      rw [e2] at z
      exact z
    have hb2 : ReadAtMost s.heap (PyData.depthKv ((kvs.map fun p => kD p.1).zip ds)) bs := hb.mono dv
    have dp : (PyData.dict ((kvs.map fun p => kD p.1).zip ds)).depth = PyData.depthKv ((kvs.map fun p => kD p.1).zip ds) + 1 := by simp only [PyData.depth] <;> omega
    have hna : a ∉ bs := not_mem_of_deeper rd (by rw [dp]; omega) hb2
    refine ⟨a :: bs, ReadAtMost.cons rd (by rw [dp]; omega) hb2, ?_⟩
    rw [dp]
    simp only [PyData.shown, PyData.shownKv_eq]
    rw [e1, e2]
    refine ReprK.dict h1 h2.1 h3 hsy hna (ReprEntriesK.of_two es.toList _ _ (kk.more_le (fun b z => absurd z List.not_mem_nil) (Nat.le_refl _)) ?_)
    rw [pairs_vals h5]
    exact hk.more_le (fun b z => z) dv
theorem reprA_of (I : Inv X pins σ H s) : ∀ {xs : List V} {ds : List PyData}, DatA X.K H xs ds → ∀ {us : List Value}, Vals xs us → PyData.showableAll ds = true → (∀ t ∈ PyData.shownAll ds, t.length ≤ sizeLine) →
    ∃ bs, ReadAtMost s.heap (PyData.depthAll ds) bs ∧ ReprAllK X.prog X.w bs s.heap (PyData.depthAll ds) us (PyData.shownAll ds)
  | _, _, .nil, us, r, _, _ => by
    cases r
    exact ⟨[], (fun _ z => nomatch z), by simp only [PyData.shownAll]; exact .nil⟩
  | _, _, .cons (d := d) (ds := ds) h t, us, r, hs, hz => by
    cases r with
    | cons r1 r2 =>
      have hs1 : d.showable = true ∧ PyData.showableAll ds = true := by simpa [PyData.showableAll] using hs
      rw [PyData.shownAll_cons] at hz ⊢
      obtain ⟨b1, g1, k1⟩ := reprK_of I h r1 hs1.1 (hz _ List.mem_cons_self)
      obtain ⟨b2, g2, k2⟩ := reprA_of I t r2 hs1.2 fun u hu => hz u (List.mem_cons_of_mem _ hu)
      have dp : PyData.depthAll (d :: ds) = max d.depth (PyData.depthAll ds) := by simp only [PyData.depthAll]
      refine ⟨b1 ++ b2, ?_, ?_⟩
      · rw [dp]
        exact (g1.mono (Nat.le_max_left _ _)).append (g2.mono (Nat.le_max_right _ _))
      · rw [dp]
        exact .cons ((k1.more fun b z => List.mem_append_left _ z).level_le (Nat.le_max_left _ _)) (k2.more_le (fun b z => List.mem_append_right _ z) (Nat.le_max_right _ _))
end
theorem dict_entries (I : Inv X pins σ H s) {a : Addr} {kvs : List (Key × V)} {ds : List PyData} {vs : List (Key × Value)} {o : Obj} {es : Array DictEntry} {ep : Nat} (h : H a = some (.dK kvs)) (t : DatA X.K H (kvs.map (·.2)) ds)
    (hs : (PyData.dict ((kvs.map fun p => kD p.1).zip ds)).showable = true) (hz : (PyData.dict ((kvs.map fun p => kD p.1).zip ds)).shown.length ≤ sizeLine) (h1 : s.heap.get? a = some o) (h3 : o.data = .dict es ep)
    (h5 : Pairs (mixKind X.prog X.w) es.toList vs) (rv : KV kvs vs) :
    ∃ n bs, a ∉ bs ∧ ReprEntriesK X.prog X.w bs s.heap n es.toList (PyData.shownKv ((kvs.map fun p => kD p.1).zip ds)) ∧ n + 1 ≤ (PyData.dict ((kvs.map fun p => kD p.1).zip ds)).depth := by
  have hl : kvs.length = ds.length := by
    have z := t.len
    rw [List.length_map] at z
    exact z
  obtain ⟨e1, e2⟩ := kv_of_zip (f := fun p : Key × V => kD p.1) (l := kvs) hl
  have hz1 : (dictText (PyData.shownKv ((kvs.map fun p => kD p.1).zip ds))).length ≤ sizeLine := by simpa only [PyData.shown] using hz
  have hs1 : PyData.showableKv ((kvs.map fun p => kD p.1).zip ds) = true := by simpa [PyData.showable] using hs
  obtain ⟨s1, s2⟩ := PyData.showableKv_split _ hs1
  rw [e1] at s1
  rw [e2] at s2
  obtain ⟨as, rd⟩ := reads_of I (.dic h t) (v := .ref a) rfl
  obtain ⟨bs, hb, hk⟩ := reprA_of I t (kv_vals rv) s2 fun u hu => by
    obtain ⟨p, hp, hq⟩ := PyData.shownKv_val_le _ u (by rw [e2]; exact hu)
    exact Nat.le_trans hq (Nat.le_trans (dictText_mem_le hp) hz1)
  have kk : ReprAllK X.prog X.w [] s.heap (PyData.depthKv ((kvs.map fun p => kD p.1).zip ds)) (es.toList.map (·.key)) (PyData.shownAll (kvs.map fun p => kD p.1)) := by
    rw [← kv_fst rv]
    refine keys_shown h5 fun p hp => ?_
    have hm : kD p.1 ∈ kvs.map fun p => kD p.1 := by
      rw [← kv_fst rv]
      exact List.mem_map.mpr ⟨p, hp, rfl⟩
    obtain ⟨y, hy, hq⟩ := PyData.shownKv_key_le _ _ (by rw [e1]; exact shown_mem hm)
    exact ⟨all_of s1 _ hm, Nat.le_trans hq (Nat.le_trans (dictText_mem_le hy) hz1)⟩
  have dv : PyData.depthAll ds ≤ PyData.depthKv ((kvs.map fun p => kD p.1).zip ds) := by
    have z := PyData.depthAll_vals_le ((kvs.map fun p => kD p.1).zip ds)
    rw [e2] at z
    exact z
  have dp : (PyData.dict ((kvs.map fun p => kD p.1).zip ds)).depth = PyData.depthKv ((kvs.map fun p => kD p.1).zip ds) + 1 := by simp only [PyData.depth] <;> omega
  have hna : a ∉ bs := not_mem_of_deeper rd (by rw [dp]; omega) (hb.mono dv)
  refine ⟨_, bs, hna, ?_, Nat.le_of_eq dp.symm⟩
  rw [PyData.shownKv_eq, e1, e2]
  refine ReprEntriesK.of_two es.toList _ _ (kk.more_le (fun b z => absurd z List.not_mem_nil) (Nat.le_refl _)) ?_
  rw [pairs_vals h5]
  exact hk.more_le (fun b z => z) dv
end
end Ns

/-! NsC: the call of repr; == of equal data. -/
namespace Ns
open PySem PySem.Spec PyProof.Rows L2
section
variable {X : Cx} {pins : List (Addr × Obj)} {σ : L2.St} {H : Hp} {s : Shared}

theorem repr_run (I : Inv X pins σ H s) {A : Around} (hg : A.guards = some []) {x : V} {d : PyData} (D : DatV X.K H x d) {v : Value} (r : RelV x v) (hs : d.showable = true) (hz : d.shown.length ≤ sizeLine) (hu : A.units + (d.depth + 2) < cLine)
    {E Q : Value → Shared → Prop} (q : ∀ h' u tk, (∀ b o, s.heap.get? b = some o → h'.get? b = some o) → Q (.str d.shown u) { s with heap := h', toks := tk }) :
    wpAny (model X.prog X.w) A (call (.builtin "repr") [v]) Q E s := by
  cases D with
  | non =>
    cases (show v = Value.none from r)
    rw [PyData.shown_none] at q
    exact PySem.P.repr_of_none (q s.heap _ _ fun _ _ e => e)
  | bl b =>
    cases (show v = Value.bool b from r)
    rw [PyData.shown_bool] at q
    exact PySem.P.repr_of_bool (q s.heap _ _ fun _ _ e => e)
  | int i =>
    obtain ⟨t, rfl⟩ := (show ∃ t, v = Value.int i t from r)
    rw [PyData.shown_int] at q
    exact PySem.P.repr_of_int (of_decide_eq_true (by simpa [PyData.showable] using hs)) (q s.heap _ _ fun _ _ e => e)
  | str y =>
    obtain ⟨t, rfl⟩ := (show ∃ t, v = Value.str y t from r)
    rw [PyData.shown_str] at q hz
    exact PySem.P.repr_of_str (q s.heap _ _ fun _ _ e => e) hz
  | @lst a xs ds h t =>
    cases (show v = Value.ref a from r)
    have hz1 : (listText (PyData.shownAll ds)).length ≤ sizeLine := by simpa only [PyData.shown] using hz
    have hs1 : PyData.showableAll ds = true := by simpa [PyData.showable] using hs
    obtain ⟨as, rd⟩ := reads_of I (.lst h t) (v := .ref a) rfl
    obtain ⟨its, rv, ⟨o, n, h1, h2, h3, h4⟩, _⟩ := I.list h
    have h5 : o.data = .seq its.toArray n := by first | exact h3 | exact h4
    obtain ⟨bs, hb, hk⟩ := reprA_of I t rv hs1 fun u hu => Nat.le_trans (listText_mem_le hu) hz1
    have dp : (PyData.list ds).depth = PyData.depthAll ds + 1 := by simp only [PyData.depth] <;> omega
    have hna : a ∉ bs := not_mem_of_deeper rd (by rw [dp]; omega) hb
    simp only [PyData.shown] at q
    rw [dp] at hu
    refine call_repr_slot (by omega) ⟨o, h1, h2⟩ F.slot_list_repr.toG ?_
    cases its with
    | nil =>
      have e0 : PyData.shownAll ds = [] := List.length_eq_zero_iff.mp (by simpa using hk.length_eq)
      rw [e0, listText_nil] at q
      exact call_list_repr_empty ⟨o, h1, h2⟩ h1 h5 ⟨_, _, rfl, q s.heap _ _ fun _ _ e => e⟩
    | cons y l =>
      exact call_list_reprK (A := A.in1) (g := []) h1 h2 h5 hna (by simpa using hk.length_eq) (fun i u e => hk.item i u (by simpa using e)) hg (fun b _ => Clear.nil b) (by show A.units + 1 + _ < _; omega) (fun _ _ e => e)
        (fun h' u tk k => ⟨_, _, rfl, q h' u tk k⟩) hz1
  | @tup a xs ds h t =>
    cases (show v = Value.ref a from r)
    have hz1 : (tupleText (PyData.shownAll ds)).length ≤ sizeLine := by simpa only [PyData.shown] using hz
    have hs1 : PyData.showableAll ds = true := by simpa [PyData.showable] using hs
    obtain ⟨as, rd⟩ := reads_of I (.tup h t) (v := .ref a) rfl
    obtain ⟨its, rv, ⟨o, h1, h2, n, h3⟩, _⟩ := I.tuple h
    obtain ⟨bs, hb, hk⟩ := reprA_of I t rv hs1 fun u hu => Nat.le_trans (tupleText_mem_le hu) hz1
    have dp : (PyData.tuple ds).depth = PyData.depthAll ds + 1 := by simp only [PyData.depth] <;> omega
    have hna : a ∉ bs := not_mem_of_deeper rd (by rw [dp]; omega) hb
    simp only [PyData.shown] at q
    rw [dp] at hu
    refine call_repr_slot (by omega) ⟨o, h1, h2⟩ F.slot_tuple_repr ?_
    exact call_tuple_reprK (A := A.in1) (g := []) h1 h2 h3 hna (by simpa using hk) hg (fun b _ => Clear.nil b) (by show A.units + 1 + _ < _; omega) (fun _ _ e => e)
      (fun h' u tk k => ⟨_, _, rfl, q h' u tk k⟩) hz1
  | @dic a kvs ds h t =>
    cases (show v = Value.ref a from r)
    obtain ⟨_, hsy, vs, rv, o, es, ep, h1, h2, h3, _, h5, _⟩ := (show ObjOk X.prog X.w H s.heap a (.dK kvs) from I.hok a _ h)
    obtain ⟨n, bs, hna, hE, hd⟩ := dict_entries I h t hs hz h1 h3 h5 rv
    simp only [PyData.shown] at q hz
    refine call_repr_slot (by omega) ⟨o, h1, h2.1⟩ F.slot_dict_repr ?_
    exact call_dict_reprK (A := A.in1) (g := []) h1 h2.1 h3 hsy hna hE hg (fun b _ => Clear.nil b) (by show A.units + 1 + _ < _; omega) (fun _ _ e => e)
      (fun h' u tk k => ⟨_, _, rfl, q h' u tk k⟩) hz

/-- repr(x), x data -/
def rRep (K : PySem.W.Frag) : List V → Hp → VK → Prop := fun xs H Q => ∃ x d, xs = [x] ∧ DatV K H x d ∧ d.showable = true ∧ d.shown.length ≤ sizeLine ∧ d.depth ≤ 60 ∧ Q (.str d.shown) H
theorem call_reprD (hg : X.A.guards = some []) (hu : X.A.units + 64 < cLine) : CallR X (.builtin "repr") (rRep X.K) := by
  intro pins s σ H xs us Q I r h
  obtain ⟨x, d, rfl, D, hs, hz, hd, q⟩ := h
  obtain ⟨u, rfl, r1⟩ := vals1 r
  exact repr_run I hg D r1 hs hz (by omega) fun h' u tk k => ⟨.str d.shown, H, I.kept (t' := tk) k, ⟨u, rfl⟩, q⟩
end
end Ns

/-! NsG: defs that are called where no repr is under way (the guards are known to be none); xs[i] op= e of a list; the end of a law over such a def. -/
namespace Ns
open PySem PySem.Spec PyProof.Rows L2

/-- as FnOk, for calls with no guard around -/
structure GnOk (P : Program) (w : World) (K : PySem.W.Frag) (mg : Str → Option Value) (base : Heap) (k : Nat) (f : Addr) (fd : FuncData) (ps : List Str) (sp : Sp) : Prop where
  glen : ∀ as H Q E, sp as H Q E → as.length = ps.length
  grun : ∀ (A : Around) (outer : List Env) (s : Shared) (H : Hp) (args : Args) (us : List Value) (as : List V) (Q : VK) (E : XK), Room k A → A.guards = some [] → Env0 P w K mg base A outer s H →
    BindsTo s fd args (ps.zip us) → Vals as us → sp as H Q E → codeAny (model P w) A (.call (.ref f) args) (CR CX0 outer P w H s Q E) s
theorem FnOk.guarded {P : Program} {w : World} {K : PySem.W.Frag} {mg : Str → Option Value} {base : Heap} {k : Nat} {f : Addr} {fd : FuncData} {ps : List Str} {sp : Sp} (F : FnOk P w K mg base CX0 k f fd ps sp) : GnOk P w K mg base k f fd ps sp :=
  ⟨F.len, fun A outer s H args us as Q E hr _ e b v h => F.run A outer s H args us as Q E hr e b v h⟩

section
variable {X : Cx} {k : Nat} {f : Addr} {fd : FuncData} {ps : List Str} {sp : Sp} {x : Str} {p pos : Pos} {e : Expr} {es : List Expr} {t : TA}
theorem run_g {pins : List (Addr × Obj)} {σ : L2.St} {H : Hp} {s : Shared} {Q : VK} {us : List Value} {as : List V} (F : GnOk X.prog X.w X.K X.mg X.base k f fd ps sp) (hr : Room k X.A) (hgd : X.A.guards = some []) (hb : Binds X.K fd ps [])
    (I : Inv X pins σ H s) (r : Vals as us) (h : sp as H Q E0) : wpAny (model X.prog X.w) X.A (call (.ref f) us) (EP X pins σ Q) X.xe s := by
  have hl : us.length = ps.length := r.length.symm.trans (F.glen _ _ _ _ h)
  have bb := hb s us I.kIn (by rw [List.append_nil]; exact hl)
  rw [List.append_nil] at bb
  refine wpAny_call (codeAny_mono (F.grun X.A X.stack s H ⟨us, []⟩ us as Q E0 hr hgd I.env0 bb r h) fun z s' hz => ?_)
  match z, hz with
  | .error _, hz => exact (show False from hz).elim
  | .ok (.ret u), hz => exact I.after hz
  | .ok .next, hz => exact (show False from hz).elim
  | .ok .brk, hz => exact (show False from hz).elim
  | .ok .cont, hz => exact (show False from hz).elim
theorem pe_callG (F : GnOk X.prog X.w X.K X.mg X.base k f fd ps sp) (hr : Room k X.A) (hgd : X.A.guards = some []) (hg : Gl X x) (hm : X.mg x = some (.ref f)) (hk : PySem.W.keepIn X.K (.ref f) = true) (hb : Binds X.K fd ps [])
    (ha : PA X (e :: es) t) (hdb : (x == ("__debug__" : Str)) = false := by decide) (he : starEach (e :: es) X.env = (false, eval e X.env) :: starEach es X.env := by rfl) (hpl : (backTo pos (starEach es X.env)).any (·.1) = false := by rfl) :
    PE X (.Call (.Name x p) (e :: es) [] pos) (tCall sp [] E0 t) :=
  ⟨fun pins s σ H Q I h => wpAny_Call_Name_kw (ld_glob I hg hm (PySem.W.callWith_K (h₀ := X.base) I.ok.mod.kin hk (thn (ha.run pos pins s σ H _ I h) fun us s1 ⟨as, H1, I1, r, q⟩ => ⟨I1.kIn, run_g F hr hgd hb I1 r (by have q' : sp (as ++ []) H1 Q E0 := q; rw [List.append_nil] at q'; exact q')⟩) he hpl) hdb)⟩
end

/-- the def by its body: the guards are known within -/
theorem Fun.okG {P : Program} {w : World} {K : PySem.W.Frag} {mg : Str → Option Value} {base : Heap} {x qual : Str} {st : Stmt} {f : Addr} {fd : FuncData} {N ps : List Str} {k : Nat} {sp : Sp} (F : Fun K x qual st f fd) (S : FnScope N ps (defScope st))
    (len : ∀ as H Q E, sp as H Q E → as.length = ps.length)
    (body : ∀ (cdv : Value) (A : Around) (outer : List Env) (s : Shared) (H : Hp) (as : List V) (Q : VK) (E : XK), Room k (A.deeper (envOfC qual (defScope st) s.heap.objs.size f cdv)) → (A.deeper (envOfC qual (defScope st) s.heap.objs.size f cdv)).guards = some [] → sp as H Q E →
      ∃ t, PSs (cxOf CX0 P w K mg base N qual (defScope st) f cdv A outer s H E).nox (defBody st) t ∧ t { nx := fun _ H' => Q .non H', rt := Q } (start N as) H) : GnOk P w K mg base (k + 1) f fd ps sp := by
  obtain ⟨oc, od, kV, doc, pm, an, cdv, ct, osl, rfl, lk, hcd⟩ := F.ex
  refine ⟨len, fun A outer s H args us as Q E hr hgd e0 hb r hsp => ?_⟩
  have old : ∀ b o, base.get? b = some o → s.heap.get? b = some o := fun b o z => (e0.bs b o z).1
  have kin : K.In s.heap := e0.mod.kin.keeps old
  refine codeAny_call_function hr.depth (kin _ _ lk) rfl S.co S.gen rfl (PySem.W.codeRec_of kin hcd) (hb _ _ _ _ (wpAny_newFunctionEnv_cells S.kind (fun y hy => ?_) fun env he s1 x => ?_))
  · have hm := (List.of_mem_zip (show (y.1, y.2) ∈ ps.zip us from hy)).1
    exact (S.par y.1 hm).imp (fun z => z) fun z => ⟨z, PySem.W.cellsFrom_some _ _ _ (.inl z)⟩
  · cases he
    refine ⟨(e0.mod.nolimit.keeps old).keeps x.toInCall.keep, codeAny_func ?_⟩
    obtain ⟨t, ht, hq⟩ := body cdv A outer s H as Q E (hr.deeper _) hgd hsp
    have J := inv_start (CX := CX0) (E := E) S hr.hd e0 (len _ _ _ _ hsp) r x
    refine wpAny_mono (ht.nox.run [] s1 (start N as) H _ J hq) (fun fl s' hs => ?_) fun e s' hs => hs
    match fl, hs with
    | .ret u, ⟨v, _, H', J', rv, q⟩ => exact ⟨v, H', J'.os, J'.bare, J'.base, J'.hok, rv, q⟩
    | .next, ⟨_, H', J', q⟩ => exact ⟨V.non, H', J'.os, J'.bare, J'.base, J'.hok, rfl, q⟩
    | .brk, ⟨_, _, _, q⟩ => exact (show False from q).elim
    | .cont, ⟨_, _, _, q⟩ => exact (show False from q).elim
end Ns

/-! NsH: the end of a law over a guarded def; xs[i] op= e. -/
namespace Ns
open PySem PySem.Spec PyProof.Rows L2

/-- what a law's def promises: of a list of ints, True -/
def spTop (K : PySem.W.Frag) : Sp := fun as H Q _ => ∃ (a : Addr) (ns : List Int), as = [.ref a] ∧ SqL K H a (ns.map V.int) ∧ ns.length ≤ 63 ∧ ∀ H', Q (.bl true) H'

/-- the abstract heap at the entry: the script at a alone, unless it is a written object -/
theorem entry_core {P : Program} {w : World} {K : PySem.W.Frag} {mg mb : Str → Option Value} {k : Nat} {fa a : Addr} {fd : FuncData} {s : Shared} {vs : List Value} {ns : List Int} (kin : K.In s.heap) (gl : s.heap.Ns mainGlobals mg)
    (bl : s.heap.Ns builtinsNs mb) (bb : ∀ x : Str, x ≠ "__name__" → mb x = bootBuiltins x) (nl : s.heap.NoLimit) (ge : s.gens = #[]) (sc : s.heap.get? a = some { cls := .type "list", data := .seq vs.toArray }) (l63 : ns.length ≤ 63)
    (hr : Room k callerA) (F : ∀ base : Heap, K.In base → base.Ns mainGlobals mg → GnOk P w K mg base k fa fd ["script"] (spTop K)) (bd : ∀ (z : Shared) (u : Value), BindsTo z fd ⟨[u], []⟩ [("script", u)])
    (H : Hp) (only : ∀ b o, H b = some o → b = a ∧ ∃ ob xs, o = .frz ob (.lst xs)) (free : H a ≠ none → K.lookup a = none) (hok : HOk P w H s.heap) (sq : SqL K H a (ns.map V.int)) :
    codeAny (model P w) callerA (.call (.ref fa) ⟨[.ref a], []⟩) (fun r s' => r = .ok (.ret (.bool true)) ∧ OldK s.heap s'.heap ∧ s'.os = s.os ∧ AllBare s'.gens) s := by
  have noD : ∀ {b : Addr} {o : Obj} {es : Array DictEntry} {n : Nat}, s.heap.get? b = some o → o.data = .dict es n → H b = none := by
    intro b o es n e d
    cases q : H b with
    | none => rfl
    | some u =>
      obtain ⟨rfl, _⟩ := only b u q
      rw [sc] at e
      cases e
      cases d
  have ns' : ∀ {b : Addr} {m : Str → Option Value}, s.heap.Ns b m → (hidT s.heap H).Ns b m := by
    rintro b m ⟨o, es, n, e, d, r⟩
    exact ⟨o, es, n, hidT_get e (noD e d), d, r⟩
  have kin' : K.In (hidT s.heap H) := by
    intro b o e
    refine hidT_get (kin b o e) ?_
    cases q : H b with
    | none => rfl
    | some u =>
      obtain ⟨rfl, _⟩ := only b u q
      rw [free (by rw [q]; exact fun z => nomatch z)] at e
      cases e
  have md : Mod K mg (hidT s.heap H) := by
    obtain ⟨mc, n1, n2⟩ := nl
    exact { kin := kin', glob := ns' gl, blt := ⟨mb, ns' bl, bb⟩, nolimit := ⟨mc, ns' n1, n2⟩ }
  have e0 : Env0 P w K mg (hidT s.heap H) callerA [] s H :=
    { frames := rfl, mod := md, bs := fun b o e => of_hidT e, bsz := Nat.le_of_eq (hidT_size _ _), funs := trivial, frf := fun b hb => (List.not_mem_nil hb).elim, hok := hok, bare := .of_eq ge }
  have run := (F _ kin' (ns' gl)).grun callerA [] s H ⟨[.ref a], []⟩ [.ref a] [.ref a] (fun v _ => v = .bl true) E0 hr rfl e0 (bd s (.ref a)) (.cons rfl .nil) ⟨a, ns, rfl, sq, l63, fun _ => rfl⟩
  refine codeAny_mono run fun r s' h => ?_
  match r, h with
  | .error _, h => exact (show False from h).elim
  | .ok .next, h => exact (show False from h).elim
  | .ok .brk, h => exact (show False from h).elim
  | .ok .cont, h => exact (show False from h).elim
  | .ok (.ret u), ⟨v, H', o', bare, un, hok', rv, q⟩ =>
    have q' : v = .bl true := q
    rw [q'] at rv
    have eu : u = Value.bool true := rv
    rw [eu]
    refine ⟨rfl, OldK.of_keep fun b o e => ?_, o', bare⟩
    cases z : H b with
    | none => exact un.keep b o e z (fun y => List.not_mem_nil y) List.not_mem_nil
    | some u' =>
      obtain ⟨_, ob, xs, rfl⟩ := only b u' z
      have h1 : s.heap.get? b = some ob := (hok b _ z).1
      have h2 : s'.heap.get? b = some ob := (hok' b _ (un.frzs b ob _ z)).1
      rw [e] at h1
      cases h1
      exact h2

theorem walk_ofG {l : PySem.W.OpenLaw} {k : Nat} {q : Program} {loose : List Str} {XP : (Str → Option Value) → Heap → Prop} {YP : World → Heap → Prop} {d : DefRec} {K : Params → PySem.W.Frag} (hn : l.most = some 63) (hdf : d.params.defaults = []) (hr : Room k callerA)
    (hY : ∀ (w : World) (h : Heap), YP w h → (K w.params).In h)
    (F : ∀ (w : World) (mg : Str → Option Value) (fa : Addr) (h : Heap), (K w.params).In h → h.Ns mainGlobals mg → mg d.name = some (.ref fa) →
      ∃ fd : FuncData, (∀ (z : Shared) (u : Value), BindsTo z fd ⟨[u], []⟩ [("script", u)]) ∧ ∀ base : Heap, (K w.params).In base → base.Ns mainGlobals mg → GnOk l.prog w (K w.params) mg base k fa fd ["script"] (spTop (K w.params))) :
    PySem.W.WalkO q loose XP YP l.row.toRowW d [] (fun f vs => PySem.call f vs) := by
  refine Att.attach_call hn hdf ?_
  intro w s0 s mg mb fa o pm cd doc a vs ns G Y ho hd hcd hmg hobj hints hlen hg
  obtain ⟨fd, bd, hF⟩ := F w mg fa _ (hY w _ Y) G.T.g hmg
  have rv := vals_ints hints
  have hz : (ns.map V.int).length ≤ sizeLine := by
    rw [List.length_map]
    exact Nat.le_trans hlen (by decide)
  have go := entry_core (P := l.prog) (w := w) (a := a) (ns := ns) (hY w _ Y) G.T.g G.T.b G.T.builtins G.T.nolimit hg hobj hlen hr hF bd
  cases hk : (K w.params).lookup a with
  | some ok =>
    have e := hY w _ Y a ok hk
    rw [hobj] at e
    cases e
    refine go (fun _ => none) (fun b o z => nomatch z) (fun z => absurd rfl z) (fun b u z => nomatch z) (.inr ⟨_, vs.toArray, _, hk, rfl, rfl, rfl, ?_, by simpa using rv⟩)
    rw [List.size_toArray, ← rv.length]
    exact hz
  | none =>
    have at_a : (fun b => if b = a then some (HO.frz { cls := .type "list", data := .seq vs.toArray } (.lst (ns.map V.int))) else none) a = some (HO.frz { cls := .type "list", data := .seq vs.toArray } (.lst (ns.map V.int))) := if_pos rfl
    have un_a : ∀ (b : Addr) (u : HO), (if b = a then some (HO.frz { cls := .type "list", data := .seq vs.toArray } (.lst (ns.map V.int))) else none) = some u → b = a ∧ u = HO.frz { cls := .type "list", data := .seq vs.toArray } (.lst (ns.map V.int)) := by
      intro b u z
      by_cases hb : b = a
      · rw [if_pos hb] at z
        exact ⟨hb, (Option.some.inj z).symm⟩
      · rw [if_neg hb] at z
        cases z
    refine go (fun b => if b = a then some (HO.frz { cls := .type "list", data := .seq vs.toArray } (.lst (ns.map V.int))) else none) (fun b u z => ?_) (fun _ => hk) (fun b u z => ?_) (.inl (.inr ⟨_, at_a⟩))
    · obtain ⟨e1, e2⟩ := un_a b u z
      exact ⟨e1, _, _, e2⟩
    · obtain ⟨e1, e2⟩ := un_a b u z
      subst e1
      subst e2
      exact ⟨hobj, hz, vs, _, rv, hobj⟩

/-- o[i] of a list, by values -/
theorem get_list {X : Cx} : PGet X (rIxL X.K) := by
  intro pins s σ H o i ov iv Q I ro ri h
  obtain ⟨p, xs, j, v, rfl, rfl, hS, hat, q⟩ := h
  cases (show ov = Value.ref p from ro)
  obtain ⟨t, rfl⟩ := (show ∃ t, iv = Value.int j t from ri)
  obtain ⟨its, rv, pl, hz⟩ := I.list hS
  obtain ⟨n, h1, h2, h3, h4, h5⟩ := atI_get hat
  obtain ⟨u, eu, ru⟩ := rv.get h2
  have ln := rv.length
  have l63 := line63
  have done : EP X pins σ Q u s := ⟨v, H, I, ru, q⟩
  rcases Int.lt_or_le j 0 with c | c
  · refine wpAny_getItem_list_neg pl.isList (by omega) (by rw [List.size_toArray]; omega) (by omega) ?_ done
    have e : (j + (its.toArray.size : Int)).toNat = n := by
      rw [seqIndex_neg (by omega) h4] at h1
      rw [List.size_toArray, ← ln]
      exact Option.some.inj h1
    rw [e]
    simpa using eu
  · refine wpAny_getItem_list pl.isList c (by omega) ?_ done
    have e : j.toNat = n := by
      rw [seqIndex_of c h5] at h1
      exact Option.some.inj h1
    rw [e]
    simpa using eu
end Ns

/-! the tops of the text -/
namespace Y
open PySem PySem.Spec PyProof.Rows L2 Ns
def top (i : Nat) : Stmt := PySem.Challenge.pw_nightstairs_k02_whole_yards_of_any_value.main.body.getD i (.Pass ⟨0, 0, 0, 0⟩)
abbrev sIsInteger : Stmt := top 3
abbrev sIsCount : Stmt := top 4
abbrev sIsPositive : Stmt := top 5
abbrev sIsName : Stmt := top 6
abbrev sIsTupleOf : Stmt := top 7
abbrev sIsRising : Stmt := top 8
abbrev sIsCable : Stmt := top 9
abbrev sIsCar : Stmt := top 10
abbrev sIsYard : Stmt := top 11
abbrev sAreCables : Stmt := top 12
abbrev sAreCars : Stmt := top 13
abbrev sBag : Stmt := top 15
abbrev sTake : Stmt := top 16
abbrev sSome : Stmt := top 17
abbrev sAlike : Stmt := top 18
abbrev sName : Stmt := top 19
abbrev sNames : Stmt := top 20
abbrev sSize : Stmt := top 21
abbrev sCables : Stmt := top 22
abbrev sCars : Stmt := top 23
abbrev sYardOf : Stmt := top 24
abbrev sSmall : Stmt := top 25
abbrev sWide : Stmt := top 26
abbrev sWhole : Stmt := top 27
abbrev sOdd : Stmt := top 28
abbrev sBentWord : Stmt := top 29
abbrev sBent : Stmt := top 30
abbrev sLIsName : Stmt := top 31
abbrev sLIsCount : Stmt := top 32
abbrev sLIsCable : Stmt := top 33
abbrev sLIsCar : Stmt := top 34
abbrev sLIsYard : Stmt := top 35
abbrev sNearYard : Stmt := top 36
abbrev sLaw : Stmt := top 37
end Y

/-! the bag over the heap -/
namespace Y
open PySem PySem.Spec PyProof.Rows L2 Ns
/-- the heap but for b -/
def wo (H : Hp) (b : Addr) : Hp := fun c => if c = b then none else H c
theorem wo_ne {H : Hp} {b c : Addr} (h : c ≠ b) : wo H b c = H c := if_neg h
theorem wo_at {H : Hp} {b : Addr} : wo H b b = none := if_pos rfl
theorem wo_of {H : Hp} {b c : Addr} {o : HO} (h : wo H b c = some o) : c ≠ b ∧ H c = some o := by
  by_cases e : c = b
  · rw [e, wo_at] at h
    cases h
  · exact ⟨e, (wo_ne e).symm.trans h⟩
theorem wo_sub (H : Hp) (b : Addr) : Same (wo H b) H := fun _ _ h => (wo_of h).2
/-- all but b stands; b keeps its row of numbers -/
def Sb (b : Addr) (H H' : Hp) : Prop := Same (wo H b) (wo H' b) ∧ ∀ (n0 n1 n2 : Int) (l : Addr), H b = some (.lst [.int n0, .int n1, .int n2, .ref l]) → ∃ m0 m1 m2 : Int, H' b = some (.lst [.int m0, .int m1, .int m2, .ref l])
theorem Sb.refl (b : Addr) (H : Hp) : Sb b H H := ⟨Same.refl _, fun n0 n1 n2 _ h => ⟨n0, n1, n2, h⟩⟩
theorem Sb.trans {b : Addr} {H H1 H2 : Hp} (h : Sb b H H1) (g : Sb b H1 H2) : Sb b H H2 := ⟨Same.trans h.1 g.1, fun n0 n1 n2 l e => by
  obtain ⟨m0, m1, m2, e1⟩ := h.2 n0 n1 n2 l e
  exact g.2 _ _ _ _ e1⟩
theorem Sb.get {b c : Addr} {H H' : Hp} {o : HO} (h : Sb b H H') (e : H c = some o) (n : c ≠ b) : H' c = some o := (wo_of (h.1 c o ((wo_ne n).trans e))).2
theorem Sb.new {b p : Addr} {H H' : Hp} {o : HO} (h : Sb b H H') (n : H' p = none) : Sb b H (upd H' p o) := ⟨fun c u e => by
  have q := h.1 c u e
  obtain ⟨q1, q2⟩ := wo_of q
  rw [wo_ne q1, upd_ne (ne_of_none q2 n)]
  exact q2, fun n0 n1 n2 l e => by
  obtain ⟨m0, m1, m2, e1⟩ := h.2 n0 n1 n2 l e
  exact ⟨m0, m1, m2, by rw [upd_ne (ne_of_none e1 n)]; exact e1⟩⟩
theorem Sb.put {b l : Addr} {H H' : Hp} {n0 n1 n2 m0 m1 m2 : Int} (h : Sb b H H') (e0 : H' b = some (.lst [.int n0, .int n1, .int n2, .ref l])) : Sb b H (upd H' b (.lst [.int m0, .int m1, .int m2, .ref l])) := ⟨fun c u e => by
  obtain ⟨q1, q2⟩ := wo_of (h.1 c u e)
  rw [wo_ne q1, upd_ne q1]
  exact q2, fun k0 k1 k2 l' e => by
  obtain ⟨j0, j1, j2, e1⟩ := h.2 _ _ _ _ e
  rw [e0] at e1
  cases e1
  exact ⟨m0, m1, m2, upd_same⟩⟩
theorem Sb.same {b : Addr} {H H' H2 : Hp} (h : Sb b H H') (m : Same H' H2) : Sb b H H2 := ⟨fun c u e => by
  obtain ⟨q1, q2⟩ := wo_of (h.1 c u e)
  rw [wo_ne q1]
  exact m _ _ q2, fun n0 n1 n2 l e => by
  obtain ⟨m0, m1, m2, e1⟩ := h.2 n0 n1 n2 l e
  exact ⟨m0, m1, m2, m _ _ e1⟩⟩
/-- the bag at b -/
def Bag (H : Hp) (b : Addr) : Prop := ∃ (n0 n1 n2 : Int) (l : Addr) (ns : List Int), H b = some (.lst [.int n0, .int n1, .int n2, .ref l]) ∧ H l = some (.lst (ns.map V.int)) ∧ l ≠ b ∧ 0 ≤ n0 ∧ 0 ≤ n1 ∧ n1 < 2147483647 ∧ 0 ≤ n2 ∧ (∀ n ∈ ns, 0 ≤ n) ∧ ns.length ≤ 63
theorem Bag.new {H : Hp} {b p : Addr} {o : HO} (h : Bag H b) (n : H p = none) : Bag (upd H p o) b := by
  obtain ⟨n0, n1, n2, l, ns, h1, h2, r⟩ := h
  exact ⟨n0, n1, n2, l, ns, by rw [upd_ne (ne_of_none h1 n)]; exact h1, by rw [upd_ne (ne_of_none h2 n)]; exact h2, r⟩
theorem Bag.keep {H H' : Hp} {b : Addr} (h : Bag H b) (m : Same H H') : Bag H' b := by
  obtain ⟨n0, n1, n2, l, ns, h1, h2, r⟩ := h
  exact ⟨n0, n1, n2, l, ns, m _ _ h1, m _ _ h2, r⟩
theorem Bag.ne {H : Hp} {b p : Addr} (h : Bag H b) (n : H p = none) : p ≠ b := fun e => by
  obtain ⟨_, _, _, _, _, h1, _⟩ := h
  rw [e, h1] at n
  cases n
/-- a place that was free at first is written: the bag stands -/
theorem Bag.wr {H H' : Hp} {b p : Addr} {o : HO} (h : Bag H b) (n : H p = none) (s : Sb b H H') (g : Bag H' b) : Bag (upd H' p o) b := by
  obtain ⟨n0, n1, n2, l, ns, h1, h2, h3, _⟩ := id h
  obtain ⟨k0, k1, k2, l', ns', g1, g2, r⟩ := g
  obtain ⟨m0, m1, m2, e⟩ := s.2 _ _ _ _ h1
  rw [g1] at e
  cases e
  exact ⟨_, _, _, _, ns', by rw [upd_ne (h.ne n).symm]; exact g1, by rw [upd_ne (ne_of_none h2 n)]; exact g2, r⟩
theorem Sb.wr {b p : Addr} {H H' : Hp} {o : HO} (s : Sb b H H') (n : H p = none) : Sb b H (upd H' p o) := ⟨fun c u e => by
  obtain ⟨q1, q2⟩ := wo_of (s.1 c u e)
  rw [wo_ne q1, upd_ne (ne_of_none (wo_of e).2 n)]
  exact q2, fun n0 n1 n2 l e => by
  obtain ⟨m0, m1, m2, e1⟩ := s.2 n0 n1 n2 l e
  exact ⟨m0, m1, m2, by rw [upd_ne (ne_of_none e n)]; exact e1⟩⟩
theorem Sb.free {b p : Addr} {H H' : Hp} (h : Sb b H H') (hp : H' p = none) (n : p ≠ b) : H p = none := by
  cases e : H p with
  | none => rfl
  | some o => rw [h.get e n] at hp; cases hp
/-- what stood but for the bag: lists, tuples -/
theorem Sb.sl {K : PySem.W.Frag} {b a : Addr} {H H' : Hp} {xs : List V} (s : Sb b H H') (h : SqL K (wo H b) a xs) : SqL K (wo H' b) a xs := Same.seq s.1 h
theorem wo_same {H H' : Hp} {b : Addr} (m : Same H H') : Same (wo H b) (wo H' b) := fun c o e => by
  obtain ⟨q1, q2⟩ := wo_of e
  rw [wo_ne q1]
  exact m _ _ q2
theorem ints_at {ns : List Int} {i : Nat} {v : V} (h : (ns.map V.int)[i]? = some v) : ∃ z, ns[i]? = some z ∧ v = .int z := by
  rw [List.getElem?_map] at h
  obtain ⟨z, e, q⟩ := Option.map_eq_some_iff.mp h
  exact ⟨z, e, q.symm⟩
theorem cut_ints (ns : List Int) (lo hi : Option Int) : ∃ ms : List Int, cutV (ns.map V.int) lo hi = ms.map V.int ∧ (∀ n ∈ ms, n ∈ ns) ∧ ms.length ≤ ns.length := by
  refine ⟨(ns.drop (HT.sIx (ns.map V.int).length 0 lo)).take (HT.sIx (ns.map V.int).length (ns.map V.int).length hi - HT.sIx (ns.map V.int).length 0 lo), ?_, fun n h => List.mem_of_mem_drop (List.mem_of_mem_take h), ?_⟩
  · unfold cutV
    rw [List.map_take, List.map_drop]
  · rw [List.length_take, List.length_drop]
    omega
theorem same_new {H H' : Hp} {p : Addr} {o : HO} (h : Same H H') (n : H' p = none) : Same H (upd H' p o) := fun c u e => by
  rw [upd_ne (ne_of_none (h c u e) n)]
  exact h c u e
theorem same_put {H H' : Hp} {p : Addr} {o : HO} (h : Same H H') (n : H p = none) : Same H (upd H' p o) := fun c u e => by
  rw [upd_ne (ne_of_none e n)]
  exact h c u e
/-- a thing put amid is among -/
theorem put_perm {α : Type} {xs ys : List α} {x : α} {i j : Nat} (h : ys.Perm (xs.take i)) (hx : xs[i]? = some x) : (ys.take j ++ [x] ++ ys.drop j).Perm (xs.take (i + 1)) := by
  have e : xs.take (i + 1) = xs.take i ++ [x] := by rw [List.take_succ, hx]; rfl
  rw [e]
  have p1 : (ys.take j ++ [x] ++ ys.drop j).Perm (x :: ys) := by
    rw [List.append_assoc, List.singleton_append]
    refine List.perm_middle.trans ?_
    rw [List.take_append_drop]
  exact p1.trans ((h.cons x).trans (List.perm_append_singleton x (xs.take i)).symm)
/-- what the top has left of the built-in names -/
structure Nat0 (mg : Str → Option Value) : Prop where
  abs : mg "abs" = none
  int : mg "int" = none
  len : mg "len" = none
  repr : mg "repr" = none
  isi : mg "isinstance" = none
  range : mg "range" = none
  sorted : mg "sorted" = none
  tuple : mg "tuple" = none
  list_ : mg "list" = none
  dict : mg "dict" = none
  set_ : mg "set" = none
  sum : mg "sum" = none
  max : mg "max" = none
  min : mg "min" = none
  str : mg "str" = none
  all : mg "all" = none
  any : mg "any" = none
  zip : mg "zip" = none
end Y

namespace Y
open PySem PySem.Spec PyProof.Rows L2 Ns
open C8 (pss_cut)
def spBag (K : PySem.W.Frag) : Sp := fun as H Q _ => ∃ (a : Addr) (ns : List Int), as = [.ref a] ∧ SqL K H a (ns.map V.int) ∧ ns.length ≤ 63 ∧ ∀ (b : Addr) (H' : Hp), Bag H' b → H b = none → Same H H' → Q (.ref b) H'
def spTake : Sp := fun as H Q _ => ∃ (b : Addr) (m : Int), as = [.ref b, .int m] ∧ Bag H b ∧ 0 < m ∧ m.natAbs < 2 ^ 200 ∧ ∀ (v : Int) (H' : Hp), 0 ≤ v → v < m → Bag H' b → Sb b H H' → Q (.int v) H'
section
variable {P : Program} {w : World} {K : PySem.W.Frag} {mg : Str → Option Value} {base : Heap}
theorem scB : FnScope ["script", "cell"] ["script"] (defScope sBag) := ⟨rfl, rfl, rfl, by decide +kernel, rfl, by decide +kernel, by decide +kernel⟩
theorem ok_bag {f : Addr} {fd : FuncData} (F : Fun K "_law_bag" "_law_bag" sBag f fd) (T : Nat0 mg) : FnOk P w K mg base CX0 1 f fd ["script"] (spBag K) := by
  refine F.ok scB (fun as H Q E h => ?_) (fun cdv A outer s H as Q E hr h => ?_)
  · obtain ⟨a, ns, rfl, _⟩ := h
    rfl
  · obtain ⟨a, ns, rfl, hS, hl, k⟩ := h
    refine ⟨_, pss_one (ps_ret (pe_lst (pa_cons pe_int (pa_cons pe_int (pa_cons pe_int (pa_cons
      (pe_lc (own := [("cell", 1)]) (g := gName 1) (tt := tYes) rfl scB.nd (pi_list (pe_slice sl_list (pv 0) po_none (po_some pe_int))) (blkOk_by (N := ["script", "cell"]) (sc := defScope sBag) (by decide +kernel)) (fun _ _ _ _ _ => pg_name (i := 1) scB.nd rfl (Or.inl rfl)) (fun _ _ _ _ _ => pts_nil)
        (fun _ _ _ _ _ => pe_callB call_abs (by rfl) T.abs (by decide +kernel) (pa_cons (pv 1) pa_nil))) pa_nil)))))), ?_⟩
    obtain ⟨ms, ec, hin, hlm⟩ := cut_ints ns none (some 63)
    refine ⟨_, rfl, _, rfl, a, _, rfl, hS, fun p hp => ?_⟩
    rw [ec]
    have lm : ms.length ≤ 63 := Nat.le_trans hlm hl
    refine ⟨p, rfl, ⟨_, .inl (.inl upd_same)⟩, fun D hD => ?_⟩
    refine lc_list (K := K) (a := p) (xs := ms.map V.int) (fun i H' => ∃ ks : List Int, H' D = some (.lst (ks.map V.int)) ∧ ks.length = i ∧ (∀ n ∈ ks, 0 ≤ n) ∧ H' p = some (.lst (ms.map V.int)) ∧ Same H H') ?_ ?_ ?_ ?_
    · have npd : p ≠ D := fun e => by rw [← e, upd_same] at hD; cases hD
      refine ⟨[], upd_same, rfl, (fun _ z => nomatch z), by rw [upd_ne npd, upd_same], fun c o e => ?_⟩
      have hD' : H D = none := by rw [upd_ne npd.symm] at hD; exact hD
      rw [upd_ne (ne_of_none e hD'), upd_ne (ne_of_none e hp)]
      exact e
    · rintro i H' hi ⟨ks, _, _, _, h, _⟩
      exact .inl (.inl h)
    · rintro i x H' hx ⟨ks, h1, h2, h3, h4, h5⟩
      obtain ⟨z, hz, rfl⟩ := ints_at hx
      have hi : i < ms.length := (List.getElem?_eq_some_iff.mp hz).1
      refine ⟨rfl, _, rfl, z, rfl, ks.map V.int, h1, by rw [List.length_map, h2]; exact small1000 (by omega), ks ++ [if z < 0 then -z else z], ?_, ?_, ?_, ?_, ?_⟩
      · rw [upd_same, List.map_append]
        rfl
      · rw [List.length_append, h2]
        rfl
      · intro n hn
        rcases List.mem_append.mp hn with q | q
        · exact h3 n q
        · rw [List.mem_singleton] at q
          subst q
          split <;> omega
      · have npd : p ≠ D := fun e => by rw [← e, upd_same] at hD; cases hD
        rw [upd_ne npd]
        exact h4
      · intro c o e
        have hD' : H D = none := by
          have npd : p ≠ D := fun e => by rw [← e, upd_same] at hD; cases hD
          rw [upd_ne npd.symm] at hD
          exact hD
        rw [upd_ne (ne_of_none e hD')]
        exact h5 c o e
    · rintro H' ⟨ks, h1, h2, h3, h4, h5⟩
      rw [List.length_map] at h2
      refine ⟨by show 4 ≤ sizeLine; decide, fun b hb => ?_⟩
      refine k b _ ⟨0, 1234567891, 0, D, ks, upd_same, by rw [upd_ne (ne_of_none h1 hb)]; exact h1, ne_of_none h1 hb, by decide, by decide, by decide, by decide, h3, by omega⟩ (h5.free hb) fun c o e => ?_
      rw [upd_ne (ne_of_none (h5 c o e) hb)]
      exact h5 c o e
end
section
variable {P : Program} {w : World} {K : PySem.W.Frag} {mg : Str → Option Value} {base : Heap}
theorem scT : FnScope ["bag", "many", "cell", "stirred", "value", "begin", "second"] ["bag", "many"] (defScope sTake) := ⟨rfl, rfl, rfl, by decide +kernel, rfl, by decide +kernel, by decide +kernel⟩
theorem at0 {α : Type} {x : α} {xs : List α} : atI (x :: xs) (0 : Int) = some x := atI_nat (j := 0) rfl
theorem at1 {α : Type} {x y : α} {xs : List α} : atI (x :: y :: xs) (1 : Int) = some y := atI_nat (j := 1) rfl
theorem at2 {α : Type} {x y z : α} {xs : List α} : atI (x :: y :: z :: xs) (2 : Int) = some z := atI_nat (j := 2) rfl
theorem at3 {α : Type} {x y z u : α} {xs : List α} : atI (x :: y :: z :: u :: xs) (3 : Int) = some u := atI_nat (j := 3) rfl
theorem fm {x m : Int} (h : 0 < m) : 0 ≤ x.fmod m ∧ x.fmod m < m := by
  rw [Int.fmod_eq_emod_of_nonneg x (by omega)]
  exact ⟨Int.emod_nonneg _ (by omega), Int.emod_lt_of_pos _ h⟩
theorem head_int {ms : List Int} (h : ∀ n ∈ ms, 0 ≤ n) : ∃ z : Int, 0 ≤ z ∧ atI (ms.map V.int ++ [V.int 0]) (0 : Int) = some (.int z) := by
  cases ms with
  | nil => exact ⟨0, by decide, at0⟩
  | cons n ms => exact ⟨n, h n List.mem_cons_self, at0⟩
theorem ok_take {f : Addr} {fd : FuncData} (F : Fun K "_law_take" "_law_take" sTake f fd) (T : Nat0 mg) : FnOk P w K mg base CX0 1 f fd ["bag", "many"] spTake := by
  refine F.ok scT (fun as H Q E h => ?_) (fun cdv A outer s H as Q E hr h => ?_)
  · obtain ⟨b, m, rfl, _⟩ := h
    rfl
  · obtain ⟨b, m, rfl, hB, hm, hmz, k⟩ := h
    refine ⟨_, pss_cut (ps_if (pt_cmpR op_eq (pe_ix ix_list (pv 0) pe_int (fun _ _ => rfl)) pe_int (nomark _))
        (pss_cons (ps_set (i := 2) scT.nd rfl (.inl rfl) (pe_ix ix_list (pe_op op_cat (pe_slice sl_list (pe_ix ix_list (pv 0) pe_int (fun _ _ => rfl)) (po_some (pe_ix ix_list (pv 0) pe_int (fun _ _ => rfl))) po_none) (pe_lst (pa_cons pe_int pa_nil))) pe_int (fun _ _ => rfl)))
        (pss_cons (ps_augS (pv 0) pe_int get_list pe_int ip_add set_list)
        (pss_cut (ps_if (pt_cmpR op_ge (pv 2) (pe_op op_pow pe_int pe_int) (nomark _)) (pss_one (ps_asg (pv 2) (pg_sub (pv 0) pe_int set_list))) pss_nil)
        (pss_cons (ps_set (i := 3) scT.nd rfl (.inl rfl) (pe_op op_add (pe_op op_add (pe_op op_mul (pe_ix ix_list (pv 0) pe_int (fun _ _ => rfl)) pe_int)
            (pe_op op_modN (pe_callTy call_int1 (by rfl) T.int (by decide +kernel) (pa_cons (pv 2) pa_nil)) pe_int)) (pe_op op_mul pe_int (pe_ix ix_list (pv 0) pe_int (fun _ _ => rfl)))))
        (pss_one (ps_asg (pe_op op_modN (pe_callTy call_int1 (by rfl) T.int (by decide +kernel) (pa_cons (pv 3) pa_nil)) pe_int) (pg_sub (pv 0) pe_int set_list))))))) pss_nil)
      (pss_cons (ps_if (pt_cmpR op_gt (pe_ix ix_list (pv 0) pe_int (fun _ _ => rfl)) pe_int (nomark _))
        (pss_cons (ps_set (i := 4) scT.nd rfl (.inl rfl) (pe_op op_modN (pe_callTy call_int1 (by rfl) T.int (by decide +kernel) (pa_cons (pe_ix ix_list (pv 0) pe_int (fun _ _ => rfl)) pa_nil)) (pv 1)))
        (pss_cons (ps_asg (pe_op op_fdivW (pe_callTy call_int1 (by rfl) T.int (by decide +kernel) (pa_cons (pe_ix ix_list (pv 0) pe_int (fun _ _ => rfl)) pa_nil)) (pv 1)) (pg_sub (pv 0) pe_int set_list))
        (pss_one (ps_ret (pv 4))))) pss_nil)
      (pss_cons (ps_set (i := 5) scT.nd rfl (.inl rfl) (pe_op op_modN (pe_callTy call_int1 (by rfl) T.int (by decide +kernel) (pa_cons (pe_op op_mul (pe_op op_add (pe_ix ix_list (pv 0) pe_int (fun _ _ => rfl)) pe_int) pe_int) pa_nil)) pe_int))
      (pss_cons (ps_set (i := 6) scT.nd rfl (.inl rfl) (pe_op op_modN (pe_callTy call_int1 (by rfl) T.int (by decide +kernel) (pa_cons (pe_op op_mul (pe_op op_modN (pe_callTy call_int1 (by rfl) T.int (by decide +kernel) (pa_cons (pe_op op_mul (pv 5) (pv 5)) pa_nil)) pe_int) pe_int) pa_nil)) pe_int))
      (pss_one (ps_ret (pe_op op_modN (pe_callTy call_int1 (by rfl) T.int (by decide +kernel) (pa_cons (pe_op op_fdivN (pv 6) pe_int) pa_nil)) (pv 1))))))), ?_⟩
    refine ⟨fun σ' H' => ∃ c s : Option V, σ' = [some (.ref b), some (.int m), c, s, none, none, none] ∧ Bag H' b ∧ Sb b H H', ?_, ?_⟩
    · obtain ⟨n0, n1, n2, l, ns, h1, h2, hlb, z0, z1, z1', z2, hn, hlen⟩ := id hB
      refine ⟨_, rfl, b, _, _, _, rfl, rfl, SqL.of h1, at0, rfl, _, rfl, ?_⟩
      refine ite2 (fun c => ?_) (fun c => ⟨none, none, rfl, hB, Sb.refl _ _⟩)
      obtain ⟨ms, ec, hin, hlm⟩ := cut_ints ns (some n2) none
      refine ⟨_, rfl, b, _, _, _, rfl, rfl, SqL.of h1, at3, _, rfl, b, _, _, _, rfl, rfl, SqL.of h1, at2, n2, rfl, l, _, rfl, SqL.of h2, fun p hp => ?_⟩
      rw [ec]
      refine ⟨by show 1 ≤ sizeLine; decide, fun q hq => ?_⟩
      have npq : p ≠ q := fun e => by rw [← e, upd_same] at hq; cases hq
      have lmz : (ms.map V.int).length + [V.int 0].length ≤ sizeLine := by
        rw [List.length_map]
        exact Nat.le_of_lt (small1000 (show ms.length + 1 ≤ 1000 by omega))
      refine ⟨p, q, _, _, rfl, rfl, by rw [upd_ne npq, upd_same], upd_same, lmz, fun r hr => ?_⟩
      obtain ⟨z, hz, hat⟩ := head_int (ms := ms) fun n h => hn n (hin n h)
      refine ⟨r, _, _, _, rfl, rfl, SqL.of upd_same, hat, ?_⟩
      have hb3 : upd (upd (upd H p (.lst (ms.map V.int))) q (.lst [V.int 0])) r (.lst (ms.map V.int ++ [V.int 0])) b = some (.lst [.int n0, .int n1, .int n2, .ref l]) := by
        have e1 : upd H p (.lst (ms.map V.int)) b = some (.lst [.int n0, .int n1, .int n2, .ref l]) := by rw [upd_ne (ne_of_none h1 hp)]; exact h1
        have e2 : upd (upd H p (.lst (ms.map V.int))) q (.lst [V.int 0]) b = some (.lst [.int n0, .int n1, .int n2, .ref l]) := by rw [upd_ne (ne_of_none e1 hq)]; exact e1
        rw [upd_ne (ne_of_none e2 hr)]
        exact e2
      have hl3 : upd (upd (upd H p (.lst (ms.map V.int))) q (.lst [V.int 0])) r (.lst (ms.map V.int ++ [V.int 0])) l = some (.lst (ns.map V.int)) := by
        have e1 : upd H p (.lst (ms.map V.int)) l = some (.lst (ns.map V.int)) := by rw [upd_ne (ne_of_none h2 hp)]; exact h2
        have e2 : upd (upd H p (.lst (ms.map V.int))) q (.lst [V.int 0]) l = some (.lst (ns.map V.int)) := by rw [upd_ne (ne_of_none e1 hq)]; exact e1
        rw [upd_ne (ne_of_none e2 hr)]
        exact e2
      have sb3 : Sb b H (upd (upd (upd H p (.lst (ms.map V.int))) q (.lst [V.int 0])) r (.lst (ms.map V.int ++ [V.int 0]))) := (((Sb.refl b H).new hp).new hq).new hr
      generalize upd (upd (upd H p (.lst (ms.map V.int))) q (.lst [V.int 0])) r (.lst (ms.map V.int ++ [V.int 0])) = H3 at hb3 hl3 sb3 ⊢
      refine ⟨_, rfl, b, _, _, _, rfl, rfl, SqL.of hb3, at2, n2, 1, rfl, rfl, b, _, _, 2, rfl, rfl, hb3, rfl, ?_⟩
      refine ⟨fun σ' H' => ∃ n0' : Int, σ' = [some (.ref b), some (.int m), some (.int z), none, none, none, none] ∧ H' b = some (.lst [.int n0', .int n1, .int (n2 + 1), .ref l]) ∧ H' l = some (.lst (ns.map V.int)) ∧ 0 ≤ n0' ∧ Sb b H H', ?_, ?_⟩
      · have hb4 : upd H3 b (.lst (([.int n0, .int n1, .int n2, .ref l] : List V).set 2 (.int (n2 + 1)))) b = some (.lst [.int n0, .int n1, .int (n2 + 1), .ref l]) := upd_same
        have hl4 : upd H3 b (.lst (([.int n0, .int n1, .int n2, .ref l] : List V).set 2 (.int (n2 + 1)))) l = some (.lst (ns.map V.int)) := by rw [upd_ne hlb]; exact hl3
        have sb4 : Sb b H (upd H3 b (.lst (([.int n0, .int n1, .int n2, .ref l] : List V).set 2 (.int (n2 + 1))))) := sb3.put hb3
        generalize upd H3 b (.lst (([.int n0, .int n1, .int n2, .ref l] : List V).set 2 (.int (n2 + 1)))) = H4 at hb4 hl4 sb4 ⊢
        refine ⟨_, rfl, 10, 18, rfl, rfl, ⟨by decide, by decide, by decide⟩, z, _, rfl, rfl, _, rfl, ?_⟩
        refine ite2 (fun _ => ?_) (fun _ => ⟨n0, rfl, hb4, hl4, z0, sb4⟩)
        exact ⟨_, rfl, _, rfl, b, _, _, 0, rfl, rfl, hb4, rfl, z, rfl, upd_same, by rw [upd_ne hlb]; exact hl4, hz, sb4.put hb4⟩
      · rintro σ' H' ⟨n0', rfl, hb5, hl5, z0', sb5⟩
        refine ⟨_, rfl, b, _, _, _, rfl, rfl, SqL.of hb5, at1, n1, _, rfl, rfl, .inl ⟨by omega, by omega⟩, _, rfl, .inl ⟨z, rfl, z, _, rfl, rfl, (show (2147483647 : Int) ≠ 0 by decide), _, _, rfl, rfl, _, rfl, b, _, _, _, rfl, rfl, SqL.of hb5, at2, 7919, _, rfl, rfl, .inl ⟨by decide, by decide⟩, _, _, rfl, rfl, ?_⟩⟩
        refine ⟨_, rfl, .inl ⟨_, rfl, _, _, rfl, rfl, (show (2147483647 : Int) ≠ 0 by decide), _, rfl, b, _, _, 1, rfl, rfl, hb5, rfl, ?_⟩⟩
        exact ⟨_, _, rfl, ⟨n0', _, n2 + 1, l, ns, upd_same, by rw [upd_ne hlb]; exact hl5, hlb, z0', (fm (by decide)).1, (fm (by decide)).2, by omega, hn, hlen⟩, sb5.put hb5⟩
    · rintro σ' H' ⟨c, s', rfl, hB', sb⟩
      obtain ⟨n0, n1, n2, l, ns, h1, h2, hlb, z0, z1, z1', z2, hn, hlen⟩ := id hB'
      refine ⟨_, rfl, b, _, _, _, rfl, rfl, SqL.of h1, at0, _, _, rfl, rfl, _, rfl, ?_⟩
      refine ite2 (fun _ => ?_) (fun _ => ?_)
      · refine ⟨_, rfl, b, _, _, _, rfl, rfl, SqL.of h1, at0, .inl ⟨n0, rfl, _, rfl, n0, m, rfl, rfl, by omega, ?_⟩⟩
        refine ⟨_, rfl, b, _, _, _, rfl, rfl, SqL.of h1, at0, .inl ⟨n0, rfl, _, rfl, n0, m, rfl, rfl, wide_div hm hmz (by decide) (by decide), _, rfl, b, _, _, 0, rfl, rfl, h1, rfl, ?_⟩⟩
        refine ⟨_, rfl, k _ _ (fm hm).1 (fm hm).2 ⟨n0 / m, n1, n2, l, ns, upd_same, by rw [upd_ne hlb]; exact h2, hlb, Int.ediv_nonneg z0 (by omega), z1, z1', z2, hn, hlen⟩ (sb.put h1)⟩
      · have b1 := fm (x := (n1 + 1) * 39373) (m := 1000000007) (by decide)
        refine ⟨_, rfl, b, _, _, _, rfl, rfl, SqL.of h1, at1, n1, 1, rfl, rfl, n1 + 1, _, rfl, rfl, .inl ⟨by omega, by omega⟩, .inl ⟨_, rfl, _, _, rfl, rfl, (show (1000000007 : Int) ≠ 0 by decide), ?_⟩⟩
        have b2 := fm (x := ((n1 + 1) * 39373).fmod 1000000007 * ((n1 + 1) * 39373).fmod 1000000007) (m := 998244353) (by decide)
        refine ⟨_, rfl, _, rfl, _, _, rfl, rfl, .inl ⟨by omega, by omega⟩, .inl ⟨_, rfl, _, _, rfl, rfl, (show (998244353 : Int) ≠ 0 by decide), _, _, rfl, rfl, .inl ⟨by omega, by omega⟩, .inl ⟨_, rfl, _, _, rfl, rfl, (show (998244353 : Int) ≠ 0 by decide), ?_⟩⟩⟩
        exact ⟨_, rfl, _, _, rfl, rfl, ⟨by decide, by decide⟩, .inl ⟨_, rfl, _, rfl, _, m, rfl, rfl, by omega, k _ _ (fm hm).1 (fm hm).2 hB' sb⟩⟩
end
end Y

namespace Y
open PySem PySem.Spec PyProof.Rows L2 Ns
open C8 (pss_cut)
def spSome (K : PySem.W.Frag) : Sp := fun as H Q _ => ∃ (b a : Addr) (xs : List V), as = [.ref b, .ref a] ∧ Bag H b ∧ SqL K (wo H b) a xs ∧ xs ≠ [] ∧ xs.length ≤ 1000000 ∧ ∀ (x : V) (H' : Hp), x ∈ xs → Bag H' b → Sb b H H' → Q x H'
section
variable {P : Program} {w : World} {K : PySem.W.Frag} {mg : Str → Option Value} {base : Heap}
theorem scS : FnScope ["bag", "things"] ["bag", "things"] (defScope sSome) := ⟨rfl, rfl, rfl, by decide +kernel, rfl, by decide +kernel, by decide +kernel⟩
theorem ok_some {f fT : Addr} {fd fdT : FuncData} (F : Fun K "_law_some" "_law_some" sSome f fd) (T : Nat0 mg) (FT : Fun K "_law_take" "_law_take" sTake fT fdT) (mT : mg "_law_take" = some (.ref fT)) (bT : Binds K fdT ["bag", "many"] []) :
    FnOk P w K mg base CX0 2 f fd ["bag", "things"] (spSome K) := by
  have GT : FnOk P w K mg base CX0 1 fT fdT ["bag", "many"] spTake := ok_take FT T
  refine F.ok scS (fun as H Q E h => ?_) (fun cdv A outer s H as Q E hr h => ?_)
  · obtain ⟨b, a, xs, rfl, _⟩ := h
    rfl
  · obtain ⟨b, a, xs, rfl, hB, hS, hne, hl, k⟩ := h
    have pos : 0 < xs.length := List.length_pos_iff.mpr hne
    refine ⟨_, pss_one (ps_ret (pe_ix ix_list (pv 1) (pe_call GT hr rfl mT FT.kp bT .nil pass0 (pa_cons (pv 0) (pa_cons (pe_callB call_len_seq (by rfl) T.len PySem.boot_len (pa_cons (pv 1) pa_nil)) pa_nil))) (fun _ _ => rfl))), ?_⟩
    refine ⟨_, rfl, _, rfl, _, rfl, a, _, rfl, .inl ((wo_sub H b).seq hS), b, _, rfl, hB, by omega, ?_, fun v H' h0 h1 hB' sb => ?_⟩
    · exact Nat.lt_of_le_of_lt (show ((xs.length : Int)).natAbs ≤ 1000000 by omega) (by decide)
    · have hi : v.toNat < xs.length := by omega
      have e : v = ((v.toNat : Nat) : Int) := by omega
      have hx : xs[v.toNat]? = some xs[v.toNat] := List.getElem?_eq_getElem hi
      obtain ⟨x, ex⟩ : ∃ x, xs[v.toNat]? = some x := ⟨_, hx⟩
      exact ⟨a, xs, v, x, rfl, rfl, (wo_sub H' b).seq (sb.sl hS), by rw [e]; exact atI_nat ex, k _ _ (List.mem_of_getElem? ex) hB' sb⟩
end
end Y

/-! NsD: how long the text of data is. -/
namespace Ns
open PySem PySem.Spec PyProof.Rows L2
/-- shown in at most m signs, nested at most k deep -/
def Fit (m k : Nat) (d : PyData) : Prop := d.showable = true ∧ d.shown.length ≤ m ∧ d.depth ≤ k
theorem Fit.mono {m m' k k' : Nat} {d : PyData} (h : Fit m k d) (hm : m ≤ m') (hk : k ≤ k') : Fit m' k' d := ⟨h.1, Nat.le_trans h.2.1 hm, Nat.le_trans h.2.2 hk⟩
theorem sum_le {m : Nat} : ∀ {l : List Nat}, (∀ n ∈ l, n ≤ m) → l.sum ≤ l.length * m
  | [], _ => Nat.zero_le _
  | n :: l, h => by
    have h1 := h n List.mem_cons_self
    have h2 := sum_le (l := l) fun k hk => h k (List.mem_cons_of_mem _ hk)
    rw [List.sum_cons, List.length_cons, Nat.succ_mul]
    omega
theorem depthAll_le {k : Nat} : ∀ {ds : List PyData}, (∀ d ∈ ds, d.depth ≤ k) → PyData.depthAll ds ≤ k
  | [], _ => by simp [PyData.depthAll]
  | d :: ds, h => by
    simp only [PyData.depthAll]
    exact Nat.max_le.mpr ⟨h d List.mem_cons_self, depthAll_le fun e he => h e (List.mem_cons_of_mem _ he)⟩
theorem mem_shown : ∀ {ds : List PyData} {t : Str}, t ∈ PyData.shownAll ds → ∃ d ∈ ds, t = d.shown
  | [], t, h => by rw [PyData.shownAll_nil] at h; exact nomatch h
  | d :: ds, t, h => by
    rw [PyData.shownAll_cons] at h
    rcases List.mem_cons.mp h with e | e
    · exact ⟨d, List.mem_cons_self, e⟩
    · obtain ⟨d', h1, h2⟩ := mem_shown e
      exact ⟨d', List.mem_cons_of_mem _ h1, h2⟩
theorem lens_le {m k : Nat} {ds : List PyData} (h : ∀ d ∈ ds, Fit m k d) : ((PyData.shownAll ds).map (·.length)).sum ≤ ds.length * m := by
  have e : ((PyData.shownAll ds).map (·.length)).length = ds.length := by rw [List.length_map, PyData.shownAll_length]
  have z := sum_le (l := (PyData.shownAll ds).map (·.length)) (m := m) fun n hn => by
    obtain ⟨t, ht, rfl⟩ := List.mem_map.mp hn
    obtain ⟨d, hd, rfl⟩ := mem_shown ht
    exact (h d hd).2.1
  rw [e] at z
  exact z
theorem fit_list {m k : Nat} {ds : List PyData} (h : ∀ d ∈ ds, Fit m k d) : Fit (ds.length * (m + 2) + 3) (k + 1) (.list ds) := by
  refine ⟨?_, ?_, ?_⟩
  · simp only [PyData.showable]
    exact showableAll_of fun d hd => (h d hd).1
  · simp only [PyData.shown]
    have z1 := listText_len_le (PyData.shownAll ds)
    have z2 := lens_le h
    rw [PyData.shownAll_length] at z1
    rw [Nat.mul_add]
    omega
  · have e : (PyData.list ds).depth = PyData.depthAll ds + 1 := by simp only [PyData.depth] <;> omega
    rw [e]
    exact Nat.succ_le_succ (depthAll_le fun d hd => (h d hd).2.2)
theorem fit_tuple {m k : Nat} {ds : List PyData} (h : ∀ d ∈ ds, Fit m k d) : Fit (ds.length * (m + 2) + 3) (k + 1) (.tuple ds) := by
  refine ⟨?_, ?_, ?_⟩
  · simp only [PyData.showable]
    exact showableAll_of fun d hd => (h d hd).1
  · simp only [PyData.shown]
    have z1 := tupleText_len_le (PyData.shownAll ds)
    have z2 := lens_le h
    rw [PyData.shownAll_length] at z1
    rw [Nat.mul_add]
    omega
  · have e : (PyData.tuple ds).depth = PyData.depthAll ds + 1 := by simp only [PyData.depth] <;> omega
    rw [e]
    exact Nat.succ_le_succ (depthAll_le fun d hd => (h d hd).2.2)
theorem kvs_le {m k : Nat} : ∀ {kvs : List (PyData × PyData)}, (∀ p ∈ kvs, Fit m k p.1 ∧ Fit m k p.2) → ((PyData.shownKv kvs).map (·.length)).sum ≤ kvs.length * (2 * m + 2) ∧ PyData.depthKv kvs ≤ k
  | [], _ => by simp [PyData.shownKv, PyData.depthKv]
  | (a, b) :: r, h => by
    obtain ⟨h1, h2⟩ := h (a, b) List.mem_cons_self
    obtain ⟨z1, z2⟩ := kvs_le (kvs := r) fun p hp => h p (List.mem_cons_of_mem _ hp)
    have e : (a.shown ++ ": " ++ b.shown).length = a.shown.length + 2 + b.shown.length := by
      rw [strLen_append, strLen_append]
      rfl
    have y1 := h1.2.1
    have y2 := h2.2.1
    refine ⟨?_, ?_⟩
    · rw [PyData.shownKv_cons, List.map_cons, List.sum_cons, List.length_cons, Nat.succ_mul, e]
      have y1' : a.shown.length ≤ m := y1
      have y2' : b.shown.length ≤ m := y2
      omega
    · have y3 : a.depth ≤ k := h1.2.2
      have y4 : b.depth ≤ k := h2.2.2
      simp only [PyData.depthKv]
      omega
theorem fit_dict {m k : Nat} {kvs : List (PyData × PyData)} (h : ∀ p ∈ kvs, Fit m k p.1 ∧ Fit m k p.2) : Fit (kvs.length * (2 * m + 4) + 3) (k + 1) (.dict kvs) := by
  obtain ⟨z1, z2⟩ := kvs_le h
  refine ⟨?_, ?_, ?_⟩
  · simp only [PyData.showable]
    exact showableKv_of fun p hp => ⟨(h p hp).1.1, (h p hp).2.1⟩
  · simp only [PyData.shown]
    have y := dictText_len_le (PyData.shownKv kvs)
    rw [PyData.shownKv_length] at y
    have e : kvs.length * (2 * m + 4) = kvs.length * (2 * m + 2) + 2 * kvs.length := by
      rw [Nat.mul_add, Nat.mul_add]
      omega
    omega
  · have e : (PyData.dict kvs).depth = PyData.depthKv kvs + 1 := by simp only [PyData.depth] <;> omega
    omega
theorem fit_int {i : Int} {n : Nat} (h0 : 0 < n) (h : i.natAbs < 10 ^ n) (hn : n ≤ 500) : Fit (n + 1) 0 (.int i) := by
  have z : (10 : Nat) ^ n < 2 ^ 1920 := Nat.lt_of_le_of_lt (Nat.pow_le_pow_right (by decide) hn) (by decide +kernel)
  refine ⟨decide_eq_true (log2_small (Nat.lt_trans h z)), ?_, by simp [PyData.depth]⟩
  rw [PyData.shown_int, PySem.ofString_length]
  exact int_text_length_le10 h0 h
/-- a datum is equal to itself -/
theorem eqv_self {K : PySem.W.Frag} {H : Hp} {x : V} {d : PyData} (D : DatV K H x d) (n : Nat) : EqV K H (n + 1) x x := by
  cases D with
  | non => exact .inl ⟨rfl, rfl⟩
  | bl b => exact .inl ⟨rfl, rfl⟩
  | int i => exact .inl ⟨rfl, rfl⟩
  | str y => exact .inl ⟨rfl, rfl⟩
  | lst _ _ => exact .inr (.inl ⟨_, rfl, rfl⟩)
  | tup _ _ => exact .inr (.inl ⟨_, rfl, rfl⟩)
  | dic _ _ => exact .inr (.inl ⟨_, rfl, rfl⟩)
theorem paired_rep {α β : Type} {F : α → β → Prop} {a : α} {b : β} (h : F a b) : ∀ n : Nat, Paired F (List.replicate n a) (List.replicate n b)
  | 0 => .nil
  | n + 1 => .cons h (paired_rep h n)
theorem datA_rep {K : PySem.W.Frag} {H : Hp} {x : V} {d : PyData} (D : DatV K H x d) : ∀ n : Nat, DatA K H (List.replicate n x) (List.replicate n d)
  | 0 => .nil
  | n + 1 => .cons D (datA_rep D n)
end Ns

/-! NsE: == of equal nested lists, tuples and dicts. -/
namespace Ns
open PySem PySem.Spec PyProof.Rows L2
/-- two tuples of equal items -/
def EqU (K : PySem.W.Frag) (H : Hp) (E : V → V → Prop) (x y : V) : Prop := ∃ a b xs ys, x = .ref a ∧ y = .ref b ∧ SqT K H a xs ∧ SqT K H b ys ∧ Paired E xs ys
/-- equal, of nesting below n, tuples too -/
def EqT (K : PySem.W.Frag) (H : Hp) : Nat → V → V → Prop
  | 0 => fun _ _ => False
  | n + 1 => fun x y => (x = y ∧ flatB x = true) ∨ (∃ a, x = .ref a ∧ y = .ref a) ∨ EqR K H (EqT K H n) x y ∨ EqU K H (EqT K H n) x y
section
variable {X : Cx} {pins : List (Addr × Obj)} {σ : L2.St} {H : Hp} {s : Shared}
theorem eqU_run (I : Inv X pins σ H s) {A : Around} {F : V → V → Prop} (hu : A.units < cLine) (ih : ∀ x y v u, F x y → RelV x v → RelV y u → SeqAt.EqP X.prog X.w A.in1 s v u true) {x y : V} {v u : Value} (h : EqU X.K H F x y) (rx : RelV x v) (ry : RelV y u)
    (E Q : Value → Shared → Prop) (q : Q (.bool true) s) : wpAny (model X.prog X.w) A (richCompare .Eq v u) Q E s := by
  obtain ⟨a, b, xs, ys, rfl, rfl, ha, hb, hp⟩ := h
  cases (show v = Value.ref a from rx)
  cases (show u = Value.ref b from ry)
  obtain ⟨us, r1, ⟨o1, h1, h2, n1, h3⟩, _⟩ := I.tuple ha
  obtain ⟨ws, r2, ⟨o2, g1, g2, n2, g3⟩, _⟩ := I.tuple hb
  have hsz : us.toArray.size = ws.toArray.size := by
    rw [List.size_toArray, List.size_toArray, ← r1.length, ← r2.length]
    exact Paired.length hp
  refine SeqAt.rcIn_tuples (e := fun _ => true) ⟨o1, h1, h2, n1, h3⟩ ⟨o2, g1, g2, n2, g3⟩ hu (fun j h1 h2 => ?_) ?_
  · have k := items_run ih hp r1 r2 j (by simpa using h1) (by simpa using h2)
    simp only [List.getElem_toArray]
    exact fun E Q q => k E Q q
  · rw [hsz, show ((List.range (min ws.toArray.size ws.toArray.size)).all fun _ => true) = true from List.all_eq_true.mpr fun _ _ => rfl]
    simpa using q
theorem eqT_run (I : Inv X pins σ H s) : ∀ (n : Nat) (A : Around), A.units + n < cLine → ∀ (x y : V) (v u : Value), EqT X.K H n x y → RelV x v → RelV y u → SeqAt.EqP X.prog X.w A s v u true
  | 0, _, _, _, _, _, _, h, _, _ => (show False from h).elim
  | n + 1, A, hu, x, y, v, u, h, rx, ry => by
    have ih := eqT_run I n A.in1 (by show A.units + 1 + n < cLine; omega)
    rcases h with ⟨rfl, f⟩ | ⟨a, rfl, rfl⟩ | h | h
    · exact (eqAt_same rx ry f).eqP
    · cases (show v = Value.ref a from rx)
      cases (show u = Value.ref a from ry)
      exact (SeqAt.EqAt.same _).eqP
    · have step := eqR_run I (A := A) (by omega) ih h rx ry
      obtain ⟨a, b, rfl, rfl⟩ : ∃ a b, x = .ref a ∧ y = .ref b := by
        rcases h with ⟨a, b, _, _, e1, e2, _⟩ | ⟨a, b, _, _, e1, e2, _⟩
        · exact ⟨a, b, e1, e2⟩
        · exact ⟨a, b, e1, e2⟩
      cases (show v = Value.ref a from rx)
      cases (show u = Value.ref b from ry)
      by_cases e : a = b
      · subst e
        exact (SeqAt.EqAt.same _).eqP
      · exact SeqAt.eqP_refs e step
    · have step := eqU_run I (A := A) (by omega) ih h rx ry
      obtain ⟨a, b, _, _, rfl, rfl, _⟩ := h
      cases (show v = Value.ref a from rx)
      cases (show u = Value.ref b from ry)
      by_cases e : a = b
      · subst e
        exact (SeqAt.EqAt.same _).eqP
      · exact SeqAt.eqP_refs e step
end
/-- flat, or a list, a tuple, a dict, the two of them equal -/
def EqS (K : PySem.W.Frag) (H : Hp) (n : Nat) (x y : V) : Prop := EqR K H (EqT K H n) x y ∨ EqU K H (EqT K H n) x y
section
variable {X : Cx}
/-- a == b, equal: flat ones, or lists, tuples, dicts -/
def rEqT (K : PySem.W.Frag) : R2 := fun x y H Q => ((x = y ∧ ((∃ i, x = .int i) ∨ (∃ z, x = .str z) ∨ x = .non ∨ ∃ b, x = .bl b)) ∨ ∃ n, n ≤ 60 ∧ EqS K H n x y) ∧ Q (.bl true) H
theorem op_eqT (hu : X.A.units + 64 < cLine) : OpR X (compareOp .Eq) (rEqT X.K) := by
  intro pins s σ H x y v u Q I rx ry h
  obtain ⟨h, q⟩ := h
  have qq : EP X pins σ Q (Value.bool true) s := ⟨.bl true, H, I, rfl, q⟩
  rcases h with ⟨rfl, ⟨i, rfl⟩ | ⟨z, rfl⟩ | rfl | ⟨b, rfl⟩⟩ | ⟨n, hn, h | h⟩
  · obtain ⟨t, rfl⟩ := (show ∃ t, v = Value.int i t from rx)
    obtain ⟨t', rfl⟩ := (show ∃ t, u = Value.int i t from ry)
    exact SeqAt.RcAt.int_int i t i t' _ _ _ _ (by rw [beq_self_eq_true]; exact qq)
  · obtain ⟨t, rfl⟩ := (show ∃ t, v = Value.str z t from rx)
    obtain ⟨t', rfl⟩ := (show ∃ t, u = Value.str z t from ry)
    exact SeqAt.RcAt.str_str z t z t' _ _ _ _ (by rw [beq_self_eq_true]; exact qq)
  · cases (show v = Value.none from rx)
    cases (show u = Value.none from ry)
    exact SeqAt.RcAt.none_none _ _ _ _ qq
  · cases (show v = Value.bool b from rx)
    cases (show u = Value.bool b from ry)
    exact SeqAt.RcAt.bool_bool b b _ _ _ _ (by rw [beq_self_eq_true]; exact qq)
  · exact eqR_run I (A := X.A) (by omega) (eqT_run I n X.A.in1 (by show X.A.units + 1 + n < cLine; omega)) h rx ry _ _ qq
  · exact eqU_run I (A := X.A) (by omega) (eqT_run I n X.A.in1 (by show X.A.units + 1 + n < cLine; omega)) h rx ry _ _ qq
end
end Ns

namespace Y
open PySem PySem.Spec PyProof.Rows L2 Ns
/-- equal data: True -/
def spAlike (K : PySem.W.Frag) : Sp := fun as H Q _ => ∃ (x y : V) (d : PyData), as = [x, y] ∧ ((x = y ∧ ((∃ i, x = .int i) ∨ (∃ z, x = .str z) ∨ x = .non ∨ ∃ b, x = .bl b)) ∨ ∃ n, n ≤ 60 ∧ EqS K H n x y) ∧ DatV K H x d ∧ DatV K H y d ∧ d.showable = true ∧ d.shown.length ≤ sizeLine ∧ d.depth ≤ 60 ∧ Q (.bl true) H
section
variable {P : Program} {w : World} {K : PySem.W.Frag} {mg : Str → Option Value} {base : Heap}
theorem scA : FnScope ["found", "due"] ["found", "due"] (defScope sAlike) := ⟨rfl, rfl, rfl, by decide +kernel, rfl, by decide +kernel, by decide +kernel⟩
theorem ok_alike {f : Addr} {fd : FuncData} (F : Fun K "_law_alike" "_law_alike" sAlike f fd) (T : Nat0 mg) : GnOk P w K mg base 1 f fd ["found", "due"] (spAlike K) := by
  refine Fun.okG F scA (fun as H Q E h => ?_) (fun cdv A outer s H as Q E hr hgd h => ?_)
  · obtain ⟨x, y, d, rfl, _⟩ := h
    rfl
  · obtain ⟨x, y, d, rfl, he, dx, dy, hs, hz, hd, k⟩ := h
    have hu : (A.deeper (envOfC "_law_alike" (defScope sAlike) s.heap.objs.size f cdv)).units + 64 < cLine := hr.units
    refine ⟨_, pss_one (ps_ret (pe_and (pe_cmpR (op_eqT hu) (pv 0) (pv 1) (nomark _)) (pe_one (pe_cmpR op_eq
      (pe_callB (call_reprD hgd hu) (by rfl) T.repr (by decide +kernel) (pa_cons (pv 0) pa_nil)) (pe_callB (call_reprD hgd hu) (by rfl) T.repr (by decide +kernel) (pa_cons (pv 1) pa_nil)) (nomark _))))), ?_⟩
    refine ⟨_, rfl, _, rfl, he, true, rfl, ?_⟩
    refine iteT ?_
    refine ⟨_, rfl, x, d, rfl, dx, hs, hz, hd, _, rfl, y, d, rfl, dy, hs, hz, hd, rfl, ?_⟩
    rw [decide_eq_true rfl]
    exact k
end
end Y

/-! NsS: sorted(xs) of data that are alike; sorted(d), d with pairs of texts as keys. -/
namespace Ns
open PySem PySem.Spec PyProof.Rows L2
open PySem.W (dataLe AllAlike Sortable EachIs)
section
variable {X : Cx}
theorem each_vals {bs : List (V × PyData)} : ∀ {out : List Value}, EachIs (fun v (b : V × PyData) => RelV b.1 v) out bs → Vals (bs.map (·.1)) out
  | _, .nil => .nil
  | _, .cons h t => .cons h (each_vals t)
theorem vals_each {bs : List (V × PyData)} : ∀ {us : List Value}, Vals (bs.map (·.1)) us → EachIs (fun v (b : V × PyData) => RelV b.1 v) us bs := by
  induction bs with
  | nil => intro us r; cases r; exact .nil
  | cons b bs ih => intro us r; cases r with
    | cons h t => exact .cons h (ih t)
theorem each_and {α β : Type} {R S : α → β → Prop} : ∀ {as : List α} {bs : List β}, EachIs R as bs → (∀ b ∈ bs, ∀ a, R a b → S a b) → EachIs S as bs
  | _, _, .nil, _ => .nil
  | _, _, .cons h t, k => .cons (k _ List.mem_cons_self _ h) (each_and t fun b hb => k b (List.mem_cons_of_mem _ hb))
/-- sorted(xs): alike data in Python's order -/
def rSortG (K : PySem.W.Frag) : List V → Hp → VK → Prop := fun vs H Q => ∃ (a : Addr) (bs : List (V × PyData)), vs = [V.ref a] ∧ SqL K H a (bs.map (·.1)) ∧ (∀ p ∈ bs, DatV K H p.1 p.2 ∧ p.2.depth ≤ 60) ∧ AllAlike (bs.map (·.2)) ∧ Sortable (bs.map (·.2)) ∧ bs.length ≤ sizeLine ∧
  ∀ p, H p = none → Q (.ref p) (upd H p (.lst ((bs.mergeSort (dataLe false (·.2))).map (·.1))))
theorem cr_sortG (hu : X.A.units + 64 < cLine) : CallR X (.builtin "sorted") (rSortG X.K) := by
  intro pins s σ H vs us Q I r h
  obtain ⟨a, bs, rfl, hs, hD, ha, hk, hz, q⟩ := h
  obtain ⟨its, rv, hl, _⟩ := I.list hs
  rw [Vals.ref1 r]
  have e := vals_each rv
  refine PySem.W.sorted_data (enc := fun b : V × PyData => b.2) hl.isList e (each_and e fun b hb v rb => reads_of I (hD b hb).1 rb) ha hk hz (fun b hb => by have := (hD b hb).2; omega) fun out hlo ho => ?_
  obtain ⟨ep, he'⟩ := PyProof.Rows.sortedAll_at s.heap its out.toArray
  have hlen : ((bs.mergeSort (dataLe false (·.2))).map (·.1)).length ≤ sizeLine := by rw [List.length_map, List.length_mergeSort]; exact hz
  exact ⟨.ref _, upd H (s.heap.objs.size + 1) (.lst ((bs.mergeSort (dataLe false (·.2))).map (·.1))), I.laid (t' := s.toks) (fun _ _ => PyProof.Rows.sortedAll_old) (Nat.le_succ _) ⟨hlen, out, ep, each_vals ho, by simpa using he'⟩, rfl, q _ (I.hok.fresh (Nat.le_succ _))⟩
/-- two rows of one length that agree at each place -/
theorem rows_same {α β : Type} {f : α → β} : ∀ {xs : List β} {ks : List α}, xs.length = ks.length → (∀ (j : Nat) (v : β) (b : α), xs[j]? = some v → ks[j]? = some b → v = f b) → xs = ks.map f
  | [], [], _, _ => rfl
  | v :: xs, b :: ks, hl, h => by
    rw [List.map_cons, h 0 v b rfl rfl, rows_same (Nat.succ.inj hl) fun j u c h1 h2 => h (j + 1) u c h1 h2]
/-- a pair of texts as data -/
def pD (k : Str × Str) : PyData := .tuple [.str k.1, .str k.2]
def pK (k : Str × Str) : List Key := [.inr k.1, .inr k.2]
/-- sorted(d), d with pairs of texts as keys: the keys' own tuples -/
def rSortDT : List V → Hp → VK → Prop := fun vs H Q => ∃ (a : Addr) (kvs : List (List Key × V)) (ks : List (Str × Str)), vs = [V.ref a] ∧ Rd H a (.dT kvs) ∧ kvs.map (·.1) = ks.map pK ∧ ks.length ≤ 1000 ∧
  ∀ (p : Addr) (qs : List Addr), H p = none → Paired (fun (q : Addr) (k : Str × Str) => H q = some (.tup [.str k.1, .str k.2])) qs (ks.mergeSort (dataLe false pD)) → Q (.ref p) (upd H p (.lst (qs.map V.ref)))
theorem isKeys_pairs {H : Hp} : ∀ {kvs : List (List Key × V)} {bs : List Addr} {ks : List (Str × Str)}, IsKeys H kvs bs → kvs.map (·.1) = ks.map pK → Paired (fun (q : Addr) (k : Str × Str) => H q = some (.tup [.str k.1, .str k.2])) bs ks
  | [], _, [], .nil, _ => .nil
  | [], _, _ :: _, _, e => by cases e
  | _ :: _, _, [], _, e => by cases e
  | kv :: kvs, _, k :: ks, .cons h t, e => by
    injection e with e1 e2
    refine .cons ?_ (isKeys_pairs t e2)
    rw [show kv.1 = pK k from e1] at h
    exact h
theorem pair_each {R : Addr → Str × Str → Prop} : ∀ {qs : List Addr} {ks : List (Str × Str)}, Paired R qs ks → EachIs (fun v k => ∃ q, v = Value.ref q ∧ R q k) (qs.map Value.ref) ks
  | _, _, .nil => .nil
  | _, _, .cons h t => .cons ⟨_, rfl, h⟩ (pair_each t)
theorem each_pair {R : Addr → Str × Str → Prop} : ∀ {out : List Value} {ks : List (Str × Str)}, EachIs (fun v k => ∃ q, v = Value.ref q ∧ R q k) out ks → ∃ qs : List Addr, out = qs.map Value.ref ∧ Paired R qs ks
  | _, _, .nil => ⟨[], rfl, .nil⟩
  | _, _, .cons ⟨q, e, h⟩ t => by
    obtain ⟨qs, e2, p⟩ := each_pair t
    exact ⟨q :: qs, by rw [e, e2]; rfl, .cons h p⟩
theorem alike_pD (ks : List (Str × Str)) : AllAlike (ks.map pD) := AllAlike.of fun _ _ => by simp [PySem.W.alike, PySem.W.alikeAll, pD]
theorem sortable_pD (ks : List (Str × Str)) : Sortable (ks.map pD) := Sortable.tuples fun _ => ⟨_, _, rfl⟩
theorem cr_sortDT (hc : X.calm = true) (hu : X.A.units + 64 < cLine) : CallR X (.builtin "sorted") rSortDT := by
  intro pins s σ H xs us Q I r h
  obtain ⟨d, kvs, kk, rfl, hd, hkk, h1000, q⟩ := h
  obtain ⟨u, rfl, rx⟩ := r.one
  cases rx
  obtain ⟨z, hs, ks, pr, o, es, ep, ho, hx, hdt, he, hn⟩ := (show ObjOk X.prog X.w H s.heap d (.dT kvs) from hd.ok I.hok)
  have l1 : es.size = ks.length := size_of_entries he
  have l2 : kvs.length = ks.length := Paired.length pr
  have l3 : kvs.length = kk.length := by
    have := congrArg List.length hkk
    rw [List.length_map, List.length_map] at this
    exact this
  have z16 : sizeLine = 16777216 := sizeLine_eq
  refine Calls.call_function_entry PyProof.Rows.kind_sorted PyProof.Rows.plain_sorted PyProof.Rows.entry_sorted (PyProof.Rows.args_sorted1 _) ?_
  unfold Builtin.«sorted»
  refine wpAny_bind (m := checkCount "sorted" 1 1 _) (wpAny_pure ?_)
  refine wpAny_bind (PySem.W.kdu_collect (A := X.A.in1) (kdl_raw hs hx hdt) (I.ok.hd hc) ho (by omega) fun h' tk acc hk it => ?_)
  have hsz : acc.toList.length = ks.length := (Array.length_toList).trans (it.1.trans l1)
  have ea : acc.toList = ks.map fun x => Value.ref x.2.1 := by
    refine rows_same hsz fun j v b hv hb => ?_
    obtain ⟨en, hen, rfl⟩ := it.2 j v ((Array.getElem?_toList).symm.trans hv)
    have q := (entry_at he j).symm.trans hen
    rw [hb] at q
    cases q
    rfl
  have eb : acc.toList = (ks.map fun x => x.2.1).map Value.ref := by rw [ea, List.map_map]; all_goals rfl
  have hP := isKeys_pairs (isKeys_of pr) hkk
  have hal : acc.toList.length = kk.length := by rw [Array.length_toList, it.1, l1, ← l2, l3]
  have I1 : Inv X pins σ H { s with heap := h', toks := tk } := I.kept hk
  refine wpAny_bind (wpAny_newList ?_ (by rw [hal]; omega))
  have hoL : (h'.push (seqObj "list" acc.toList.toArray 0)).get? h'.objs.size = some (seqObj "list" acc.toList.toArray 0) := Heap.get?_push_size _ rfl
  show wpAny _ _ _ _ _ { s with heap := h'.push (seqObj "list" acc.toList.toArray 0), toks := tk }
  have e0 : EachIs (fun v (k : Str × Str) => ∃ q, v = Value.ref q ∧ H q = some (.tup [.str k.1, .str k.2])) acc.toList kk := by
    rw [eb]
    exact pair_each hP
  refine wpAny_bind (wpAny_holding (PySem.W.list_sort_data (enc := pD) (s := { s with heap := h'.push (seqObj "list" acc.toList.toArray 0), toks := tk }) hoL e0 (each_and e0 fun k _ v rv => ?_) (alike_pD kk) (sortable_pD kk) (by omega) (fun k _ => ?_) fun out hlo hO => ?_))
  · obtain ⟨q, rfl, hq⟩ := rv
    obtain ⟨_, its, rv2, ot, hot, hct, nt, hdtt⟩ := (show ObjOk X.prog X.w H h' q (.tup [.str k.1, .str k.2]) from I1.hok q _ hq)
    obtain ⟨u1, u2, rfl, r1, r2⟩ := rv2.two
    obtain ⟨t1, rfl⟩ := r1
    obtain ⟨t2, rfl⟩ := r2
    refine ⟨[], Reads.tuple (Heap.get?_push_of_some _ hot) hct hdtt ?_, fun z => nomatch z⟩
    exact ReadsAll.cons (as := []) (bs := []) (.str _ _) (ReadsAll.cons (as := []) (bs := []) (.str _ _) .nil)
  · have : (pD k).depth = 1 := by simp [pD, PyData.depth, PyData.depthAll]
    show X.A.units + 1 + 1 + _ < _
    omega
  · obtain ⟨qs, eo, pq⟩ := each_pair hO
    obtain ⟨e', he'⟩ := PyProof.Rows.sortedHeap_at (vs := acc.toList) (out := out.toArray) hoL
    have hlen : (qs.map V.ref).length ≤ sizeLine := by
      have : out.length = qs.length := by rw [eo, List.length_map]
      rw [List.length_map]
      omega
    refine wpAny_pure ⟨_, rfl, .ref h'.objs.size, upd H h'.objs.size (.lst (qs.map V.ref)), I1.laid (t' := tk) (fun b u e => ?_) (Nat.le_refl _)
      (show ObjOk X.prog X.w _ _ _ (.lst (qs.map V.ref)) from ⟨hlen, out, e', by rw [eo]; exact vals_refs qs, by simpa using he'⟩), rfl, q _ qs (I1.hok.fresh (Nat.le_refl _)) pq⟩
    have hb : b < h'.objs.size := Heap.lt_size e
    rw [PyProof.Rows.sortedHeap_old (Nat.ne_of_lt hb) (by rw [size_push']; exact Nat.lt_succ_of_lt hb)]
    exact Heap.get?_push_of_some _ e
end
end Ns

/-! NsU: d.update(e), two dicts; the values and the items of a dict. -/
namespace Ns
open PySem PySem.Spec PyProof.Rows L2
open L2.DX (itemsO itemsO_ok takeT)
theorem mergeK_len : ∀ (more kvs : List (Key × V)), (mergeK kvs more).length ≤ kvs.length + more.length
  | [], kvs => Nat.le_refl _
  | p :: more, kvs => by
    have h1 := mergeK_len more (putK kvs p.1 p.2)
    have h2 := length_putK kvs p.1 p.2
    show (mergeK (putK kvs p.1 p.2) more).length ≤ _
    rw [List.length_cons]
    omega
section
variable {X : Cx}
def rDUpd : V → List V → Hp → VK → Prop := fun x xs H Q => ∃ (a b : Addr) (kvs more : List (Key × V)), x = .ref a ∧ xs = [.ref b] ∧ a ≠ b ∧ H a = some (.dK kvs) ∧ H b = some (.dK more) ∧ kvs.length + more.length ≤ sizeLine ∧ Q .non (upd H a (.dK (mergeK kvs more)))
theorem mt_dupd : MtR X "dict.update" rDUpd := by
  intro pins s σ H x xs v us Q I rx rxs h
  obtain ⟨a, b, kvs, more, rfl, rfl, hab, ha, hb, hz, q⟩ := h
  cases rx
  obtain ⟨u, rfl, ru⟩ := vals1 rxs
  cases ru
  obtain ⟨_, da, va, ka, oa⟩ := dk_of I.hok ha
  obtain ⟨_, db, vb, kb, ob⟩ := dk_of I.hok hb
  have lens : va.length + vb.length ≤ sizeLine := by rw [← ka.length, ← kb.length]; exact hz
  refine call_meetsIn PySem.F.slot_dict_update oa.typeIs PySem.F.entry_dict_update (PySem.F.args_dict_update_2 _ _) (meets_dict_update (mixKind X.prog X.w) a b hab db) ⟨va, vb, oa, ob, lens, fun h' m1 _ sb => ?_⟩
  have there : ∃ q, h'.get? a = some q := by
    obtain ⟨q, _, _, hq, _⟩ := m1
    exact ⟨q, hq⟩
  exact ⟨.non, _, d_write (t' := s.toks) I (by rw [ha]; trivial) sb there (dk_new (Nat.le_trans (mergeK_len more kvs) hz) da (KV.merge kb ka) m1), rfl, q⟩
/-- the view d.values() at p -/
def valsO (p d : Addr) : HO := .ext fun h => h.IsValuesView p d
theorem valsO_ok {P : Program} {w : World} {H : Hp} {h : Heap} {p d : Addr} (e : h.get? p = some { cls := .type "dict_values", data := .fields #[.ref d] }) : ObjOk P w H h p (valsO p d) :=
  ⟨⟨_, e, rfl, rfl⟩, ⟨_, e⟩, fun h1 h2 x k => by
    obtain ⟨o, ho, r⟩ := x
    exact ⟨o, k o ho, r⟩⟩
def rItemsK : V → List V → Hp → VK → Prop := fun x xs H Q => ∃ (a : Addr) (kvs : List (Key × V)), x = .ref a ∧ xs = [] ∧ H a = some (.dK kvs) ∧ ∀ p, H p = none → Q (.ref p) (upd H p (itemsO p a))
def rValsK : V → List V → Hp → VK → Prop := fun x xs H Q => ∃ (a : Addr) (kvs : List (Key × V)), x = .ref a ∧ xs = [] ∧ H a = some (.dK kvs) ∧ ∀ p, H p = none → Q (.ref p) (upd H p (valsO p a))
theorem mt_itemsK : MtR X "dict.items" rItemsK := by
  intro pins s σ H x xs v us Q I rx rxs h
  obtain ⟨a, kvs, rfl, rfl, ha, q⟩ := h
  cases rx
  cases rxs
  obtain ⟨_, da, va, ka, oa⟩ := dk_of I.hok ha
  refine call_meetsIn PySem.F.slot_dict_items oa.typeIs PySem.F.entry_dict_items (PySem.F.args_dict_items_1 _) (meets_dict_items (mixKind X.prog X.w) a da) ⟨⟨va, oa⟩, ?_⟩
  exact ⟨.ref s.heap.objs.size, upd H s.heap.objs.size (itemsO s.heap.objs.size a), I.laid (t' := s.toks) (fun b u e => Heap.get?_push_of_some _ e) (Nat.le_refl _) (itemsO_ok (Heap.get?_push_size _ rfl)), rfl, q _ (I.hok.fresh (Nat.le_refl _))⟩
theorem mt_valsK : MtR X "dict.values" rValsK := by
  intro pins s σ H x xs v us Q I rx rxs h
  obtain ⟨a, kvs, rfl, rfl, ha, q⟩ := h
  cases rx
  cases rxs
  obtain ⟨_, da, va, ka, oa⟩ := dk_of I.hok ha
  refine call_meetsIn PySem.F.slot_dict_values oa.typeIs PySem.F.entry_dict_values (PySem.F.args_dict_values_1 _) (meets_dict_values (mixKind X.prog X.w) a da) ⟨⟨va, oa⟩, ?_⟩
  exact ⟨.ref s.heap.objs.size, upd H s.heap.objs.size (valsO s.heap.objs.size a), I.laid (t' := s.toks) (fun b u e => Heap.get?_push_of_some _ e) (Nat.le_refl _) (valsO_ok (Heap.get?_push_size _ rfl)), rfl, q _ (I.hok.fresh (Nat.le_refl _))⟩
/-- sum(d.values()), whole numbers -/
def rSumVals : List V → Hp → VK → Prop := fun xs H Q => ∃ (p a : Addr) (kvs : List (Key × V)) (ns : List Int), xs = [.ref p] ∧ H p = some (valsO p a) ∧ H a = some (.dK kvs) ∧ kvs.map (·.2) = ns.map V.int ∧ Q (.int ns.sum) H
theorem preSum_eq : ∀ ns : List Int, preSum (fun i => ns.getD i 0) ns.length = ns.sum
  | [] => rfl
  | n :: ns => by
    rw [List.length_cons, PySem.W.kdu_shift]
    have ih := preSum_eq ns
    show n + preSum (fun i => ns.getD i 0) ns.length = _
    rw [ih, List.sum_cons]
theorem vals_num {ns : List Int} : ∀ {us : List Value}, Vals (ns.map V.int) us → ∀ (j : Nat) (u : Value), us[j]? = some u → ∃ t, u = .int (ns.getD j 0) t := by
  induction ns with
  | nil => intro us r j u h; cases r; cases h
  | cons n ns ih =>
    intro us r j u h
    cases r with
    | cons a b =>
      cases j with
      | zero =>
        cases h
        exact a
      | succ j => exact ih b j u h
theorem call_sumVals (hc : X.calm = true) : CallR X (.builtin "sum") rSumVals := by
  intro pins s σ H xs us Q I r h
  obtain ⟨p, a, kvs, ns, rfl, hp, ha, hn, q⟩ := h
  obtain rfl := Vals.ref1 r
  have view : s.heap.IsValuesView p a := (show ObjOk X.prog X.w H s.heap p (valsO p a) from I.hok p _ hp).1
  obtain ⟨_, da, va, ka, oa⟩ := dk_of I.hok ha
  obtain ⟨ep, hat⟩ := oa.dictAt
  have src := PySem.W.kdl_values (prog := X.prog) (w := X.w) (knd := mixKind X.prog X.w) (kvs := va) (ep := ep) (r := p) (d := a)
  have ok : s.heap.IsValuesView p a ∧ s.heap.DictAt (mixKind X.prog X.w) a va ep := ⟨view, hat⟩
  have nums := kv_vals ka
  rw [hn] at nums
  have ln : va.length = ns.length := by
    have := nums.length
    rw [List.length_map, List.length_map] at this
    exact this.symm
  refine call_sum_walkAnyS ?_
  obtain ⟨ob, St, step, W, st⟩ := src.iter X.A.in1 s (I.ok.hd hc) ok
  refine step _ _ ⟨s.heap.objs.size, _, _, _, va.length, _, _, fun i => ns.getD i 0, rfl, W.toS, st, fun b hb => ?_, fun i v hv => ?_, fun s' t' hm => ?_⟩
  · have there := src.there _ ok
    have up : s.heap.objs.size < (s.heap.push ob).objs.size := by rw [size_push']; omega
    rcases List.mem_cons.mp hb with e | e
    · rw [e]; exact up
    · rw [List.mem_singleton.mp e]
      exact Nat.lt_trans there.2 up
  · obtain ⟨k, hk⟩ := hv
    exact vals_num nums i v (by rw [List.getElem?_map, hk]; rfl)
  · have kept : ∀ b o, s.heap.get? b = some o → s'.heap.get? b = some o := fun b o e => by
      refine hm.heap b o (fun z => ?_) (Heap.get?_push_of_some _ e)
      have := Heap.lt_size e
      rw [List.mem_singleton.mp z] at this
      exact Nat.lt_irrefl _ this
    rw [Moved.eq_with hm, ln, preSum_eq]
    exact ⟨.int ns.sum, H, I.kept kept, ⟨_, rfl⟩, q⟩
/-- list(d.items()): new pairs -/
def rListItems : List V → Hp → VK → Prop := fun xs H Q => ∃ (p a : Addr) (kvs : List (Key × V)), xs = [.ref p] ∧ H p = some (itemsO p a) ∧ H a = some (.dK kvs) ∧
  ∀ (l : Addr) (ts : List Addr) (H' : Hp), H l = none → Same H H' → H' l = some (.lst (ts.map V.ref)) → Paired (fun (t : Addr) (kv : Key × V) => H' t = some (.tup [kV kv.1, kv.2]) ∧ H t = none) ts kvs → Q (.ref l) H'
theorem key_rel {P : Program} {w : World} {k : Key} {u : Value} (h : (mixKind P w).is k u = true) : RelV (kV k) u := by
  rcases keyIs_shape (show keyIs k u = true from h) with ⟨i, t, rfl, rfl⟩ | ⟨x, t, rfl, rfl⟩
  · exact ⟨t, rfl⟩
  · exact ⟨t, rfl⟩
theorem kv_at : ∀ {ks : List (Key × V)} {vs : List (Key × Value)}, KV ks vs → ∀ {j : Nat} {k : Key} {x : Value}, vs[j]? = some (k, x) → ∃ v, ks[j]? = some (k, v) ∧ RelV v x
  | _, _, .cons (a := a) h t, 0, k, x, e => by
    cases e
    obtain ⟨h1, h2⟩ := h
    have h1' : a.1 = k := h1
    exact ⟨a.2, by rw [← h1']; rfl, h2⟩
  | _, _, .cons h t, j + 1, k, x, e => kv_at t e
theorem pair_rows {R : Addr → Key × V → Prop} : ∀ {ts : List Addr} {kvs : List (Key × V)}, ts.length = kvs.length → (∀ (j : Nat) (t : Addr) (kv : Key × V), ts[j]? = some t → kvs[j]? = some kv → R t kv) → Paired R ts kvs
  | [], [], _, _ => .nil
  | t :: ts, kv :: kvs, hl, h => .cons (h 0 t kv rfl rfl) (pair_rows (Nat.succ.inj hl) fun j a b h1 h2 => h (j + 1) a b h1 h2)
theorem call_listItems (hc : X.calm = true) : CallR X (.type "list") rListItems := by
  intro pins s σ H xs us Q I r h
  obtain ⟨p, a, kvs, rfl, hp, ha, q⟩ := h
  obtain rfl := Vals.ref1 r
  have view : s.heap.IsItemsView p a := (show ObjOk X.prog X.w H s.heap p (itemsO p a) from I.hok p _ hp).1
  obtain ⟨hz, da, va, ka, oa⟩ := dk_of I.hok ha
  obtain ⟨ep, hat⟩ := oa.dictAt
  have lv : kvs.length = va.length := ka.length
  refine PySem.W.kdx_call (I.ok.hd hc) view hat (by rw [← lv]; exact hz) fun h' tk acc c ts kept hS hl hG hacc => ?_
  have nd : ts.Nodup := List.Pairwise.imp (fun h => Nat.ne_of_lt h) hG.rise
  have fr : H s.heap.objs.size = none := I.hok.fresh (Nat.le_refl _)
  have lz : (ts.map V.ref).length ≤ sizeLine := by rw [List.length_map, hl, ← lv]; exact hz
  have I1 : Inv X pins σ (upd H s.heap.objs.size (.lst (ts.map V.ref))) { s with heap := h', toks := tk } :=
    I.laid (t' := tk) kept (Nat.le_refl _) ⟨lz, acc.toList, c, by rw [hacc]; exact vals_refs ts, by rw [Array.toArray_toList]; exact hS⟩
  have made : ∀ (j : Nat) (t : Addr), ts[j]? = some t → ∃ (k : Key) (v : V), kvs[j]? = some (k, v) ∧ ∀ H2, ObjOk X.prog X.w H2 h' t (.tup [kV k, v]) := fun j t ht => by
    obtain ⟨key, k, x, e1, e2, e3⟩ := hG.pairs j t ht
    obtain ⟨v, e4, rv⟩ := kv_at ka e1
    exact ⟨k, v, e4, fun H2 => ⟨(by rw [sizeLine_eq]; show 2 ≤ 16777216; omega), [key, x], .cons (key_rel e2) (.cons rv .nil), ⟨_, e3, rfl, 0, rfl⟩⟩⟩
  obtain ⟨H2, I3, g, qt⟩ := takeT (P := fun t vs => ∃ (j : Nat) (k : Key) (v : V), ts[j]? = some t ∧ kvs[j]? = some (k, v) ∧ vs = [kV k, v]) I ts _ I1 nd fun t ht => by
    obtain ⟨j, hj⟩ := List.mem_iff_getElem?.mp ht
    obtain ⟨k, v, e1, e2⟩ := made j t hj
    have above := hG.above t ht
    exact ⟨Nat.le_of_lt above, by rw [upd_ne (Nat.ne_of_gt above)]; exact I.hok.fresh (Nat.le_of_lt above), [kV k, v], ⟨j, k, v, hj, e1, rfl⟩, e2⟩
  refine ⟨.ref s.heap.objs.size, H2, I3, rfl, q _ ts H2 fr (fun b o e => g b o (by rw [upd_ne (ne_of_none e fr)]; exact e)) (g _ _ upd_same) (pair_rows (by rw [hl, lv]) fun j t kv h1 h2 => ?_)⟩
  obtain ⟨vs, ⟨i, k, v, e1, e2, rfl⟩, e3⟩ := qt t (List.mem_of_getElem? h1)
  have ij : i = j := (List.getElem?_inj (List.getElem?_eq_some_iff.mp e1).1 nd).mp (e1.trans h1.symm)
  rw [ij, h2] at e2
  cases e2
  exact ⟨e3, I.hok.fresh (Nat.le_of_lt (hG.above t (List.mem_of_getElem? h1)))⟩
end
end Ns

/-! NsI: set(xs) of whole numbers, xs a list. -/
namespace Ns
open PySem PySem.Spec PyProof.Rows L2
/-- a set as it is made -/
abbrev setN (w : World) : Obj := { cls := .type "set", dict := none, data := .set #[] 0 (.fresh 0 0 (!w.params.followText "set-order")) }
section
variable {P : Program} {w : World} {A : Around} {E : Value → Shared → Prop} {s : Shared}
set_option maxHeartbeats 3200000 in
theorem set_ofI {l : Addr} {items : Array Value} (ns : List Int) {Q : Value → Shared → Prop} (hh : A.handled = none) (hl : s.heap.IsList l items) (rel : IntsAre items.toList ns) (room : ns.length + 1 < scanBound)
    (q : ∀ (h' : Heap) (tk c : Nat), (∀ b o, s.heap.get? b = some o → h'.get? b = some o) → SetR w h' s.heap.objs.size (fun j => decide (j ∈ ns)) c → c ≤ ns.length → Q (.ref s.heap.objs.size) { s with heap := h', toks := tk }) :
    wpAny (model P w) A (call (.type "set") [.ref l]) Q E s := by
  have sz : items.size = ns.length := by
    have e := IntsAre.length rel
    rw [Array.length_toList] at e
    exact e
  obtain ⟨c, tl, hmro⟩ := F.called_set.mro
  have f1 := F.called_set.made
  have f2 := F.called_set.sub
  have f3 := F.called_set.notType
  have f4 := F.called_set.canCreate
  have f5 := F.typeCall_set_1 (.ref l)
  refine wpAny_call (codeAny_of_tree ?_)
  show wpAny _ _ (callAny (.type "set") _) _ _ _
  refine wpAny_pure ⟨Code.quiet_builtin _ (by decide +kernel), codeAny_builtin F.entry_type_call ?_⟩
  rw [Around.under_plain (weight_type_call_type "set" [.ref l] []) rfl]
  repeat (any_goals (first | assumption | wp_step))
  refine codeAny_mono (code_set_led1 (.ref l) (E := E) (Q₁ := fun obj s₁ => obj = .ref s.heap.objs.size ∧ s₁ = { s with heap := s.heap.push (setN w) }) ⟨rfl, rfl⟩) fun r s₁ hr => ?_
  rcases r with e | fl
  · exact hr
  cases fl with
  | ret obj =>
    obtain ⟨rfl, rfl⟩ := hr
    have at0 : (s.heap.push (setN w)).get? s.heap.objs.size = some (setN w) := Heap.get?_push_size _ rfl
    have ty0 : Shared.TypeIs { s with heap := s.heap.push (setN w) } (.ref s.heap.objs.size) "set" := ⟨_, at0, rfl⟩
    have f6 := F.called_set.init.lookup
    have f7 := F.called_set.init.bind (.ref s.heap.objs.size)
    repeat (any_goals (first | assumption | wp_step))
    refine codeAny_mono (codeAny_call_builtin (R := wants (fun r s₂ => r = .none ∧ ∃ h' tk c, s₂ = { s with heap := h', toks := tk } ∧ (∀ c o, s.heap.get? c = some o → h'.get? c = some o) ∧ SetR w h' s.heap.objs.size (fun j => decide (j ∈ ns)) c ∧ c ≤ ns.length) E)
      F.called_set.init.plain F.entry_set_init (check_set_init_1 ty0 ?_)) fun r₂ s₂ hr₂ => ?_
    · obtain ⟨⟨ocls, odict, odata, oslots⟩, hol, hcl, nl, hdl⟩ := hl
      simp only at hcl hdl
      subst hcl; subst hdl
      have lS : l < s.heap.objs.size := Heap.lt_size hol
      have hol' : (s.heap.push (setN w)).get? l = some { cls := .type "list", dict := odict, data := .seq items nl, slots := oslots } := Heap.get?_push_of_some _ hol
      have g1 := F.sub_list_set
      have g2 := F.sub_list_frozenset
      have g3 : (Value.type "list" == Value.type "dict") = false := by decide
      have isl : (s.heap.push (setN w)).IsList l items := ⟨_, hol', rfl, nl, rfl⟩
      unfold Builtin.«set.__init__» noKeywords Builtin.Frozenset.updateFrom
      generalize keep : pyIter = PI
      wp_walk
      subst keep
      refine wpAny_pyIter_list isl (wpAny_bind (wpAny_runValue ?_))
      have up : (s.heap.push (setN w)).objs.size = s.heap.objs.size + 1 := size_push' _ _
      have nI : l ≠ (s.heap.push (setN w)).objs.size := by rw [up]; exact Nat.ne_of_lt (Nat.lt_succ_of_lt lS)
      have nS : s.heap.objs.size ∉ [(s.heap.push (setN w)).objs.size, l] := fun z => by
        rw [up] at z
        rcases List.mem_cons.mp z with e | e
        · exact Nat.ne_of_lt (Nat.lt_succ_self _) e
        · exact Nat.ne_of_gt lS (List.mem_singleton.mp e)
      have hval : ∀ (i : Nat) (v : Value), items[i]? = some v → ∃ k t, ns[i]? = some k ∧ v = .int k t := fun i v hv => by
        have hi : i < ns.length := by rw [← sz]; exact (Array.getElem?_eq_some_iff.mp hv).1
        obtain ⟨t, e⟩ := IntsAre.int_at rel i v (by rw [Array.getElem?_toList]; exact hv)
        refine ⟨ns[i], t, List.getElem?_eq_getElem hi, ?_⟩
        rw [e, List.getD_eq_getElem?_getD, List.getElem?_eq_getElem hi]
        all_goals rfl
      refine set_update_ints ((Walks.list (by simp [hh]) _ l nI items).toS) s.heap.objs.size nS ns sz room hval items.size 0 _ (Nat.sub_zero _) (Nat.zero_le _) ⟨⟨_, Heap.get?_push_size _ rfl, rfl, rfl⟩, isl.push _⟩
        ⟨0, Nat.le_refl 0, setR_new_at (Heap.get?_push_of_some _ at0)⟩ fun s' c' hm hc hS => ?_
      obtain ⟨h', g', d', tk', os'⟩ := s'
      have e1 : g' = s.gens := hm.gens
      have e2 : d' = s.drawn := hm.drawn
      have e3 : os' = s.os := hm.os
      subst e1
      subst e2
      subst e3
      refine wpAny_pure (wpAny_pure ⟨rfl, h', tk', c', rfl, fun b o e => ?_, hS, by rw [← sz]; exact hc⟩)
      have cl : b < s.heap.objs.size := Heap.lt_size e
      refine hm.heap b o (fun z => ?_) (Heap.get?_push_of_some _ (Heap.get?_push_of_some _ e))
      rcases List.mem_cons.mp z with e | e
      · exact Nat.ne_of_lt cl e
      · rw [List.mem_singleton, up] at e
        exact Nat.ne_of_lt (Nat.lt_succ_of_lt cl) e
    · rcases r₂ with e | fl₂
      · exact hr₂
      cases fl₂ with
      | ret r =>
        obtain ⟨rfl, h', tk, c', rfl, kp, X, m⟩ := hr₂
        repeat (any_goals (first | assumption | wp_step))
        exact q h' tk c' kp X m
      | _ => exact hr₂.elim
  | _ => exact hr.elim
end
section
variable {X : Cx}
/-- set(xs): whole numbers -/
def rSetI (K : PySem.W.Frag) (w : World) : List V → Hp → VK → Prop := fun xs H Q => ∃ (a : Addr) (ns : List Int), xs = [.ref a] ∧ SqL K H a (ns.map V.int) ∧ ns.length ≤ 1000 ∧ ∀ (p : Addr) (c : Nat), c ≤ ns.length → H p = none → Q (.ref p) (upd H p (SetO w p (fun j => decide (j ∈ ns)) c))
theorem vals_ints {ns : List Int} : ∀ {us : List Value}, Vals (ns.map V.int) us → IntsAre us ns := by
  induction ns with
  | nil => intro us r; cases r; exact .nil
  | cons n ns ih => intro us r; cases r with
    | cons h t =>
      obtain ⟨tk, rfl⟩ := h
      exact .cons n tk (ih t)
theorem call_setI (hc : X.calm = true) : CallR X (.type "set") (rSetI X.K X.w) := by
  intro pins s σ H xs us Q I r h
  obtain ⟨a, ns, rfl, hs, hz, q⟩ := h
  obtain ⟨its, rv, hl, _⟩ := I.list hs
  rw [Vals.ref1 r]
  refine set_ofI ns (I.ok.hd hc) hl.isList (by simpa using vals_ints rv) (Nat.lt_of_le_of_lt (show ns.length + 1 ≤ 1001 by omega) (by decide)) fun h' tk c kp R hcl => ?_
  exact ⟨.ref s.heap.objs.size, upd H s.heap.objs.size (SetO X.w s.heap.objs.size (fun j => decide (j ∈ ns)) c), I.laid (t' := tk) kp (Nat.le_refl _) (setO_new R), rfl, q _ c hcl (I.hok.fresh (Nat.le_refl _))⟩
end
end Ns

/-! NsJ: sorted(t) of a tuple of ints. -/
namespace Ns
open PySem PySem.Spec PyProof.Rows L2
section
variable {prog : Program} {w : World} {A : Around} {E : Value → Shared → Prop} {s : Shared}
/-- the heap behind the gathering of a tuple's items -/
abbrev gath (h : Heap) (vs : List Value) : Heap := (h.push (seqObj "list" #[] 0)).update h.objs.size (Obj.mapSeq (· ++ vs.toArray))
theorem gather_tup {l : Addr} {vs : List Value} {Q : List Value → Shared → Prop} (hl : IsTup s.heap l vs.toArray) (hz : vs.length ≤ sizeLine) (h : Q vs { s with heap := gath s.heap vs }) : wpAny (model prog w) A (collect (.ref l)) Q E s := by
  obtain ⟨o, e, cl, n, d⟩ := hl
  have e1 : (s.heap.push (seqObj "list" #[] 0)).get? l = some o := Heap.get?_push_of_some _ e
  have e2 : (s.heap.push (seqObj "list" #[] 0)).get? s.heap.objs.size = some (seqObj "list" #[] 0) := Heap.get?_push_size _ rfl
  have t0 : (Value.type "tuple" == Value.type "tuple") = true := rfl
  unfold collect
  refine wpAny_bind (wpAny_runValue (codeAny_builtin entry_proto_collect' ?_)); show wpAny _ _ (do again (.builtin "list.__iadd__" ⟨[← newList [], .ref l], []⟩)) _ _ s
  refine wpAny_bind (wpAny_newList (wpAny_pure ⟨Code.quiet_builtin _ (by decide +kernel), codeAny_builtin entry_list_iadd' ?_⟩)); show wpAny _ _ (Builtin.List.listExtendWith (.ref s.heap.objs.size) (.ref l) (.ref s.heap.objs.size)) _ _ { s with heap := s.heap.push (seqObj "list" #[] 0) }
  unfold Builtin.List.listExtendWith
  refine wpAny_bind (wpAny_typeOf (T := "tuple") ⟨o, e1, cl⟩ ?_)
  rw [if_pos (by rw [t0, Bool.or_true])]
  refine wpAny_bind (listItems_at e1 d (wpAny_bind (listItems_at (xs := #[]) (n := 0) e2 rfl ?_)))
  rw [if_neg (by simp)]
  refine wpAny_bind (listUpdate_at (xs := #[]) (n := 0) e2 rfl (wpAny_pure ?_) (Nat.zero_le _) (by rw [Array.empty_append, List.size_toArray]; omega))
  show wpAny (model prog w) A (do let q ← load s.heap.objs.size; match q.data with | .seq xs _ => pure xs.toList | _ => unsupported "internal:collect") Q E { s with heap := gath s.heap vs }
  refine wpAny_bind (wpAny_load (get?_update_seq e2 _) ?_)
  show wpAny _ _ (pure ((#[] : Array Value) ++ vs.toArray).toList) Q E _
  have ev : ((#[] : Array Value) ++ vs.toArray).toList = vs := by simp
  rw [ev]
  exact wpAny_pure h
theorem sorted_tupI {l : Addr} {vs : List Value} {ns : List Int} {Q : Value → Shared → Prop} (hl : IsTup s.heap l vs.toArray) (hi : IntsAre vs ns) (hz : vs.length ≤ sizeLine)
    (h : ∀ out : List Value, SrtO.Srtd SrtO.ltIv out → SrtO.Stb SrtO.ltIv out vs → Q (.ref (s.heap.objs.size + 1)) { s with heap := PyProof.Rows.sortedAll s.heap vs out.toArray }) : wpAny (model prog w) A (call (.builtin "sorted") [.ref l]) Q E s := by
  have sz : (gath s.heap vs).objs.size = s.heap.objs.size + 1 := by rw [Heap.size_update, size_push']
  have at1 : ((gath s.heap vs).push (seqObj "list" vs.toArray 0)).get? (s.heap.objs.size + 1) = some (seqObj "list" vs.toArray 0) := by rw [← sz]; exact Heap.get?_push_size _ rfl
  refine Calls.call_function_entry kind_sorted plain_sorted entry_sorted (args_sorted1 _) ?_; unfold Builtin.«sorted»
  refine wpAny_bind (m := checkCount "sorted" 1 1 _) (wpAny_pure (wpAny_bind (gather_tup hl hz (wpAny_bind (wpAny_newList ?_ hz)))))
  show wpAny _ _ _ _ _ { s with heap := (gath s.heap vs).push (seqObj "list" vs.toArray 0) }
  rw [sz]
  have srt := @SrtO.list_sort_ord prog w
  refine wpAny_bind (wpAny_holding (wpAny_call_entry slot_list_sort ⟨_, at1, rfl⟩ entry_list_sort (srt (s := { s with heap := (gath s.heap vs).push (seqObj "list" vs.toArray 0) }) SrtO.swo_int at1 hz (fun two => SrtO.ints_sortable hi two) fun o a b => ⟨_, rfl, ?_⟩) (args_list_sort _)))
  exact wpAny_pure ⟨_, rfl, h o a b⟩
end
/-- sorted(t), a tuple of ints -/
def rSortedTI (K : PySem.W.Frag) : List V → Hp → VK → Prop := fun vs H Q => ∃ (a : Addr) (ns : List Int), vs = [.ref a] ∧ SqT K H a (ns.map V.int) ∧ ∀ (ms : List Int) (p : Addr), ms.Perm ns → ms.Pairwise (· ≤ ·) → H p = none → Q (.ref p) (upd H p (.lst (ms.map V.int)))
theorem cr_sortedTI {X : Cx} : CallR X (.builtin "sorted") (rSortedTI X.K) := by
  intro pins s σ H vs us Q I r h
  obtain ⟨a, ns, rfl, hs, q⟩ := h
  obtain ⟨its, rv, hl, hz⟩ := I.tuple hs
  have hi := rv.ints
  rw [Vals.ref1 r]
  refine sorted_tupI hl hi (by rw [← rv.length]; exact hz) fun out h1 h2 => ?_
  obtain ⟨k1, k2, k3⟩ := SrtO.ints_out hi h1 h2
  obtain ⟨ep, he⟩ := PyProof.Rows.sortedAll_at s.heap its out.toArray
  have len : ((out.map SrtO.iv).map V.int).length ≤ sizeLine := by
    rw [List.length_map, k2.length_eq, ← List.length_map (f := V.int)]
    exact hz
  refine ⟨.ref _, upd H (s.heap.objs.size + 1) (.lst ((out.map SrtO.iv).map V.int)), I.laid (t' := s.toks) (fun _ _ => PyProof.Rows.sortedAll_old) (Nat.le_succ _) ⟨len, out, ep, vals_of_ints k1, he⟩, rfl, ?_⟩
  exact q _ _ k2 k3 (I.hok.fresh (Nat.le_succ _))
end Ns

/-! NsK: enumerate(t), a tuple. -/
namespace Ns
open PySem PySem.Spec PyProof.Rows L2
set_option maxHeartbeats 4000000 in
theorem meets_enum1 {v : Value} {o : Obj} {H : Heap → Prop} (B : Begins v o H) :
    Meets (Builtin.«enumerate.__new__» ⟨[.type "enumerate", v], []⟩) (fun _ R s => H s.heap ∧
      R (.ok (.ret (.ref (s.heap.push o).objs.size))) { s with heap := (s.heap.push o).push { cls := .type "enumerate", data := .fields #[.none, .bool false, .ref s.heap.objs.size, rawInt 0, .none, .none] } }) :=
  .of_wp fun prog w A R s h => by
    obtain ⟨hp, g, d, tk, os⟩ := s; obtain ⟨h1, h⟩ := h
    have hsub := sub_enumerate
    have q1 : ∀ {A' : Around} {E : Value → Shared → Prop} {Q : Value → Shared → Prop}, Q (.ref hp.objs.size) ⟨hp.push o, g, d, tk, os⟩ → wpAny (model prog w) A' (pyIter v) Q E ⟨hp, g, d, tk, os⟩ :=
      fun q => B.iter prog w _ _ ⟨hp, g, d, tk, os⟩ _ h1 q
    wp_walk using q1
    refine wpAny_stack_any fun st => wpAny_pure ?_
    split
    · rename_i c _ _ _ _ _
      cases (c == Value.type "enumerate")
      · wp_walk using q1
        exact ⟨_, rfl, h⟩
      · wp_walk using q1
        exact ⟨_, rfl, h⟩
    · wp_walk using q1
      exact ⟨_, rfl, h⟩
section
variable {prog : Program} {w : World} {A : Around} {E : Value → Shared → Prop} {s : Shared}
theorem call_enum1 {v : Value} {o : Obj} {H : Heap → Prop} {Q : Value → Shared → Prop} (B : Begins v o H) (h1 : H s.heap)
    (h : ∀ h', IsEnum h' (s.heap.objs.size + 1) s.heap.objs.size 0 .none → h'.get? s.heap.objs.size = some o → h'.objs.size = s.heap.objs.size + 2 →
      (∀ b o, s.heap.get? b = some o → h'.get? b = some o) → Q (.ref (s.heap.objs.size + 1)) { s with heap := h' }) :
    wpAny (model prog w) A (call (.type "enumerate") [v]) Q E s := by
  refine callType_new F.called_enumerate (by decide) (F.typeCall_enumerate_1 _) (F.newCall_enumerate_1 _) (fun obj => F.args_object_init_2 obj _) F.entry_enumerate_new
    (meets_enum1 B) ⟨h1, ?_⟩
  have hz : (s.heap.push o).objs.size = s.heap.objs.size + 1 := Heap.size_push ..
  show _ ∧ _
  rw [hz]
  have he : IsEnum ((s.heap.push o).push { cls := .type "enumerate", data := .fields #[.none, .bool false, .ref s.heap.objs.size, rawInt 0, .none, .none] }) (s.heap.objs.size + 1) s.heap.objs.size 0 .none := by
    have := Heap.get?_push_size (s.heap.push o) (o := { cls := .type "enumerate", data := .fields #[.none, .bool false, .ref s.heap.objs.size, rawInt 0, .none, .none] }) rfl
    rw [hz] at this; exact this
  refine ⟨⟨_, he, rfl⟩, h _ he (Heap.get?_push_of_some _ (Heap.get?_push_size _ B.free)) (by rw [Heap.size_push, hz]) fun b o x => Heap.get?_push_of_some _ (Heap.get?_push_of_some _ x)⟩
end
/-- the tuple at a, each item in a new pair -/
def IteT (K : PySem.W.Frag) (a : Addr) : It :=
  ⟨fun i H => ∃ (xs : List V) (x : V), SqT K H a xs ∧ xs[i]? = some x, fun i H v H' => ∃ T x, v = .ref T ∧ H T = none ∧ H' = upd H T (.tup [.int (i : Nat), x]) ∧ ∀ xs, SqT K H a xs → xs[i]? = some x, fun i H => ∃ xs : List V, SqT K H a xs ∧ xs.length ≤ i⟩
theorem turn_enumT {P : Program} {w : World} {K : PySem.W.Frag} {elts : List Expr} {kk : Nat} {tpos : Pos} (a e it : Addr) :
    Turn P w K (.Tuple elts kk tpos) (IteT K a) [e, it] e (fun i h => (∃ old, IsEnum h e it ((i : Nat) : Int) old) ∧ h.IsTupleIter it a i ∧ e ≠ it) where
  mem := by simp
  obj := fun i h st b hb => by
    obtain ⟨⟨old, he⟩, ⟨o, ho, hc, hd⟩, _⟩ := st
    have e' : b = e ∨ b = it := by simpa using hb
    rcases e' with z | z
    · rw [z]; exact ⟨_, he, fun v q => nomatch q⟩
    · rw [z]; exact ⟨o, ho, fun v q => by rw [hd] at q; cases q⟩
  keep := fun i h h' st k => let ⟨⟨old, he⟩, hi, hne⟩ := st; ⟨⟨old, k e (by simp) _ he⟩, hi.at fun o q => k it (by simp) o q, hne⟩
  item := by
    intro X hP hw hK hc i pins s σ H E I hf st hg
    subst hP hw hK
    obtain ⟨⟨old, he⟩, hit, hne⟩ := st
    obtain ⟨xs, x, hq, hx⟩ := hg
    obtain ⟨its, rv, p, hz⟩ := I.tuple hq
    obtain ⟨u, hu, ru⟩ := rv.get hx
    have p' : s.heap.IsTuple a its.toArray := p
    have hel : e < s.heap.objs.size := Heap.lt_size he
    have hil : it < s.heap.objs.size := by obtain ⟨_, q, _⟩ := hit; exact Heap.lt_size q
    have nai : a ≠ it := fun z => by
      obtain ⟨o, e1, c1, _⟩ := p'
      obtain ⟨o2, e2, c2, _⟩ := hit
      rw [z, e2] at e1
      cases e1
      rw [c1] at c2
      injection c2 with c3
      exact absurd c3 (by decide)
    have nea : e ≠ a := fun z => by
      obtain ⟨o, e1, c1, _⟩ := p'
      have e2 : s.heap.get? e = _ := he
      rw [z, e1] at e2
      have := congrArg (fun z => z.map Obj.cls) e2
      have c2 : o.cls = .type "enumerate" := Option.some.inj this
      rw [c1] at c2
      injection c2 with c3
      exact absurd c3 (by decide)
    have D := Draws.tuple (prog := X.prog) (w := X.w) (A := X.A.in1) (I.ok.hd hc) it a nai its.toArray
    have hi : i < its.toArray.size := by
      have := (List.getElem?_eq_some_iff.mp hu).1
      simpa using this
    refine wpAny_pyNext_enum_itemD D he ⟨hit, p'⟩ hi hne (by simp [hne, nea]) fun x' h' tk hP ho hit' hT hsz hk => ?_
    have ex : x' = u := by
      have hP : its.toArray[i]? = some x' := hP
      have h2 : its.toArray[i]? = some u := by simpa using hu
      rw [h2] at hP
      exact (Option.some.inj hP).symm
    subst ex
    refine ⟨_, rfl, wpAny_letOwnedTupleGo_enum (s := { s with heap := h', toks := tk + 1 }) ho fun h'' he' sb => ?_⟩
    have hT2 : h''.get? s.heap.objs.size = some { cls := .type "tuple", data := .seq #[.int i tk, x'] } := (sb.2 _ (Nat.ne_of_gt hel)).trans hT
    have new : ObjOk X.prog X.w (upd H s.heap.objs.size (.tup [.int (i : Nat), x])) h'' s.heap.objs.size (.tup [.int (i : Nat), x]) :=
      ⟨by show 2 ≤ sizeLine; decide, [.int i tk, x'], .cons ⟨_, rfl⟩ (.cons ru .nil), ⟨_, hT2, rfl, _, rfl⟩⟩
    have I1 : Inv X pins σ (upd H s.heap.objs.size (.tup [.int (i : Nat), x])) { s with heap := h'', toks := tk + 1 } :=
      I.turnedNew (ch := [e, it]) (fun b ob hb q => (sb.2 b (fun z => hb (by simp [z]))).trans (hk b ob (fun z => hb (by simp [z])) (fun z => hb (by simp [z])) q)) hf (Nat.le_refl _) new
    refine ⟨.ref s.heap.objs.size, _, I1, rfl, ⟨_, x, rfl, I.hok.fresh (Nat.le_refl _), rfl, fun ys hy => by rw [I.tuple_inj hy hq]; exact hx⟩, ⟨⟨x', ?_⟩, hit'.1.at fun o q => (sb.2 it (Ne.symm hne)).trans q, hne⟩, fun b hb => ?_⟩
    · have e1 : ((i + 1 : Nat) : Int) = (i : Int) + 1 := by omega
      rw [e1]; exact he'
    · have hb' : b < s.heap.objs.size := by
        have e' : b = e ∨ b = it := by simpa using hb
        rcases e' with z | z
        · rw [z]; exact hel
        · rw [z]; exact hil
      rw [upd_ne (Nat.ne_of_lt hb')]
      exact (hf b hb).1
  done := by
    intro X hP hw hK hc i pins s σ H E I hf st hg
    subst hP hw hK
    obtain ⟨⟨old, he⟩, hit, hne⟩ := st
    obtain ⟨xs, hq, hx⟩ := hg
    obtain ⟨its, rv, p, hz⟩ := I.tuple hq
    have p' : s.heap.IsTuple a its.toArray := p
    obtain ⟨f0, f1, f2, f3, f4, f5⟩ := hf it (by simp)
    have hl := rv.length
    have hT : s.TypeIs (.ref e) "enumerate" := ⟨_, he, rfl⟩
    unfold pyNext
    refine wpAny_bind (wpAny_attempt (wpAny_callSpecial?_slot (name := Str.ofString "__next__") hT F.slot_enumerate_next
      (wpAny_call_entry F.slot_enumerate_next hT F.entry_enumerate_next ?_ (F.args_enumerate_next_1 _))))
    show wpAny _ _ (field (.ref e) 2 >>= _) _ _ _
    refine wpAny_bind (wpAny_field he rfl (x := .ref it) rfl ?_)
    refine wpAny_bind (wpAny_nextOf_tuple_end (I.ok.hd hc) hit p' (by simp; omega) fun h' x he' hx' => ?_)
    obtain ⟨o, ho, hc'⟩ := hx'
    refine wpAny_bind (wpAny_isInstance (T := "StopIteration") (b := true) ⟨o, ho, hc'⟩ isSubtype_stop ?_)
    exact wpAny_pure ⟨rfl, I.turned (t' := s.toks) (fun b o hb q => he' b o hb q) f0 f1 f3 f4 f5⟩
  self := fun A i s Q E st h => let ⟨⟨_, he⟩, _⟩ := st; wpAny_pyIter_enum he h
def iEnumT (K : PySem.W.Frag) (ta : TA) : TI := fun σ H R => ta σ H fun vs H1 => ∃ a xs, vs = [.ref a] ∧ SqT K H1 a xs ∧ R (IteT K a) H1
theorem pi_enumT {X : Cx} {e : Expr} {ta : TA} {p pos tpos : Pos} {elts : List Expr} {kk : Nat} (hg : Gl X "enumerate") (hm : X.mg "enumerate" = none) (ha : PA X [e] ta) (hs : starEach [e] X.env = [(false, eval e X.env)] := by rfl) :
    PI X (.Tuple elts kk tpos) (.Call (.Name "enumerate" p) [e] [] pos) (iEnumT X.K ta) := by
  refine ⟨fun pins s σ H R I h => ?_⟩
  refine Call_ (ld_blt I hg hm boot_enumerate (PyProof.Rows.callWith_type1 (thn (ha.run pos pins s σ H _ I h) fun us s1 ⟨vs, H1, I1, r1, q1⟩ => ?_) hs rfl))
  obtain ⟨a, xs, ex, hq, q⟩ := q1
  subst ex
  cases r1 with
  | cons r rr =>
    cases rr
    cases r
    obtain ⟨its, rv, p', hz⟩ := I1.tuple hq
    have pT : s1.heap.IsTuple a its.toArray := p'
    refine call_enum1 (begins_tuple a its.toArray) pT fun h' he hit hsz hk => wpAny_pyIter_enum he ?_
    have I2 : Inv X pins σ H1 { s1 with heap := h' } := I1.kept (t' := s1.toks) hk
    refine ⟨s1.heap.objs.size + 1, [s1.heap.objs.size + 1, s1.heap.objs.size], _, _, H1, rfl, I2, turn_enumT a (s1.heap.objs.size + 1) s1.heap.objs.size, ⟨⟨.none, he⟩, ⟨_, hit, rfl, rfl⟩, Nat.succ_ne_self _⟩, fun b hb => ?_, q⟩
    have e' : b = s1.heap.objs.size + 1 ∨ b = s1.heap.objs.size := by simpa using hb
    have hle : s1.heap.objs.size ≤ b := by
      rcases e' with z | z
      · rw [z]; exact Nat.le_add_right _ _
      · rw [z]; exact Nat.le_refl _
    exact I1.fpOk hle (I1.hok.fresh hle)
theorem walk_enumT {K : PySem.W.Frag} {a : Addr} {xs : List V} : Walk (IteT K a) xs.length (fun H => SqT K H a xs) (YPair (fun i => some (.int (i : Nat))) (fun i => xs[i]?)) := by
  refine ⟨fun i _ hi q => ⟨xs, xs[i], q, by simp [hi]⟩, fun _ q => ⟨xs, q, Nat.le_refl _⟩, fun i H v H' _ q y => ?_⟩
  obtain ⟨T, x, h1, h2, h3, h4⟩ := y
  exact ⟨T, .int (i : Nat), x, h1, h2, h3, rfl, h4 xs q⟩
end Ns

/-! NsP: three plain local names stored at once. -/
namespace Ns
open PySem PySem.Spec PyProof.Rows L2
def tPar3 (i j k : Nat) (ta : TA) : TS := fun D σ H => ta σ H fun vs H1 => ∃ v w z, vs = [v, w, z] ∧ D.nx (((σ.set i (some v)).set j (some w)).set k (some z)) H1
theorem ps_par3 {X : Cx} {i j k : Nat} {x y z : Str} {a b c : Expr} {ta : TA} {px py pz pt pos : Pos} {kt k2 pt2} (hc : X.calm = true) (hN : X.N.Nodup) (hi : X.N[i]? = some x) (hj : X.N[j]? = some y) (hk : X.N[k]? = some z) (hij : i ≠ j) (hik : i ≠ k) (hjk : j ≠ k)
    (hx : X.env.scope.names.lookup x = some .local) (hy : X.env.scope.names.lookup y = some .local) (hz : X.env.scope.names.lookup z = some .local) (ha : PA X [a, b, c] ta)
    (hw : swappedStores [.Tuple [.Name x px, .Name y py, .Name z pz] kt pt] (.Tuple [a, b, c] k2 pt2) X.env = pure (some [x, y, z]))
    (hs : swapsWithSole [.Tuple [.Name x px, .Name y py, .Name z pz] kt pt] (.Tuple [a, b, c] k2 pt2) pos.line X.env = pure false := by rfl) :
    PS X (.Assign [.Tuple [.Name x px, .Name y py, .Name z pz] kt pt] (.Tuple [a, b, c] k2 pt2) pos) (tPar3 i j k ta) := by
  refine ⟨fun pins s σ H D I h => ?_⟩
  rw [exec_Assign_arm]
  refine wpAny_bind (wpAny_standAt ?_)
  rw [hs]
  refine wpAny_bind (wpAny_pure ?_)
  rw [if_neg (by decide)]
  refine wpAny_bind (Tuple_ (thn (ha.run _ pins s σ H _ I h) fun us s1 ⟨vs, H1, I1, r1, q1⟩ => ?_))
  obtain ⟨v1, v2, v3, e1, q1⟩ := q1
  subst e1
  obtain ⟨u1, u2, u3, rfl, t1, t2, t3⟩ : ∃ u1 u2 u3, us = [u1, u2, u3] ∧ RelV v1 u1 ∧ RelV v2 u2 ∧ RelV v3 u3 := by
    cases r1 with
    | cons p q => cases q with
      | cons p' q' => cases q' with
        | cons p'' q'' =>
          cases q''
          exact ⟨_, _, _, rfl, p, p', p''⟩
  refine wpAny_newObj_type ?_ (by show 3 ≤ sizeLine; decide)
  have I2 : Inv X pins σ H1 { s1 with heap := s1.heap.push { cls := .type "tuple", data := .seq [u1, u2, u3].toArray } } := I1.kept (t' := s1.toks) fun b o e => Heap.get?_push_of_some _ e
  rw [hw]
  refine wpAny_bind (wpAny_pure ?_)
  show wpAny (model X.prog X.w) X.A (do rule "assign.swapped-stores"; let items ← unpackItems (.ref s1.heap.objs.size) 3 none; assignInOrder [fun v => bindName X.env z v, fun v => bindName X.env y v, fun v => bindName X.env x v] items.reverse; pure Flow.next) _ _ _
  refine wpAny_bind (wpAny_rule (wpAny_bind (unpackItems_tuple (items := #[u1, u2, u3]) (I.ok.hd hc) (IsTup.new s1.heap _) fun h' hx' => ?_)))
  have I3 := I2.kept (h' := h') (t' := s1.toks) fun b o e => hx' b o (Nat.ne_of_lt (Heap.lt_size e)) e
  show wpAny _ _ (assignInOrder [fun v => bindName X.env z v, fun v => bindName X.env y v, fun v => bindName X.env x v] [u3, u2, u1] >>= fun _ => pure Flow.next) _ _ _
  refine wpAny_bind (assignInOrder_cons (wpAny_bindName (store_ok I3 hN hk (.inl hz) t3 (fun s2 I4 => ?_) (.inr hz))))
  refine assignInOrder_cons (wpAny_bindName (store_ok I4 hN hj (.inl hy) t2 (fun s3 I5 => ?_) (.inr hy)))
  refine assignInOrder_cons (wpAny_bindName (store_ok I5 hN hi (.inl hx) t1 (fun s4 I6 => assignInOrder_nil (wpAny_pure ?_)) (.inr hx)))
  have e : ((σ.set k (some v3)).set j (some v2)).set i (some v1) = ((σ.set i (some v1)).set j (some v2)).set k (some v3) := by
    rw [List.set_comm _ _ (Ne.symm hjk), List.set_comm _ _ (Ne.symm hik), List.set_comm _ _ (Ne.symm hij)]
  rw [e] at I6
  exact ⟨_, H1, I6, q1⟩
end Ns

/-! NsQ: zip of a tuple, a tuple and a list. -/
namespace Ns
open PySem PySem.Spec PyProof.Rows L2
def Itz3 (K : PySem.W.Frag) (a b c : Addr) : It :=
  ⟨fun i H => ∃ (xs ys zs : List V) (x y z : V), SqT K H a xs ∧ SqT K H b ys ∧ SqL K H c zs ∧ xs[i]? = some x ∧ ys[i]? = some y ∧ zs[i]? = some z,
    fun i H v H' => ∃ T x y z, v = .ref T ∧ H T = none ∧ H' = upd H T (.tup [x, y, z]) ∧ (∀ xs, SqT K H a xs → xs[i]? = some x) ∧ (∀ ys, SqT K H b ys → ys[i]? = some y) ∧ ∀ zs, SqL K H c zs → zs[i]? = some z,
    fun i H => ∃ xs ys zs : List V, SqT K H a xs ∧ SqT K H b ys ∧ SqL K H c zs ∧ xs.length = i ∧ ys.length = i ∧ i ≤ zs.length⟩
theorem turn_zip3 {P : Program} {w : World} {K : PySem.W.Frag} {elts : List Expr} {kk : Nat} {tpos : Pos} {a b c z TI TO i1 i2 i3 : Addr} (S : ZipSep3 z TI TO i1 i2 i3 [i1, a] [i2, b] [i3, c]) (na : a ≠ i1) (nb : b ≠ i2) (nc : c ≠ i3) :
    Turn P w K (.Tuple elts kk tpos) (Itz3 K a b c) [z, TI, TO, i1, i2, i3] z (fun i h => IsZip h z TI TO .none ∧ IsTupOf3 h TI (.ref i1) (.ref i2) (.ref i3) ∧ (∃ a1 a2 a3, IsTupOf3 h TO a1 a2 a3) ∧ h.IsTupleIter i1 a i ∧ h.IsTupleIter i2 b i ∧ h.IsListIter i3 c i) where
  mem := by simp
  obj := fun i h st d hd => by
    obtain ⟨hz, hTI, ⟨x, y, u, hTO⟩, ⟨o1, e1, _, d1⟩, ⟨o2, e2, _, d2⟩, ⟨o3, e3, _, d3⟩⟩ := st
    have e' : d = z ∨ d = TI ∨ d = TO ∨ d = i1 ∨ d = i2 ∨ d = i3 := by simpa using hd
    rcases e' with q | q | q | q | q | q
    · rw [q]; exact ⟨_, hz, fun v q => nomatch q⟩
    · rw [q]; exact ⟨_, hTI, fun v q => nomatch q⟩
    · rw [q]; exact ⟨_, hTO, fun v q => nomatch q⟩
    · rw [q]; exact ⟨o1, e1, fun v q => by rw [d1] at q; cases q⟩
    · rw [q]; exact ⟨o2, e2, fun v q => by rw [d2] at q; cases q⟩
    · rw [q]; exact ⟨o3, e3, fun v q => by rw [d3] at q; cases q⟩
  keep := fun i h h' st k => by
    obtain ⟨hz, hTI, ⟨x, y, u, hTO⟩, h1, h2, h3⟩ := st
    exact ⟨k z (by simp) _ hz, k TI (by simp) _ hTI, ⟨x, y, u, k TO (by simp) _ hTO⟩, h1.at fun o q => k i1 (by simp) o q, h2.at fun o q => k i2 (by simp) o q, h3.at fun o q => k i3 (by simp) o q⟩
  item := by
    intro X hP hw hK hc i pins s σ H E I hf st hg
    subst hP hw hK
    have low : ∀ d ∈ [z, TI, TO, i1, i2, i3], d < s.heap.objs.size := fun d hd => by
      obtain ⟨hz, hTI, ⟨x, y, u, hTO⟩, ⟨o1, e1, _⟩, ⟨o2, e2, _⟩, ⟨o3, e3, _⟩⟩ := st
      have e' : d = z ∨ d = TI ∨ d = TO ∨ d = i1 ∨ d = i2 ∨ d = i3 := by simpa using hd
      rcases e' with q | q | q | q | q | q
      · rw [q]; exact Heap.lt_size hz
      · rw [q]; exact Heap.lt_size hTI
      · rw [q]; exact Heap.lt_size hTO
      · rw [q]; exact Heap.lt_size e1
      · rw [q]; exact Heap.lt_size e2
      · rw [q]; exact Heap.lt_size e3
    obtain ⟨hz, hTI, hTO, h1, h2, h3⟩ := st
    obtain ⟨xs, ys, zs, x, y, u, hqx, hqy, hqz, hx, hy, hu⟩ := hg
    obtain ⟨its, rv, p, _⟩ := I.tuple hqx
    obtain ⟨its2, rv2, p2, _⟩ := I.tuple hqy
    obtain ⟨its3, rv3, p3, _⟩ := I.list hqz
    obtain ⟨v1, hv1, rx⟩ := rv.get hx
    obtain ⟨v2, hv2, ry⟩ := rv2.get hy
    obtain ⟨v3, hv3, ru⟩ := rv3.get hu
    have W := GoesN.zip3 (prog := X.prog) (w := X.w) (A := X.A) (elts := elts) (x1 := kk) (pos := tpos) S (Draws.tuple (prog := X.prog) (w := X.w) (A := X.A.in1) (I.ok.hd hc) i1 a na its.toArray) (Draws.tuple (prog := X.prog) (w := X.w) (A := X.A.in1) (I.ok.hd hc) i2 b nb its2.toArray) (Draws.list (prog := X.prog) (w := X.w) (A := X.A.in1) (I.ok.hd hc) i3 c nc its3.toArray)
    have b1 := (List.getElem?_eq_some_iff.mp hv1).1
    have b2 := (List.getElem?_eq_some_iff.mp hv2).1
    have b3 := (List.getElem?_eq_some_iff.mp hv3).1
    refine W.goes i s _ E (by simp; omega) ⟨hz, hTI, hTO, ⟨h1, p⟩, ⟨h2, p2⟩, ⟨h3, p3.isList⟩⟩ fun v h' tk hY st' hk htk => ?_
    obtain ⟨T, x', y', u', rfl, hT, P1, P2, P3, tup⟩ := hY
    have ex : x' = v1 := by
      have P1 : its.toArray[i]? = some x' := P1
      rw [show its.toArray[i]? = some v1 by simpa using hv1] at P1
      exact (Option.some.inj P1).symm
    have ey : y' = v2 := by
      have P2 : its2.toArray[i]? = some y' := P2
      rw [show its2.toArray[i]? = some v2 by simpa using hv2] at P2
      exact (Option.some.inj P2).symm
    have eu : u' = v3 := by
      have P3 : its3.toArray[i]? = some u' := P3
      rw [show its3.toArray[i]? = some v3 by simpa using hv3] at P3
      exact (Option.some.inj P3).symm
    subst ex ey eu
    have new : ObjOk X.prog X.w (upd H T (.tup [x, y, u])) h' T (.tup [x, y, u]) :=
      ⟨by show 3 ≤ sizeLine; decide, [x', y', u'], .cons rx (.cons ry (.cons ru .nil)), tup⟩
    have sub : ∀ d ∈ [z, TO, i1, i2, i3], d ∈ [z, TI, TO, i1, i2, i3] := fun d hd => by
      simp only [List.mem_cons, List.not_mem_nil, or_false] at hd ⊢
      rcases hd with q | q | q | q | q <;> simp [q]
    have I1 : Inv X pins σ (upd H T (.tup [x, y, u])) { s with heap := h', toks := tk } :=
      I.turnedNew (ch := [z, TO, i1, i2, i3]) hk (fun d hd => hf d (sub d hd)) hT new
    obtain ⟨z1, z2, z3, z4, z5, z6⟩ := st'
    refine ⟨.ref T, _, I1, rfl, ⟨T, x, y, u, rfl, I.hok.fresh hT, rfl, fun l hl => by rw [I.tuple_inj hl hqx]; exact hx, fun l hl => by rw [I.tuple_inj hl hqy]; exact hy, fun l hl => by rw [I.list_inj hl hqz]; exact hu⟩, ⟨z1, z2, z3, z4.1, z5.1, z6.1⟩, fun d hd => ?_⟩
    rw [upd_ne (Nat.ne_of_lt (Nat.lt_of_lt_of_le (low d hd) hT))]
    exact (hf d hd).1
  done := by
    intro X hP hw hK hc i pins s σ H E I hf st hg
    subst hP hw hK
    obtain ⟨hz, hTI, hTO, h1, h2, h3⟩ := st
    obtain ⟨xs, ys, zs, hqx, hqy, hqz, l1, l2, l3⟩ := hg
    obtain ⟨its, rv, p, _⟩ := I.tuple hqx
    obtain ⟨its2, rv2, p2, _⟩ := I.tuple hqy
    obtain ⟨its3, rv3, p3, _⟩ := I.list hqz
    have k1 := rv.length
    have k2 := rv2.length
    have k3 := rv3.length
    have W := GoesN.zip3 (prog := X.prog) (w := X.w) (A := X.A) (elts := elts) (x1 := kk) (pos := tpos) S (Draws.tuple (prog := X.prog) (w := X.w) (A := X.A.in1) (I.ok.hd hc) i1 a na its.toArray) (Draws.tuple (prog := X.prog) (w := X.w) (A := X.A.in1) (I.ok.hd hc) i2 b nb its2.toArray) (Draws.list (prog := X.prog) (w := X.w) (A := X.A.in1) (I.ok.hd hc) i3 c nc its3.toArray)
    have en : min (min its.toArray.size its2.toArray.size) its3.toArray.size = i := by simp; omega
    have sub : ∀ d ∈ [z, TO, i1, i2, i3], d ∈ [z, TI, TO, i1, i2, i3] := fun d hd => by
      simp only [List.mem_cons, List.not_mem_nil, or_false] at hd ⊢
      rcases hd with q | q | q | q | q <;> simp [q]
    refine W.stops s _ E (by rw [en]; exact ⟨hz, hTI, hTO, ⟨h1, p⟩, ⟨h2, p2⟩, ⟨h3, p3.isList⟩⟩) fun h' tk hk htk => ?_
    exact I.turnedL (t' := tk) (ch := [z, TO, i1, i2, i3]) hk (fun d hd => hf d (sub d hd))
  self := fun A i s Q E st h => wpAny_pyIter_zip st.1 h
def iZip3 (K : PySem.W.Frag) (ta : TA) : TI := fun σ H R => ta σ H fun vs H1 => ∃ a b c xs ys zs, vs = [.ref a, .ref b, .ref c] ∧ SqT K H1 a xs ∧ SqT K H1 b ys ∧ SqL K H1 c zs ∧ R (Itz3 K a b c) H1
theorem pi_zip3 {X : Cx} {e e2 e3 : Expr} {ta : TA} {p pos tpos : Pos} {elts : List Expr} {kk : Nat} (hg : Gl X "zip") (hm : X.mg "zip" = none) (ha : PA X [e, e2, e3] ta)
    (hs : starEach [e, e2, e3] X.env = (false, eval e X.env) :: starEach [e2, e3] X.env := by rfl) (hpl : (backTo pos (starEach [e2, e3] X.env)).any (·.1) = false := by rfl) :
    PI X (.Tuple elts kk tpos) (.Call (.Name "zip" p) [e, e2, e3] [] pos) (iZip3 X.K ta) := by
  refine ⟨fun pins s σ H R I h => ?_⟩
  refine Call_ (ld_blt I hg hm PyProof.Rows.boot_zip (PyProof.Rows.callWith_type1 (thn (ha.run pos pins s σ H _ I h) fun us s1 ⟨vs, H1, I1, r1, q1⟩ => ?_) hs hpl))
  obtain ⟨a, b, c, xs, ys, zs, ex, hqx, hqy, hqz, q⟩ := q1
  subst ex
  obtain ⟨rfl⟩ : us = [.ref a, .ref b, .ref c] := by
    cases r1 with
    | cons r rr => cases rr with
      | cons r' rr => cases rr with
        | cons r'' rr =>
          cases rr
          cases r
          cases r'
          cases r''
          rfl
  have fresh6 : ∀ d, d ∈ [s1.heap.objs.size + 5, s1.heap.objs.size + 3, s1.heap.objs.size + 4, s1.heap.objs.size, s1.heap.objs.size + 1, s1.heap.objs.size + 2] → FpOk X pins H1 d := fun d hd => by
    have e' : d = s1.heap.objs.size + 5 ∨ d = s1.heap.objs.size + 3 ∨ d = s1.heap.objs.size + 4 ∨ d = s1.heap.objs.size ∨ d = s1.heap.objs.size + 1 ∨ d = s1.heap.objs.size + 2 := by simpa using hd
    have hle : s1.heap.objs.size ≤ d := by
      rcases e' with z | z | z | z | z | z <;> rw [z]
      · exact Nat.le_add_right _ _
      · exact Nat.le_add_right _ _
      · exact Nat.le_add_right _ _
      · exact Nat.le_refl _
      · exact Nat.le_add_right _ _
      · exact Nat.le_add_right _ _
    exact I1.fpOk hle (I1.hok.fresh hle)
  obtain ⟨its, rv, p1, _⟩ := I1.tuple hqx
  obtain ⟨its2, rv2, p2, _⟩ := I1.tuple hqy
  obtain ⟨its3, rv3, p3, _⟩ := I1.list hqz
  obtain ⟨o1, ho1, _⟩ := id p1
  obtain ⟨o2, ho2, _⟩ := id p2
  have la := Heap.lt_size ho1
  have lb := Heap.lt_size ho2
  have lc := p3.lt
  refine zip_begins3 (begins_tuple a its.toArray) (begins_tuple b its2.toArray) (begins_list c its3.toArray) p1 p2 p3.isList fun h' hz hTI hTO e1 e2 e3 hsz hk => wpAny_pyIter_zip hz ?_
  have I2 : Inv X pins σ H1 { s1 with heap := h' } := I1.kept (t' := s1.toks) hk
  have S := zip_sep3 (N := s1.heap.objs.size) (fp1 := [a]) (fp2 := [b]) (fp3 := [c]) (fun d hd => by rw [List.mem_singleton.mp hd]; exact la) (fun d hd => by rw [List.mem_singleton.mp hd]; exact lb) (fun d hd => by rw [List.mem_singleton.mp hd]; exact lc)
  exact ⟨s1.heap.objs.size + 5, [s1.heap.objs.size + 5, s1.heap.objs.size + 3, s1.heap.objs.size + 4, s1.heap.objs.size, s1.heap.objs.size + 1, s1.heap.objs.size + 2], _, _, H1, rfl, I2, turn_zip3 S (Nat.ne_of_lt la) (Nat.ne_of_lt (Nat.lt_succ_of_lt lb)) (Nat.ne_of_lt (Nat.lt_succ_of_lt (Nat.lt_succ_of_lt lc))), ⟨hz, hTI, ⟨_, _, _, hTO⟩, ⟨_, e1, rfl, rfl⟩, ⟨_, e2, rfl, rfl⟩, ⟨_, e3, rfl, rfl⟩⟩, fresh6, q⟩
section
variable {K : PySem.W.Frag} {a b c : Addr} {xs ys zs : List V}
theorem walk_zip3 {n : Nat} (h1 : xs.length = n) (h2 : ys.length = n) (h3 : n ≤ zs.length) : Walk (Itz3 K a b c) n (fun H => SqT K H a xs ∧ SqT K H b ys ∧ SqL K H c zs) (fun i H v H' => ∃ T x y z, v = .ref T ∧ H T = none ∧ H' = upd H T (.tup [x, y, z]) ∧ xs[i]? = some x ∧ ys[i]? = some y ∧ zs[i]? = some z) := by
  subst h1
  refine ⟨fun i _ hi q => ⟨xs, ys, zs, xs[i], ys[i], zs[i]'(by omega), q.1, q.2.1, q.2.2, by simp [hi], by simp [h2, hi], List.getElem?_eq_getElem (by omega)⟩, fun _ q => ⟨xs, ys, zs, q.1, q.2.1, q.2.2, rfl, h2, h3⟩, fun i H v H' _ q y => ?_⟩
  obtain ⟨T, x, y, z, h1, h2, h3, h4, h5, h6⟩ := y
  exact ⟨T, x, y, z, h1, h2, h3, h4 xs q.1, h5 ys q.2.1, h6 zs q.2.2⟩
end
end Ns

/-! NsR: sum of the values of a dict of ints. -/
namespace Ns
open PySem PySem.Spec PyProof.Rows L2
def tSumVals (td : TE) : TE := fun σ H Q => td σ H fun x H1 => ∃ (a : Addr) (kvs : List (Key × V)) (is : List Int), x = V.ref a ∧ H1 a = some (.dK kvs) ∧ kvs.map (·.2) = is.map V.int ∧ Q (.int is.sum) H1
theorem preSum_is : ∀ (is : List Int) (n : Nat), n ≤ is.length → preSum (fun i => is.getD i 0) n = (is.take n).sum
  | is, 0, _ => by
    rw [List.take_zero]
    rfl
  | is, n + 1, h => by
    have ih := preSum_is is n (by omega)
    obtain ⟨x, hx⟩ : ∃ x, is[n]? = some x := ⟨_, List.getElem?_eq_getElem (by omega)⟩
    have e1 : is.getD n 0 = x := by rw [List.getD_eq_getElem?_getD, hx]; rfl
    rw [List.take_succ, hx, List.sum_append, ← ih]
    show preSum (fun i => is.getD i 0) n + is.getD n 0 = _
    rw [e1]
    simp
section
variable {X : Cx} {o : Expr} {p pos apos mpos : Pos} {td : TE}
theorem pe_sumVals (hc : X.calm = true) (hg : Gl X "sum") (hm : X.mg "sum" = none) (hd : PE X o td) (hbase : attributeBase o "values" X.env (eval o X.env) = eval o X.env := by rfl) (hline : (apos.endLine == mpos.line) = true := by rfl)
    (hse : starEach [Expr.Call (.Attribute o "values" apos) [] [] mpos] X.env = [(false, eval (Expr.Call (.Attribute o "values" apos) [] [] mpos) X.env)] := by rfl) :
    PE X (.Call (.Name "sum" p) [.Call (.Attribute o "values" apos) [] [] mpos] [] pos) (tSumVals td) := by
  refine ⟨fun pins s σ H Q I h => ?_⟩
  refine wpAny_Call_Name_kw (ld_blt I hg hm (u := .builtin "sum") (by first | rfl | decide +kernel) ?_ (by first | decide +kernel | decide) (by first | decide +kernel | decide))
  rw [hse]
  refine PySem.callWith_builtin1 (wpAny_Call_method0_late hbase hline (thn (hd.run pins s σ H _ I h) fun v s1 ⟨x, H1, I1, r1, a, kvs, is, ex, ha, hv, q⟩ => ?_))
  subst ex
  obtain rfl : v = Value.ref a := r1
  obtain ⟨_, hsys, vs, rel, dof⟩ := dk_of I1.hok ha
  obtain ⟨ep, dat⟩ := dof.dictAt
  obtain ⟨ob, es, ho, ex, _⟩ := id dat
  refine ⟨"dict", "dict.values", F.plainAttrs_dict, F.slot_dict_values, F.type_dict_values, ⟨ob, ho, ex.1⟩, fun b e => by cases e; exact ⟨ob, ho, ex.2.1⟩, Calls.callWith_builtin rfl (PySem.evalArgs_none ?_)⟩
  refine call_meetsIn F.slot_dict_values ⟨ob, ho, ex.1⟩ F.entry_dict_values (F.args_dict_values_1 _) (meets_dict_values (mixKind X.prog X.w) a hsys) ⟨⟨vs, dof⟩, ?_⟩
  have lt := Heap.lt_size ho
  have grow : ∀ b u, s1.heap.get? b = some u → (s1.heap.push { cls := .type "dict_values", data := .fields #[.ref a] }).get? b = some u := fun b u e => Heap.get?_push_of_some _ e
  have dat2 := dat.keep grow
  have sz : (s1.heap.push { cls := .type "dict_values", data := .fields #[.ref a] }).objs.size = s1.heap.objs.size + 1 := Heap.size_push _ _
  have same : vs.length = is.length := by
    have e1 := congrArg List.length hv
    rw [List.length_map, List.length_map] at e1
    exact (KV.length rel).symm.trans e1
  have look : ∀ (i : Nat) (v : Value), (∃ k, vs[i]? = some (k, v)) → ∃ t, v = Value.int (is.getD i 0) t := fun i v ⟨k, hk⟩ => by
    obtain ⟨x, h1, h2⟩ := KV.at' rel hk
    have e1 : (is.map V.int)[i]? = some x := by rw [← hv, List.getElem?_map, h1]; rfl
    rw [List.getElem?_map] at e1
    obtain ⟨j, hj, e2⟩ := Option.map_eq_some_iff.mp e1
    subst e2
    obtain ⟨t, e3⟩ := h2
    exact ⟨t, by rw [e3, List.getD_eq_getElem?_getD, hj]; rfl⟩
  refine call_sum_walkG (wpAny_pyIter_values (v := s1.heap.objs.size) (d := a) ⟨_, Heap.get?_push_size _ rfl, rfl, rfl⟩ dat2 ?_)
  refine ⟨_, _, _, _, _, _, fun i => is.getD i 0, rfl, Walks.dictValues (knd := mixKind X.prog X.w) (A := X.A.in1) (I.ok.hd hc) (s1.heap.push { cls := .type "dict_values", data := .fields #[.ref a] }).objs.size a (by rw [sz]; exact Nat.ne_of_lt (Nat.lt_succ_of_lt lt)) vs ep,
    ⟨⟨_, Heap.get?_push_size _ rfl, rfl, rfl⟩, dat2.keep fun b u e => Heap.get?_push_of_some _ e⟩, fun b hb => ?_, look, fun h' tk t' hk => ?_⟩
  · show b < ((s1.heap.push _).push _).objs.size
    rw [Heap.size_push, Heap.size_push]
    rw [sz] at hb
    rcases List.mem_cons.mp hb with e | hb
    · rw [e]
      exact Nat.lt_succ_self _
    · rw [List.mem_singleton.mp hb]
      exact Nat.lt_succ_of_lt (Nat.lt_succ_of_lt lt)
  · refine ⟨.int is.sum, H1, I1.kept (t' := tk) fun b u e => hk b u (fun hmem => ?_) (Heap.get?_push_of_some _ (grow b u e)), ⟨t', ?_⟩, q⟩
    · have e1 : b = (s1.heap.push { cls := .type "dict_values", data := .fields #[.ref a] }).objs.size := List.mem_singleton.mp hmem
      have e2 := Heap.lt_size e
      rw [sz] at e1
      rw [e1] at e2
      exact absurd e2 (Nat.not_lt.mpr (Nat.le_succ _))
    · rw [preSum_is is _ (Nat.le_of_eq same), same, List.take_length]
end
end Ns

/-! NsV: a tuple times 0 or 1. -/
namespace Ns
open PySem PySem.Spec PyProof.Rows L2
theorem tup_mul1 (l : Addr) (items : Array Value) (n : Nat) (dd : Option Addr) (sl : Array (Option Value)) (u : Tok) :
    Meets (Builtin.«tuple.__mul__» ⟨[.ref l, .int 1 u], []⟩) (fun _ R s => s.heap.get? l = some { cls := .type "tuple", dict := dd, data := .seq items n, slots := sl } ∧ R (.ok (.ret (Value.ref l))) s) :=
  .of_wp fun prog w A R s h => by
    obtain ⟨hp, g, d, tk, os⟩ := s
    obtain ⟨hl, h⟩ := h
    have f1 := AutoSeq1.idx_int
    wp_walk using wpAny_loadPart' hl
    exact ⟨_, rfl, h⟩
theorem tup_mul0 (l : Addr) (items : Array Value) (n : Nat) (dd : Option Addr) (sl : Array (Option Value)) (u : Tok) (hi : items.isEmpty = false) :
    Meets (Builtin.«tuple.__mul__» ⟨[.ref l, .int 0 u], []⟩) (fun _ R s => s.heap.get? l = some { cls := .type "tuple", dict := dd, data := .seq items n, slots := sl } ∧
      R (.ok (.ret (Value.ref s.heap.objs.size))) { s with heap := s.heap.push { cls := Value.type "tuple", data := Data.seq #[] }, toks := s.toks }) :=
  .of_wp fun prog w A R s h => by
    obtain ⟨hp, g, d, tk, os⟩ := s
    obtain ⟨hl, h⟩ := h
    have f1 := AutoSeq1.idx_int
    wp_walk using wpAny_loadPart' hl
    exact ⟨_, rfl, h⟩
def rRep01 (K : PySem.W.Frag) : R2 := fun x y H Q => ∃ (l : Addr) (k : Int) (xs : List V), x = .ref l ∧ y = .int k ∧ SqT K H l xs ∧ xs ≠ [] ∧ (k = 0 ∨ k = 1) ∧ (k = 1 → Q (.ref l) H) ∧ (k = 0 → ∀ p, H p = none → Q (.ref p) (upd H p (.tup [])))
theorem op_rep01 {X : Cx} : OpR X (binaryOp .Mult) (rRep01 X.K) := by
  intro pins s σ H x y v u Q I rx ry h
  obtain ⟨l, k, xs, rfl, rfl, hT, hne, hk, q1, q0⟩ := h
  cases rx
  obtain ⟨t, rfl⟩ := ry
  obtain ⟨its, r, ⟨⟨cls, dd, data, sl⟩, ho, hc, n, hd⟩, hs⟩ := I.tuple hT
  simp only at hc hd
  subst hc hd
  have hi : its.toArray.isEmpty = false := by
    cases its with
    | nil => exact absurd (List.eq_nil_of_length_eq_zero r.length) hne
    | cons a b => rfl
  rcases hk with rfl | rfl
  · refine wpAny_binaryOp_repeat_ref (T := "tuple") (U := "int") (by decide) ⟨_, ho, rfl⟩ (fun s' => typeIs_int s' 0 t) noFill_tuple_mul F.fills_int_mul F.slot_int_rmul repeat_tuple F.slot_int_index.lookup
      (call_meets F.slot_int_rmul (typeIs_int s 0 t) F.entry_int_rmul (F.args_int_rmul_2 _ _) (int_rmul_tuple 0 t l its.toArray n dd sl)
        ⟨ho, rfl, ⟨_, ho, rfl⟩, call_meets F.slot_tuple_mul ⟨_, ho, rfl⟩ F.entry_tuple_mul (F.args_tuple_mul_2 _ _) (tup_mul0 l its.toArray n dd sl t hi) ⟨ho, ?_⟩⟩)
    exact ⟨.ref s.heap.objs.size, _, I.laid (t' := s.toks) (o := .tup []) (fun b ob q => Heap.get?_push_of_some _ q) (Nat.le_refl _) ⟨by show 0 ≤ sizeLine; decide, [], .nil, IsTup.new _ _⟩, rfl, q0 rfl _ (I.hok.fresh (Nat.le_refl _))⟩
  · refine wpAny_binaryOp_repeat_ref (T := "tuple") (U := "int") (by decide) ⟨_, ho, rfl⟩ (fun s' => typeIs_int s' 1 t) noFill_tuple_mul F.fills_int_mul F.slot_int_rmul repeat_tuple F.slot_int_index.lookup
      (call_meets F.slot_int_rmul (typeIs_int s 1 t) F.entry_int_rmul (F.args_int_rmul_2 _ _) (int_rmul_tuple 1 t l its.toArray n dd sl)
        ⟨ho, rfl, ⟨_, ho, rfl⟩, call_meets F.slot_tuple_mul ⟨_, ho, rfl⟩ F.entry_tuple_mul (F.args_tuple_mul_2 _ _) (tup_mul1 l its.toArray n dd sl t) ⟨ho, ?_⟩⟩)
    exact ⟨.ref l, H, I, rfl, q1 rfl⟩
end Ns

/-! NsW: isinstance of data; t != (); t[::-1]; t * k; 'b' * k. -/
namespace Ns
open PySem PySem.Spec PyProof.Rows L2
/-- the name of a datum's class -/
def tyN : PyData → String
  | .none => "NoneType"
  | .bool _ => "bool"
  | .int _ => "int"
  | .str _ => "str"
  | .list _ => "list"
  | .tuple _ => "tuple"
  | .dict _ => "dict"
theorem tyX_lst {K : PySem.W.Frag} {H : Hp} {a : Addr} {xs : List V} (h : SqL K H a xs) : TyX K H (.ref a) (.type "list") := by
  rcases h with (h | ⟨o, h⟩) | ⟨o, _, _, h, c, _⟩
  · exact .base (.lst h)
  · exact .base (.frz h)
  · exact .kList h c
theorem tyX_tup {K : PySem.W.Frag} {H : Hp} {a : Addr} {xs : List V} (h : SqT K H a xs) : TyX K H (.ref a) (.type "tuple") := by
  rcases h with (h | ⟨o, h⟩) | ⟨o, _, _, h, c, _⟩
  · exact .base (.tup h)
  · exact .fTuple h
  · exact .kTuple h c
theorem tyX_dat {K : PySem.W.Frag} {H : Hp} {x : V} {d : PyData} (D : DatV K H x d) : TyX K H x (.type (tyN d)) := by
  cases D with
  | non => exact .base .non
  | bl b => exact .base (.bl b)
  | int i => exact .base (.int i)
  | str z => exact .base (.str z)
  | lst h _ => exact tyX_lst h
  | tup h _ => exact tyX_tup h
  | dic h _ => exact .base (.dK h)
section
variable {X : Cx}
/-- isinstance(x, T), x any datum -/
def rIsD (K : PySem.W.Frag) (t : String) (f : PyData → Bool) : List V → Hp → VK → Prop := fun xs H Q => ∃ (x : V) (d : PyData), xs = [x, .ty t] ∧ DatV K H x d ∧ Q (.bl (f d)) H
theorem call_isD {t : String} {f : PyData → Bool} (hf : ∀ d, kitB (tyN d) t = some (f d)) : CallR X (.builtin "isinstance") (rIsD X.K t f) := by
  intro pins s σ H xs us Q I r h
  obtain ⟨x, d, rfl, D, q⟩ := h
  exact call_isi pins s σ H _ us Q I r ⟨x, .ty t, _, _, f d, rfl, .ty t, tyX_dat D, kit_ty (hf d), q⟩
def qT : PyData → Bool | .tuple _ => true | _ => false
def qI : PyData → Bool | .int _ => true | .bool _ => true | _ => false
def qB : PyData → Bool | .bool _ => true | _ => false
def qS : PyData → Bool | .str _ => true | _ => false
def qD : PyData → Bool | .dict _ => true | _ => false
theorem kit_T : ∀ d, kitB (tyN d) "tuple" = some (qT d) := fun d => by cases d <;> simp only [tyN, qT, qI, qB, qS, qD] <;> decide +kernel
theorem kit_I : ∀ d, kitB (tyN d) "int" = some (qI d) := fun d => by cases d <;> simp only [tyN, qT, qI, qB, qS, qD] <;> decide +kernel
theorem kit_B : ∀ d, kitB (tyN d) "bool" = some (qB d) := fun d => by cases d <;> simp only [tyN, qT, qI, qB, qS, qD] <;> decide +kernel
theorem kit_S : ∀ d, kitB (tyN d) "str" = some (qS d) := fun d => by cases d <;> simp only [tyN, qT, qI, qB, qS, qD] <;> decide +kernel
theorem kit_D : ∀ d, kitB (tyN d) "dict" = some (qD d) := fun d => by cases d <;> simp only [tyN, qT, qI, qB, qS, qD] <;> decide +kernel
/-- t != (), any tuple -/
def rNeE (K : PySem.W.Frag) : R2 := fun x y H Q => ∃ (a b : Addr) (xs : List V), x = .ref a ∧ y = .ref b ∧ SqT K H a xs ∧ SqT K H b [] ∧ Q (.bl (!decide (xs = []))) H
theorem op_neE (hu : X.A.units + 64 < cLine) : OpR X (compareOp .NotEq) (rNeE X.K) := by
  intro pins s σ H x y v u Q I rx ry h
  obtain ⟨a, b, xs, rfl, rfl, ha, hb, q⟩ := h
  cases (show v = Value.ref a from rx)
  cases (show u = Value.ref b from ry)
  obtain ⟨us, r1, ⟨o1, h1, h2, n1, h3⟩, _⟩ := I.tuple ha
  obtain ⟨ws, r2, ⟨o2, g1, g2, n2, g3⟩, _⟩ := I.tuple hb
  have z : ws = [] := by cases r2; rfl
  subst z
  refine SeqAt.RcNeAt.tuples (e := fun _ => true) ⟨o1, h1, h2, n1, h3⟩ ⟨o2, g1, g2, n2, g3⟩ (by omega) (fun j _ j2 => absurd j2 (Nat.not_lt_zero j)) _ _ _ _ ?_
  have e : (!((List.range (min us.toArray.size ([] : List Value).toArray.size)).all (fun _ => true) && us.toArray.size == ([] : List Value).toArray.size)) = !decide (xs = []) := by
    have l1 := r1.length
    cases xs with
    | nil => cases us with
      | nil => rfl
      | cons _ _ => cases l1
    | cons _ _ => cases us with
      | nil => cases l1
      | cons _ _ => simp
  exact ⟨.bl (!decide (xs = [])), H, I, congrArg Value.bool e, q⟩
end
theorem filterMap_some {α β : Type} {f : α → Option β} {g : α → β} : ∀ {l : List α}, (∀ k ∈ l, f k = some (g k)) → l.filterMap f = l.map g
  | [], _ => rfl
  | a :: l, h => by
    rw [List.filterMap_cons, h a List.mem_cons_self, List.map_cons, filterMap_some fun k hk => h k (List.mem_cons_of_mem _ hk)]
section
variable {prog : Program} {w : World} {A : Around} {E : Value → Shared → Prop} {s : Shared}
theorem pick_back (xs : Array Value) : (List.range xs.size).filterMap (fun k : Nat => xs[((xs.size : Int) - 1 + (k : Int) * (-1)).toNat]?) = xs.toList.reverse := by
  refine List.ext_getElem? fun i => ?_
  have e : (List.range xs.size).filterMap (fun k : Nat => xs[((xs.size : Int) - 1 + (k : Int) * (-1)).toNat]?) = (List.range xs.size).map (fun k : Nat => (xs.toList.reverse)[k]?.getD .none) := by
    refine filterMap_some fun k hk => ?_
    have hk' := List.mem_range.mp hk
    have e1 : ((xs.size : Int) - 1 + (k : Int) * (-1)).toNat = xs.size - 1 - k := by omega
    have e2 : xs[xs.size - 1 - k]? = some xs[xs.size - 1 - k] := Array.getElem?_eq_getElem (by omega)
    rw [e1, e2]
    have e3 : xs.toList.reverse[k]? = some xs[xs.size - 1 - k] := by
      rw [List.getElem?_reverse (by rw [Array.length_toList]; exact hk'), Array.length_toList, Array.getElem?_toList, e2]
    rw [e3]
    rfl
  rw [e, List.getElem?_map]
  by_cases h : i < xs.size
  · rw [List.getElem?_range h]
    have : i < xs.toList.reverse.length := by rw [List.length_reverse, Array.length_toList]; exact h
    rw [List.getElem?_eq_getElem this]
    show some (xs.toList.reverse[i]?.getD .none) = _
    rw [List.getElem?_eq_getElem this]
    rfl
  · rw [List.getElem?_eq_none (by rw [List.length_range]; omega), List.getElem?_eq_none (by rw [List.length_reverse, Array.length_toList]; omega)]
    rfl
theorem applied_back {p : Addr} {u : Tok} {n : Nat} {Q : Int × Int × Nat → Shared → Prop} (hp : s.heap.IsSliceOf p .none .none (.int (-1) u)) (h : Q ((n : Int) - 1, -1, n) s) : wpAny (model prog w) A (Builtin.Slice.sliceApplied (.ref p) (pure (n : Int))) Q E s := by
  obtain ⟨o, e1, e2, e3⟩ := id hp
  unfold Builtin.Slice.sliceApplied Builtin.Slice.sliceFields
  refine wpAny_bind (wpAny_bind (wpAny_field e1 e3 (x := .none) rfl (wpAny_bind (wpAny_field e1 e3 (x := .none) rfl (wpAny_bind (wpAny_field e1 e3 (x := .int (-1) u) rfl (wpAny_pure ?_)))))))
  refine wpAny_bind (slicePart_int ?_)
  have nz : ¬ (((some (-1 : Int)).getD 1 == 0) = true) := by decide
  rw [if_neg nz]
  refine wpAny_bind (slicePart_none (wpAny_bind (slicePart_none (wpAny_bind (wpAny_pure (wpAny_pure ?_))))))
  have e4 : Builtin.Slice.slicePlaces ((n : Int) - 1) (-1) (-1) = n := by
    unfold Builtin.Slice.slicePlaces
    rw [if_neg (by decide)]
    split
    · rw [Int.neg_neg, Int.ediv_one]; omega
    · omega
  have e5 : Builtin.Slice.slicePlaces (Builtin.Slice.sliceAdjust none none (-1) (n : Int)).1 (Builtin.Slice.sliceAdjust none none (-1) (n : Int)).2 (-1) = n := e4
  show Q ((Builtin.Slice.sliceAdjust none none (-1) (n : Int)).1, -1, Builtin.Slice.slicePlaces (Builtin.Slice.sliceAdjust none none (-1) (n : Int)).1 (Builtin.Slice.sliceAdjust none none (-1) (n : Int)).2 (-1)) s
  rw [e5]
  exact h
theorem tup_back {t p : Addr} {its : Array Value} {u : Tok} {Q : Value → Shared → Prop} (ht : IsTup s.heap t its) (hp : s.heap.IsSliceOf p .none .none (.int (-1) u)) (hz : its.size ≤ sizeLine)
    (h : Q (.ref s.heap.objs.size) { s with heap := s.heap.push { cls := .type "tuple", data := .seq its.toList.reverse.toArray } }) : wpAny (model prog w) A (getItem (.ref t) (.ref p)) Q E s := by
  have ok : sizeOk (.seq its.toList.reverse.toArray) := by
    show its.toList.reverse.toArray.size ≤ sizeLine
    rw [List.size_toArray, List.length_reverse, Array.length_toList]
    exact hz
  have ty : s.TypeIs (.ref p) "slice" := by
    obtain ⟨o, e1, e2, _⟩ := hp
    exact ⟨o, e1, e2⟩
  unfold getItem
  refine wpAny_holding ?_
  refine wpAny_bind (wpAny_sequenceKey ht.typeIs (by decide) ?_)
  refine wpAny_bind (wpAny_callSpecial?_slot (name := Str.ofString "__getitem__") ht.typeIs PyProof.Rows.slot_tuple_getitem (wpAny_call_entry PyProof.Rows.slot_tuple_getitem ht.typeIs entry_tuple_getitem ?_ (args_tuple_getitem _ _)))
  show wpAny _ _ (Builtin.Tuple.tupleItemsOf (.ref t) >>= _) _ _ s
  refine wpAny_bind (tupleItemsOf_ ht (wpAny_bind (wpAny_typeOf ty ?_)))
  rw [if_pos (by decide)]
  refine wpAny_bind (applied_back hp ?_)
  have no : ¬ ((((its.size : Int) - 1 == 0) && ((-1 : Int) == 1) && (its.size == its.size)) = true) := by simp
  show wpAny _ _ (if (((its.size : Int) - 1 == 0) && ((-1 : Int) == 1) && (its.size == its.size)) = true then _ else _) _ _ s
  rw [if_neg no, pick_back]
  first
    | exact wpAny_bind (m := Builtin.Tuple.tupleExact _) (wpAny_newObj_type (wpAny_pure ⟨_, rfl, wpAny_pure h⟩) ok)
    | exact wpAny_bind (m := Builtin.Tuple.tupleExact _) (wpAny_newObj_type (wpAny_bind (wpAny_pure (wpAny_pure ⟨_, rfl, wpAny_pure h⟩))) ok)
    | exact wpAny_bind (wpAny_bind (m := Builtin.Tuple.tupleExact _) (wpAny_newObj_type (wpAny_pure (wpAny_pure ⟨_, rfl, wpAny_pure h⟩)) ok))
    | exact wpAny_bind (wpAny_bind (m := Builtin.Tuple.tupleExact _) (wpAny_newObj_type (wpAny_pure ⟨_, rfl, wpAny_pure h⟩) ok))
end
section
variable {X : Cx}
/-- t[::-1] -/
def tRevT (K : PySem.W.Frag) (te : TE) : TE := fun σ H Q => te σ H fun x H1 => ∃ a xs, x = .ref a ∧ SqT K H1 a xs ∧ ∀ p, H1 p = none → Q (.ref p) (upd H1 p (.tup xs.reverse))
theorem pe_revT {e : Expr} {te : TE} {k : Nat} {p1 p2 p3 pos : Pos} (he : PE X e te) : PE X (.Subscript e (.Slice none none (some (.UnaryOp .USub (.Constant (.int 1) k p1) p2)) p3) pos) (tRevT X.K te) := by
  constructor
  intro pins s σ H Q I h
  have st : PO X (some (.UnaryOp .USub (.Constant (.int 1) k p1) p2)) (tPart (tUn (rU fun i => .int (-i)) (tC (.int 1)))) := po_some (pe_un un_neg pe_int)
  refine Subscript_ (thn (he.run pins s σ H _ I h) ?_)
  rintro v s1 ⟨x, H1, I1, r1, a, xs, rfl, hx, q⟩
  cases (show v = Value.ref a from r1)
  refine wpAny_Slice (wpAny_pure (wpAny_pure (thn (st.run pins s1 σ H1 (fun o H4 => o = some (-1) ∧ H4 = H1) I1 ⟨1, rfl, -1, rfl, rfl, rfl⟩) ?_)))
  rintro vs s4 ⟨o, H4, I4, ps, rfl, rfl⟩
  obtain ⟨u, rfl⟩ : ∃ u, vs = .int (-1) u := by cases ps; exact ⟨_, rfl⟩
  have I5 : Inv X pins σ H4 { s4 with heap := s4.heap.push { cls := .type "slice", data := .fields #[.none, .none, .int (-1) u] } } := I4.kept (t' := s4.toks) fun b ob q => Heap.get?_push_of_some _ q
  obtain ⟨its, r, ht, hz⟩ := I5.tuple hx
  have ln := r.length
  show wpAny (model X.prog X.w) X.A (subscriptTail e (.Slice none none (some (.UnaryOp .USub (.Constant (.int 1) k p1) p2)) p3) (.ref a) (.ref s4.heap.objs.size)) (EP X pins σ Q) X.xe { s4 with heap := s4.heap.push { cls := .type "slice", data := .fields #[.none, .none, .int (-1) u] } }
  refine tail_any (ops := [.ref a, .ref s4.heap.objs.size]) ht.typeIs (PyProof.Rows.slot_tuple_getitem.lookup) ?_ (by with_unfolding_all rfl)
  refine tup_back ht (Heap.IsSliceOf.new _ .none .none (.int (-1) u)) (by rw [List.size_toArray, ← ln]; exact hz) ?_
  refine ⟨.ref _, _, I5.laid (t' := s4.toks) (o := .tup xs.reverse) (fun b ob q => Heap.get?_push_of_some _ q) (Nat.le_refl _) ?_, rfl, q _ (I5.hok.fresh (Nat.le_refl _))⟩
  exact ⟨by rw [List.length_reverse]; exact hz, _, r.reverse, IsTup.new _ _⟩
/-- t * k, k from 0 on, t not empty -/
def rRepN (K : PySem.W.Frag) : R2 := fun x y H Q => ∃ (l : Addr) (k : Nat) (xs : List V), x = .ref l ∧ y = .int k ∧ SqT K H l xs ∧ xs ≠ [] ∧ k ≤ 1000 ∧ xs.length ≤ 1000 ∧ ∀ (p : Addr) (H' : Hp), Same H H' → SqT K H' p (List.replicate k xs).flatten → Q (.ref p) H'
theorem op_repN : OpR X (binaryOp .Mult) (rRepN X.K) := by
  intro pins s σ H x y v u Q I rx ry h
  obtain ⟨l, k, xs, rfl, rfl, hT, hne, h1, h2, q⟩ := h
  have nw : ∀ (p : Addr) (ys : List V), H p = none → Same H (upd H p (.tup ys)) := fun p ys hp c o e => by rw [upd_ne (ne_of_none e hp)]; exact e
  by_cases c : 2 ≤ k
  · refine op_repT pins s σ H _ _ v u Q I rx ry ⟨l, (k : Int), xs, rfl, rfl, hT, hne, by omega, by omega, h2, fun p hp => ?_⟩
    exact q p _ (nw p _ hp) (SqT.of upd_same)
  · refine op_rep01 pins s σ H _ _ v u Q I rx ry ⟨l, (k : Int), xs, rfl, rfl, hT, hne, by omega, fun e => ?_, fun e p hp => ?_⟩
    · have e1 : k = 1 := by omega
      subst e1
      exact q l H (Same.refl H) (by simpa using hT)
    · have e1 : k = 0 := by omega
      subst e1
      exact q p _ (nw p _ hp) (SqT.of upd_same)
theorem fold_size {α : Type} (a : Array α) : ∀ (k : Nat) (b : Array α), ((List.replicate k a).foldl (· ++ ·) b).size = b.size + k * a.size
  | 0, b => by simp
  | k + 1, b => by
    rw [List.replicate_succ, List.foldl_cons, fold_size a k, Array.size_append, Nat.succ_mul]
    omega
theorem mulS_len (z : Str) (k : Nat) : (⟨(List.replicate k z.cps).foldl (· ++ ·) #[]⟩ : Str).length = k * z.length := by
  have := fold_size z.cps k #[]
  show Array.size _ = k * z.cps.size
  rw [this]
  simp
/-- 'b' * k -/
def rMulS : R2 := fun x y H Q => ∃ (z : Str) (k : Nat), x = .str z ∧ y = .int k ∧ 2 ≤ k ∧ k ≤ 1000 ∧ 1 ≤ z.length ∧ z.length ≤ 1000 ∧ Q (.str ⟨(List.replicate k z.cps).foldl (· ++ ·) #[]⟩) H
theorem op_mulStr : OpR X (binaryOp .Mult) rMulS := by
  intro pins s σ H x y v u Q I rx ry h
  obtain ⟨z, k, rfl, rfl, h1, h2, h3, h4, q⟩ := h
  obtain ⟨t, rfl⟩ := (show ∃ t, v = Value.str z t from rx)
  obtain ⟨t2, rfl⟩ := (show ∃ t, u = Value.int k t from ry)
  have hm : z.length * k ≤ 1000 * 1000 := Nat.mul_le_mul h4 h2
  have no : (((k : Int) == 1) || (z.length == 0)) = false := by
    rw [Bool.or_eq_false_iff]
    exact ⟨beq_eq_false_iff_ne.mpr (by omega), beq_eq_false_iff_ne.mpr (by omega)⟩
  refine P.mul_str ?_ (fun _ _ => ?_) (fun _ _ => ?_) ?_
  · rw [decide_eq_false (by omega), decide_eq_false (by omega)]; rfl
  · have : (1000 : Int) ≤ (2 ^ 63 - 1) / (k : Int) := Int.le_ediv_of_mul_le (by omega) (by omega)
    omega
  · unfold Builtin.Str.tooLong
    rw [sizeLine_eq, Int.toNat_natCast]
    exact decide_eq_false (by omega)
  · rw [if_neg (by omega), no]
    exact ⟨by rw [Int.toNat_natCast, mulS_len, Nat.mul_comm, sizeLine_eq]; omega, ⟨.str _, H, I.tok _, ⟨_, rfl⟩, by rw [Int.toNat_natCast]; exact q⟩⟩
end
end Ns

/-! OB: data within bounds; data in a heap but for the bag. -/
namespace Y
open PySem PySem.Spec PyProof.Rows L2 Ns
mutual
/-- no row, text or number is longer than w -/
def Bd (w : Nat) : PyData → Prop
  | .none => True
  | .bool _ => True
  | .int i => i.natAbs < 10 ^ w
  | .str z => z.length ≤ w
  | .list ds => ds.length ≤ w ∧ BdA w ds
  | .tuple ds => ds.length ≤ w ∧ BdA w ds
  | .dict kvs => kvs.length ≤ w
def BdA (w : Nat) : List PyData → Prop
  | [] => True
  | d :: ds => Bd w d ∧ BdA w ds
end
theorem bdA_iff {w : Nat} : ∀ {ds : List PyData}, BdA w ds ↔ ∀ d ∈ ds, Bd w d
  | [] => by simp [BdA]
  | d :: ds => by
    have ih := bdA_iff (w := w) (ds := ds)
    simp only [BdA, List.mem_cons, forall_eq_or_imp, ih]
theorem pow_up {i w w' : Nat} (h : i < 10 ^ w) (hw : w ≤ w') : i < 10 ^ w' := Nat.lt_of_lt_of_le h (Nat.pow_le_pow_right (by decide) hw)
mutual
theorem Bd.up {w w' : Nat} (hw : w ≤ w') : ∀ {d : PyData}, Bd w d → Bd w' d
  | .none, _ => by simp only [Bd]
  | .bool _, _ => by simp only [Bd]
  | .int i, h => by simp only [Bd] at h ⊢; exact pow_up h hw
  | .str z, h => by simp only [Bd] at h ⊢; omega
  | .list ds, h => by simp only [Bd] at h ⊢; exact ⟨by omega, BdA.up hw h.2⟩
  | .tuple ds, h => by simp only [Bd] at h ⊢; exact ⟨by omega, BdA.up hw h.2⟩
  | .dict kvs, h => by simp only [Bd] at h ⊢; omega
theorem BdA.up {w w' : Nat} (hw : w ≤ w') : ∀ {ds : List PyData}, BdA w ds → BdA w' ds
  | [], _ => by simp only [BdA]
  | d :: ds, h => by simp only [BdA] at h ⊢; exact ⟨Bd.up hw h.1, BdA.up hw h.2⟩
end
theorem datA_mem {K : PySem.W.Frag} {H : Hp} : ∀ {xs : List V} {ds : List PyData}, DatA K H xs ds → ∀ {x : V}, x ∈ xs → ∃ d ∈ ds, DatV K H x d
  | _, _, .cons (d := d) h t, x, hx => by
    rcases List.mem_cons.mp hx with e | e
    · exact ⟨d, List.mem_cons_self, by rw [e]; exact h⟩
    · obtain ⟨d', h1, h2⟩ := datA_mem t e
      exact ⟨d', List.mem_cons_of_mem _ h1, h2⟩
theorem datA_at {K : PySem.W.Frag} {H : Hp} : ∀ {xs : List V} {ds : List PyData}, DatA K H xs ds → ∀ {i : Nat} {x : V}, xs[i]? = some x → ∃ d, ds[i]? = some d ∧ DatV K H x d
  | _, _, .cons (d := d) h _, 0, x, e => by
    rw [List.getElem?_cons_zero] at e
    cases e
    exact ⟨d, rfl, h⟩
  | _, _, .cons _ t, i + 1, x, e => by
    rw [List.getElem?_cons_succ] at e
    exact datA_at t e
theorem datA_app {K : PySem.W.Frag} {H : Hp} : ∀ {xs : List V} {ds : List PyData}, DatA K H xs ds → ∀ {ys : List V} {es : List PyData}, DatA K H ys es → DatA K H (xs ++ ys) (ds ++ es)
  | _, _, .nil, _, _, h => h
  | _, _, .cons h t, _, _, g => .cons h (datA_app t g)
theorem datA_take {K : PySem.W.Frag} {H : Hp} : ∀ {xs : List V} {ds : List PyData}, DatA K H xs ds → ∀ n : Nat, DatA K H (xs.take n) (ds.take n)
  | _, _, .nil, n => by rw [List.take_nil, List.take_nil]; exact .nil
  | _, _, .cons _ _, 0 => .nil
  | _, _, .cons h t, n + 1 => .cons h (datA_take t n)
theorem datA_drop {K : PySem.W.Frag} {H : Hp} : ∀ {xs : List V} {ds : List PyData}, DatA K H xs ds → ∀ n : Nat, DatA K H (xs.drop n) (ds.drop n)
  | _, _, .nil, n => by rw [List.drop_nil, List.drop_nil]; exact .nil
  | _, _, .cons h t, 0 => .cons h t
  | _, _, .cons _ t, n + 1 => datA_drop t n
theorem datA_rev {K : PySem.W.Frag} {H : Hp} : ∀ {xs : List V} {ds : List PyData}, DatA K H xs ds → DatA K H xs.reverse ds.reverse
  | _, _, .nil => .nil
  | _, _, .cons h t => by
    rw [List.reverse_cons, List.reverse_cons]
    exact datA_app (datA_rev t) (.cons h .nil)
theorem datA_ints {K : PySem.W.Frag} {H : Hp} : ∀ ns : List Int, DatA K H (ns.map V.int) (ns.map PyData.int)
  | [] => .nil
  | n :: ns => .cons (.int n) (datA_ints ns)
theorem sqt_wo' {K : PySem.W.Frag} {H : Hp} {b p : Addr} {xs : List V} (h : SqT K H p xs) (B : Bag H b) : SqT K (wo H b) p xs := by
  have nb : ∀ {o : HO}, H p = some o → (∀ l, o ≠ .lst l) → p ≠ b := fun {o} e n z => by
    obtain ⟨_, _, _, _, _, h1, _⟩ := B
    rw [z, h1] at e
    exact n _ (Option.some.inj e).symm
  rcases h with (h | ⟨o, h⟩) | h
  · exact .inl (.inl ((wo_ne (nb h (fun l z => by cases z))).trans h))
  · exact .inl (.inr ⟨o, (wo_ne (nb h (fun l z => by cases z))).trans h⟩)
  · exact .inr h
/-- t[lo:hi], the result by what stands at it -/
def rSlP (K : PySem.W.Frag) : V → Option Int → Option Int → Hp → VK → Prop := fun x lo hi H Q => ∃ a xs, x = .ref a ∧ SqT K H a xs ∧ ∀ (p : Addr) (H' : Hp), Same H H' → SqT K H' p (cutV xs lo hi) → Q (.ref p) H'
theorem cut_all {xs : List V} {lo hi : Option Int} (h : HT.sIx xs.length 0 lo = 0 ∧ HT.sIx xs.length xs.length hi = xs.length) : cutV xs lo hi = xs := by
  unfold cutV
  rw [h.1, h.2, List.drop_zero, Nat.sub_zero, List.take_length]
theorem sl_tupP {X : Cx} : SlR X (rSlP X.K) := by
  intro pins s σ H x v vl vu lo hi sl Q I rx hs pl pu h
  obtain ⟨a, xs, rfl, hx, q⟩ := h
  exact sl_tupA pins s σ H _ v vl vu lo hi sl Q I rx hs pl pu ⟨a, xs, rfl, hx, fun e => q a H (Same.refl H) (by rw [cut_all e]; exact hx), fun _ p hp => q p _ (same_new (Same.refl H) hp) (SqT.of upd_same)⟩
/-- t + u, the result by what stands at it -/
def rCatP (K : PySem.W.Frag) : R2 := fun x y H Q => ∃ a b xs ys, x = .ref a ∧ y = .ref b ∧ SqT K H a xs ∧ SqT K H b ys ∧ xs.length + ys.length ≤ sizeLine ∧ ∀ (p : Addr) (H' : Hp), Same H H' → SqT K H' p (xs ++ ys) → Q (.ref p) H'
theorem op_catP {X : Cx} : OpR X (binaryOp .Add) (rCatP X.K) := by
  intro pins s σ H x y v u Q I rx ry h
  obtain ⟨a, b, xs, ys, rfl, rfl, ha, hb, hz, q⟩ := h
  refine op_catA pins s σ H _ _ v u Q I rx ry ⟨a, b, xs, ys, rfl, rfl, ha, hb, hz, fun e => q b H (Same.refl H) (by rw [e]; exact hb), fun _ e => q a H (Same.refl H) (by rw [e, List.append_nil]; exact ha), fun _ _ p hp => q p _ (same_new (Same.refl H) hp) (SqT.of upd_same)⟩
end Y

namespace Y
open PySem PySem.Spec PyProof.Rows L2 Ns
open C8 (pss_cut)
/-- the things in some order: a new list -/
def spMixed (K : PySem.W.Frag) : Sp := fun as H Q _ => ∃ (b a : Addr) (xs : List V), as = [.ref b, .ref a] ∧ Bag H b ∧ SqL K (wo H b) a xs ∧ xs.length ≤ 1000 ∧
  ∀ (p : Addr) (ys : List V) (H' : Hp), ys.Perm xs → H' p = some (.lst ys) → H p = none → p ≠ b → Bag H' b → Sb b H H' → Q (.ref p) H'
/-- one sign of a text -/
def spSomeS : Sp := fun as H Q _ => ∃ (b : Addr) (z : Str), as = [.ref b, .str z] ∧ Bag H b ∧ z.length ≠ 0 ∧ z.length ≤ 1000 ∧ ∀ (c : Nat) (H' : Hp), c ∈ z.cps.toList → Bag H' b → Sb b H H' → Q (.str ⟨#[c]⟩) H'
section
variable {P : Program} {w : World} {K : PySem.W.Frag} {mg : Str → Option Value} {base : Heap}
theorem ok_someS {f fT : Addr} {fd fdT : FuncData} (F : Fun K "_law_some" "_law_some" sSome f fd) (T : Nat0 mg) (FT : Fun K "_law_take" "_law_take" sTake fT fdT) (mT : mg "_law_take" = some (.ref fT)) (bT : Binds K fdT ["bag", "many"] []) :
    FnOk P w K mg base CX0 2 f fd ["bag", "things"] spSomeS := by
  have GT : FnOk P w K mg base CX0 1 fT fdT ["bag", "many"] spTake := ok_take FT T
  refine F.ok scS (fun as H Q E h => ?_) (fun cdv A outer s H as Q E hr h => ?_)
  · obtain ⟨b, z, rfl, _⟩ := h
    rfl
  · obtain ⟨b, z, rfl, hB, hne, hl, k⟩ := h
    refine ⟨_, pss_one (ps_ret (pe_ix ix_str (pv 1) (pe_call GT hr rfl mT FT.kp bT .nil pass0 (pa_cons (pv 0) (pa_cons (pe_callB call_len_str (by rfl) T.len PySem.boot_len (pa_cons (pv 1) pa_nil)) pa_nil))) (fun _ _ => rfl))), ?_⟩
    refine ⟨_, rfl, _, rfl, _, rfl, z, rfl, Nat.le_of_lt (small1000 hl), b, _, rfl, hB, by omega, ?_, fun v H' h0 h1 hB' sb => ?_⟩
    · exact Nat.lt_of_le_of_lt (show ((z.length : Int)).natAbs ≤ 1000 by omega) (by decide)
    · have hi : v.toNat < z.cps.toList.length := by
        have e : z.cps.toList.length = z.length := by first | rfl | simp [PySem.Str.length]
        omega
      have ev : v = ((v.toNat : Nat) : Int) := by omega
      obtain ⟨c, ec⟩ : ∃ c, z.cps.toList[v.toNat]? = some c := ⟨_, List.getElem?_eq_getElem hi⟩
      refine ⟨z, v, c, rfl, rfl, Nat.le_of_lt (small1000 hl), by rw [ev]; exact atI_nat ec, ?_⟩
      exact k c H' (List.mem_of_getElem? ec) hB' sb
end
end Y

/-! names, as texts: what is one, and that a row of tries comes to a new one -/
namespace Y
open PySem PySem.Spec PyProof.Rows L2 Ns
def isL (c : Nat) : Prop := 97 ≤ c ∧ c ≤ 122
def isD (c : Nat) : Prop := 48 ≤ c ∧ c ≤ 57
def isS (c : Nat) : Prop := isL c ∨ isD c
instance (c : Nat) : Decidable (isL c) := inferInstanceAs (Decidable (_ ∧ _))
instance (c : Nat) : Decidable (isD c) := inferInstanceAs (Decidable (_ ∧ _))
instance (c : Nat) : Decidable (isS c) := inferInstanceAs (Decidable (_ ∨ _))
/-- the signs of a name -/
def NmL (n : List Nat) : Prop := ∃ c r, n = c :: r ∧ isL c ∧ (∀ d ∈ r, isS d) ∧ r.length ≤ 19
def Nm (x : Str) : Prop := NmL x.cps.toList
abbrev letters : Str := "abcdefghijklmnopqrstuvwxyz"
abbrev signs : Str := "abcdefghijklmnopqrstuvwxyz0123456789"
theorem letters_ok : ∀ c ∈ letters.cps.toList, isL c := by decide +kernel
theorem signs_ok : ∀ c ∈ signs.cps.toList, isS c := by decide +kernel
theorem len_cps (z : Str) : z.cps.toList.length = z.length := by first | rfl | simp [PySem.Str.length]
theorem str_ext {x y : Str} (h : x.cps.toList = y.cps.toList) : x = y := by
  cases x
  cases y
  exact congrArg PySem.Str.mk (Array.toList_inj.mp h)
theorem Nm.len {x : Str} (h : Nm x) : 1 ≤ x.length ∧ x.length ≤ 20 := by
  obtain ⟨c, r, e, _, _, h⟩ := h
  rw [← len_cps, e, List.length_cons]
  omega
theorem nm_one {c : Nat} (h : isL c) : Nm ⟨#[c]⟩ := ⟨c, [], rfl, h, (fun _ z => nomatch z), by decide⟩
theorem nm_snoc {x : Str} {c : Nat} (h : Nm x) (hl : x.length ≤ 19) (hc : isS c) : Nm (x ++ ⟨#[c]⟩) := by
  obtain ⟨d, r, e, h1, h2, h3⟩ := h
  refine ⟨d, r ++ [c], by rw [cps_toList_append, e]; rfl, h1, fun k hk => ?_, ?_⟩
  · rcases List.mem_append.mp hk with q | q
    · exact h2 k q
    · rw [List.mem_singleton] at q
      rw [q]; exact hc
  · have q : x.cps.toList.length ≤ 19 := by rw [len_cps]; exact hl
    rw [e, List.length_cons] at q
    rw [List.length_append, List.length_singleton]
    omega
theorem cut_list (z : Str) (k : Nat) : (cutS z none (some (k : Int))).cps.toList = z.cps.toList.take k := by
  have e : HT.sIx z.length 0 none = 0 := rfl
  unfold cutS
  show ((z.cps.toList.drop (HT.sIx z.length 0 none)).take (HT.sIx z.length z.length (some (k : Int)) - HT.sIx z.length 0 none)) = _
  rw [e, List.drop_zero, Nat.sub_zero]
  have h : HT.sIx z.length z.length (some (k : Int)) = min k z.length := by
    unfold HT.sIx
    simp
    try omega
  rw [h, ← len_cps]
  rw [List.take_eq_take_iff]
  omega
theorem nm_cut {x : Str} {k : Nat} (h : Nm x) (hk : 1 ≤ k) : Nm (cutS x none (some (k : Int))) ∧ (cutS x none (some (k : Int))).length ≤ k := by
  obtain ⟨c, r, e, h1, h2, h3⟩ := h
  have q := cut_list x k
  obtain ⟨m, rfl⟩ : ∃ m, k = m + 1 := ⟨k - 1, by omega⟩
  rw [e, List.take_succ_cons] at q
  refine ⟨⟨c, r.take m, q, h1, fun d hd => h2 d (List.mem_of_mem_take hd), ?_⟩, ?_⟩
  · rw [List.length_take]; omega
  · rw [← len_cps, q, List.length_cons, List.length_take]; omega
/-- the digits of a number -/
def Dg (k : Nat) : List Nat := (toString (k : Int) : PySem.Str).cps.toList
theorem dg_digits : ∀ k, k < 101 → (∀ c ∈ Dg k, isD c) ∧ (Dg k).length ≤ 3 := by decide +kernel
theorem dg_inj : ∀ j, j < 101 → ∀ k, k < 101 → Dg j = Dg k → j = k := by decide +kernel
theorem not_both {c : Nat} (h : isL c) (g : isD c) : False := by
  unfold isL at h
  unfold isD at g
  omega
theorem split_same : ∀ {a b : List Nat} {c d : Nat} {r t : List Nat}, (∀ x ∈ a, isD x) → (∀ x ∈ b, isD x) → isL c → isL d → a ++ c :: r = b ++ d :: t → a = b
  | [], [], _, _, _, _, _, _, _, _, _ => rfl
  | [], y :: b, c, d, r, t, _, hb, hc, _, h => by
    injection h with h1 h2
    rw [h1] at hc
    exact (not_both hc (hb y List.mem_cons_self)).elim
  | x :: a, [], c, d, r, t, ha, _, _, hd, h => by
    injection h with h1 h2
    rw [← h1] at hd
    exact (not_both hd (ha x List.mem_cons_self)).elim
  | x :: a, y :: b, c, d, r, t, ha, hb, hc, hd, h => by
    injection h with h1 h2
    rw [h1, split_same (fun z hz => ha z (List.mem_cons_of_mem _ hz)) (fun z hz => hb z (List.mem_cons_of_mem _ hz)) hc hd h2]
/-- the k-th try -/
def Tr (k : Nat) (x : Str) : Prop := ∃ c r, isL c ∧ x.cps.toList = 120 :: (Dg k ++ c :: r)
theorem tr_inj {j k : Nat} {x : Str} (hj : j < 101) (hk : k < 101) (h : Tr j x) (g : Tr k x) : j = k := by
  obtain ⟨c, r, h1, h2⟩ := h
  obtain ⟨d, t, g1, g2⟩ := g
  rw [h2] at g2
  injection g2 with _ e
  exact dg_inj j hj k hk (split_same (dg_digits j hj).1 (dg_digits k hk).1 h1 g1 e)
def tryOf (k : Nat) (x : Str) : Str := ("x" : Str) ++ toString (k : Int) ++ cutS x none (some (16 : Int))
theorem tryOf_cps (k : Nat) (x : Str) : (tryOf k x).cps.toList = 120 :: (Dg k ++ x.cps.toList.take 16) := by
  unfold tryOf
  rw [cps_toList_append, cps_toList_append, show (16 : Int) = ((16 : Nat) : Int) from rfl, cut_list]
  rfl
theorem tr_try {k : Nat} {x : Str} (h : Nm x) : Tr k (tryOf k x) := by
  obtain ⟨c, r, e, h1, _⟩ := h
  exact ⟨c, r.take 15, h1, by rw [tryOf_cps, e]; rfl⟩
theorem nm_try {k : Nat} {x : Str} (h : Nm x) (hk : k < 101) : Nm (tryOf k x) := by
  obtain ⟨c, r, e, h1, h2, h3⟩ := h
  obtain ⟨d1, d2⟩ := dg_digits k hk
  refine ⟨120, Dg k ++ x.cps.toList.take 16, tryOf_cps k x, by decide, fun d hd => ?_, ?_⟩
  · rcases List.mem_append.mp hd with q | q
    · exact .inr (d1 d q)
    · have q' := List.mem_of_mem_take q
      rw [e] at q'
      rcases List.mem_cons.mp q' with z | z
      · rw [z]; exact .inl h1
      · exact h2 d z
  · rw [List.length_append, List.length_take]
    omega
abbrev feed : Str := "feed"
theorem tr_feed {k : Nat} {x : Str} (h : Tr k x) : x ≠ feed := by
  rintro rfl
  obtain ⟨c, r, _, e⟩ := h
  have e' : feed.cps.toList = [102, 101, 101, 100] := by decide +kernel
  rw [e'] at e
  cases e
theorem sub_len {α : Type} [DecidableEq α] : ∀ {l m : List α}, l.Nodup → (∀ x ∈ l, x ∈ m) → l.length ≤ m.length
  | [], _, _, _ => Nat.zero_le _
  | x :: l, m, hn, hs => by
    have hx := hs x List.mem_cons_self
    have q := sub_len (l := l) (m := m.erase x) (List.nodup_cons.mp hn).2 fun y hy => by
      have ne : y ≠ x := fun e => (List.nodup_cons.mp hn).1 (e ▸ hy)
      exact (List.mem_erase_of_ne ne).mpr (hs y (List.mem_cons_of_mem _ hy))
    rw [List.length_erase_of_mem hx] at q
    have := List.length_pos_of_mem hx
    rw [List.length_cons]
    omega
/-- ahead of the i-th turn -/
def Ahead (taken : List Str) (i : Nat) (x : Str) : Prop := Nm x ∧ ((x ∉ taken ∧ x ≠ feed) ∨ i = 0 ∨ ∃ seen : List Str, seen.length + 1 = i ∧ seen.Nodup ∧ (∀ s ∈ seen, s ∈ taken ∧ ∃ k, k + 1 < i ∧ Tr k s) ∧ Tr (i - 1) x)
theorem ahead_good {taken : List Str} {i : Nat} {x : Str} (h : Nm x) (h1 : x ∉ taken) (h2 : x ≠ feed) : Ahead taken (i + 1) x := ⟨h, .inl ⟨h1, h2⟩⟩
theorem ahead_bad {taken : List Str} {i : Nat} {x : Str} (hi : i < 101) (h : Ahead taken i x) (hb : x ∈ taken ∨ x = feed) : Ahead taken (i + 1) (tryOf i x) := by
  obtain ⟨n, h⟩ := h
  refine ⟨nm_try n hi, ?_⟩
  rcases h with ⟨h1, h2⟩ | rfl | ⟨seen, h1, h2, h3, h4⟩
  · rcases hb with q | q
    · exact absurd q h1
    · exact absurd q h2
  · exact .inr (.inr ⟨[], rfl, List.nodup_nil, (fun _ z => nomatch z), tr_try n⟩)
  · have hx : x ∈ taken := by
      rcases hb with q | q
      · exact q
      · exact absurd q (tr_feed h4)
    refine .inr (.inr ⟨x :: seen, by rw [List.length_cons]; omega, List.nodup_cons.mpr ⟨fun hm => ?_, h2⟩, fun s hs => ?_, tr_try n⟩)
    · obtain ⟨_, k, hk, ht⟩ := h3 x hm
      have := tr_inj (by omega) (by omega) ht h4
      omega
    · rcases List.mem_cons.mp hs with e | e
      · rw [e]
        exact ⟨hx, i - 1, by omega, h4⟩
      · obtain ⟨g1, k, g2, g3⟩ := h3 s e
        exact ⟨g1, k, by omega, g3⟩
theorem ahead_end {taken : List Str} {x : Str} (hl : taken.length ≤ 100) (h : Ahead taken (taken.length + 1) x) : Nm x ∧ x ∉ taken ∧ x ≠ feed := by
  obtain ⟨n, h⟩ := h
  refine ⟨n, ?_⟩
  rcases h with h | h | ⟨seen, h1, h2, h3, h4⟩
  · exact h
  · cases h
  · refine ⟨fun hx => ?_, tr_feed h4⟩
    have q := sub_len (l := x :: seen) (m := taken) (List.nodup_cons.mpr ⟨fun hm => ?_, h2⟩) fun s hs => by
      rcases List.mem_cons.mp hs with e | e
      · rw [e]; exact hx
      · exact (h3 s e).1
    · rw [List.length_cons] at q
      omega
    · obtain ⟨_, k, hk, ht⟩ := h3 x hm
      have := tr_inj (by omega) (by omega) ht h4
      omega
end Y

namespace Y
open PySem PySem.Spec PyProof.Rows L2 Ns
open C8 (pss_cut)
def txs (l : List Str) : List V := l.map V.str
def spName (K : PySem.W.Frag) : Sp := fun as H Q _ => ∃ (b a : Addr) (ts : List Str), as = [.ref b, .ref a] ∧ Bag H b ∧ SqL K (wo H b) a (txs ts) ∧ ts.length ≤ 100 ∧ (∀ t ∈ ts, Nm t) ∧ ∀ (x : Str) (H' : Hp), Nm x → x ∉ ts → x ≠ feed → Bag H' b → Sb b H H' → Q (.str x) H'
theorem dp_txs {K : PySem.W.Frag} {H : Hp} : ∀ ts : List Str, DpAll K H (txs ts) (ts.map PyData.str)
  | [] => .nil
  | t :: ts => .cons (.str t) (dp_txs ts)
theorem nm_ok {t : Str} (h : Nm t) : PyData.strOk t = true := by
  obtain ⟨c, r, e, h1, h2, _⟩ := h
  unfold PyData.strOk
  rw [Array.all_eq_true_iff_forall_mem]
  intro x hx
  have hx' : x ∈ t.cps.toList := by simpa using hx
  rw [e] at hx'
  refine decide_eq_true ?_
  rcases List.mem_cons.mp hx' with q | q
  · rw [q]; unfold isL at h1; omega
  · rcases h2 x q with z | z
    · unfold isL at z; omega
    · unfold isD at z; omega
theorem lay_txs : ∀ ts : List Str, (∀ t ∈ ts, Nm t) → PyData.canLayAll0 (ts.map PyData.str) = true ∧ PyData.depthAll (ts.map PyData.str) = 0
  | [], _ => ⟨rfl, rfl⟩
  | t :: ts, h => by
    obtain ⟨h1, h2⟩ := lay_txs ts fun t ht => h t (List.mem_cons_of_mem _ ht)
    exact ⟨by simp [PyData.canLayAll0, PyData.canLay0, h1, nm_ok (h t List.mem_cons_self)], by simp [PyData.depthAll, PyData.depth, h2]⟩
theorem shaped_txs {ts : List Str} (h : ∀ t ∈ ts, Nm t) : SeqAt.shaped (.list (ts.map PyData.str)) = true := by
  obtain ⟨h1, h2⟩ := lay_txs ts h
  simp [SeqAt.shaped, PyData.canLay0, PyData.depth, h1, h2]
theorem flat_txs (ts : List Str) : (txs ts).all flatV = true := by
  rw [List.all_eq_true]
  intro x hx
  obtain ⟨t, _, rfl⟩ := List.mem_map.mp hx
  rfl
theorem in_txs {x : Str} {ts : List Str} : inV (.str x) (txs ts) = true ↔ x ∈ ts := by
  unfold inV txs
  rw [List.any_map, List.any_eq_true]
  constructor
  · rintro ⟨y, hy, h⟩
    have e : y = x := by simpa [L2.eqV] using h
    rw [← e]; exact hy
  · intro h
    exact ⟨x, h, by simp [L2.eqV]⟩
theorem hx20 {x : Str} (h : Nm x) : x.length ≤ sizeLine := Nat.le_of_lt (small1000 (show x.length ≤ 1000 by have := h.len; omega))
section
variable {P : Program} {w : World} {K : PySem.W.Frag} {mg : Str → Option Value} {base : Heap}
theorem scN : FnScope ["bag", "taken", "letters", "signs", "name", "way", "k", "near"] ["bag", "taken"] (defScope sName) := ⟨rfl, rfl, rfl, by decide +kernel, rfl, by decide +kernel, by decide +kernel⟩
theorem ok_name {f fT fS : Addr} {fd fdT fdS : FuncData} (F : Fun K "_law_name" "_law_name" sName f fd) (T : Nat0 mg) (FT : Fun K "_law_take" "_law_take" sTake fT fdT) (mT : mg "_law_take" = some (.ref fT)) (bT : Binds K fdT ["bag", "many"] [])
    (FS : Fun K "_law_some" "_law_some" sSome fS fdS) (mS : mg "_law_some" = some (.ref fS)) (bS : Binds K fdS ["bag", "things"] []) :
    FnOk P w K mg base CX0 3 f fd ["bag", "taken"] (spName K) := by
  have GT : FnOk P w K mg base CX0 1 fT fdT ["bag", "many"] spTake := ok_take FT T
  have GS : FnOk P w K mg base CX0 2 fS fdS ["bag", "things"] (spSome K) := ok_some FS T FT mT bT
  have GZ : FnOk P w K mg base CX0 2 fS fdS ["bag", "things"] spSomeS := ok_someS FS T FT mT bT
  refine F.ok scN (fun as H Q E h => ?_) (fun cdv A outer s H as Q E hr h => ?_)
  · obtain ⟨b, a, ts, rfl, _⟩ := h
    rfl
  · obtain ⟨b, a, ts, rfl, hB, hS, hl, hn, k⟩ := h
    have hr1 : Room 1 _ := hr.mono (by decide)
    refine ⟨_, pss_cons (ps_asg (pe_tup (pa_cons pe_str (pa_cons pe_str pa_nil))) (pg_tup (by rfl) (pgs_cons (pg_name (i := 2) scN.nd rfl (.inl rfl)) (pgs_cons (pg_name (i := 3) scN.nd rfl (.inl rfl)) pgs_nil))))
      (pss_cons (ps_par (i := 4) (j := 5) rfl scN.nd rfl rfl (by decide) rfl rfl (pa_cons (pe_call GZ hr rfl mS FS.kp bS .nil pass0 (pa_cons (pv 0) (pa_cons (pv 2) pa_nil))) (pa_cons (pe_call GT hr1 rfl mT FT.kp bT .nil pass0 (pa_cons (pv 0) (pa_cons pe_int pa_nil))) pa_nil)) (by rfl))
      (pss_cons (ps_for PassesOwn.never rfl (pi_range1 (by rfl) T.range (pa_cons (pe_ix ix_list (pe_lst (pa_cons pe_int (pa_cons pe_int (pa_cons pe_int (pa_cons pe_int (pa_cons pe_int (pa_cons pe_int pa_nil))))))) (pv 5) (fun _ _ => rfl)) pa_nil)) (pg_name (i := 6) scN.nd rfl (.inl rfl))
        (pss_one (ps_set (i := 4) scN.nd rfl (.inl rfl) (pe_op op_add_str (pv 4) (pe_call GZ hr rfl mS FS.kp bS .nil pass0 (pa_cons (pv 0) (pa_cons (pv 3) pa_nil)))))))
      (pss_cut (ps_if (PW.pt (pw_and (pt_cmpR (op_neD hr.units) (pv 1) (pe_lst pa_nil) (nomark _)) (pw_and1 (pt_cmpR op_eq (pe_call GT hr1 rfl mT FT.kp bT .nil pass0 (pa_cons (pv 0) (pa_cons pe_int pa_nil))) pe_int (nomark _)))))
        (pss_cons (ps_set (i := 7) scN.nd rfl (.inl rfl) (pe_call GS hr rfl mS FS.kp bS .nil pass0 (pa_cons (pv 0) (pa_cons (pv 1) pa_nil))))
        (pss_one (ps_set (i := 4) scN.nd rfl (.inl rfl) (pe_op op_add_str (pe_ifExp (pt_cmpR op_eq (pe_call GT hr1 rfl mT FT.kp bT .nil pass0 (pa_cons (pv 0) (pa_cons pe_int pa_nil))) pe_int (nomark _)) (pe_slice sl_str (pv 7) po_none (po_some pe_int)) (pe_slice sl_str (pv 7) po_none (po_some pe_int)))
          (pe_call GZ hr rfl mS FS.kp bS .nil pass0 (pa_cons (pv 0) (pa_cons (pv 3) pa_nil))))))) pss_nil)
      (pss_cons (ps_for PassesOwn.never rfl (pi_range1 (by rfl) T.range (pa_cons (pe_op op_add (pe_callB call_len_seq (by rfl) T.len PySem.boot_len (pa_cons (pv 1) pa_nil)) pe_int) pa_nil)) (pg_name (i := 6) scN.nd rfl (.inl rfl))
        (pss_one (ps_if (PW.pt (pw_or (pt_cmpR op_in_seq (pv 4) (pv 1) (by rfl)) (pw_or1 (pt_cmpR op_eq (pv 4) pe_str (nomark _)))))
          (pss_one (ps_set (i := 4) scN.nd rfl (.inl rfl) (pe_op op_add_str (pe_op op_add_str pe_str (pe_callTy call_str_int (by rfl) T.str (by decide +kernel) (pa_cons (pv 6) pa_nil))) (pe_slice sl_str (pv 4) po_none (po_some pe_int))))) pss_nil)))
      (pss_one (ps_ret (pv 4))))))), ?_⟩
    refine ⟨by show 2 ≤ sizeLine; decide, fun p hp => ?_⟩
    refine ⟨p, _, rfl, SqT.of upd_same, rfl, ?_⟩
    have hB0 : Bag (upd H p (.tup [.str letters, .str signs])) b := hB.new hp
    have s0 : Sb b H (upd H p (.tup [.str letters, .str signs])) := (Sb.refl b H).new hp
    refine ⟨_, _, rfl, _, _, rfl, rfl, ?_⟩
    refine ⟨_, rfl, _, rfl, b, letters, rfl, hB0, by decide, by decide, fun c0 H1 hc0 hB1 s1 => ?_⟩
    refine ⟨_, rfl, b, 6, rfl, hB1, by decide, by decide, fun way H2 w0 w1 hB2 s2 => ?_⟩
    refine ⟨_, _, rfl, ?_⟩
    have s02 := (s0.trans s1).trans s2
    refine ⟨by show 6 ≤ sizeLine; decide, fun q hq => ⟨_, rfl, ?_⟩⟩
    obtain ⟨m, hm, hat⟩ : ∃ m : Nat, m ≤ 19 ∧ atI [V.int 0, V.int 1, V.int 2, V.int 5, V.int 12, V.int 19] way = some (.int m) := by
      have : way = 0 ∨ way = 1 ∨ way = 2 ∨ way = 3 ∨ way = 4 ∨ way = 5 := by omega
      rcases this with rfl | rfl | rfl | rfl | rfl | rfl
      · exact ⟨0, by decide, atI_nat (j := 0) rfl⟩
      · exact ⟨1, by decide, atI_nat (j := 1) rfl⟩
      · exact ⟨2, by decide, atI_nat (j := 2) rfl⟩
      · exact ⟨5, by decide, atI_nat (j := 3) rfl⟩
      · exact ⟨12, by decide, atI_nat (j := 4) rfl⟩
      · exact ⟨19, by decide, atI_nat (j := 5) rfl⟩
    refine ⟨q, _, way, _, rfl, rfl, SqL.of upd_same, hat, ?_⟩
    have hB3 := hB2.new (o := .lst [V.int 0, V.int 1, V.int 2, V.int 5, V.int 12, V.int 19]) hq
    have s3 := s02.new (o := .lst [V.int 0, V.int 1, V.int 2, V.int 5, V.int 12, V.int 19]) hq
    refine ⟨m, rfl, by omega, by omega, for_range (n := (m : Int).toNat) (fun i σ H' => ∃ (x : Str) (kk : Option V), σ = [some (.ref b), some (.ref a), some (.str letters), some (.str signs), some (.str x), some (.int way), kk, none] ∧ Nm x ∧ x.length ≤ i + 1 ∧ Bag H' b ∧ Sb b H H') ?_ ?_ ?_⟩
    · exact ⟨⟨#[c0]⟩, none, rfl, nm_one (letters_ok c0 hc0), Nat.le_refl 1, hB3, s3⟩
    · rintro i σ H' hi ⟨x, kk, rfl, hx, hxl, hB4, s4⟩
      refine ⟨_, rfl, _, rfl, _, rfl, b, signs, rfl, hB4, by decide, by decide, fun c H5 hc hB5 s5 => ?_⟩
      have hz : x.length ≤ 19 := by omega
      refine ⟨x, ⟨#[c]⟩, rfl, rfl, ?_, x ++ ⟨#[c]⟩, _, rfl, nm_snoc hx hz (signs_ok c hc), ?_, hB5, s4.trans s5⟩
      · exact Nat.le_of_lt (small1000 (show x.length + 1 ≤ 1000 by omega))
      · rw [strLen_append]
        show x.length + 1 ≤ _
        omega
    rintro σ H' ⟨x, kk, rfl, hx, hxl, hB4, s4⟩
    refine ⟨fun σ' H' => ∃ (x : Str) (kk nn : Option V), σ' = [some (.ref b), some (.ref a), some (.str letters), some (.str signs), some (.str x), some (.int way), kk, nn] ∧ Nm x ∧ Bag H' b ∧ Sb b H H', ?_, ?_⟩
    · refine ⟨_, rfl, by show 0 ≤ sizeLine; decide, fun r hr' => ?_⟩
      have hB5 := hB4.new (o := .lst []) hr'
      have s5 := s4.new (o := .lst []) hr'
      have hSn : SqL K (upd H' r (.lst [])) a (txs ts) := (wo_sub _ b).seq (s5.sl hS)
      refine ⟨.list (ts.map PyData.str), .list [], .lst hSn (dp_txs ts), .lst (SqL.of upd_same) .nil, shaped_txs hn, by decide +kernel, _, rfl, ?_⟩
      refine ite2 (fun hne => ?_) (fun _ => ⟨x, _, _, rfl, hx, hB5, s5⟩)
      have ne : txs ts ≠ [] := by
        rintro e
        have e' : ts = [] := List.map_eq_nil_iff.mp e
        rw [e'] at hne
        revert hne
        decide
      refine ⟨_, rfl, b, 3, rfl, hB5, by decide, by decide, fun v H6 v0 v1 hB6 s6 => ⟨rfl, _, rfl, ?_⟩⟩
      refine ite2 (fun _ => ?_) (fun _ => ⟨x, _, _, rfl, hx, hB6, s5.trans s6⟩)
      have s06 := s5.trans s6
      refine ⟨_, rfl, _, rfl, b, a, _, rfl, hB6, s06.sl hS, ne, ?_, fun y H7 hy hB7 s7 => ?_⟩
      · rw [show (txs ts).length = ts.length from List.length_map _]
        omega
      obtain ⟨t, ht, rfl⟩ := List.mem_map.mp hy
      have nt := hn t ht
      have s07 := s06.trans s7
      have tl : t.length ≤ sizeLine := Nat.le_of_lt (small1000 (show t.length ≤ 1000 by have := nt.len; omega))
      refine ⟨_, rfl, b, 2, rfl, hB7, by decide, by decide, fun v2 H8 v20 v21 hB8 s8 => ⟨rfl, _, rfl, ?_⟩⟩
      have s08 := s07.trans s8
      refine ite2 (fun _ => ?_) (fun _ => ?_)
      · refine ⟨_, rfl, _, rfl, t, rfl, tl, _, rfl, _, rfl, b, signs, rfl, hB8, by decide, by decide, fun c H9 hc hB9 s9 => ?_⟩
        obtain ⟨n1, n2⟩ : Nm (cutS t none (some (19 : Int))) ∧ (cutS t none (some (19 : Int))).length ≤ 19 := nm_cut nt (k := 19) (by decide)
        refine ⟨_, _, rfl, rfl, ?_, _, _, _, rfl, nm_snoc n1 n2 (signs_ok c hc), hB9, s08.trans s9⟩
        exact Nat.le_of_lt (small1000 (show _ + 1 ≤ 1000 by omega))
      · refine ⟨_, rfl, _, rfl, t, rfl, tl, _, rfl, _, rfl, b, signs, rfl, hB8, by decide, by decide, fun c H9 hc hB9 s9 => ?_⟩
        obtain ⟨n1, n2⟩ : Nm (cutS t none (some (1 : Int))) ∧ (cutS t none (some (1 : Int))).length ≤ 1 := nm_cut nt (k := 1) (by decide)
        refine ⟨_, _, rfl, rfl, ?_, _, _, _, rfl, nm_snoc n1 (Nat.le_trans n2 (by decide)) (signs_ok c hc), hB9, s08.trans s9⟩
        exact Nat.le_of_lt (small1000 (show _ + 1 ≤ 1000 by omega))
    rintro σ' H5 ⟨x, kk, nn, rfl, hx, hB5, s5⟩
    have tz : (txs ts).length = ts.length := List.length_map _
    refine ⟨_, rfl, a, _, rfl, .inl ((wo_sub _ b).seq (s5.sl hS)), ((txs ts).length : Nat), 1, rfl, rfl, ?_⟩
    refine ⟨_, rfl, by omega, by omega, for_range (n := (((txs ts).length : Int) + 1).toNat) (fun i σ H' => ∃ (x : Str) (kk : Option V), σ = [some (.ref b), some (.ref a), some (.str letters), some (.str signs), some (.str x), some (.int way), kk, nn] ∧ Ahead ts i x ∧ Bag H' b ∧ Sb b H H') ?_ ?_ ?_⟩
    · exact ⟨x, kk, rfl, ⟨hx, .inr (.inl rfl)⟩, hB5, s5⟩
    · rintro i σ H' hi ⟨x, kk, rfl, hA, hB6, s6⟩
      refine ⟨_, rfl, _, rfl, a, _, rfl, .inl ((wo_sub _ b).seq (s6.sl hS)), rfl, flat_txs ts, _, rfl, ?_⟩
      have i100 : i < 101 := by omega
      have xl := hx20 hA.1
      have go : ∀ (Z : Str → Hp → Prop), Z (tryOf i x) H' → Z ("x" ++ toString (0 + (i : Int)) ++ cutS x none (some 16)) H' := fun Z z => by rw [Int.zero_add]; exact z
      have l1 : (0 + (i : Int)).natAbs.log2 < 1920 := log2_small (Nat.lt_of_le_of_lt (show (0 + (i : Int)).natAbs ≤ 100 by omega) (by decide +kernel))
      have l2 : ("x" : Str).length + (toString (0 + (i : Int)) : Str).length ≤ sizeLine := by
        rw [Int.zero_add]
        have := (dg_digits i i100).2
        unfold Dg at this
        rw [len_cps] at this
        exact Nat.le_of_lt (small1000 (show 1 + _ ≤ 1000 by omega))
      have l3 : (("x" : Str) ++ (toString (0 + (i : Int)) : Str)).length + (cutS x none (some 16)).length ≤ sizeLine := by
        rw [Int.zero_add, strLen_append]
        have := (dg_digits i i100).2
        unfold Dg at this
        rw [len_cps] at this
        have : (cutS x none (some (16 : Int))).length ≤ 16 := (nm_cut hA.1 (k := 16) (by decide)).2
        exact Nat.le_of_lt (small1000 (show 1 + _ + _ ≤ 1000 by omega))
      refine ite2 (fun hin => ?_) (fun hin => ?_)
      · refine iteT ?_
        refine ⟨_, rfl, _, rfl, l1, _, _, rfl, rfl, l2, _, rfl, _, rfl, _, rfl, xl, _, _, rfl, rfl, l3, _, _, rfl, ?_, hB6, s6⟩
        rw [Int.zero_add]
        exact ahead_bad i100 hA (.inl (in_txs.mp hin))
      · refine ⟨_, rfl, rfl, _, rfl, ?_⟩
        refine ite2 (fun heq => ?_) (fun hne => ?_)
        · refine ⟨_, rfl, _, rfl, l1, _, _, rfl, rfl, l2, _, rfl, _, rfl, _, rfl, xl, _, _, rfl, rfl, l3, _, _, rfl, ?_, hB6, s6⟩
          rw [Int.zero_add]
          exact ahead_bad i100 hA (.inr (by simpa using heq))
        · exact ⟨x, _, rfl, ahead_good hA.1 (fun z => hin (in_txs.mpr z)) (by simpa using hne), hB6, s6⟩
    · rintro σ H' ⟨x, kk, rfl, hA, hB6, s6⟩
      obtain ⟨n1, n2, n3⟩ := ahead_end (x := x) hl (by rw [tz] at hA; exact hA)
      exact ⟨_, rfl, k x H' n1 n2 n3 hB6 s6⟩
end
end Y

namespace Y
open PySem PySem.Spec PyProof.Rows L2 Ns
open C8 (pss_cut)
theorem cut_from (xs : List V) (k : Nat) : cutV xs (some (k : Int)) none = xs.drop k := by
  unfold cutV
  rw [HT.sIx_nat, HT.sIx_none]
  rcases Nat.lt_or_ge xs.length k with h | h
  · rw [Nat.min_eq_right (Nat.le_of_lt h), Nat.sub_self, List.take_zero, List.drop_of_length_le (Nat.le_of_lt h)]
  · rw [Nat.min_eq_left h]
    exact List.take_of_length_le (by rw [List.length_drop]; exact Nat.le_refl _)
theorem cut_upto (xs : List V) (k : Nat) : cutV xs none (some (k : Int)) = xs.take k := by
  unfold cutV
  rw [HT.sIx_nat, HT.sIx_none, List.drop_zero, Nat.sub_zero]
  rw [List.take_eq_take_iff]
  omega
/-- a list that stands apart from the bag -/
theorem sql_new {K : PySem.W.Frag} {H : Hp} {b p : Addr} {xs : List V} (e : H p = some (.lst xs)) (n : p ≠ b) : SqL K (wo H b) p xs := SqL.of ((wo_ne n).trans e)
theorem sqt_new {K : PySem.W.Frag} {H : Hp} {b p : Addr} {xs : List V} (e : H p = some (.tup xs)) (n : p ≠ b) : SqT K (wo H b) p xs := SqT.of ((wo_ne n).trans e)
/-- new names -/
structure Nms (ts xs : List Str) : Prop where
  nm : ∀ x ∈ xs, Nm x
  nodup : xs.Nodup
  off : ∀ x ∈ xs, x ∉ ts ∧ x ≠ feed
def spNames (K : PySem.W.Frag) : Sp := fun as H Q _ => ∃ (b a : Addr) (m : Nat) (ts : List Str), as = [.ref b, .int m, .ref a] ∧ Bag H b ∧ SqL K (wo H b) a (txs ts) ∧ ts.length + m ≤ 100 ∧ (∀ t ∈ ts, Nm t) ∧
  ∀ (p : Addr) (xs : List Str) (H' : Hp), xs.length = m → Nms ts xs → H' p = some (.lst (txs xs)) → H p = none → Bag H' b → Sb b H H' → Q (.ref p) H'
def spSize : Sp := fun as H Q _ => ∃ (b : Addr) (m : Int), as = [.ref b, .int m] ∧ Bag H b ∧ 0 ≤ m ∧ m ≤ 10 ^ 13 ∧ ∀ (v : Int) (H' : Hp), 0 ≤ v → v ≤ m → Bag H' b → Sb b H H' → Q (.int v) H'
section
variable {P : Program} {w : World} {K : PySem.W.Frag} {mg : Str → Option Value} {base : Heap}
theorem scNs : FnScope ["bag", "many", "taken", "found", "k"] ["bag", "many", "taken"] (defScope sNames) := ⟨rfl, rfl, rfl, by decide +kernel, rfl, by decide +kernel, by decide +kernel⟩
theorem ok_names {f fN : Addr} {fd fdN : FuncData} (F : Fun K "_law_names" "_law_names" sNames f fd) (T : Nat0 mg) (GN : FnOk P w K mg base CX0 3 fN fdN ["bag", "taken"] (spName K)) (FN : Fun K "_law_name" "_law_name" sName fN fdN) (mN : mg "_law_name" = some (.ref fN)) (bN : Binds K fdN ["bag", "taken"] []) :
    FnOk P w K mg base CX0 4 f fd ["bag", "many", "taken"] (spNames K) := by
  refine F.ok scNs (fun as H Q E h => ?_) (fun cdv A outer s H as Q E hr h => ?_)
  · obtain ⟨b, a, m, ts, rfl, _⟩ := h
    rfl
  · obtain ⟨b, a, m, ts, rfl, hB, hS, hl, hn, k⟩ := h
    refine ⟨_, pss_cons (ps_set (i := 3) scNs.nd rfl (.inl rfl) (pe_callTy call_list_of (by rfl) T.list_ (by decide +kernel) (pa_cons (pv 2) pa_nil)))
      (pss_cons (ps_for PassesOwn.never rfl (pi_range1 (by rfl) T.range (pa_cons (pv 1) pa_nil)) (pg_name (i := 4) scNs.nd rfl (.inl rfl))
        (pss_one (ps_expr (pe_bm PySem.F.plainAttrs_list PySem.F.slot_list_append PySem.F.type_list_append mt_append (pv 3) (pa_cons (pe_call GN hr rfl mN FN.kp bN .nil pass0 (pa_cons (pv 0) (pa_cons (pv 3) pa_nil))) pa_nil)))))
      (pss_one (ps_ret (pe_slice sl_list (pv 3) (po_some (pe_callB call_len_seq (by rfl) T.len PySem.boot_len (pa_cons (pv 2) pa_nil))) po_none)))), ?_⟩
    refine ⟨_, rfl, a, _, rfl, .inl ((wo_sub H b).seq hS), fun p hp => ?_⟩
    have npb : p ≠ b := hB.ne hp
    refine ⟨_, rfl, m, rfl, by omega, by omega, for_range (n := ((m : Int)).toNat) (fun i σ H' => ∃ (kk : Option V) (xs : List Str), σ = [some (.ref b), some (.int m), some (.ref a), some (.ref p), kk] ∧ xs.length = i ∧ Nms ts xs ∧ H' p = some (.lst (txs (ts ++ xs))) ∧ Bag H' b ∧ Sb b H H') ?_ ?_ ?_⟩
    · exact ⟨none, [], rfl, rfl, ⟨(fun _ z => nomatch z), List.nodup_nil, (fun _ z => nomatch z)⟩, by rw [upd_same, List.append_nil], hB.new hp, (Sb.refl b H).new hp⟩
    · rintro i σ H' hi ⟨kk, xs, rfl, hx, N, e, hB1, s1⟩
      have hlen : (ts ++ xs).length ≤ 100 := by rw [List.length_append]; omega
      refine ⟨_, rfl, .inl ⟨rfl, _, SqL.of e⟩, _, rfl, _, rfl, b, p, ts ++ xs, rfl, hB1, sql_new e npb, hlen, fun t ht => ?_, fun x H2 nx n1 n2 hB2 s2 => ?_⟩
      · rcases List.mem_append.mp ht with q | q
        · exact hn t q
        · exact N.nm t q
      · have e2 := s2.get e npb
        refine ⟨p, _, _, rfl, rfl, e2, small1000 ?_, ⟨_, xs ++ [x], rfl, by rw [List.length_append, hx]; rfl, ⟨fun y hy => ?_, ?_, fun y hy => ?_⟩, ?_, hB.wr hp (s1.trans s2) hB2, (s1.trans s2).wr hp⟩⟩
        · rw [show (txs (ts ++ xs)).length = (ts ++ xs).length from List.length_map _]
          omega
        · rcases List.mem_append.mp hy with q | q
          · exact N.nm y q
          · rw [List.mem_singleton.mp q]; exact nx
        · rw [List.nodup_append]
          refine ⟨N.nodup, List.nodup_cons.mpr ⟨(fun z => nomatch z), List.nodup_nil⟩, fun y hy z hz => ?_⟩
          rw [List.mem_singleton.mp hz]
          rintro rfl
          exact n1 (List.mem_append_right _ hy)
        · rcases List.mem_append.mp hy with q | q
          · exact N.off y q
          · rw [List.mem_singleton.mp q]
            exact ⟨fun z => n1 (List.mem_append_left _ z), n2⟩
        · rw [upd_same, ← List.append_assoc]
          unfold txs
          rw [List.map_append (l₁ := ts ++ xs)]
          rfl
    · rintro σ H' ⟨kk, xs, rfl, hx, N, e, hB1, s1⟩
      refine ⟨_, rfl, _, rfl, a, _, rfl, .inl ((wo_sub H' b).seq (s1.sl hS)), _, rfl, p, _, rfl, SqL.of e, fun q hq => ?_⟩
      have e4 : cutV (txs (ts ++ xs)) (some (((txs ts).length : Nat) : Int)) none = txs xs := by
        rw [cut_from]
        unfold txs
        rw [List.map_append, List.drop_left]
      rw [e4]
      exact k q xs _ (by omega) N upd_same (s1.free hq (hB1.ne hq)) (hB1.new hq) (s1.new hq)
theorem scZ : FnScope ["bag", "most", "small"] ["bag", "most"] (defScope sSize) := ⟨rfl, rfl, rfl, by decide +kernel, rfl, by decide +kernel, by decide +kernel⟩
theorem ok_size {f fT fS : Addr} {fd fdT fdS : FuncData} (F : Fun K "_law_size" "_law_size" sSize f fd) (T : Nat0 mg) (FT : Fun K "_law_take" "_law_take" sTake fT fdT) (mT : mg "_law_take" = some (.ref fT)) (bT : Binds K fdT ["bag", "many"] [])
    (FS : Fun K "_law_some" "_law_some" sSome fS fdS) (mS : mg "_law_some" = some (.ref fS)) (bS : Binds K fdS ["bag", "things"] []) :
    FnOk P w K mg base CX0 3 f fd ["bag", "most"] spSize := by
  have GT : FnOk P w K mg base CX0 1 fT fdT ["bag", "many"] spTake := ok_take FT T
  have GS : FnOk P w K mg base CX0 2 fS fdS ["bag", "things"] (spSome K) := ok_some FS T FT mT bT
  refine F.ok scZ (fun as H Q E h => ?_) (fun cdv A outer s H as Q E hr h => ?_)
  · obtain ⟨b, m, rfl, _⟩ := h
    rfl
  · obtain ⟨b, m, rfl, hB, h0, h1, k⟩ := h
    have hr1 : Room 1 _ := hr.mono (by decide)
    refine ⟨_, pss_cons (ps_set (i := 2) scZ.nd rfl (.inl rfl) (pe_call GT hr1 rfl mT FT.kp bT .nil pass0 (pa_cons (pv 0) (pa_cons (pe_op op_add (pe_callB (call_min2 rfl) (by rfl) T.min (by decide +kernel) (pa_cons (pv 1) (pa_cons pe_int pa_nil))) pe_int) pa_nil))))
      (pss_one (ps_ret (pe_call GS hr rfl mS FS.kp bS .nil pass0 (pa_cons (pv 0) (pa_cons (pe_lst (pa_cons (pv 2) (pa_cons (pv 2) (pa_cons (pv 2) (pa_cons (pe_callB (call_min2 rfl) (by rfl) T.min (by decide +kernel) (pa_cons (pv 1) (pa_cons pe_int pa_nil)))
        (pa_cons (pe_call GT hr1 rfl mT FT.kp bT .nil pass0 (pa_cons (pv 0) (pa_cons (pe_op op_add (pv 1) pe_int) pa_nil))) (pa_cons (pv 1) pa_nil))))))) pa_nil))))), ?_⟩
    have big : ((10 : Int) ^ 13 + 1).natAbs < 2 ^ 200 := by decide +kernel
    refine ⟨_, rfl, _, rfl, m, 6, rfl, _, 1, rfl, rfl, b, _, rfl, hB, ?_, ?_, fun v H1 v0 v1 hB1 s1 => ?_⟩
    · split <;> omega
    · refine Nat.lt_of_le_of_lt ?_ big
      split <;> omega
    refine ⟨_, rfl, _, rfl, _, rfl, _, rfl, _, rfl, m, 1, rfl, _, rfl, _, rfl, m, 1, rfl, rfl, b, _, rfl, hB1, by omega, Nat.lt_of_le_of_lt (show (m + 1).natAbs ≤ _ by omega) big, fun u H2 u0 u1 hB2 s2 => ?_⟩
    refine ⟨_, rfl, by show 6 ≤ sizeLine; decide, fun p hp => ?_⟩
    refine ⟨b, p, _, rfl, hB2.new hp, sql_new upd_same (hB2.ne hp), (fun z => nomatch z), by show 6 ≤ 1000000; decide, fun x H' hx hB' s' => ?_⟩
    have fin : ∀ i : Int, x = .int i → 0 ≤ i → i ≤ m → Q x H' := fun i e g0 g1 => by
      rw [e]
      exact k i H' g0 g1 hB' (((s1.trans s2).new hp).trans s')
    have v1' : v ≤ m := by
      by_cases c : (6 : Int) < m
      · rw [if_pos c] at v1; omega
      · rw [if_neg c] at v1; omega
    simp only [List.mem_cons, List.not_mem_nil, or_false] at hx
    rcases hx with rfl | rfl | rfl | rfl | rfl | rfl
    · exact fin v rfl v0 v1'
    · exact fin v rfl v0 v1'
    · exact fin v rfl v0 v1'
    · refine fin _ rfl ?_ ?_ <;> split <;> omega
    · exact fin u rfl u0 (by omega)
    · exact fin m rfl h0 (Int.le_refl m)
end
end Y

/-! OC: _law_odd. -/
namespace Y
open PySem PySem.Spec PyProof.Rows L2 Ns
def bs : Str := ⟨(List.replicate 21 ("b" : Str).cps).foldl (· ++ ·) #[]⟩
theorem bs_len : bs.length ≤ 40 := by
  show (⟨(List.replicate 21 ("b" : Str).cps).foldl (· ++ ·) #[]⟩ : Str).length ≤ 40
  rw [mulS_len]
  decide
def oddDs : List PyData := [.none, .bool true, .bool false, .int (-1), .int 0, .int 1, .int (10 ^ Int.toNat 39), .str "", .str "a", .str "feed", .str "A", .str "a b", .str "7b", .str "a_b", .str bs, .tuple [], .list [], .dict [], .tuple [.str "a"], .tuple [.str "a", .str "b"], .tuple [.str "a", .str "b", .int 1], .list [.int 0], .tuple [.int 0], .tuple [.none], .tuple [.tuple []], .tuple [.tuple [], .tuple []], .dict [(.str "a", .int 1)], .str "\n", .tuple [.int 0, .int 1]]
theorem odd_bd : ∀ d ∈ oddDs, Bd 40 d := bdA_iff.mp (by
  unfold oddDs
  simp only [BdA, Bd, and_true, true_and]
  repeat (first | exact bs_len | (refine ⟨?_, ?_⟩) | decide)
  )
def spOdd (K : PySem.W.Frag) : Sp := fun as H Q _ => ∃ (b : Addr), as = [.ref b] ∧ Bag H b ∧ ∀ (x : V) (d : PyData) (H' : Hp), DatV K (wo H' b) x d → Bd 40 d → Bag H' b → Sb b H H' → Q x H'
section
variable {P : Program} {w : World} {K : PySem.W.Frag} {mg : Str → Option Value} {base : Heap}
theorem scO : FnScope ["bag", "some", "more"] ["bag"] (defScope sOdd) := ⟨rfl, rfl, rfl, by decide +kernel, rfl, by decide +kernel, by decide +kernel⟩
theorem ok_odd {f fS : Addr} {fd dS : FuncData} (F : Fun K "_law_odd" "_law_odd" sOdd f fd) (FS : Fun K "_law_some" "_law_some" sSome fS dS) (mS : mg "_law_some" = some (.ref fS)) (bS : Binds K dS ["bag", "things"] [])
    (GS : FnOk P w K mg base CX0 2 fS dS ["bag", "things"] (spSome K)) : FnOk P w K mg base CX0 3 f fd ["bag"] (spOdd K) := by
  refine F.ok scO (fun as H Q E h => ?_) (fun cdv A outer s H0 as Q E hr h => ?_)
  · obtain ⟨b, rfl, _⟩ := h
    rfl
  · obtain ⟨b, rfl, b0, k⟩ := h
    refine ⟨_, pss_cons (ps_set (i := 1) scO.nd rfl (.inl rfl) (pe_lst (pa_cons pe_non (pa_cons pe_bl (pa_cons pe_bl (pa_cons (pe_un un_neg pe_int) (pa_cons pe_int (pa_cons pe_int (pa_cons (pe_op op_pow pe_int pe_int) (pa_cons pe_str (pa_cons pe_str (pa_cons pe_str (pa_cons pe_str (pa_cons pe_str (pa_cons pe_str (pa_cons pe_str (pa_cons (pe_op op_mulStr pe_str pe_int) (pa_cons (pe_tup pa_nil) (pa_cons (pe_lst pa_nil) (pa_cons pe_dnewK pa_nil))))))))))))))))))))
      (pss_cons (ps_set (i := 2) scO.nd rfl (.inl rfl) (pe_lst (pa_cons (pe_tup (pa_cons pe_str pa_nil)) (pa_cons (pe_tup (pa_cons pe_str (pa_cons pe_str pa_nil))) (pa_cons (pe_tup (pa_cons pe_str (pa_cons pe_str (pa_cons pe_int pa_nil)))) (pa_cons (pe_lst (pa_cons pe_int pa_nil)) (pa_cons (pe_tup (pa_cons pe_int pa_nil)) (pa_cons (pe_tup (pa_cons pe_non pa_nil)) (pa_cons (pe_tup (pa_cons (pe_tup pa_nil) pa_nil)) (pa_cons (pe_tup (pa_cons (pe_tup pa_nil) (pa_cons (pe_tup pa_nil) pa_nil))) (pa_cons (pe_disp (pps_cons pe_str pe_int pps_nil) (by rfl) (by rfl) (fun z => by cases z) (by decide)) (pa_cons pe_str (pa_cons (pe_tup (pa_cons pe_int (pa_cons pe_int pa_nil))) pa_nil)))))))))))))
      (pss_one (ps_ret (pe_call GS hr rfl mS FS.kp bS .nil pass0 (pa_cons (pv 0) (pa_cons (pe_op op_cat (pv 1) (pv 2)) pa_nil)))))), ?_⟩
    refine ⟨1, rfl, ?_⟩
    refine ⟨10, 39, rfl, rfl, ⟨by decide, by decide, by decide⟩, ?_⟩
    refine ⟨"b", 21, rfl, rfl, by decide, by decide, by decide, by decide, ?_⟩
    refine ⟨by show 0 ≤ sizeLine; decide, fun t1 u1 => ?_⟩
    have m1 := same_new (o := .tup []) (Same.refl H0) u1
    have e1 : upd H0 t1 (.tup []) t1 = some (.tup []) := upd_same
    have b1 := b0.new (o := .tup []) u1
    have n1 : t1 ≠ b := b0.ne u1
    generalize upd H0 t1 (.tup []) = H1 at m1 e1 b1 ⊢
    refine ⟨by show 0 ≤ sizeLine; decide, fun t2 u2 => ?_⟩
    have m2 := same_new (o := .lst []) (Same.refl H1) u2
    have e2 : upd H1 t2 (.lst []) t2 = some (.lst []) := upd_same
    have b2 := b1.new (o := .lst []) u2
    have n2 : t2 ≠ b := b1.ne u2
    generalize upd H1 t2 (.lst []) = H2 at m2 e2 b2 ⊢
    refine fun t3 u3 => ?_
    have m3 := same_new (o := .dK []) (Same.refl H2) u3
    have e3 : upd H2 t3 (.dK []) t3 = some (.dK []) := upd_same
    have b3 := b2.new (o := .dK []) u3
    have n3 : t3 ≠ b := b2.ne u3
    generalize upd H2 t3 (.dK []) = H3 at m3 e3 b3 ⊢
    refine ⟨by show 18 ≤ sizeLine; decide, fun t4 u4 => ?_⟩
    have m4 := same_new (o := .lst [.non, .bl true, .bl false, .int (-1), .int 0, .int 1, .int (10 ^ Int.toNat 39), .str "", .str "a", .str "feed", .str "A", .str "a b", .str "7b", .str "a_b", .str ⟨(List.replicate 21 (Str.ofString "b").cps).foldl (fun x1 x2 => x1 ++ x2) #[]⟩, .ref t1, .ref t2, .ref t3]) (Same.refl H3) u4
    have e4 : upd H3 t4 (.lst [.non, .bl true, .bl false, .int (-1), .int 0, .int 1, .int (10 ^ Int.toNat 39), .str "", .str "a", .str "feed", .str "A", .str "a b", .str "7b", .str "a_b", .str ⟨(List.replicate 21 (Str.ofString "b").cps).foldl (fun x1 x2 => x1 ++ x2) #[]⟩, .ref t1, .ref t2, .ref t3]) t4 = some (.lst [.non, .bl true, .bl false, .int (-1), .int 0, .int 1, .int (10 ^ Int.toNat 39), .str "", .str "a", .str "feed", .str "A", .str "a b", .str "7b", .str "a_b", .str ⟨(List.replicate 21 (Str.ofString "b").cps).foldl (fun x1 x2 => x1 ++ x2) #[]⟩, .ref t1, .ref t2, .ref t3]) := upd_same
    have b4 := b3.new (o := .lst [.non, .bl true, .bl false, .int (-1), .int 0, .int 1, .int (10 ^ Int.toNat 39), .str "", .str "a", .str "feed", .str "A", .str "a b", .str "7b", .str "a_b", .str ⟨(List.replicate 21 (Str.ofString "b").cps).foldl (fun x1 x2 => x1 ++ x2) #[]⟩, .ref t1, .ref t2, .ref t3]) u4
    have n4 : t4 ≠ b := b3.ne u4
    generalize upd H3 t4 (.lst [.non, .bl true, .bl false, .int (-1), .int 0, .int 1, .int (10 ^ Int.toNat 39), .str "", .str "a", .str "feed", .str "A", .str "a b", .str "7b", .str "a_b", .str ⟨(List.replicate 21 (Str.ofString "b").cps).foldl (fun x1 x2 => x1 ++ x2) #[]⟩, .ref t1, .ref t2, .ref t3]) = H4 at m4 e4 b4 ⊢
    refine ⟨by show 1 ≤ sizeLine; decide, fun t5 u5 => ?_⟩
    have m5 := same_new (o := .tup [.str "a"]) (Same.refl H4) u5
    have e5 : upd H4 t5 (.tup [.str "a"]) t5 = some (.tup [.str "a"]) := upd_same
    have b5 := b4.new (o := .tup [.str "a"]) u5
    have n5 : t5 ≠ b := b4.ne u5
    generalize upd H4 t5 (.tup [.str "a"]) = H5 at m5 e5 b5 ⊢
    refine ⟨by show 2 ≤ sizeLine; decide, fun t6 u6 => ?_⟩
    have m6 := same_new (o := .tup [.str "a", .str "b"]) (Same.refl H5) u6
    have e6 : upd H5 t6 (.tup [.str "a", .str "b"]) t6 = some (.tup [.str "a", .str "b"]) := upd_same
    have b6 := b5.new (o := .tup [.str "a", .str "b"]) u6
    have n6 : t6 ≠ b := b5.ne u6
    generalize upd H5 t6 (.tup [.str "a", .str "b"]) = H6 at m6 e6 b6 ⊢
    refine ⟨by show 3 ≤ sizeLine; decide, fun t7 u7 => ?_⟩
    have m7 := same_new (o := .tup [.str "a", .str "b", .int 1]) (Same.refl H6) u7
    have e7 : upd H6 t7 (.tup [.str "a", .str "b", .int 1]) t7 = some (.tup [.str "a", .str "b", .int 1]) := upd_same
    have b7 := b6.new (o := .tup [.str "a", .str "b", .int 1]) u7
    have n7 : t7 ≠ b := b6.ne u7
    generalize upd H6 t7 (.tup [.str "a", .str "b", .int 1]) = H7 at m7 e7 b7 ⊢
    refine ⟨by show 1 ≤ sizeLine; decide, fun t8 u8 => ?_⟩
    have m8 := same_new (o := .lst [.int 0]) (Same.refl H7) u8
    have e8 : upd H7 t8 (.lst [.int 0]) t8 = some (.lst [.int 0]) := upd_same
    have b8 := b7.new (o := .lst [.int 0]) u8
    have n8 : t8 ≠ b := b7.ne u8
    generalize upd H7 t8 (.lst [.int 0]) = H8 at m8 e8 b8 ⊢
    refine ⟨by show 1 ≤ sizeLine; decide, fun t9 u9 => ?_⟩
    have m9 := same_new (o := .tup [.int 0]) (Same.refl H8) u9
    have e9 : upd H8 t9 (.tup [.int 0]) t9 = some (.tup [.int 0]) := upd_same
    have b9 := b8.new (o := .tup [.int 0]) u9
    have n9 : t9 ≠ b := b8.ne u9
    generalize upd H8 t9 (.tup [.int 0]) = H9 at m9 e9 b9 ⊢
    refine ⟨by show 1 ≤ sizeLine; decide, fun t10 u10 => ?_⟩
    have m10 := same_new (o := .tup [.non]) (Same.refl H9) u10
    have e10 : upd H9 t10 (.tup [.non]) t10 = some (.tup [.non]) := upd_same
    have b10 := b9.new (o := .tup [.non]) u10
    have n10 : t10 ≠ b := b9.ne u10
    generalize upd H9 t10 (.tup [.non]) = H10 at m10 e10 b10 ⊢
    refine ⟨by show 0 ≤ sizeLine; decide, fun t11 u11 => ?_⟩
    have m11 := same_new (o := .tup []) (Same.refl H10) u11
    have e11 : upd H10 t11 (.tup []) t11 = some (.tup []) := upd_same
    have b11 := b10.new (o := .tup []) u11
    have n11 : t11 ≠ b := b10.ne u11
    generalize upd H10 t11 (.tup []) = H11 at m11 e11 b11 ⊢
    refine ⟨by show 1 ≤ sizeLine; decide, fun t12 u12 => ?_⟩
    have m12 := same_new (o := .tup [.ref t11]) (Same.refl H11) u12
    have e12 : upd H11 t12 (.tup [.ref t11]) t12 = some (.tup [.ref t11]) := upd_same
    have b12 := b11.new (o := .tup [.ref t11]) u12
    have n12 : t12 ≠ b := b11.ne u12
    generalize upd H11 t12 (.tup [.ref t11]) = H12 at m12 e12 b12 ⊢
    refine ⟨by show 0 ≤ sizeLine; decide, fun t13 u13 => ?_⟩
    have m13 := same_new (o := .tup []) (Same.refl H12) u13
    have e13 : upd H12 t13 (.tup []) t13 = some (.tup []) := upd_same
    have b13 := b12.new (o := .tup []) u13
    have n13 : t13 ≠ b := b12.ne u13
    generalize upd H12 t13 (.tup []) = H13 at m13 e13 b13 ⊢
    refine ⟨by show 0 ≤ sizeLine; decide, fun t14 u14 => ?_⟩
    have m14 := same_new (o := .tup []) (Same.refl H13) u14
    have e14 : upd H13 t14 (.tup []) t14 = some (.tup []) := upd_same
    have b14 := b13.new (o := .tup []) u14
    have n14 : t14 ≠ b := b13.ne u14
    generalize upd H13 t14 (.tup []) = H14 at m14 e14 b14 ⊢
    refine ⟨by show 2 ≤ sizeLine; decide, fun t15 u15 => ?_⟩
    have m15 := same_new (o := .tup [.ref t13, .ref t14]) (Same.refl H14) u15
    have e15 : upd H14 t15 (.tup [.ref t13, .ref t14]) t15 = some (.tup [.ref t13, .ref t14]) := upd_same
    have b15 := b14.new (o := .tup [.ref t13, .ref t14]) u15
    have n15 : t15 ≠ b := b14.ne u15
    generalize upd H14 t15 (.tup [.ref t13, .ref t14]) = H15 at m15 e15 b15 ⊢
    refine fun t16 u16 => ⟨upd_same, [((Sum.inr "a" : Key), V.int 1)], rfl, by decide, ?_⟩
    rw [upd_upd, show mergeK [] [((Sum.inr "a" : Key), V.int 1)] = [((Sum.inr "a" : Key), V.int 1)] from rfl]
    have m16 := same_new (o := .dK [((Sum.inr "a" : Key), V.int 1)]) (Same.refl H15) u16
    have e16 : upd H15 t16 (.dK [((Sum.inr "a" : Key), V.int 1)]) t16 = some (.dK [((Sum.inr "a" : Key), V.int 1)]) := upd_same
    have b16 := b15.new (o := .dK [((Sum.inr "a" : Key), V.int 1)]) u16
    have n16 : t16 ≠ b := b15.ne u16
    generalize upd H15 t16 (.dK [((Sum.inr "a" : Key), V.int 1)]) = H16 at m16 e16 b16 ⊢
    refine ⟨by show 2 ≤ sizeLine; decide, fun t17 u17 => ?_⟩
    have m17 := same_new (o := .tup [.int 0, .int 1]) (Same.refl H16) u17
    have e17 : upd H16 t17 (.tup [.int 0, .int 1]) t17 = some (.tup [.int 0, .int 1]) := upd_same
    have b17 := b16.new (o := .tup [.int 0, .int 1]) u17
    have n17 : t17 ≠ b := b16.ne u17
    generalize upd H16 t17 (.tup [.int 0, .int 1]) = H17 at m17 e17 b17 ⊢
    refine ⟨by show 11 ≤ sizeLine; decide, fun t18 u18 => ?_⟩
    have m18 := same_new (o := .lst [.ref t5, .ref t6, .ref t7, .ref t8, .ref t9, .ref t10, .ref t12, .ref t15, .ref t16, .str "\n", .ref t17]) (Same.refl H17) u18
    have e18 : upd H17 t18 (.lst [.ref t5, .ref t6, .ref t7, .ref t8, .ref t9, .ref t10, .ref t12, .ref t15, .ref t16, .str "\n", .ref t17]) t18 = some (.lst [.ref t5, .ref t6, .ref t7, .ref t8, .ref t9, .ref t10, .ref t12, .ref t15, .ref t16, .str "\n", .ref t17]) := upd_same
    have b18 := b17.new (o := .lst [.ref t5, .ref t6, .ref t7, .ref t8, .ref t9, .ref t10, .ref t12, .ref t15, .ref t16, .str "\n", .ref t17]) u18
    have n18 : t18 ≠ b := b17.ne u18
    generalize upd H17 t18 (.lst [.ref t5, .ref t6, .ref t7, .ref t8, .ref t9, .ref t10, .ref t12, .ref t15, .ref t16, .str "\n", .ref t17]) = H18 at m18 e18 b18 ⊢
    refine ⟨_, rfl, _, rfl, _, rfl, t4, t18, _, _, rfl, rfl, (m5.trans (m6.trans (m7.trans (m8.trans (m9.trans (m10.trans (m11.trans (m12.trans (m13.trans (m14.trans (m15.trans (m16.trans (m17.trans (m18.trans (Same.refl H18))))))))))))))) _ _ e4, e18, by show 18 + 11 ≤ sizeLine; decide, fun q hq => ?_⟩
    have f1 := (m2.trans (m3.trans (m4.trans (m5.trans (m6.trans (m7.trans (m8.trans (m9.trans (m10.trans (m11.trans (m12.trans (m13.trans (m14.trans (m15.trans (m16.trans (m17.trans (m18.trans (Same.refl H18)))))))))))))))))) _ _ e1
    have f2 := (m3.trans (m4.trans (m5.trans (m6.trans (m7.trans (m8.trans (m9.trans (m10.trans (m11.trans (m12.trans (m13.trans (m14.trans (m15.trans (m16.trans (m17.trans (m18.trans (Same.refl H18))))))))))))))))) _ _ e2
    have f3 := (m4.trans (m5.trans (m6.trans (m7.trans (m8.trans (m9.trans (m10.trans (m11.trans (m12.trans (m13.trans (m14.trans (m15.trans (m16.trans (m17.trans (m18.trans (Same.refl H18)))))))))))))))) _ _ e3
    have f5 := (m6.trans (m7.trans (m8.trans (m9.trans (m10.trans (m11.trans (m12.trans (m13.trans (m14.trans (m15.trans (m16.trans (m17.trans (m18.trans (Same.refl H18)))))))))))))) _ _ e5
    have f6 := (m7.trans (m8.trans (m9.trans (m10.trans (m11.trans (m12.trans (m13.trans (m14.trans (m15.trans (m16.trans (m17.trans (m18.trans (Same.refl H18))))))))))))) _ _ e6
    have f7 := (m8.trans (m9.trans (m10.trans (m11.trans (m12.trans (m13.trans (m14.trans (m15.trans (m16.trans (m17.trans (m18.trans (Same.refl H18)))))))))))) _ _ e7
    have f8 := (m9.trans (m10.trans (m11.trans (m12.trans (m13.trans (m14.trans (m15.trans (m16.trans (m17.trans (m18.trans (Same.refl H18))))))))))) _ _ e8
    have f9 := (m10.trans (m11.trans (m12.trans (m13.trans (m14.trans (m15.trans (m16.trans (m17.trans (m18.trans (Same.refl H18)))))))))) _ _ e9
    have f10 := (m11.trans (m12.trans (m13.trans (m14.trans (m15.trans (m16.trans (m17.trans (m18.trans (Same.refl H18))))))))) _ _ e10
    have f11 := (m12.trans (m13.trans (m14.trans (m15.trans (m16.trans (m17.trans (m18.trans (Same.refl H18)))))))) _ _ e11
    have f12 := (m13.trans (m14.trans (m15.trans (m16.trans (m17.trans (m18.trans (Same.refl H18))))))) _ _ e12
    have f13 := (m14.trans (m15.trans (m16.trans (m17.trans (m18.trans (Same.refl H18)))))) _ _ e13
    have f14 := (m15.trans (m16.trans (m17.trans (m18.trans (Same.refl H18))))) _ _ e14
    have f15 := (m16.trans (m17.trans (m18.trans (Same.refl H18)))) _ _ e15
    have f16 := (m17.trans (m18.trans (Same.refl H18))) _ _ e16
    have f17 := (m18.trans (Same.refl H18)) _ _ e17
    have M : Same H0 H18 := (m1.trans (m2.trans (m3.trans (m4.trans (m5.trans (m6.trans (m7.trans (m8.trans (m9.trans (m10.trans (m11.trans (m12.trans (m13.trans (m14.trans (m15.trans (m16.trans (m17.trans (m18.trans (Same.refl H18)))))))))))))))))))
    have D : DatA K (wo H18 b) ([.non, .bl true, .bl false, .int (-1), .int 0, .int 1, .int (10 ^ Int.toNat 39), .str "", .str "a", .str "feed", .str "A", .str "a b", .str "7b", .str "a_b", .str ⟨(List.replicate 21 (Str.ofString "b").cps).foldl (fun x1 x2 => x1 ++ x2) #[]⟩, .ref t1, .ref t2, .ref t3] ++ [.ref t5, .ref t6, .ref t7, .ref t8, .ref t9, .ref t10, .ref t12, .ref t15, .ref t16, .str "\n", .ref t17]) oddDs := (.cons .non
      (.cons (.bl _)
      (.cons (.bl _)
      (.cons (.int _)
      (.cons (.int _)
      (.cons (.int _)
      (.cons (.int _)
      (.cons (.str _)
      (.cons (.str _)
      (.cons (.str _)
      (.cons (.str _)
      (.cons (.str _)
      (.cons (.str _)
      (.cons (.str _)
      (.cons (.str _)
      (.cons (.tup (sqt_new f1 n1) .nil)
      (.cons (.lst (sql_new f2 n2) .nil)
      (.cons (.dic (kvs := []) ((wo_ne n3).trans f3) .nil)
      (.cons (.tup (sqt_new f5 n5) (.cons (.str _) .nil))
      (.cons (.tup (sqt_new f6 n6) (.cons (.str _) (.cons (.str _) .nil)))
      (.cons (.tup (sqt_new f7 n7) (.cons (.str _) (.cons (.str _) (.cons (.int _) .nil))))
      (.cons (.lst (sql_new f8 n8) (.cons (.int _) .nil))
      (.cons (.tup (sqt_new f9 n9) (.cons (.int _) .nil))
      (.cons (.tup (sqt_new f10 n10) (.cons .non .nil))
      (.cons (.tup (sqt_new f12 n12) (.cons (.tup (sqt_new f11 n11) .nil) .nil))
      (.cons (.tup (sqt_new f15 n15) (.cons (.tup (sqt_new f13 n13) .nil) (.cons (.tup (sqt_new f14 n14) .nil) .nil)))
      (.cons (.dic (kvs := [((Sum.inr "a" : Key), V.int 1)]) ((wo_ne n16).trans f16) (.cons (.int 1) .nil))
      (.cons (.str _)
      (.cons (.tup (sqt_new f17 n17) (.cons (.int _) (.cons (.int _) .nil)))
      .nil)))))))))))))))))))))))))))))
    clear m1 e1 m2 e2 m3 e3 m4 e4 m5 e5 m6 e6 m7 e7 m8 e8 m9 e9 m10 e10 m11 e11 m12 e12 m13 e13 m14 e14 m15 e15 m16 e16 m17 e17
    refine ⟨b, q, _, rfl, b18.new hq, sql_new upd_same (b18.ne hq), (fun z => nomatch z), by show 29 ≤ 1000000; decide, fun x H' hx hB' s' => ?_⟩
    obtain ⟨d, hd, Dx⟩ := datA_mem D hx
    exact k x d H' ((Dx.more (wo_same (same_new (Same.refl _) hq))).more s'.1) (odd_bd d hd) hB' (((Sb.refl b H0).same (same_new M hq)).trans s')
end
end Y


/-! OD: whole numbers and counts among any values. -/
namespace Y
open PySem PySem.Spec PyProof.Rows L2 Ns
def isInt : PyData → Bool | .int _ => true | _ => false
def isCnt : PyData → Bool | .int i => decide (0 ≤ i) | _ => false
theorem isInt_and (d : PyData) : isInt d = (qI d && !qB d) := by cases d <;> rfl
/-- what tells something of any value -/
def spTells (K : PySem.W.Frag) (f : PyData → Bool) : Sp := fun as H Q _ => ∃ (x : V) (d : PyData), as = [x] ∧ DatV K H x d ∧ Q (.bl (f d)) H
section
variable {P : Program} {w : World} {K : PySem.W.Frag} {mg : Str → Option Value} {base : Heap}
theorem scWh : FnScope ["thing"] ["thing"] (defScope sWhole) := ⟨rfl, rfl, rfl, by decide +kernel, rfl, by decide +kernel, by decide +kernel⟩
theorem ok_whole {f : Addr} {fd : FuncData} (F : Fun K "_law_whole" "_law_whole" sWhole f fd) (T : Nat0 mg) (hB : mg "bool" = none) : FnOk P w K mg base CX0 1 f fd ["thing"] (spTells K isInt) := by
  refine F.ok scWh (fun as H Q E h => ?_) (fun cdv A outer s H as Q E hr h => ?_)
  · obtain ⟨x, d, rfl, _⟩ := h
    rfl
  · obtain ⟨x, d, rfl, D, k⟩ := h
    refine ⟨_, pss_one (ps_ret (pe_and (pe_callB (call_isD kit_I) (by rfl) T.isi (by decide +kernel) (pa_cons (pv 0) (pa_cons (pe_bltn (v := .ty "int") (by rfl) T.int (by decide +kernel) rfl) pa_nil)))
      (pe_one (pe_not (pe_callB (call_isD kit_B) (by rfl) T.isi (by decide +kernel) (pa_cons (pv 0) (pa_cons (pe_bltn (v := .ty "bool") (by rfl) hB (by decide +kernel) rfl) pa_nil))))))), ?_⟩
    rw [isInt_and] at k
    refine ⟨_, rfl, x, d, rfl, D, qI d, rfl, ?_⟩
    refine ite2 (fun h => ?_) (fun h => ?_)
    · refine ⟨_, rfl, x, d, rfl, D, qB d, rfl, ?_⟩
      rw [h] at k
      exact k
    · rw [Bool.eq_false_iff.mpr h] at k
      exact k
theorem scII : FnScope ["thing"] ["thing"] (defScope sIsInteger) := ⟨rfl, rfl, rfl, by decide +kernel, rfl, by decide +kernel, by decide +kernel⟩
theorem ok_isInteger {f : Addr} {fd : FuncData} (F : Fun K "is_integer" "is_integer" sIsInteger f fd) (T : Nat0 mg) (hB : mg "bool" = none) : FnOk P w K mg base CX0 1 f fd ["thing"] (spTells K isInt) := by
  refine F.ok scII (fun as H Q E h => ?_) (fun cdv A outer s H as Q E hr h => ?_)
  · obtain ⟨x, d, rfl, _⟩ := h
    rfl
  · obtain ⟨x, d, rfl, D, k⟩ := h
    refine ⟨_, pss_one (ps_ret (pe_and (pe_callB (call_isD kit_I) (by rfl) T.isi (by decide +kernel) (pa_cons (pv 0) (pa_cons (pe_bltn (v := .ty "int") (by rfl) T.int (by decide +kernel) rfl) pa_nil)))
      (pe_one (pe_not (pe_callB (call_isD kit_B) (by rfl) T.isi (by decide +kernel) (pa_cons (pv 0) (pa_cons (pe_bltn (v := .ty "bool") (by rfl) hB (by decide +kernel) rfl) pa_nil))))))), ?_⟩
    rw [isInt_and] at k
    refine ⟨_, rfl, x, d, rfl, D, qI d, rfl, ?_⟩
    refine ite2 (fun h => ?_) (fun h => ?_)
    · refine ⟨_, rfl, x, d, rfl, D, qB d, rfl, ?_⟩
      rw [h] at k
      exact k
    · rw [Bool.eq_false_iff.mpr h] at k
      exact k
theorem isInt_int {d : PyData} (h : isInt d = true) : ∃ i, d = .int i := by cases d <;> first | exact ⟨_, rfl⟩ | cases h
theorem dat_int {K : PySem.W.Frag} {H : Hp} {x : V} {i : Int} (D : DatV K H x (.int i)) : x = .int i := by cases D; rfl
theorem scIC : FnScope ["thing"] ["thing"] (defScope sIsCount) := ⟨rfl, rfl, rfl, by decide +kernel, rfl, by decide +kernel, by decide +kernel⟩
theorem ok_isCount {f fI : Addr} {fd dI : FuncData} (F : Fun K "is_count" "is_count" sIsCount f fd) (GI : FnOk P w K mg base CX0 1 fI dI ["thing"] (spTells K isInt)) (FI : Fun K "is_integer" "is_integer" sIsInteger fI dI) (mI : mg "is_integer" = some (.ref fI)) (bI : Binds K dI ["thing"] []) :
    FnOk P w K mg base CX0 2 f fd ["thing"] (spTells K isCnt) := by
  refine F.ok scIC (fun as H Q E h => ?_) (fun cdv A outer s H as Q E hr h => ?_)
  · obtain ⟨x, d, rfl, _⟩ := h
    rfl
  · obtain ⟨x, d, rfl, D, k⟩ := h
    refine ⟨_, pss_one (ps_ret (pe_and (pe_call GI hr rfl mI FI.kp bI .nil pass0 (pa_cons (pv 0) pa_nil)) (pe_one (pe_cmpR op_ge (pv 0) pe_int (nomark _))))), ?_⟩
    refine ⟨_, rfl, x, d, rfl, D, isInt d, rfl, ?_⟩
    refine ite2 (fun h => ?_) (fun h => ?_)
    · obtain ⟨i, rfl⟩ := isInt_int h
      cases dat_int D
      exact ⟨_, rfl, _, _, rfl, rfl, k⟩
    · have e : isCnt d = false := by cases d <;> first | rfl | exact absurd rfl h
      rw [e] at k
      exact k
end
end Y

/-! cables and cars: what is known of them; dicts of pairs -/
namespace Y
open PySem PySem.Spec PyProof.Rows L2 Ns
open PySem.W (dataLe)
abbrev Cab := Str × Str × Int
abbrev Car := Str × Str × Int × Int
def ckey (c : Cab) : Str × Str := (c.1, c.2.1)
/-- a dict of pairs, its entries -/
def kvs (fs : List ((Str × Str) × Int)) : List (List Key × V) := fs.map fun f => (pK f.1, .int f.2)
theorem pK_inj {k j : Str × Str} (h : pK k = pK j) : k = j := by
  obtain ⟨a, b⟩ := k
  obtain ⟨c, d⟩ := j
  injection h with h1 h2
  injection h2 with h2 _
  injection h1 with h1
  injection h2 with h2
  exact Prod.ext h1 h2
def put (fs : List ((Str × Str) × Int)) (k : Str × Str) (v : Int) : List ((Str × Str) × Int) := if (fs.any fun f => decide (f.1 = k)) = true then fs.map (fun f => if f.1 = k then (f.1, v) else f) else fs ++ [(k, v)]
theorem kvs_any (k : Str × Str) : ∀ fs : List ((Str × Str) × Int), ((kvs fs).any fun kv => decide (kv.1 = pK k)) = fs.any fun f => decide (f.1 = k)
  | [] => rfl
  | f :: fs => by
    have ih := kvs_any k fs
    unfold kvs at ih ⊢
    rw [List.map_cons, List.any_cons, List.any_cons, ih]
    congr 1
    rw [decide_eq_decide]
    exact ⟨fun h => pK_inj h, fun h => by rw [h]⟩
theorem kvs_put (fs : List ((Str × Str) × Int)) (k : Str × Str) (v : Int) : putK (kvs fs) (pK k) (.int v) = kvs (put fs k v) := by
  unfold putK put
  rw [kvs_any]
  by_cases h : (fs.any fun f => decide (f.1 = k)) = true
  · rw [if_pos h, if_pos h]
    unfold kvs
    rw [List.map_map, List.map_map]
    apply List.map_congr_left
    intro f _
    by_cases e : f.1 = k
    · simp [e]
    · have e' : ¬ pK f.1 = pK k := fun z => e (pK_inj z)
      simp [e, e']
  · rw [if_neg h, if_neg h]
    unfold kvs
    rw [List.map_append]
    rfl
/-- what a dict of drawn cables holds -/
structure Fs (ns : List Str) (most : Int) (many : Nat) (fs : List ((Str × Str) × Int)) : Prop where
  len : fs.length ≤ many
  nodup : (fs.map (·.1)).Nodup
  each : ∀ f ∈ fs, f.1.1 ≠ f.1.2 ∧ f.1.1 ∈ feed :: ns ∧ f.1.2 ∈ ns ∧ 0 ≤ f.2 ∧ f.2 ≤ most
theorem Fs.nil (ns : List Str) (most : Int) (many : Nat) : Fs ns most many [] := ⟨Nat.zero_le _, List.nodup_nil, fun _ z => nomatch z⟩
theorem Fs.put {ns : List Str} {most v : Int} {many : Nat} {fs : List ((Str × Str) × Int)} {s e : Str} (h : Fs ns most many fs) (hl : fs.length < many) (h1 : s ≠ e) (h2 : s ∈ feed :: ns) (h3 : e ∈ ns) (h4 : 0 ≤ v) (h5 : v ≤ most) : Fs ns most many (put fs (s, e) v) := by
  unfold Y.put
  by_cases c : (fs.any fun f => decide (f.1 = (s, e))) = true
  · rw [if_pos c]
    refine ⟨by rw [List.length_map]; exact h.len, ?_, fun f hf => ?_⟩
    · have e1 : (fs.map (fun f => if f.1 = (s, e) then (f.1, v) else f)).map (·.1) = fs.map (·.1) := by
        rw [List.map_map]
        apply List.map_congr_left
        intro f _
        by_cases z : f.1 = (s, e)
        · simp [z]
        · simp [z]
      rw [e1]
      exact h.nodup
    · obtain ⟨g, hg, rfl⟩ := List.mem_map.mp hf
      by_cases z : g.1 = (s, e)
      · rw [if_pos z]
        obtain ⟨g1, g2, g3, _⟩ := h.each g hg
        exact ⟨g1, g2, g3, h4, h5⟩
      · rw [if_neg z]
        exact h.each g hg
  · rw [if_neg c]
    have nc : (s, e) ∉ fs.map (·.1) := fun z => c (by
      obtain ⟨f, hf, ef⟩ := List.mem_map.mp z
      exact List.any_eq_true.mpr ⟨f, hf, decide_eq_true ef⟩)
    refine ⟨by rw [List.length_append]; exact hl, ?_, fun f hf => ?_⟩
    · rw [List.map_append, List.nodup_append]
      refine ⟨h.nodup, List.nodup_cons.mpr ⟨(fun z => nomatch z), List.nodup_nil⟩, fun y hy z hz => ?_⟩
      rw [List.mem_singleton.mp hz]
      rintro rfl
      exact nc hy
    · rcases List.mem_append.mp hf with q | q
      · exact h.each f q
      · rw [List.mem_singleton.mp q]
        exact ⟨h1, h2, h3, h4, h5⟩
/-- drawn cables, in their order -/
structure Cabs (ns : List Str) (most : Int) (many : Nat) (cs : List Cab) : Prop where
  len : cs.length ≤ many
  nodup : (cs.map ckey).Nodup
  each : ∀ c ∈ cs, c.1 ≠ c.2.1 ∧ c.1 ∈ feed :: ns ∧ c.2.1 ∈ ns ∧ 0 ≤ c.2.2 ∧ c.2.2 ≤ most
  srt : ∃ ks : List (Str × Str), cs.map ckey = ks.mergeSort (dataLe false pD)
/-- a cable as a value, a car -/
def CabV (K : PySem.W.Frag) (H : Hp) (x : V) (c : Cab) : Prop := ∃ t, x = .ref t ∧ SqT K H t [.str c.1, .str c.2.1, .int c.2.2]
def CarV (K : PySem.W.Frag) (H : Hp) (x : V) (c : Car) : Prop := ∃ t, x = .ref t ∧ SqT K H t [.str c.1, .str c.2.1, .int c.2.2.1, .int c.2.2.2]
theorem sqt_more {K : PySem.W.Frag} {H H' : Hp} (m : Same H H') {a : Addr} {xs : List V} (h : SqT K H a xs) : SqT K H' a xs := h.elim (fun z => .inl (z.elim (fun z => .inl (m _ _ z)) fun ⟨o, z⟩ => .inr ⟨o, m _ _ z⟩)) .inr
theorem CabV.more {K : PySem.W.Frag} {H H' : Hp} (m : Same H H') {x : V} {c : Cab} (h : CabV K H x c) : CabV K H' x c := by
  obtain ⟨t, e, q⟩ := h
  exact ⟨t, e, sqt_more m q⟩
theorem CarV.more {K : PySem.W.Frag} {H H' : Hp} (m : Same H H') {x : V} {c : Car} (h : CarV K H x c) : CarV K H' x c := by
  obtain ⟨t, e, q⟩ := h
  exact ⟨t, e, sqt_more m q⟩
theorem paired_imp {α β : Type} {R S : α → β → Prop} (k : ∀ a b, R a b → S a b) : ∀ {as : List α} {bs : List β}, Paired R as bs → Paired S as bs
  | _, _, .nil => .nil
  | _, _, .cons h t => .cons (k _ _ h) (paired_imp k t)
theorem paired_snoc {α β : Type} {R : α → β → Prop} {a : α} {b : β} (h : R a b) : ∀ {as : List α} {bs : List β}, Paired R as bs → Paired R (as ++ [a]) (bs ++ [b])
  | _, _, .nil => .cons h .nil
  | _, _, .cons g t => .cons g (paired_snoc h t)
theorem rows_nodup {ns : List Str} (N : Nms [] ns) : (feed :: ns).Nodup := List.nodup_cons.mpr ⟨fun z => (N.off _ z).2 rfl, N.nodup⟩
theorem row_ne {α : Type} {l : List α} (n : l.Nodup) {i j : Nat} {x y : α} (h : l[i]? = some x) (g : l[j]? = some y) (ne : i ≠ j) : x ≠ y := by
  rintro rfl
  exact ne ((List.getElem?_inj (List.getElem?_eq_some_iff.mp h).1 n).mp (h.trans g.symm))
theorem txs_at {l : List Str} {j : Nat} {s : Str} (h : l[j]? = some s) : (txs l)[j]? = some (.str s) := by
  unfold txs
  rw [List.getElem?_map, h]
  rfl
/-- the value of a pair in a dict of pairs -/
theorem kvs_get {fs : List ((Str × Str) × Int)} (n : (fs.map (·.1)).Nodup) {k : Str × Str} {v : Int} (h : (k, v) ∈ fs) : valV (kvs fs) (pK k) = some (.int v) := by
  induction fs with
  | nil => cases h
  | cons f fs ih =>
    rw [List.map_cons, List.nodup_cons] at n
    show valV ((pK f.1, V.int f.2) :: kvs fs) (pK k) = _
    rcases List.mem_cons.mp h with e | e
    · rw [← e]
      exact valV_pos rfl
    · rw [valV_neg (fun z => n.1 ?_)]
      · exact ih n.2 e
      · rw [show f.1 = k from pK_inj z]
        exact List.mem_map.mpr ⟨(k, v), e, rfl⟩
end Y

namespace Y
open PySem PySem.Spec PyProof.Rows L2 Ns
open C8 (pss_cut)
open PySem.W (dataLe)
def spCables (K : PySem.W.Frag) : Sp := fun as H Q _ => ∃ (b a : Addr) (ns : List Str) (many : Nat) (most : Int), as = [.ref b, .ref a, .int many, .int most] ∧ Bag H b ∧ H a = some (.lst (txs ns)) ∧ Nms [] ns ∧ ns.length ≤ 50 ∧ many ≤ 60 ∧ 2 ≤ most ∧ most ≤ 10 ^ 12 ∧
  ∀ (p : Addr) (xs : List V) (cs : List Cab) (H' : Hp), Cabs ns most many cs → H' p = some (.tup xs) → Paired (CabV K (wo H' b)) xs cs → H p = none → p ≠ b → Bag H' b → Sb b H H' → Q (.ref p) H'
theorem s3u {H : Hp} {a q : Addr} {o u : HO} (hq : H q = none) (h : H a = some u) : upd H q o a = some u := by rw [upd_ne (ne_of_none h hq)]; exact h
theorem paired_len {α β : Type} {R : α → β → Prop} : ∀ {as : List α} {bs : List β}, Paired R as bs → as.length = bs.length
  | _, _, .nil => rfl
  | _, _, .cons _ t => by rw [List.length_cons, List.length_cons, paired_len t]
/-- a new tuple of a cable -/
def CabT (H : Hp) (b : Addr) (x : V) (c : Cab) : Prop := ∃ t, x = .ref t ∧ t ≠ b ∧ H t = some (.tup [.str c.1, .str c.2.1, .int c.2.2])
theorem CabT.more {H H' : Hp} {b : Addr} (m : Same H H') {x : V} {c : Cab} (h : CabT H b x c) : CabT H' b x c := by
  obtain ⟨t, e, n, q⟩ := h
  exact ⟨t, e, n, m _ _ q⟩
theorem CabT.upd {H : Hp} {b D : Addr} {ys : List V} {o : HO} (hD : H D = some (.lst ys)) {x : V} {c : Cab} (h : CabT H b x c) : CabT (L2.upd H D o) b x c := by
  obtain ⟨t, e, n, q⟩ := h
  exact ⟨t, e, n, by rw [upd_ne (fun z => by rw [z, hD] at q; cases q)]; exact q⟩
theorem paired_at {α β : Type} {R : α → β → Prop} : ∀ {as : List α} {bs : List β}, Paired R as bs → ∀ {i : Nat} {a : α}, as[i]? = some a → ∃ b, bs[i]? = some b ∧ R a b
  | _, _, .cons h _, 0, a, e => by
    rw [List.getElem?_cons_zero] at e
    cases e
    exact ⟨_, rfl, h⟩
  | _, _, .cons _ t, i + 1, a, e => by
    rw [List.getElem?_cons_succ] at e
    exact paired_at t e
theorem ne_at {H : Hp} {a b : Addr} {o u : HO} (h : H a = some o) (g : H b = some u) (n : o ≠ u) : a ≠ b := fun e => by
  rw [e, g] at h
  exact n (Option.some.inj h).symm
/-- amid the loops -/
def CabI (H : Hp) (b a d r : Addr) (ns : List Str) (many : Nat) (most : Int) (σ : L2.St) (H' : Hp) : Prop := ∃ (kk tt cc : Option V) (fs : List ((Str × Str) × Int)), σ = [some (.ref b), some (.ref a), some (.int many), some (.int most), some (.ref d), some (.ref r), kk, tt, cc, none, none] ∧
  H' d = some (.dT (kvs fs)) ∧ H' r = some (.lst (txs (feed :: ns))) ∧ Fs ns most many fs ∧ Bag H' b ∧ Sb b H H'
theorem cab_put {H H' : Hp} {b d r : Addr} {fs : List ((Str × Str) × Int)} {s e : Str} {v : Int} {ns : List Str} (hB : Bag H b) (hd : H d = none) (hr : H r = none) (nrd : r ≠ d) (e1 : H' d = some (.dT (kvs fs))) (e2 : H' r = some (.lst (txs (feed :: ns)))) (hB' : Bag H' b) (s' : Sb b H H') :
    upd H' d (.dT (putK (kvs fs) (pK (s, e)) (.int v))) d = some (.dT (kvs (put fs (s, e) v))) ∧ upd H' d (.dT (putK (kvs fs) (pK (s, e)) (.int v))) r = some (.lst (txs (feed :: ns))) ∧ Bag (upd H' d (.dT (putK (kvs fs) (pK (s, e)) (.int v)))) b ∧ Sb b H (upd H' d (.dT (putK (kvs fs) (pK (s, e)) (.int v)))) :=
  ⟨by rw [upd_same, kvs_put], by rw [upd_ne nrd]; exact e2, hB.wr hd s' hB', s'.wr hd⟩
section
variable {P : Program} {w : World} {K : PySem.W.Frag} {mg : Str → Option Value} {base : Heap}
theorem scC : FnScope ["bag", "knots", "many", "most", "found", "rows", "k", "turn", "couple", "one", "other"] ["bag", "knots", "many", "most"] (defScope sCables) := ⟨rfl, rfl, rfl, by decide +kernel, rfl, by decide +kernel, by decide +kernel⟩
theorem ok_cables {f fT fS fZ : Addr} {fd fdT fdS fdZ : FuncData} (F : Fun K "_law_cables" "_law_cables" sCables f fd) (T : Nat0 mg) (FT : Fun K "_law_take" "_law_take" sTake fT fdT) (mT : mg "_law_take" = some (.ref fT)) (bT : Binds K fdT ["bag", "many"] [])
    (FS : Fun K "_law_some" "_law_some" sSome fS fdS) (mS : mg "_law_some" = some (.ref fS)) (bS : Binds K fdS ["bag", "things"] [])
    (GZ : FnOk P w K mg base CX0 3 fZ fdZ ["bag", "most"] spSize) (FZ : Fun K "_law_size" "_law_size" sSize fZ fdZ) (mZ : mg "_law_size" = some (.ref fZ)) (bZ : Binds K fdZ ["bag", "most"] []) :
    FnOk P w K mg base CX0 4 f fd ["bag", "knots", "many", "most"] (spCables K) := by
  have GT : FnOk P w K mg base CX0 1 fT fdT ["bag", "many"] spTake := ok_take FT T
  have GS : FnOk P w K mg base CX0 2 fS fdS ["bag", "things"] (spSome K) := ok_some FS T FT mT bT
  refine F.ok scC (fun as H Q E h => ?_) (fun cdv A outer s H as Q E hr h => ?_)
  · obtain ⟨b, a, ns, many, most, rfl, _⟩ := h
    rfl
  · obtain ⟨b, a, ns, many, most, rfl, hB, hS, N, hns, hm, hmo, hmo2, k⟩ := h
    have hr1 : Room 1 _ := hr.mono (by decide)
    have hr2 : Room 2 _ := hr.mono (by decide)
    have hu := hu_of hr
    refine ⟨_, pss_cons (ps_asg (pe_tup (pa_cons pe_dnewT (pa_cons (pe_op op_cat (pe_lst (pa_cons pe_str pa_nil)) (pv 1)) pa_nil))) (pg_tup (by rfl) (pgs_cons (pg_name (i := 4) scC.nd rfl (.inr rfl)) (pgs_cons (pg_name (i := 5) scC.nd rfl (.inl rfl)) pgs_nil))))
      (pss_cons (ps_for PassesOwn.never rfl (pi_range2 (by rfl) T.range (pa_cons pe_int (pa_cons (pe_callB call_len_seq (by rfl) T.len PySem.boot_len (pa_cons (pv 5) pa_nil)) pa_nil))) (pg_name (i := 6) scC.nd rfl (.inl rfl))
        (pss_one (ps_if (PW.pt (pw_and (pt_cmpR op_gt (pe_call GT hr1 rfl mT FT.kp bT .nil pass0 (pa_cons (pv 0) (pa_cons pe_int pa_nil))) pe_int (nomark _)) (pw_and1 (pt_cmpR op_lt (pe_callB call_len_dT (by rfl) T.len PySem.boot_len (pa_cons (pv 4) pa_nil)) (pv 2) (nomark _)))))
          (pss_one (ps_dput hu (pv 4) (pe_tup (pa_cons (pe_ix ix_list (pv 5) (pe_call GT hr1 rfl mT FT.kp bT .nil pass0 (pa_cons (pv 0) (pa_cons (pv 6) pa_nil))) (fun _ _ => rfl)) (pa_cons (pe_ix ix_list (pv 5) (pv 6) (fun _ _ => rfl)) pa_nil)))
            (pe_callB (call_max2 rfl) (by rfl) T.max (by decide +kernel) (pa_cons (pe_call GS hr2 rfl mS FS.kp bS .nil pass0 (pa_cons (pv 0) (pa_cons (pe_lst (pa_cons pe_int (pa_cons pe_int (pa_cons pe_int (pa_cons pe_int pa_nil))))) pa_nil)))
              (pa_cons (pe_call GZ hr rfl mZ FZ.kp bZ .nil pass0 (pa_cons (pv 0) (pa_cons (pv 3) pa_nil))) pa_nil))) rfl)) pss_nil)))
      (pss_cons (ps_for PassesOwn.never rfl (pi_range1 (by rfl) T.range (pa_cons (pe_call GT hr1 rfl mT FT.kp bT .nil pass0 (pa_cons (pv 0) (pa_cons (pe_op op_add (pv 2) pe_int) pa_nil))) pa_nil)) (pg_name (i := 7) scC.nd rfl (.inl rfl))
        (pss_cons (ps_set (i := 8) scC.nd rfl (.inl rfl) (pe_tup (pa_cons (pe_call GS hr2 rfl mS FS.kp bS .nil pass0 (pa_cons (pv 0) (pa_cons (pv 5) pa_nil))) (pa_cons (pe_call GS hr2 rfl mS FS.kp bS .nil pass0 (pa_cons (pv 0) (pa_cons (pv 5) pa_nil))) pa_nil))))
        (pss_one (ps_if (PW.pt (pw_and (pt_cmpR op_ne (pe_ix ix_tup (pv 8) pe_int (fun _ _ => rfl)) (pe_ix ix_tup (pv 8) pe_int (fun _ _ => rfl)) (nomark _)) (pw_and (pt_cmpR op_ne (pe_ix ix_tup (pv 8) pe_int (fun _ _ => rfl)) pe_str (nomark _))
            (pw_and1 (pt_cmpR op_lt (pe_callB call_len_dT (by rfl) T.len PySem.boot_len (pa_cons (pv 4) pa_nil)) (pv 2) (nomark _))))))
          (pss_one (ps_dput hu (pv 4) (pv 8) (pe_call GZ hr rfl mZ FZ.kp bZ .nil pass0 (pa_cons (pv 0) (pa_cons (pv 3) pa_nil))) rfl)) pss_nil))))
      (pss_one (ps_ret (pe_callTy call_tuple_of (by rfl) T.tuple (by decide +kernel) (pa_cons
        (pe_lc (own := [("one", 9), ("other", 10)]) (g := gTup K 2 (gCons (gName 9) (gCons (gName 10) gNil))) (tt := tYes) rfl scC.nd (pi_list (pe_callB (cr_sortDT rfl hr.units) (by rfl) T.sorted (by decide +kernel) (pa_cons (pv 4) pa_nil)))
          (blkOk_by (N := ["bag", "knots", "many", "most", "found", "rows", "k", "turn", "couple", "one", "other"]) (sc := defScope sCables) (by decide +kernel)) (fun _ _ _ _ _ => pg_tup rfl (pgs_cons (pg_name (i := 9) scC.nd rfl (Or.inl rfl)) (pgs_cons (pg_name (i := 10) scC.nd rfl (Or.inl rfl)) pgs_nil))) (fun _ _ _ _ _ => pts_nil)
          (fun _ _ _ _ _ => pe_tup (pa_cons (pv 9) (pa_cons (pv 10) (pa_cons (pe_dget hu (pv 4) (pe_tup (pa_cons (pv 9) (pa_cons (pv 10) pa_nil))) (fun _ _ => rfl)) pa_nil))))) pa_nil)))))), ?_⟩
    refine fun d hd => ⟨by show 1 ≤ sizeLine; decide, fun q hq => ⟨_, rfl, q, a, [.str feed], txs ns, rfl, rfl, upd_same, ?_, ?_, fun r hr' => ⟨by show 2 ≤ sizeLine; decide, fun t ht => ⟨t, _, rfl, SqT.of upd_same, rfl, _, _, rfl, _, _, rfl, rfl, ?_⟩⟩⟩⟩
    · exact same_new (same_new (Same.refl H) hd) hq _ _ hS
    · rw [show (txs ns).length = ns.length from List.length_map _]
      exact Nat.le_of_lt (small1000 (show 1 + ns.length ≤ 1000 by omega))
    have ndb : d ≠ b := hB.ne hd
    have s0 : Sb b H (upd H d (.dT [])) := (Sb.refl b H).new hd
    have s1 := s0.new (o := .lst [.str feed]) hq
    have s2 := s1.new (o := .lst ([.str feed] ++ txs ns)) hr'
    have s3 := s2.new (o := .tup [.ref d, .ref r]) ht
    have b0 := ((((hB.new (o := .dT []) hd).new (o := .lst [.str feed]) hq).new (o := .lst ([.str feed] ++ txs ns)) hr').new (o := .tup [.ref d, .ref r]) ht)
    have nrb : r ≠ b := ((hB.new (o := .dT []) hd).new (o := .lst [.str feed]) hq).ne hr'
    have fr : H r = none := s1.free hr' nrb
    have e1 : upd (upd (upd (upd H d (.dT [])) q (.lst [.str feed])) r (.lst ([.str feed] ++ txs ns))) t (.tup [.ref d, .ref r]) d = some (.dT (kvs [])) := by
      have f0 : upd H d (.dT []) d = some (.dT (kvs [])) := upd_same
      have f1 : upd (upd H d (.dT [])) q (.lst [.str feed]) d = some (.dT (kvs [])) := by rw [upd_ne (ne_of_none f0 hq)]; exact f0
      have f2 : upd (upd (upd H d (.dT [])) q (.lst [.str feed])) r (.lst ([.str feed] ++ txs ns)) d = some (.dT (kvs [])) := by rw [upd_ne (ne_of_none f1 hr')]; exact f1
      rw [upd_ne (ne_of_none f2 ht)]; exact f2
    have e2 : upd (upd (upd (upd H d (.dT [])) q (.lst [.str feed])) r (.lst ([.str feed] ++ txs ns))) t (.tup [.ref d, .ref r]) r = some (.lst (txs (feed :: ns))) := by
      have f2 : upd (upd (upd H d (.dT [])) q (.lst [.str feed])) r (.lst ([.str feed] ++ txs ns)) r = some (.lst (txs (feed :: ns))) := upd_same
      rw [upd_ne (ne_of_none f2 ht)]; exact f2
    have nrd : r ≠ d := ne_at e2 e1 (fun z => by cases z)
    have tz : (txs (feed :: ns)).length = ns.length + 1 := by show (List.map _ _).length = _; rw [List.length_map]; rfl
    have big : ((10 : Int) ^ 13).natAbs < 2 ^ 200 := by decide +kernel
    have posR : txs (feed :: ns) ≠ [] := fun z => nomatch z
    refine ⟨_, rfl, r, _, rfl, .inl (SqL.of e2), 1, ((txs (feed :: ns)).length : Int), rfl, ⟨by decide, by decide, by omega, by omega⟩, for_range (lo := 1) (n := (((txs (feed :: ns)).length : Int) - 1).toNat) (fun i σ H' => CabI H b a d r ns many most σ H') ?_ ?_ ?_⟩
    · exact ⟨none, none, none, [], rfl, e1, e2, Fs.nil _ _ _, b0, s3⟩
    · rintro i σ H' hi ⟨kk, tt, cc, fs, rfl, g1, g2, FF, hB', s'⟩
      have hi' : i < ns.length := by omega
      refine ⟨_, rfl, b, 8, rfl, hB', by decide, by decide, fun v H2 v0 v1 hB2 s2' => ⟨v, 0, rfl, rfl, _, rfl, ?_⟩⟩
      have h1 := s2'.get g1 ndb
      have h2 := s2'.get g2 nrb
      have s02 := s'.trans s2'
      refine ite2 (fun _ => ?_) (fun _ => ⟨_, tt, cc, fs, rfl, h1, h2, FF, hB2, s02⟩)
      refine ⟨_, rfl, d, _, rfl, h1, _, rfl, _, _, rfl, rfl, _, rfl, ?_⟩
      refine ite2 (fun lt => ?_) (fun _ => ⟨_, tt, cc, fs, rfl, h1, h2, FF, hB2, s02⟩)
      have hlt : fs.length < many := by
        have q := of_decide_eq_true lt
        rw [show (kvs fs).length = fs.length from List.length_map _] at q
        omega
      refine ⟨_, rfl, by show 4 ≤ sizeLine; decide, fun q4 hq4 => ⟨b, q4, _, rfl, hB2.new hq4, sql_new upd_same (hB2.ne hq4), (fun z => nomatch z), by show 4 ≤ 1000000; decide, fun x H3 hx hB3 s3' => ?_⟩⟩
      obtain ⟨c, rfl, c0, c2⟩ : ∃ c : Int, x = .int c ∧ 0 ≤ c ∧ c ≤ 2 := by
        simp only [List.mem_cons, List.not_mem_nil, or_false] at hx
        rcases hx with rfl | rfl | rfl | rfl
        · exact ⟨1, rfl, by decide, by decide⟩
        · exact ⟨2, rfl, by decide, by decide⟩
        · exact ⟨1, rfl, by decide, by decide⟩
        · exact ⟨0, rfl, by decide, by decide⟩
      have s03 := (s02.new (o := .lst [.int 1, .int 2, .int 1, .int 0]) hq4).trans s3'
      refine ⟨_, rfl, _, rfl, b, most, rfl, hB3, by omega, by omega, fun u H4 u0 u1 hB4 s4 => ⟨c, u, rfl, _, rfl, ?_⟩⟩
      have s04 := s03.trans s4
      refine ⟨_, rfl, _, rfl, _, rfl, b, _, rfl, hB4, by omega, Nat.lt_of_le_of_lt (show (1 + (i : Int)).natAbs ≤ _ by omega) big, fun j H5 j0 j1 hB5 s5 => ?_⟩
      have s05 := s04.trans s5
      obtain ⟨sx, hsx⟩ : ∃ sx, (feed :: ns)[j.toNat]? = some sx := ⟨_, List.getElem?_eq_getElem (by rw [List.length_cons]; omega)⟩
      obtain ⟨ex, hex⟩ : ∃ ex, (feed :: ns)[1 + i]? = some ex := ⟨_, List.getElem?_eq_getElem (by rw [List.length_cons]; omega)⟩
      have m1 : sx ∈ feed :: ns := List.mem_of_getElem? hsx
      have m2 : ex ∈ ns := by
        rw [Nat.add_comm, List.getElem?_cons_succ] at hex
        exact List.mem_of_getElem? hex
      have ne : sx ≠ ex := row_ne (rows_nodup N) hsx hex (by omega)
      have k1 := s5.get (s4.get (s3'.get (s3u hq4 h1) ndb) ndb) ndb
      have k2 := s5.get (s4.get (s3'.get (s3u hq4 h2) nrb) nrb) nrb
      refine ⟨r, _, j, .str sx, rfl, rfl, SqL.of k2, by rw [show j = ((j.toNat : Nat) : Int) by omega]; exact atI_nat (txs_at hsx), ?_⟩
      refine ⟨_, rfl, _, rfl, r, _, _, .str ex, rfl, rfl, SqL.of k2, by rw [show (1 + (i : Int)) = ((1 + i : Nat) : Int) by omega]; exact atI_nat (txs_at hex), ?_⟩
      refine ⟨by show 2 ≤ sizeLine; decide, fun t' ht' => ?_⟩
      have k1' : upd H5 t' (.tup [.str sx, .str ex]) d = some (.dT (kvs fs)) := by rw [upd_ne (ne_of_none k1 ht')]; exact k1
      have k2' : upd H5 t' (.tup [.str sx, .str ex]) r = some (.lst (txs (feed :: ns))) := by rw [upd_ne (ne_of_none k2 ht')]; exact k2
      have hz : (kvs fs).length < sizeLine := by
        rw [show (kvs fs).length = fs.length from List.length_map _]
        exact small1000 (by omega)
      refine ⟨d, _, rfl, DPut.t (k := pK (sx, ex)) k1' upd_same hz, ?_⟩
      obtain ⟨p1, p2, p3, p4⟩ := cab_put (s := sx) (e := ex) (v := if u > c then u else c) hB hd fr nrd k1' k2' (hB5.new ht') (s05.new ht')
      exact ⟨_, tt, cc, _, rfl, p1, p2, FF.put hlt ne m1 m2 (by split <;> omega) (by split <;> omega), p3, p4⟩
    rintro σ H' ⟨kk, tt, cc, fs, rfl, g1, g2, FF, hB', s'⟩
    refine ⟨_, rfl, _, rfl, _, _, rfl, rfl, b, _, rfl, hB', by omega, Nat.lt_of_le_of_lt (show ((many : Int) + 1).natAbs ≤ _ by omega) big, fun n H2 n0 n1 hB2 s2' => ?_⟩
    refine ⟨n, rfl, by omega, by omega, for_range (n := n.toNat) (fun i σ H' => CabI H b a d r ns many most σ H') ?_ ?_ ?_⟩
    · exact ⟨kk, tt, cc, fs, rfl, s2'.get g1 ndb, s2'.get g2 nrb, FF, hB2, s'.trans s2'⟩
    · clear g1 g2 FF hB' s' s2' hB2
      rintro i σ H3 hi ⟨kk, tt, cc, fs, rfl, g1, g2, FF, hB3, s3'⟩
      refine ⟨_, rfl, _, rfl, b, r, _, rfl, hB3, sql_new g2 nrb, posR, by omega, fun x H4 hx hB4 s4 => ?_⟩
      obtain ⟨sx, m1, rfl⟩ := List.mem_map.mp hx
      have q1 := s4.get g1 ndb
      have q2 := s4.get g2 nrb
      refine ⟨_, rfl, _, rfl, b, r, _, rfl, hB4, sql_new q2 nrb, posR, by omega, fun y H5 hy hB5 s5 => ?_⟩
      obtain ⟨ex, m2, rfl⟩ := List.mem_map.mp hy
      have s05 := (s3'.trans s4).trans s5
      have k1 := s5.get q1 ndb
      have k2 := s5.get q2 nrb
      refine ⟨by show 2 ≤ sizeLine; decide, fun t' ht' => ?_⟩
      have k1' : upd H5 t' (.tup [.str sx, .str ex]) d = some (.dT (kvs fs)) := by rw [upd_ne (ne_of_none k1 ht')]; exact k1
      have k2' : upd H5 t' (.tup [.str sx, .str ex]) r = some (.lst (txs (feed :: ns))) := by rw [upd_ne (ne_of_none k2 ht')]; exact k2
      have kt : upd H5 t' (.tup [.str sx, .str ex]) t' = some (.tup [.str sx, .str ex]) := upd_same
      have hB6 := hB5.new (o := .tup [.str sx, .str ex]) ht'
      have s06 := s05.new (o := .tup [.str sx, .str ex]) ht'
      generalize upd H5 t' (.tup [.str sx, .str ex]) = H6 at k1' k2' kt hB6 s06 ⊢
      have stay : CabI H b a d r ns many most [some (.ref b), some (.ref a), some (.int many), some (.int most), some (.ref d), some (.ref r), kk, some (.int (0 + (i : Int))), some (.ref t'), none, none] H6 := ⟨kk, _, _, fs, rfl, k1', k2', FF, hB6, s06⟩
      refine ⟨_, rfl, t', _, 0, _, rfl, rfl, SqT.of kt, at0, _, rfl, t', _, 1, _, rfl, rfl, SqT.of kt, at1, rfl, _, rfl, ?_⟩
      refine ite2 (fun ne => ?_) (fun _ => stay)
      refine ⟨_, rfl, t', _, 1, _, rfl, rfl, SqT.of kt, at1, rfl, _, rfl, ?_⟩
      refine ite2 (fun nf => ?_) (fun _ => stay)
      refine ⟨_, rfl, d, _, rfl, k1', _, rfl, _, _, rfl, rfl, _, rfl, ?_⟩
      refine ite2 (fun lt => ?_) (fun _ => stay)
      have hlt : fs.length < many := by
        have q := of_decide_eq_true lt
        rw [show (kvs fs).length = fs.length from List.length_map _] at q
        omega
      have ne' : sx ≠ ex := fun e => by
        rw [e] at ne
        simp at ne
      have nf' : ex ≠ feed := fun e => by
        rw [e] at nf
        simp at nf
      have m2' : ex ∈ ns := (List.mem_cons.mp m2).resolve_left nf'
      refine ⟨_, rfl, _, rfl, b, most, rfl, hB6, by omega, by omega, fun v H7 v0 v1 hB7 s7 => ?_⟩
      have hz : (kvs fs).length < sizeLine := by
        rw [show (kvs fs).length = fs.length from List.length_map _]
        exact small1000 (by omega)
      have ntb : t' ≠ b := hB5.ne ht'
      refine ⟨_, rfl, _, rfl, d, _, rfl, DPut.t (k := pK (sx, ex)) (s7.get k1' ndb) (s7.get kt ntb) hz, ?_⟩
      obtain ⟨p1, p2, p3, p4⟩ := cab_put (s := sx) (e := ex) (v := v) hB hd fr nrd (s7.get k1' ndb) (s7.get k2' nrb) hB7 (s06.trans s7)
      exact ⟨kk, _, _, _, rfl, p1, p2, FF.put hlt ne' m1 m2' v0 v1, p3, p4⟩
    clear g1 g2 FF hB' s' s2' hB2
    rintro σ H3 ⟨kk, tt, cc, fs, rfl, g1, g2, FF, hB3, s3'⟩
    refine ⟨_, rfl, d, kvs fs, fs.map (·.1), rfl, Rd.of g1, by unfold kvs; rw [List.map_map, List.map_map]; rfl, by rw [List.length_map]; have := FF.len; omega, fun p qs hp pq => ?_⟩
    refine ⟨p, rfl, ⟨_, .inl (.inl upd_same)⟩, fun D hD => ?_⟩
    have npd : p ≠ D := fun e => by rw [← e, upd_same] at hD; cases hD
    have hD' : H3 D = none := by rw [upd_ne npd.symm] at hD; exact hD
    refine lc_list (K := K) (a := p) (xs := qs.map V.ref) (fun i H' => ∃ (ys : List V) (cs : List Cab), H' D = some (.lst ys) ∧ ys.length = i ∧ cs.map ckey = ((fs.map (·.1)).mergeSort (dataLe false pD)).take i ∧ (∀ c ∈ cs, (ckey c, c.2.2) ∈ fs) ∧
      Paired (CabT H' b) ys cs ∧ H' p = some (.lst (qs.map V.ref)) ∧ Same H3 H' ∧ Bag H' b) ?_ ?_ ?_ ?_
    · refine ⟨[], [], upd_same, rfl, by rw [List.take_zero]; rfl, (fun _ z => nomatch z), .nil, by rw [upd_ne npd, upd_same], same_new (same_new (Same.refl H3) hp) hD, (hB3.new hp).new hD⟩
    · rintro i H' hi ⟨ys, cs, _, _, _, _, _, h, _⟩
      exact .inl (.inl h)
    · rintro i x H' hx ⟨ys, cs, h1, h2, h3, h4, h5, h6, h7, h8⟩
      rw [List.getElem?_map] at hx
      obtain ⟨t', ht', rfl⟩ := Option.map_eq_some_iff.mp hx
      obtain ⟨kx, hkx, hq'⟩ := paired_at pq ht'
      have memk : kx ∈ fs.map (·.1) := (List.mergeSort_perm _ _).mem_iff.mp (List.mem_of_getElem? hkx)
      obtain ⟨fx, hfx, rfl⟩ := List.mem_map.mp memk
      have hv : valV (kvs fs) (pK fx.1) = some (.int fx.2) := kvs_get FF.nodup hfx
      refine ⟨t', _, rfl, SqT.of (h7 _ _ hq'), rfl, _, _, rfl, _, _, rfl, rfl, ?_⟩
      refine ⟨rfl, _, rfl, _, rfl, _, rfl, _, rfl, _, rfl, by show 2 ≤ sizeLine; decide, fun u hu' => ?_⟩
      have gd : upd H' u (.tup [.str fx.1.1, .str fx.1.2]) d = some (.dT (kvs fs)) := s3u hu' (h7 _ _ g1)
      have dg := DGet.t (k := pK fx.1) gd (upd_same (H := H') (a := u) (o := .tup [.str fx.1.1, .str fx.1.2]))
      rw [hv] at dg
      refine ⟨d, _, rfl, dg, by show 3 ≤ sizeLine; decide, fun v hv' => ?_⟩
      have nvb : v ≠ b := (h8.new hu').ne hv'
      have q1 : upd (upd H' u (.tup [.str fx.1.1, .str fx.1.2])) v (.tup [.str fx.1.1, .str fx.1.2, .int fx.2]) D = some (.lst ys) := s3u hv' (s3u hu' h1)
      have nDu : D ≠ b := (hB3.new hp).ne hD
      have nvD : v ≠ D := ne_at upd_same q1 (fun z => by cases z)
      refine ⟨ys, q1, by rw [h2]; exact small1000 (by have := (List.getElem?_eq_some_iff.mp hkx).1; rw [List.length_mergeSort, List.length_map] at this; have := FF.len; omega), ?_⟩
      have s9 : Same H' (upd (upd H' u (.tup [.str fx.1.1, .str fx.1.2])) v (.tup [.str fx.1.1, .str fx.1.2, .int fx.2])) := same_new (same_new (Same.refl H') hu') hv'
      have b9 : Bag (upd (upd H' u (.tup [.str fx.1.1, .str fx.1.2])) v (.tup [.str fx.1.1, .str fx.1.2, .int fx.2])) b := (h8.new hu').new hv'
      have v9 : upd (upd H' u (.tup [.str fx.1.1, .str fx.1.2])) v (.tup [.str fx.1.1, .str fx.1.2, .int fx.2]) v = some (.tup [.str fx.1.1, .str fx.1.2, .int fx.2]) := upd_same
      generalize upd (upd H' u (.tup [.str fx.1.1, .str fx.1.2])) v (.tup [.str fx.1.1, .str fx.1.2, .int fx.2]) = H9 at q1 s9 b9 v9 ⊢
      refine ⟨ys ++ [.ref v], cs ++ [(fx.1.1, fx.1.2, fx.2)], upd_same, by rw [List.length_append, h2]; rfl, ?_, fun c hc => ?_, ?_, ?_, ?_, ?_⟩
      · rw [List.map_append, h3, List.take_succ, hkx]
        rfl
      · rcases List.mem_append.mp hc with z | z
        · exact h4 c z
        · rw [List.mem_singleton.mp z]
          exact hfx
      · exact paired_snoc ⟨v, rfl, nvb, by rw [upd_ne nvD]; exact v9⟩ (paired_imp (fun x c h => (CabT.more s9 h).upd q1) h5)
      · rw [upd_ne npd]
        exact s9 _ _ h6
      · exact same_put (h7.trans s9) hD'
      · exact hB3.wr hD' ((Sb.refl b H3).same (h7.trans s9)) b9
    · rintro H' ⟨ys, cs, h1, h2, h3, h4, h5, h6, h7, h8⟩
      refine ⟨D, ys, rfl, .inl ⟨SqL.of h1, fun l hl => ?_⟩⟩
      have nlb : l ≠ b := h8.ne hl
      have ea : cs.map ckey = (fs.map (·.1)).mergeSort (dataLe false pD) := by
        rw [h3, List.take_of_length_le]
        rw [List.length_map, ← paired_len pq]
        exact Nat.le_refl _
      have pm := List.mergeSort_perm (fs.map (·.1)) (dataLe false pD)
      have s4 : Sb b H (upd H' l (.tup ys)) := (s3'.same h7).new hl
      refine k l ys cs _ ⟨?_, ?_, fun c hc => FF.each _ (h4 c hc), _, ea⟩ upd_same ?_ ((s3'.same h7).free hl nlb) nlb (h8.new hl) s4
      · have := congrArg List.length ea
        rw [List.length_map, pm.length_eq, List.length_map] at this
        rw [this]
        exact FF.len
      · rw [ea]
        exact pm.nodup_iff.mpr FF.nodup
      · refine paired_imp (fun x c h => ?_) h5
        obtain ⟨t', e, n, q⟩ := h
        exact ⟨t', e, sqt_new (s3u hl q) n⟩
end
end Y

/-! OAy: the place of OA in laws with yards. -/
namespace Y
open PySem PySem.Spec PyProof.Rows L2 Ns
theorem fr_none {H H' : Hp} {p : Addr} (m : Same H H') (h : H' p = none) : H p = none := by
  cases e : H p with
  | none => rfl
  | some o => rw [m _ _ e] at h; cases h
end Y

/-! OE: _law_bent_word. -/
namespace Y
open PySem PySem.Spec PyProof.Rows L2 Ns
def spBW : Sp := fun as H Q _ => ∃ (b : Addr) (z : Str), as = [.ref b, .str z] ∧ Bag H b ∧ z.length ≤ 300 ∧ ∀ (y : Str) (H' : Hp), y.length ≤ 2 * z.length + 4 → Bag H' b → Sb b H H' → Q (.str y) H'
theorem strs_in {xs : List Str} {n : Nat} (h : ∀ z ∈ xs, z.length ≤ n) {x : V} (hx : x ∈ xs.map V.str) : ∃ z, x = .str z ∧ z.length ≤ n := by
  obtain ⟨z, hz, rfl⟩ := List.mem_map.mp hx
  exact ⟨z, rfl, h z hz⟩
section
variable {P : Program} {w : World} {K : PySem.W.Frag} {mg : Str → Option Value} {base : Heap}
theorem scBW : FnScope ["bag", "word", "at", "sign", "some"] ["bag", "word"] (defScope sBentWord) := ⟨rfl, rfl, rfl, by decide +kernel, rfl, by decide +kernel, by decide +kernel⟩
theorem ok_bentWord {f fT fS : Addr} {fd dT dS : FuncData} (F : Fun K "_law_bent_word" "_law_bent_word" sBentWord f fd) (T : Nat0 mg) (FT : Fun K "_law_take" "_law_take" sTake fT dT) (mT : mg "_law_take" = some (.ref fT)) (bT : Binds K dT ["bag", "many"] [])
    (FS : Fun K "_law_some" "_law_some" sSome fS dS) (mS : mg "_law_some" = some (.ref fS)) (bS : Binds K dS ["bag", "things"] []) : FnOk P w K mg base CX0 3 f fd ["bag", "word"] spBW := by
  have GT : FnOk P w K mg base CX0 1 fT dT ["bag", "many"] spTake := ok_take FT T
  have GS : FnOk P w K mg base CX0 2 fS dS ["bag", "things"] (spSome K) := ok_some FS T FT mT bT
  refine F.ok scBW (fun as H Q E h => ?_) (fun cdv A outer s H as Q E hr h => ?_)
  · obtain ⟨b, z, rfl, _⟩ := h
    rfl
  · obtain ⟨b, z, rfl, hB, hz, k⟩ := h
    have hr1 : Room 1 _ := hr.mono (by decide)
    refine ⟨_, pss_cons (ps_par (i := 2) (j := 3) rfl scBW.nd rfl rfl (by decide) rfl rfl (pa_cons (pe_call GT hr1 rfl mT FT.kp bT .nil pass0 (pa_cons (pv 0) (pa_cons (pe_op op_add (pe_callB call_len_str (by rfl) T.len PySem.boot_len (pa_cons (pv 1) pa_nil)) pe_int) pa_nil)))
        (pa_cons (pe_call GS hr rfl mS FS.kp bS .nil pass0 (pa_cons (pv 0) (pa_cons (pe_lst (pa_cons pe_str (pa_cons pe_str (pa_cons pe_str (pa_cons pe_str (pa_cons pe_str (pa_cons pe_str (pa_cons pe_str (pa_cons pe_str pa_nil))))))))) pa_nil))) pa_nil)) (by rfl))
      (pss_cons (ps_set (i := 4) scBW.nd rfl (.inl rfl) (pe_lst (pa_cons (pe_op op_add_str (pe_op op_add_str (pe_slice sl_str (pv 1) po_none (po_some (pv 2))) (pv 3)) (pe_slice sl_str (pv 1) (po_some (pv 2)) po_none))
        (pa_cons (pe_op op_add_str (pe_slice sl_str (pv 1) po_none (po_some (pv 2))) (pe_slice sl_str (pv 1) (po_some (pe_op op_add (pv 2) pe_int)) po_none))
        (pa_cons (pe_op op_add_str (pe_op op_add_str (pe_slice sl_str (pv 1) po_none (po_some (pv 2))) (pv 3)) (pe_slice sl_str (pv 1) (po_some (pe_op op_add (pv 2) pe_int)) po_none)) pa_nil)))))
      (pss_one (ps_ret (pe_call GS hr rfl mS FS.kp bS .nil pass0 (pa_cons (pv 0) (pa_cons (pe_op op_cat (pv 4) (pe_lst (pa_cons pe_str (pa_cons (pe_op op_add_str (pv 1) (pv 1)) pa_nil)))) pa_nil)))))), ?_⟩
    have zl : z.length ≤ sizeLine := Nat.le_of_lt (small1000 (by omega))
    refine ⟨_, rfl, _, rfl, z, rfl, zl, _, 1, rfl, rfl, b, _, rfl, hB, by omega, Nat.lt_of_le_of_lt (show ((z.length : Int) + 1).natAbs ≤ 1000 by omega) (by decide), fun v H1 v0 v1 B1 s1 => ?_⟩
    refine ⟨_, rfl, by show 8 ≤ sizeLine; decide, fun q hq => ⟨b, q, _, rfl, B1.new hq, sql_new upd_same (B1.ne hq), (fun z => nomatch z), by show 8 ≤ 1000000; decide, fun x H2 hx B2 s2 => ?_⟩⟩
    obtain ⟨g, rfl, gl⟩ := strs_in (xs := ["z", "0", "A", " ", "_", "9", "-", "\n"]) (n := 1) (by decide) hx
    have s12 : Sb b H H2 := (s1.new hq).trans s2
    clear s1 s2 hx
    refine ⟨_, _, rfl, ?_⟩
    have c1 := cutS_length z none (some v)
    have c2 := cutS_length z (some v) none
    have c3 := cutS_length z (some (v + 1)) none
    have l1 : (cutS z none (some v) ++ g).length + (cutS z (some v) none).length ≤ sizeLine := by rw [strLen_append]; exact Nat.le_of_lt (small1000 (by omega))
    have l2 : (cutS z none (some v)).length + (cutS z (some (v + 1)) none).length ≤ sizeLine := Nat.le_of_lt (small1000 (by omega))
    have l3 : (cutS z none (some v) ++ g).length + (cutS z (some (v + 1)) none).length ≤ sizeLine := by rw [strLen_append]; exact Nat.le_of_lt (small1000 (by omega))
    have l0 : (cutS z none (some v)).length + g.length ≤ sizeLine := Nat.le_of_lt (small1000 (by omega))
    refine ⟨_, rfl, _, rfl, _, rfl, _, rfl, zl, _, rfl, _, _, rfl, rfl, l0, _, rfl, _, rfl, _, rfl, _, rfl, zl, _, _, rfl, rfl, l1, ?_⟩
    refine ⟨_, rfl, _, rfl, _, rfl, _, rfl, zl, _, rfl, _, rfl, _, _, rfl, rfl, _, rfl, _, rfl, zl, _, _, rfl, rfl, l2, ?_⟩
    refine ⟨_, rfl, _, rfl, _, rfl, _, rfl, zl, _, rfl, _, _, rfl, rfl, l0, _, rfl, _, rfl, _, _, rfl, rfl, _, rfl, _, rfl, zl, _, _, rfl, rfl, l3, ?_⟩
    refine ⟨by show 3 ≤ sizeLine; decide, fun q2 hq2 => ?_⟩
    have ll : z.length + z.length ≤ sizeLine := Nat.le_of_lt (small1000 (by omega))
    refine ⟨_, rfl, _, rfl, _, rfl, _, rfl, _, _, rfl, rfl, ll, by show 2 ≤ sizeLine; decide, fun q3 hq3 => ⟨q2, q3, _, _, rfl, rfl, s3u hq3 upd_same, upd_same, by show 3 + 2 ≤ sizeLine; decide, fun q4 hq4 => ?_⟩⟩
    refine ⟨b, q4, _, rfl, ((B2.new hq2).new hq3).new hq4, sql_new upd_same (((B2.new hq2).new hq3).ne hq4), (fun z => nomatch z), by show 5 ≤ 1000000; decide, fun x H3 hx B3 s3 => ?_⟩
    obtain ⟨y, rfl, yl⟩ := strs_in (xs := [cutS z none (some v) ++ g ++ cutS z (some v) none, cutS z none (some v) ++ cutS z (some (v + 1)) none, cutS z none (some v) ++ g ++ cutS z (some (v + 1)) none, "feed", z ++ z]) (n := 2 * z.length + 4) (fun u hu => by
      simp only [List.mem_cons, List.not_mem_nil, or_false] at hu
      rcases hu with rfl | rfl | rfl | rfl | rfl
      · rw [strLen_append, strLen_append]; omega
      · rw [strLen_append]; omega
      · rw [strLen_append, strLen_append]; omega
      · show 4 ≤ _; omega
      · rw [strLen_append]; omega) hx
    exact k y H3 yl B3 ((((s12.new hq2).new hq3).new hq4).trans s3)
end
end Y

/-! OF: _law_bent, for each depth. -/
namespace Y
open PySem PySem.Spec PyProof.Rows L2 Ns
open C8 (pss_cut)
theorem datA_cut {K : PySem.W.Frag} {H : Hp} {xs : List V} {ds : List PyData} (h : DatA K H xs ds) (lo hi : Option Int) : ∃ es, DatA K H (cutV xs lo hi) es ∧ (∀ e ∈ es, e ∈ ds) ∧ es.length ≤ ds.length := by
  refine ⟨_, datA_take (datA_drop h _) _, fun e he => List.mem_of_mem_drop (List.mem_of_mem_take he), ?_⟩
  rw [List.length_take, List.length_drop]
  omega
theorem cut_one (xs : List V) : (cutV xs none (some 1)).length ≤ 1 := by
  unfold cutV
  rw [List.length_take, show HT.sIx xs.length xs.length (some 1) = min 1 xs.length from HT.sIx_nat _ _ 1]
  have := Nat.min_le_left 1 xs.length
  omega
theorem sbT {K : PySem.W.Frag} {b p : Addr} {H H' : Hp} {xs : List V} (s : Sb b H H') (B : Bag H b) (h : SqT K H p xs) : SqT K H' p xs := sqt_more (wo_sub H' b) (sqt_more s.1 (sqt_wo' h B))
theorem dat_tup {K : PySem.W.Frag} {H : Hp} {x : V} {d : PyData} (D : DatV K H x d) (h : qT d = true) : ∃ a xs ds, x = .ref a ∧ d = .tuple ds ∧ SqT K H a xs ∧ DatA K H xs ds := by
  cases D with
  | tup h1 h2 => exact ⟨_, _, _, rfl, rfl, h1, h2⟩
  | _ => cases h
theorem dat_str {K : PySem.W.Frag} {H : Hp} {x : V} {d : PyData} (D : DatV K H x d) (h : qS d = true) : ∃ z, x = .str z ∧ d = .str z := by
  cases D with
  | str z => exact ⟨z, rfl, rfl⟩
  | _ => cases h
theorem dat_whole {K : PySem.W.Frag} {H : Hp} {x : V} {d : PyData} (D : DatV K H x d) (h : qI d = true) (g : ¬ qB d = true) : ∃ i, x = .int i ∧ d = .int i := by
  cases D with
  | int i => exact ⟨i, rfl, rfl⟩
  | bl b => exact absurd rfl g
  | _ => cases h
theorem str_int {i : Int} {w : Nat} (h : i.natAbs < 10 ^ w) (hw : w ≤ 300) : (toString i : Str).length ≤ w + 2 ∧ i.natAbs.log2 < 1920 := by
  have h' : i.natAbs < 10 ^ (w + 1) := pow_up h (Nat.le_succ w)
  have f := fit_int (i := i) (n := w + 1) (by omega) h' (by omega)
  refine ⟨?_, ?_⟩
  · have := f.2.1
    exact this
  · refine log2_small (Nat.lt_trans h' (Nat.lt_of_le_of_lt (Nat.pow_le_pow_right (by decide) (show w + 1 ≤ 301 by omega)) (by decide +kernel)))
/-- a value with one part otherwise, at most n deep -/
def spBent (K : PySem.W.Frag) (n : Nat) : Sp := fun as H Q _ => ∃ (b : Addr) (x : V) (d : PyData) (w : Nat), as = [.ref b, x, .int (n : Int)] ∧ Bag H b ∧ DatV K (wo H b) x d ∧ Bd w d ∧ w ≤ 300 ∧
  ∀ (x' : V) (d' : PyData) (H' : Hp), DatV K (wo H' b) x' d' → Bd (3 * w + 40) d' → Bag H' b → Sb b H H' → Q x' H'
def spLess (K : PySem.W.Frag) : Nat → Sp
  | 0 => fun _ _ _ _ => False
  | n + 1 => spBent K n
section
variable {P : Program} {w : World} {K : PySem.W.Frag} {mg : Str → Option Value} {base : Heap}
theorem scBe : FnScope ["bag", "thing", "deep", "way", "at", "some"] ["bag", "thing", "deep"] (defScope sBent) := ⟨rfl, rfl, rfl, by decide +kernel, rfl, by decide +kernel, by decide +kernel⟩
theorem ok_never {f : Addr} {fd : FuncData} (F : Fun K "_law_bent" "_law_bent" sBent f fd) : FnOk P w K mg base CX0 1 f fd ["bag", "thing", "deep"] (spLess K 0) := by
  refine F.ok scBe (fun as H Q E h => False.elim h) (fun cdv A outer s H as Q E hr h => False.elim h)
theorem bent_step {n k : Nat} {f fT fS fO fW : Addr} {fd dT dS dO dW : FuncData} (F : Fun K "_law_bent" "_law_bent" sBent f fd) (T : Nat0 mg) (hBo : mg "bool" = none) (mF : mg "_law_bent" = some (.ref f)) (bF : Binds K fd ["bag", "thing", "deep"] [])
    (GR : FnOk P w K mg base CX0 k f fd ["bag", "thing", "deep"] (spLess K n)) (hk : 3 ≤ k)
    (FT : Fun K "_law_take" "_law_take" sTake fT dT) (mT : mg "_law_take" = some (.ref fT)) (bT : Binds K dT ["bag", "many"] [])
    (FS : Fun K "_law_some" "_law_some" sSome fS dS) (mS : mg "_law_some" = some (.ref fS)) (bS : Binds K dS ["bag", "things"] [])
    (FO : Fun K "_law_odd" "_law_odd" sOdd fO dO) (mO : mg "_law_odd" = some (.ref fO)) (bO : Binds K dO ["bag"] [])
    (FW : Fun K "_law_bent_word" "_law_bent_word" sBentWord fW dW) (mW : mg "_law_bent_word" = some (.ref fW)) (bW : Binds K dW ["bag", "word"] []) : FnOk P w K mg base CX0 (k + 1) f fd ["bag", "thing", "deep"] (spBent K n) := by
  have GT : FnOk P w K mg base CX0 1 fT dT ["bag", "many"] spTake := ok_take FT T
  have GS : FnOk P w K mg base CX0 2 fS dS ["bag", "things"] (spSome K) := ok_some FS T FT mT bT
  have GO : FnOk P w K mg base CX0 3 fO dO ["bag"] (spOdd K) := ok_odd FO FS mS bS GS
  have GW : FnOk P w K mg base CX0 3 fW dW ["bag", "word"] spBW := ok_bentWord FW T FT mT bT FS mS bS
  refine F.ok scBe (fun as H Q E h => ?_) (fun cdv A outer s H as Q E hr h => ?_)
  · obtain ⟨b, x, d, w', rfl, _⟩ := h
    rfl
  · obtain ⟨b, x, d, w', rfl, hB, D, hD, hw, kk⟩ := h
    have hr1 : Room 1 _ := hr.mono (show 1 ≤ k by omega)
    have hr2 : Room 2 _ := hr.mono (show 2 ≤ k by omega)
    have hr3 : Room 3 _ := hr.mono hk
    have hu := hu_of hr
    refine ⟨_, pss_cons (ps_set (i := 3) scBe.nd rfl (.inl rfl) (pe_call GT hr1 rfl mT FT.kp bT .nil pass0 (pa_cons (pv 0) (pa_cons pe_int pa_nil))))
      (pss_cut (ps_if (PW.pt (pw_and (pt_val (pe_callB (call_isD kit_T) (by rfl) T.isi (by decide +kernel) (pa_cons (pv 1) (pa_cons (pe_bltn (v := .ty "tuple") (by rfl) T.tuple (by decide +kernel) rfl) pa_nil))))
          (pw_and (pt_cmpR (op_neE hr.units) (pv 1) (pe_tup pa_nil) (nomark _)) (pw_and (pt_cmpR op_gt (pv 2) pe_int (nomark _)) (pw_and1 (pt_cmpR op_lt (pv 3) pe_int (nomark _)))))))
        (pss_cons (ps_set (i := 4) scBe.nd rfl (.inl rfl) (pe_call GT hr1 rfl mT FT.kp bT .nil pass0 (pa_cons (pv 0) (pa_cons (pe_callB call_len_seq (by rfl) T.len PySem.boot_len (pa_cons (pv 1) pa_nil)) pa_nil))))
        (pss_one (ps_ret (pe_op op_catP (pe_op op_catP (pe_slice sl_tupP (pv 1) po_none (po_some (pv 4))) (pe_tup (pa_cons (pe_call GR hr rfl mF F.kp bF .nil pass0 (pa_cons (pv 0) (pa_cons (pe_ix ix_tup (pv 1) (pv 4) (fun _ _ => rfl)) (pa_cons (pe_op op_sub (pv 2) pe_int) pa_nil)))) pa_nil)))
          (pe_slice sl_tupP (pv 1) (po_some (pe_op op_add (pv 4) pe_int)) po_none))))) pss_nil)
      (pss_cut (ps_if (PW.pt (pw_and (pt_val (pe_callB (call_isD kit_T) (by rfl) T.isi (by decide +kernel) (pa_cons (pv 1) (pa_cons (pe_bltn (v := .ty "tuple") (by rfl) T.tuple (by decide +kernel) rfl) pa_nil)))) (pw_and1 (pt_cmpR op_lt (pv 3) pe_int (nomark _)))))
        (pss_cons (ps_set (i := 4) scBe.nd rfl (.inl rfl) (pe_call GT hr1 rfl mT FT.kp bT .nil pass0 (pa_cons (pv 0) (pa_cons (pe_op op_add (pe_callB call_len_seq (by rfl) T.len PySem.boot_len (pa_cons (pv 1) pa_nil)) pe_int) pa_nil))))
        (pss_cons (ps_set (i := 5) scBe.nd rfl (.inl rfl) (pe_lst (pa_cons (pe_callTy call_list_of (by rfl) T.list_ (by decide +kernel) (pa_cons (pv 1) pa_nil)) (pa_cons (pe_revT (pv 1)) (pa_cons (pe_op op_catP (pe_slice sl_tupP (pv 1) po_none (po_some (pv 4))) (pe_slice sl_tupP (pv 1) (po_some (pe_op op_add (pv 4) pe_int)) po_none))
            (pa_cons (pe_op op_catP (pe_op op_catP (pe_slice sl_tupP (pv 1) po_none (po_some (pv 4))) (pe_slice sl_tupP (pv 1) po_none (po_some pe_int))) (pe_slice sl_tupP (pv 1) (po_some (pv 4)) po_none)) pa_nil))))))
        (pss_one (ps_ret (pe_call GS hr2 rfl mS FS.kp bS .nil pass0 (pa_cons (pv 0) (pa_cons (pe_op op_cat (pv 5) (pe_lst (pa_cons (pe_op op_catP (pe_slice sl_tupP (pv 1) (po_some (pv 4)) po_none) (pe_slice sl_tupP (pv 1) po_none (po_some (pv 4))))
            (pa_cons (pe_op op_catP (pe_op op_catP (pe_slice sl_tupP (pv 1) po_none (po_some (pv 4))) (pe_tup (pa_cons (pe_call GO hr3 rfl mO FO.kp bO .nil pass0 (pa_cons (pv 0) pa_nil)) pa_nil))) (pe_slice sl_tupP (pv 1) (po_some (pv 4)) po_none)) pa_nil)))) pa_nil))))))) pss_nil)
      (pss_cut (ps_if (PW.pt (pw_and (pt_val (pe_callB (call_isD kit_S) (by rfl) T.isi (by decide +kernel) (pa_cons (pv 1) (pa_cons (pe_bltn (v := .ty "str") (by rfl) T.str (by decide +kernel) rfl) pa_nil)))) (pw_and1 (pt_cmpR op_lt (pv 3) pe_int (nomark _)))))
        (pss_one (ps_ret (pe_call GW hr3 rfl mW FW.kp bW .nil pass0 (pa_cons (pv 0) (pa_cons (pv 1) pa_nil))))) pss_nil)
      (pss_cut (ps_if (PW.pt (pw_and (pt_val (pe_callB (call_isD kit_I) (by rfl) T.isi (by decide +kernel) (pa_cons (pv 1) (pa_cons (pe_bltn (v := .ty "int") (by rfl) T.int (by decide +kernel) rfl) pa_nil))))
          (pw_and (pt_not (pt_val (pe_callB (call_isD kit_B) (by rfl) T.isi (by decide +kernel) (pa_cons (pv 1) (pa_cons (pe_bltn (v := .ty "bool") (by rfl) hBo (by decide +kernel) rfl) pa_nil))))) (pw_and1 (pt_cmpR op_lt (pv 3) pe_int (nomark _))))))
        (pss_one (ps_ret (pe_call GS hr2 rfl mS FS.kp bS .nil pass0 (pa_cons (pv 0) (pa_cons (pe_lst (pa_cons (pe_op op_add (pv 1) pe_int) (pa_cons (pe_op op_sub (pv 1) pe_int) (pa_cons (pe_op op_sub pe_int (pv 1)) (pa_cons (pe_cmpR op_eq (pv 1) pe_int (nomark _))
            (pa_cons (pe_callTy call_str_int (by rfl) T.str (by decide +kernel) (pa_cons (pv 1) pa_nil)) (pa_cons pe_non (pa_cons pe_int (pa_cons (pe_op op_pow pe_int pe_int) pa_nil))))))))) pa_nil))))) pss_nil)
      (pss_one (ps_ret (pe_call GO hr3 rfl mO FO.kp bO .nil pass0 (pa_cons (pv 0) pa_nil)))))))), ?_⟩
    refine ⟨_, rfl, b, 10, rfl, hB, by decide, by decide, fun way H1 w0 w1 B1 s1 => ?_⟩
    have fin : ∀ (x' : V) (d' : PyData) (H' : Hp), DatV K (wo H' b) x' d' → Bd (3 * w' + 40) d' → Bag H' b → Sb b H H' → Q x' H' := kk
    clear kk
    -- the first one
    refine ⟨fun σ' H' => σ' = [some (.ref b), some x, some (.int n), some (.int way), none, none] ∧ Bag H' b ∧ Sb b H H', ?_, ?_⟩
    · refine ⟨_, rfl, x, d, rfl, (D.more s1.1).more (wo_sub H1 b), qT d, rfl, ?_⟩
      refine ite2 (fun h => ?_) (fun _ => ⟨rfl, B1, s1⟩)
      obtain ⟨a, xs, ds, rfl, rfl, hT, hA⟩ := dat_tup D h
      simp only [Bd] at hD
      have vT : ∀ {G : Hp}, Sb b H G → SqT K G a xs := fun {G} s => sqt_more (wo_sub G b) (sqt_more s.1 hT)
      have lx := hA.len
      refine ⟨_, rfl, by show 0 ≤ sizeLine; decide, fun e he => ⟨a, e, xs, rfl, rfl, vT (s1.new he), SqT.of upd_same, _, rfl, ?_⟩⟩
      have B2 := B1.new (o := .tup []) he
      have s2 := s1.new (o := .tup []) he
      generalize upd H1 e (.tup []) = H2 at B2 s2 ⊢
      refine ite2 (fun hne => ?_) (fun _ => ⟨rfl, B2, s2⟩)
      have ne : xs ≠ [] := by simpa using hne
      refine ⟨_, rfl, _, _, rfl, rfl, _, rfl, ?_⟩
      refine ite2 (fun hn => ?_) (fun _ => ⟨rfl, B2, s2⟩)
      have hn' : (0 : Int) < n := of_decide_eq_true hn
      refine ⟨_, rfl, _, _, rfl, rfl, _, rfl, ?_⟩
      refine ite2 (fun _ => ?_) (fun _ => ⟨rfl, B2, s2⟩)
      have pos : 0 < xs.length := List.length_pos_iff.mpr ne
      refine ⟨_, rfl, _, rfl, a, xs, rfl, .inr (vT s2), b, _, rfl, B2, by omega, Nat.lt_of_le_of_lt (show ((xs.length : Int)).natAbs ≤ 1000 by omega) (by decide), fun v H3 v0 v1 B3 s3' => ?_⟩
      have s3 := s2.trans s3'
      obtain ⟨y, hy⟩ : ∃ y, xs[v.toNat]? = some y := ⟨_, List.getElem?_eq_getElem (by omega)⟩
      obtain ⟨dy, hdy, Dy⟩ := datA_at hA hy
      obtain ⟨m, rfl⟩ : ∃ m, n = m + 1 := ⟨n - 1, by omega⟩
      refine ⟨_, rfl, _, rfl, v, rfl, a, xs, rfl, vT s3, fun p1 H4 m4 q1 => ?_⟩
      have B4 := B3.keep m4
      have s4 := s3.same m4
      refine ⟨_, rfl, _, rfl, _, rfl, a, xs, v, y, rfl, rfl, vT s4, by rw [show v = ((v.toNat : Nat) : Int) by omega]; exact atI_nat hy, _, rfl, _, _, rfl, rfl, ?_⟩
      refine ⟨b, y, dy, w', by show [V.ref b, y, V.int (((m + 1 : Nat) : Int) - 1)] = _; rw [show (((m + 1 : Nat) : Int) - 1) = (m : Int) by omega], B4, Dy.more s4.1, bdA_iff.mp hD.2 _ (List.mem_of_getElem? hdy), hw, fun x5 d5 H5 D5 b5 B5 s5' => ?_⟩
      have s5 := s4.trans s5'
      refine ⟨by show 1 ≤ sizeLine; decide, fun t ht => ?_⟩
      have q1' := sbT s5' B4 q1
      have D5' := D5.more (wo_same (same_new (o := .tup [x5]) (Same.refl H5) ht))
      have q1'' := sqt_more (same_new (o := .tup [x5]) (Same.refl H5) ht) q1'
      have et : SqT K (upd H5 t (.tup [x5])) t [x5] := SqT.of upd_same
      have B6 := B5.new (o := .tup [x5]) ht
      have s6 := s5.new (o := .tup [x5]) ht
      generalize upd H5 t (.tup [x5]) = H6 at D5' q1'' et B6 s6 ⊢
      have cl1 := cutV_length xs none (some v)
      have cl2 := cutV_length xs (some (v + 1)) none
      refine ⟨p1, t, _, _, rfl, rfl, q1'', et, Nat.le_of_lt (small1000 (show (cutV xs none (some v)).length + 1 ≤ 1000 by omega)), fun p2 H7 m7 q2 => ?_⟩
      have s7 := s6.same m7
      refine ⟨_, rfl, _, rfl, _, _, rfl, rfl, _, rfl, a, xs, rfl, vT s7, fun p3 H8 m8 q3 => ?_⟩
      have s8 := s7.same m8
      refine ⟨p2, p3, _, _, rfl, rfl, sqt_more m8 q2, q3, Nat.le_of_lt (small1000 (show (cutV xs none (some v) ++ [x5]).length + (cutV xs (some (v + 1)) none).length ≤ 1000 by rw [List.length_append]; show _ + 1 + _ ≤ 1000; omega)), fun p4 H9 m9 q4 => ?_⟩
      have s9 := s8.same m9
      have B9 := ((B6.keep m7).keep m8).keep m9
      obtain ⟨e1, A1, sub1, le1⟩ := datA_cut (hA.more s9.1) none (some v)
      obtain ⟨e2, A2, sub2, le2⟩ := datA_cut (hA.more s9.1) (some (v + 1)) none
      have D9 := ((D5'.more (wo_same m7)).more (wo_same m8)).more (wo_same m9)
      refine fin (.ref p4) (.tuple (e1 ++ [d5] ++ e2)) H9 (.tup (sqt_wo' q4 B9) (datA_app (datA_app A1 (.cons D9 .nil)) A2)) ?_ B9 s9
      simp only [Bd]
      refine ⟨by rw [List.length_append, List.length_append]; show _ + 1 + _ ≤ _; omega, bdA_iff.mpr fun u hu => ?_⟩
      have old : ∀ u ∈ ds, Bd (3 * w' + 40) u := fun u hu => Bd.up (by omega) (bdA_iff.mp hD.2 u hu)
      rcases List.mem_append.mp hu with hu | hu
      · rcases List.mem_append.mp hu with hu | hu
        · exact old u (sub1 u hu)
        · rw [List.mem_singleton.mp hu]; exact b5
      · exact old u (sub2 u hu)
    clear B1 s1
    rintro σ1 H1 ⟨rfl, B1, s1⟩
    -- the second one
    refine ⟨fun σ' H' => σ' = [some (.ref b), some x, some (.int n), some (.int way), none, none] ∧ Bag H' b ∧ Sb b H H', ?_, ?_⟩
    · refine ⟨_, rfl, x, d, rfl, (D.more s1.1).more (wo_sub H1 b), qT d, rfl, ?_⟩
      refine ite2 (fun h => ?_) (fun _ => ⟨rfl, B1, s1⟩)
      obtain ⟨a, xs, ds, rfl, rfl, hT, hA⟩ := dat_tup D h
      simp only [Bd] at hD
      have vT : ∀ {G : Hp}, Sb b H G → SqT K G a xs := fun {G} s => sqt_more (wo_sub G b) (sqt_more s.1 hT)
      have lx := hA.len
      refine ⟨_, rfl, _, _, rfl, rfl, _, rfl, ?_⟩
      refine ite2 (fun _ => ?_) (fun _ => ⟨rfl, B1, s1⟩)
      refine ⟨_, rfl, _, rfl, a, xs, rfl, .inr (vT s1), _, _, rfl, rfl, b, _, rfl, B1, by omega, Nat.lt_of_le_of_lt (show ((xs.length : Int) + 1).natAbs ≤ 1000 by omega) (by decide), fun v H2 v0 v1 B2 s2' => ?_⟩
      have s2 := s1.trans s2'
      have cl1 := cutV_length xs none (some v)
      have cl2 := cutV_length xs (some (v + 1)) none
      have cl3 := cutV_length xs (some v) none
      have cl4 := cut_one xs
      refine ⟨_, rfl, a, xs, rfl, .inr (vT s2), fun l1 u1 => ?_⟩
      have M1 := same_new (o := .lst xs) (Same.refl H2) u1
      have f1 : SqL K (upd H2 l1 (.lst xs)) l1 xs := SqL.of upd_same
      have g1 : SqL K (wo (upd H2 l1 (.lst xs)) b) l1 xs := sql_new upd_same (B2.ne u1)
      generalize upd H2 l1 (.lst xs) = H3 at M1 f1 g1 ⊢
      have B3 := B2.keep M1
      have s3 := s2.same M1
      refine ⟨_, rfl, a, xs, rfl, vT s3, fun l2 u2 => ?_⟩
      have M2 := same_new (o := .tup xs.reverse) (Same.refl H3) u2
      have f2 : SqT K (upd H3 l2 (.tup xs.reverse)) l2 xs.reverse := SqT.of upd_same
      generalize upd H3 l2 (.tup xs.reverse) = H4 at M2 f2 ⊢
      have s4 := s3.same M2
      refine ⟨_, rfl, _, rfl, v, rfl, a, xs, rfl, vT s4, fun p1 H5 M3 q1 => ?_⟩
      have s5 := s4.same M3
      refine ⟨_, rfl, _, rfl, _, _, rfl, rfl, _, rfl, a, xs, rfl, vT s5, fun p2 H6 M4 q2 => ?_⟩
      have s6 := s5.same M4
      refine ⟨p1, p2, _, _, rfl, rfl, sqt_more M4 q1, q2, Nat.le_of_lt (small1000 (by omega)), fun l3 H7 M5 f3 => ?_⟩
      have s7 := s6.same M5
      refine ⟨_, rfl, _, rfl, v, rfl, a, xs, rfl, vT s7, fun p3 H8 M6 q3 => ?_⟩
      have s8 := s7.same M6
      refine ⟨_, rfl, _, rfl, a, xs, rfl, vT s8, fun p4 H9 M7 q4 => ?_⟩
      have s9 := s8.same M7
      refine ⟨p3, p4, _, _, rfl, rfl, sqt_more M7 q3, q4, Nat.le_of_lt (small1000 (by omega)), fun p5 HA M8 q5 => ?_⟩
      have sA := s9.same M8
      refine ⟨_, rfl, _, rfl, v, rfl, a, xs, rfl, vT sA, fun p6 HB M9 q6 => ?_⟩
      have sB := sA.same M9
      have l5 : (cutV xs none (some v) ++ cutV xs none (some 1)).length ≤ xs.length + 1 := by rw [List.length_append]; omega
      refine ⟨p5, p6, _, _, rfl, rfl, sqt_more M9 q5, q6, Nat.le_of_lt (small1000 (by omega)), fun l4 HC MA f4 => ?_⟩
      have sC := sB.same MA
      have BC := ((((((((B3.keep M2).keep M3).keep M4).keep M5).keep M6).keep M7).keep M8).keep M9).keep MA
      have MM : Same H4 HC := ((((((M3.trans M4).trans M5).trans M6).trans M7).trans M8).trans M9).trans MA
      have MN : Same H7 HC := (((M6.trans M7).trans M8).trans M9).trans MA
      have g1' := Same.seq (wo_same (M2.trans MM)) g1
      have f2' := sqt_more MM f2
      have f3' := sqt_more MN f3
      refine ⟨by show 4 ≤ sizeLine; decide, fun t ht => ?_⟩
      have MB := same_new (o := .lst [.ref l1, .ref l2, .ref l3, .ref l4]) (Same.refl HC) ht
      have et : upd HC t (.lst [.ref l1, .ref l2, .ref l3, .ref l4]) t = some (.lst [.ref l1, .ref l2, .ref l3, .ref l4]) := upd_same
      have ntb := BC.ne ht
      generalize upd HC t (.lst [.ref l1, .ref l2, .ref l3, .ref l4]) = HD at MB et ⊢
      have BD := BC.keep MB
      have sD := sC.same MB
      have g1D := Same.seq (wo_same MB) g1'
      have f2D := sqt_wo' (sqt_more MB f2') BD
      have f3D := sqt_wo' (sqt_more MB f3') BD
      have f4D := sqt_wo' (sqt_more MB f4) BD
      clear M1 M2 M3 M4 M5 M6 M7 M8 M9 MA MB MM MN f1 g1 f2 f3 f4 g1' f2' f3' q1 q2 q3 q4 q5 q6 s2' s3 s4 s5 s6 s7 s8 s9 sA sB sC B3 BC ht
      -- some + [..]
      refine ⟨_, rfl, _, rfl, _, rfl, _, rfl, v, rfl, a, xs, rfl, vT sD, fun p1 H5 M3 q1 => ?_⟩
      have s5 := sD.same M3
      refine ⟨_, rfl, _, rfl, v, rfl, a, xs, rfl, vT s5, fun p2 H6 M4 q2 => ?_⟩
      have s6 := s5.same M4
      refine ⟨p1, p2, _, _, rfl, rfl, sqt_more M4 q1, q2, Nat.le_of_lt (small1000 (by omega)), fun l5 H7 M5 f5 => ?_⟩
      have s7 := s6.same M5
      refine ⟨_, rfl, _, rfl, v, rfl, a, xs, rfl, vT s7, fun p3 H8 M6 q3 => ?_⟩
      have s8 := s7.same M6
      have M8 : Same HD H8 := ((M3.trans M4).trans M5).trans M6
      have B8 := BD.keep M8
      refine ⟨_, rfl, b, rfl, B8, fun xo dO H9 DO bO B9 s9' => ?_⟩
      have s9 := s8.trans s9'
      refine ⟨by show 1 ≤ sizeLine; decide, fun t1 ht1 => ?_⟩
      have m9 := same_new (o := .tup [xo]) (Same.refl H9) ht1
      have q3' := sqt_more m9 (sbT s9' B8 q3)
      have e1 : SqT K (upd H9 t1 (.tup [xo])) t1 [xo] := SqT.of upd_same
      have f5' := sqt_more m9 (sbT s9' B8 (sqt_more M6 f5))
      have et' := (s9'.get (M8 _ _ et) ntb)
      have et2 := m9 _ _ et'
      have k1 := Same.seq (wo_same m9) (Same.seq s9'.1 (Same.seq (wo_same M8) g1D))
      have k2 := sqt_more (wo_same m9) (sqt_more s9'.1 (sqt_more (wo_same M8) f2D))
      have k3 := sqt_more (wo_same m9) (sqt_more s9'.1 (sqt_more (wo_same M8) f3D))
      have k4 := sqt_more (wo_same m9) (sqt_more s9'.1 (sqt_more (wo_same M8) f4D))
      have DO' := DO.more (wo_same m9)
      have sE := s9.same m9
      have BE := B9.keep m9
      generalize upd H9 t1 (.tup [xo]) = HE at m9 q3' e1 f5' et2 k1 k2 k3 k4 DO' sE BE ⊢
      have l6 : (cutV xs none (some v) ++ [xo]).length ≤ xs.length + 1 := by rw [List.length_append]; show _ + 1 ≤ _; omega
      refine ⟨p3, t1, _, _, rfl, rfl, q3', e1, Nat.le_of_lt (small1000 (show (cutV xs none (some v)).length + 1 ≤ 1000 by omega)), fun p4 HF MF q4 => ?_⟩
      have sF := sE.same MF
      refine ⟨_, rfl, _, rfl, v, rfl, a, xs, rfl, vT sF, fun p5 HG MG q5 => ?_⟩
      have sG := sF.same MG
      refine ⟨p4, p5, _, _, rfl, rfl, sqt_more MG q4, q5, Nat.le_of_lt (small1000 (by omega)), fun l6' HI MI f6 => ?_⟩
      have MJ : Same HE HI := (MF.trans MG).trans MI
      have sI := sG.same MI
      have BI := BE.keep MJ
      have f5I := sqt_more MJ f5'
      refine ⟨by show 2 ≤ sizeLine; decide, fun t2 ht2 => ⟨t, t2, _, _, rfl, rfl, s3u ht2 (MJ _ _ et2), upd_same, by show 4 + 2 ≤ sizeLine; decide, fun t3 ht3 => ?_⟩⟩
      have MK : Same HI (upd HI t2 (.lst [.ref l5, .ref l6'])) := same_new (Same.refl HI) ht2
      have BK := BI.keep MK
      have sK := sI.same MK
      have ML := (MJ.trans MK)
      have f5K := sqt_wo' (sqt_more MK f5I) BK
      have f6K := sqt_wo' (sqt_more MK f6) BK
      have k1K := Same.seq (wo_same ML) k1
      have k2K := sqt_more (wo_same ML) k2
      have k3K := sqt_more (wo_same ML) k3
      have k4K := sqt_more (wo_same ML) k4
      have DK := DO'.more (wo_same ML)
      generalize upd HI t2 (.lst [.ref l5, .ref l6']) = HK at MK BK sK ML f5K f6K k1K k2K k3K k4K DK ht3 ⊢
      obtain ⟨c1, A1, sb1, le1⟩ := datA_cut (hA.more sK.1) none (some v)
      obtain ⟨c2, A2, sb2, le2⟩ := datA_cut (hA.more sK.1) (some (v + 1)) none
      obtain ⟨c3, A3, sb3, le3⟩ := datA_cut (hA.more sK.1) (some v) none
      obtain ⟨c4, A4, sb4, le4⟩ := datA_cut (hA.more sK.1) none (some 1)
      have a1 := A1.len
      have a2 := A2.len
      have a3 := A3.len
      have a4 := A4.len
      have old : ∀ u ∈ ds, Bd (3 * w' + 40) u := fun u hu => Bd.up (by omega) (bdA_iff.mp hD.2 u hu)
      have row : DatA K (wo HK b) [.ref l1, .ref l2, .ref l3, .ref l4, .ref l5, .ref l6'] [.list ds, .tuple ds.reverse, .tuple (c1 ++ c2), .tuple (c1 ++ c4 ++ c3), .tuple (c3 ++ c1), .tuple (c1 ++ [dO] ++ c3)] :=
        .cons (.lst k1K (hA.more sK.1)) (.cons (.tup k2K (datA_rev (hA.more sK.1))) (.cons (.tup k3K (datA_app A1 A2)) (.cons (.tup k4K (datA_app (datA_app A1 A4) A3)) (.cons (.tup f5K (datA_app A3 A1)) (.cons (.tup f6K (datA_app (datA_app A1 (.cons DK .nil)) A3)) .nil)))))
      have rowB : ∀ u ∈ [PyData.list ds, .tuple ds.reverse, .tuple (c1 ++ c2), .tuple (c1 ++ c4 ++ c3), .tuple (c3 ++ c1), .tuple (c1 ++ [dO] ++ c3)], Bd (3 * w' + 40) u := by
        have ap : ∀ {l r : List PyData}, (∀ u ∈ l, Bd (3 * w' + 40) u) → (∀ u ∈ r, Bd (3 * w' + 40) u) → ∀ u ∈ l ++ r, Bd (3 * w' + 40) u := fun h g u hu => (List.mem_append.mp hu).elim (h u) (g u)
        have o1 := fun u hu => old u (sb1 u hu)
        have o2 := fun u hu => old u (sb2 u hu)
        have o3 := fun u hu => old u (sb3 u hu)
        have o4 := fun u hu => old u (sb4 u hu)
        intro u hu
        simp only [List.mem_cons, List.not_mem_nil, or_false] at hu
        rcases hu with rfl | rfl | rfl | rfl | rfl | rfl <;> simp only [Bd]
        · exact ⟨by omega, bdA_iff.mpr old⟩
        · exact ⟨by rw [List.length_reverse]; omega, bdA_iff.mpr fun u hu => old u (List.mem_reverse.mp hu)⟩
        · exact ⟨by rw [List.length_append]; omega, bdA_iff.mpr (ap o1 o2)⟩
        · exact ⟨by rw [List.length_append, List.length_append]; omega, bdA_iff.mpr (ap (ap o1 o4) o3)⟩
        · exact ⟨by rw [List.length_append]; omega, bdA_iff.mpr (ap o3 o1)⟩
        · exact ⟨by rw [List.length_append, List.length_append]; show _ + 1 + _ ≤ _; omega, bdA_iff.mpr (ap (ap o1 fun u hu => by rw [List.mem_singleton.mp hu]; exact Bd.up (by omega) bO) o3)⟩
      refine ⟨b, t3, _, rfl, BK.new ht3, sql_new upd_same (BK.ne ht3), (fun z => nomatch z), by show 6 ≤ 1000000; decide, fun x' H' hx B' s' => ?_⟩
      obtain ⟨d', hd', D'⟩ := datA_mem row hx
      exact fin x' d' H' ((D'.more (wo_same (same_new (Same.refl HK) ht3))).more s'.1) (rowB d' hd') B' ((sK.new ht3).trans s')
    clear B1 s1
    rintro σ1 H1 ⟨rfl, B1, s1⟩
    -- texts
    refine ⟨fun σ' H' => σ' = [some (.ref b), some x, some (.int n), some (.int way), none, none] ∧ Bag H' b ∧ Sb b H H', ?_, ?_⟩
    · refine ⟨_, rfl, x, d, rfl, (D.more s1.1).more (wo_sub H1 b), qS d, rfl, ?_⟩
      refine ite2 (fun h => ?_) (fun _ => ⟨rfl, B1, s1⟩)
      obtain ⟨z, rfl, rfl⟩ := dat_str D h
      simp only [Bd] at hD
      refine ⟨_, rfl, _, _, rfl, rfl, _, rfl, ?_⟩
      refine ite2 (fun _ => ?_) (fun _ => ⟨rfl, B1, s1⟩)
      refine ⟨_, rfl, _, rfl, b, z, rfl, B1, by omega, fun y H' yl B' s' => ?_⟩
      exact fin (.str y) (.str y) H' (.str y) (by simp only [Bd]; omega) B' (s1.trans s')
    clear B1 s1
    rintro σ1 H1 ⟨rfl, B1, s1⟩
    -- whole numbers
    refine ⟨fun σ' H' => σ' = [some (.ref b), some x, some (.int n), some (.int way), none, none] ∧ Bag H' b ∧ Sb b H H', ?_, ?_⟩
    · refine ⟨_, rfl, x, d, rfl, (D.more s1.1).more (wo_sub H1 b), qI d, rfl, ?_⟩
      refine ite2 (fun h => ?_) (fun _ => ⟨rfl, B1, s1⟩)
      refine ⟨_, rfl, x, d, rfl, (D.more s1.1).more (wo_sub H1 b), qB d, rfl, ?_⟩
      refine ite2 (fun g => ?_) (fun _ => ⟨rfl, B1, s1⟩)
      obtain ⟨i, rfl, rfl⟩ := dat_whole D h (by simpa using g)
      simp only [Bd] at hD
      refine ⟨_, rfl, _, _, rfl, rfl, _, rfl, ?_⟩
      refine ite2 (fun _ => ?_) (fun _ => ⟨rfl, B1, s1⟩)
      obtain ⟨sl, lg⟩ := str_int hD hw
      have up1 : i.natAbs + 1 < 10 ^ (w' + 1) := by
        rw [Nat.pow_succ]
        omega
      have bi : ∀ j : Int, j.natAbs ≤ i.natAbs + 1 → Bd (3 * w' + 40) (.int j) := fun j hj => by
        simp only [Bd]
        exact Nat.lt_of_le_of_lt hj (pow_up up1 (by omega))
      refine ⟨_, rfl, _, rfl, _, _, rfl, rfl, _, rfl, _, _, rfl, rfl, _, rfl, _, _, rfl, rfl, _, rfl, rfl, _, rfl, i, rfl, lg, 10, 30, rfl, rfl, ⟨by decide, by decide, by decide⟩, by show 8 ≤ sizeLine; decide, fun t ht => ?_⟩
      refine ⟨b, t, _, rfl, B1.new ht, sql_new upd_same (B1.ne ht), (fun z => nomatch z), by show 8 ≤ 1000000; decide, fun x' H' hx B' s' => ?_⟩
      have row : DatA K (wo H1 b) [.int (i + 1), .int (i - 1), .int (0 - i), .bl (decide (V.int i = V.int 1)), .str (toString i), .non, .int 0, .int (10 ^ Int.toNat 30)] [.int (i + 1), .int (i - 1), .int (0 - i), .bool (decide (V.int i = V.int 1)), .str (toString i), .none, .int 0, .int (10 ^ Int.toNat 30)] :=
        .cons (.int _) (.cons (.int _) (.cons (.int _) (.cons (.bl _) (.cons (.str _) (.cons .non (.cons (.int _) (.cons (.int _) .nil)))))))
      obtain ⟨d', hd', D'⟩ := datA_mem row hx
      have bd' : Bd (3 * w' + 40) d' := by
        simp only [List.mem_cons, List.not_mem_nil, or_false] at hd'
        rcases hd' with rfl | rfl | rfl | rfl | rfl | rfl | rfl | rfl
        · exact bi _ (by omega)
        · exact bi _ (by omega)
        · exact bi _ (by omega)
        · simp only [Bd]
        · simp only [Bd]; omega
        · simp only [Bd]
        · exact bi _ (by omega)
        · simp only [Bd]; exact pow_up (show (10 ^ Int.toNat 30 : Int).natAbs < 10 ^ 40 by decide +kernel) (by omega)
      exact fin x' d' H' ((D'.more (wo_same (same_new (Same.refl H1) ht))).more s'.1) bd' B' ((s1.new ht).trans s')
    clear B1 s1
    rintro σ1 H1 ⟨rfl, B1, s1⟩
    exact ⟨_, rfl, b, rfl, B1, fun x' d' H' D' b' B' s' => fin x' d' H' D' (Bd.up (by omega) b') B' (s1.trans s')⟩
end
end Y

/-! OF2: _law_bent again, with how long its rows are. -/
namespace Y
open PySem PySem.Spec PyProof.Rows L2 Ns
open C8 (pss_cut)
mutual
/-- no row is longer than m -/
def Tl (m : Nat) : PyData → Prop
  | .list ds => ds.length ≤ m ∧ TlA m ds
  | .tuple ds => ds.length ≤ m ∧ TlA m ds
  | _ => True
def TlA (m : Nat) : List PyData → Prop
  | [] => True
  | d :: ds => Tl m d ∧ TlA m ds
end
theorem tlA_iff {m : Nat} : ∀ {ds : List PyData}, TlA m ds ↔ ∀ d ∈ ds, Tl m d
  | [] => by simp [TlA]
  | d :: ds => by
    have ih := tlA_iff (m := m) (ds := ds)
    simp only [TlA, List.mem_cons, forall_eq_or_imp, ih]
mutual
theorem Tl.up {m m' : Nat} (h : m ≤ m') : ∀ {d : PyData}, Tl m d → Tl m' d
  | .none, _ => by simp only [Tl]
  | .bool _, _ => by simp only [Tl]
  | .int _, _ => by simp only [Tl]
  | .str _, _ => by simp only [Tl]
  | .dict _, _ => by simp only [Tl]
  | .list ds, g => by simp only [Tl] at g ⊢; exact ⟨by omega, TlA.up h g.2⟩
  | .tuple ds, g => by simp only [Tl] at g ⊢; exact ⟨by omega, TlA.up h g.2⟩
theorem TlA.up {m m' : Nat} (h : m ≤ m') : ∀ {ds : List PyData}, TlA m ds → TlA m' ds
  | [], _ => by simp only [TlA]
  | d :: ds, g => by simp only [TlA] at g ⊢; exact ⟨Tl.up h g.1, TlA.up h g.2⟩
end
mutual
theorem Bd.tl {w : Nat} : ∀ {d : PyData}, Bd w d → Tl w d
  | .none, _ => by simp only [Tl]
  | .bool _, _ => by simp only [Tl]
  | .int _, _ => by simp only [Tl]
  | .str _, _ => by simp only [Tl]
  | .dict _, _ => by simp only [Tl]
  | .list ds, g => by simp only [Bd] at g; simp only [Tl]; exact ⟨g.1, BdA.tl g.2⟩
  | .tuple ds, g => by simp only [Bd] at g; simp only [Tl]; exact ⟨g.1, BdA.tl g.2⟩
theorem BdA.tl {w : Nat} : ∀ {ds : List PyData}, BdA w ds → TlA w ds
  | [], _ => by simp only [TlA]
  | d :: ds, g => by simp only [BdA] at g; simp only [TlA]; exact ⟨Bd.tl g.1, BdA.tl g.2⟩
end
theorem cut_sum (xs : List V) {v : Int} (h0 : 0 ≤ v) (h1 : v ≤ xs.length) : (cutV xs none (some v)).length + (cutV xs (some v) none).length = xs.length ∧ (cutV xs none (some v)).length + (cutV xs (some (v + 1)) none).length ≤ xs.length ∧ (v < xs.length → (cutV xs none (some v)).length + 1 + (cutV xs (some (v + 1)) none).length = xs.length) := by
  have a1 : HT.sIx xs.length xs.length (some v) = v.toNat := by
    rw [show v = ((v.toNat : Nat) : Int) by omega, HT.sIx_nat]
    omega
  have a2 : HT.sIx xs.length 0 (some v) = v.toNat := by
    rw [show v = ((v.toNat : Nat) : Int) by omega, HT.sIx_nat]
    omega
  have a3 : HT.sIx xs.length 0 (some (v + 1)) = min (v.toNat + 1) xs.length := by
    rw [show v + 1 = ((v.toNat + 1 : Nat) : Int) by omega, HT.sIx_nat]
  have b1 : HT.sIx xs.length 0 none = 0 := rfl
  have b2 : HT.sIx xs.length xs.length none = xs.length := rfl
  unfold cutV
  rw [a1, a2, a3, b1, b2]
  simp only [List.length_take, List.length_drop]
  omega
/-- a value with one part otherwise, at most n deep -/
def spBentM (K : PySem.W.Frag) (n : Nat) : Sp := fun as H Q _ => ∃ (b : Addr) (x : V) (d : PyData) (w m : Nat), as = [.ref b, x, .int (n : Int)] ∧ Bag H b ∧ DatV K (wo H b) x d ∧ Bd w d ∧ w ≤ 300 ∧ Tl m d ∧ 40 ≤ m ∧
  ∀ (x' : V) (d' : PyData) (H' : Hp), DatV K (wo H' b) x' d' → Bd (3 * w + 40) d' → Tl (m + 1) d' → Bag H' b → Sb b H H' → Q x' H'
def spLessM (K : PySem.W.Frag) : Nat → Sp
  | 0 => fun _ _ _ _ => False
  | n + 1 => spBentM K n
section
variable {P : Program} {w : World} {K : PySem.W.Frag} {mg : Str → Option Value} {base : Heap}
theorem ok_neverM {f : Addr} {fd : FuncData} (F : Fun K "_law_bent" "_law_bent" sBent f fd) : FnOk P w K mg base CX0 1 f fd ["bag", "thing", "deep"] (spLessM K 0) := by
  refine F.ok scBe (fun as H Q E h => False.elim h) (fun cdv A outer s H as Q E hr h => False.elim h)
theorem bent_stepM {n k : Nat} {f fT fS fO fW : Addr} {fd dT dS dO dW : FuncData} (F : Fun K "_law_bent" "_law_bent" sBent f fd) (T : Nat0 mg) (hBo : mg "bool" = none) (mF : mg "_law_bent" = some (.ref f)) (bF : Binds K fd ["bag", "thing", "deep"] [])
    (GR : FnOk P w K mg base CX0 k f fd ["bag", "thing", "deep"] (spLessM K n)) (hk : 3 ≤ k)
    (FT : Fun K "_law_take" "_law_take" sTake fT dT) (mT : mg "_law_take" = some (.ref fT)) (bT : Binds K dT ["bag", "many"] [])
    (FS : Fun K "_law_some" "_law_some" sSome fS dS) (mS : mg "_law_some" = some (.ref fS)) (bS : Binds K dS ["bag", "things"] [])
    (FO : Fun K "_law_odd" "_law_odd" sOdd fO dO) (mO : mg "_law_odd" = some (.ref fO)) (bO : Binds K dO ["bag"] [])
    (FW : Fun K "_law_bent_word" "_law_bent_word" sBentWord fW dW) (mW : mg "_law_bent_word" = some (.ref fW)) (bW : Binds K dW ["bag", "word"] []) : FnOk P w K mg base CX0 (k + 1) f fd ["bag", "thing", "deep"] (spBentM K n) := by
  have GT : FnOk P w K mg base CX0 1 fT dT ["bag", "many"] spTake := ok_take FT T
  have GS : FnOk P w K mg base CX0 2 fS dS ["bag", "things"] (spSome K) := ok_some FS T FT mT bT
  have GO : FnOk P w K mg base CX0 3 fO dO ["bag"] (spOdd K) := ok_odd FO FS mS bS GS
  have GW : FnOk P w K mg base CX0 3 fW dW ["bag", "word"] spBW := ok_bentWord FW T FT mT bT FS mS bS
  refine F.ok scBe (fun as H Q E h => ?_) (fun cdv A outer s H as Q E hr h => ?_)
  · obtain ⟨b, x, d, w', m, rfl, _⟩ := h
    rfl
  · obtain ⟨b, x, d, w', tm, rfl, hB, D, hD, hw, hTl, h40, kk⟩ := h
    have hr1 : Room 1 _ := hr.mono (show 1 ≤ k by omega)
    have hr2 : Room 2 _ := hr.mono (show 2 ≤ k by omega)
    have hr3 : Room 3 _ := hr.mono hk
    have hu := hu_of hr
    refine ⟨_, pss_cons (ps_set (i := 3) scBe.nd rfl (.inl rfl) (pe_call GT hr1 rfl mT FT.kp bT .nil pass0 (pa_cons (pv 0) (pa_cons pe_int pa_nil))))
      (pss_cut (ps_if (PW.pt (pw_and (pt_val (pe_callB (call_isD kit_T) (by rfl) T.isi (by decide +kernel) (pa_cons (pv 1) (pa_cons (pe_bltn (v := .ty "tuple") (by rfl) T.tuple (by decide +kernel) rfl) pa_nil))))
          (pw_and (pt_cmpR (op_neE hr.units) (pv 1) (pe_tup pa_nil) (nomark _)) (pw_and (pt_cmpR op_gt (pv 2) pe_int (nomark _)) (pw_and1 (pt_cmpR op_lt (pv 3) pe_int (nomark _)))))))
        (pss_cons (ps_set (i := 4) scBe.nd rfl (.inl rfl) (pe_call GT hr1 rfl mT FT.kp bT .nil pass0 (pa_cons (pv 0) (pa_cons (pe_callB call_len_seq (by rfl) T.len PySem.boot_len (pa_cons (pv 1) pa_nil)) pa_nil))))
        (pss_one (ps_ret (pe_op op_catP (pe_op op_catP (pe_slice sl_tupP (pv 1) po_none (po_some (pv 4))) (pe_tup (pa_cons (pe_call GR hr rfl mF F.kp bF .nil pass0 (pa_cons (pv 0) (pa_cons (pe_ix ix_tup (pv 1) (pv 4) (fun _ _ => rfl)) (pa_cons (pe_op op_sub (pv 2) pe_int) pa_nil)))) pa_nil)))
          (pe_slice sl_tupP (pv 1) (po_some (pe_op op_add (pv 4) pe_int)) po_none))))) pss_nil)
      (pss_cut (ps_if (PW.pt (pw_and (pt_val (pe_callB (call_isD kit_T) (by rfl) T.isi (by decide +kernel) (pa_cons (pv 1) (pa_cons (pe_bltn (v := .ty "tuple") (by rfl) T.tuple (by decide +kernel) rfl) pa_nil)))) (pw_and1 (pt_cmpR op_lt (pv 3) pe_int (nomark _)))))
        (pss_cons (ps_set (i := 4) scBe.nd rfl (.inl rfl) (pe_call GT hr1 rfl mT FT.kp bT .nil pass0 (pa_cons (pv 0) (pa_cons (pe_op op_add (pe_callB call_len_seq (by rfl) T.len PySem.boot_len (pa_cons (pv 1) pa_nil)) pe_int) pa_nil))))
        (pss_cons (ps_set (i := 5) scBe.nd rfl (.inl rfl) (pe_lst (pa_cons (pe_callTy call_list_of (by rfl) T.list_ (by decide +kernel) (pa_cons (pv 1) pa_nil)) (pa_cons (pe_revT (pv 1)) (pa_cons (pe_op op_catP (pe_slice sl_tupP (pv 1) po_none (po_some (pv 4))) (pe_slice sl_tupP (pv 1) (po_some (pe_op op_add (pv 4) pe_int)) po_none))
            (pa_cons (pe_op op_catP (pe_op op_catP (pe_slice sl_tupP (pv 1) po_none (po_some (pv 4))) (pe_slice sl_tupP (pv 1) po_none (po_some pe_int))) (pe_slice sl_tupP (pv 1) (po_some (pv 4)) po_none)) pa_nil))))))
        (pss_one (ps_ret (pe_call GS hr2 rfl mS FS.kp bS .nil pass0 (pa_cons (pv 0) (pa_cons (pe_op op_cat (pv 5) (pe_lst (pa_cons (pe_op op_catP (pe_slice sl_tupP (pv 1) (po_some (pv 4)) po_none) (pe_slice sl_tupP (pv 1) po_none (po_some (pv 4))))
            (pa_cons (pe_op op_catP (pe_op op_catP (pe_slice sl_tupP (pv 1) po_none (po_some (pv 4))) (pe_tup (pa_cons (pe_call GO hr3 rfl mO FO.kp bO .nil pass0 (pa_cons (pv 0) pa_nil)) pa_nil))) (pe_slice sl_tupP (pv 1) (po_some (pv 4)) po_none)) pa_nil)))) pa_nil))))))) pss_nil)
      (pss_cut (ps_if (PW.pt (pw_and (pt_val (pe_callB (call_isD kit_S) (by rfl) T.isi (by decide +kernel) (pa_cons (pv 1) (pa_cons (pe_bltn (v := .ty "str") (by rfl) T.str (by decide +kernel) rfl) pa_nil)))) (pw_and1 (pt_cmpR op_lt (pv 3) pe_int (nomark _)))))
        (pss_one (ps_ret (pe_call GW hr3 rfl mW FW.kp bW .nil pass0 (pa_cons (pv 0) (pa_cons (pv 1) pa_nil))))) pss_nil)
      (pss_cut (ps_if (PW.pt (pw_and (pt_val (pe_callB (call_isD kit_I) (by rfl) T.isi (by decide +kernel) (pa_cons (pv 1) (pa_cons (pe_bltn (v := .ty "int") (by rfl) T.int (by decide +kernel) rfl) pa_nil))))
          (pw_and (pt_not (pt_val (pe_callB (call_isD kit_B) (by rfl) T.isi (by decide +kernel) (pa_cons (pv 1) (pa_cons (pe_bltn (v := .ty "bool") (by rfl) hBo (by decide +kernel) rfl) pa_nil))))) (pw_and1 (pt_cmpR op_lt (pv 3) pe_int (nomark _))))))
        (pss_one (ps_ret (pe_call GS hr2 rfl mS FS.kp bS .nil pass0 (pa_cons (pv 0) (pa_cons (pe_lst (pa_cons (pe_op op_add (pv 1) pe_int) (pa_cons (pe_op op_sub (pv 1) pe_int) (pa_cons (pe_op op_sub pe_int (pv 1)) (pa_cons (pe_cmpR op_eq (pv 1) pe_int (nomark _))
            (pa_cons (pe_callTy call_str_int (by rfl) T.str (by decide +kernel) (pa_cons (pv 1) pa_nil)) (pa_cons pe_non (pa_cons pe_int (pa_cons (pe_op op_pow pe_int pe_int) pa_nil))))))))) pa_nil))))) pss_nil)
      (pss_one (ps_ret (pe_call GO hr3 rfl mO FO.kp bO .nil pass0 (pa_cons (pv 0) pa_nil)))))))), ?_⟩
    refine ⟨_, rfl, b, 10, rfl, hB, by decide, by decide, fun way H1 w0 w1 B1 s1 => ?_⟩
    have fin : ∀ (x' : V) (d' : PyData) (H' : Hp), DatV K (wo H' b) x' d' → Bd (3 * w' + 40) d' → Tl (tm + 1) d' → Bag H' b → Sb b H H' → Q x' H' := kk
    clear kk
    -- the first one
    refine ⟨fun σ' H' => σ' = [some (.ref b), some x, some (.int n), some (.int way), none, none] ∧ Bag H' b ∧ Sb b H H', ?_, ?_⟩
    · refine ⟨_, rfl, x, d, rfl, (D.more s1.1).more (wo_sub H1 b), qT d, rfl, ?_⟩
      refine ite2 (fun h => ?_) (fun _ => ⟨rfl, B1, s1⟩)
      obtain ⟨a, xs, ds, rfl, rfl, hT, hA⟩ := dat_tup D h
      simp only [Bd] at hD
      simp only [Tl] at hTl
      have vT : ∀ {G : Hp}, Sb b H G → SqT K G a xs := fun {G} s => sqt_more (wo_sub G b) (sqt_more s.1 hT)
      have lx := hA.len
      refine ⟨_, rfl, by show 0 ≤ sizeLine; decide, fun e he => ⟨a, e, xs, rfl, rfl, vT (s1.new he), SqT.of upd_same, _, rfl, ?_⟩⟩
      have B2 := B1.new (o := .tup []) he
      have s2 := s1.new (o := .tup []) he
      generalize upd H1 e (.tup []) = H2 at B2 s2 ⊢
      refine ite2 (fun hne => ?_) (fun _ => ⟨rfl, B2, s2⟩)
      have ne : xs ≠ [] := by simpa using hne
      refine ⟨_, rfl, _, _, rfl, rfl, _, rfl, ?_⟩
      refine ite2 (fun hn => ?_) (fun _ => ⟨rfl, B2, s2⟩)
      have hn' : (0 : Int) < n := of_decide_eq_true hn
      refine ⟨_, rfl, _, _, rfl, rfl, _, rfl, ?_⟩
      refine ite2 (fun _ => ?_) (fun _ => ⟨rfl, B2, s2⟩)
      have pos : 0 < xs.length := List.length_pos_iff.mpr ne
      refine ⟨_, rfl, _, rfl, a, xs, rfl, .inr (vT s2), b, _, rfl, B2, by omega, Nat.lt_of_le_of_lt (show ((xs.length : Int)).natAbs ≤ 1000 by omega) (by decide), fun v H3 v0 v1 B3 s3' => ?_⟩
      have s3 := s2.trans s3'
      obtain ⟨y, hy⟩ : ∃ y, xs[v.toNat]? = some y := ⟨_, List.getElem?_eq_getElem (by omega)⟩
      obtain ⟨dy, hdy, Dy⟩ := datA_at hA hy
      obtain ⟨m, rfl⟩ : ∃ m, n = m + 1 := ⟨n - 1, by omega⟩
      refine ⟨_, rfl, _, rfl, v, rfl, a, xs, rfl, vT s3, fun p1 H4 m4 q1 => ?_⟩
      have B4 := B3.keep m4
      have s4 := s3.same m4
      refine ⟨_, rfl, _, rfl, _, rfl, a, xs, v, y, rfl, rfl, vT s4, by rw [show v = ((v.toNat : Nat) : Int) by omega]; exact atI_nat hy, _, rfl, _, _, rfl, rfl, ?_⟩
      refine ⟨b, y, dy, w', tm, by show [V.ref b, y, V.int (((m + 1 : Nat) : Int) - 1)] = _; rw [show (((m + 1 : Nat) : Int) - 1) = (m : Int) by omega], B4, Dy.more s4.1, bdA_iff.mp hD.2 _ (List.mem_of_getElem? hdy), hw, tlA_iff.mp hTl.2 _ (List.mem_of_getElem? hdy), h40, fun x5 d5 H5 D5 b5 t5 B5 s5' => ?_⟩
      have s5 := s4.trans s5'
      refine ⟨by show 1 ≤ sizeLine; decide, fun t ht => ?_⟩
      have q1' := sbT s5' B4 q1
      have D5' := D5.more (wo_same (same_new (o := .tup [x5]) (Same.refl H5) ht))
      have q1'' := sqt_more (same_new (o := .tup [x5]) (Same.refl H5) ht) q1'
      have et : SqT K (upd H5 t (.tup [x5])) t [x5] := SqT.of upd_same
      have B6 := B5.new (o := .tup [x5]) ht
      have s6 := s5.new (o := .tup [x5]) ht
      generalize upd H5 t (.tup [x5]) = H6 at D5' q1'' et B6 s6 ⊢
      have cl1 := cutV_length xs none (some v)
      have cl2 := cutV_length xs (some (v + 1)) none
      refine ⟨p1, t, _, _, rfl, rfl, q1'', et, Nat.le_of_lt (small1000 (show (cutV xs none (some v)).length + 1 ≤ 1000 by omega)), fun p2 H7 m7 q2 => ?_⟩
      have s7 := s6.same m7
      refine ⟨_, rfl, _, rfl, _, _, rfl, rfl, _, rfl, a, xs, rfl, vT s7, fun p3 H8 m8 q3 => ?_⟩
      have s8 := s7.same m8
      refine ⟨p2, p3, _, _, rfl, rfl, sqt_more m8 q2, q3, Nat.le_of_lt (small1000 (show (cutV xs none (some v) ++ [x5]).length + (cutV xs (some (v + 1)) none).length ≤ 1000 by rw [List.length_append]; show _ + 1 + _ ≤ 1000; omega)), fun p4 H9 m9 q4 => ?_⟩
      have s9 := s8.same m9
      have B9 := ((B6.keep m7).keep m8).keep m9
      obtain ⟨e1, A1, sub1, le1⟩ := datA_cut (hA.more s9.1) none (some v)
      obtain ⟨e2, A2, sub2, le2⟩ := datA_cut (hA.more s9.1) (some (v + 1)) none
      have D9 := ((D5'.more (wo_same m7)).more (wo_same m8)).more (wo_same m9)
      refine fin (.ref p4) (.tuple (e1 ++ [d5] ++ e2)) H9 (.tup (sqt_wo' q4 B9) (datA_app (datA_app A1 (.cons D9 .nil)) A2)) ?_ ?_ B9 s9
      rotate_left
      · have z1 := A1.len
        have z2 := A2.len
        have z3 := (cut_sum xs v0 (by omega)).2.2 (by omega)
        have oldT : ∀ u ∈ ds, Tl (tm + 1) u := fun u hu => Tl.up (by omega) (tlA_iff.mp hTl.2 u hu)
        simp only [Tl]
        refine ⟨by rw [List.length_append, List.length_append]; show _ + 1 + _ ≤ _; omega, tlA_iff.mpr fun u hu => ?_⟩
        rcases List.mem_append.mp hu with hu | hu
        · rcases List.mem_append.mp hu with hu | hu
          · exact oldT u (sub1 u hu)
          · rw [List.mem_singleton.mp hu]; exact t5
        · exact oldT u (sub2 u hu)
      simp only [Bd]
      refine ⟨by rw [List.length_append, List.length_append]; show _ + 1 + _ ≤ _; omega, bdA_iff.mpr fun u hu => ?_⟩
      have old : ∀ u ∈ ds, Bd (3 * w' + 40) u := fun u hu => Bd.up (by omega) (bdA_iff.mp hD.2 u hu)
      rcases List.mem_append.mp hu with hu | hu
      · rcases List.mem_append.mp hu with hu | hu
        · exact old u (sub1 u hu)
        · rw [List.mem_singleton.mp hu]; exact b5
      · exact old u (sub2 u hu)
    clear B1 s1
    rintro σ1 H1 ⟨rfl, B1, s1⟩
    -- the second one
    refine ⟨fun σ' H' => σ' = [some (.ref b), some x, some (.int n), some (.int way), none, none] ∧ Bag H' b ∧ Sb b H H', ?_, ?_⟩
    · refine ⟨_, rfl, x, d, rfl, (D.more s1.1).more (wo_sub H1 b), qT d, rfl, ?_⟩
      refine ite2 (fun h => ?_) (fun _ => ⟨rfl, B1, s1⟩)
      obtain ⟨a, xs, ds, rfl, rfl, hT, hA⟩ := dat_tup D h
      simp only [Bd] at hD
      simp only [Tl] at hTl
      have vT : ∀ {G : Hp}, Sb b H G → SqT K G a xs := fun {G} s => sqt_more (wo_sub G b) (sqt_more s.1 hT)
      have lx := hA.len
      refine ⟨_, rfl, _, _, rfl, rfl, _, rfl, ?_⟩
      refine ite2 (fun _ => ?_) (fun _ => ⟨rfl, B1, s1⟩)
      refine ⟨_, rfl, _, rfl, a, xs, rfl, .inr (vT s1), _, _, rfl, rfl, b, _, rfl, B1, by omega, Nat.lt_of_le_of_lt (show ((xs.length : Int) + 1).natAbs ≤ 1000 by omega) (by decide), fun v H2 v0 v1 B2 s2' => ?_⟩
      have s2 := s1.trans s2'
      have cl1 := cutV_length xs none (some v)
      have cl2 := cutV_length xs (some (v + 1)) none
      have cl3 := cutV_length xs (some v) none
      have cl4 := cut_one xs
      refine ⟨_, rfl, a, xs, rfl, .inr (vT s2), fun l1 u1 => ?_⟩
      have M1 := same_new (o := .lst xs) (Same.refl H2) u1
      have f1 : SqL K (upd H2 l1 (.lst xs)) l1 xs := SqL.of upd_same
      have g1 : SqL K (wo (upd H2 l1 (.lst xs)) b) l1 xs := sql_new upd_same (B2.ne u1)
      generalize upd H2 l1 (.lst xs) = H3 at M1 f1 g1 ⊢
      have B3 := B2.keep M1
      have s3 := s2.same M1
      refine ⟨_, rfl, a, xs, rfl, vT s3, fun l2 u2 => ?_⟩
      have M2 := same_new (o := .tup xs.reverse) (Same.refl H3) u2
      have f2 : SqT K (upd H3 l2 (.tup xs.reverse)) l2 xs.reverse := SqT.of upd_same
      generalize upd H3 l2 (.tup xs.reverse) = H4 at M2 f2 ⊢
      have s4 := s3.same M2
      refine ⟨_, rfl, _, rfl, v, rfl, a, xs, rfl, vT s4, fun p1 H5 M3 q1 => ?_⟩
      have s5 := s4.same M3
      refine ⟨_, rfl, _, rfl, _, _, rfl, rfl, _, rfl, a, xs, rfl, vT s5, fun p2 H6 M4 q2 => ?_⟩
      have s6 := s5.same M4
      refine ⟨p1, p2, _, _, rfl, rfl, sqt_more M4 q1, q2, Nat.le_of_lt (small1000 (by omega)), fun l3 H7 M5 f3 => ?_⟩
      have s7 := s6.same M5
      refine ⟨_, rfl, _, rfl, v, rfl, a, xs, rfl, vT s7, fun p3 H8 M6 q3 => ?_⟩
      have s8 := s7.same M6
      refine ⟨_, rfl, _, rfl, a, xs, rfl, vT s8, fun p4 H9 M7 q4 => ?_⟩
      have s9 := s8.same M7
      refine ⟨p3, p4, _, _, rfl, rfl, sqt_more M7 q3, q4, Nat.le_of_lt (small1000 (by omega)), fun p5 HA M8 q5 => ?_⟩
      have sA := s9.same M8
      refine ⟨_, rfl, _, rfl, v, rfl, a, xs, rfl, vT sA, fun p6 HB M9 q6 => ?_⟩
      have sB := sA.same M9
      have l5 : (cutV xs none (some v) ++ cutV xs none (some 1)).length ≤ xs.length + 1 := by rw [List.length_append]; omega
      refine ⟨p5, p6, _, _, rfl, rfl, sqt_more M9 q5, q6, Nat.le_of_lt (small1000 (by omega)), fun l4 HC MA f4 => ?_⟩
      have sC := sB.same MA
      have BC := ((((((((B3.keep M2).keep M3).keep M4).keep M5).keep M6).keep M7).keep M8).keep M9).keep MA
      have MM : Same H4 HC := ((((((M3.trans M4).trans M5).trans M6).trans M7).trans M8).trans M9).trans MA
      have MN : Same H7 HC := (((M6.trans M7).trans M8).trans M9).trans MA
      have g1' := Same.seq (wo_same (M2.trans MM)) g1
      have f2' := sqt_more MM f2
      have f3' := sqt_more MN f3
      refine ⟨by show 4 ≤ sizeLine; decide, fun t ht => ?_⟩
      have MB := same_new (o := .lst [.ref l1, .ref l2, .ref l3, .ref l4]) (Same.refl HC) ht
      have et : upd HC t (.lst [.ref l1, .ref l2, .ref l3, .ref l4]) t = some (.lst [.ref l1, .ref l2, .ref l3, .ref l4]) := upd_same
      have ntb := BC.ne ht
      generalize upd HC t (.lst [.ref l1, .ref l2, .ref l3, .ref l4]) = HD at MB et ⊢
      have BD := BC.keep MB
      have sD := sC.same MB
      have g1D := Same.seq (wo_same MB) g1'
      have f2D := sqt_wo' (sqt_more MB f2') BD
      have f3D := sqt_wo' (sqt_more MB f3') BD
      have f4D := sqt_wo' (sqt_more MB f4) BD
      clear M1 M2 M3 M4 M5 M6 M7 M8 M9 MA MB MM MN f1 g1 f2 f3 f4 g1' f2' f3' q1 q2 q3 q4 q5 q6 s2' s3 s4 s5 s6 s7 s8 s9 sA sB sC B3 BC ht
      -- some + [..]
      refine ⟨_, rfl, _, rfl, _, rfl, _, rfl, v, rfl, a, xs, rfl, vT sD, fun p1 H5 M3 q1 => ?_⟩
      have s5 := sD.same M3
      refine ⟨_, rfl, _, rfl, v, rfl, a, xs, rfl, vT s5, fun p2 H6 M4 q2 => ?_⟩
      have s6 := s5.same M4
      refine ⟨p1, p2, _, _, rfl, rfl, sqt_more M4 q1, q2, Nat.le_of_lt (small1000 (by omega)), fun l5 H7 M5 f5 => ?_⟩
      have s7 := s6.same M5
      refine ⟨_, rfl, _, rfl, v, rfl, a, xs, rfl, vT s7, fun p3 H8 M6 q3 => ?_⟩
      have s8 := s7.same M6
      have M8 : Same HD H8 := ((M3.trans M4).trans M5).trans M6
      have B8 := BD.keep M8
      refine ⟨_, rfl, b, rfl, B8, fun xo dO H9 DO bO B9 s9' => ?_⟩
      have s9 := s8.trans s9'
      refine ⟨by show 1 ≤ sizeLine; decide, fun t1 ht1 => ?_⟩
      have m9 := same_new (o := .tup [xo]) (Same.refl H9) ht1
      have q3' := sqt_more m9 (sbT s9' B8 q3)
      have e1 : SqT K (upd H9 t1 (.tup [xo])) t1 [xo] := SqT.of upd_same
      have f5' := sqt_more m9 (sbT s9' B8 (sqt_more M6 f5))
      have et' := (s9'.get (M8 _ _ et) ntb)
      have et2 := m9 _ _ et'
      have k1 := Same.seq (wo_same m9) (Same.seq s9'.1 (Same.seq (wo_same M8) g1D))
      have k2 := sqt_more (wo_same m9) (sqt_more s9'.1 (sqt_more (wo_same M8) f2D))
      have k3 := sqt_more (wo_same m9) (sqt_more s9'.1 (sqt_more (wo_same M8) f3D))
      have k4 := sqt_more (wo_same m9) (sqt_more s9'.1 (sqt_more (wo_same M8) f4D))
      have DO' := DO.more (wo_same m9)
      have sE := s9.same m9
      have BE := B9.keep m9
      generalize upd H9 t1 (.tup [xo]) = HE at m9 q3' e1 f5' et2 k1 k2 k3 k4 DO' sE BE ⊢
      have l6 : (cutV xs none (some v) ++ [xo]).length ≤ xs.length + 1 := by rw [List.length_append]; show _ + 1 ≤ _; omega
      refine ⟨p3, t1, _, _, rfl, rfl, q3', e1, Nat.le_of_lt (small1000 (show (cutV xs none (some v)).length + 1 ≤ 1000 by omega)), fun p4 HF MF q4 => ?_⟩
      have sF := sE.same MF
      refine ⟨_, rfl, _, rfl, v, rfl, a, xs, rfl, vT sF, fun p5 HG MG q5 => ?_⟩
      have sG := sF.same MG
      refine ⟨p4, p5, _, _, rfl, rfl, sqt_more MG q4, q5, Nat.le_of_lt (small1000 (by omega)), fun l6' HI MI f6 => ?_⟩
      have MJ : Same HE HI := (MF.trans MG).trans MI
      have sI := sG.same MI
      have BI := BE.keep MJ
      have f5I := sqt_more MJ f5'
      refine ⟨by show 2 ≤ sizeLine; decide, fun t2 ht2 => ⟨t, t2, _, _, rfl, rfl, s3u ht2 (MJ _ _ et2), upd_same, by show 4 + 2 ≤ sizeLine; decide, fun t3 ht3 => ?_⟩⟩
      have MK : Same HI (upd HI t2 (.lst [.ref l5, .ref l6'])) := same_new (Same.refl HI) ht2
      have BK := BI.keep MK
      have sK := sI.same MK
      have ML := (MJ.trans MK)
      have f5K := sqt_wo' (sqt_more MK f5I) BK
      have f6K := sqt_wo' (sqt_more MK f6) BK
      have k1K := Same.seq (wo_same ML) k1
      have k2K := sqt_more (wo_same ML) k2
      have k3K := sqt_more (wo_same ML) k3
      have k4K := sqt_more (wo_same ML) k4
      have DK := DO'.more (wo_same ML)
      generalize upd HI t2 (.lst [.ref l5, .ref l6']) = HK at MK BK sK ML f5K f6K k1K k2K k3K k4K DK ht3 ⊢
      obtain ⟨c1, A1, sb1, le1⟩ := datA_cut (hA.more sK.1) none (some v)
      obtain ⟨c2, A2, sb2, le2⟩ := datA_cut (hA.more sK.1) (some (v + 1)) none
      obtain ⟨c3, A3, sb3, le3⟩ := datA_cut (hA.more sK.1) (some v) none
      obtain ⟨c4, A4, sb4, le4⟩ := datA_cut (hA.more sK.1) none (some 1)
      have a1 := A1.len
      have a2 := A2.len
      have a3 := A3.len
      have a4 := A4.len
      have old : ∀ u ∈ ds, Bd (3 * w' + 40) u := fun u hu => Bd.up (by omega) (bdA_iff.mp hD.2 u hu)
      have row : DatA K (wo HK b) [.ref l1, .ref l2, .ref l3, .ref l4, .ref l5, .ref l6'] [.list ds, .tuple ds.reverse, .tuple (c1 ++ c2), .tuple (c1 ++ c4 ++ c3), .tuple (c3 ++ c1), .tuple (c1 ++ [dO] ++ c3)] :=
        .cons (.lst k1K (hA.more sK.1)) (.cons (.tup k2K (datA_rev (hA.more sK.1))) (.cons (.tup k3K (datA_app A1 A2)) (.cons (.tup k4K (datA_app (datA_app A1 A4) A3)) (.cons (.tup f5K (datA_app A3 A1)) (.cons (.tup f6K (datA_app (datA_app A1 (.cons DK .nil)) A3)) .nil)))))
      have rowB : ∀ u ∈ [PyData.list ds, .tuple ds.reverse, .tuple (c1 ++ c2), .tuple (c1 ++ c4 ++ c3), .tuple (c3 ++ c1), .tuple (c1 ++ [dO] ++ c3)], Bd (3 * w' + 40) u := by
        have ap : ∀ {l r : List PyData}, (∀ u ∈ l, Bd (3 * w' + 40) u) → (∀ u ∈ r, Bd (3 * w' + 40) u) → ∀ u ∈ l ++ r, Bd (3 * w' + 40) u := fun h g u hu => (List.mem_append.mp hu).elim (h u) (g u)
        have o1 := fun u hu => old u (sb1 u hu)
        have o2 := fun u hu => old u (sb2 u hu)
        have o3 := fun u hu => old u (sb3 u hu)
        have o4 := fun u hu => old u (sb4 u hu)
        intro u hu
        simp only [List.mem_cons, List.not_mem_nil, or_false] at hu
        rcases hu with rfl | rfl | rfl | rfl | rfl | rfl <;> simp only [Bd]
        · exact ⟨by omega, bdA_iff.mpr old⟩
        · exact ⟨by rw [List.length_reverse]; omega, bdA_iff.mpr fun u hu => old u (List.mem_reverse.mp hu)⟩
        · exact ⟨by rw [List.length_append]; omega, bdA_iff.mpr (ap o1 o2)⟩
        · exact ⟨by rw [List.length_append, List.length_append]; omega, bdA_iff.mpr (ap (ap o1 o4) o3)⟩
        · exact ⟨by rw [List.length_append]; omega, bdA_iff.mpr (ap o3 o1)⟩
        · exact ⟨by rw [List.length_append, List.length_append]; show _ + 1 + _ ≤ _; omega, bdA_iff.mpr (ap (ap o1 fun u hu => by rw [List.mem_singleton.mp hu]; exact Bd.up (by omega) bO) o3)⟩
      have sums := cut_sum xs v0 (by omega)
      have oldT : ∀ u ∈ ds, Tl (tm + 1) u := fun u hu => Tl.up (by omega) (tlA_iff.mp hTl.2 u hu)
      have rowT : ∀ u ∈ [PyData.list ds, .tuple ds.reverse, .tuple (c1 ++ c2), .tuple (c1 ++ c4 ++ c3), .tuple (c3 ++ c1), .tuple (c1 ++ [dO] ++ c3)], Tl (tm + 1) u := by
        have ap : ∀ {l r : List PyData}, (∀ u ∈ l, Tl (tm + 1) u) → (∀ u ∈ r, Tl (tm + 1) u) → ∀ u ∈ l ++ r, Tl (tm + 1) u := fun h g u hu => (List.mem_append.mp hu).elim (h u) (g u)
        have o1 := fun u hu => oldT u (sb1 u hu)
        have o2 := fun u hu => oldT u (sb2 u hu)
        have o3 := fun u hu => oldT u (sb3 u hu)
        have o4 := fun u hu => oldT u (sb4 u hu)
        have l2 := hTl.1
        intro u hu
        simp only [List.mem_cons, List.not_mem_nil, or_false] at hu
        rcases hu with rfl | rfl | rfl | rfl | rfl | rfl <;> simp only [Tl]
        · exact ⟨by omega, tlA_iff.mpr oldT⟩
        · exact ⟨by rw [List.length_reverse]; omega, tlA_iff.mpr fun u hu => oldT u (List.mem_reverse.mp hu)⟩
        · exact ⟨by rw [List.length_append]; omega, tlA_iff.mpr (ap o1 o2)⟩
        · exact ⟨by rw [List.length_append, List.length_append]; omega, tlA_iff.mpr (ap (ap o1 o4) o3)⟩
        · exact ⟨by rw [List.length_append]; omega, tlA_iff.mpr (ap o3 o1)⟩
        · exact ⟨by rw [List.length_append, List.length_append]; show _ + 1 + _ ≤ _; omega, tlA_iff.mpr (ap (ap o1 fun u hu => by rw [List.mem_singleton.mp hu]; exact Tl.up (by omega) bO.tl) o3)⟩
      refine ⟨b, t3, _, rfl, BK.new ht3, sql_new upd_same (BK.ne ht3), (fun z => nomatch z), by show 6 ≤ 1000000; decide, fun x' H' hx B' s' => ?_⟩
      obtain ⟨d', hd', D'⟩ := datA_mem row hx
      exact fin x' d' H' ((D'.more (wo_same (same_new (Same.refl HK) ht3))).more s'.1) (rowB d' hd') (rowT d' hd') B' ((sK.new ht3).trans s')
    clear B1 s1
    rintro σ1 H1 ⟨rfl, B1, s1⟩
    -- texts
    refine ⟨fun σ' H' => σ' = [some (.ref b), some x, some (.int n), some (.int way), none, none] ∧ Bag H' b ∧ Sb b H H', ?_, ?_⟩
    · refine ⟨_, rfl, x, d, rfl, (D.more s1.1).more (wo_sub H1 b), qS d, rfl, ?_⟩
      refine ite2 (fun h => ?_) (fun _ => ⟨rfl, B1, s1⟩)
      obtain ⟨z, rfl, rfl⟩ := dat_str D h
      simp only [Bd] at hD
      refine ⟨_, rfl, _, _, rfl, rfl, _, rfl, ?_⟩
      refine ite2 (fun _ => ?_) (fun _ => ⟨rfl, B1, s1⟩)
      refine ⟨_, rfl, _, rfl, b, z, rfl, B1, by omega, fun y H' yl B' s' => ?_⟩
      exact fin (.str y) (.str y) H' (.str y) (by simp only [Bd]; omega) (by simp only [Tl]) B' (s1.trans s')
    clear B1 s1
    rintro σ1 H1 ⟨rfl, B1, s1⟩
    -- whole numbers
    refine ⟨fun σ' H' => σ' = [some (.ref b), some x, some (.int n), some (.int way), none, none] ∧ Bag H' b ∧ Sb b H H', ?_, ?_⟩
    · refine ⟨_, rfl, x, d, rfl, (D.more s1.1).more (wo_sub H1 b), qI d, rfl, ?_⟩
      refine ite2 (fun h => ?_) (fun _ => ⟨rfl, B1, s1⟩)
      refine ⟨_, rfl, x, d, rfl, (D.more s1.1).more (wo_sub H1 b), qB d, rfl, ?_⟩
      refine ite2 (fun g => ?_) (fun _ => ⟨rfl, B1, s1⟩)
      obtain ⟨i, rfl, rfl⟩ := dat_whole D h (by simpa using g)
      simp only [Bd] at hD
      refine ⟨_, rfl, _, _, rfl, rfl, _, rfl, ?_⟩
      refine ite2 (fun _ => ?_) (fun _ => ⟨rfl, B1, s1⟩)
      obtain ⟨sl, lg⟩ := str_int hD hw
      have up1 : i.natAbs + 1 < 10 ^ (w' + 1) := by
        rw [Nat.pow_succ]
        omega
      have bi : ∀ j : Int, j.natAbs ≤ i.natAbs + 1 → Bd (3 * w' + 40) (.int j) := fun j hj => by
        simp only [Bd]
        exact Nat.lt_of_le_of_lt hj (pow_up up1 (by omega))
      refine ⟨_, rfl, _, rfl, _, _, rfl, rfl, _, rfl, _, _, rfl, rfl, _, rfl, _, _, rfl, rfl, _, rfl, rfl, _, rfl, i, rfl, lg, 10, 30, rfl, rfl, ⟨by decide, by decide, by decide⟩, by show 8 ≤ sizeLine; decide, fun t ht => ?_⟩
      refine ⟨b, t, _, rfl, B1.new ht, sql_new upd_same (B1.ne ht), (fun z => nomatch z), by show 8 ≤ 1000000; decide, fun x' H' hx B' s' => ?_⟩
      have row : DatA K (wo H1 b) [.int (i + 1), .int (i - 1), .int (0 - i), .bl (decide (V.int i = V.int 1)), .str (toString i), .non, .int 0, .int (10 ^ Int.toNat 30)] [.int (i + 1), .int (i - 1), .int (0 - i), .bool (decide (V.int i = V.int 1)), .str (toString i), .none, .int 0, .int (10 ^ Int.toNat 30)] :=
        .cons (.int _) (.cons (.int _) (.cons (.int _) (.cons (.bl _) (.cons (.str _) (.cons .non (.cons (.int _) (.cons (.int _) .nil)))))))
      obtain ⟨d', hd', D'⟩ := datA_mem row hx
      have bd' : Bd (3 * w' + 40) d' := by
        simp only [List.mem_cons, List.not_mem_nil, or_false] at hd'
        rcases hd' with rfl | rfl | rfl | rfl | rfl | rfl | rfl | rfl
        · exact bi _ (by omega)
        · exact bi _ (by omega)
        · exact bi _ (by omega)
        · simp only [Bd]
        · simp only [Bd]; omega
        · simp only [Bd]
        · exact bi _ (by omega)
        · simp only [Bd]; exact pow_up (show (10 ^ Int.toNat 30 : Int).natAbs < 10 ^ 40 by decide +kernel) (by omega)
      have tl' : Tl (tm + 1) d' := by
        simp only [List.mem_cons, List.not_mem_nil, or_false] at hd'
        rcases hd' with rfl | rfl | rfl | rfl | rfl | rfl | rfl | rfl <;> simp only [Tl]
      exact fin x' d' H' ((D'.more (wo_same (same_new (Same.refl H1) ht))).more s'.1) bd' tl' B' ((s1.new ht).trans s')
    clear B1 s1
    rintro σ1 H1 ⟨rfl, B1, s1⟩
    exact ⟨_, rfl, b, rfl, B1, fun x' d' H' D' b' B' s' => fin x' d' H' D' (Bd.up (by omega) b') (Tl.up (by omega) b'.tl) B' (s1.trans s')⟩
end
end Y

/-! OQ: any datum == a text. -/
namespace Ns
open PySem PySem.Spec PyProof.Rows L2
theorem dict_no_str (l : Addr) (es : Array DictEntry) (n : Nat) (dd : Option Addr) (sl : Array (Option Value)) (b : Str) (u : Tok) :
    Meets (Builtin.«dict.__eq__» ⟨[.ref l, .str b u], []⟩) (fun _ R s => s.heap.get? l = some { cls := .type "dict", dict := dd, data := .dict es n, slots := sl } ∧ R (.ok (.ret .notImplemented)) s) :=
  .of_wp fun prog w A R s h => by
    obtain ⟨hp, g, d, tk, os⟩ := s
    obtain ⟨hl, h⟩ := h
    have f1 := F.sub_str_dict
    wp_walk using wpAny_loadPart' hl, wpAny_load hl
    exact ⟨_, rfl, h⟩
theorem str_no_dict (b : Str) (u : Tok) (l : Addr) (es : Array DictEntry) (n : Nat) (dd : Option Addr) (sl : Array (Option Value)) :
    Meets (Builtin.«str.__eq__» ⟨[.str b u, .ref l], []⟩) (fun _ R s => s.heap.get? l = some { cls := .type "dict", dict := dd, data := .dict es n, slots := sl } ∧ R (.ok (.ret .notImplemented)) s) :=
  .of_wp fun prog w A R s h => by
    obtain ⟨hp, g, d, tk, os⟩ := s
    obtain ⟨hl, h⟩ := h
    wp_walk using wpAny_loadPart' hl, wpAny_load hl
    exact ⟨_, rfl, h⟩
theorem rc_dict_str {A : Around} {s : Shared} {l : Addr} {dd : Option Addr} {es : Array DictEntry} {n : Nat} {sl : Array (Option Value)} (b : Str) (u : Tok) (ho : s.heap.get? l = some { cls := .type "dict", dict := dd, data := .dict es n, slots := sl }) (hu : A.units < cLine) : SeqAt.RcAt A s (.ref l) (.str b u) false := fun prog w E Q h =>
  SeqAt.rc_eq_decline_or (k := false) ⟨_, ho, rfl⟩ (typeIs_str s b u) (by decide) F.sub_str_dict F.slot_dict_eq F.slot_str_eq_refl
    (fun _ hq => call_meets F.slot_dict_eq ⟨_, ho, rfl⟩ F.entry_dict_eq (F.args_dict_eq_2 _ _) (dict_no_str l es n dd sl b u) ⟨ho, hq⟩)
    (fun _ hq => call_meets F.slot_str_eq_refl (typeIs_str s b u) F.entry_str_eq (F.args_str_eq_2 _ _) (str_no_dict b u l es n dd sl) ⟨ho, hq⟩)
    (fun _ hq => wpAny_of_eq (rfl : isSame (.ref l) (.str b u) = pure false) hq) (.inr hu) h
def isText (z : Str) : PyData → Bool
  | .str y => decide (y = z)
  | _ => false
/-- x == 'z', x any datum -/
def rEqTx (K : PySem.W.Frag) : R2 := fun x y H Q => ∃ (d : PyData) (z : Str), y = .str z ∧ DatV K H x d ∧ Q (.bl (isText z d)) H
theorem op_eqTx {X : Cx} (hu : X.A.units + 64 < cLine) : OpR X (compareOp .Eq) (rEqTx X.K) := by
  intro pins s σ H x y v u Q I rx ry h
  obtain ⟨d, z, rfl, D, q⟩ := h
  have flat : ∀ {c : Bool}, scal x (.str z) = true → decide (x = V.str z) = c → isText z d = c → wpAny (model X.prog X.w) X.A (compareOp .Eq v u) (EP X pins σ Q) X.xe s := fun {c} h1 h2 h3 => by
    rw [h3, ← h2] at q
    exact op_eq pins s σ H x (.str z) v u Q I rx ry ⟨h1, q⟩
  cases D with
  | non => exact flat (c := false) rfl (by simp) rfl
  | bl b => exact flat (c := false) rfl (by simp) rfl
  | int i => exact flat (c := false) rfl (by simp) rfl
  | str y =>
    refine flat (c := decide (y = z)) rfl ?_ rfl
    by_cases e : y = z
    · rw [e, decide_eq_true rfl, decide_eq_true rfl]
    · rw [decide_eq_false e, decide_eq_false (fun h => e (by injection h))]
  | @lst a xs ds h1 h2 =>
    cases (show v = Value.ref a from rx)
    obtain ⟨t, rfl⟩ := (show ∃ t, u = Value.str z t from ry)
    obtain ⟨its, _, pl, _⟩ := I.list h1
    exact SeqAt.RcAt.list_str z t pl.isList (by omega) _ _ _ _ ⟨.bl false, H, I, rfl, q⟩
  | @tup a xs ds h1 h2 =>
    cases (show v = Value.ref a from rx)
    obtain ⟨t, rfl⟩ := (show ∃ t, u = Value.str z t from ry)
    obtain ⟨its, _, ⟨o1, g1, g2, n1, g3⟩, _⟩ := I.tuple h1
    exact SeqAt.RcAt.tuple_str z t ⟨o1, g1, g2, n1, g3⟩ (by omega) _ _ _ _ ⟨.bl false, H, I, rfl, q⟩
  | @dic a kvs ds h1 h2 =>
    cases (show v = Value.ref a from rx)
    obtain ⟨t, rfl⟩ := (show ∃ t, u = Value.str z t from ry)
    obtain ⟨_, _, vs, _, ⟨oc, od, dt, sl⟩, es, ep, g1, g2, g3⟩ := (show ObjOk X.prog X.w H s.heap a (.dK kvs) from I.hok a _ h1)
    obtain ⟨k1, k2, k3⟩ := g2
    have g3' := g3.1
    simp only at k1 g3'
    subst k1
    subst g3'
    exact rc_dict_str z t g1 (by omega) _ _ _ _ ⟨.bl false, H, I, rfl, q⟩
end Ns

/-! OR: names, cables, cars, edits among any values: the program's. -/
namespace Ns
open PySem PySem.Spec PyProof.Rows L2
/-- xs == [], any list -/
def rEqE (K : PySem.W.Frag) : R2 := fun x y H Q => ∃ (a b : Addr) (xs : List V), x = .ref a ∧ y = .ref b ∧ SqL K H a xs ∧ SqL K H b [] ∧ Q (.bl (decide (xs = []))) H
theorem op_eqE {X : Cx} (hu : X.A.units + 64 < cLine) : OpR X (compareOp .Eq) (rEqE X.K) := by
  intro pins s σ H x y v u Q I rx ry h
  obtain ⟨a, b, xs, rfl, rfl, ha, hb, q⟩ := h
  cases (show v = Value.ref a from rx)
  cases (show u = Value.ref b from ry)
  obtain ⟨us, r1, p1, _⟩ := I.list ha
  obtain ⟨ws, r2, p2, _⟩ := I.list hb
  have z : ws = [] := by cases r2; rfl
  subst z
  have l1 := r1.length
  cases xs with
  | nil =>
    cases us with
    | nil =>
      refine SeqAt.RcAt.lists (e := fun _ => true) p1.isList p2.isList rfl (by omega) (fun j h1 _ => absurd h1 (Nat.not_lt_zero j)) _ _ _ _ ?_
      exact ⟨.bl true, H, I, rfl, q⟩
    | cons _ _ => cases l1
  | cons x xs =>
    cases us with
    | nil => cases l1
    | cons u us =>
      refine SeqAt.RcAt.lists_lengths p1.isList p2.isList (by simp) (by omega) _ _ _ _ ?_
      exact ⟨.bl false, H, I, rfl, q⟩
end Ns
namespace Y
open PySem PySem.Spec PyProof.Rows L2 Ns
def nmB (z : Str) : Bool := match z.cps.toList with
  | [] => false
  | c :: r => decide (z.length ≤ 20) && (decide (c ∈ letters.cps.toList) && (c :: r).all fun c => decide (c ∈ signs.cps.toList))
def nameD : PyData → Bool | .str z => nmB z | _ => false
def isPos : PyData → Bool | .int i => decide (1 ≤ i) | _ => false
def strOf : PyData → Str | .str z => z | _ => ""
def tupN (n : Int) : PyData → Bool | .tuple ds => decide ((ds.length : Int) = n) | _ => false
def cableD : PyData → Bool
  | .tuple [a, b, c] => nameD a && (nameD b && (!decide (strOf a = strOf b) && (!decide (strOf b = feed) && isCnt c)))
  | _ => false
def carT : PyData → Bool
  | .tuple [a, b, c, d] => nameD a && (nameD b && (isPos c && isCnt d))
  | _ => false
def editD : PyData → Bool
  | .tuple (w :: r) => if isText "cable" w then cableD (.tuple r) else if isText "no cable" w then cableD (.tuple (r ++ [.int 0])) else if isText "car" w then carT (.tuple r) else isText "no car" w && (decide (((w :: r).length : Int) = 2) && nameD (r.headD .none))
  | _ => false
theorem name_str {d : PyData} (h : nameD d = true) : ∃ z, d = .str z := by cases d <;> first | exact ⟨_, rfl⟩ | cases h
theorem dat_s {K : PySem.W.Frag} {H : Hp} {x : V} {z : Str} (D : DatV K H x (.str z)) : x = .str z := by cases D; rfl
/-- what tells something of any value, and may make objects -/
def spTellS (K : PySem.W.Frag) (f : PyData → Bool) : Sp := fun as H Q _ => ∃ (x : V) (d : PyData), as = [x] ∧ DatV K H x d ∧ Bd 1000 d ∧ ∀ H', Same H H' → Q (.bl (f d)) H'
def spTup (K : PySem.W.Frag) : Sp := fun as H Q _ => ∃ (n : Int) (x : V) (d : PyData), as = [.int n, x] ∧ DatV K H x d ∧ Q (.bl (tupN n d)) H
theorem small_str {z : Str} (h : Bd 1000 (.str z)) : z.length ≤ sizeLine := by
  simp only [Bd] at h
  exact Nat.le_of_lt (small1000 h)
section
variable {P : Program} {w : World} {K : PySem.W.Frag} {mg : Str → Option Value} {base : Heap}
theorem scIP : FnScope ["thing"] ["thing"] (defScope sIsPositive) := ⟨rfl, rfl, rfl, by decide +kernel, rfl, by decide +kernel, by decide +kernel⟩
theorem ok_isPositive {f fI : Addr} {fd dI : FuncData} (F : Fun K "is_positive" "is_positive" sIsPositive f fd) (GI : FnOk P w K mg base CX0 1 fI dI ["thing"] (spTells K isInt)) (FI : Fun K "is_integer" "is_integer" sIsInteger fI dI) (mI : mg "is_integer" = some (.ref fI)) (bI : Binds K dI ["thing"] []) :
    FnOk P w K mg base CX0 2 f fd ["thing"] (spTells K isPos) := by
  refine F.ok scIP (fun as H Q E h => ?_) (fun cdv A outer s H as Q E hr h => ?_)
  · obtain ⟨x, d, rfl, _⟩ := h
    rfl
  · obtain ⟨x, d, rfl, D, k⟩ := h
    refine ⟨_, pss_one (ps_ret (pe_and (pe_call GI hr rfl mI FI.kp bI .nil pass0 (pa_cons (pv 0) pa_nil)) (pe_one (pe_cmpR op_ge (pv 0) pe_int (nomark _))))), ?_⟩
    refine ⟨_, rfl, x, d, rfl, D, isInt d, rfl, ?_⟩
    refine ite2 (fun h => ?_) (fun h => ?_)
    · obtain ⟨i, rfl⟩ := isInt_int h
      cases dat_int D
      exact ⟨_, rfl, _, _, rfl, rfl, k⟩
    · have e : isPos d = false := by cases d <;> first | rfl | exact absurd rfl h
      rw [e] at k
      exact k
theorem scTO : FnScope ["many", "thing"] ["many", "thing"] (defScope sIsTupleOf) := ⟨rfl, rfl, rfl, by decide +kernel, rfl, by decide +kernel, by decide +kernel⟩
theorem ok_isTupleOf {f : Addr} {fd : FuncData} (F : Fun K "is_tuple_of" "is_tuple_of" sIsTupleOf f fd) (T : Nat0 mg) : FnOk P w K mg base CX0 1 f fd ["many", "thing"] (spTup K) := by
  refine F.ok scTO (fun as H Q E h => ?_) (fun cdv A outer s H as Q E hr h => ?_)
  · obtain ⟨n, x, d, rfl, _⟩ := h
    rfl
  · obtain ⟨n, x, d, rfl, D, k⟩ := h
    refine ⟨_, pss_one (ps_ret (pe_and (pe_callB (call_isD kit_T) (by rfl) T.isi (by decide +kernel) (pa_cons (pv 1) (pa_cons (pe_bltn (v := .ty "tuple") (by rfl) T.tuple (by decide +kernel) rfl) pa_nil)))
      (pe_one (pe_cmpR op_eq (pe_callB call_len_seq (by rfl) T.len PySem.boot_len (pa_cons (pv 1) pa_nil)) (pv 0) (nomark _))))), ?_⟩
    refine ⟨_, rfl, x, d, rfl, D, qT d, rfl, ?_⟩
    refine ite2 (fun h => ?_) (fun h => ?_)
    · obtain ⟨a, xs, ds, rfl, rfl, hT, hA⟩ := dat_tup D h
      refine ⟨_, rfl, a, xs, rfl, .inr hT, _, rfl, rfl, ?_⟩
      have e : tupN n (.tuple ds) = decide (V.int (xs.length : Int) = V.int n) := by
        rw [hA.len]
        show decide ((ds.length : Int) = n) = _
        by_cases z : (ds.length : Int) = n
        · rw [z, decide_eq_true rfl, decide_eq_true rfl]
        · rw [decide_eq_false z, decide_eq_false (fun y => z (by injection y))]
      rw [e] at k
      exact k
    · have e : tupN n d = false := by cases d <;> first | rfl | exact absurd rfl h
      rw [e] at k
      exact k
theorem scNa : FnScope ["thing", "sign"] ["thing"] (defScope sIsName) := ⟨rfl, rfl, rfl, by decide +kernel, rfl, by decide +kernel, by decide +kernel⟩
theorem ok_isName {f : Addr} {fd : FuncData} (F : Fun K "is_name" "is_name" sIsName f fd) (T : Nat0 mg) (gL : ∃ u, mg "_LETTERS" = some u ∧ RelV (.str letters) u) (gS : ∃ u, mg "_SIGNS" = some u ∧ RelV (.str signs) u) : FnOk P w K mg base CX0 1 f fd ["thing"] (spTellS K nameD) := by
  refine F.ok scNa (fun as H Q E h => ?_) (fun cdv A outer s H as Q E hr h => ?_)
  · obtain ⟨x, d, rfl, _⟩ := h
    rfl
  · obtain ⟨x, d, rfl, D, bd, k⟩ := h
    refine ⟨_, pss_cons (ps_if (PW.pt (pw_or (pt_not (pt_val (pe_callB (call_isD kit_S) (by rfl) T.isi (by decide +kernel) (pa_cons (pv 0) (pa_cons (pe_bltn (v := .ty "str") (by rfl) T.str (by decide +kernel) rfl) pa_nil)))))
        (pw_or (pt_cmpR op_eq (pv 0) pe_str (nomark _)) (pw_or1 (pt_cmpR op_gt (pe_callB call_len_str (by rfl) T.len PySem.boot_len (pa_cons (pv 0) pa_nil)) pe_int (nomark _)))))) (pss_one (ps_ret pe_bl)) pss_nil)
      (pss_one (ps_ret (pe_and (pe_cmpR op_in_sign (pe_ix ix_str (pv 0) pe_int (fun _ _ => rfl)) (C8.pe_gc (v := .str letters) (by rfl) gL) (by rfl))
        (pe_one (pe_callB (cr_all rfl) (by rfl) T.all (by decide +kernel) (pa_cons (pe_lc (own := [("sign", 1)]) (g := gName 1) (tt := tYes) rfl scNa.nd (pi_str (pv 0)) (blkOk_by (N := ["thing", "sign"]) (sc := defScope sIsName) (by decide +kernel))
          (fun _ _ _ _ _ => pg_name (i := 1) scNa.nd rfl (Or.inl rfl)) (fun _ _ _ _ _ => pts_nil) (fun _ _ _ _ _ => pe_cmpR op_in_sign (pv 1) (C8.pe_gc (v := .str signs) (by rfl) gS) (by rfl))) pa_nil)))))), ?_⟩
    refine ⟨_, rfl, x, d, rfl, D, qS d, rfl, ?_⟩
    refine ite2 (fun h => ?_) (fun h => ?_)
    · have e : nameD d = false := by cases d <;> first | rfl | exact absurd h Bool.false_ne_true
      rw [e] at k
      exact k H (Same.refl H)
    obtain ⟨z, rfl, rfl⟩ := dat_str D (by simpa using h)
    have zl := small_str bd
    have k' : ∀ H', Same H H' → Q (.bl (nmB z)) H' := k
    clear k h
    refine ⟨_, rfl, rfl, _, rfl, ?_⟩
    refine ite2 (fun h => ?_) (fun h => ?_)
    · have e : z = "" := by
        have := of_decide_eq_true h
        injection this
      rw [e] at k'
      exact k' H (Same.refl H)
    have ne : z ≠ "" := fun e => h (by rw [e]; rfl)
    refine ⟨_, rfl, z, rfl, zl, _, _, rfl, rfl, _, rfl, ?_⟩
    refine ite2 (fun h => ?_) (fun h => ?_)
    · have e : nmB z = false := by
        unfold nmB
        cases z.cps.toList with
        | nil => rfl
        | cons c r =>
          have := of_decide_eq_true h
          show (decide (z.length ≤ 20) && _) = false
          rw [decide_eq_false (by omega)]
          rfl
      rw [e] at k'
      exact k' H (Same.refl H)
    have l20 : z.length ≤ 20 := by
      have : ¬ (20 : Int) < (z.length : Int) := fun g => h (decide_eq_true g)
      omega
    obtain ⟨c, r, ec⟩ : ∃ c r, z.cps.toList = c :: r := by
      cases e : z.cps.toList with
      | nil => exact absurd (str_ext (by rw [e]; rfl)) ne
      | cons c r => exact ⟨c, r, rfl⟩
    have en : nmB z = (decide (c ∈ letters.cps.toList) && z.cps.toList.all fun c => decide (c ∈ signs.cps.toList)) := by
      unfold nmB
      rw [ec]
      show (decide (z.length ≤ 20) && _) = _
      rw [decide_eq_true l20, Bool.true_and]
    rw [en] at k'
    refine ⟨_, rfl, z, 0, c, rfl, rfl, zl, by rw [ec]; exact at0, c, letters, rfl, rfl, _, rfl, ?_⟩
    refine ite2 (fun h => ?_) (fun h => ?_)
    · rw [h, Bool.true_and] at k'
      refine ⟨_, rfl, z, rfl, fun D1 hD1 => ?_⟩
      refine lc_it (walk_str (z := z)) (fun i H' => H' D1 = some (.lst (((z.cps.toList.take i).map fun c => decide (c ∈ signs.cps.toList)).map V.bl)) ∧ Same H H') ?_ ?_ ?_ ?_
      · exact ⟨by rw [List.take_zero, upd_same]; rfl, same_new (Same.refl H) hD1⟩
      · exact fun _ _ _ _ => trivial
      · rintro i u H' H'' hi ⟨q1, M⟩ ⟨rfl, c', hc, rfl⟩
        have hc' : z.cps.toList[i]? = some c' := by rw [Array.getElem?_toList]; exact hc
        have hi' : i < z.length := hi
        refine ⟨rfl, _, rfl, c', signs, rfl, rfl, _, q1, ?_, ?_, same_put M hD1⟩
        · rw [List.length_map, List.length_map, List.length_take]
          exact small1000 (by omega)
        · rw [upd_same, List.take_succ, hc']
          simp
      · rintro H' ⟨q1, M⟩
        rw [List.take_of_length_le (by rw [Array.length_toList]; exact Nat.le_refl _)] at q1
        refine ⟨D1, _, rfl, SqL.of q1, ?_⟩
        have ea : ((z.cps.toList.map fun c => decide (c ∈ signs.cps.toList)).all id) = z.cps.toList.all fun c => decide (c ∈ signs.cps.toList) := by rw [List.all_map]; rfl
        rw [ea]
        exact k' H' M
    · rw [Bool.eq_false_iff.mpr h] at k'
      exact k' H (Same.refl H)
theorem tup3 {ds : List PyData} {K : PySem.W.Frag} {H : Hp} {xs : List V} (h : DatA K H xs ds) (e : ds.length = 3) : ∃ x y z a b c, xs = [x, y, z] ∧ ds = [a, b, c] ∧ DatV K H x a ∧ DatV K H y b ∧ DatV K H z c := by
  cases h with
  | nil => cases e
  | cons h1 t => cases t with
    | nil => cases e
    | cons h2 t => cases t with
      | nil => cases e
      | cons h3 t => cases t with
        | nil => exact ⟨_, _, _, _, _, _, rfl, rfl, h1, h2, h3⟩
        | cons _ _ => simp at e
theorem tup4 {ds : List PyData} {K : PySem.W.Frag} {H : Hp} {xs : List V} (h : DatA K H xs ds) (e : ds.length = 4) : ∃ x y z u a b c d, xs = [x, y, z, u] ∧ ds = [a, b, c, d] ∧ DatV K H x a ∧ DatV K H y b ∧ DatV K H z c ∧ DatV K H u d := by
  cases h with
  | nil => cases e
  | cons h1 t =>
    obtain ⟨x, y, z, a, b, c, rfl, rfl, h2, h3, h4⟩ := tup3 t (Nat.succ.inj e)
    exact ⟨_, _, _, _, _, _, _, _, rfl, rfl, h1, h2, h3, h4⟩
theorem cable_not {d : PyData} (h : tupN 3 d = false) : cableD d = false := by
  cases d with
  | tuple ds =>
    unfold cableD
    split
    · rename_i e
      injection e with e
      rw [e] at h
      cases h
    · rfl
  | _ => rfl
theorem car_not {d : PyData} (h : tupN 4 d = false) : carT d = false := by
  cases d with
  | tuple ds =>
    unfold carT
    split
    · rename_i e
      injection e with e
      rw [e] at h
      cases h
    · rfl
  | _ => rfl
theorem tupN_get {d : PyData} {n : Nat} (h : tupN n d = true) : ∃ ds, d = .tuple ds ∧ ds.length = n := by
  cases d with
  | tuple ds =>
    have h' := of_decide_eq_true (show decide ((ds.length : Int) = (n : Int)) = true from h)
    exact ⟨ds, rfl, by omega⟩
  | _ => cases h
theorem dat_tupT {K : PySem.W.Frag} {H : Hp} {x : V} {ds : List PyData} (D : DatV K H x (.tuple ds)) : ∃ a xs, x = .ref a ∧ SqT K H a xs ∧ DatA K H xs ds := by
  cases D with
  | tup h1 h2 => exact ⟨_, _, rfl, h1, h2⟩
theorem bd_in {ds : List PyData} {d : PyData} (h : Bd 1000 (.tuple ds)) (m : d ∈ ds) : Bd 1000 d := by
  simp only [Bd] at h
  exact bdA_iff.mp h.2 d m
theorem scCb : FnScope ["thing", "start", "end", "cap"] ["thing"] (defScope sIsCable) := ⟨rfl, rfl, rfl, by decide +kernel, rfl, by decide +kernel, by decide +kernel⟩
theorem neS {a b : Str} : (!decide (V.str a = V.str b)) = !decide (a = b) := by
  by_cases h : a = b
  · rw [h, decide_eq_true rfl, decide_eq_true rfl]
  · rw [decide_eq_false h, decide_eq_false (fun z => h (by injection z))]
theorem ok_isCable {f fU fN fC : Addr} {fd dU dN dC : FuncData} (F : Fun K "is_cable" "is_cable" sIsCable f fd) (GU : FnOk P w K mg base CX0 1 fU dU ["many", "thing"] (spTup K)) (FU : Fun K "is_tuple_of" "is_tuple_of" sIsTupleOf fU dU) (mU : mg "is_tuple_of" = some (.ref fU)) (bU : Binds K dU ["many", "thing"] [])
    (GN : FnOk P w K mg base CX0 1 fN dN ["thing"] (spTellS K nameD)) (FN : Fun K "is_name" "is_name" sIsName fN dN) (mN : mg "is_name" = some (.ref fN)) (bN : Binds K dN ["thing"] [])
    (GC : FnOk P w K mg base CX0 2 fC dC ["thing"] (spTells K isCnt)) (FC : Fun K "is_count" "is_count" sIsCount fC dC) (mC : mg "is_count" = some (.ref fC)) (bC : Binds K dC ["thing"] []) : FnOk P w K mg base CX0 3 f fd ["thing"] (spTellS K cableD) := by
  refine F.ok scCb (fun as H Q E h => ?_) (fun cdv A outer s H as Q E hr h => ?_)
  · obtain ⟨x, d, rfl, _⟩ := h
    rfl
  · obtain ⟨x, d, rfl, D, bd, k⟩ := h
    have hr1 : Room 1 _ := hr.mono (by decide)
    refine ⟨_, pss_cons (ps_if (pt_not (pt_val (pe_call GU hr1 rfl mU FU.kp bU .nil pass0 (pa_cons pe_int (pa_cons (pv 0) pa_nil))))) (pss_one (ps_ret pe_bl)) pss_nil)
      (pss_cons (ps_asg (pv 0) (pg_tup (by rfl) (pgs_cons (pg_name (i := 1) scCb.nd rfl (.inl rfl)) (pgs_cons (pg_name (i := 2) scCb.nd rfl (.inl rfl)) (pgs_cons (pg_name (i := 3) scCb.nd rfl (.inl rfl)) pgs_nil)))))
      (pss_one (ps_ret (pe_and (pe_call GN hr1 rfl mN FN.kp bN .nil pass0 (pa_cons (pv 1) pa_nil)) (pe_and (pe_call GN hr1 rfl mN FN.kp bN .nil pass0 (pa_cons (pv 2) pa_nil)) (pe_and (pe_cmpR op_ne (pv 1) (pv 2) (nomark _)) (pe_and (pe_cmpR op_ne (pv 2) pe_str (nomark _))
        (pe_one (pe_call GC hr rfl mC FC.kp bC .nil pass0 (pa_cons (pv 3) pa_nil)))))))))), ?_⟩
    refine ⟨_, rfl, 3, x, d, rfl, D, _, rfl, ?_⟩
    refine ite2 (fun h => ?_) (fun h => ?_)
    · have e : cableD d = false := cable_not (by simpa using h)
      rw [e] at k
      exact k H (Same.refl H)
    obtain ⟨ds, rfl, l3⟩ := tupN_get (d := d) (n := 3) (by simpa using h)
    obtain ⟨a, xs, rfl, hT, hA⟩ := dat_tupT D
    obtain ⟨x1, x2, x3, d1, d2, d3, rfl, rfl, D1, D2, D3⟩ := tup3 hA l3
    have k' : ∀ H', Same H H' → Q (.bl (nameD d1 && (nameD d2 && (!decide (strOf d1 = strOf d2) && (!decide (strOf d2 = feed) && isCnt d3))))) H' := k
    clear k h
    refine ⟨_, rfl, a, _, rfl, hT, rfl, _, _, rfl, _, _, rfl, _, _, rfl, rfl, ?_⟩
    refine ⟨_, rfl, x1, d1, rfl, D1, bd_in bd (.head _), fun H1 M1 => ⟨nameD d1, rfl, ?_⟩⟩
    refine ite2 (fun h1 => ?_) (fun h1 => ?_)
    · obtain ⟨s1, rfl⟩ := name_str h1
      cases dat_s D1
      refine ⟨_, rfl, x2, d2, rfl, D2.more M1, bd_in bd (.tail _ (.head _)), fun H2 M2 => ⟨nameD d2, rfl, ?_⟩⟩
      refine ite2 (fun h2 => ?_) (fun h2 => ?_)
      · obtain ⟨s2, rfl⟩ := name_str h2
        cases dat_s D2
        refine ⟨_, rfl, _, rfl, rfl, _, rfl, ?_⟩
        rw [h1, h2, Bool.true_and, Bool.true_and] at k'
        refine ite2 (fun h3 => ?_) (fun h3 => ?_)
        · refine ⟨_, rfl, rfl, _, rfl, ?_⟩
          rw [neS] at h3
          rw [show (!decide (strOf (.str s1) = strOf (.str s2))) = true from h3, Bool.true_and] at k'
          refine ite2 (fun h4 => ?_) (fun h4 => ?_)
          · rw [neS] at h4
            rw [show (!decide (strOf (.str s2) = feed)) = true from h4, Bool.true_and] at k'
            exact ⟨_, rfl, x3, d3, rfl, (D3.more M1).more M2, k' H2 (M1.trans M2)⟩
          · rw [neS] at h4
            rw [show (!decide (strOf (.str s2) = feed)) = false from Bool.eq_false_iff.mpr h4] at k'
            exact k' H2 (M1.trans M2)
        · rw [neS] at h3
          rw [show (!decide (strOf (.str s1) = strOf (.str s2))) = false from Bool.eq_false_iff.mpr h3] at k'
          exact k' H2 (M1.trans M2)
      · rw [Bool.eq_false_iff.mpr h2, Bool.false_and, Bool.and_false] at k'
        exact k' H2 (M1.trans M2)
    · rw [Bool.eq_false_iff.mpr h1, Bool.false_and] at k'
      exact k' H1 M1
theorem scCr : FnScope ["thing", "name", "knot", "rate", "need"] ["thing"] (defScope sIsCar) := ⟨rfl, rfl, rfl, by decide +kernel, rfl, by decide +kernel, by decide +kernel⟩
theorem ok_isCar {f fU fN fC fP : Addr} {fd dU dN dC dP : FuncData} (F : Fun K "is_car" "is_car" sIsCar f fd) (GU : FnOk P w K mg base CX0 1 fU dU ["many", "thing"] (spTup K)) (FU : Fun K "is_tuple_of" "is_tuple_of" sIsTupleOf fU dU) (mU : mg "is_tuple_of" = some (.ref fU)) (bU : Binds K dU ["many", "thing"] [])
    (GN : FnOk P w K mg base CX0 1 fN dN ["thing"] (spTellS K nameD)) (FN : Fun K "is_name" "is_name" sIsName fN dN) (mN : mg "is_name" = some (.ref fN)) (bN : Binds K dN ["thing"] [])
    (GC : FnOk P w K mg base CX0 2 fC dC ["thing"] (spTells K isCnt)) (FC : Fun K "is_count" "is_count" sIsCount fC dC) (mC : mg "is_count" = some (.ref fC)) (bC : Binds K dC ["thing"] [])
    (GP : FnOk P w K mg base CX0 2 fP dP ["thing"] (spTells K isPos)) (FP : Fun K "is_positive" "is_positive" sIsPositive fP dP) (mP : mg "is_positive" = some (.ref fP)) (bP : Binds K dP ["thing"] []) : FnOk P w K mg base CX0 3 f fd ["thing"] (spTellS K carT) := by
  refine F.ok scCr (fun as H Q E h => ?_) (fun cdv A outer s H as Q E hr h => ?_)
  · obtain ⟨x, d, rfl, _⟩ := h
    rfl
  · obtain ⟨x, d, rfl, D, bd, k⟩ := h
    have hr1 : Room 1 _ := hr.mono (by decide)
    refine ⟨_, pss_cons (ps_if (pt_not (pt_val (pe_call GU hr1 rfl mU FU.kp bU .nil pass0 (pa_cons pe_int (pa_cons (pv 0) pa_nil))))) (pss_one (ps_ret pe_bl)) pss_nil)
      (pss_cons (ps_asg (pv 0) (pg_tup (by rfl) (pgs_cons (pg_name (i := 1) scCr.nd rfl (.inl rfl)) (pgs_cons (pg_name (i := 2) scCr.nd rfl (.inl rfl)) (pgs_cons (pg_name (i := 3) scCr.nd rfl (.inl rfl)) (pgs_cons (pg_name (i := 4) scCr.nd rfl (.inl rfl)) pgs_nil))))))
      (pss_one (ps_ret (pe_and (pe_call GN hr1 rfl mN FN.kp bN .nil pass0 (pa_cons (pv 1) pa_nil)) (pe_and (pe_call GN hr1 rfl mN FN.kp bN .nil pass0 (pa_cons (pv 2) pa_nil)) (pe_and (pe_call GP hr rfl mP FP.kp bP .nil pass0 (pa_cons (pv 3) pa_nil))
        (pe_one (pe_call GC hr rfl mC FC.kp bC .nil pass0 (pa_cons (pv 4) pa_nil))))))))), ?_⟩
    refine ⟨_, rfl, 4, x, d, rfl, D, _, rfl, ?_⟩
    refine ite2 (fun h => ?_) (fun h => ?_)
    · have e : carT d = false := car_not (by simpa using h)
      rw [e] at k
      exact k H (Same.refl H)
    obtain ⟨ds, rfl, l3⟩ := tupN_get (d := d) (n := 4) (by simpa using h)
    obtain ⟨a, xs, rfl, hT, hA⟩ := dat_tupT D
    obtain ⟨x1, x2, x3, x4, d1, d2, d3, d4, rfl, rfl, D1, D2, D3, D4⟩ := tup4 hA l3
    have k' : ∀ H', Same H H' → Q (.bl (nameD d1 && (nameD d2 && (isPos d3 && isCnt d4)))) H' := k
    clear k h
    refine ⟨_, rfl, a, _, rfl, hT, rfl, _, _, rfl, _, _, rfl, _, _, rfl, _, _, rfl, rfl, ?_⟩
    refine ⟨_, rfl, x1, d1, rfl, D1, bd_in bd (.head _), fun H1 M1 => ⟨nameD d1, rfl, ?_⟩⟩
    refine ite2 (fun h1 => ?_) (fun h1 => ?_)
    · refine ⟨_, rfl, x2, d2, rfl, D2.more M1, bd_in bd (.tail _ (.head _)), fun H2 M2 => ⟨nameD d2, rfl, ?_⟩⟩
      refine ite2 (fun h2 => ?_) (fun h2 => ?_)
      · rw [h1, h2, Bool.true_and, Bool.true_and] at k'
        refine ⟨_, rfl, x3, d3, rfl, (D3.more M1).more M2, isPos d3, rfl, ?_⟩
        refine ite2 (fun h3 => ?_) (fun h3 => ?_)
        · rw [h3, Bool.true_and] at k'
          exact ⟨_, rfl, x4, d4, rfl, (D4.more M1).more M2, k' H2 (M1.trans M2)⟩
        · rw [Bool.eq_false_iff.mpr h3, Bool.false_and] at k'
          exact k' H2 (M1.trans M2)
      · rw [Bool.eq_false_iff.mpr h2, Bool.false_and, Bool.and_false] at k'
        exact k' H2 (M1.trans M2)
    · rw [Bool.eq_false_iff.mpr h1, Bool.false_and] at k'
      exact k' H1 M1
end
end Y

/-! OS: edits among any values; the law's own reading of all these. -/
namespace Ns
open PySem PySem.Spec PyProof.Rows L2
/-- t == (), any tuple -/
def rEq0 (K : PySem.W.Frag) : R2 := fun x y H Q => ∃ (a b : Addr) (xs : List V), x = .ref a ∧ y = .ref b ∧ SqT K H a xs ∧ SqT K H b [] ∧ Q (.bl (decide (xs = []))) H
theorem op_eq0 {X : Cx} (hu : X.A.units + 64 < cLine) : OpR X (compareOp .Eq) (rEq0 X.K) := by
  intro pins s σ H x y v u Q I rx ry h
  obtain ⟨a, b, xs, rfl, rfl, ha, hb, q⟩ := h
  cases (show v = Value.ref a from rx)
  cases (show u = Value.ref b from ry)
  obtain ⟨us, r1, ⟨o1, h1, h2, n1, h3⟩, _⟩ := I.tuple ha
  obtain ⟨ws, r2, ⟨o2, g1, g2, n2, g3⟩, _⟩ := I.tuple hb
  have z : ws = [] := by cases r2; rfl
  subst z
  refine SeqAt.RcAt.tuples (e := fun _ => true) ⟨o1, h1, h2, n1, h3⟩ ⟨o2, g1, g2, n2, g3⟩ (by omega) (fun j _ j2 => absurd j2 (Nat.not_lt_zero j)) _ _ _ _ ?_
  have e : ((List.range (min us.toArray.size ([] : List Value).toArray.size)).all (fun _ => true) && us.toArray.size == ([] : List Value).toArray.size) = decide (xs = []) := by
    have l1 := r1.length
    cases xs with
    | nil => cases us with
      | nil => rfl
      | cons _ _ => cases l1
    | cons _ _ => cases us with
      | nil => cases l1
      | cons _ _ => simp
  exact ⟨.bl (decide (xs = [])), H, I, congrArg Value.bool e, q⟩
end Ns
namespace Y
open PySem PySem.Spec PyProof.Rows L2 Ns
theorem cut_tail (x : V) (xs : List V) : cutV (x :: xs) (some (1 : Int)) none = xs := by
  rw [show (1 : Int) = ((1 : Nat) : Int) from rfl, cut_from]
  rfl
theorem bd_tail {d : PyData} {ds : List PyData} (h : Bd 1000 (.tuple (d :: ds))) : Bd 1000 (.tuple ds) := by
  simp only [Bd, BdA] at h ⊢
  exact ⟨by have := h.1; rw [List.length_cons] at this; omega, h.2.2⟩
theorem bd_more {d : PyData} {ds : List PyData} (h : Bd 1000 (.tuple (d :: ds))) : Bd 1000 (.tuple (ds ++ [.int 0])) := by
  simp only [Bd, BdA] at h ⊢
  refine ⟨by have := h.1; rw [List.length_cons] at this; rw [List.length_append]; exact this, bdA_iff.mpr fun u hu => ?_⟩
  rcases List.mem_append.mp hu with z | z
  · exact bdA_iff.mp h.2.2 u z
  · rw [List.mem_singleton.mp z]
    simp only [Bd]
    decide +kernel
theorem text_eq {z : Str} {d : PyData} (h : isText z d = true) : d = .str z := by
  cases d with
  | str y => rw [of_decide_eq_true (show decide (y = z) = true from h)]
  | _ => cases h
section
variable {P : Program} {w : World} {K : PySem.W.Frag} {mg : Str → Option Value} {base : Heap}
-- the law's
theorem scLN : FnScope ["thing", "letters", "signs", "sign"] ["thing"] (defScope sLIsName) := ⟨rfl, rfl, rfl, by decide +kernel, rfl, by decide +kernel, by decide +kernel⟩
theorem ok_lName {f : Addr} {fd : FuncData} (F : Fun K "_law_is_name" "_law_is_name" sLIsName f fd) (T : Nat0 mg) : FnOk P w K mg base CX0 1 f fd ["thing"] (spTellS K nameD) := by
  refine F.ok scLN (fun as H Q E h => ?_) (fun cdv A outer s H as Q E hr h => ?_)
  · obtain ⟨x, d, rfl, _⟩ := h
    rfl
  · obtain ⟨x, d, rfl, D, bd, k⟩ := h
    refine ⟨_, pss_cons (ps_asg (pe_tup (pa_cons pe_str (pa_cons pe_str pa_nil))) (pg_tup (by rfl) (pgs_cons (pg_name (i := 1) scLN.nd rfl (.inl rfl)) (pgs_cons (pg_name (i := 2) scLN.nd rfl (.inr rfl)) pgs_nil))))
      (pss_cons (ps_if (PW.pt (pw_or (pt_not (pt_val (pe_callB (call_isD kit_S) (by rfl) T.isi (by decide +kernel) (pa_cons (pv 0) (pa_cons (pe_bltn (v := .ty "str") (by rfl) T.str (by decide +kernel) rfl) pa_nil)))))
          (pw_or (pt_not (pt_chain op_le op_le pe_int (pe_callB call_len_str (by rfl) T.len PySem.boot_len (pa_cons (pv 0) pa_nil)) pe_int)) (pw_or1 (pt_cmpR op_notInS (pe_ix ix_str (pv 0) pe_int (fun _ _ => rfl)) (pv 1) (by rfl)))))) (pss_one (ps_ret pe_bl)) pss_nil)
      (pss_one (ps_ret (pe_cmpR (op_eqE hr.units) (pe_lc (own := [("sign", 3)]) (g := gName 3) (tt := tTest (tOp _ (tVar 3) (tVar 2))) rfl scLN.nd (pi_str (pv 0)) (blkOk_by (N := ["thing", "letters", "signs", "sign"]) (sc := defScope sLIsName) (by decide +kernel))
        (fun _ _ _ _ _ => pg_name (i := 3) scLN.nd rfl (Or.inl rfl)) (fun _ _ _ _ _ => by exact pts_one (pt_cmpR op_notInS (pv 3) (pv 2) (by rfl))) (fun _ _ _ _ _ => pv 3)) (pe_lst pa_nil) (nomark _))))), ?_⟩
    refine ⟨by show 2 ≤ sizeLine; decide, fun t ht => ⟨t, _, rfl, SqT.of upd_same, rfl, _, _, rfl, _, _, rfl, rfl, ?_⟩⟩
    have M1 := same_new (o := .tup [.str letters, .str signs]) (Same.refl H) ht
    have D1 := D.more M1
    have k1 : ∀ H', Same (upd H t (.tup [.str letters, .str signs])) H' → Q (.bl (nameD d)) H' := fun H' M => k H' (M1.trans M)
    clear k D
    generalize upd H t (.tup [.str letters, .str signs]) = H1 at k1 D1 ⊢
    refine ⟨_, rfl, x, d, rfl, D1, qS d, rfl, ?_⟩
    refine ite2 (fun h => ?_) (fun h => ?_)
    · have e : nameD d = false := by cases d <;> first | rfl | exact absurd h Bool.false_ne_true
      rw [e] at k1
      exact k1 H1 (Same.refl H1)
    obtain ⟨z, rfl, rfl⟩ := dat_str D1 (by simpa using h)
    have zl := small_str bd
    have k' : ∀ H', Same H1 H' → Q (.bl (nmB z)) H' := k1
    clear k1 h
    have long : ¬ (1 ≤ z.length ∧ z.length ≤ 20) → nmB z = false := fun n => by
      unfold nmB
      cases e : z.cps.toList with
      | nil => rfl
      | cons c r =>
        have lz : z.length = r.length + 1 := by rw [← len_cps, e, List.length_cons]
        show (decide (z.length ≤ 20) && _) = false
        rw [decide_eq_false (by omega)]
        rfl
    refine ⟨_, rfl, z, rfl, zl, _, _, rfl, rfl, _, rfl, ?_⟩
    have cont : 1 ≤ z.length → z.length ≤ 20 → ∃ c r, z.cps.toList = c :: r ∧ nmB z = (decide (c ∈ letters.cps.toList) && z.cps.toList.all fun c => decide (c ∈ signs.cps.toList)) := fun h1 h2 => by
      unfold nmB
      cases e : z.cps.toList with
      | nil =>
        have := len_cps z
        rw [e] at this
        simp at this
        omega
      | cons c r =>
        refine ⟨c, r, rfl, ?_⟩
        show (decide (z.length ≤ 20) && _) = _
        rw [decide_eq_true h2, Bool.true_and]
    refine ite2 (fun g1 => ?_) (fun g1 => ?_)
    · have h1 : 1 ≤ z.length := by
        have := of_decide_eq_true g1
        omega
      refine ⟨_, _, rfl, rfl, _, rfl, ?_⟩
      refine ite2 (fun h => ?_) (fun h => ?_)
      · have e : nmB z = false := long fun y => by
          have g2 : ¬ ((z.length : Int) ≤ 20) := by simpa using h
          omega
        rw [e] at k'
        exact k' H1 (Same.refl H1)
      · have h2 : z.length ≤ 20 := by
          have g2 : ((z.length : Int) ≤ 20) := by simpa using h
          omega
        obtain ⟨c, r, ec, en⟩ := cont h1 h2
        rw [en] at k'
        refine ⟨_, rfl, z, 0, c, rfl, rfl, zl, by rw [ec]; exact at0, _, rfl, c, letters, rfl, rfl, _, rfl, ?_⟩
        refine ite2 (fun h => ?_) (fun h => ?_)
        · rw [show decide (c ∈ letters.cps.toList) = false by simpa using h, Bool.false_and] at k'
          exact k' H1 (Same.refl H1)
        rw [show decide (c ∈ letters.cps.toList) = true by simpa using h, Bool.true_and] at k'
        refine ⟨_, rfl, z, rfl, fun Dd hDd => ?_⟩
        refine lc_it (walk_str (z := z)) (fun i H' => H' Dd = some (.lst (((z.cps.toList.take i).filter fun c => !decide (c ∈ signs.cps.toList)).map fun c => V.str ⟨#[c]⟩)) ∧ Same H1 H') ?_ ?_ ?_ ?_
        · exact ⟨by rw [List.take_zero, upd_same]; rfl, same_new (Same.refl H1) hDd⟩
        · exact fun _ _ _ _ => trivial
        · rintro i u H' H'' hi ⟨q1, M⟩ ⟨rfl, c', hc, rfl⟩
          have hc' : z.cps.toList[i]? = some c' := by rw [Array.getElem?_toList]; exact hc
          have hi' : i < z.length := hi
          refine ⟨rfl, _, rfl, _, rfl, c', signs, rfl, rfl, _, rfl, ?_⟩
          refine ite2 (fun g => ?_) (fun g => ?_)
          · refine ⟨_, rfl, _, q1, ?_, ?_, same_put M hDd⟩
            · rw [List.length_map]
              refine Nat.lt_of_le_of_lt (List.length_filter_le _ _) ?_
              rw [List.length_take]
              exact small1000 (by omega)
            · rw [upd_same, List.take_succ, hc']
              show some (HO.lst _) = some (HO.lst (((z.cps.toList.take i ++ [c']).filter _).map _))
              rw [List.filter_append, List.map_append, List.filter_cons, if_pos g]
              rfl
          · refine ⟨?_, M⟩
            rw [q1, List.take_succ, hc']
            show some (HO.lst _) = some (HO.lst (((z.cps.toList.take i ++ [c']).filter _).map _))
            rw [List.filter_append, List.filter_cons, if_neg g, List.filter_nil, List.append_nil]
        · rintro H' ⟨q1, M⟩
          rw [List.take_of_length_le (by rw [Array.length_toList]; exact Nat.le_refl _)] at q1
          refine ⟨by show 0 ≤ sizeLine; decide, fun e he => ⟨Dd, e, _, rfl, rfl, SqL.of (s3u he q1), SqL.of upd_same, ?_⟩⟩
          have ea : decide (((z.cps.toList.filter fun c => !decide (c ∈ signs.cps.toList)).map fun c => V.str ⟨#[c]⟩) = []) = z.cps.toList.all fun c => decide (c ∈ signs.cps.toList) := by
            rw [Bool.eq_iff_iff, decide_eq_true_eq, List.map_eq_nil_iff, List.filter_eq_nil_iff, List.all_eq_true]
            constructor
            · intro g j hj
              have := g j hj
              simpa using this
            · intro g j hj
              have := g j hj
              simpa using this
          rw [ea]
          exact k' _ (same_new M he)
    · have e : nmB z = false := long fun y => g1 (decide_eq_true (by omega))
      rw [e] at k'
      refine ⟨_, rfl, ?_⟩
      exact ite2 (fun _ => k' H1 (Same.refl H1)) (fun h => absurd rfl h)
end
end Y

/-! NsZ: set(xs) of texts, and sorted of it. -/
namespace Ns
open PySem PySem.Spec PyProof.Rows L2
open PySem.Froz (SD sObj tailTx addTx TxOk)
/-- the set at a holds the texts l, once each, and can be walked -/
def SetX (P : Program) (w : World) (h : Heap) (a : Addr) (l : List Str) : Prop :=
  ∃ D : SD, h.get? a = some (sObj "set" D) ∧ TxOk P w D l ∧ l.Nodup ∧ Ris D.2.2.place.toList ∧ (w.params.followText "set-order" = true ∨ D.2.2.led = true)
theorem ris_tail {ep : Nat} {es : Array (Int × Value)} {t : SetTable} {b : Bool} (r : Ris t.place.toList) : Ris (tailTx ep es t b).2.2.place.toList ∧ (tailTx ep es t b).2.2.led = t.led := by
  unfold tailTx
  split
  · exact ⟨relayAll_ris _ _ _, relayAll_led _ _ _⟩
  · exact ⟨r, rfl⟩
theorem ris_add {h : Int} {v : Value} {D : SD} (r : Ris D.2.2.place.toList) : Ris (addTx h v D).2.2.place.toList ∧ (addTx h v D).2.2.led = D.2.2.led := by
  have r1 := layNew_ris D.2.2 D.1 h v r
  have l1 := layNew_led D.2.2 D.1 h v
  unfold addTx
  split
  · obtain ⟨g1, g2⟩ := ris_tail (ep := D.2.1) (es := (layNew D.2.2 D.1 h v).1) (t := { (layNew D.2.2 D.1 h v).2.1 with plain := false }) (b := (layNew D.2.2 D.1 h v).2.2.1) r1
    exact ⟨g1, g2.trans l1⟩
  · obtain ⟨g1, g2⟩ := ris_tail (ep := D.2.1) (es := (layNew D.2.2 D.1 h v).1) (t := (layNew D.2.2 D.1 h v).2.1) (b := (layNew D.2.2 D.1 h v).2.2.1) r1
    exact ⟨g1, g2.trans l1⟩
section
variable {P : Program} {w : World} {A : Around} {E : Value → Shared → Prop} {s : Shared}
theorem SetX.keep {h h' : Heap} {a : Addr} {l : List Str} (X : SetX P w h a l) (k : ∀ o, h.get? a = some o → h'.get? a = some o) : SetX P w h' a l := by
  obtain ⟨D, hD, r⟩ := X
  exact ⟨D, k _ hD, r⟩
/-- a text that is there: nothing changes -/
theorem add_there {a : Addr} {l : List Str} {k : Str} {u : Tok} {D : SD} {Q : Bool → Shared → Prop} (ho : s.heap.get? a = some (sObj "set" D)) (F : TxOk P w D l) (hk : k ∈ l) (hb : l.length < scanBound) (q : Q false s) :
    wpAny (model P w) A (setAddHashed a (.str k u) (hashStr w k)) Q E s := by
  have isk : (strKind P w).is k (.str k u) = true := PySem.Froz.is_str k u
  have small : D.1.size < scanBound := by rw [F.sz]; exact hb
  obtain ⟨j, hj⟩ : ∃ j, List.findIdx? (fun e => (strKind P w).is k e.2) D.1.toList = some j := by
    cases e : List.findIdx? (fun e => (strKind P w).is k e.2) D.1.toList with
    | some j => exact ⟨j, rfl⟩
    | none =>
      obtain ⟨x, hx, hy⟩ := (F.mem k).mp hk
      have := List.findIdx?_eq_none_iff.mp e x hx
      rw [hy] at this
      cases this
  unfold setAddHashed setAddHashedIn
  refine wpAny_holding (wpAny_bind (wpAny_setState_of ho rfl F.fit ?_))
  dsimp only
  rw [byScan_of (knd := strKind P w) rfl small F.el]
  simp only [↓reduceIte]
  unfold setAddByScan
  refine wpAny_bind (wpAny_bind (wpAny_rule (wpAny_bind (wpAny_setScan_of (knd := strKind P w) (k := k) isk ho rfl F.fit F.el ?_))))
  rw [hj]
  exact wpAny_pure (wpAny_pure q)
/-- one more text -/
theorem setX_add {a : Addr} {l : List Str} {k : Str} {u : Tok} {Q : Bool → Shared → Prop} (X : SetX P w s.heap a l) (hb : l.length + 1 < scanBound)
    (q : ∀ (b : Bool) (h' : Heap) (l' : List Str), SetX P w h' a l' → (∀ m, m ∈ l' ↔ m ∈ l ∨ m = k) → l'.length ≤ l.length + 1 → (∀ c o, c ≠ a → s.heap.get? c = some o → h'.get? c = some o) → Q b { s with heap := h' }) :
    wpAny (model P w) A (setAddHashed a (.str k u) (hashStr w k)) Q E s := by
  obtain ⟨D, hD, F, n, r, led⟩ := id X
  by_cases hk : k ∈ l
  · exact add_there hD F hk (by omega) (q false s.heap l X (fun m => ⟨.inl, fun z => z.elim id fun e => e ▸ hk⟩) (Nat.le_succ _) fun c o _ e => e)
  · refine PySem.Froz.add_x hD F hk hb (q true _ (k :: l) ⟨_, PySem.Froz.get_upd _ hD rfl, PySem.Froz.add_ok u F, List.nodup_cons.mpr ⟨hk, n⟩, (ris_add r).1, led.imp id fun z => (ris_add r).2.trans z⟩ (fun m => ?_) (Nat.le_refl _) fun c o nc e => ?_)
    · rw [List.mem_cons]
      exact Or.comm
    · exact (Heap.get?_update_other _ _ (Ne.symm nc)).trans e
/-- a row of texts goes into the set -/
theorem set_fill {I L S : Addr} {xs : List Str} {items : Array Value} (hh : A.in1.handled = none) (hL : L ≠ I) (hS : S ≠ I) (hSL : S ≠ L) (rel : Vals (xs.map V.str) items.toList) (room : items.size + 1 < scanBound) {R : Result → Shared → Prop} :
    ∀ (k i : Nat) (s : Shared) (l : List Str), items.size - i = k → i ≤ items.size → s.heap.IsListIter I L i → s.heap.IsList L items → SetX P w s.heap S l → l.length ≤ i → (∀ m, m ∈ l ↔ m ∈ xs.take i) →
      (∀ s' l', (∀ c o, c ≠ S → c ≠ I → s.heap.get? c = some o → s'.heap.get? c = some o) → s'.gens = s.gens → s'.drawn = s.drawn → s'.os = s.os → SetX P w s'.heap S l' → (∀ m, m ∈ l' ↔ m ∈ xs) → R (.ok (.ret .none)) s') →
      codeAny (model P w) A (.builtin "set.update.loop" ⟨[.ref S, .ref I], []⟩) R s := by
  have W := Walks.list (prog := P) (w := w) (A := A.in1) hh I L hL items
  have lx : xs.length = items.size := by
    have := rel.length
    rw [List.length_map, Array.length_toList] at this
    exact this
  intro k
  induction k with
  | zero =>
    intro i s l hk hi i1 i2 X hl hm q
    have e : i = items.size := by omega
    rw [e] at hm i1
    refine codeAny_builtin F.entry_set_update_loop ?_
    rw [Around.under_plainId F.plain_set_update_loop _]
    refine wpAny_bind (W.done s _ _ ⟨i1, i2⟩ fun h' tk kp => ?_)
    rw [← lx, List.take_length] at hm
    exact wpAny_pure (q _ l (fun c o _ n2 e => kp c o (by rw [List.mem_singleton]; exact n2) e) rfl rfl rfl (X.keep fun o => kp S o (by rw [List.mem_singleton]; exact hS)) hm)
  | succ k ih =>
    intro i s l hk hi i1 i2 X hl hm q
    have lt : i < items.size := by omega
    refine codeAny_builtin F.entry_set_update_loop ?_
    rw [Around.under_plainId F.plain_set_update_loop _]
    refine wpAny_bind (W.item i s _ _ lt ⟨i1, i2⟩ fun v h' tk hv st kp => ?_)
    obtain ⟨x, hx, rx⟩ : ∃ x, xs[i]? = some x ∧ RelV (.str x) v := by
      have hx : xs[i]? = some xs[i] := List.getElem?_eq_getElem (by omega)
      obtain ⟨u, hu, ru⟩ := rel.get (i := i) (x := .str xs[i]) (by rw [List.getElem?_map, hx]; rfl)
      rw [Array.getElem?_toList] at hu
      rw [hv] at hu
      cases hu
      exact ⟨_, hx, ru⟩
    obtain ⟨t, rfl⟩ := rx
    refine wpAny_bind (wpAny_holding ?_)
    unfold setAdd
    refine wpAny_holding (wpAny_bind ((strKind P w).pyHash (PySem.Froz.is_str x t) ?_))
    have X1 : SetX P w h' S l := X.keep fun o => kp S o (by rw [List.mem_singleton]; exact hS)
    refine setX_add X1 (by omega) fun b h2 l2 X2 m2 n2 k2 => ?_
    have i3 : h2.IsListIter I L (i + 1) := st.1.at fun o e => k2 I o (Ne.symm hS) e
    have i4 : h2.IsList L items := st.2.at fun o e => k2 L o (Ne.symm hSL) e
    refine wpAny_pure ⟨plainId_quiet F.plain_set_update_loop _, ih (i + 1) _ l2 (by omega) lt i3 i4 X2 (by omega) (fun m => ?_) fun s' l' k3 g1 g2 g3 X3 m3 => ?_⟩
    · rw [m2, hm, List.take_succ, hx, List.mem_append]
      simp
    · exact q s' l' (fun c o c1 c2 e => k3 c o c1 c2 (k2 c o c1 (kp c o (by rw [List.mem_singleton]; exact c2) e))) g1 g2 g3 X3 m3
end
end Ns

/-! SQ1: sets of tuples whatever their elements are: the search, one more. -/
namespace Ns
open PySem PySem.Spec PyProof.Rows L2
section
variable {P : Program} {w : World} {K : Type} [DecidableEq K] (knd : KeyKind P w K)
/-- of the elements a table shows nothing -/
structure Mute : Prop where
  cls : ∀ (n : Nat) (k : K) (v : Value), knd.is k v = true → ofAClassStatement n v = pure false
  val : ∀ (n : Nat) (k : K) (v : Value), knd.is k v = true → ∃ b : Bool, hashByValue n v = pure b
/-- a row's entry -/
def entQ (r : Addr × List K) : Int × Value := (tupleKeyHash knd r.2, .ref r.1)
abbrev hshQ (r : Addr × List K) : Int := tupleKeyHash knd r.2
structure InQ (h : Heap) (a : Addr) (rs : List (Addr × List K)) (es : Array (Int × Value)) (ep : Nat) (t : SetTable) : Prop where
  obj : ∃ ob, h.get? a = some ob ∧ ob.ExactSet ∧ ob.data = .set es ep t
  ents : es.toList = rs.map (entQ knd)
  tbl : TabOk t (rs.map (hshQ knd))
  once : (rs.map (·.2)).Nodup
  tups : ∀ r ∈ rs, IsTupleKey knd h r.2 r.1
  seen : w.params.followText "set-order" = true ∨ t.led = true
  space : rs.length * 5 < t.mask * 3
  most : rs.length < 64
variable {knd} {A : Around} {E : Value → Shared → Prop} {s : Shared}
theorem each_item {ks : List K} {vs : List Value} (h : ItemsAre knd ks vs) : ∀ v ∈ vs, ∃ k, knd.is k v = true := by
  induction h with
  | nil => exact fun _ z => nomatch z
  | cons h1 _ ih => exact fun v hv => (List.mem_cons.mp hv).elim (fun e => ⟨_, e ▸ h1⟩) (ih v)
theorem mute_cls (m : Mute knd) {ks : List K} {a : Addr} {Q : Bool → Shared → Prop} (hk : IsTupleKey knd s.heap ks a) (q : Q false s) : wpAny (model P w) A (ofAClassStatement 8 (.ref a)) Q E s := by
  have ty := hk.typeIs
  obtain ⟨ob, its, nn, hob, _, hdat, hits⟩ := hk
  unfold ofAClassStatement
  refine wpAny_bind (wpAny_typeOf ty ?_)
  dsimp only
  have tt : (("tuple" : String) == "tuple") = true := by decide
  simp only [tt, if_true, Bool.not_true, Bool.false_eq_true, if_false]
  show wpAny _ _ (seqItems? (.ref a) >>= _) _ _ s
  refine wpAny_bind (wpAny_seqItems hob hdat ?_)
  dsimp only
  refine wpAny_bind ?_
  show wpAny _ _ (forIn its _ _) _ _ s
  rw [← Array.forIn_toList]
  refine wpAny_forIn_list _ (fun left r s' => r.1 = none ∧ s' = s ∧ ∀ v ∈ left, ∃ k, knd.is k v = true) _ ?_ ?_ _ _ ⟨rfl, rfl, each_item hits⟩
  · rintro v left r s' ⟨_, rfl, each⟩
    obtain ⟨k, hk⟩ := each v List.mem_cons_self
    rw [m.cls _ k v hk]
    refine wpAny_bind (wpAny_pure ?_)
    simp only [Bool.false_eq_true, if_false]
    exact wpAny_pure ⟨rfl, rfl, fun u hu => each u (List.mem_cons_of_mem _ hu)⟩
  · rintro ⟨r1, r2⟩ s' ⟨e1, rfl, _⟩
    simp only at e1
    subst e1
    exact wpAny_pure q
theorem mute_val (m : Mute knd) {ks : List K} {a : Addr} {Q : Bool → Shared → Prop} (hk : IsTupleKey knd s.heap ks a) (q : ∀ b, Q b s) : wpAny (model P w) A (hashByValue 8 (.ref a)) Q E s := by
  have ty := hk.typeIs
  obtain ⟨ob, its, nn, hob, _, hdat, hits⟩ := hk
  unfold hashByValue
  refine wpAny_bind (wpAny_specialOf ty F.slot_tuple_hash.lookup ?_)
  show wpAny _ _ (seqItems? (.ref a) >>= _) _ _ s
  refine wpAny_bind (wpAny_seqItems hob hdat ?_)
  refine wpAny_bind ?_
  show wpAny _ _ (forIn its _ _) _ _ s
  rw [← Array.forIn_toList]
  refine wpAny_forIn_list _ (fun left r s' => r.1 = none ∧ s' = s ∧ ∀ v ∈ left, ∃ k, knd.is k v = true) _ ?_ ?_ _ _ ⟨rfl, rfl, each_item hits⟩
  · rintro v left r s' ⟨_, rfl, each⟩
    obtain ⟨k, hk⟩ := each v List.mem_cons_self
    obtain ⟨b, hb⟩ := m.val 7 k v hk
    rw [hb]
    refine wpAny_bind (wpAny_pure ?_)
    cases b
    · simp only [Bool.not_false, if_true]
      exact wpAny_pure (wpAny_pure (q false))
    · simp only [Bool.not_true, Bool.false_eq_true, if_false]
      exact wpAny_pure ⟨rfl, rfl, fun u hu => each u (List.mem_cons_of_mem _ hu)⟩
  · rintro ⟨r1, r2⟩ s' ⟨e1, rfl, _⟩
    simp only at e1
    subst e1
    exact wpAny_pure (q true)
/-- a search among such shows nothing -/
theorem unseen (m : Mute knd) {ks : List K} {a : Addr} {Q : Bool → Shared → Prop} (hk : IsTupleKey knd s.heap ks a) {ys : List Value} (hy : ∀ y ∈ ys, ∃ k' c, y = Value.ref c ∧ IsTupleKey knd s.heap k' c) (q : Q false s) :
    wpAny (model P w) A (searchCouldBeSeen (.ref a) ys) Q E s := by
  unfold searchCouldBeSeen
  refine wpAny_bind ?_
  refine wpAny_forIn_list _ (fun left r s' => r.1 = none ∧ s' = s ∧ ∀ y ∈ left, ∃ k' c, y = Value.ref c ∧ IsTupleKey knd s.heap k' c) _ ?_ ?_ _ _ ⟨rfl, rfl, hy⟩
  · rintro v left r s' ⟨_, rfl, each⟩
    obtain ⟨k2, c, rfl, hc⟩ := each v List.mem_cons_self
    have more : ∀ y ∈ left, ∃ k' c, y = Value.ref c ∧ IsTupleKey knd s'.heap k' c := fun u hu => each u (List.mem_cons_of_mem _ hu)
    dsimp only
    by_cases same : (a == c || (carriedByValue (.ref a) && carriedByValue (.ref c))) = true
    · exact wp_if_pos same (wpAny_pure ⟨rfl, rfl, more⟩)
    · refine wp_if_neg same (wpAny_bind (wpAny_eqIsQuiet_tuple hk ?_))
      simp only [Bool.not_true, Bool.false_eq_true, if_false]
      refine wpAny_bind (wpAny_eqIsQuiet_tuple hc ?_)
      simp only [Bool.not_true, Bool.false_eq_true, if_false]
      refine wpAny_bind (mute_cls m hk ?_)
      simp only [Bool.false_eq_true, if_false]
      refine wpAny_bind (mute_cls m hc ?_)
      simp only [Bool.false_eq_true, if_false]
      exact wpAny_pure ⟨rfl, rfl, more⟩
  · rintro ⟨r1, r2⟩ s' ⟨e1, rfl, _⟩
    simp only at e1
    subst e1
    exact wpAny_pure q
variable {a : Addr} {rs : List (Addr × List K)} {es : Array (Int × Value)} {ep : Nat} {t : SetTable}
theorem InQ.len (G : InQ knd s.heap a rs es ep t) : es.size = rs.length := by
  have e := congrArg List.length G.ents
  rwa [Array.length_toList, List.length_map] at e
theorem InQ.plen (G : InQ knd s.heap a rs es ep t) : t.place.toList.length = rs.length := by
  have e := G.tbl.sz
  rwa [List.length_map, ← Array.length_toList] at e
theorem InQ.fit (G : InQ knd s.heap a rs es ep t) : t.fits es.size = true := by
  have e1 := G.plen
  have e2 := G.len
  have e3 := G.space
  rw [Array.length_toList] at e1
  unfold SetTable.fits SetTable.fill
  rw [G.tbl.dm, Bool.and_eq_true, beq_iff_eq, decide_eq_true_eq]
  exact ⟨by omega, by show t.place.size + 0 ≤ t.mask; omega⟩
theorem InQ.ent (G : InQ knd s.heap a rs es ep t) {i : Nat} {r : Addr × List K} (hr : rs[i]? = some r) : es[i]? = some (entQ knd r) := by
  rw [← Array.getElem?_toList, G.ents, List.getElem?_map, hr]
  rfl
/-- the c-th place of a key's way -/
abbrev wy (t : SetTable) (knd : KeyKind P w K) (k : List K) (c : Nat) : Nat := way t.mask (tupleKeyHash knd k) c
abbrev st0 (t : SetTable) (knd : KeyKind P w K) (k : List K) : SetTable.Probe := runAt t.mask (SetTable.bits (tupleKeyHash knd k) % (t.mask + 1)) (SetTable.bits (tupleKeyHash knd k))
theorem nth_dummy (m : Nat) : ∀ (n : Nat) (p : SetTable.Probe), p.dummy = none → (nth m p n).dummy = none
  | 0, _, h => h
  | n + 1, p, h => nth_dummy m n (adv m p) (by unfold adv; split <;> exact h)
/-- the search, c places having been looked at -/
theorem look (m : Mute knd) (G : InQ knd s.heap a rs es ep t) {x : Addr} {k : List K} (hx : IsTupleKey knd s.heap k x) (hu : A.units < cLine) {N : Nat} (hN : N < 10 * SetTable.turns t.mask) (hN1 : wy t knd k N ∉ t.place.toList) (hN2 : ∀ c, c < N → wy t knd k c ∈ t.place.toList)
    {Q : SetFound → Shared → Prop} (yes : k ∈ rs.map (·.2) → Q (.there none) s) (no : k ∉ rs.map (·.2) → Q (.free (wy t knd k N) false) s) :
    ∀ (f c : Nat) (at' : Option SetTable.Probe), at'.getD (t.probeStart (tupleKeyHash knd k)) = nth t.mask (st0 t knd k) c → c ≤ N → N - c < f →
      (∀ (i : Nat) r, rs[i]? = some r → r.2 = k → ∃ d, c ≤ d ∧ d < N ∧ t.place.toList[i]? = some (wy t knd k d)) → wpAny (model P w) A (setSearchFrom a (.ref x) (tupleKeyHash knd k) true f at') Q E s
  | 0, _, _, _, _, z, _ => absurd z (Nat.not_lt_zero _)
  | f + 1, c, at', hat, hc, hf, left => by
    obtain ⟨ob, hob, hset, hdat⟩ := G.obj
    have shift : ∀ q, nth t.mask (nth t.mask (st0 t knd k) c) q = nth t.mask (st0 t knd k) (c + q) := fun q => (nth_add t.mask c _ q).symm
    have place : ∀ q, (nth t.mask (nth t.mask (st0 t knd k) c) q).j = wy t knd k (c + q) := fun q => congrArg SetTable.Probe.j (shift q)
    have hash : ∀ (i : Nat) r, rs[i]? = some r → (es[i]?.map (·.1)).getD 0 = tupleKeyHash knd r.2 := fun i r hr => by rw [G.ent hr]; rfl
    rw [setSearchFrom_succ]
    refine wpAny_bind (wpAny_setState_of hob hdat G.fit ?_)
    dsimp only
    have gw : ¬ t.gaveWay = true := by unfold SetTable.gaveWay; rw [mask_odd G.tbl.mok]; decide
    refine wp_if_neg gw ?_
    have sp := go_spec t G.tbl.ris G.tbl.dm (fun i => (es[i]?.map (·.1)).getD 0) (tupleKeyHash knd k) (10 * SetTable.turns t.mask) (N - c) _ (nth_dummy t.mask c (st0 t knd k) rfl) (by omega)
      (fun q hq => by rw [place]; exact hN2 _ (by omega)) (by rw [place, show c + (N - c) = N by omega]; exact hN1)
    rcases sp with ⟨q, i, hq, hi, _, before, found⟩ | ⟨never, found⟩
    · rw [place] at hi
      have e : t.probe (fun i => (es[i]?.map (·.1)).getD 0) (tupleKeyHash knd k) (at'.getD (t.probeStart (tupleKeyHash knd k))) = some (.candidate (wy t knd k (c + q)) i (nth t.mask (st0 t knd k) (c + (q + 1)))) := by
        rw [hat, ← place, ← shift]
        exact found
      rw [e]
      dsimp only
      have il : i < rs.length := by rw [← G.plen]; exact (List.getElem?_eq_some_iff.mp hi).1
      obtain ⟨r, hr⟩ : ∃ r, rs[i]? = some r := ⟨_, List.getElem?_eq_getElem il⟩
      have rm : r ∈ rs := List.mem_of_getElem? hr
      have go : wpAny (model P w) A (searchRest a (.ref x) (tupleKeyHash knd k) true f es t (wy t knd k (c + q)) i (nth t.mask (st0 t knd k) (c + (q + 1)))) Q E s := by
        unfold searchRest
        rw [G.ent hr]
        dsimp only [entQ]
        refine wpAny_bind (wpAny_holding (wpAny_eqBool_tuple hu (G.tups r rm) hx ?_))
        refine wpAny_bind (wpAny_setState_of hob hdat G.fit ?_)
        dsimp only
        by_cases same : r.2 = k
        · exact wp_if_pos (by simp [same]) (wpAny_pure (yes (List.mem_map.mpr ⟨r, rm, same⟩)))
        · refine wp_if_neg (by simp [same]) ?_
          rw [sameMem]
          dsimp only
          have live : t.slot (wy t knd k (c + q)) = .live i := slot_live G.tbl.ris hi
          simp only [if_true, live, G.ent hr]
          dsimp only [entQ]
          refine wpAny_bind (wpAny_isSame_ref_self (wpAny_bind (wpAny_pure ?_)))
          simp only [if_true]
          refine wp_if_neg (by simp [same]) ?_
          refine look m G hx hu hN hN1 hN2 yes no f (c + (q + 1)) _ rfl (by omega) (by omega) fun i2 r2 h2 k2 => ?_
          obtain ⟨d, d1, d2, d3⟩ := left i2 r2 h2 k2
          refine ⟨d, ?_, d2, d3⟩
          rcases Nat.lt_trichotomy d (c + q) with z | z | z
          · exact absurd ((hash i2 r2 h2).trans (congrArg (tupleKeyHash knd) k2)) (before (d - c) i2 (by omega) (by rw [place, show c + (d - c) = d by omega]; exact d3))
          · rw [z] at d3
            have l2 := slot_live G.tbl.ris d3
            rw [live] at l2
            injection l2 with l2
            rw [← l2, hr] at h2
            cases h2
            exact absurd k2 same
          · omega
      by_cases led : t.led = true
      · exact wp_if_neg (by simp [led]) go
      · refine wp_if_pos (by simp [led]) (wpAny_bind (unseen m hx (fun y hy => ?_) (wp_if_neg (by decide) go)))
        obtain ⟨e1, he1, rfl⟩ := List.mem_map.mp hy
        have he2 : e1 ∈ es.toList := by
          have : e1 ∈ es ∧ e1.1 = tupleKeyHash knd k := by simpa using he1
          simpa using this.1
        rw [G.ents] at he2
        obtain ⟨r2, hr2, rfl⟩ := List.mem_map.mp he2
        exact ⟨r2.2, r2.1, rfl, G.tups r2 hr2⟩
    · have e : t.probe (fun i => (es[i]?.map (·.1)).getD 0) (tupleKeyHash knd k) (at'.getD (t.probeStart (tupleKeyHash knd k))) = some (.empty (wy t knd k N) none) := by
        have e2 : wy t knd k N = (nth t.mask (nth t.mask (st0 t knd k) c) (N - c)).j := by rw [place, show c + (N - c) = N by omega]
        rw [hat, e2]
        exact found
      rw [e]
      dsimp only
      refine wpAny_pure (no fun hm => ?_)
      obtain ⟨r, hr, kr⟩ := List.mem_map.mp hm
      obtain ⟨i, hi⟩ := List.getElem?_of_mem hr
      obtain ⟨d, d1, d2, d3⟩ := left i r hi kr
      exact never (d - c) i (by omega) (by rw [place, show c + (d - c) = d by omega]; exact d3) ((hash i r hi).trans (congrArg (tupleKeyHash knd) kr))
/-- the search for adding -/
theorem look_add (m : Mute knd) (G : InQ knd s.heap a rs es ep t) {x : Addr} {k : List K} (hx : IsTupleKey knd s.heap k x) (hu : A.units < cLine) {Q : SetFound → Shared → Prop} (yes : k ∈ rs.map (·.2) → Q (.there none) s)
    (no : ∀ N, k ∉ rs.map (·.2) → wy t knd k N ∉ t.place.toList → (∀ c, c < N → wy t knd k c ∈ t.place.toList) → Q (.free (wy t knd k N) false) s) : wpAny (model P w) A (setSearch a (.ref x) (tupleKeyHash knd k) true) Q E s := by
  have sp := G.space
  obtain ⟨N, n1, n2, n3⟩ := G.tbl.first (by rw [List.length_map]; omega) (tupleKeyHash knd k)
  have few : N < 100000 := by
    have : 10 * SetTable.turns t.mask ≤ 1420 := by
      unfold SetTable.turns
      rcases G.tbl.mok with z | z | z <;> omega
    omega
  unfold setSearch
  refine look m G hx hu n1 n2 n3 yes (fun h => no N h n2 n3) 100000 0 none rfl (Nat.zero_le _) (by omega) fun i r hr hk => ?_
  have hh : (rs.map (hshQ knd))[i]? = some (tupleKeyHash knd k) := by rw [List.getElem?_map, hr, ← hk]; rfl
  have il : i < t.place.toList.length := by rw [G.plen]; exact (List.getElem?_eq_some_iff.mp hr).1
  obtain ⟨d, d1, d2⟩ := G.tbl.before n2 hh (List.getElem?_eq_getElem il)
  exact ⟨d, Nat.zero_le _, d1, by rw [List.getElem?_eq_getElem il]; exact congrArg some d2.symm⟩
end
end Ns

/-! SQ2: one tuple more in a set. -/
namespace Ns
open PySem PySem.Spec PyProof.Rows L2
section
variable {P : Program} {w : World} {K : Type} [DecidableEq K] {knd : KeyKind P w K} {A : Around} {E : Value → Shared → Prop} {s : Shared}
/-- a tuple stands where a set is written -/
theorem tup_but {h h' : Heap} {ks : List K} {a b : Addr} {ob : Obj} {es : Array (Int × Value)} {ep : Nat} {t : SetTable} (hk : IsTupleKey knd h ks b) (hob : h.get? a = some ob) (hdat : ob.data = .set es ep t) (but : Heap.SameBut a h h') : IsTupleKey knd h' ks b := by
  obtain ⟨o2, its, nn, h1, h2, h3, h4⟩ := hk
  refine ⟨o2, its, nn, (but.2 b fun e => ?_).trans h1, h2, h3, h4⟩
  rw [e, hob] at h1
  cases h1
  rw [hdat] at h3
  cases h3
theorem put_in {α β : Type} (f : α → β) (l : List α) (p : Nat) (x : α) : (l.take p ++ x :: l.drop p).map f = (l.map f).take p ++ f x :: (l.map f).drop p := by
  rw [List.map_append, List.map_cons, List.map_take, List.map_drop]
/-- by places: a row's items in another order -/
theorem by_places {α β : Type} (f : α → β) (l : List α) : ∀ ord : List Nat, ord.filterMap (fun i => (l.map f)[i]?) = (ord.filterMap fun i => l[i]?).map f
  | [] => rfl
  | i :: ord => by
    have ih := by_places f l ord
    cases e : l[i]? with
    | none => rw [List.filterMap_cons_none e, List.filterMap_cons_none (by rw [List.getElem?_map, e]; rfl), ih]
    | some x => rw [List.filterMap_cons_some e, List.filterMap_cons_some (show (l.map f)[i]? = some (f x) by rw [List.getElem?_map, e]; rfl), List.map_cons, ih]
theorem places_all {α : Type} (l : List α) : (List.range l.length).filterMap (fun i => l[i]?) = l := by
  have key : ∀ n, n ≤ l.length → (List.range n).filterMap (fun i => l[i]?) = l.take n := by
    intro n
    induction n with
    | zero => exact fun _ => rfl
    | succ n ih =>
      intro hn
      rw [List.range_succ, List.filterMap_append, ih (Nat.le_of_lt hn), List.take_succ, List.getElem?_eq_getElem hn]
      rw [List.filterMap_cons_some (List.getElem?_eq_getElem hn)]
      rfl
  rw [key _ (Nat.le_refl _), List.take_length]
theorem places_perm {α : Type} {l : List α} {ord : List Nat} (h : ord.Perm (List.range l.length)) : (ord.filterMap fun i => l[i]?).Perm l := by
  have := h.filterMap fun i => l[i]?
  rwa [places_all] at this
theorem places_get {α β : Type} (f : α → β) (d : β) (l : List α) : ∀ {ord : List Nat}, (∀ i ∈ ord, i < l.length) → ord.map (fun i => (l.map f).toArray.getD i d) = (ord.filterMap fun i => l[i]?).map f
  | [], _ => rfl
  | i :: ord, h => by
    have il := h i List.mem_cons_self
    rw [List.map_cons, places_get f d l fun j hj => h j (List.mem_cons_of_mem _ hj), List.filterMap_cons_some (List.getElem?_eq_getElem il), List.map_cons]
    congr 1
    have il2 : i < (l.map f).toArray.size := by simpa using il
    simp [Array.getD_eq_getD_getElem?, il]
variable {a : Addr} {rs : List (Addr × List K)} {es : Array (Int × Value)} {ep : Nat} {t : SetTable}
/-- the table laid anew -/
theorem relay_q {ob : Obj} (hob : s.heap.get? a = some ob) (hset : ob.ExactSet) (hdat : ob.data = .set es ep t) (ents : es.toList = rs.map (entQ knd)) (psz : t.place.size = es.size) (dm : t.dummies = #[]) (le : es.size ≤ t.mask) (once : (rs.map (·.2)).Nodup)
    (tups : ∀ r ∈ rs, IsTupleKey knd s.heap r.2 r.1) (seen : w.params.followText "set-order" = true ∨ t.led = true) (most : rs.length < 64) {want M : Nat} (hM : SetTable.sizeAbove want - 1 = M) (mok : MaskOk M) (small : SetTable.sizeAbove want ≤ 128) (space : rs.length * 5 < M * 3)
    {Q : Unit → Shared → Prop} (q : ∀ h' rs' es' ep' t', Heap.SameBut a s.heap h' → InQ knd h' a rs' es' ep' t' → rs'.Perm rs → Q () { s with heap := h' }) : wpAny (model P w) A (setRelay a want) Q E s := by
  have len : es.size = rs.length := by
    have e := congrArg List.length ents
    rwa [Array.length_toList, List.length_map] at e
  have fit : t.fits es.size = true := by
    unfold SetTable.fits SetTable.fill
    rw [dm, Bool.and_eq_true, beq_iff_eq, decide_eq_true_eq]
    exact ⟨psz, by show t.place.size + 0 ≤ t.mask; omega⟩
  have hs : es.map (·.1) = (rs.map (hshQ knd)).toArray := by
    apply Array.toList_inj.mp
    rw [Array.toList_map, ents, List.map_map]
    rfl
  obtain ⟨t2, ord, e, per, T, em, el, _, _⟩ := relaid_ok t (hs := es.map (·.1)) (wanted := want) hM mok (by rw [Array.size_map, len]; omega)
  rw [Array.size_map, len] at per
  have bd : ∀ i ∈ ord.toList, i < rs.length := fun i hi => List.mem_range.mp (per.mem_iff.mp hi)
  rw [hs, places_get (hshQ knd) 0 rs bd] at T
  have pr : (ord.toList.filterMap fun i => rs[i]?).Perm rs := places_perm per
  have ents2 : (ord.filterMap (es[·]?)).toList = (ord.toList.filterMap fun i => rs[i]?).map (entQ knd) := by
    rw [← by_places, ← ents, Array.toList_filterMap]
    congr 1
    funext i
    rw [Array.getElem?_toList]
  generalize (ord.toList.filterMap fun i => rs[i]?) = rs2 at T pr ents2
  have len2 : (ord.filterMap (es[·]?)).size = es.size := by
    have e := congrArg List.length ents2
    rw [Array.length_toList, List.length_map, pr.length_eq] at e
    rw [e, len]
  rw [setRelay_eq]
  refine wpAny_bind (wpAny_setState_of hob hdat fit ?_)
  dsimp only
  refine wp_if_neg (by rw [sizeLine_eq]; omega) ?_
  rw [e]
  dsimp only
  refine wpAny_bind (wp_if_neg (by rw [len2]; simp) (wpAny_pure ?_))
  dsimp only
  refine wpAny_storeSet_of hob hdat ?_ (by rw [len2, len, sizeLine_eq]; omega)
  have but : Heap.SameBut a s.heap (s.heap.update a (Obj.putSet (ord.filterMap (es[·]?)) t2)) := Heap.SameBut.update ..
  refine q _ rs2 (ord.filterMap (es[·]?)) (ep + 1) t2 but ⟨⟨_, store_at hob hdat, ⟨hset.1, hset.2.1, hset.2.2⟩, rfl⟩, ents2, T, (pr.map (·.2)).nodup_iff.mpr once, fun r hr => tup_but (tups r (pr.mem_iff.mp hr)) hob hdat but, by rw [el]; exact seen, by rw [pr.length_eq, em]; exact space, by rw [pr.length_eq]; exact most⟩ pr
theorem flag_q (m : Mute knd) {x : Addr} {k : List K} (hx : IsTupleKey knd s.heap k x) {c : Bool} {Q : Bool → Shared → Prop} (q : ∀ b, Q b s) : wpAny (model P w) A (if c = true then hashByValue 8 (.ref x) else pure true) Q E s := by
  split
  · exact mute_val m hx q
  · exact wpAny_pure (q true)
/-- ADDING a tuple -/
theorem add_q (m : Mute knd) (G : InQ knd s.heap a rs es ep t) {x : Addr} {k : List K} (hx : IsTupleKey knd s.heap k x) (hu : A.units < cLine) (most : rs.length + 1 < 64) {Q : Bool → Shared → Prop}
    (q : ∀ b h' rs' es' ep' t', Heap.SameBut a s.heap h' → InQ knd h' a rs' es' ep' t' → (k ∈ rs.map (·.2) → rs' = rs) → (k ∉ rs.map (·.2) → rs'.Perm ((x, k) :: rs)) → Q b { s with heap := h' }) :
    wpAny (model P w) A (setAddHashed a (.ref x) (tupleKeyHash knd k)) Q E s := by
  obtain ⟨ob, hob, hset, hdat⟩ := G.obj
  have len := G.len
  have sp := G.space
  unfold setAddHashed
  refine wpAny_holding ?_
  rw [show (100000 : Nat) = 99999 + 1 from rfl, setAddHashedIn_succ]
  refine wpAny_bind (wpAny_setState_of hob hdat G.fit ?_)
  dsimp only
  refine wp_if_neg (by simp [byScan, Value.scannable]) ?_
  refine wpAny_bind (look_add m G hx hu (fun hm => wpAny_pure (q false s.heap rs es ep t (Heap.SameBut.refl a s.heap) G (fun _ => rfl) fun z => absurd hm z)) fun N nin h1 h2 => ?_)
  dsimp only
  refine wpAny_bind (wpAny_setState_of hob hdat G.fit ?_)
  dsimp only
  obtain ⟨g1, g2, g3, g4, g5, g6, g7, g8, g9⟩ := G.tbl.put h1 h2
  generalize t.put (wy t knd k N) = tp at g1 g3 g4 g5 g7 g8 g9 ⊢
  obtain ⟨t0, p⟩ := tp
  dsimp only at g1 g3 g4 g5 g7 g8 g9 ⊢
  subst g1
  suffices key : ∀ fl : Bool, wpAny (model P w) A (do
      storeSet a (SetTable.insertAt es (SetTable.below t.place (way t.mask (tupleKeyHash knd k) N)) (tupleKeyHash knd k, Value.ref x)) (if fl = true then t0 else { t0 with plain := false })
      if (!false && (if fl = true then t0 else { t0 with plain := false }).tooFull) = true then do
          setRelay a (SetTable.grown (es.size + 1))
          pure true
        else pure true) Q E s by
    by_cases pl : t0.plain = true
    · exact wp_if_pos pl (wpAny_bind (mute_val m hx key))
    · refine wp_if_neg pl ?_
      first
        | exact key true
        | exact wpAny_bind (wpAny_pure (key true))
  intro fl
  have same : ∃ t1 : SetTable, (if fl = true then t0 else { t0 with plain := false }) = t1 ∧ TabOk t1 ((rs.map (hshQ knd)).take (SetTable.below t.place (way t.mask (tupleKeyHash knd k) N)) ++ tupleKeyHash knd k :: (rs.map (hshQ knd)).drop (SetTable.below t.place (way t.mask (tupleKeyHash knd k) N))) ∧ t1.mask = t.mask ∧ t1.led = t.led ∧ t1.tooFull = t0.tooFull := by
    cases fl
    · exact ⟨_, rfl, ⟨g3.ris, g3.dm, g3.sz, g3.mok, g3.bd, g3.reach⟩, g4, g5, rfl⟩
    · exact ⟨_, rfl, g3, g4, g5, rfl⟩
  have g0 : t0.mask = t.mask := g4
  obtain ⟨t1, e1, g3, g4, g5, g10⟩ := same
  rw [← g4] at g0
  rw [e1]
  clear e1
  have ents1 : (SetTable.insertAt es (SetTable.below t.place (way t.mask (tupleKeyHash knd k) N)) (tupleKeyHash knd k, Value.ref x)).toList = (rs.take (SetTable.below t.place (way t.mask (tupleKeyHash knd k) N)) ++ (x, k) :: rs.drop (SetTable.below t.place (way t.mask (tupleKeyHash knd k) N))).map (entQ knd) := by
    rw [SetTable.toList_insertAt, put_in, G.ents]
    rfl
  generalize SetTable.below t.place (way t.mask (tupleKeyHash knd k) N) = p at g2 g3 ents1 ⊢
  have per := L2.put_perm rs p (x, k)
  have len1 : (rs.take p ++ (x, k) :: rs.drop p).length = rs.length + 1 := per.length_eq
  rw [show tupleKeyHash knd k = hshQ knd (x, k) from rfl, ← put_in] at g3
  have once1 : ((rs.take p ++ (x, k) :: rs.drop p).map (·.2)).Nodup := (per.map (·.2)).nodup_iff.mpr (by rw [List.map_cons]; exact List.nodup_cons.mpr ⟨nin, G.once⟩)
  have sz1 : (SetTable.insertAt es p (tupleKeyHash knd k, Value.ref x)).size = rs.length + 1 := by
    have e := congrArg List.length ents1
    rwa [Array.length_toList, List.length_map, len1] at e
  generalize SetTable.insertAt es p (tupleKeyHash knd k, Value.ref x) = es1 at ents1 sz1 ⊢
  generalize rs.take p ++ (x, k) :: rs.drop p = rs1 at per len1 g3 once1 ents1
  refine wpAny_bind (wpAny_storeSet_of hob hdat ?_ (by rw [sz1, sizeLine_eq]; omega))
  have but : Heap.SameBut a s.heap (s.heap.update a (Obj.putSet es1 t1)) := Heap.SameBut.update ..
  have hob1 := store_at (es' := es1) (t' := t1) hob hdat
  generalize s.heap.update a (Obj.putSet es1 t1) = h1' at but hob1 ⊢
  have tups1 : ∀ r ∈ rs1, IsTupleKey knd h1' r.2 r.1 := fun r hr => (List.mem_cons.mp (per.mem_iff.mp hr)).elim (fun e => by rw [e]; exact tup_but hx hob hdat but) fun hr => tup_but (G.tups r hr) hob hdat but
  have seen1 : w.params.followText "set-order" = true ∨ t1.led = true := by rw [g5]; exact G.seen
  by_cases full : t1.tooFull = true
  · have big : (rs.length + 1) * 5 ≥ t1.mask * 3 := by
      have f := full
      rw [g10] at f
      unfold SetTable.tooFull at f
      rwa [decide_eq_true_eq, g9, List.length_map, g0] at f
    have two : (t.mask = 7 ∧ rs.length = 4) ∨ (t.mask = 31 ∧ rs.length = 18) := by
      rw [g4] at big
      rcases G.tbl.mok with z | z | z
      · exact .inl ⟨z, by omega⟩
      · exact .inr ⟨z, by omega⟩
      · omega
    have psz : t1.place.size = es1.size := by
      have e := g3.sz
      rw [List.length_map, len1] at e
      rw [e, sz1]
    have go : ∀ M, SetTable.sizeAbove (SetTable.grown (rs.length + 1)) - 1 = M → MaskOk M → SetTable.sizeAbove (SetTable.grown (rs.length + 1)) ≤ 128 → (rs.length + 1) * 5 < M * 3 →
        wpAny (model P w) A (setRelay a (SetTable.grown (rs.length + 1))) (fun _ s' => wpAny (model P w) A (pure true) Q E s') E { s with heap := h1' } := fun M m1 m2 m3 m4 => by
      refine relay_q (s := { s with heap := h1' }) hob1 ⟨hset.1, hset.2.1, hset.2.2⟩ rfl ents1 psz g3.dm (by rw [sz1, g4]; rcases two with ⟨z, z2⟩ | ⟨z, z2⟩ <;> omega) once1 tups1 seen1 (by rw [len1]; exact most) m1 m2 m3 (by rw [len1]; exact m4) fun h2' rs2 es2 ep2 t2 but2 G2 per2 => ?_
      exact wpAny_pure (q true h2' rs2 es2 ep2 t2 (but.trans but2) G2 (fun z => absurd z nin) fun _ => per2.trans per)
    rw [len]
    have run : wpAny (model P w) A (setRelay a (SetTable.grown (rs.length + 1))) (fun _ s' => wpAny (model P w) A (pure true) Q E s') E { s with heap := h1' } := by
      rcases two with ⟨_, z⟩ | ⟨_, z⟩
      · exact go 31 (by rw [z, size_20]) (.inr (.inl rfl)) (by rw [z, size_20]; decide) (by omega)
      · exact go 127 (by rw [z, size_76]) (.inr (.inr rfl)) (by rw [z, size_76]; decide) (by omega)
    first
      | exact wpAny_bind (wp_if_pos (by simp [full]) run)
      | exact wp_if_pos (by simp [full]) (wpAny_bind run)
  · have ok : (rs.length + 1) * 5 < t1.mask * 3 := by
      have f := full
      rw [g10] at f
      unfold SetTable.tooFull at f
      rw [decide_eq_true_eq, g9, List.length_map, g0] at f
      omega
    have fin : Q true { s with heap := h1' } := q true h1' rs1 es1 (ep + 1) t1 but ⟨⟨_, hob1, ⟨hset.1, hset.2.1, hset.2.2⟩, rfl⟩, ents1, g3, once1, tups1, seen1, by rw [len1]; exact ok, by rw [len1]; exact most⟩ (fun z => absurd z nin) fun _ => per
    first
      | exact wp_if_neg (by simp [full]) (wpAny_pure fin)
      | exact wpAny_bind (wp_if_neg (by simp [full]) (wpAny_pure (wpAny_pure fin)))
end
end Ns

/-! NsZ2: the calls set(xs), sorted(set). -/
namespace Ns
open PySem PySem.Spec PyProof.Rows L2
open PySem.Froz (SD sObj TxOk)
/-- a set as it is made -/
abbrev set0 (w : World) : Obj := { cls := .type "set", dict := none, data := .set #[] 0 (.fresh 0 0 (!w.params.followText "set-order")) }
theorem setX_new {P : Program} {w : World} {h : Heap} {a : Addr} (e : h.get? a = some (set0 w)) : SetX P w h a [] := by
  refine ⟨(#[], 0, .fresh 0 0 (!w.params.followText "set-order")), e, PySem.Froz.TxOk.nil (by rfl), List.nodup_nil, List.Pairwise.nil, ?_⟩
  show _ ∨ (!w.params.followText "set-order") = true
  cases w.params.followText "set-order" <;> simp
section
variable {P : Program} {w : World} {A : Around} {E : Value → Shared → Prop} {s : Shared}
set_option maxHeartbeats 3200000 in
theorem set_of {l : Addr} {items : Array Value} {xs : List Str} {Q : Value → Shared → Prop} (hh : A.handled = none) (hl : s.heap.IsList l items) (rel : Vals (xs.map V.str) items.toList) (room : items.size + 1 < scanBound)
    (q : ∀ (h' : Heap) (tk : Nat) (ls : List Str), (∀ c o, s.heap.get? c = some o → h'.get? c = some o) → SetX P w h' s.heap.objs.size ls → (∀ m, m ∈ ls ↔ m ∈ xs) → Q (.ref s.heap.objs.size) { s with heap := h', toks := tk }) :
    wpAny (model P w) A (call (.type "set") [.ref l]) Q E s := by
  obtain ⟨c, tl, hmro⟩ := F.called_set.mro
  have f1 := F.called_set.made
  have f2 := F.called_set.sub
  have f3 := F.called_set.notType
  have f4 := F.called_set.canCreate
  have f5 := F.typeCall_set_1 (.ref l)
  refine wpAny_call (codeAny_of_tree ?_)
  show wpAny _ _ (callAny (.type "set") _) _ _ _
  refine wpAny_pure ⟨Code.quiet_builtin _ (by decide +kernel), codeAny_builtin F.entry_type_call ?_⟩
  rw [Around.under_plain (weight_type_call_type "set" [.ref l] []) rfl]
  repeat (any_goals (first | assumption | wp_step))
  refine codeAny_mono (code_set_led1 (.ref l) (E := E) (Q₁ := fun obj s₁ => obj = .ref s.heap.objs.size ∧ s₁ = { s with heap := s.heap.push (set0 w) }) ⟨rfl, rfl⟩) fun r s₁ hr => ?_
  rcases r with e | fl
  · exact hr
  cases fl with
  | ret obj =>
    obtain ⟨rfl, rfl⟩ := hr
    have at0 : (s.heap.push (set0 w)).get? s.heap.objs.size = some (set0 w) := Heap.get?_push_size _ rfl
    have ty0 : Shared.TypeIs { s with heap := s.heap.push (set0 w) } (.ref s.heap.objs.size) "set" := ⟨_, at0, rfl⟩
    have f6 := F.called_set.init.lookup
    have f7 := F.called_set.init.bind (.ref s.heap.objs.size)
    repeat (any_goals (first | assumption | wp_step))
    refine codeAny_mono (codeAny_call_builtin (R := wants (fun r s₂ => r = .none ∧ ∃ h' tk ls, s₂ = { s with heap := h', toks := tk } ∧ (∀ c o, s.heap.get? c = some o → h'.get? c = some o) ∧ SetX P w h' s.heap.objs.size ls ∧ ∀ m, m ∈ ls ↔ m ∈ xs) E)
      F.called_set.init.plain F.entry_set_init (check_set_init_1 ty0 ?_)) fun r₂ s₂ hr₂ => ?_
    · obtain ⟨⟨ocls, odict, odata, oslots⟩, hol, hcl, nl, hdl⟩ := hl
      simp only at hcl hdl
      subst hcl; subst hdl
      have lS : l < s.heap.objs.size := Heap.lt_size hol
      have hol' : (s.heap.push (set0 w)).get? l = some { cls := .type "list", dict := odict, data := .seq items nl, slots := oslots } := Heap.get?_push_of_some _ hol
      have g1 := F.sub_list_set
      have g2 := F.sub_list_frozenset
      have g3 : (Value.type "list" == Value.type "dict") = false := by decide
      have isl : (s.heap.push (set0 w)).IsList l items := ⟨_, hol', rfl, nl, rfl⟩
      unfold Builtin.«set.__init__» noKeywords Builtin.Frozenset.updateFrom
      generalize keep : pyIter = PI
      wp_walk
      subst keep
      refine wpAny_pyIter_list isl (wpAny_bind (wpAny_runValue ?_))
      have up : (s.heap.push (set0 w)).objs.size = s.heap.objs.size + 1 := size_push' _ _
      refine set_fill (xs := xs) (by simp [hh]) (by rw [up]; exact Nat.ne_of_lt (Nat.lt_succ_of_lt lS)) (by rw [up]; exact Nat.ne_of_lt (Nat.lt_succ_self _)) (Nat.ne_of_gt lS) rel room items.size 0 _ [] (Nat.sub_zero _) (Nat.zero_le _) ⟨_, Heap.get?_push_size _ rfl, rfl, rfl⟩ (isl.push _)
        (setX_new (Heap.get?_push_of_some _ at0)) (Nat.le_refl _) (fun m => by rw [List.take_zero]) fun s' ls kp e1 e2 e3 X m => ?_
      obtain ⟨h', g', d', tk', os'⟩ := s'
      cases e1
      cases e2
      cases e3
      refine wpAny_pure (wpAny_pure ⟨rfl, h', tk', ls, rfl, fun c o e => ?_, X, m⟩)
      have cl : c < s.heap.objs.size := Heap.lt_size e
      exact kp c o (Nat.ne_of_lt cl) (by rw [up]; exact Nat.ne_of_lt (Nat.lt_succ_of_lt cl)) (Heap.get?_push_of_some _ (Heap.get?_push_of_some _ e))
    · rcases r₂ with e | fl₂
      · exact hr₂
      cases fl₂ with
      | ret r =>
        obtain ⟨rfl, h', tk, ls, rfl, kp, X, m⟩ := hr₂
        repeat (any_goals (first | assumption | wp_step))
        exact q h' tk ls kp X m
      | _ => exact hr₂.elim
  | _ => exact hr.elim
end
end Ns

/-! NsZ3: sorted of a set of texts. -/
namespace Ns
open PySem PySem.Spec PyProof.Rows L2
open PySem.Froz (SD sObj TxOk)
section
variable {P : Program} {w : World} {A : Around} {E : Value → Shared → Prop} {s : Shared}
theorem texts_of {l : List Value} (h : ∀ v ∈ l, ∃ x t, v = Value.str x t) : ∃ xs, StrsAre l xs := by
  induction l with
  | nil => exact ⟨[], .nil⟩
  | cons v l ih =>
    obtain ⟨x, t, rfl⟩ := h v List.mem_cons_self
    obtain ⟨xs, r⟩ := ih fun u hu => h u (List.mem_cons_of_mem _ hu)
    exact ⟨x :: xs, .cons x t r⟩
theorem strs_mem {vs : List Value} {xs : List Str} (r : StrsAre vs xs) : ∀ m, m ∈ xs ↔ ∃ t, Value.str m t ∈ vs := by
  induction r with
  | nil => simp
  | cons y t _ ih =>
    intro m
    rw [List.mem_cons, ih]
    constructor
    · rintro (rfl | ⟨u, hu⟩)
      · exact ⟨t, List.mem_cons_self⟩
      · exact ⟨u, List.mem_cons_of_mem _ hu⟩
    · rintro ⟨u, hu⟩
      rcases List.mem_cons.mp hu with e | e
      · injection e with e1 _
        exact .inl e1
      · exact .inr ⟨u, e⟩
theorem sorted_setX {a : Addr} {ls : List Str} {Q : Value → Shared → Prop} (X : SetX P w s.heap a ls) (hh : A.handled = none) (few : ls.length < 64)
    (q : ∀ s' p (out : Array Value) (c : Nat) (ys : List Str), (∀ b o, s.heap.get? b = some o → s'.heap.get? b = some o) → s'.gens = s.gens → s'.os = s.os → s.heap.objs.size ≤ p → s'.heap.get? p = some (seqObj "list" out c) →
      StrsAre out.toList ys → sortedS ys = true → ys.length = ls.length → (∀ m, m ∈ ys ↔ m ∈ ls) → Q (.ref p) s') :
    wpAny (model P w) A (call (.builtin "sorted") [.ref a]) Q E s := by
  obtain ⟨D, hD, F, n, r, led⟩ := X
  have sz := F.sz
  refine Calls.call_function_entry kind_sorted plain_sorted entry_sorted (args_sorted1 _) ?_
  unfold Builtin.«sorted»
  refine wpAny_bind (m := checkCount "sorted" 1 1 _) (wpAny_pure ?_)
  refine wpAny_bind (collect_set (A := A.in1) hh ⟨_, hD, rfl, rfl⟩ F.fit (by rw [sz]; exact Nat.lt_trans few (by decide)) r led fun s1 vs k1 z1 g1 o1 pm => ?_)
  have vl : vs.length = ls.length := by rw [pm.length_eq, List.length_map, Array.length_toList]; exact sz
  have isS : ∀ v ∈ vs, ∃ x t, v = Value.str x t := fun v hv => by
    obtain ⟨e, he, rfl⟩ := List.mem_map.mp (pm.mem_iff.mp hv)
    obtain ⟨⟨k, hk, _⟩, _⟩ := F.el e he
    obtain ⟨t, ht⟩ := Value.isStrOf_shape (x := k) (v := e.2) hk
    exact ⟨k, t, ht⟩
  obtain ⟨us, hS⟩ := texts_of isS
  have um : ∀ m, m ∈ us ↔ m ∈ ls := fun m => by
    rw [strs_mem hS, F.mem m]
    constructor
    · rintro ⟨t, ht⟩
      obtain ⟨e, he, ee⟩ := List.mem_map.mp (pm.mem_iff.mp ht)
      exact ⟨e, he, by rw [show e.2 = Value.str m t from ee]; exact PySem.Froz.is_str m t⟩
    · rintro ⟨e, he, ee⟩
      obtain ⟨t, ht⟩ := Value.isStrOf_shape (x := m) (v := e.2) ee
      exact ⟨t, by rw [← ht]; exact pm.mem_iff.mpr (List.mem_map.mpr ⟨e, he, rfl⟩)⟩
  refine wpAny_bind (wpAny_newList ?_ (by rw [vl, sizeLine_eq]; omega))
  have hoL : (s1.heap.push (seqObj "list" vs.toArray 0)).get? s1.heap.objs.size = some (seqObj "list" vs.toArray 0) := Heap.get?_push_size _ rfl
  refine wpAny_bind (wpAny_holding (wpAny_call_entry slot_list_sort ⟨_, hoL, rfl⟩ entry_list_sort
    (list_sort_treeK strKind_oneLt (s := { s1 with heap := s1.heap.push (seqObj "list" vs.toArray 0) }) hoL hS.keysOf (fun v₁ v₂ rest e => keyKind_strs (by rw [← e]; exact hS)) (by rw [vl]; exact few) fun st' hp hs => ⟨_, rfl, ?_⟩) (args_list_sort _)))
  obtain ⟨ys, y1, y2, y3⟩ := sorted_out_str hS hp hs
  obtain ⟨c, hc⟩ := sortedHeap_at (vs := vs) (out := (arrOf st').map (·.2)) hoL
  refine wpAny_pure ⟨_, rfl, q _ s1.heap.objs.size _ c ys (fun b u e => ?_) g1 o1 z1 hc y1 y3 ?_ fun m => (y2.mem_iff).trans (um m)⟩
  · have k := k1 b u e
    have lt := Heap.lt_size k
    have top : b < (s1.heap.push (seqObj "list" vs.toArray 0)).objs.size := by rw [size_push']; exact Nat.lt_succ_of_lt lt
    have k2 : (s1.heap.push (seqObj "list" vs.toArray 0)).get? b = some u := Heap.get?_push_of_some _ k
    have same := sortedHeap_old (h := s1.heap.push (seqObj "list" vs.toArray 0)) (vs := vs) (out := (arrOf st').map (·.2)) (Nat.ne_of_lt lt) top
    rw [k2] at same
    exact same
  · rw [y2.length_eq, ← vl]
    exact hS.len_eq.symm
end
/-- a set of texts -/
def SetS (P : Program) (w : World) (a : Addr) (ls : List Str) : HO := .ext fun h => SetX P w h a ls
theorem setS_ok {P : Program} {w : World} {H : Hp} {h : Heap} {a : Addr} {ls : List Str} (X : SetX P w h a ls) : ObjOk P w H h a (SetS P w a ls) :=
  ⟨X, (by obtain ⟨D, hD, _⟩ := X; exact ⟨_, hD⟩), fun h1 h2 x k => x.keep k⟩
section
variable {X : Cx}
def rSetTx (K : PySem.W.Frag) (P : Program) (w : World) : List V → Hp → VK → Prop := fun xs H Q => ∃ (a : Addr) (ts : List Str), xs = [.ref a] ∧ SqL K H a (ts.map V.str) ∧ ts.length ≤ 1000 ∧ ∀ (p : Addr) (ls : List Str), H p = none → (∀ m, m ∈ ls ↔ m ∈ ts) → Q (.ref p) (upd H p (SetS P w p ls))
theorem call_setTx (hc : X.calm = true) : CallR X (.type "set") (rSetTx X.K X.prog X.w) := by
  intro pins s σ H xs us Q I r h
  obtain ⟨a, ts, rfl, hs, hz, q⟩ := h
  obtain ⟨its, rv, hl, _⟩ := I.list hs
  rw [Vals.ref1 r]
  have il : its.length = ts.length := by rw [← rv.length, List.length_map]
  refine set_of (xs := ts) (I.ok.hd hc) hl.isList (by simpa using rv) (by rw [List.size_toArray, il]; exact Nat.lt_of_le_of_lt (show ts.length + 1 ≤ 1001 by omega) (by decide)) fun h' tk ls kp XX m => ?_
  exact ⟨.ref s.heap.objs.size, upd H s.heap.objs.size (SetS X.prog X.w s.heap.objs.size ls), I.laid (t' := tk) kp (Nat.le_refl _) (setS_ok XX), rfl, q _ ls (I.hok.fresh (Nat.le_refl _)) m⟩
def rSortSet (P : Program) (w : World) : List V → Hp → VK → Prop := fun xs H Q => ∃ (a : Addr) (ls : List Str), xs = [.ref a] ∧ H a = some (SetS P w a ls) ∧ (∀ l : List Str, l.Nodup → (∀ m, m ∈ l ↔ m ∈ ls) → l.length < 64) ∧
  ∀ (p : Addr) (ys : List Str), H p = none → sortedS ys = true → ys.Nodup → (∀ m, m ∈ ys ↔ m ∈ ls) → Q (.ref p) (upd H p (.lst (ys.map V.str)))
theorem perm_of {α : Type} [DecidableEq α] : ∀ {l ys : List α}, l.Nodup → (∀ m ∈ l, m ∈ ys) → ys.length = l.length → ys.Perm l
  | [], ys, _, _, e => by rw [List.length_eq_zero_iff.mp e]
  | x :: l, ys, n, h, e => by
    obtain ⟨n1, n2⟩ := List.nodup_cons.mp n
    have hx : x ∈ ys := h x List.mem_cons_self
    have le : (ys.erase x).length = l.length := by
      rw [List.length_erase_of_mem hx, e, List.length_cons, Nat.add_sub_cancel]
    exact (List.perm_cons_erase hx).trans ((perm_of n2 (fun m hm => (List.mem_erase_of_ne (fun z : m = x => n1 (by rw [← z]; exact hm))).mpr (h m (List.mem_cons_of_mem _ hm))) le).cons x)
theorem cr_sortSet (hc : X.calm = true) : CallR X (.builtin "sorted") (rSortSet X.prog X.w) := by
  intro pins s σ H xs us Q I r h
  obtain ⟨a, ls, rfl, ha, few, q⟩ := h
  obtain rfl := Vals.ref1 r
  have XX : SetX X.prog X.w s.heap a ls := (show ObjOk X.prog X.w H s.heap a (SetS X.prog X.w a ls) from I.hok a _ ha).1
  have nls : ls.Nodup := by
    obtain ⟨_, _, _, n, _⟩ := XX
    exact n
  refine sorted_setX XX (I.ok.hd hc) (few ls nls fun _ => Iff.rfl) fun s' p out c ys kp eg eo hp hat r1 r2 r3 r4 => ?_
  have yl : (ys.map V.str).length ≤ sizeLine := by
    rw [List.length_map, r3, sizeLine_eq]
    have := few ls nls fun _ => Iff.rfl
    omega
  have fr : H p = none := I.hok.fresh hp
  have nys : ys.Nodup := (perm_of nls (fun m hm => (r4 m).mpr hm) r3).nodup_iff.mpr nls
  obtain ⟨h', g', d', tk', os'⟩ := s'
  cases eo
  have J : Inv X pins σ (upd H p (.lst (ys.map V.str))) { s with heap := h', gens := g', drawn := d', toks := tk' } :=
    I.call (ch := []) (Un.laid kp hp fr) (I.hok.laid kp hp ⟨yl, out.toList, c, vals_of_strs r1, hat⟩) (by rw [show g' = s.gens from eg]; exact I.bare) fun _ z => nomatch z
  exact ⟨.ref p, _, J, rfl, q p ys fr r2 nys r4⟩
end
end Ns

/-! SQ3: set(xs), xs couples of texts; sorted of it; < of data. -/
namespace Ns
open PySem PySem.Spec PyProof.Rows L2
open PySem.W (dataLe AllAlike Sortable EachIs)
section
variable {P : Program} {w : World} {K : Type} [DecidableEq K] {knd : KeyKind P w K} {A : Around} {E : Value → Shared → Prop} {s : Shared}
theorem tup_keep {h h' : Heap} {ks : List K} {b : Addr} (hk : IsTupleKey knd h ks b) (k : ∀ o, h.get? b = some o → h'.get? b = some o) : IsTupleKey knd h' ks b := by
  obtain ⟨ob, its, nn, hob, r⟩ := hk
  exact ⟨ob, its, nn, k _ hob, r⟩
theorem InQ.keep {h h' : Heap} {a : Addr} {rs : List (Addr × List K)} {es : Array (Int × Value)} {ep : Nat} {t : SetTable} (G : InQ knd h a rs es ep t) (k : ∀ o, h.get? a = some o → h'.get? a = some o) (tups : ∀ r ∈ rs, IsTupleKey knd h' r.2 r.1) : InQ knd h' a rs es ep t := by
  obtain ⟨ob, hob, r⟩ := G.obj
  exact ⟨⟨ob, k _ hob, r⟩, G.ents, G.tbl, G.once, tups, G.seen, G.space, G.most⟩
theorem inQ_new {h : Heap} {a : Addr} (e : h.get? a = some (set0 w)) : InQ knd h a [] #[] 0 (.fresh 0 0 (!w.params.followText "set-order")) :=
  ⟨⟨_, e, ⟨rfl, rfl, rfl⟩, rfl⟩, rfl, ⟨List.Pairwise.nil, rfl, rfl, .inl rfl, (fun _ z => by cases z), fun i _ _ z => by simp at z⟩, List.nodup_nil, (fun _ z => nomatch z),
    (by show _ ∨ (!w.params.followText "set-order") = true
        cases w.params.followText "set-order" <;> simp), (by show 0 * 5 < 7 * 3; decide), (by show 0 < 64; decide)⟩
/-- a row of tuples goes into the set -/
theorem fill_q (m : Mute knd) {I L S : Addr} {ks : List (Addr × List K)} {items : Array Value} (hh : A.in1.handled = none) (hu : A.in1.units < cLine) (hL : L ≠ I) (hS : S ≠ I) (hSL : S ≠ L) (its : items.toList = ks.map fun r => Value.ref r.1) (few : ks.length < 64) {R : Result → Shared → Prop} :
    ∀ (n i : Nat) (s : Shared) (rs : List (Addr × List K)) (es : Array (Int × Value)) (ep : Nat) (t : SetTable), items.size - i = n → i ≤ items.size → s.heap.IsListIter I L i → s.heap.IsList L items → InQ knd s.heap S rs es ep t → rs.length ≤ i → (∀ r ∈ rs, r ∈ ks) → (∀ k, k ∈ rs.map (·.2) ↔ k ∈ (ks.take i).map (·.2)) →
      (∀ r ∈ ks, IsTupleKey knd s.heap r.2 r.1 ∧ r.1 ≠ S ∧ r.1 ≠ I) →
      (∀ s' rs' es' ep' t', (∀ c o, c ≠ S → c ≠ I → s.heap.get? c = some o → s'.heap.get? c = some o) → s'.gens = s.gens → s'.drawn = s.drawn → s'.os = s.os → InQ knd s'.heap S rs' es' ep' t' → (∀ r ∈ rs', r ∈ ks) → (∀ k, k ∈ rs'.map (·.2) ↔ k ∈ ks.map (·.2)) → R (.ok (.ret .none)) s') →
      codeAny (model P w) A (.builtin "set.update.loop" ⟨[.ref S, .ref I], []⟩) R s := by
  have W := Walks.list (prog := P) (w := w) (A := A.in1) hh I L hL items
  have lx : ks.length = items.size := by rw [← Array.length_toList, its, List.length_map]
  intro n
  induction n with
  | zero =>
    intro i s rs es ep t hn hi i1 i2 G hl sub hm tk q
    have e : i = items.size := by omega
    rw [e] at hm i1
    refine codeAny_builtin F.entry_set_update_loop ?_
    rw [Around.under_plainId F.plain_set_update_loop _]
    refine wpAny_bind (W.done s _ _ ⟨i1, i2⟩ fun h' tok kp => ?_)
    rw [← lx, List.take_length] at hm
    have kpS : ∀ {c : Addr} {o : Obj}, c ≠ I → s.heap.get? c = some o → h'.get? c = some o := fun n2 e => kp _ _ (by rw [List.mem_singleton]; exact n2) e
    exact wpAny_pure (q _ rs es ep t (fun c o _ n2 e => kpS n2 e) rfl rfl rfl (G.keep (fun o => kpS hS) fun r hr => tup_keep (tk r (sub r hr)).1 fun o => kpS (tk r (sub r hr)).2.2) sub hm)
  | succ n ih =>
    intro i s rs es ep t hn hi i1 i2 G hl sub hm tk q
    have lt : i < items.size := by omega
    refine codeAny_builtin F.entry_set_update_loop ?_
    rw [Around.under_plainId F.plain_set_update_loop _]
    refine wpAny_bind (W.item i s _ _ lt ⟨i1, i2⟩ fun v h' tok hv st kp => ?_)
    have kpS : ∀ {c : Addr} {o : Obj}, c ≠ I → s.heap.get? c = some o → h'.get? c = some o := fun n2 e => kp _ _ (by rw [List.mem_singleton]; exact n2) e
    obtain ⟨r, hr, rfl⟩ : ∃ r, ks[i]? = some r ∧ v = .ref r.1 := by
      rw [← Array.getElem?_toList, its, List.getElem?_map] at hv
      obtain ⟨r, h1, h2⟩ := Option.map_eq_some_iff.mp hv
      exact ⟨r, h1, h2.symm⟩
    have rk : r ∈ ks := List.mem_of_getElem? hr
    have tk' : ∀ r ∈ ks, IsTupleKey knd h' r.2 r.1 := fun r hr => tup_keep (tk r hr).1 fun o => kpS (tk r hr).2.2
    have G1 : InQ knd h' S rs es ep t := G.keep (fun o => kpS hS) fun r hr => tk' r (sub r hr)
    refine wpAny_bind (wpAny_holding ?_)
    unfold setAdd
    refine wpAny_holding (wpAny_bind (wpAny_pyHash_tuple hu (tk' r rk) ?_))
    refine add_q m (s := { s with heap := h', toks := tok + (r.2.length + 1) }) G1 (tk' r rk) hu (by omega) fun b h2 rs2 es2 ep2 t2 but G2 c1 c2 => ?_
    have bs : ∀ {c : Addr} {o : Obj}, c ≠ S → h'.get? c = some o → h2.get? c = some o := fun n e => (but.2 _ n).trans e
    have i3 : h2.IsListIter I L (i + 1) := st.1.at fun o e => bs (Ne.symm hS) e
    have i4 : h2.IsList L items := st.2.at fun o e => bs (Ne.symm hSL) e
    have now : (ks.take (i + 1)).map (·.2) = (ks.take i).map (·.2) ++ [r.2] := by rw [List.take_succ, hr, List.map_append]; rfl
    have fin : rs2.length ≤ i + 1 ∧ (∀ r ∈ rs2, r ∈ ks) ∧ ∀ k, k ∈ rs2.map (·.2) ↔ k ∈ (ks.take (i + 1)).map (·.2) := by
      by_cases hin : r.2 ∈ rs.map (·.2)
      · rw [c1 hin]
        refine ⟨by omega, sub, fun k => ?_⟩
        rw [now, List.mem_append, List.mem_singleton, hm]
        exact ⟨.inl, fun z => z.elim id fun e => e ▸ (hm _).mp hin⟩
      · have per := c2 hin
        refine ⟨by rw [per.length_eq, List.length_cons]; omega, fun x hx => (List.mem_cons.mp (per.mem_iff.mp hx)).elim (fun e => e ▸ rk) (sub x), fun k => ?_⟩
        rw [(per.map (·.2)).mem_iff, List.map_cons, List.mem_cons, now, List.mem_append, List.mem_singleton, hm]
        exact Or.comm
    obtain ⟨f1, f2, f3⟩ := fin
    refine wpAny_pure ⟨plainId_quiet F.plain_set_update_loop _, ih (i + 1) _ rs2 es2 ep2 t2 (by omega) lt i3 i4 G2 f1 f2 f3 (fun r hr => ⟨tup_keep (tk' r hr) fun o => bs (tk r hr).2.1, (tk r hr).2⟩) fun s' rs' es' ep' t' k3 g1 g2 g3 G3 s3 m3 => ?_⟩
    exact q s' rs' es' ep' t' (fun c o n1 n2 e => k3 c o n1 n2 (bs n1 (kpS n2 e))) g1 g2 g3 G3 s3 m3
set_option maxHeartbeats 3200000 in
/-- set(xs), xs a list of tuples -/
theorem set_of_q (m : Mute knd) {l : Addr} {items : Array Value} {ks : List (Addr × List K)} {Q : Value → Shared → Prop} (hh : A.handled = none) (hu : A.units + 3 < cLine) (hl : s.heap.IsList l items) (its : items.toList = ks.map fun r => Value.ref r.1) (few : ks.length < 64) (tk : ∀ r ∈ ks, IsTupleKey knd s.heap r.2 r.1)
    (q : ∀ (h' : Heap) (tok : Nat) rs es ep t, (∀ c o, s.heap.get? c = some o → h'.get? c = some o) → InQ knd h' s.heap.objs.size rs es ep t → (∀ r ∈ rs, r ∈ ks) → (∀ k, k ∈ rs.map (·.2) ↔ k ∈ ks.map (·.2)) → Q (.ref s.heap.objs.size) { s with heap := h', toks := tok }) :
    wpAny (model P w) A (call (.type "set") [.ref l]) Q E s := by
  obtain ⟨c, tl, hmro⟩ := F.called_set.mro
  have f1 := F.called_set.made
  have f2 := F.called_set.sub
  have f3 := F.called_set.notType
  have f4 := F.called_set.canCreate
  have f5 := F.typeCall_set_1 (.ref l)
  refine wpAny_call (codeAny_of_tree ?_)
  show wpAny _ _ (callAny (.type "set") _) _ _ _
  refine wpAny_pure ⟨Code.quiet_builtin _ (by decide +kernel), codeAny_builtin F.entry_type_call ?_⟩
  rw [Around.under_plain (weight_type_call_type "set" [.ref l] []) rfl]
  repeat (any_goals (first | assumption | wp_step))
  refine codeAny_mono (code_set_led1 (.ref l) (E := E) (Q₁ := fun obj s₁ => obj = .ref s.heap.objs.size ∧ s₁ = { s with heap := s.heap.push (set0 w) }) ⟨rfl, rfl⟩) fun r s₁ hr => ?_
  rcases r with e | fl
  · exact hr
  cases fl with
  | ret obj =>
    obtain ⟨rfl, rfl⟩ := hr
    have at0 : (s.heap.push (set0 w)).get? s.heap.objs.size = some (set0 w) := Heap.get?_push_size _ rfl
    have ty0 : Shared.TypeIs { s with heap := s.heap.push (set0 w) } (.ref s.heap.objs.size) "set" := ⟨_, at0, rfl⟩
    have f6 := F.called_set.init.lookup
    have f7 := F.called_set.init.bind (.ref s.heap.objs.size)
    repeat (any_goals (first | assumption | wp_step))
    refine codeAny_mono (codeAny_call_builtin (R := wants (fun r s₂ => r = .none ∧ ∃ h' tok rs es ep t, s₂ = { s with heap := h', toks := tok } ∧ (∀ c o, s.heap.get? c = some o → h'.get? c = some o) ∧ InQ knd h' s.heap.objs.size rs es ep t ∧ (∀ r ∈ rs, r ∈ ks) ∧ (∀ k, k ∈ rs.map (·.2) ↔ k ∈ ks.map (·.2))) E)
      F.called_set.init.plain F.entry_set_init (check_set_init_1 ty0 ?_)) fun r₂ s₂ hr₂ => ?_
    · obtain ⟨⟨ocls, odict, odata, oslots⟩, hol, hcl, nl, hdl⟩ := hl
      simp only at hcl hdl
      subst hcl; subst hdl
      have lS : l < s.heap.objs.size := Heap.lt_size hol
      have hol' : (s.heap.push (set0 w)).get? l = some { cls := .type "list", dict := odict, data := .seq items nl, slots := oslots } := Heap.get?_push_of_some _ hol
      have g1 := F.sub_list_set
      have g2 := F.sub_list_frozenset
      have g3 : (Value.type "list" == Value.type "dict") = false := by decide
      have isl : (s.heap.push (set0 w)).IsList l items := ⟨_, hol', rfl, nl, rfl⟩
      unfold Builtin.«set.__init__» noKeywords Builtin.Frozenset.updateFrom
      generalize keep : pyIter = PI
      wp_walk
      subst keep
      refine wpAny_pyIter_list isl (wpAny_bind (wpAny_runValue ?_))
      have up : (s.heap.push (set0 w)).objs.size = s.heap.objs.size + 1 := size_push' _ _
      refine fill_q m (ks := ks) (by simp [hh]) hu (by rw [up]; exact Nat.ne_of_lt (Nat.lt_succ_of_lt lS)) (by rw [up]; exact Nat.ne_of_lt (Nat.lt_succ_self _)) (Nat.ne_of_gt lS) its few items.size 0 _ [] #[] 0 _ (Nat.sub_zero _) (Nat.zero_le _) ⟨_, Heap.get?_push_size _ rfl, rfl, rfl⟩ (isl.push _)
        (inQ_new (Heap.get?_push_of_some _ at0)) (Nat.le_refl _) (fun _ z => nomatch z) (fun k => by rw [List.take_zero]) (fun r hr => ?_) fun s' rs es ep t kp e1 e2 e3 G sub m2 => ?_
      · obtain ⟨ob, i2, nn, hob, rest⟩ := tk r hr
        have lt := Heap.lt_size hob
        exact ⟨⟨ob, i2, nn, Heap.get?_push_of_some _ (Heap.get?_push_of_some _ hob), rest⟩, Nat.ne_of_lt lt, by rw [up]; exact Nat.ne_of_lt (Nat.lt_succ_of_lt lt)⟩
      · obtain ⟨h', g', d', tk', os'⟩ := s'
        cases e1
        cases e2
        cases e3
        refine wpAny_pure (wpAny_pure ⟨rfl, h', tk', rs, es, ep, t, rfl, fun c o e => ?_, G, sub, m2⟩)
        have cl : c < s.heap.objs.size := Heap.lt_size e
        exact kp c o (Nat.ne_of_lt cl) (by rw [up]; exact Nat.ne_of_lt (Nat.lt_succ_of_lt cl)) (Heap.get?_push_of_some _ (Heap.get?_push_of_some _ e))
    · rcases r₂ with e | fl₂
      · exact hr₂
      cases fl₂ with
      | ret r =>
        obtain ⟨rfl, h', tok, rs, es, ep, t, rfl, kp, G, sub, m2⟩ := hr₂
        repeat (any_goals (first | assumption | wp_step))
        exact q h' tok rs es ep t kp G sub m2
      | _ => exact hr₂.elim
  | _ => exact hr.elim
end
end Ns

/-! SQ4: the hand rules of sets of couples of texts; < of data. -/
namespace Ns
open PySem PySem.Spec PyProof.Rows L2
open PySem.W (dataLe dataLt AllAlike Sortable EachIs)
theorem mute_mix (P : Program) (w : World) : Mute (mixKind P w) where
  cls := fun n k v h => by
    rcases keyIs_shape (show keyIs k v = true from h) with ⟨i, t, rfl, rfl⟩ | ⟨x, t, rfl, rfl⟩ <;> cases n <;> rfl
  val := fun n k v h => by
    rcases keyIs_shape (show keyIs k v = true from h) with ⟨i, t, rfl, rfl⟩ | ⟨x, t, rfl, rfl⟩
    · exact ⟨true, by cases n <;> rfl⟩
    · exact ⟨false, by cases n <;> rfl⟩
abbrev Cp := Addr × (Str × Str)
def cpK (p : Cp) : Addr × List Key := (p.1, pK p.2)
theorem pK_one {a b : Str × Str} (h : pK a = pK b) : a = b := by
  injection h with h1 h2
  injection h2 with h2 _
  injection h1 with h1
  injection h2 with h2
  exact Prod.ext h1 h2
/-- what is known of the set's own object -/
def Q0 (P : Program) (w : World) (h : Heap) (a : Addr) (rs : List Cp) : Prop := ∃ (es : Array (Int × Value)) (ep : Nat) (t : SetTable), (∃ ob, h.get? a = some ob ∧ ob.ExactSet ∧ ob.data = .set es ep t) ∧ es.toList = (rs.map cpK).map (entQ (mixKind P w)) ∧
  TabOk t ((rs.map cpK).map (hshQ (mixKind P w))) ∧ ((rs.map cpK).map (·.2)).Nodup ∧ (w.params.followText "set-order" = true ∨ t.led = true) ∧ (rs.map cpK).length * 5 < t.mask * 3 ∧ (rs.map cpK).length < 64
def SetC (P : Program) (w : World) (a : Addr) (rs : List Cp) : HO := .ext fun h => Q0 P w h a rs
theorem setC_ok {P : Program} {w : World} {H : Hp} {h : Heap} {a : Addr} {rs : List Cp} (X : Q0 P w h a rs) : ObjOk P w H h a (SetC P w a rs) := by
  refine ⟨X, ?_, fun h1 h2 x k => ?_⟩
  · obtain ⟨_, _, _, ⟨ob, hob, _⟩, _⟩ := X
    exact ⟨ob, hob⟩
  · obtain ⟨es, ep, t, ⟨ob, hob, r⟩, r2⟩ := (show Q0 P w h1 a rs from x)
    exact ⟨es, ep, t, ⟨ob, k _ hob, r⟩, r2⟩
theorem pull {α β : Type} {f : α → β} {ps : List α} : ∀ {rs : List β}, (∀ r ∈ rs, r ∈ ps.map f) → ∃ qs : List α, rs = qs.map f ∧ ∀ q ∈ qs, q ∈ ps
  | [], _ => ⟨[], rfl, (fun _ z => nomatch z)⟩
  | r :: rs, h => by
    obtain ⟨qs, e, g⟩ := pull (rs := rs) fun x hx => h x (List.mem_cons_of_mem _ hx)
    obtain ⟨p, hp, ep⟩ := List.mem_map.mp (h r List.mem_cons_self)
    exact ⟨p :: qs, by rw [List.map_cons, e, ep], fun q hq => (List.mem_cons.mp hq).elim (fun z => z ▸ hp) (g q)⟩
theorem unmap {α β : Type} {f : α → β} {vs ws : List β} (h : vs.Perm ws) : ∀ {l : List α}, ws = l.map f → ∃ l2 : List α, vs = l2.map f ∧ l2.Perm l := by
  intro l e
  have h2 := h.symm
  clear h
  induction h2 generalizing l with
  | nil => cases l with
    | nil => exact ⟨[], rfl, .nil⟩
    | cons _ _ => cases e
  | cons x _ ih => cases l with
    | nil => cases e
    | cons y l =>
      injection e with e1 e2
      obtain ⟨l2, g1, g2⟩ := ih e2
      exact ⟨y :: l2, by rw [List.map_cons, e1, g1], g2.cons y⟩
  | swap x y l' => match l, e with
    | [], e => cases e
    | [_], e => cases e
    | a :: b :: l, e =>
      injection e with e1 e
      injection e with e2 e3
      exact ⟨b :: a :: l, by rw [List.map_cons, List.map_cons, e1, e2, e3], .swap a b l⟩
  | trans _ _ ih1 ih2 =>
    obtain ⟨l2, g1, g2⟩ := ih1 e
    obtain ⟨l3, g3, g4⟩ := ih2 g1
    exact ⟨l3, g3, g4.trans g2⟩
theorem refs_of {α : Type} {f : α → Addr} : ∀ {ps : List α} {us : List Value}, Vals (ps.map fun p => V.ref (f p)) us → us = ps.map fun p => Value.ref (f p)
  | [], _, .nil => rfl
  | p :: ps, _, .cons r t => by rw [refs_of t, List.map_cons, show _ = Value.ref (f p) from r]
section
variable {X : Cx} {pins : List (Addr × Obj)} {σ : L2.St} {H : Hp} {s : Shared}
theorem cp_tup (I : Inv X pins σ H s) {t : Addr} {k : Str × Str} (h : SqT X.K H t [.str k.1, .str k.2]) : IsTupleKey (mixKind X.prog X.w) s.heap (pK k) t := by
  obtain ⟨its, rv, ⟨ob, hob, hc, nn, hd⟩, _⟩ := I.tuple h
  exact ⟨ob, _, nn, hob, hc, hd, items_are (ks := pK k) (show Vals ((pK k).map kV) its from rv)⟩
def rSetC (K : PySem.W.Frag) (P : Program) (w : World) : List V → Hp → VK → Prop := fun xs H Q => ∃ (l : Addr) (ps : List Cp), xs = [.ref l] ∧ SqL K H l (ps.map fun p => V.ref p.1) ∧ ps.length < 64 ∧ (∀ p ∈ ps, SqT K H p.1 [.str p.2.1, .str p.2.2]) ∧
  ∀ (S : Addr) (rs : List Cp), H S = none → (∀ r ∈ rs, r ∈ ps) → (rs.map (·.2)).Nodup → (∀ k, k ∈ rs.map (·.2) ↔ k ∈ ps.map (·.2)) → Q (.ref S) (upd H S (SetC P w S rs))
theorem call_setC (hc : X.calm = true) (hu : X.A.units + 64 < cLine) : CallR X (.type "set") (rSetC X.K X.prog X.w) := by
  intro pins s σ H xs us Q I r h
  obtain ⟨l, ps, rfl, hs, few, tk, q⟩ := h
  obtain ⟨its, rv, hl, _⟩ := I.list hs
  rw [Vals.ref1 r]
  have ei := refs_of (f := fun p : Cp => p.1) rv
  refine set_of_q (mute_mix X.prog X.w) (ks := ps.map cpK) (I.ok.hd hc) (by omega) hl.isList (by show its = _; rw [ei, List.map_map]; rfl) (by rw [List.length_map]; exact few) (fun r hr => ?_) fun h' tok rs es ep t kp G sub m => ?_
  · obtain ⟨p, hp, rfl⟩ := List.mem_map.mp hr
    exact cp_tup I (tk p hp)
  · obtain ⟨qs, rfl, mem⟩ := pull sub
    have X0 : Q0 X.prog X.w h' s.heap.objs.size qs := ⟨es, ep, t, G.obj, G.ents, G.tbl, G.once, G.seen, G.space, G.most⟩
    have nd := G.once
    rw [List.map_map] at nd
    have nd2 : (qs.map (·.2)).Nodup := by
      have : qs.map ((fun r => r.2) ∘ cpK) = (qs.map (·.2)).map pK := by rw [List.map_map]; rfl
      rw [this] at nd
      exact List.Pairwise.of_map pK (fun _ _ ne e => ne (congrArg pK e)) nd
    refine ⟨.ref s.heap.objs.size, upd H s.heap.objs.size (SetC X.prog X.w s.heap.objs.size qs), I.laid (t' := tok) kp (Nat.le_refl _) (setC_ok X0), rfl, q _ qs (I.hok.fresh (Nat.le_refl _)) mem nd2 fun k => ?_⟩
    have e := m (pK k)
    have key : ∀ l : List Cp, pK k ∈ (l.map cpK).map (·.2) ↔ k ∈ l.map (·.2) := fun l => by
      rw [List.map_map]
      constructor
      · intro z
        obtain ⟨p, hp, ep⟩ := List.mem_map.mp z
        exact List.mem_map.mpr ⟨p, hp, pK_one ep⟩
      · intro z
        obtain ⟨p, hp, ep⟩ := List.mem_map.mp z
        exact List.mem_map.mpr ⟨p, hp, by rw [← ep]; rfl⟩
    rw [key, key] at e
    exact e
def rSortC (K : PySem.W.Frag) (P : Program) (w : World) : List V → Hp → VK → Prop := fun xs H Q => ∃ (S : Addr) (rs : List Cp), xs = [.ref S] ∧ H S = some (SetC P w S rs) ∧ (∀ r ∈ rs, SqT K H r.1 [.str r.2.1, .str r.2.2]) ∧
  ∀ (p : Addr) (qs : List Cp), H p = none → qs.Perm rs → qs.Pairwise (fun a b => dataLe false (fun q : Cp => pD q.2) a b = true) → Q (.ref p) (upd H p (.lst (qs.map fun q => V.ref q.1)))
theorem cr_sortC (hc : X.calm = true) (hu : X.A.units + 64 < cLine) : CallR X (.builtin "sorted") (rSortC X.K X.prog X.w) := by
  intro pins s σ H xs us Q I r h
  obtain ⟨S, rs, rfl, hS, tk, q⟩ := h
  obtain rfl := Vals.ref1 r
  obtain ⟨es, ep, t, ⟨ob, hob, hx, hd⟩, ents, tbl, once, seen, space, most⟩ := (show Q0 X.prog X.w s.heap S rs from (show ObjOk X.prog X.w H s.heap S (SetC X.prog X.w S rs) from I.hok S _ hS).1)
  have len : es.size = rs.length := by
    have e := congrArg List.length ents
    rwa [Array.length_toList, List.length_map, List.length_map] at e
  rw [List.length_map] at most space
  have fit : t.fits es.size = true := by
    have e := tbl.sz
    rw [List.length_map, List.length_map] at e
    unfold SetTable.fits SetTable.fill
    rw [tbl.dm, Bool.and_eq_true, beq_iff_eq, decide_eq_true_eq]
    exact ⟨by omega, by show t.place.size + 0 ≤ t.mask; omega⟩
  refine Calls.call_function_entry kind_sorted plain_sorted entry_sorted (args_sorted1 _) ?_
  unfold Builtin.«sorted»
  refine wpAny_bind (m := checkCount "sorted" 1 1 _) (wpAny_pure ?_)
  refine wpAny_bind (collect_set (A := X.A.in1) (I.ok.hd hc) ⟨ob, hob, hx.1, hd⟩ fit (by rw [len]; exact Nat.lt_trans most (by decide)) tbl.ris seen fun s1 vs k1 z1 g1 o1 pm => ?_)
  rw [ents, List.map_map, List.map_map] at pm
  obtain ⟨r2, rfl, per⟩ := unmap (f := fun r : Cp => Value.ref r.1) pm rfl
  have lv : (r2.map fun r : Cp => Value.ref r.1).length < 64 := by rw [List.length_map, per.length_eq]; exact most
  obtain ⟨h', g', d', tk', os'⟩ := s1
  cases o1
  have J : Inv X pins σ H { s with heap := h', gens := g', drawn := d', toks := tk' } := by
    have eg : g' = s.gens := g1
    exact I.call (ch := []) (Un.kept k1) (I.hok.kept k1) (by rw [eg]; exact I.bare) fun _ z => nomatch z
  refine wpAny_bind (wpAny_newList ?_ (by rw [sizeLine_eq]; omega))
  have hoL : (h'.push (seqObj "list" (r2.map fun r : Cp => Value.ref r.1).toArray 0)).get? h'.objs.size = some (seqObj "list" (r2.map fun r : Cp => Value.ref r.1).toArray 0) := Heap.get?_push_size _ rfl
  have e0 : EachIs (fun v (b : Cp) => v = Value.ref b.1 ∧ SqT X.K H b.1 [.str b.2.1, .str b.2.2]) (r2.map fun r : Cp => Value.ref r.1) r2 := by
    have tk2 : ∀ r ∈ r2, SqT X.K H r.1 [.str r.2.1, .str r.2.2] := fun r hr => tk r (per.mem_iff.mp hr)
    clear per hoL lv pm
    induction r2 with
    | nil => exact .nil
    | cons r r2 ih => exact .cons ⟨rfl, tk2 r List.mem_cons_self⟩ (ih fun x hx => tk2 x (List.mem_cons_of_mem _ hx))
  have al : AllAlike (r2.map fun b : Cp => pD b.2) := AllAlike.of fun _ _ => by simp [PySem.W.alike, PySem.W.alikeAll, pD]
  have so : Sortable (r2.map fun b : Cp => pD b.2) := Sortable.tuples fun _ => ⟨_, _, rfl⟩
  refine wpAny_bind (wpAny_holding (PySem.W.list_sort_data (enc := fun b : Cp => pD b.2) (s := { s with heap := h'.push (seqObj "list" (r2.map fun r : Cp => Value.ref r.1).toArray 0), gens := g', drawn := d', toks := tk' }) hoL e0 (each_and e0 fun b _ v rv => ?_) al so (by rw [← List.length_map (f := fun r : Cp => Value.ref r.1), sizeLine_eq]; omega) (fun b _ => ?_) fun out hlo hO => ?_))
  · obtain ⟨rfl, hq⟩ := rv
    obtain ⟨its, rv2, ⟨ot, hot, hct, nt, hdtt⟩, _⟩ := J.tuple hq
    obtain ⟨u1, u2, rfl, r1, r2⟩ := rv2.two
    obtain ⟨t1, rfl⟩ := r1
    obtain ⟨t2, rfl⟩ := r2
    refine ⟨[], Reads.tuple (Heap.get?_push_of_some _ hot) hct hdtt ?_, fun z => nomatch z⟩
    exact ReadsAll.cons (as := []) (bs := []) (.str _ _) (ReadsAll.cons (as := []) (bs := []) (.str _ _) .nil)
  · have : (pD b.2).depth = 1 := by simp [pD, PyData.depth, PyData.depthAll]
    show X.A.units + 1 + 1 + _ < _
    omega
  · have eo : ∀ {o : List Value} {bs : List Cp}, EachIs (fun v (b : Cp) => v = Value.ref b.1 ∧ SqT X.K H b.1 [.str b.2.1, .str b.2.2]) o bs → o = bs.map fun b : Cp => Value.ref b.1 := fun h => by
      induction h with
      | nil => rfl
      | cons h _ ih => rw [List.map_cons, ih, h.1]
    have eo := eo hO
    obtain ⟨e', he'⟩ := PyProof.Rows.sortedHeap_at (vs := r2.map fun r : Cp => Value.ref r.1) (out := out.toArray) hoL
    have pq : (r2.mergeSort (dataLe false fun b : Cp => pD b.2)).Perm rs := (List.mergeSort_perm _ _).trans per
    have hlen : ((r2.mergeSort (dataLe false fun b : Cp => pD b.2)).map fun q : Cp => V.ref q.1).length ≤ sizeLine := by rw [List.length_map, pq.length_eq, sizeLine_eq]; omega
    have vr : Vals ((r2.mergeSort (dataLe false fun b : Cp => pD b.2)).map fun q : Cp => V.ref q.1) out := by
      rw [eo]
      have := vals_refs ((r2.mergeSort (dataLe false fun b : Cp => pD b.2)).map (·.1))
      rw [List.map_map, List.map_map] at this
      exact this
    refine wpAny_pure ⟨_, rfl, .ref h'.objs.size, upd H h'.objs.size (.lst ((r2.mergeSort (dataLe false fun b : Cp => pD b.2)).map fun q : Cp => V.ref q.1)), J.laid (t' := tk') (fun b u e => ?_) (Nat.le_refl _)
      (show ObjOk X.prog X.w _ _ _ (.lst ((r2.mergeSort (dataLe false fun b : Cp => pD b.2)).map fun q : Cp => V.ref q.1)) from ⟨hlen, out, e', vr, by simpa using he'⟩), rfl, q _ _ (J.hok.fresh (Nat.le_refl _)) pq (PySem.W.sort_pairwise (PySem.W.sortLe_total _ _ _) _)⟩
    have hb : b < h'.objs.size := Heap.lt_size e
    rw [PyProof.Rows.sortedHeap_old (Nat.ne_of_lt hb) (by rw [size_push']; exact Nat.lt_succ_of_lt hb)]
    exact Heap.get?_push_of_some _ e
end
end Ns

/-! SY1: is_rising, _are_cables, _are_cars, is_yard. -/
namespace Ns
open PySem PySem.Spec PyProof.Rows L2
open PySem.W (dataLe dataLt alike)
/-- < of data that are alike -/
def rLtD (K : PySem.W.Frag) : R2 := fun x y H Q => ∃ dx dy, DatV K H x dx ∧ DatV K H y dy ∧ alike dx dy = true ∧ dx ≠ .none ∧ dx.depth ≤ 60 ∧ Q (.bl (dataLt dx dy)) H
theorem op_ltD {X : Cx} (hu : X.A.units + 64 < cLine) : OpR X (compareOp .Lt) (rLtD X.K) := by
  intro pins s σ H x y v u Q I rx ry h
  obtain ⟨dx, dy, h1, h2, al, nn, dp, q⟩ := h
  obtain ⟨as, r1⟩ := reads_of I h1 rx
  obtain ⟨bs, r2⟩ := reads_of I h2 ry
  exact PySem.W.rcLt_alike dx dy X.A s v u as bs r1 r2 al nn (by have := Nat.min_le_left dx.depth dy.depth; omega) _ _ _ _ ⟨.bl _, H, I, rfl, q⟩
end Ns
namespace Y
open PySem PySem.Spec PyProof.Rows L2 Ns
open PySem.W (dataLe dataLt alike)
def risesD (ds : List PyData) : Bool := (ds.zip (ds.drop 1)).all fun p => dataLt p.1 p.2
def spRise (K : PySem.W.Frag) : Sp := fun as H Q _ => ∃ (l : Addr) (xs : List V) (ds : List PyData), as = [.ref l] ∧ SqL K H l xs ∧ DatA K H xs ds ∧ ds.length ≤ 1000 ∧ (∀ a ∈ ds, ∀ b ∈ ds, alike a b = true ∧ a ≠ .none ∧ a.depth ≤ 60) ∧ ∀ H', Same H H' → Q (.bl (risesD ds)) H'
def endsD : PyData → Str × Str | .tuple (.str a :: .str b :: _) => (a, b) | _ => ("", "")
def nameOf : PyData → Str | .tuple (.str a :: _) => a | _ => ""
def cabsB : PyData → Bool | .tuple ds => ds.all cableD && risesD ((ds.map endsD).map pD) | _ => false
def carsB : PyData → Bool | .tuple ds => ds.all carT && risesD ((ds.map nameOf).map .str) | _ => false
def yardB : PyData → Bool | .tuple [a, b] => cabsB a && carsB b | _ => false
theorem cable_shape {d : PyData} (h : cableD d = true) : ∃ a b c, d = .tuple [.str a, .str b, .int c] ∧ nmB a = true ∧ nmB b = true := by
  match d, h with
  | .tuple [a, b, c], h =>
    have h : (nameD a && (nameD b && (!decide (strOf a = strOf b) && (!decide (strOf b = feed) && isCnt c)))) = true := h
    rw [Bool.and_eq_true, Bool.and_eq_true, Bool.and_eq_true, Bool.and_eq_true] at h
    obtain ⟨h1, h2, _, _, h3⟩ := h
    obtain ⟨x, rfl⟩ := name_str h1
    obtain ⟨y, rfl⟩ := name_str h2
    cases c with
    | int i => exact ⟨x, y, i, rfl, h1, h2⟩
    | _ => cases h3
theorem car_shape {d : PyData} (h : carT d = true) : ∃ a b r n, d = .tuple [.str a, .str b, .int r, .int n] ∧ nmB a = true := by
  match d, h with
  | .tuple [a, b, c, e], h =>
    have h : (nameD a && (nameD b && (isPos c && isCnt e))) = true := h
    rw [Bool.and_eq_true, Bool.and_eq_true, Bool.and_eq_true] at h
    obtain ⟨h1, h2, h3, h4⟩ := h
    obtain ⟨x, rfl⟩ := name_str h1
    obtain ⟨y, rfl⟩ := name_str h2
    cases c with
    | int i => cases e with
      | int j => exact ⟨x, y, i, j, rfl, h1⟩
      | _ => cases h4
    | _ => cases h3
section
variable {P : Program} {w : World} {K : PySem.W.Frag} {mg : Str → Option Value} {base : Heap}
theorem scRi : FnScope ["row", "one", "other"] ["row"] (defScope sIsRising) := ⟨rfl, rfl, rfl, by decide +kernel, rfl, by decide +kernel, by decide +kernel⟩
theorem cutV_one (xs : List V) : cutV xs (some (1 : Int)) none = xs.drop 1 := by
  cases xs with
  | nil => rfl
  | cons x xs => exact cut_tail x xs
theorem ok_isRising {f : Addr} {fd : FuncData} (F : Fun K "is_rising" "is_rising" sIsRising f fd) (T : Nat0 mg) : FnOk P w K mg base CX0 1 f fd ["row"] (spRise K) := by
  refine F.ok scRi (fun as H Q E h => ?_) (fun cdv A outer s H as Q E hr h => ?_)
  · obtain ⟨l, xs, ds, rfl, _⟩ := h
    rfl
  · obtain ⟨l, xs, ds, rfl, hS, hA, hl, al, k⟩ := h
    have hun := hr.units
    refine ⟨_, pss_one (ps_ret (pe_callB (cr_all rfl) (by rfl) T.all (by decide +kernel) (pa_cons (pe_lc (own := [("one", 1), ("other", 2)]) (g := gTup K 2 (gCons (gName 1) (gCons (gName 2) gNil))) (tt := tYes) (te := tOp (rLtD K) (tVar 1) (tVar 2)) rfl scRi.nd
      (RZ.pi_zipA (by rfl) T.zip (pa_cons (pv 0) (pa_cons (pe_slice sl_list (pv 0) (po_some pe_int) po_none) pa_nil))) (blkOk_by (N := ["row", "one", "other"]) (sc := defScope sIsRising) (by decide +kernel))
      (fun _ _ _ _ _ => pg_tup rfl (pgs_cons (pg_name (i := 1) scRi.nd rfl (Or.inl rfl)) (pgs_cons (pg_name (i := 2) scRi.nd rfl (Or.inl rfl)) pgs_nil))) (fun _ _ _ _ _ => pts_nil) (fun _ _ _ _ _ => by exact pe_cmpR (op_ltD hun) (pv 1) (pv 2) (nomark _))) pa_nil))), ?_⟩
    have lx := hA.len
    refine ⟨_, rfl, _, rfl, _, rfl, l, xs, rfl, hS, fun p hp => ?_⟩
    rw [cutV_one]
    have M1 := same_new (o := .lst (xs.drop 1)) (Same.refl H) hp
    have ep : SqL K (upd H p (.lst (xs.drop 1))) p (xs.drop 1) := SqL.of upd_same
    generalize upd H p (.lst (xs.drop 1)) = H1 at M1 ep ⊢
    refine ⟨l, p, xs, xs.drop 1, rfl, .inl ⟨Same.seq M1 hS, ep, fun D hD => ?_⟩⟩
    have hDn := fr_none M1 hD
    refine lc_it (walk_zip (K := K) (a := l) (b := p) (xs := xs) (ys := xs.drop 1) (n := (xs.drop 1).length) (by rw [List.length_drop]; omega)) (fun i H' => H' D = some (.lst ((((ds.zip (ds.drop 1)).take i).map fun p => dataLt p.1 p.2).map V.bl)) ∧ Same H1 H') ?_ ?_ ?_ ?_
    · exact ⟨by rw [List.take_zero, upd_same]; rfl, same_new (Same.refl H1) hD⟩
    · rintro i H' _ ⟨_, M⟩
      exact ⟨Same.seq (M1.trans M) hS, Same.seq M ep⟩
    · rintro i u H' H'' hi ⟨q1, M⟩ ⟨T', x', y', rfl, fT, rfl, hx, hy⟩
      have hx : xs[i]? = some x' := hx
      have hy : (xs.drop 1)[i]? = some y' := hy
      rw [List.getElem?_drop] at hy
      obtain ⟨dx, hdx, Dx⟩ := datA_at hA hx
      obtain ⟨dy, hdy, Dy⟩ := datA_at hA hy
      have M2 := same_new (o := .tup [x', y']) M fT
      have e2 := s3u (o := .tup [x', y']) fT q1
      have et : upd H' T' (.tup [x', y']) T' = some (.tup [x', y']) := upd_same
      generalize upd H' T' (.tup [x', y']) = H2 at M2 e2 et ⊢
      have M12 := M1.trans M2
      have hz : (ds.zip (ds.drop 1))[i]? = some (dx, dy) := by rw [List.getElem?_zip_eq_some]; exact ⟨hdx, by rw [List.getElem?_drop]; exact hdy⟩
      obtain ⟨a1, a2, a3⟩ := al dx (List.mem_of_getElem? hdx) dy (List.mem_of_getElem? hdy)
      refine ⟨T', _, rfl, SqT.of et, rfl, _, _, rfl, _, _, rfl, rfl, rfl, _, rfl, _, rfl, dx, dy, Dx.more M12, Dy.more M12, a1, a2, a3, _, e2, ?_, ?_, same_put M2 hD⟩
      · rw [List.length_map, List.length_map, List.length_take, List.length_zip]
        exact small1000 (by omega)
      · rw [upd_same, List.take_succ, hz]
        simp
    rintro H2 ⟨q1, M2⟩
    rw [List.take_of_length_le (by rw [List.length_zip, List.length_drop, List.length_drop]; omega)] at q1
    refine ⟨D, _, rfl, SqL.of q1, ?_⟩
    have e : ((ds.zip (ds.drop 1)).map fun p => dataLt p.1 p.2).all id = risesD ds := by
      rw [List.all_map]
      rfl
    rw [e]
    exact k H2 (M1.trans M2)
end
end Y

/-! SY2: _are_cables, _are_cars, is_yard. -/
namespace Y
open PySem PySem.Spec PyProof.Rows L2 Ns
open PySem.W (dataLe dataLt alike)
theorem datA_pairs {K : PySem.W.Frag} {H : Hp} : ∀ {qs : List Addr} {ks : List (Str × Str)}, Paired (fun q k => H q = some (.tup [.str k.1, .str k.2])) qs ks → DatA K H (qs.map V.ref) (ks.map pD)
  | _, _, .nil => .nil
  | _, _, .cons h t => .cons (.tup (SqT.of h) (.cons (.str _) (.cons (.str _) .nil))) (datA_pairs t)
theorem pD_alike (ks : List (Str × Str)) : ∀ a ∈ ks.map pD, ∀ b ∈ ks.map pD, alike a b = true ∧ a ≠ .none ∧ a.depth ≤ 60 := by
  intro a ha b hb
  obtain ⟨k, _, rfl⟩ := List.mem_map.mp ha
  obtain ⟨m, _, rfl⟩ := List.mem_map.mp hb
  refine ⟨by simp [PySem.W.alike, PySem.W.alikeAll, pD], (fun z => nomatch z), ?_⟩
  have : (pD k).depth = 1 := by simp [pD, PyData.depth, PyData.depthAll]
  omega
theorem str_alike (ks : List Str) : ∀ a ∈ ks.map PyData.str, ∀ b ∈ ks.map PyData.str, alike a b = true ∧ a ≠ .none ∧ a.depth ≤ 60 := by
  intro a ha b hb
  obtain ⟨k, _, rfl⟩ := List.mem_map.mp ha
  obtain ⟨m, _, rfl⟩ := List.mem_map.mp hb
  exact ⟨rfl, (fun z => nomatch z), by simp [PyData.depth]⟩
theorem dat_row3 {K : PySem.W.Frag} {H : Hp} {x : V} {a b : Str} {c : Int} (D : DatV K H x (.tuple [.str a, .str b, .int c])) : ∃ t, x = .ref t ∧ SqT K H t [.str a, .str b, .int c] := by
  generalize e : PyData.tuple [.str a, .str b, .int c] = d at D
  cases D with
  | @tup t us es h1 h2 =>
    injection e with e
    subst e
    cases h2 with | cons d1 h2 => cases h2 with | cons d2 h2 => cases h2 with | cons d3 h2 =>
    cases h2
    cases d1
    cases d2
    cases d3
    exact ⟨_, rfl, h1⟩
  | _ => cases e
theorem dat_row4 {K : PySem.W.Frag} {H : Hp} {x : V} {a b : Str} {c n : Int} (D : DatV K H x (.tuple [.str a, .str b, .int c, .int n])) : ∃ t, x = .ref t ∧ SqT K H t [.str a, .str b, .int c, .int n] := by
  generalize e : PyData.tuple [.str a, .str b, .int c, .int n] = d at D
  cases D with
  | @tup t us es h1 h2 =>
    injection e with e
    subst e
    cases h2 with | cons d1 h2 => cases h2 with | cons d2 h2 => cases h2 with | cons d3 h2 => cases h2 with | cons d4 h2 =>
    cases h2
    cases d1
    cases d2
    cases d3
    cases d4
    exact ⟨_, rfl, h1⟩
  | _ => cases e
theorem bd_tup {w : Nat} {ds : List PyData} (h : Bd w (.tuple ds)) : ds.length ≤ w ∧ ∀ d ∈ ds, Bd w d := by
  simp only [Bd] at h
  exact ⟨h.1, bdA_iff.mp h.2⟩
section
variable {P : Program} {w : World} {K : PySem.W.Frag} {mg : Str → Option Value} {base : Heap}
theorem scAc : FnScope ["thing", "row", "start", "end", "cap"] ["thing"] (defScope sAreCables) := ⟨rfl, rfl, rfl, by decide +kernel, rfl, by decide +kernel, by decide +kernel⟩
theorem ok_areCables {f fB fR : Addr} {fd dB dR : FuncData} (F : Fun K "_are_cables" "_are_cables" sAreCables f fd) (T : Nat0 mg) (GB : FnOk P w K mg base CX0 3 fB dB ["thing"] (spTellS K cableD)) (FB : Fun K "is_cable" "is_cable" sIsCable fB dB) (mB : mg "is_cable" = some (.ref fB)) (bB : Binds K dB ["thing"] [])
    (GR : FnOk P w K mg base CX0 1 fR dR ["row"] (spRise K)) (FR : Fun K "is_rising" "is_rising" sIsRising fR dR) (mR : mg "is_rising" = some (.ref fR)) (bR : Binds K dR ["row"] []) : FnOk P w K mg base CX0 4 f fd ["thing"] (spTellS K cabsB) := by
  refine F.ok scAc (fun as H Q E h => ?_) (fun cdv A outer s H as Q E hr h => ?_)
  · obtain ⟨x, d, rfl, _⟩ := h
    rfl
  · obtain ⟨x, d, rfl, D, bd, k⟩ := h
    have hr1 : Room 1 _ := hr.mono (by decide)
    refine ⟨_, pss_cons (ps_if (PW.pt (pw_or (pt_not (pt_val (pe_callB (call_isD kit_T) (by rfl) T.isi (by decide +kernel) (pa_cons (pv 0) (pa_cons (pe_bltn (v := .ty "tuple") (by rfl) T.tuple (by decide +kernel) rfl) pa_nil)))))
        (pw_or1 (pt_not (pt_val (pe_callB (cr_all rfl) (by rfl) T.all (by decide +kernel) (pa_cons (pe_lc (own := [("row", 1)]) (g := gName 1) (tt := tYes) rfl scAc.nd (pi_tup (pv 0)) (blkOk_by (N := ["thing", "row", "start", "end", "cap"]) (sc := defScope sAreCables) (by decide +kernel))
          (fun _ _ _ _ _ => pg_name (i := 1) scAc.nd rfl (Or.inl rfl)) (fun _ _ _ _ _ => pts_nil) (fun _ _ _ _ _ => pe_call GB hr rfl mB FB.kp bB .nil pass0 (pa_cons (pv 1) pa_nil))) pa_nil))))))) (pss_one (ps_ret pe_bl)) pss_nil)
      (pss_one (ps_ret (pe_call GR hr1 rfl mR FR.kp bR .nil pass0 (pa_cons (pe_lc (own := [("start", 2), ("end", 3), ("cap", 4)]) (g := gTup K 3 (gCons (gName 2) (gCons (gName 3) (gCons (gName 4) gNil)))) (tt := tYes) rfl scAc.nd (pi_tup (pv 0))
          (blkOk_by (N := ["thing", "row", "start", "end", "cap"]) (sc := defScope sAreCables) (by decide +kernel)) (fun _ _ _ _ _ => pg_tup rfl (pgs_cons (pg_name (i := 2) scAc.nd rfl (Or.inl rfl)) (pgs_cons (pg_name (i := 3) scAc.nd rfl (Or.inl rfl)) (pgs_cons (pg_name (i := 4) scAc.nd rfl (Or.inl rfl)) pgs_nil)))) (fun _ _ _ _ _ => pts_nil)
          (fun _ _ _ _ _ => pe_tup (pa_cons (pv 2) (pa_cons (pv 3) pa_nil)))) pa_nil)))), ?_⟩
    refine ⟨_, rfl, x, d, rfl, D, qT d, rfl, ?_⟩
    refine ite2 (fun h => ?_) (fun h => ?_)
    · have e : cabsB d = false := by cases d <;> first | rfl | exact absurd h Bool.false_ne_true
      rw [e] at k
      exact k H (Same.refl H)
    obtain ⟨a, xs, ds, rfl, rfl, hT, hA⟩ := dat_tup D (by simpa using h)
    obtain ⟨b1, b2⟩ := bd_tup bd
    have lx := hA.len
    refine ⟨_, rfl, a, rfl, ⟨_, hT⟩, fun D1 hD1 => ?_⟩
    refine lc_tup (K := K) (a := a) (xs := xs) (fun i H' => H' D1 = some (.lst (((ds.take i).map cableD).map V.bl)) ∧ Same H H') ?_ ?_ ?_ ?_
    · exact ⟨by rw [List.take_zero, upd_same]; rfl, same_new (Same.refl H) hD1⟩
    · rintro i H' _ ⟨_, M⟩
      exact sqt_more M hT
    · rintro i u H' hu ⟨q1, M⟩
      obtain ⟨du, hdu, Du⟩ := datA_at hA hu
      refine ⟨rfl, _, rfl, u, du, rfl, Du.more M, b2 du (List.mem_of_getElem? hdu), fun H2 M2 => ⟨_, M2 _ _ q1, ?_, ?_, same_put (M.trans M2) hD1⟩⟩
      · rw [List.length_map, List.length_map, List.length_take]
        exact small1000 (by omega)
      · rw [upd_same, List.take_succ, hdu]
        simp
    rintro H1 ⟨q1, M1⟩
    rw [lx, List.take_length] at q1
    refine ⟨D1, _, rfl, SqL.of q1, _, rfl, ?_⟩
    have ea : ((ds.map cableD).all id) = ds.all cableD := by rw [List.all_map]; rfl
    rw [ea]
    refine ite2 (fun h => ?_) (fun h => ?_)
    · have e : cabsB (.tuple ds) = false := by
        show (ds.all cableD && _) = false
        rw [show ds.all cableD = false by simpa using h, Bool.false_and]
      rw [e] at k
      exact k H1 M1
    have hall : ds.all cableD = true := by simpa using h
    have k' : ∀ H', Same H H' → Q (.bl (risesD ((ds.map endsD).map pD))) H' := fun H' M => by
      have := k H' M
      rwa [show cabsB (.tuple ds) = (ds.all cableD && risesD ((ds.map endsD).map pD)) from rfl, hall, Bool.true_and] at this
    clear k q1 ea h
    refine ⟨_, rfl, a, rfl, ⟨_, sqt_more M1 hT⟩, fun D2 hD2 => ?_⟩
    have hD2n := fr_none M1 hD2
    refine lc_tup (K := K) (a := a) (xs := xs) (fun i H' => ∃ qs : List Addr, H' D2 = some (.lst (qs.map V.ref)) ∧ Paired (fun q k => H' q = some (.tup [.str k.1, .str k.2])) qs ((ds.take i).map endsD) ∧ Same H H') ?_ ?_ ?_ ?_
    · exact ⟨[], upd_same, by rw [List.take_zero]; exact .nil, same_new M1 hD2⟩
    · rintro i H' _ ⟨_, _, _, M⟩
      exact sqt_more M hT
    · rintro i u H' hu ⟨qs, g1, g2, M⟩
      obtain ⟨du, hdu, Du⟩ := datA_at hA hu
      obtain ⟨z1, z2, z3, rfl, _⟩ := cable_shape (List.all_eq_true.mp hall du (List.mem_of_getElem? hdu))
      obtain ⟨tu, rfl, hTu⟩ := dat_row3 (Du.more M)
      refine ⟨tu, _, rfl, hTu, rfl, _, _, rfl, _, _, rfl, _, _, rfl, rfl, rfl, ?_⟩
      refine ⟨_, rfl, _, rfl, by show 2 ≤ sizeLine; decide, fun q hq => ⟨qs.map V.ref, s3u hq g1, ?_, qs ++ [q], ?_, ?_, ?_⟩⟩
      · have := paired_len g2
        rw [List.length_map, List.length_take] at this
        rw [List.length_map]
        exact small1000 (by omega)
      · rw [upd_same, List.map_append]
        rfl
      · have nD : D2 ≠ q := fun e => by rw [e, hq] at g1; cases g1
        have keep : ∀ {r : Addr} {o : HO}, r ≠ D2 → H' r = some o → upd (upd H' q (.tup [.str z1, .str z2])) D2 (.lst (qs.map V.ref ++ [.ref q])) r = some o := fun n e => by rw [upd_ne n]; exact s3u hq e
        rw [List.take_succ, hdu, List.map_append]
        exact paired_snoc (by rw [upd_ne nD.symm]; exact upd_same) (paired_imp (fun r e hr' => keep (fun z => by rw [z, g1] at hr'; cases hr') hr') g2)
      · exact same_put (same_new M hq) hD2n
    rintro H2 ⟨qs, g1, g2, M2⟩
    rw [lx, List.take_length] at g2
    refine ⟨D2, qs.map V.ref, (ds.map endsD).map pD, rfl, SqL.of g1, datA_pairs g2, by rw [List.length_map, List.length_map]; omega, pD_alike _, fun H3 M3 => k' H3 (M2.trans M3)⟩
end
end Y

/-! SY3: _are_cars, is_yard. -/
namespace Y
open PySem PySem.Spec PyProof.Rows L2 Ns
open PySem.W (dataLe dataLt alike)
theorem datA_strs {K : PySem.W.Frag} {H : Hp} : ∀ zs : List Str, DatA K H (zs.map V.str) (zs.map PyData.str)
  | [] => .nil
  | z :: zs => .cons (.str z) (datA_strs zs)
theorem row2 {K : PySem.W.Frag} {H : Hp} {xs : List V} {ds : List PyData} (h : DatA K H xs ds) (l : ds.length = 2) : ∃ x1 x2 d1 d2, xs = [x1, x2] ∧ ds = [d1, d2] ∧ DatV K H x1 d1 ∧ DatV K H x2 d2 := by
  match ds, l with
  | [a, b], _ =>
    cases h with | cons h1 h => cases h with | cons h2 h =>
    cases h
    exact ⟨_, _, _, _, rfl, rfl, h1, h2⟩
theorem yard_not {d : PyData} (h : ¬ tupN 2 d = true) : yardB d = false := by
  match d, h with
  | .tuple [a, b], h => exact absurd rfl h
  | .tuple [], _ => rfl
  | .tuple [_], _ => rfl
  | .tuple (_ :: _ :: _ :: _), _ => rfl
  | .none, _ => rfl
  | .bool _, _ => rfl
  | .int _, _ => rfl
  | .str _, _ => rfl
  | .list _, _ => rfl
  | .dict _, _ => rfl
section
variable {P : Program} {w : World} {K : PySem.W.Frag} {mg : Str → Option Value} {base : Heap}
theorem scAr : FnScope ["thing", "row"] ["thing"] (defScope sAreCars) := ⟨rfl, rfl, rfl, by decide +kernel, rfl, by decide +kernel, by decide +kernel⟩
theorem ok_areCars {f fB fR : Addr} {fd dB dR : FuncData} (F : Fun K "_are_cars" "_are_cars" sAreCars f fd) (T : Nat0 mg) (GB : FnOk P w K mg base CX0 3 fB dB ["thing"] (spTellS K carT)) (FB : Fun K "is_car" "is_car" sIsCar fB dB) (mB : mg "is_car" = some (.ref fB)) (bB : Binds K dB ["thing"] [])
    (GR : FnOk P w K mg base CX0 1 fR dR ["row"] (spRise K)) (FR : Fun K "is_rising" "is_rising" sIsRising fR dR) (mR : mg "is_rising" = some (.ref fR)) (bR : Binds K dR ["row"] []) : FnOk P w K mg base CX0 4 f fd ["thing"] (spTellS K carsB) := by
  refine F.ok scAr (fun as H Q E h => ?_) (fun cdv A outer s H as Q E hr h => ?_)
  · obtain ⟨x, d, rfl, _⟩ := h
    rfl
  · obtain ⟨x, d, rfl, D, bd, k⟩ := h
    have hr1 : Room 1 _ := hr.mono (by decide)
    refine ⟨_, pss_cons (ps_if (PW.pt (pw_or (pt_not (pt_val (pe_callB (call_isD kit_T) (by rfl) T.isi (by decide +kernel) (pa_cons (pv 0) (pa_cons (pe_bltn (v := .ty "tuple") (by rfl) T.tuple (by decide +kernel) rfl) pa_nil)))))
        (pw_or1 (pt_not (pt_val (pe_callB (cr_all rfl) (by rfl) T.all (by decide +kernel) (pa_cons (pe_lc (own := [("row", 1)]) (g := gName 1) (tt := tYes) rfl scAr.nd (pi_tup (pv 0)) (blkOk_by (N := ["thing", "row"]) (sc := defScope sAreCars) (by decide +kernel))
          (fun _ _ _ _ _ => pg_name (i := 1) scAr.nd rfl (Or.inl rfl)) (fun _ _ _ _ _ => pts_nil) (fun _ _ _ _ _ => pe_call GB hr rfl mB FB.kp bB .nil pass0 (pa_cons (pv 1) pa_nil))) pa_nil))))))) (pss_one (ps_ret pe_bl)) pss_nil)
      (pss_one (ps_ret (pe_call GR hr1 rfl mR FR.kp bR .nil pass0 (pa_cons (pe_lc (own := [("row", 1)]) (g := gName 1) (tt := tYes) (te := tOp (rIxT K) (tVar 1) (tC (V.int 0))) rfl scAr.nd (pi_tup (pv 0))
          (blkOk_by (N := ["thing", "row"]) (sc := defScope sAreCars) (by decide +kernel)) (fun _ _ _ _ _ => pg_name (i := 1) scAr.nd rfl (Or.inl rfl)) (fun _ _ _ _ _ => pts_nil)
          (fun _ _ _ _ _ => by exact pe_ix ix_tup (pv 1) pe_int (fun _ _ => rfl))) pa_nil)))), ?_⟩
    refine ⟨_, rfl, x, d, rfl, D, qT d, rfl, ?_⟩
    refine ite2 (fun h => ?_) (fun h => ?_)
    · have e : carsB d = false := by cases d <;> first | rfl | exact absurd h Bool.false_ne_true
      rw [e] at k
      exact k H (Same.refl H)
    obtain ⟨a, xs, ds, rfl, rfl, hT, hA⟩ := dat_tup D (by simpa using h)
    obtain ⟨b1, b2⟩ := bd_tup bd
    have lx := hA.len
    refine ⟨_, rfl, a, rfl, ⟨_, hT⟩, fun D1 hD1 => ?_⟩
    refine lc_tup (K := K) (a := a) (xs := xs) (fun i H' => H' D1 = some (.lst (((ds.take i).map carT).map V.bl)) ∧ Same H H') ?_ ?_ ?_ ?_
    · exact ⟨by rw [List.take_zero, upd_same]; rfl, same_new (Same.refl H) hD1⟩
    · rintro i H' _ ⟨_, M⟩
      exact sqt_more M hT
    · rintro i u H' hu ⟨q1, M⟩
      obtain ⟨du, hdu, Du⟩ := datA_at hA hu
      refine ⟨rfl, _, rfl, u, du, rfl, Du.more M, b2 du (List.mem_of_getElem? hdu), fun H2 M2 => ⟨_, M2 _ _ q1, ?_, ?_, same_put (M.trans M2) hD1⟩⟩
      · rw [List.length_map, List.length_map, List.length_take]
        exact small1000 (by omega)
      · rw [upd_same, List.take_succ, hdu]
        simp
    rintro H1 ⟨q1, M1⟩
    rw [lx, List.take_length] at q1
    refine ⟨D1, _, rfl, SqL.of q1, _, rfl, ?_⟩
    have ea : ((ds.map carT).all id) = ds.all carT := by rw [List.all_map]; rfl
    rw [ea]
    refine ite2 (fun h => ?_) (fun h => ?_)
    · have e : carsB (.tuple ds) = false := by
        show (ds.all carT && _) = false
        rw [show ds.all carT = false by simpa using h, Bool.false_and]
      rw [e] at k
      exact k H1 M1
    have hall : ds.all carT = true := by simpa using h
    have k' : ∀ H', Same H H' → Q (.bl (risesD ((ds.map nameOf).map .str))) H' := fun H' M => by
      have := k H' M
      rwa [show carsB (.tuple ds) = (ds.all carT && risesD ((ds.map nameOf).map .str)) from rfl, hall, Bool.true_and] at this
    clear k q1 ea h
    refine ⟨_, rfl, a, rfl, ⟨_, sqt_more M1 hT⟩, fun D2 hD2 => ?_⟩
    have hD2n := fr_none M1 hD2
    refine lc_tup (K := K) (a := a) (xs := xs) (fun i H' => H' D2 = some (.lst (((ds.take i).map nameOf).map V.str)) ∧ Same H H') ?_ ?_ ?_ ?_
    · exact ⟨by rw [List.take_zero, upd_same]; rfl, same_new M1 hD2⟩
    · rintro i H' _ ⟨_, M⟩
      exact sqt_more M hT
    · rintro i u H' hu ⟨g1, M⟩
      obtain ⟨du, hdu, Du⟩ := datA_at hA hu
      obtain ⟨z1, z2, z3, z4, rfl, _⟩ := car_shape (List.all_eq_true.mp hall du (List.mem_of_getElem? hdu))
      obtain ⟨tu, rfl, hTu⟩ := dat_row4 (Du.more M)
      refine ⟨rfl, _, rfl, tu, _, 0, _, rfl, rfl, hTu, at0, _, g1, ?_, ?_, same_put M hD2n⟩
      · rw [List.length_map, List.length_map, List.length_take]
        exact small1000 (by omega)
      · rw [upd_same, List.take_succ, hdu]
        simp [nameOf]
    rintro H2 ⟨g1, M2⟩
    rw [lx, List.take_length] at g1
    refine ⟨D2, _, (ds.map nameOf).map .str, rfl, SqL.of g1, datA_strs _, by rw [List.length_map, List.length_map]; omega, str_alike _, fun H3 M3 => k' H3 (M2.trans M3)⟩
theorem scYd : FnScope ["thing"] ["thing"] (defScope sIsYard) := ⟨rfl, rfl, rfl, by decide +kernel, rfl, by decide +kernel, by decide +kernel⟩
theorem ok_isYard {f fU fC fR : Addr} {fd dU dC dR : FuncData} (F : Fun K "is_yard" "is_yard" sIsYard f fd) (GU : FnOk P w K mg base CX0 1 fU dU ["many", "thing"] (spTup K)) (FU : Fun K "is_tuple_of" "is_tuple_of" sIsTupleOf fU dU) (mU : mg "is_tuple_of" = some (.ref fU)) (bU : Binds K dU ["many", "thing"] [])
    (GC : FnOk P w K mg base CX0 4 fC dC ["thing"] (spTellS K cabsB)) (FC : Fun K "_are_cables" "_are_cables" sAreCables fC dC) (mC : mg "_are_cables" = some (.ref fC)) (bC : Binds K dC ["thing"] [])
    (GR : FnOk P w K mg base CX0 4 fR dR ["thing"] (spTellS K carsB)) (FR : Fun K "_are_cars" "_are_cars" sAreCars fR dR) (mR : mg "_are_cars" = some (.ref fR)) (bR : Binds K dR ["thing"] []) : FnOk P w K mg base CX0 5 f fd ["thing"] (spTellS K yardB) := by
  refine F.ok scYd (fun as H Q E h => ?_) (fun cdv A outer s H as Q E hr h => ?_)
  · obtain ⟨x, d, rfl, _⟩ := h
    rfl
  · obtain ⟨x, d, rfl, D, bd, k⟩ := h
    have hr1 : Room 1 _ := hr.mono (by decide)
    refine ⟨_, pss_one (ps_ret (pe_and (pe_call GU hr1 rfl mU FU.kp bU .nil pass0 (pa_cons pe_int (pa_cons (pv 0) pa_nil))) (pe_and (pe_call GC hr rfl mC FC.kp bC .nil pass0 (pa_cons (pe_ix ix_tup (pv 0) pe_int (fun _ _ => rfl)) pa_nil))
      (pe_one (pe_call GR hr rfl mR FR.kp bR .nil pass0 (pa_cons (pe_ix ix_tup (pv 0) pe_int (fun _ _ => rfl)) pa_nil)))))), ?_⟩
    refine ⟨_, rfl, 2, x, d, rfl, D, _, rfl, ?_⟩
    refine ite2 (fun h => ?_) (fun h => ?_)
    · obtain ⟨a, xs, ds, rfl, rfl, hT, hA⟩ := dat_tup D (by cases d <;> first | rfl | cases h)
      have l2 : ds.length = 2 := by
        have := of_decide_eq_true (show decide ((ds.length : Int) = 2) = true from h)
        omega
      obtain ⟨x1, x2, d1, d2, rfl, rfl, D1, D2⟩ := row2 hA l2
      obtain ⟨b1, b2⟩ := bd_tup bd
      refine ⟨_, rfl, a, _, 0, x1, rfl, rfl, hT, at0, x1, d1, rfl, D1, b2 d1 (.head _), fun H1 M1 => ⟨_, rfl, ?_⟩⟩
      refine ite2 (fun h1 => ?_) (fun h1 => ?_)
      · refine ⟨_, rfl, a, _, 1, x2, rfl, rfl, sqt_more M1 hT, at1, x2, d2, rfl, D2.more M1, b2 d2 (.tail _ (.head _)), fun H2 M2 => ?_⟩
        have := k H2 (M1.trans M2)
        rwa [show yardB (.tuple [d1, d2]) = (cabsB d1 && carsB d2) from rfl, h1, Bool.true_and] at this
      · have := k H1 M1
        rwa [show yardB (.tuple [d1, d2]) = (cabsB d1 && carsB d2) from rfl, show cabsB d1 = false by simpa using h1, Bool.false_and] at this
    · have e : yardB d = false := yard_not h
      rw [e] at k
      exact k H (Same.refl H)
end
end Y

namespace Y
open PySem PySem.Spec PyProof.Rows L2 Ns
open C8 (pss_cut)
/-- drawn cars, in their order -/
structure Cars (ns nm : List Str) (cs : List Car) : Prop where
  srt : sortedS (cs.map (·.1)) = true
  perm : (cs.map (·.1)).Perm nm
  each : ∀ c ∈ cs, c.2.1 ∈ feed :: ns ∧ 1 ≤ c.2.2.1 ∧ c.2.2.1 ≤ 10 ^ 12 ∧ 0 ≤ c.2.2.2 ∧ c.2.2.2 < 10 ^ 12
/-- a new tuple of a car -/
def CarT (H : Hp) (b : Addr) (x : V) (c : Car) : Prop := ∃ t, x = .ref t ∧ t ≠ b ∧ H t = some (.tup [.str c.1, .str c.2.1, .int c.2.2.1, .int c.2.2.2])
theorem CarT.more {H H' : Hp} {b : Addr} (m : ∀ t xs, t ≠ b → H t = some (.tup xs) → H' t = some (.tup xs)) {x : V} {c : Car} (h : CarT H b x c) : CarT H' b x c := by
  obtain ⟨t, e, n, q⟩ := h
  exact ⟨t, e, n, m _ _ n q⟩
def spCars (K : PySem.W.Frag) : Sp := fun as H Q _ => ∃ (b a c : Addr) (nm ns : List Str) (most : Int), as = [.ref b, .ref a, .ref c, .int most] ∧ Bag H b ∧ SqL K (wo H b) a (txs nm) ∧ H c = some (.lst (txs ns)) ∧ c ≠ b ∧ nm.length ≤ 30 ∧ ns.length ≤ 50 ∧ 2 ≤ most ∧ most < 10 ^ 12 ∧
  ∀ (p : Addr) (xs : List V) (cs : List Car) (H' : Hp), Cars ns nm cs → H' p = some (.tup xs) → Paired (CarV K (wo H' b)) xs cs → H p = none → p ≠ b → Bag H' b → Sb b H H' → Q (.ref p) H'
section
variable {P : Program} {w : World} {K : PySem.W.Frag} {mg : Str → Option Value} {base : Heap}
theorem scR : FnScope ["bag", "names", "knots", "most", "found", "name", "knot", "rate", "need"] ["bag", "names", "knots", "most"] (defScope sCars) := ⟨rfl, rfl, rfl, by decide +kernel, rfl, by decide +kernel, by decide +kernel⟩
theorem ok_cars {f fT fS fZ : Addr} {fd fdT fdS fdZ : FuncData} (F : Fun K "_law_cars" "_law_cars" sCars f fd) (T : Nat0 mg) (FT : Fun K "_law_take" "_law_take" sTake fT fdT) (mT : mg "_law_take" = some (.ref fT)) (bT : Binds K fdT ["bag", "many"] [])
    (FS : Fun K "_law_some" "_law_some" sSome fS fdS) (mS : mg "_law_some" = some (.ref fS)) (bS : Binds K fdS ["bag", "things"] [])
    (GZ : FnOk P w K mg base CX0 3 fZ fdZ ["bag", "most"] spSize) (FZ : Fun K "_law_size" "_law_size" sSize fZ fdZ) (mZ : mg "_law_size" = some (.ref fZ)) (bZ : Binds K fdZ ["bag", "most"] []) :
    FnOk P w K mg base CX0 4 f fd ["bag", "names", "knots", "most"] (spCars K) := by
  have GT : FnOk P w K mg base CX0 1 fT fdT ["bag", "many"] spTake := ok_take FT T
  have GS : FnOk P w K mg base CX0 2 fS fdS ["bag", "things"] (spSome K) := ok_some FS T FT mT bT
  refine F.ok scR (fun as H Q E h => ?_) (fun cdv A outer s H as Q E hr h => ?_)
  · obtain ⟨b, a, c, nm, ns, most, rfl, _⟩ := h
    rfl
  · obtain ⟨b, a, c, nm, ns, most, rfl, hB, hS, hC, ncb, hnm, hns, hmo, hmo2, k⟩ := h
    have hr1 : Room 1 _ := hr.mono (by decide)
    have hr2 : Room 2 _ := hr.mono (by decide)
    refine ⟨_, pss_cons (ps_set (i := 4) scR.nd rfl (.inl rfl) (pe_lst pa_nil))
      (pss_cons (ps_for PassesOwn.never rfl (pi_list (pe_callB cr_sortedS (by rfl) T.sorted (by decide +kernel) (pa_cons (pv 1) pa_nil))) (pg_name (i := 5) scR.nd rfl (.inl rfl))
        (pss_cons (ps_set (i := 6) scR.nd rfl (.inl rfl) (pe_call GS hr2 rfl mS FS.kp bS .nil pass0 (pa_cons (pv 0) (pa_cons (pe_op op_cat (pe_op op_cat (pe_lst (pa_cons pe_str pa_nil)) (pv 2)) (pv 2)) pa_nil))))
        (pss_cons (ps_set (i := 7) scR.nd rfl (.inl rfl) (pe_callB (call_max2 rfl) (by rfl) T.max (by decide +kernel) (pa_cons pe_int (pa_cons (pe_call GS hr2 rfl mS FS.kp bS .nil pass0 (pa_cons (pv 0) (pa_cons (pe_lst (pa_cons pe_int (pa_cons pe_int (pa_cons (pe_call GZ hr rfl mZ FZ.kp bZ .nil pass0 (pa_cons (pv 0) (pa_cons (pv 3) pa_nil))) (pa_cons pe_int pa_nil))))) pa_nil))) pa_nil))))
        (pss_cons (ps_set (i := 8) scR.nd rfl (.inl rfl) (pe_call GS hr2 rfl mS FS.kp bS .nil pass0 (pa_cons (pv 0) (pa_cons (pe_lst (pa_cons (pe_op op_add pe_int (pe_call GZ hr rfl mZ FZ.kp bZ .nil pass0 (pa_cons (pv 0) (pa_cons (pv 3) pa_nil)))) (pa_cons (pv 7)
            (pa_cons (pe_op op_add (pe_op op_mul pe_int (pv 7)) pe_int) (pa_cons pe_int (pa_cons pe_int (pa_cons (pe_op op_mul pe_int (pv 7)) (pa_cons (pe_call GT hr1 rfl mT FT.kp bT .nil pass0 (pa_cons (pv 0) (pa_cons (pe_op op_add (pv 3) pe_int) pa_nil))) pa_nil)))))))) pa_nil))))
        (pss_one (ps_expr (pe_bm PySem.F.plainAttrs_list PySem.F.slot_list_append PySem.F.type_list_append mt_append (pv 4) (pa_cons (pe_tup (pa_cons (pv 5) (pa_cons (pv 6) (pa_cons (pv 7) (pa_cons (pe_callB (call_min2 rfl) (by rfl) T.min (by decide +kernel) (pa_cons (pv 8) (pa_cons (pe_op op_sub (pe_op op_pow pe_int pe_int) pe_int) pa_nil))) pa_nil))))) pa_nil))))))))
      (pss_one (ps_ret (pe_callTy call_tuple_of (by rfl) T.tuple (by decide +kernel) (pa_cons (pv 4) pa_nil))))), ?_⟩
    refine ⟨by show 0 ≤ sizeLine; decide, fun d hd => ?_⟩
    have ndb : d ≠ b := hB.ne hd
    have ncd : c ≠ d := ne_of_none hC hd
    refine ⟨_, rfl, a, nm, rfl, Same.seq (same_new (Same.refl H) hd) ((wo_sub H b).seq hS), by omega, fun ys p perm srt hp => ⟨p, rfl, ⟨_, .inl (.inl upd_same)⟩, ?_⟩⟩
    have npd : p ≠ d := fun e => by rw [e, upd_same] at hp; cases hp
    have hp0 : H p = none := by rw [upd_ne npd] at hp; exact hp
    have npb : p ≠ b := hB.ne hp0
    have hlen : ys.length = nm.length := perm.length_eq
    refine for_list (K := K) (a := p) (xs := ys.map V.str) (fun i σ H' => ∃ (v5 v6 v7 v8 : Option V) (zs : List V) (cs : List Car), σ = [some (.ref b), some (.ref a), some (.ref c), some (.int most), some (.ref d), v5, v6, v7, v8] ∧ H' d = some (.lst zs) ∧ cs.map (·.1) = ys.take i ∧
      (∀ c ∈ cs, c.2.1 ∈ feed :: ns ∧ 1 ≤ c.2.2.1 ∧ c.2.2.1 ≤ 10 ^ 12 ∧ 0 ≤ c.2.2.2 ∧ c.2.2.2 < 10 ^ 12) ∧ Paired (CarT H' b) zs cs ∧ H' p = some (.lst (ys.map V.str)) ∧ Bag H' b ∧ Sb b H H') ?_ ?_ ?_ ?_
    · exact ⟨none, none, none, none, [], [], rfl, by rw [upd_ne npd.symm, upd_same], by rw [List.take_zero]; rfl, (fun _ z => nomatch z), .nil, upd_same, (hB.new hd).new hp, ((Sb.refl b H).new hd).new hp⟩
    · rintro i σ H' _ ⟨v5, v6, v7, v8, zs, cs, _, _, _, _, _, e, _⟩
      exact .inl (.inl e)
    · rintro i x σ H' hx ⟨v5, v6, v7, v8, zs, cs, rfl, g1, g2, g3, g4, g5, hB1, s1⟩
      rw [List.getElem?_map] at hx
      obtain ⟨y, hy, rfl⟩ := Option.map_eq_some_iff.mp hx
      have tl : (txs ns).length = ns.length := List.length_map _
      -- the knot
      refine ⟨_, rfl, by show 1 ≤ sizeLine; decide, fun q1 hq1 => ⟨_, rfl, q1, c, [.str feed], txs ns, rfl, rfl, upd_same, s3u hq1 (s1.get hC ncb), ?_, fun q2 hq2 => ⟨_, rfl, q2, c, [.str feed] ++ txs ns, txs ns, rfl, rfl, upd_same, s3u hq2 (s3u hq1 (s1.get hC ncb)), ?_, fun q3 hq3 => ?_⟩⟩⟩
      · exact Nat.le_of_lt (small1000 (show 1 + _ ≤ 1000 by omega))
      · rw [List.length_append]
        exact Nat.le_of_lt (small1000 (show 1 + _ + _ ≤ 1000 by omega))
      have hB2 := ((hB1.new (o := .lst [.str feed]) hq1).new (o := .lst ([.str feed] ++ txs ns)) hq2).new (o := .lst ([.str feed] ++ txs ns ++ txs ns)) hq3
      have s2 := ((s1.new (o := .lst [.str feed]) hq1).new (o := .lst ([.str feed] ++ txs ns)) hq2).new (o := .lst ([.str feed] ++ txs ns ++ txs ns)) hq3
      have m2 : Same H' (upd (upd (upd H' q1 (.lst [.str feed])) q2 (.lst ([.str feed] ++ txs ns))) q3 (.lst ([.str feed] ++ txs ns ++ txs ns))) := same_new (same_new (same_new (Same.refl H') hq1) hq2) hq3
      refine ⟨b, q3, _, rfl, hB2, sql_new upd_same (((hB1.new (o := .lst [.str feed]) hq1).new (o := .lst ([.str feed] ++ txs ns)) hq2).ne hq3), (fun z => nomatch z), ?_, fun kn H2 hkn hB3 s3 => ?_⟩
      · rw [List.length_append, List.length_append]
        show 1 + _ + _ ≤ _
        omega
      obtain ⟨kx, hkx, rfl⟩ : ∃ kx, kx ∈ feed :: ns ∧ kn = .str kx := by
        rcases List.mem_append.mp hkn with z | z
        · rcases List.mem_append.mp z with z | z
          · exact ⟨feed, List.mem_cons_self, List.mem_singleton.mp z⟩
          · obtain ⟨u, hu, rfl⟩ := List.mem_map.mp z
            exact ⟨u, List.mem_cons_of_mem _ hu, rfl⟩
        · obtain ⟨u, hu, rfl⟩ := List.mem_map.mp z
          exact ⟨u, List.mem_cons_of_mem _ hu, rfl⟩
      have s03 := s2.trans s3
      have b5 := s3
      -- the rate
      refine ⟨_, rfl, _, rfl, _, rfl, b, most, rfl, hB3, by omega, by omega, fun v H3 v0 v1 hB4 s4 => ⟨by show 4 ≤ sizeLine; decide, fun q4 hq4 => ⟨b, q4, _, rfl, hB4.new hq4, sql_new upd_same (hB4.ne hq4), (fun z => nomatch z), by show 4 ≤ 1000000; decide, fun x H4 hx hB5 s5 => ?_⟩⟩⟩
      obtain ⟨r0, rfl, r1, r2⟩ : ∃ r : Int, x = .int r ∧ 0 ≤ r ∧ r ≤ 10 ^ 12 := by
        simp only [List.mem_cons, List.not_mem_nil, or_false] at hx
        rcases hx with rfl | rfl | rfl | rfl
        · exact ⟨1, rfl, by decide, by decide⟩
        · exact ⟨2, rfl, by decide, by decide⟩
        · exact ⟨v, rfl, v0, by omega⟩
        · exact ⟨3, rfl, by decide, by decide⟩
      refine ⟨1, r0, rfl, ?_⟩
      obtain ⟨R, hR, R1, R2⟩ : ∃ R : Int, (if r0 > 1 then r0 else 1) = R ∧ 1 ≤ R ∧ R ≤ 10 ^ 12 := ⟨_, rfl, by split <;> omega, by split <;> omega⟩
      rw [hR]
      have s05 := ((s03.trans s4).new (o := .lst [.int 1, .int 2, .int v, .int 3]) hq4).trans s5
      -- the need
      refine ⟨_, rfl, _, rfl, _, rfl, b, most, rfl, hB5, by omega, by omega, fun v' H5 v0' v1' hB6 s6 => ⟨1, v', rfl, rfl, _, rfl, _, rfl, 2, R, rfl, rfl, .inl ⟨by decide, by decide⟩, _, 1, rfl, rfl, _, rfl, 3, R, rfl, rfl, .inl ⟨by decide, by decide⟩, _, rfl, _, rfl, most, 1, rfl, rfl, b, _, rfl, hB6, by omega, Nat.lt_of_le_of_lt (show (most + 1).natAbs ≤ (10 ^ 13 : Nat) by omega) (by decide +kernel), fun u H6 u0 u1 hB7 s7 => ?_⟩⟩
      refine ⟨by show 7 ≤ sizeLine; decide, fun q5 hq5 => ⟨b, q5, _, rfl, hB7.new hq5, sql_new upd_same (hB7.ne hq5), (fun z => nomatch z), by show 7 ≤ 1000000; decide, fun x H7 hx hB8 s8 => ?_⟩⟩
      obtain ⟨w', rfl, w0⟩ : ∃ r : Int, x = .int r ∧ 0 ≤ r := by
        simp only [List.mem_cons, List.not_mem_nil, or_false] at hx
        rcases hx with rfl | rfl | rfl | rfl | rfl | rfl | rfl
        · exact ⟨_, rfl, by omega⟩
        · exact ⟨_, rfl, by omega⟩
        · exact ⟨_, rfl, by omega⟩
        · exact ⟨_, rfl, by omega⟩
        · exact ⟨_, rfl, by omega⟩
        · exact ⟨_, rfl, by omega⟩
        · exact ⟨_, rfl, by omega⟩
      have s08 := (((s05.trans s6).trans s7).new (o := .lst [.int (1 + v'), .int R, .int (2 * R + 1), .int 0, .int 3, .int (3 * R), .int u]) hq5).trans s8
      -- what stood
      have sk : Sb b H' H7 := ((((((((Sb.refl b H').same m2).trans s3).trans s4).new (o := .lst [.int 1, .int 2, .int v, .int 3]) hq4).trans s5).trans s6).trans s7).new (o := .lst [.int (1 + v'), .int R, .int (2 * R + 1), .int 0, .int 3, .int (3 * R), .int u]) hq5 |>.trans s8
      have e1 := sk.get g1 ndb
      have e5 := sk.get g5 npb
      refine ⟨_, rfl, .inl ⟨rfl, _, SqL.of e1⟩, _, rfl, _, rfl, _, rfl, _, rfl, 10, 12, rfl, rfl, ⟨by decide, by decide, by decide⟩, _, 1, rfl, rfl, w', _, rfl, by show 4 ≤ sizeLine; decide, fun t ht => ?_⟩
      have ntb : t ≠ b := hB8.ne ht
      have ntd : t ≠ d := fun z => by rw [z, e1] at ht; cases ht
      have hz : zs.length ≤ 30 := by
        have h1 := paired_len g4
        have h2 := congrArg List.length g2
        rw [List.length_map, List.length_take] at h2
        omega
      refine ⟨d, zs, .ref t, rfl, rfl, s3u ht e1, small1000 (by omega), _, _, _, _, zs ++ [.ref t], cs ++ [(y, kx, R, if 10 ^ 12 - 1 < w' then 10 ^ 12 - 1 else w')], rfl, upd_same, ?_, fun cc hcc => ?_, ?_, ?_, ?_, ?_⟩
      · rw [List.map_append, g2, List.take_succ, hy]
        rfl
      · rcases List.mem_append.mp hcc with z | z
        · exact g3 cc z
        · rw [List.mem_singleton.mp z]
          refine ⟨hkx, R1, R2, ?_, ?_⟩
          · show 0 ≤ if (10 : Int) ^ 12 - 1 < w' then (10 : Int) ^ 12 - 1 else w'
            split <;> omega
          · show (if (10 : Int) ^ 12 - 1 < w' then (10 : Int) ^ 12 - 1 else w') < _
            split <;> omega
      · refine paired_snoc ⟨t, rfl, ntb, by rw [upd_ne ntd, upd_same]; rfl⟩ (paired_imp (fun x c h => CarT.more (fun t' xs' n q => ?_) h) g4)
        have n2 : t' ≠ d := fun z => by rw [z, g1] at q; cases q
        rw [upd_ne n2]
        exact s3u ht (sk.get q n)
      · rw [upd_ne npd]
        exact s3u ht e5
      · exact hB.wr hd (s08.new (o := .tup [.str y, .str kx, .int R, .int (if (10 : Int) ^ 12 - 1 < w' then 10 ^ 12 - 1 else w')]) ht) (hB8.new ht)
      · exact (s08.new (o := .tup [.str y, .str kx, .int R, .int (if (10 : Int) ^ 12 - 1 < w' then 10 ^ 12 - 1 else w')]) ht).wr hd
    · rintro σ H' ⟨v5, v6, v7, v8, zs, cs, rfl, g1, g2, g3, g4, g5, hB1, s1⟩
      rw [List.length_map, List.take_length] at g2
      refine ⟨_, rfl, d, zs, rfl, .inl ⟨SqL.of g1, fun l hl => ?_⟩⟩
      have nlb : l ≠ b := hB1.ne hl
      refine k l zs cs _ ⟨by rw [g2]; exact srt, by rw [g2]; exact perm, g3⟩ upd_same ?_ (s1.free hl nlb) nlb (hB1.new hl) (s1.new hl)
      refine paired_imp (fun x c h => ?_) g4
      obtain ⟨t', e, n, q⟩ := h
      exact ⟨t', e, sqt_new (s3u hl q) n⟩
end
end Y

namespace Y
open PySem PySem.Spec PyProof.Rows L2 Ns
open C8 (pss_cut)
theorem Cabs.mono {ns : List Str} {m m' : Int} {k k' : Nat} {cs : List Cab} (h : Cabs ns m k cs) (hm : m ≤ m') (hk : k ≤ k') : Cabs ns m' k' cs :=
  ⟨Nat.le_trans h.len hk, h.nodup, fun c hc => by
    obtain ⟨h1, h2, h3, h4, h5⟩ := h.each c hc
    exact ⟨h1, h2, h3, h4, by omega⟩, h.srt⟩
/-- what a drawn yard is -/
structure YardF (most : Int) (cs : List Cab) (rs : List Car) : Prop where
  ex : ∃ ns nm : List Str, Nms [] ns ∧ ns.length ≤ 8 ∧ Nms [] nm ∧ nm.length ≤ 24 ∧ Cabs ns most 40 cs ∧ Cars ns nm rs
theorem YardF.mono {m m' : Int} {cs : List Cab} {rs : List Car} (h : YardF m cs rs) (hm : m ≤ m') : YardF m' cs rs := by
  obtain ⟨ns, nm, h1, h2, h3, h4, h5, h6⟩ := h.ex
  exact ⟨ns, nm, h1, h2, h3, h4, h5.mono hm (Nat.le_refl _), h6⟩
/-- a yard as a value -/
def YardV (K : PySem.W.Frag) (H : Hp) (y : V) (cs : List Cab) (rs : List Car) : Prop := ∃ (t a b : Addr) (xs zs : List V), y = .ref t ∧ SqT K H t [.ref a, .ref b] ∧ SqT K H a xs ∧ SqT K H b zs ∧ Paired (CabV K H) xs cs ∧ Paired (CarV K H) zs rs
theorem YardV.more {K : PySem.W.Frag} {H H' : Hp} (m : Same H H') {y : V} {cs : List Cab} {rs : List Car} (h : YardV K H y cs rs) : YardV K H' y cs rs := by
  obtain ⟨t, a, b, xs, zs, e, h1, h2, h3, h4, h5⟩ := h
  exact ⟨t, a, b, xs, zs, e, sqt_more m h1, sqt_more m h2, sqt_more m h3, paired_imp (fun _ _ => CabV.more m) h4, paired_imp (fun _ _ => CarV.more m) h5⟩
def spYardOf (K : PySem.W.Frag) : Sp := fun as H Q _ => ∃ (b : Addr) (cars knots cables : Nat) (most : Int), as = [.ref b, .int cars, .int knots, .int cables, .int most] ∧ Bag H b ∧ 2 ≤ cars ∧ cars ≤ 24 ∧ knots ≤ 8 ∧ cables ≤ 40 ∧ 2 ≤ most ∧ most < 10 ^ 12 ∧
  ∀ (y : V) (cs : List Cab) (rs : List Car) (H' : Hp), YardF most cs rs → YardV K (wo H' b) y cs rs → Bag H' b → Sb b H H' → Q y H'
/-- a yard drawn, numbers up to most -/
def spYard (K : PySem.W.Frag) (most : Int) : Sp := fun as H Q _ => ∃ (b : Addr), as = [.ref b] ∧ Bag H b ∧ ∀ (y : V) (cs : List Cab) (rs : List Car) (H' : Hp), YardF most cs rs → YardV K (wo H' b) y cs rs → Bag H' b → Sb b H H' → Q y H'
/-- the yards' defs -/
structure Gen (P : Program) (w : World) (K : PySem.W.Frag) (mg : Str → Option Value) (base : Heap) (fT fS fN fNs fC fR : Addr) (dT dS dN dNs dC dR : FuncData) : Prop where
  T : Fun K "_law_take" "_law_take" sTake fT dT
  mT : mg "_law_take" = some (.ref fT)
  bT : Binds K dT ["bag", "many"] []
  S : Fun K "_law_some" "_law_some" sSome fS dS
  mS : mg "_law_some" = some (.ref fS)
  bS : Binds K dS ["bag", "things"] []
  N : Fun K "_law_names" "_law_names" sNames fNs dNs
  mN : mg "_law_names" = some (.ref fNs)
  bN : Binds K dNs ["bag", "many", "taken"] []
  gN : FnOk P w K mg base CX0 4 fNs dNs ["bag", "many", "taken"] (spNames K)
  C : Fun K "_law_cables" "_law_cables" sCables fC dC
  mC : mg "_law_cables" = some (.ref fC)
  bC : Binds K dC ["bag", "knots", "many", "most"] []
  gC : FnOk P w K mg base CX0 5 fC dC ["bag", "knots", "many", "most"] (spCables K)
  R : Fun K "_law_cars" "_law_cars" sCars fR dR
  mR : mg "_law_cars" = some (.ref fR)
  bR : Binds K dR ["bag", "names", "knots", "most"] []
  gR : FnOk P w K mg base CX0 5 fR dR ["bag", "names", "knots", "most"] (spCars K)
section
variable {P : Program} {w : World} {K : PySem.W.Frag} {mg : Str → Option Value} {base : Heap} {fT fS fN fNs fC fR : Addr} {dT dS dN dNs dC dR : FuncData}
theorem scY : FnScope ["bag", "cars", "knots", "cables", "most", "many", "some"] ["bag", "cars", "knots", "cables", "most"] (defScope sYardOf) := ⟨rfl, rfl, rfl, by decide +kernel, rfl, by decide +kernel, by decide +kernel⟩
theorem ok_yardOf {f : Addr} {fd : FuncData} (F : Fun K "_law_yard_of" "_law_yard_of" sYardOf f fd) (T : Nat0 mg) (G : Gen P w K mg base fT fS fN fNs fC fR dT dS dN dNs dC dR) : FnOk P w K mg base CX0 6 f fd ["bag", "cars", "knots", "cables", "most"] (spYardOf K) := by
  have GT : FnOk P w K mg base CX0 1 fT dT ["bag", "many"] spTake := ok_take G.T T
  have GS : FnOk P w K mg base CX0 2 fS dS ["bag", "things"] (spSome K) := ok_some G.S T G.T G.mT G.bT
  refine F.ok scY (fun as H Q E h => ?_) (fun cdv A outer s H as Q E hr h => ?_)
  · obtain ⟨b, cars, knots, cables, most, rfl, _⟩ := h
    rfl
  · obtain ⟨b, cars, knots, cables, most, rfl, hB, hc1, hc2, hk, hb, hmo, hmo2, k⟩ := h
    have hr1 : Room 1 _ := hr.mono (by decide)
    have hr2 : Room 2 _ := hr.mono (by decide)
    have hr4 : Room 4 _ := hr.mono (by decide)
    have hr5 : Room 5 _ := hr
    refine ⟨_, pss_cons (ps_set (i := 5) scY.nd rfl (.inl rfl) (pe_call GS hr2 rfl G.mS G.S.kp G.bS .nil pass0 (pa_cons (pv 0) (pa_cons (pe_lst (pa_cons (pv 1) (pa_cons (pe_op op_add pe_int (pe_call GT hr1 rfl G.mT G.T.kp G.bT .nil pass0 (pa_cons (pv 0) (pa_cons (pv 1) pa_nil)))) (pa_cons (pv 1)
        (pa_cons (pe_callB (call_max2 rfl) (by rfl) T.max (by decide +kernel) (pa_cons pe_int (pa_cons (pe_op op_sub (pv 1) pe_int) pa_nil))) (pa_cons (pe_call GT hr1 rfl G.mT G.T.kp G.bT .nil pass0 (pa_cons (pv 0) (pa_cons (pe_op op_add (pv 1) pe_int) pa_nil))) pa_nil)))))) pa_nil))))
      (pss_cons (ps_set (i := 6) scY.nd rfl (.inl rfl) (pe_call G.gN hr4 rfl G.mN G.N.kp G.bN .nil pass0 (pa_cons (pv 0) (pa_cons (pe_call GT hr1 rfl G.mT G.T.kp G.bT .nil pass0 (pa_cons (pv 0) (pa_cons (pe_op op_add (pv 2) pe_int) pa_nil))) (pa_cons (pe_lst pa_nil) pa_nil)))))
      (pss_one (ps_ret (pe_tup (pa_cons (pe_call G.gC hr5 rfl G.mC G.C.kp G.bC .nil pass0 (pa_cons (pv 0) (pa_cons (pv 6) (pa_cons (pv 3) (pa_cons (pv 4) pa_nil)))))
        (pa_cons (pe_call G.gR hr5 rfl G.mR G.R.kp G.bR .nil pass0 (pa_cons (pv 0) (pa_cons (pe_call G.gN hr4 rfl G.mN G.N.kp G.bN .nil pass0 (pa_cons (pv 0) (pa_cons (pv 5) (pa_cons (pe_lst pa_nil) pa_nil)))) (pa_cons (pv 6) (pa_cons (pv 4) pa_nil))))) pa_nil)))))), ?_⟩
    have big : (2000 : Nat) < 2 ^ 200 := by decide +kernel
    refine ⟨_, rfl, _, rfl, _, rfl, _, rfl, b, cars, rfl, hB, by omega, by omega, fun v H1 v0 v1 hB1 s1 => ⟨1, v, rfl, rfl, _, rfl, _, rfl, cars, 1, rfl, rfl, 1, _, rfl, _, rfl, _, rfl, cars, 1, rfl, rfl, b, _, rfl, hB1, by omega, by omega, fun u H2 u0 u1 hB2 s2 => ?_⟩⟩
    refine ⟨by show 5 ≤ sizeLine; decide, fun q hq => ⟨b, q, _, rfl, hB2.new hq, sql_new upd_same (hB2.ne hq), (fun z => nomatch z), by show 5 ≤ 1000000; decide, fun x H3 hx hB3 s3 => ?_⟩⟩
    obtain ⟨m, rfl, hm⟩ : ∃ m : Nat, x = .int m ∧ m ≤ 24 := by
      have key : ∀ i : Int, 0 ≤ i → i ≤ 24 → ∃ m : Nat, V.int i = .int m ∧ m ≤ 24 := fun i h0 h1 => ⟨i.toNat, by rw [Int.toNat_of_nonneg h0], by omega⟩
      simp only [List.mem_cons, List.not_mem_nil, or_false] at hx
      rcases hx with rfl | rfl | rfl | rfl | rfl
      · exact key _ (by omega) (by omega)
      · exact key _ (by omega) (by omega)
      · exact key _ (by omega) (by omega)
      · exact key _ (by split <;> omega) (by split <;> omega)
      · exact key _ (by omega) (by omega)
    have s03 := ((s1.trans s2).new (o := .lst [.int cars, .int (1 + v), .int cars, .int (if (cars : Int) - 1 > 1 then (cars : Int) - 1 else 1), .int u]) hq).trans s3
    refine ⟨_, rfl, _, rfl, _, rfl, knots, 1, rfl, rfl, b, _, rfl, hB3, by omega, by omega, fun kn H4 k0 k1 hB4 s4 => ⟨by show 0 ≤ sizeLine; decide, fun q2 hq2 => ?_⟩⟩
    obtain ⟨kn', rfl⟩ : ∃ n : Nat, kn = n := ⟨kn.toNat, by omega⟩
    refine ⟨b, q2, kn', [], rfl, hB4.new hq2, sql_new upd_same (hB4.ne hq2), by show 0 + kn' ≤ 100; omega, (fun _ z => nomatch z), fun p ns H5 hns N5 e5 f5 hB5 s5 => ?_⟩
    have s05 := ((s03.trans s4).new (o := .lst []) hq2).trans s5
    have npb : p ≠ b := (hB4.new (o := .lst []) hq2).ne f5
    refine ⟨_, rfl, _, rfl, _, rfl, _, rfl, b, p, ns, cables, most, rfl, hB5, e5, N5, by omega, by omega, hmo, by omega, fun pc xs cs H6 C6 e6 p6 f6 n6 hB6 s6 => ?_⟩
    refine ⟨_, rfl, _, rfl, _, rfl, by show 0 ≤ sizeLine; decide, fun q3 hq3 => ⟨b, q3, m, [], rfl, hB6.new hq3, sql_new upd_same (hB6.ne hq3), by show 0 + m ≤ 100; omega, (fun _ z => nomatch z), fun pn nm H7 hnm N7 e7 f7 hB7 s7 => ?_⟩⟩
    have npn : pn ≠ b := (hB6.new (o := .lst []) hq3).ne f7
    have s67 := ((Sb.refl b H6).new (o := .lst []) hq3).trans s7
    refine ⟨_, rfl, _, rfl, b, pn, p, nm, ns, most, rfl, hB7, sql_new e7 npn, s67.get (s6.get e5 npb) npb, npb, by omega, by omega, hmo, hmo2, fun pr zs rs H8 R8 e8 p8 f8 n8 hB8 s8 => ?_⟩
    have s68 := s67.trans s8
    refine ⟨by show 2 ≤ sizeLine; decide, fun t ht => ?_⟩
    have sT : Same (wo H8 b) (wo (upd H8 t (.tup [.ref pc, .ref pr])) b) := wo_same (same_new (Same.refl H8) ht)
    refine k (.ref t) cs rs _ ⟨ns, nm, N5, by omega, N7, by omega, C6.mono (Int.le_refl _) hb, R8⟩ ⟨t, pc, pr, xs, zs, rfl, sqt_new upd_same (hB8.ne ht), ?_, ?_, ?_, ?_⟩ (hB8.new ht) (((s05.trans s6).trans s68).new ht)
    · exact sqt_new (s3u ht (s68.get e6 n6)) n6
    · exact sqt_new (s3u ht e8) n8
    · exact paired_imp (fun _ _ h => (h.more s68.1).more sT) p6
    · exact paired_imp (fun _ _ h => h.more sT) p8
end
end Y

namespace Y
open PySem PySem.Spec PyProof.Rows L2 Ns
open C8 (pss_cut)
section
variable {P : Program} {w : World} {K : PySem.W.Frag} {mg : Str → Option Value} {base : Heap} {fT fS fN fNs fC fR : Addr} {dT dS dN dNs dC dR : FuncData}
theorem scSm : FnScope ["bag"] ["bag"] (defScope sSmall) := ⟨rfl, rfl, rfl, by decide +kernel, rfl, by decide +kernel, by decide +kernel⟩
theorem scW : FnScope ["bag", "most"] ["bag"] (defScope sWide) := ⟨rfl, rfl, rfl, by decide +kernel, rfl, by decide +kernel, by decide +kernel⟩
theorem ok_small {f fY : Addr} {fd dY : FuncData} (F : Fun K "_law_small_yard" "_law_small_yard" sSmall f fd) (T : Nat0 mg) (G : Gen P w K mg base fT fS fN fNs fC fR dT dS dN dNs dC dR)
    (FY : Fun K "_law_yard_of" "_law_yard_of" sYardOf fY dY) (mY : mg "_law_yard_of" = some (.ref fY)) (bY : Binds K dY ["bag", "cars", "knots", "cables", "most"] []) : FnOk P w K mg base CX0 7 f fd ["bag"] (spYard K 7) := by
  have GS : FnOk P w K mg base CX0 2 fS dS ["bag", "things"] (spSome K) := ok_some G.S T G.T G.mT G.bT
  have GY : FnOk P w K mg base CX0 6 fY dY ["bag", "cars", "knots", "cables", "most"] (spYardOf K) := ok_yardOf FY T G
  refine F.ok scSm (fun as H Q E h => ?_) (fun cdv A outer s H as Q E hr h => ?_)
  · obtain ⟨b, rfl, _⟩ := h
    rfl
  · obtain ⟨b, rfl, hB, k⟩ := h
    have hr2 : Room 2 _ := hr.mono (by decide)
    refine ⟨_, pss_one (ps_ret (pe_call GY hr rfl mY FY.kp bY .nil pass0 (pa_cons (pv 0) (pa_cons (pe_call GS hr2 rfl G.mS G.S.kp G.bS .nil pass0 (pa_cons (pv 0) (pa_cons (pe_lst (pa_cons pe_int (pa_cons pe_int (pa_cons pe_int (pa_cons pe_int pa_nil))))) pa_nil)))
      (pa_cons pe_int (pa_cons (pe_call GS hr2 rfl G.mS G.S.kp G.bS .nil pass0 (pa_cons (pv 0) (pa_cons (pe_lst (pa_cons pe_int (pa_cons pe_int (pa_cons pe_int pa_nil)))) pa_nil)))
      (pa_cons (pe_call GS hr2 rfl G.mS G.S.kp G.bS .nil pass0 (pa_cons (pv 0) (pa_cons (pe_lst (pa_cons pe_int (pa_cons pe_int (pa_cons pe_int pa_nil)))) pa_nil))) pa_nil))))))), ?_⟩
    refine ⟨_, rfl, _, rfl, by show 4 ≤ sizeLine; decide, fun q1 hq1 => ⟨b, q1, _, rfl, hB.new hq1, sql_new upd_same (hB.ne hq1), (fun z => nomatch z), by show 4 ≤ 1000000; decide, fun x H1 hx hB1 s1 => ?_⟩⟩
    obtain ⟨m1, rfl, a1, a2⟩ : ∃ m : Nat, x = .int m ∧ 2 ≤ m ∧ m ≤ 24 := by
      simp only [List.mem_cons, List.not_mem_nil, or_false] at hx
      rcases hx with rfl | rfl | rfl | rfl
      · exact ⟨3, rfl, by decide, by decide⟩
      · exact ⟨4, rfl, by decide, by decide⟩
      · exact ⟨5, rfl, by decide, by decide⟩
      · exact ⟨2, rfl, by decide, by decide⟩
    refine ⟨_, rfl, by show 3 ≤ sizeLine; decide, fun q2 hq2 => ⟨b, q2, _, rfl, hB1.new hq2, sql_new upd_same (hB1.ne hq2), (fun z => nomatch z), by show 3 ≤ 1000000; decide, fun x H2 hx hB2 s2 => ?_⟩⟩
    obtain ⟨m2, rfl, a3⟩ : ∃ m : Nat, x = .int m ∧ m ≤ 40 := by
      simp only [List.mem_cons, List.not_mem_nil, or_false] at hx
      rcases hx with rfl | rfl | rfl
      · exact ⟨4, rfl, by decide⟩
      · exact ⟨6, rfl, by decide⟩
      · exact ⟨3, rfl, by decide⟩
    refine ⟨_, rfl, by show 3 ≤ sizeLine; decide, fun q3 hq3 => ⟨b, q3, _, rfl, hB2.new hq3, sql_new upd_same (hB2.ne hq3), (fun z => nomatch z), by show 3 ≤ 1000000; decide, fun x H3 hx hB3 s3 => ?_⟩⟩
    obtain ⟨m3, rfl, a4, a5⟩ : ∃ m : Int, x = .int m ∧ 2 ≤ m ∧ m ≤ 7 := by
      simp only [List.mem_cons, List.not_mem_nil, or_false] at hx
      rcases hx with rfl | rfl | rfl
      · exact ⟨3, rfl, by decide, by decide⟩
      · exact ⟨7, rfl, by decide, by decide⟩
      · exact ⟨2, rfl, by decide, by decide⟩
    have s03 := ((((((Sb.refl b H).new (o := .lst [.int 3, .int 4, .int 5, .int 2]) hq1).trans s1).new (o := .lst [.int 4, .int 6, .int 3]) hq2).trans s2).new (o := .lst [.int 3, .int 7, .int 2]) hq3).trans s3
    exact ⟨b, m1, 4, m2, m3, rfl, hB3, a1, a2, by decide, a3, a4, by omega, fun y cs rs H' hY hV hB' s' => k y cs rs H' (hY.mono a5) hV hB' (s03.trans s')⟩
theorem ok_wide {f fY : Addr} {fd dY : FuncData} (F : Fun K "_law_wide_yard" "_law_wide_yard" sWide f fd) (T : Nat0 mg) (G : Gen P w K mg base fT fS fN fNs fC fR dT dS dN dNs dC dR)
    (FY : Fun K "_law_yard_of" "_law_yard_of" sYardOf fY dY) (mY : mg "_law_yard_of" = some (.ref fY)) (bY : Binds K dY ["bag", "cars", "knots", "cables", "most"] []) : FnOk P w K mg base CX0 7 f fd ["bag"] (spYard K (10 ^ 12)) := by
  have GS : FnOk P w K mg base CX0 2 fS dS ["bag", "things"] (spSome K) := ok_some G.S T G.T G.mT G.bT
  have GY : FnOk P w K mg base CX0 6 fY dY ["bag", "cars", "knots", "cables", "most"] (spYardOf K) := ok_yardOf FY T G
  refine F.ok scW (fun as H Q E h => ?_) (fun cdv A outer s H as Q E hr h => ?_)
  · obtain ⟨b, rfl, _⟩ := h
    rfl
  · obtain ⟨b, rfl, hB, k⟩ := h
    have hr2 : Room 2 _ := hr.mono (by decide)
    refine ⟨_, pss_cons (ps_set (i := 1) scW.nd rfl (.inl rfl) (pe_call GS hr2 rfl G.mS G.S.kp G.bS .nil pass0 (pa_cons (pv 0) (pa_cons (pe_lst (pa_cons pe_int (pa_cons pe_int (pa_cons (pe_op op_sub (pe_op op_pow pe_int pe_int) pe_int) (pa_cons (pe_op op_pow pe_int pe_int) pa_nil))))) pa_nil))))
      (pss_one (ps_ret (pe_call GY hr rfl mY FY.kp bY .nil pass0 (pa_cons (pv 0) (pa_cons (pe_call GS hr2 rfl G.mS G.S.kp G.bS .nil pass0 (pa_cons (pv 0) (pa_cons (pe_lst (pa_cons pe_int (pa_cons pe_int (pa_cons pe_int pa_nil)))) pa_nil)))
      (pa_cons pe_int (pa_cons (pe_call GS hr2 rfl G.mS G.S.kp G.bS .nil pass0 (pa_cons (pv 0) (pa_cons (pe_lst (pa_cons pe_int (pa_cons pe_int (pa_cons pe_int pa_nil)))) pa_nil)))
      (pa_cons (pv 1) pa_nil)))))))), ?_⟩
    refine ⟨_, rfl, 10, 12, rfl, rfl, ⟨by decide, by decide, by decide⟩, _, 1, rfl, rfl, 10, 6, rfl, rfl, ⟨by decide, by decide, by decide⟩, by show 4 ≤ sizeLine; decide, fun q1 hq1 => ⟨b, q1, _, rfl, hB.new hq1, sql_new upd_same (hB.ne hq1), (fun z => nomatch z), by show 4 ≤ 1000000; decide, fun x H1 hx hB1 s1 => ?_⟩⟩
    obtain ⟨m3, rfl, a4, a5⟩ : ∃ m : Int, x = .int m ∧ 2 ≤ m ∧ m < 10 ^ 12 := by
      simp only [List.mem_cons, List.not_mem_nil, or_false] at hx
      rcases hx with rfl | rfl | rfl | rfl
      · exact ⟨9, rfl, by decide, by decide⟩
      · exact ⟨40, rfl, by decide, by decide⟩
      · exact ⟨_, rfl, by decide, by decide⟩
      · exact ⟨_, rfl, by decide, by decide⟩
    refine ⟨_, rfl, _, rfl, by show 3 ≤ sizeLine; decide, fun q2 hq2 => ⟨b, q2, _, rfl, hB1.new hq2, sql_new upd_same (hB1.ne hq2), (fun z => nomatch z), by show 3 ≤ 1000000; decide, fun x H2 hx hB2 s2 => ?_⟩⟩
    obtain ⟨m1, rfl, a1, a2⟩ : ∃ m : Nat, x = .int m ∧ 2 ≤ m ∧ m ≤ 24 := by
      simp only [List.mem_cons, List.not_mem_nil, or_false] at hx
      rcases hx with rfl | rfl | rfl
      · exact ⟨8, rfl, by decide, by decide⟩
      · exact ⟨12, rfl, by decide, by decide⟩
      · exact ⟨24, rfl, by decide, by decide⟩
    refine ⟨_, rfl, by show 3 ≤ sizeLine; decide, fun q3 hq3 => ⟨b, q3, _, rfl, hB2.new hq3, sql_new upd_same (hB2.ne hq3), (fun z => nomatch z), by show 3 ≤ 1000000; decide, fun x H3 hx hB3 s3 => ?_⟩⟩
    obtain ⟨m2, rfl, a3⟩ : ∃ m : Nat, x = .int m ∧ m ≤ 40 := by
      simp only [List.mem_cons, List.not_mem_nil, or_false] at hx
      rcases hx with rfl | rfl | rfl
      · exact ⟨9, rfl, by decide⟩
      · exact ⟨16, rfl, by decide⟩
      · exact ⟨40, rfl, by decide⟩
    have s03 := ((((((Sb.refl b H).new (o := .lst [.int 9, .int 40, .int (10 ^ 12 - 1), .int (10 ^ 6)]) hq1).trans s1).new (o := .lst [.int 8, .int 12, .int 24]) hq2).trans s2).new (o := .lst [.int 9, .int 16, .int 40]) hq3).trans s3
    exact ⟨_, rfl, b, m1, 8, m2, m3, rfl, hB3, a1, a2, by decide, a3, a4, a5, fun y cs rs H' hY hV hB' s' => k y cs rs H' (hY.mono (Int.le_of_lt a5)) hV hB' (s03.trans s')⟩
end
end Y

namespace Y
open PySem PySem.Spec PyProof.Rows L2 Ns
open C8 (pss_cut)
theorem min_ok {v : Int} (h : 0 ≤ v) : (1 ≤ v → 1 ≤ if (10 : Int) ^ 12 - 1 < v then (10 : Int) ^ 12 - 1 else v) ∧ 0 ≤ (if (10 : Int) ^ 12 - 1 < v then (10 : Int) ^ 12 - 1 else v) ∧ (if (10 : Int) ^ 12 - 1 < v then (10 : Int) ^ 12 - 1 else v) < 10 ^ 12 := by
  split <;> omega
section
variable {P : Program} {w : World} {K : PySem.W.Frag} {mg : Str → Option Value} {base : Heap} {fT fS fN fNs fC fR : Addr} {dT dS dN dNs dC dR : FuncData}
def NG : List Str := ["bag", "yard", "times", "cables", "cars", "most", "one", "other", "cap", "name", "knot", "rate", "need"]
end
end Y

namespace Y
open PySem PySem.Spec PyProof.Rows L2 Ns
open C8 (pss_cut)
/-- a dict of texts to 1 -/
def kv1 (l : List Str) : List (Key × V) := l.map fun s => ((Sum.inr s : Key), V.int 1)
def ins (l : List Str) (s : Str) : List Str := if s ∈ l then l else l ++ [s]
theorem kv1_any (s : Str) : ∀ l : List Str, ((kv1 l).any fun kv => decide (kv.1 = Sum.inr s)) = decide (s ∈ l)
  | [] => by simp [kv1]
  | t :: l => by
    have ih := kv1_any s l
    unfold kv1 at ih ⊢
    rw [List.map_cons, List.any_cons, ih]
    by_cases e : t = s
    · simp [e]
    · have e2 : ¬ s = t := fun z => e z.symm
      simp [e, e2]
theorem kv1_put (l : List Str) (s : Str) : putK (kv1 l) (Sum.inr s) (.int 1) = kv1 (ins l s) := by
  unfold putK ins
  rw [kv1_any]
  by_cases h : s ∈ l
  · rw [if_pos (decide_eq_true h), if_pos h]
    unfold kv1
    rw [List.map_map]
    apply List.map_congr_left
    intro t _
    by_cases e : t = s
    · simp [e]
    · simp [e]
  · rw [if_neg (by simp [h]), if_neg h]
    unfold kv1
    rw [List.map_append]
    rfl
theorem kv1_merge : ∀ (m l : List Str), mergeK (kv1 l) (kv1 m) = kv1 (m.foldl ins l)
  | [], _ => rfl
  | s :: m, l => by
    show mergeK (putK (kv1 l) (Sum.inr s) (.int 1)) (kv1 m) = _
    rw [kv1_put, kv1_merge m]
    rfl
theorem mem_ins {l : List Str} {s t : Str} : t ∈ ins l s ↔ t ∈ l ∨ t = s := by
  unfold ins
  by_cases h : s ∈ l
  · rw [if_pos h]
    exact ⟨.inl, fun z => z.elim id fun e => e ▸ h⟩
  · rw [if_neg h, List.mem_append, List.mem_singleton]
theorem nodup_ins {l : List Str} (h : l.Nodup) (s : Str) : (ins l s).Nodup := by
  unfold ins
  by_cases c : s ∈ l
  · rw [if_pos c]; exact h
  · rw [if_neg c, List.nodup_append]
    refine ⟨h, List.nodup_cons.mpr ⟨(fun z => nomatch z), List.nodup_nil⟩, fun y hy z hz => ?_⟩
    rw [List.mem_singleton.mp hz]
    rintro rfl
    exact c hy
theorem mem_inss {t : Str} : ∀ {m l : List Str}, t ∈ m.foldl ins l ↔ t ∈ l ∨ t ∈ m
  | [], l => by simp
  | s :: m, l => by
    rw [List.foldl_cons, mem_inss, mem_ins, List.mem_cons, or_assoc]
theorem nodup_inss : ∀ {m l : List Str}, l.Nodup → (m.foldl ins l).Nodup
  | [], _, h => h
  | s :: m, l, h => nodup_inss (m := m) (nodup_ins h s)
/-- the knots of a yard -/
def KnIn (cs : List Cab) (rs : List Car) (s : Str) : Prop := (∃ c ∈ cs, s = c.1 ∨ s = c.2.1) ∨ ∃ r ∈ rs, s = r.2.1
theorem knIn_feed {most : Int} {cs : List Cab} {rs : List Car} (h : YardF most cs rs) : ∃ ns : List Str, ns.length ≤ 8 ∧ (∀ x ∈ ns, Nm x) ∧ ∀ s, KnIn cs rs s → s ∈ feed :: ns := by
  obtain ⟨ns, nm, N1, N2, N3, N4, C, R⟩ := h.ex
  refine ⟨ns, N2, N1.nm, fun s hs => ?_⟩
  rcases hs with ⟨c, hc, e | e⟩ | ⟨r, hr, e⟩
  · rw [e]; exact (C.each c hc).2.1
  · rw [e]; exact List.mem_cons_of_mem _ (C.each c hc).2.2.1
  · rw [e]; exact (R.each r hr).1
/-- what the knots' list is: the ascending list without feed -/
def spKnots (K : PySem.W.Frag) : Sp := fun as H Q _ => ∃ (y : V) (cs : List Cab) (rs : List Car) (ns : List Str), as = [y] ∧ YardV K H y cs rs ∧ ns.length ≤ 20 ∧ (∀ s, KnIn cs rs s → s ∈ feed :: ns) ∧
  ∀ (p : Addr) (ks : List Str) (H' : Hp), ks.Nodup → (∀ s, s ∈ ks ↔ KnIn cs rs s ∧ s ≠ feed) → H' p = some (.lst (txs ks)) → H p = none → Same H H' → Q (.ref p) H'
section
variable {P : Program} {w : World} {K : PySem.W.Frag} {mg : Str → Option Value} {base : Heap}
end
end Y

namespace Y
open PySem PySem.Spec PyProof.Rows L2 Ns
open C8 (pss_cut)
open L2.DX (itemsO)
theorem perm_map {α β : Type} {f : α → β} {ys ws : List β} (h : ys.Perm ws) : ∀ {xs : List α}, ws = xs.map f → ∃ zs : List α, zs.Perm xs ∧ ys = zs.map f := by
  induction h with
  | nil =>
    intro xs e
    have : xs = [] := List.map_eq_nil_iff.mp e.symm
    exact ⟨[], by rw [this], rfl⟩
  | @cons x l1 l2 _ ih =>
    intro xs e
    cases xs with
    | nil => cases e
    | cons a xs =>
      injection e with e1 e2
      obtain ⟨zs, p, e3⟩ := ih e2
      exact ⟨a :: zs, p.cons a, by rw [e1, e3]; rfl⟩
  | swap x y l =>
    intro xs e
    match xs, e with
    | a :: b :: xs, e =>
      injection e with e1 e2
      injection e2 with e2 e3
      exact ⟨b :: a :: xs, List.Perm.swap a b xs, by rw [e1, e2, e3]; rfl⟩
  | trans _ _ ih1 ih2 =>
    intro xs e
    obtain ⟨zs, p, e2⟩ := ih2 e
    obtain ⟨us, p2, e3⟩ := ih1 e2
    exact ⟨us, p2.trans p, e3⟩
/-- a dict of numbers by texts -/
def kvI (l : List (Str × Int)) : List (Key × V) := l.map fun p => ((Sum.inr p.1 : Key), V.int p.2)
theorem kvI_get {l : List (Str × Int)} (n : (l.map (·.1)).Nodup) {x : Str} {v : Int} (h : (x, v) ∈ l) : valV (kvI l) (Sum.inr x) = some (.int v) := by
  induction l with
  | nil => cases h
  | cons f l ih =>
    rw [List.map_cons, List.nodup_cons] at n
    show valV (((Sum.inr f.1 : Key), V.int f.2) :: kvI l) (Sum.inr x) = _
    rcases List.mem_cons.mp h with e | e
    · rw [← e]
      exact valV_pos rfl
    · rw [valV_neg (fun z => n.1 ?_)]
      · exact ih n.2 e
      · injection z with z
        rw [z]
        exact List.mem_map.mpr ⟨(x, v), e, rfl⟩
theorem kvI_none {l : List (Str × Int)} {x : Str} (h : x ∉ l.map (·.1)) : valV (kvI l) (Sum.inr x) = none := by
  induction l with
  | nil => rfl
  | cons f l ih =>
    rw [List.map_cons, List.mem_cons, not_or] at h
    show valV (((Sum.inr f.1 : Key), V.int f.2) :: kvI l) (Sum.inr x) = none
    rw [valV_neg (fun z => h.1 ?_)]
    · exact ih h.2
    · injection z with z
      exact z.symm
theorem kvI_merge : ∀ (m l : List (Str × Int)), ((l ++ m).map (·.1)).Nodup → mergeK (kvI l) (kvI m) = kvI (l ++ m)
  | [], l, _ => by rw [List.append_nil]; rfl
  | p :: m, l, h => by
    have e : l ++ p :: m = (l ++ [p]) ++ m := by rw [List.append_assoc]; rfl
    have np : p.1 ∉ l.map (·.1) := fun z => by
      rw [List.map_append, List.nodup_append] at h
      exact h.2.2 _ z _ (List.mem_map.mpr ⟨p, List.mem_cons_self, rfl⟩) rfl
    show mergeK (putK (kvI l) (Sum.inr p.1) (.int p.2)) (kvI m) = _
    rw [putK_new _ (kvI_none np), e]
    have e2 : kvI l ++ [((Sum.inr p.1 : Key), V.int p.2)] = kvI (l ++ [p]) := by
      unfold kvI
      rw [List.map_append]
      rfl
    rw [e2]
    exact kvI_merge m (l ++ [p]) (by rw [← e]; exact h)
theorem kvI_made {l : List (Str × Int)} (h : (l.map (·.1)).Nodup) : mergeK [] (kvI l) = kvI l := kvI_merge l [] h
/-- the tuple of the cars' names -/
def spNamesOf (K : PySem.W.Frag) : Sp := fun as H Q _ => ∃ (y : V) (cs : List Cab) (rs : List Car), as = [y] ∧ YardV K H y cs rs ∧ rs.length ≤ 1000 ∧
  ∀ (p : Addr) (H' : Hp), H' p = some (.tup (txs (rs.map (·.1)))) → H p = none → Same H H' → Q (.ref p) H'
def spALot (K : PySem.W.Frag) : Sp := fun as H Q _ => ∃ (b a : Addr) (ts : List Str), as = [.ref b, .ref a] ∧ Bag H b ∧ SqL K (wo H b) a (txs ts) ∧ ts.length ≤ 60 ∧ ts.Nodup ∧
  ∀ (p : Addr) (ls : List Str) (H' : Hp), sortedS ls = true → ls.Nodup → (∀ x ∈ ls, x ∈ ts) → H' p = some (.tup (txs ls)) → H p = none → p ≠ b → Bag H' b → Sb b H H' → Q (.ref p) H'
def spTurned : Sp := fun as H Q _ => ∃ (b a : Addr) (l : List (Str × Int)), as = [.ref b, .ref a] ∧ Bag H b ∧ H a = some (.dK (kvI l)) ∧ (l.map (·.1)).Nodup ∧ l.length ≤ 1000 ∧
  ∀ (p : Addr) (l' : List (Str × Int)) (H' : Hp), l'.Perm l → H' p = some (.dK (kvI l')) → H p = none → p ≠ b → Bag H' b → Sb b H H' → Q (.ref p) H'
section
variable {P : Program} {w : World} {K : PySem.W.Frag} {mg : Str → Option Value} {base : Heap}
end
end Y

namespace Y
open PySem PySem.Spec PyProof.Rows L2 Ns
open C8 (pss_cut)
def nd (r : Car) : Str × Int := (r.1, r.2.2.2)
def spCarOf (K : PySem.W.Frag) : Sp := fun as H Q _ => ∃ (y : V) (x : Str) (cs : List Cab) (rs : List Car), as = [y, .str x] ∧ YardV K H y cs rs ∧ (∀ v c, rs.find? (fun r => decide (r.1 = x)) = some c → CarV K H v c → Q v H) ∧ (rs.find? (fun r => decide (r.1 = x)) = none → Q .non H)
def spCapOf (K : PySem.W.Frag) : Sp := fun as H Q _ => ∃ (y : V) (s e : Str) (cs : List Cab) (rs : List Car), as = [y, .str s, .str e] ∧ YardV K H y cs rs ∧ (∀ c, cs.find? (fun c => decide (ckey c = (s, e))) = some c → Q (.int c.2.2) H) ∧ (cs.find? (fun c => decide (ckey c = (s, e))) = none → Q .non H)
def spNeedsOf (K : PySem.W.Frag) : Sp := fun as H Q _ => ∃ (y : V) (cs : List Cab) (rs : List Car), as = [y] ∧ YardV K H y cs rs ∧ (rs.map (·.1)).Nodup ∧ rs.length ≤ 1000 ∧ ∀ (p : Addr) (H' : Hp), H' p = some (.dK (kvI (rs.map nd))) → H p = none → Same H H' → Q (.ref p) H'
def spNeedOf (K : PySem.W.Frag) : Sp := fun as H Q _ => ∃ (y : V) (l : Addr) (ls : List Str) (cs : List Cab) (rs : List Car), as = [y, .ref l] ∧ YardV K H y cs rs ∧ SqT K H l (txs ls) ∧ rs.length ≤ 1000 ∧ ∀ H', Same H H' → Q (.int ((rs.filter fun r => decide (r.1 ∈ ls)).map (·.2.2.2)).sum) H'
def spSumOf : Sp := fun as H Q _ => ∃ (a : Addr) (l : List (Str × Int)), as = [.ref a] ∧ H a = some (.dK (kvI l)) ∧ ∀ H', Same H H' → Q (.int (l.map (·.2)).sum) H'
theorem find_take {α : Type} {p : α → Bool} {l : List α} {i : Nat} {c : α} (hc : l[i]? = some c) (hp : p c = true) (hn : ∀ r ∈ l.take i, p r = false) : l.find? p = some c := by
  induction l generalizing i with
  | nil => cases hc
  | cons a l ih =>
    cases i with
    | zero =>
      cases hc
      exact List.find?_cons_of_pos hp
    | succ i =>
      have ha := hn a (by rw [List.take_succ_cons]; exact List.mem_cons_self)
      rw [List.find?_cons_of_neg (by rw [ha]; exact Bool.false_ne_true)]
      exact ih hc fun r hr => hn r (by rw [List.take_succ_cons]; exact List.mem_cons_of_mem _ hr)
theorem not_yet {α : Type} {p : α → Bool} {l : List α} {i : Nat} {c : α} (hc : l[i]? = some c) (hp : p c = false) (hn : ∀ r ∈ l.take i, p r = false) : ∀ r ∈ l.take (i + 1), p r = false := fun r hr => by
  rw [List.take_succ, hc] at hr
  rcases List.mem_append.mp hr with z | z
  · exact hn r z
  · rw [List.mem_singleton.mp z]; exact hp
section
variable {P : Program} {w : World} {K : PySem.W.Frag} {mg : Str → Option Value} {base : Heap}
end
end Y

namespace Y
open PySem PySem.Spec PyProof.Rows L2 Ns
open C8 (pss_cut)
section
variable {P : Program} {w : World} {K : PySem.W.Frag} {mg : Str → Option Value} {base : Heap}
end
end Y

namespace Y
open PySem PySem.Spec PyProof.Rows L2 Ns
open C8 (pss_cut)
def spKin (K : PySem.W.Frag) : Sp := fun as H Q _ => ∃ (y : V) (cs : List Cab) (rs : List Car) (most : Int), as = [y] ∧ YardV K H y cs rs ∧ YardF most cs rs ∧
  ∀ (p : Addr) (ws : List Str) (H' : Hp), sortedS ws = true → ws.Nodup → (∀ s, s ∈ ws ↔ s = feed ∨ KnIn cs rs s) → H' p = some (.tup (txs ws)) → H p = none → Same H H' → Q (.ref p) H'
section
variable {P : Program} {w : World} {K : PySem.W.Frag} {mg : Str → Option Value} {base : Heap}
theorem fr_same {H H' : Hp} {p : Addr} (m : Same H H') (h : H' p = none) : H p = none := by
  cases e : H p with
  | none => rfl
  | some o => rw [m _ _ e] at h; cases h
end
end Y

/-! sizes of yards' texts; equal data; ascending texts are one -/
namespace Y
open PySem PySem.Spec PyProof.Rows L2 Ns
theorem not_lt_trans {a b c : List Nat} (h1 : ¬ b < a) (h2 : ¬ c < b) : ¬ c < a := by
  rw [List.not_lt] at h1 h2 ⊢
  exact List.le_trans h1 h2
theorem rising_all : ∀ {r : List Str} {p : Str}, risingS p r = true → ∀ y ∈ r, ¬ y.cps.toList < p.cps.toList
  | [], _, _, y, hy => nomatch hy
  | x :: r, p, h, y, hy => by
    unfold risingS at h
    rw [Bool.and_eq_true, ltCps_eq] at h
    have h1 : ¬ x.cps.toList < p.cps.toList := by simpa using h.1
    rcases List.mem_cons.mp hy with e | e
    · rw [e]; exact h1
    · exact not_lt_trans h1 (rising_all h.2 y e)
theorem rising_tail {x : Str} {r : List Str} (h : sortedS (x :: r) = true) : sortedS r = true := by
  cases r with
  | nil => rfl
  | cons y r =>
    have h' : risingS x (y :: r) = true := h
    unfold risingS at h'
    exact (Bool.and_eq_true_iff.mp h').2
theorem sorted_one : ∀ {xs ys : List Str}, sortedS xs = true → sortedS ys = true → xs.Perm ys → xs = ys
  | [], ys, _, _, p => (List.nil_perm.mp p).symm
  | x :: xs, [], _, _, p => by cases List.perm_nil.mp p
  | x :: xs, y :: ys, h1, h2, p => by
    have e : x = y := by
      have mx := p.mem_iff.mp (List.mem_cons_self (a := x) (l := xs))
      have my := p.mem_iff.mpr (List.mem_cons_self (a := y) (l := ys))
      rcases List.mem_cons.mp mx with e | hx
      · exact e
      · rcases List.mem_cons.mp my with e | hy
        · exact e.symm
        · have a1 := rising_all h2 x hx
          have a2 := rising_all h1 y hy
          rw [List.not_lt] at a1 a2
          exact str_ext (List.le_antisymm a2 a1)
    subst e
    rw [sorted_one (rising_tail h1) (rising_tail h2) (List.perm_cons x |>.mp p)]
theorem perm_of_mem {xs ys : List Str} (n1 : xs.Nodup) (n2 : ys.Nodup) (h : ∀ s, s ∈ xs ↔ s ∈ ys) : xs.Perm ys := by
  have l1 := sub_len n1 (m := ys) fun s hs => (h s).mp hs
  have l2 := sub_len n2 (m := xs) fun s hs => (h s).mpr hs
  exact perm_of n2 (fun m hm => (h m).mpr hm) (by omega)
/-- a name, or feed -/
def Nf (x : Str) : Prop := Nm x ∨ x = feed
theorem nm_codes {x : Str} (h : Nf x) : (∀ c ∈ x.cps.toList, c < 200) ∧ x.length ≤ 20 := by
  rcases h with h | rfl
  · obtain ⟨c, r, e, h1, h2, h3⟩ := id h
    refine ⟨fun d hd => ?_, h.len.2⟩
    rw [e] at hd
    rcases List.mem_cons.mp hd with z | z
    · rw [z]; unfold isL at h1; omega
    · rcases h2 d z with y | y
      · unfold isL at y; omega
      · unfold isD at y; omega
  · exact ⟨by decide +kernel, by decide +kernel⟩
theorem fit_name {x : Str} (h : Nf x) : Fit 300 0 (.str x) := by
  obtain ⟨h1, h2⟩ := nm_codes h
  refine ⟨by simp [PyData.showable], ?_, by simp [PyData.depth]⟩
  rw [PyData.shown_str]
  have := PySem.StrLaws.reprText_len x fun c hc => Nat.lt_trans (h1 c hc) (by decide)
  omega
theorem fit_num {i : Int} (h0 : 0 ≤ i) (h : i ≤ 10 ^ 12) : Fit 300 0 (.int i) :=
  (fit_int (n := 13) (by decide) (by omega) (by decide)).mono (by decide) (Nat.le_refl _)
def cabD (c : Cab) : PyData := .tuple [.str c.1, .str c.2.1, .int c.2.2]
def carD (c : Car) : PyData := .tuple [.str c.1, .str c.2.1, .int c.2.2.1, .int c.2.2.2]
theorem fit_cab {c : Cab} (h1 : Nf c.1) (h2 : Nf c.2.1) (h3 : 0 ≤ c.2.2) (h4 : c.2.2 ≤ 10 ^ 12) : Fit 1300 1 (cabD c) := by
  refine (fit_tuple (m := 300) (k := 0) fun d hd => ?_).mono (show 3 * (300 + 2) + 3 ≤ 1300 by decide) (by decide)
  simp only [List.mem_cons, List.not_mem_nil, or_false] at hd
  rcases hd with rfl | rfl | rfl
  · exact fit_name h1
  · exact fit_name h2
  · exact fit_num h3 h4
theorem fit_car {c : Car} (h1 : Nf c.1) (h2 : Nf c.2.1) (h3 : 0 ≤ c.2.2.1) (h4 : c.2.2.1 ≤ 10 ^ 12) (h5 : 0 ≤ c.2.2.2) (h6 : c.2.2.2 ≤ 10 ^ 12) : Fit 1300 1 (carD c) := by
  refine (fit_tuple (m := 300) (k := 0) fun d hd => ?_).mono (show 4 * (300 + 2) + 3 ≤ 1300 by decide) (by decide)
  simp only [List.mem_cons, List.not_mem_nil, or_false] at hd
  rcases hd with rfl | rfl | rfl | rfl
  · exact fit_name h1
  · exact fit_name h2
  · exact fit_num h3 h4
  · exact fit_num h5 h6
/-- the facts of a yard's parts, plainly -/
structure YardP (cs : List Cab) (rs : List Car) : Prop where
  lc : cs.length ≤ 40
  lr : rs.length ≤ 24
  cab : ∀ c ∈ cs, Nf c.1 ∧ Nf c.2.1 ∧ 0 ≤ c.2.2 ∧ c.2.2 ≤ 10 ^ 12
  car : ∀ r ∈ rs, Nm r.1 ∧ Nf r.2.1 ∧ 1 ≤ r.2.2.1 ∧ r.2.2.1 ≤ 10 ^ 12 ∧ 0 ≤ r.2.2.2 ∧ r.2.2.2 ≤ 10 ^ 12
  keys : (cs.map ckey).Nodup
  names : (rs.map (·.1)).Nodup
theorem YardF.plain {most : Int} {cs : List Cab} {rs : List Car} (h : YardF most cs rs) (hm : most ≤ 10 ^ 12) : YardP cs rs := by
  obtain ⟨ns, nm, N1, N2, N3, N4, C, R⟩ := h.ex
  have nf : ∀ s, s ∈ feed :: ns → Nf s := fun s hs => by
    rcases List.mem_cons.mp hs with e | e
    · exact .inr e
    · exact .inl (N1.nm s e)
  refine ⟨C.len, ?_, fun c hc => ?_, fun r hr => ?_, C.nodup, R.perm.nodup_iff.mpr N3.nodup⟩
  · have := R.perm.length_eq
    rw [List.length_map] at this
    omega
  · obtain ⟨c1, c2, c3, c4, c5⟩ := C.each c hc
    exact ⟨nf _ c2, .inl (N1.nm _ c3), c4, by omega⟩
  · obtain ⟨r1, r2, r3, r4, r5⟩ := R.each r hr
    exact ⟨N3.nm _ (R.perm.mem_iff.mp (List.mem_map.mpr ⟨r, hr, rfl⟩)), nf _ r1, r2, r3, r4, by omega⟩
def yardD (cs : List Cab) (rs : List Car) : PyData := .tuple [.tuple (cs.map cabD), .tuple (rs.map carD)]
theorem fit_yard {cs : List Cab} {rs : List Car} (h : YardP cs rs) : Fit 130000 3 (yardD cs rs) := by
  have f1 : Fit 60000 2 (.tuple (cs.map cabD)) := by
    refine (fit_tuple (m := 1300) (k := 1) fun d hd => ?_).mono ?_ (by decide)
    · obtain ⟨c, hc, rfl⟩ := List.mem_map.mp hd
      obtain ⟨h1, h2, h3, h4⟩ := h.cab c hc
      exact fit_cab h1 h2 h3 h4
    · rw [List.length_map]
      have := h.lc
      omega
  have f2 : Fit 60000 2 (.tuple (rs.map carD)) := by
    refine (fit_tuple (m := 1300) (k := 1) fun d hd => ?_).mono ?_ (by decide)
    · obtain ⟨c, hc, rfl⟩ := List.mem_map.mp hd
      obtain ⟨h1, h2, h3, h4, h5, h6⟩ := h.car c hc
      exact fit_car (.inl h1) h2 (by omega) h4 h5 h6
    · rw [List.length_map]
      have := h.lr
      omega
  refine (fit_tuple (m := 60000) (k := 2) fun d hd => ?_).mono (show 2 * (60000 + 2) + 3 ≤ 130000 by decide) (by decide)
  simp only [List.mem_cons, List.not_mem_nil, or_false] at hd
  rcases hd with rfl | rfl
  · exact f1
  · exact f2
theorem big_ok {n : Nat} (h : n ≤ 1000000) : n ≤ sizeLine := by rw [sizeLine_eq]; omega
section
variable {K : PySem.W.Frag} {H : Hp}
theorem dat_cabs : ∀ {xs : List V} {cs : List Cab}, Paired (CabV K H) xs cs → DatA K H xs (cs.map cabD)
  | _, _, .nil => .nil
  | _, _, .cons ⟨t, e, h⟩ r => by
    subst e
    exact .cons (.tup h (.cons (.str _) (.cons (.str _) (.cons (.int _) .nil)))) (dat_cabs r)
theorem dat_cars : ∀ {xs : List V} {cs : List Car}, Paired (CarV K H) xs cs → DatA K H xs (cs.map carD)
  | _, _, .nil => .nil
  | _, _, .cons ⟨t, e, h⟩ r => by
    subst e
    exact .cons (.tup h (.cons (.str _) (.cons (.str _) (.cons (.int _) (.cons (.int _) .nil))))) (dat_cars r)
theorem dat_yard {y : V} {cs : List Cab} {rs : List Car} (h : YardV K H y cs rs) : DatV K H y (yardD cs rs) := by
  obtain ⟨t, a, b, xs, zs, rfl, h1, h2, h3, h4, h5⟩ := h
  exact .tup h1 (.cons (.tup h2 (dat_cabs h4)) (.cons (.tup h3 (dat_cars h5)) .nil))
theorem dat_txs : ∀ ls : List Str, DatA K H (txs ls) (ls.map PyData.str)
  | [] => .nil
  | _ :: ls => .cons (.str _) (dat_txs ls)
theorem dat_ints : ∀ ls : List Int, DatA K H (ls.map V.int) (ls.map PyData.int)
  | [] => .nil
  | _ :: ls => .cons (.int _) (dat_ints ls)
theorem same_rows {E : V → V → Prop} : ∀ {xs : List V}, (∀ x ∈ xs, E x x) → Paired E xs xs
  | [], _ => .nil
  | x :: xs, h => .cons (h x List.mem_cons_self) (same_rows fun y hy => h y (List.mem_cons_of_mem _ hy))
theorem eqT_flat {x : V} (n : Nat) (h : flatB x = true) : EqT K H (n + 1) x x := .inl ⟨rfl, h⟩
theorem eqT_tup {a b : Addr} {xs : List V} (n : Nat) (ha : SqT K H a xs) (hb : SqT K H b xs) (h : ∀ x ∈ xs, flatB x = true) : EqT K H (n + 2) (.ref a) (.ref b) :=
  .inr (.inr (.inr ⟨a, b, xs, xs, rfl, rfl, ha, hb, same_rows fun x hx => eqT_flat n (h x hx)⟩))
theorem flat_str {l : List Str} : ∀ x ∈ txs l, flatB x = true := fun x hx => by
  obtain ⟨t, _, rfl⟩ := List.mem_map.mp hx
  rfl
theorem eqT_dict {a b : Addr} {l : List (Str × Int)} (n : Nat) (nd : (l.map (·.1)).Nodup) (ha : H a = some (.dK (kvI l))) (hb : H b = some (.dK (kvI l))) : EqT K H (n + 2) (.ref a) (.ref b) :=
  .inr (.inr (.inl (.inr ⟨a, b, kvI l, kvI l, rfl, rfl, ha, hb, rfl, fun p hp => by
    obtain ⟨q, hq, rfl⟩ := List.mem_map.mp hp
    exact ⟨_, kvI_get nd hq, eqT_flat n rfl⟩⟩)))
end
end Y

/-! SY4: a row is what comes of it sorted, once each, exactly if it rises. -/
namespace Y
open PySem PySem.Spec PyProof.Rows L2 Ns
open PySem.W (dataLe dataLt alike TotalLe)
section
variable {α : Type} [DecidableEq α] {le : α → α → Bool}
def risesL (le : α → α → Bool) (l : List α) : Bool := (l.zip (l.drop 1)).all fun p => !le p.2 p.1
theorem rises_pw (tl : TotalLe le) : ∀ l : List α, risesL le l = true ↔ l.Pairwise (fun a b => le b a = false)
  | [] => ⟨fun _ => .nil, fun _ => rfl⟩
  | [a] => ⟨fun _ => List.pairwise_singleton _ _, fun _ => rfl⟩
  | a :: b :: l => by
    have ih := rises_pw tl (b :: l)
    have e : risesL le (a :: b :: l) = (!le b a && risesL le (b :: l)) := rfl
    rw [e, Bool.and_eq_true, ih]
    constructor
    · rintro ⟨h1, h2⟩
      refine List.pairwise_cons.mpr ⟨fun x hx => ?_, h2⟩
      have h1 : le b a = false := by simpa using h1
      rcases List.mem_cons.mp hx with z | z
      · rw [z]; exact h1
      · have h3 := (List.pairwise_cons.mp h2).1 x z
        cases e : le x a with
        | false => rfl
        | true =>
          rcases tl.total b x with q | q
          · rw [tl.trans b x a q e] at h1; cases h1
          · rw [q] at h3; cases h3
    · intro h
      obtain ⟨h1, h2⟩ := List.pairwise_cons.mp h
      exact ⟨by rw [h1 b List.mem_cons_self]; rfl, h2⟩
theorem perm_one (anti : ∀ a b, le a b = true → le b a = true → a = b) (tl : TotalLe le) : ∀ {l m : List α}, l.Perm m → l.Pairwise (fun a b => le a b = true) → m.Pairwise (fun a b => le a b = true) → l = m
  | [], m, p, _, _ => (List.nil_perm.mp p).symm
  | a :: l, [], p, _, _ => by cases List.perm_nil.mp p
  | a :: l, b :: m, p, h1, h2 => by
    have e : a = b := by
      obtain ⟨h1, _⟩ := List.pairwise_cons.mp h1
      obtain ⟨h2, _⟩ := List.pairwise_cons.mp h2
      rcases List.mem_cons.mp (p.mem_iff.mp List.mem_cons_self) with z | z
      · exact z
      · rcases List.mem_cons.mp (p.mem_iff.mpr List.mem_cons_self) with y | y
        · exact y.symm
        · exact anti a b (h1 b y) (h2 a z)
    subst e
    rw [perm_one anti tl (List.perm_cons a |>.mp p) (List.pairwise_cons.mp h1).2 (List.pairwise_cons.mp h2).2]
theorem sorted_set (anti : ∀ a b, le a b = true → le b a = true → a = b) (tl : TotalLe le) {l qs : List α} (nd : qs.Nodup) (mem : ∀ a, a ∈ qs ↔ a ∈ l) (srt : qs.Pairwise (fun a b => le a b = true)) : decide (l = qs) = risesL le l := by
  by_cases e : l = qs
  · rw [decide_eq_true e, eq_comm, rises_pw tl, e]
    refine (List.Pairwise.and srt nd).imp fun {a b} h => ?_
    cases c : le b a with
    | false => rfl
    | true => exact absurd (anti a b h.1 c) h.2
  · rw [decide_eq_false e]
    symm
    cases c : risesL le l with
    | false => rfl
    | true =>
      exfalso
      have pw := (rises_pw tl l).mp c
      have nl : l.Nodup := pw.imp fun {a b} h z => by
        rw [z, tl.refl] at h
        cases h
      have sl : l.Pairwise (fun a b => le a b = true) := pw.imp fun {a b} h => (tl.total a b).elim id fun z => by rw [z] at h; cases h
      exact e (perm_one anti tl ((List.perm_ext_iff_of_nodup nl nd).mpr fun a => (mem a).symm) sl srt)
end
theorem le_pD : TotalLe (dataLe false pD) := PySem.W.sortLe_total _ _ _
theorem le_str : TotalLe (dataLe false PyData.str) := PySem.W.sortLe_total _ _ _
theorem cps_one {x y : Str} (h1 : ¬ x.cps.toList < y.cps.toList) (h2 : ¬ y.cps.toList < x.cps.toList) : x = y := str_ext (List.le_antisymm h2 h1)
theorem anti_str (a b : Str) (h1 : dataLe false PyData.str a b = true) (h2 : dataLe false PyData.str b a = true) : a = b := by
  rw [PySem.W.dataLe_eq] at h1 h2
  have h1 : (!dataLt (.str b) (.str a)) = true := h1
  have h2 : (!dataLt (.str a) (.str b)) = true := h2
  rw [PySem.W.dataLt_str] at h1 h2
  exact cps_one (by simpa using h2) (by simpa using h1)
theorem anti_pD (a b : Str × Str) (h1 : dataLe false pD a b = true) (h2 : dataLe false pD b a = true) : a = b := by
  obtain ⟨a1, a2⟩ := a
  obtain ⟨b1, b2⟩ := b
  rw [PySem.W.dataLe_eq] at h1 h2
  have h1 : (!dataLt (.tuple [.str b1, .str b2]) (.tuple [.str a1, .str a2])) = true := h1
  have h2 : (!dataLt (.tuple [.str a1, .str a2]) (.tuple [.str b1, .str b2])) = true := h2
  rw [PySem.W.dataLt_pair rfl rfl, PySem.W.dataLt_str, PySem.W.dataLt_str] at h1 h2
  have q : ∀ x y : Str, PyData.eqv (.str x) (.str y) = (x == y) := fun x y => by simp [PyData.eqv]
  rw [q, q] at h1 h2
  by_cases e1 : a1 = b1
  · subst e1
    simp only [beq_self_eq_true, if_true] at h1 h2
    by_cases e2 : a2 = b2
    · rw [e2]
    · have n1 : (b2 == a2) = false := by simp [Ne.symm e2]
      have n2 : (a2 == b2) = false := by simp [e2]
      rw [n1] at h1
      rw [n2] at h2
      exact absurd (cps_one (by simpa using h2) (by simpa using h1)) e2
  · have n1 : (b1 == a1) = false := by simp [Ne.symm e1]
    have n2 : (a1 == b1) = false := by simp [e1]
    rw [n1] at h1
    rw [n2] at h2
    exact absurd (cps_one (by simpa using h2) (by simpa using h1)) e1
theorem rises_of {α : Type} (k : α → PyData) (l : List α) : risesD (l.map k) = risesL (dataLe false k) l := by
  unfold risesD risesL
  rw [← List.map_drop, List.zip_map, List.all_map]
  congr 1
  funext p
  show dataLt (k p.1) (k p.2) = !dataLe false k p.2 p.1
  rw [PySem.W.dataLe_eq]
  show _ = !!dataLt (k p.1) (k p.2)
  rw [Bool.not_not]
theorem pD_eqv (a b : Str × Str) : PyData.eqv (pD a) (pD b) = decide (a = b) := by
  obtain ⟨a1, a2⟩ := a
  obtain ⟨b1, b2⟩ := b
  have e : PyData.eqv (pD (a1, a2)) (pD (b1, b2)) = (a1 == b1 && (a2 == b2 && true)) := by simp [pD, PyData.eqv, PyData.eqvAll]
  rw [e]
  by_cases e1 : a1 = b1
  · by_cases e2 : a2 = b2
    · simp [e1, e2]
    · simp [e1, e2]
  · simp [e1]
theorem all_eqv {α : Type} [DecidableEq α] {k : α → PyData} (h : ∀ a b, PyData.eqv (k a) (k b) = decide (a = b)) : ∀ l m : List α, PyData.eqvAll (l.map k) (m.map k) = decide (l = m)
  | [], [] => rfl
  | [], _ :: _ => rfl
  | _ :: _, [] => rfl
  | a :: l, b :: m => by
    have e : PyData.eqvAll ((a :: l).map k) ((b :: m).map k) = (PyData.eqv (k a) (k b) && PyData.eqvAll (l.map k) (m.map k)) := by simp [PyData.eqvAll]
    rw [e, h, all_eqv h l m]
    by_cases e1 : a = b <;> by_cases e2 : l = m <;> simp [e1, e2]
theorem pairs_eqv (l m : List (Str × Str)) : PyData.eqv (.list (l.map pD)) (.list (m.map pD)) = decide (l = m) := by
  have e : PyData.eqv (.list (l.map pD)) (.list (m.map pD)) = PyData.eqvAll (l.map pD) (m.map pD) := by simp [PyData.eqv]
  rw [e, all_eqv pD_eqv]
theorem strs_eqv (l m : List Str) : PyData.eqv (.list (l.map .str)) (.list (m.map .str)) = decide (l = m) := by
  have e : PyData.eqv (.list (l.map .str)) (.list (m.map .str)) = PyData.eqvAll (l.map .str) (m.map .str) := by simp [PyData.eqv]
  rw [e, all_eqv fun a b => by
    have : PyData.eqv (.str a) (.str b) = (a == b) := by simp [PyData.eqv]
    rw [this]
    by_cases e1 : a = b <;> simp [e1]]
theorem sorted_pw : ∀ {l : List Str}, sortedS l = true → l.Pairwise (fun a b => dataLe false PyData.str a b = true)
  | [], _ => .nil
  | x :: l, h => by
    refine List.pairwise_cons.mpr ⟨fun y hy => ?_, sorted_pw (rising_tail h)⟩
    have := rising_all h y hy
    rw [PySem.W.dataLe_eq]
    show (!dataLt (.str y) (.str x)) = true
    rw [PySem.W.dataLt_str, decide_eq_false this]
    rfl
end Y

/-! OT: the law's cables, cars, edits among any values. -/
namespace Y
open PySem PySem.Spec PyProof.Rows L2 Ns
section
variable {P : Program} {w : World} {K : PySem.W.Frag} {mg : Str → Option Value} {base : Heap}
theorem scLC : FnScope ["thing"] ["thing"] (defScope sLIsCount) := ⟨rfl, rfl, rfl, by decide +kernel, rfl, by decide +kernel, by decide +kernel⟩
theorem ok_lCount {f fI : Addr} {fd dI : FuncData} (F : Fun K "_law_is_count" "_law_is_count" sLIsCount f fd) (GI : FnOk P w K mg base CX0 1 fI dI ["thing"] (spTells K isInt)) (FI : Fun K "_law_whole" "_law_whole" sWhole fI dI) (mI : mg "_law_whole" = some (.ref fI)) (bI : Binds K dI ["thing"] []) :
    FnOk P w K mg base CX0 2 f fd ["thing"] (spTells K isCnt) := by
  refine F.ok scLC (fun as H Q E h => ?_) (fun cdv A outer s H as Q E hr h => ?_)
  · obtain ⟨x, d, rfl, _⟩ := h
    rfl
  · obtain ⟨x, d, rfl, D, k⟩ := h
    refine ⟨_, pss_one (ps_ret (pe_and (pe_call GI hr rfl mI FI.kp bI .nil pass0 (pa_cons (pv 0) pa_nil)) (pe_one (pe_cmpR op_ge (pv 0) pe_int (nomark _))))), ?_⟩
    refine ⟨_, rfl, x, d, rfl, D, isInt d, rfl, ?_⟩
    refine ite2 (fun h => ?_) (fun h => ?_)
    · obtain ⟨i, rfl⟩ := isInt_int h
      cases dat_int D
      exact ⟨_, rfl, _, _, rfl, rfl, k⟩
    · have e : isCnt d = false := by cases d <;> first | rfl | exact absurd rfl h
      rw [e] at k
      exact k
theorem len3 {xs : List V} {n : Nat} : (!decide (V.int (xs.length : Int) = V.int (n : Int))) = !decide (xs.length = n) := by
  by_cases h : xs.length = n
  · rw [h, decide_eq_true rfl, decide_eq_true rfl]
  · rw [decide_eq_false h, decide_eq_false (fun z => h (by injection z with z; omega))]
theorem cable_len {ds : List PyData} (h : ds.length ≠ 3) : cableD (.tuple ds) = false := cable_not (decide_eq_false (fun z => h (by omega)))
theorem car_len {ds : List PyData} (h : ds.length ≠ 4) : carT (.tuple ds) = false := car_not (decide_eq_false (fun z => h (by omega)))
theorem scLB : FnScope ["thing"] ["thing"] (defScope sLIsCable) := ⟨rfl, rfl, rfl, by decide +kernel, rfl, by decide +kernel, by decide +kernel⟩
theorem ok_lCable {f fN fC : Addr} {fd dN dC : FuncData} (F : Fun K "_law_is_cable" "_law_is_cable" sLIsCable f fd) (T : Nat0 mg) (GN : FnOk P w K mg base CX0 1 fN dN ["thing"] (spTellS K nameD)) (FN : Fun K "_law_is_name" "_law_is_name" sLIsName fN dN) (mN : mg "_law_is_name" = some (.ref fN)) (bN : Binds K dN ["thing"] [])
    (GC : FnOk P w K mg base CX0 2 fC dC ["thing"] (spTells K isCnt)) (FC : Fun K "_law_is_count" "_law_is_count" sLIsCount fC dC) (mC : mg "_law_is_count" = some (.ref fC)) (bC : Binds K dC ["thing"] []) : FnOk P w K mg base CX0 3 f fd ["thing"] (spTellS K cableD) := by
  refine F.ok scLB (fun as H Q E h => ?_) (fun cdv A outer s H as Q E hr h => ?_)
  · obtain ⟨x, d, rfl, _⟩ := h
    rfl
  · obtain ⟨x, d, rfl, D, bd, k⟩ := h
    have hr1 : Room 1 _ := hr.mono (by decide)
    refine ⟨_, pss_cons (ps_if (PW.pt (pw_or (pt_not (pt_val (pe_callB (call_isD kit_T) (by rfl) T.isi (by decide +kernel) (pa_cons (pv 0) (pa_cons (pe_bltn (v := .ty "tuple") (by rfl) T.tuple (by decide +kernel) rfl) pa_nil)))))
        (pw_or (pt_cmpR op_ne (pe_callB call_len_seq (by rfl) T.len PySem.boot_len (pa_cons (pv 0) pa_nil)) pe_int (nomark _))
        (pw_or (pt_not (pt_val (pe_call GN hr1 rfl mN FN.kp bN .nil pass0 (pa_cons (pe_ix ix_tup (pv 0) pe_int (fun _ _ => rfl)) pa_nil)))) (pw_or1 (pt_not (pt_val (pe_call GN hr1 rfl mN FN.kp bN .nil pass0 (pa_cons (pe_ix ix_tup (pv 0) pe_int (fun _ _ => rfl)) pa_nil))))))))) (pss_one (ps_ret pe_bl)) pss_nil)
      (pss_one (ps_ret (pe_and (pe_cmpR op_ne (pe_ix ix_tup (pv 0) pe_int (fun _ _ => rfl)) (pe_ix ix_tup (pv 0) pe_int (fun _ _ => rfl)) (nomark _)) (pe_and (pe_cmpR op_ne (pe_ix ix_tup (pv 0) pe_int (fun _ _ => rfl)) pe_str (nomark _))
        (pe_one (pe_call GC hr rfl mC FC.kp bC .nil pass0 (pa_cons (pe_ix ix_tup (pv 0) pe_int (fun _ _ => rfl)) pa_nil))))))), ?_⟩
    refine ⟨_, rfl, x, d, rfl, D, qT d, rfl, ?_⟩
    refine ite2 (fun h => ?_) (fun h => ?_)
    · have e : cableD d = false := by cases d <;> first | rfl | exact absurd h Bool.false_ne_true
      rw [e] at k
      exact k H (Same.refl H)
    obtain ⟨a, xs, ds, rfl, rfl, hT, hA⟩ := dat_tup D (by simpa using h)
    refine ⟨_, rfl, a, xs, rfl, .inr hT, rfl, _, rfl, ?_⟩
    refine ite2 (fun h => ?_) (fun h => ?_)
    · have e : cableD (.tuple ds) = false := cable_len fun z => by
        rw [show (3 : Int) = ((3 : Nat) : Int) from rfl, len3, hA.len, z] at h
        cases h
      rw [e] at k
      exact k H (Same.refl H)
    have l3 : ds.length = 3 := by
      rw [show (3 : Int) = ((3 : Nat) : Int) from rfl, len3, hA.len] at h
      simpa using h
    obtain ⟨x1, x2, x3, d1, d2, d3, rfl, rfl, D1, D2, D3⟩ := tup3 hA l3
    have k' : ∀ H', Same H H' → Q (.bl (nameD d1 && (nameD d2 && (!decide (strOf d1 = strOf d2) && (!decide (strOf d2 = feed) && isCnt d3))))) H' := k
    clear k h
    refine ⟨_, rfl, a, _, 0, x1, rfl, rfl, hT, at0, x1, d1, rfl, D1, bd_in bd (.head _), fun H1 M1 => ⟨_, rfl, ?_⟩⟩
    refine ite2 (fun h1 => ?_) (fun h1 => ?_)
    · rw [show nameD d1 = false by simpa using h1, Bool.false_and] at k'
      exact k' H1 M1
    have n1 : nameD d1 = true := by simpa using h1
    obtain ⟨s1, rfl⟩ := name_str n1
    cases dat_s D1
    refine ⟨_, rfl, a, _, 1, x2, rfl, rfl, sqt_more M1 hT, at1, x2, d2, rfl, D2.more M1, bd_in bd (.tail _ (.head _)), fun H2 M2 => ⟨_, rfl, ?_⟩⟩
    have M12 := M1.trans M2
    refine ite2 (fun h2 => ?_) (fun h2 => ?_)
    · rw [show nameD d2 = false by simpa using h2, Bool.false_and, Bool.and_false] at k'
      exact k' H2 M12
    have n2 : nameD d2 = true := by simpa using h2
    obtain ⟨s2, rfl⟩ := name_str n2
    cases dat_s D2
    rw [n1, n2, Bool.true_and, Bool.true_and] at k'
    refine ⟨_, rfl, a, _, 0, _, rfl, rfl, sqt_more M12 hT, at0, _, rfl, a, _, 1, _, rfl, rfl, sqt_more M12 hT, at1, rfl, _, rfl, ?_⟩
    refine ite2 (fun h3 => ?_) (fun h3 => ?_)
    · rw [neS] at h3
      rw [show (!decide (strOf (.str s1) = strOf (.str s2))) = true from h3, Bool.true_and] at k'
      refine ⟨_, rfl, a, _, 1, _, rfl, rfl, sqt_more M12 hT, at1, rfl, _, rfl, ?_⟩
      refine ite2 (fun h4 => ?_) (fun h4 => ?_)
      · rw [neS] at h4
        rw [show (!decide (strOf (.str s2) = feed)) = true from h4, Bool.true_and] at k'
        exact ⟨_, rfl, a, _, 2, x3, rfl, rfl, sqt_more M12 hT, at2, x3, d3, rfl, D3.more M12, k' H2 M12⟩
      · rw [neS] at h4
        rw [show (!decide (strOf (.str s2) = feed)) = false from Bool.eq_false_iff.mpr h4] at k'
        exact k' H2 M12
    · rw [neS] at h3
      rw [show (!decide (strOf (.str s1) = strOf (.str s2))) = false from Bool.eq_false_iff.mpr h3] at k'
      exact k' H2 M12
theorem scLR : FnScope ["thing"] ["thing"] (defScope sLIsCar) := ⟨rfl, rfl, rfl, by decide +kernel, rfl, by decide +kernel, by decide +kernel⟩
theorem ok_lCar {f fN fC : Addr} {fd dN dC : FuncData} (F : Fun K "_law_is_car" "_law_is_car" sLIsCar f fd) (T : Nat0 mg) (GN : FnOk P w K mg base CX0 1 fN dN ["thing"] (spTellS K nameD)) (FN : Fun K "_law_is_name" "_law_is_name" sLIsName fN dN) (mN : mg "_law_is_name" = some (.ref fN)) (bN : Binds K dN ["thing"] [])
    (GC : FnOk P w K mg base CX0 2 fC dC ["thing"] (spTells K isCnt)) (FC : Fun K "_law_is_count" "_law_is_count" sLIsCount fC dC) (mC : mg "_law_is_count" = some (.ref fC)) (bC : Binds K dC ["thing"] []) : FnOk P w K mg base CX0 3 f fd ["thing"] (spTellS K carT) := by
  refine F.ok scLR (fun as H Q E h => ?_) (fun cdv A outer s H as Q E hr h => ?_)
  · obtain ⟨x, d, rfl, _⟩ := h
    rfl
  · obtain ⟨x, d, rfl, D, bd, k⟩ := h
    have hr1 : Room 1 _ := hr.mono (by decide)
    refine ⟨_, pss_cons (ps_if (PW.pt (pw_or (pt_not (pt_val (pe_callB (call_isD kit_T) (by rfl) T.isi (by decide +kernel) (pa_cons (pv 0) (pa_cons (pe_bltn (v := .ty "tuple") (by rfl) T.tuple (by decide +kernel) rfl) pa_nil)))))
        (pw_or (pt_cmpR op_ne (pe_callB call_len_seq (by rfl) T.len PySem.boot_len (pa_cons (pv 0) pa_nil)) pe_int (nomark _))
        (pw_or (pt_not (pt_val (pe_call GN hr1 rfl mN FN.kp bN .nil pass0 (pa_cons (pe_ix ix_tup (pv 0) pe_int (fun _ _ => rfl)) pa_nil)))) (pw_or1 (pt_not (pt_val (pe_call GN hr1 rfl mN FN.kp bN .nil pass0 (pa_cons (pe_ix ix_tup (pv 0) pe_int (fun _ _ => rfl)) pa_nil))))))))) (pss_one (ps_ret pe_bl)) pss_nil)
      (pss_one (ps_ret (pe_and (pe_call GC hr rfl mC FC.kp bC .nil pass0 (pa_cons (pe_ix ix_tup (pv 0) pe_int (fun _ _ => rfl)) pa_nil)) (pe_and (pe_cmpR op_gt (pe_ix ix_tup (pv 0) pe_int (fun _ _ => rfl)) pe_int (nomark _))
        (pe_one (pe_call GC hr rfl mC FC.kp bC .nil pass0 (pa_cons (pe_ix ix_tup (pv 0) pe_int (fun _ _ => rfl)) pa_nil))))))), ?_⟩
    refine ⟨_, rfl, x, d, rfl, D, qT d, rfl, ?_⟩
    refine ite2 (fun h => ?_) (fun h => ?_)
    · have e : carT d = false := by cases d <;> first | rfl | exact absurd h Bool.false_ne_true
      rw [e] at k
      exact k H (Same.refl H)
    obtain ⟨a, xs, ds, rfl, rfl, hT, hA⟩ := dat_tup D (by simpa using h)
    refine ⟨_, rfl, a, xs, rfl, .inr hT, rfl, _, rfl, ?_⟩
    refine ite2 (fun h => ?_) (fun h => ?_)
    · have e : carT (.tuple ds) = false := car_len fun z => by
        rw [show (4 : Int) = ((4 : Nat) : Int) from rfl, len3, hA.len, z] at h
        cases h
      rw [e] at k
      exact k H (Same.refl H)
    have l3 : ds.length = 4 := by
      rw [show (4 : Int) = ((4 : Nat) : Int) from rfl, len3, hA.len] at h
      simpa using h
    obtain ⟨x1, x2, x3, x4, d1, d2, d3, d4, rfl, rfl, D1, D2, D3, D4⟩ := tup4 hA l3
    have k' : ∀ H', Same H H' → Q (.bl (nameD d1 && (nameD d2 && (isPos d3 && isCnt d4)))) H' := k
    clear k h
    refine ⟨_, rfl, a, _, 0, x1, rfl, rfl, hT, at0, x1, d1, rfl, D1, bd_in bd (.head _), fun H1 M1 => ⟨_, rfl, ?_⟩⟩
    refine ite2 (fun h1 => ?_) (fun h1 => ?_)
    · rw [show nameD d1 = false by simpa using h1, Bool.false_and] at k'
      exact k' H1 M1
    refine ⟨_, rfl, a, _, 1, x2, rfl, rfl, sqt_more M1 hT, at1, x2, d2, rfl, D2.more M1, bd_in bd (.tail _ (.head _)), fun H2 M2 => ⟨_, rfl, ?_⟩⟩
    have M12 := M1.trans M2
    refine ite2 (fun h2 => ?_) (fun h2 => ?_)
    · rw [show nameD d2 = false by simpa using h2, Bool.false_and, Bool.and_false] at k'
      exact k' H2 M12
    rw [show nameD d1 = true by simpa using h1, show nameD d2 = true by simpa using h2, Bool.true_and, Bool.true_and] at k'
    refine ⟨_, rfl, a, _, 2, x3, rfl, rfl, sqt_more M12 hT, at2, x3, d3, rfl, D3.more M12, isCnt d3, rfl, ?_⟩
    refine ite2 (fun h3 => ?_) (fun h3 => ?_)
    · obtain ⟨i, rfl⟩ : ∃ i, d3 = .int i := by cases d3 <;> first | exact ⟨_, rfl⟩ | cases h3
      cases dat_int D3
      have i0 : 0 ≤ i := of_decide_eq_true h3
      refine ⟨_, rfl, a, _, 2, _, rfl, rfl, sqt_more M12 hT, at2, _, _, rfl, rfl, _, rfl, ?_⟩
      refine ite2 (fun h4 => ?_) (fun h4 => ?_)
      · have i1 : 0 < i := of_decide_eq_true h4
        rw [show isPos (.int i) = true from decide_eq_true (by omega), Bool.true_and] at k'
        exact ⟨_, rfl, a, _, 3, x4, rfl, rfl, sqt_more M12 hT, at3, x4, d4, rfl, D4.more M12, k' H2 M12⟩
      · have i1 : ¬ 0 < i := fun g => h4 (decide_eq_true g)
        rw [show isPos (.int i) = false from decide_eq_false (by omega), Bool.false_and] at k'
        exact k' H2 M12
    · have e : isPos d3 = false := by
        cases d3 with
        | int i =>
          have : ¬ 0 ≤ i := fun g => h3 (decide_eq_true g)
          exact decide_eq_false (by omega)
        | _ => rfl
      rw [e, Bool.false_and] at k'
      exact k' H2 M12
end
end Y

/-! SY5: the law's own reading of a yard. -/
namespace Ns
open PySem PySem.Spec PyProof.Rows L2
/-- xs != [], any list -/
def rNeE0 (K : PySem.W.Frag) : R2 := fun x y H Q => ∃ (a b : Addr) (xs : List V), x = .ref a ∧ y = .ref b ∧ SqL K H a xs ∧ SqL K H b [] ∧ Q (.bl (!decide (xs = []))) H
theorem op_neE0 {X : Cx} (hu : X.A.units + 64 < cLine) : OpR X (compareOp .NotEq) (rNeE0 X.K) := by
  intro pins s σ H x y v u Q I rx ry h
  obtain ⟨a, b, xs, rfl, rfl, ha, hb, q⟩ := h
  cases (show v = Value.ref a from rx)
  cases (show u = Value.ref b from ry)
  obtain ⟨us, r1, p1, _⟩ := I.list ha
  obtain ⟨ws, r2, p2, _⟩ := I.list hb
  have z : ws = [] := by cases r2; rfl
  subst z
  have l1 := r1.length
  cases xs with
  | nil =>
    cases us with
    | nil =>
      refine SeqAt.RcNeAt.lists (e := fun _ => true) p1.isList p2.isList rfl (by omega) (fun j h1 _ => absurd h1 (Nat.not_lt_zero j)) _ _ _ _ ?_
      exact ⟨.bl false, H, I, rfl, q⟩
    | cons _ _ => cases l1
  | cons x xs =>
    cases us with
    | nil => cases l1
    | cons u us =>
      refine SeqAt.RcNeAt.lists_lengths p1.isList p2.isList (by simp) (by omega) _ _ _ _ ?_
      exact ⟨.bl true, H, I, rfl, q⟩
end Ns
namespace Y
open PySem PySem.Spec PyProof.Rows L2 Ns
open PySem.W (dataLe dataLt alike)
theorem nmB_nm {z : Str} (h : nmB z = true) : Nm z := by
  unfold nmB at h
  split at h
  · cases h
  · rename_i c r e
    rw [Bool.and_eq_true, Bool.and_eq_true, decide_eq_true_iff, decide_eq_true_iff, List.all_eq_true] at h
    obtain ⟨h1, h2, h3⟩ := h
    refine ⟨c, r, e, letters_ok _ h2, fun d hd => signs_ok _ (of_decide_eq_true (h3 d (List.mem_cons_of_mem _ hd))), ?_⟩
    have := len_cps z
    rw [e, List.length_cons] at this
    omega
theorem lay_pairs : ∀ {l : List (Str × Str)}, (∀ k ∈ l, Nm k.1 ∧ Nm k.2) → PyData.canLayAll0 (l.map pD) = true ∧ PyData.depthAll (l.map pD) ≤ 1
  | [], _ => ⟨rfl, by simp [PyData.depthAll]⟩
  | k :: l, h => by
    obtain ⟨h1, h2⟩ := lay_pairs fun r hr => h r (List.mem_cons_of_mem _ hr)
    obtain ⟨g1, g2⟩ := h k List.mem_cons_self
    refine ⟨by simp [pD, PyData.canLayAll0, PyData.canLay0, h1, nm_ok g1, nm_ok g2], ?_⟩
    simp only [List.map_cons, PyData.depthAll, pD, PyData.depth]
    omega
theorem shaped_pairs {l : List (Str × Str)} (h : ∀ k ∈ l, Nm k.1 ∧ Nm k.2) : SeqAt.shaped (.list (l.map pD)) = true := by
  obtain ⟨h1, h2⟩ := lay_pairs h
  unfold SeqAt.shaped
  rw [Bool.and_eq_true]
  refine ⟨by simp [PyData.canLay0, h1], decide_eq_true ?_⟩
  simp only [PyData.depth]
  omega
theorem lay_nms : ∀ {l : List Str}, (∀ x ∈ l, Nm x) → PyData.canLayAll0 (l.map PyData.str) = true ∧ PyData.depthAll (l.map PyData.str) = 0
  | [], _ => ⟨rfl, by simp [PyData.depthAll]⟩
  | x :: l, h => by
    obtain ⟨h1, h2⟩ := lay_nms fun r hr => h r (List.mem_cons_of_mem _ hr)
    exact ⟨by simp [PyData.canLayAll0, PyData.canLay0, h1, nm_ok (h x List.mem_cons_self)], by simp [PyData.depthAll, PyData.depth, h2]⟩
theorem shaped_nms {l : List Str} (h : ∀ x ∈ l, Nm x) : SeqAt.shaped (.list (l.map PyData.str)) = true := by
  obtain ⟨h1, h2⟩ := lay_nms h
  unfold SeqAt.shaped
  rw [Bool.and_eq_true]
  refine ⟨by simp [PyData.canLay0, h1], decide_eq_true ?_⟩
  simp only [PyData.depth, h2]
  decide
theorem dp_cps {K : PySem.W.Frag} {H : Hp} : ∀ {qs : List Cp}, (∀ q ∈ qs, SqT K H q.1 [.str q.2.1, .str q.2.2]) → DpAll K H (qs.map fun q => V.ref q.1) ((qs.map (·.2)).map pD)
  | [], _ => .nil
  | q :: qs, h => .cons (.tup (h q List.mem_cons_self) (.cons (.str _) (.cons (.str _) .nil))) (dp_cps fun x hx => h x (List.mem_cons_of_mem _ hx))
theorem dp_nms {K : PySem.W.Frag} {H : Hp} : ∀ l : List Str, DpAll K H (l.map V.str) (l.map PyData.str)
  | [] => .nil
  | _ :: l => .cons (.str _) (dp_nms l)
theorem cps_of {H : Hp} : ∀ {qs : List Addr} {ks : List (Str × Str)}, Paired (fun q k => H q = some (.tup [.str k.1, .str k.2])) qs ks → ∃ ps : List Cp, ps.map (·.1) = qs ∧ ps.map (·.2) = ks ∧ ∀ p ∈ ps, H p.1 = some (.tup [.str p.2.1, .str p.2.2])
  | _, _, .nil => ⟨[], rfl, rfl, (fun _ z => nomatch z)⟩
  | _, _, .cons (a := q) (b := k) h t => by
    obtain ⟨ps, e1, e2, g⟩ := cps_of t
    exact ⟨(q, k) :: ps, by rw [List.map_cons, e1], by rw [List.map_cons, e2], fun p hp => (List.mem_cons.mp hp).elim (fun z => by rw [z]; exact h) (g p)⟩
def spLYard (K : PySem.W.Frag) : Sp := fun as H Q _ => ∃ (x : V) (d : PyData), as = [x] ∧ DatV K H x d ∧ Bd 1000 d ∧ Tl 63 d ∧ ∀ H', Same H H' → Q (.bl (yardB d)) H'
section
variable {P : Program} {w : World} {K : PySem.W.Frag} {mg : Str → Option Value} {base : Heap}
theorem scLY : FnScope ["thing", "cables", "cars", "one"] ["thing"] (defScope sLIsYard) := ⟨rfl, rfl, rfl, by decide +kernel, rfl, by decide +kernel, by decide +kernel⟩
theorem ok_lYard {f fB fR : Addr} {fd dB dR : FuncData} (F : Fun K "_law_is_yard" "_law_is_yard" sLIsYard f fd) (T : Nat0 mg) (GB : FnOk P w K mg base CX0 3 fB dB ["thing"] (spTellS K cableD)) (FB : Fun K "_law_is_cable" "_law_is_cable" sLIsCable fB dB) (mB : mg "_law_is_cable" = some (.ref fB)) (bB : Binds K dB ["thing"] [])
    (GR : FnOk P w K mg base CX0 3 fR dR ["thing"] (spTellS K carT)) (FR : Fun K "_law_is_car" "_law_is_car" sLIsCar fR dR) (mR : mg "_law_is_car" = some (.ref fR)) (bR : Binds K dR ["thing"] []) : FnOk P w K mg base CX0 4 f fd ["thing"] (spLYard K) := by
  refine F.ok scLY (fun as H Q E h => ?_) (fun cdv A outer s H as Q E hr h => ?_)
  · obtain ⟨x, d, rfl, _⟩ := h
    rfl
  · obtain ⟨x, d, rfl, D, bd, tl, k⟩ := h
    have hun := hr.units
    refine ⟨_, pss_cons (ps_if (PW.pt (pw_or (pt_not (pt_val (pe_callB (call_isD kit_T) (by rfl) T.isi (by decide +kernel) (pa_cons (pv 0) (pa_cons (pe_bltn (v := .ty "tuple") (by rfl) T.tuple (by decide +kernel) rfl) pa_nil)))))
        (pw_or1 (pt_cmpR op_ne (pe_callB call_len_seq (by rfl) T.len PySem.boot_len (pa_cons (pv 0) pa_nil)) pe_int (nomark _))))) (pss_one (ps_ret pe_bl)) pss_nil)
      (pss_cons (ps_if (PW.pt (pw_or (pt_not (pt_val (pe_callB (call_isD kit_T) (by rfl) T.isi (by decide +kernel) (pa_cons (pe_ix ix_tup (pv 0) pe_int (fun _ _ => rfl)) (pa_cons (pe_bltn (v := .ty "tuple") (by rfl) T.tuple (by decide +kernel) rfl) pa_nil)))))
        (pw_or1 (pt_not (pt_val (pe_callB (call_isD kit_T) (by rfl) T.isi (by decide +kernel) (pa_cons (pe_ix ix_tup (pv 0) pe_int (fun _ _ => rfl)) (pa_cons (pe_bltn (v := .ty "tuple") (by rfl) T.tuple (by decide +kernel) rfl) pa_nil)))))))) (pss_one (ps_ret pe_bl)) pss_nil)
      (pss_cons (ps_if (pt_cmpR (op_neE0 hun) (pe_lc (own := [("one", 3)]) (g := gName 3) (te := tVar 3) rfl scLY.nd (pi_tup (pe_ix ix_tup (pv 0) pe_int (fun _ _ => rfl))) (blkOk_by (N := ["thing", "cables", "cars", "one"]) (sc := defScope sLIsYard) (by decide +kernel))
          (fun _ _ _ _ _ => pg_name (i := 3) scLY.nd rfl (Or.inl rfl)) (fun _ _ _ _ _ => pts_one (pt_not (pt_val (pe_call GB hr rfl mB FB.kp bB .nil pass0 (pa_cons (pv 3) pa_nil))))) (fun _ _ _ _ _ => by exact pv 3)) (pe_lst pa_nil) (nomark _)) (pss_one (ps_ret pe_bl)) pss_nil)
      (pss_cons (ps_if (pt_cmpR (op_neE0 hun) (pe_lc (own := [("one", 3)]) (g := gName 3) (te := tVar 3) rfl scLY.nd (pi_tup (pe_ix ix_tup (pv 0) pe_int (fun _ _ => rfl))) (blkOk_by (N := ["thing", "cables", "cars", "one"]) (sc := defScope sLIsYard) (by decide +kernel))
          (fun _ _ _ _ _ => pg_name (i := 3) scLY.nd rfl (Or.inl rfl)) (fun _ _ _ _ _ => pts_one (pt_not (pt_val (pe_call GR hr rfl mR FR.kp bR .nil pass0 (pa_cons (pv 3) pa_nil))))) (fun _ _ _ _ _ => by exact pv 3)) (pe_lst pa_nil) (nomark _)) (pss_one (ps_ret pe_bl)) pss_nil)
      (pss_cons (ps_par (i := 1) (j := 2) rfl scLY.nd rfl rfl (by decide) rfl rfl (pa_cons (pe_lc (own := [("one", 3)]) (g := gName 3) (tt := tYes) (te := tTup (tCons (tOp (rIxT K) (tVar 3) (tC (V.int 0))) (tCons (tOp (rIxT K) (tVar 3) (tC (V.int 1))) tNil))) rfl scLY.nd (pi_tup (pe_ix ix_tup (pv 0) pe_int (fun _ _ => rfl)))
          (blkOk_by (N := ["thing", "cables", "cars", "one"]) (sc := defScope sLIsYard) (by decide +kernel)) (fun _ _ _ _ _ => pg_name (i := 3) scLY.nd rfl (Or.inl rfl)) (fun _ _ _ _ _ => pts_nil) (fun _ _ _ _ _ => by exact pe_tup (pa_cons (pe_ix ix_tup (pv 3) pe_int (fun _ _ => rfl)) (pa_cons (pe_ix ix_tup (pv 3) pe_int (fun _ _ => rfl)) pa_nil))))
        (pa_cons (pe_lc (own := [("one", 3)]) (g := gName 3) (tt := tYes) (te := tOp (rIxT K) (tVar 3) (tC (V.int 0))) rfl scLY.nd (pi_tup (pe_ix ix_tup (pv 0) pe_int (fun _ _ => rfl)))
          (blkOk_by (N := ["thing", "cables", "cars", "one"]) (sc := defScope sLIsYard) (by decide +kernel)) (fun _ _ _ _ _ => pg_name (i := 3) scLY.nd rfl (Or.inl rfl)) (fun _ _ _ _ _ => pts_nil) (fun _ _ _ _ _ => by exact pe_ix ix_tup (pv 3) pe_int (fun _ _ => rfl))) pa_nil)) (by rfl))
      (pss_one (ps_ret (pe_and (pe_cmpR (op_eqD hun) (pv 1) (pe_callB (cr_sortC rfl hun) (by rfl) T.sorted (by decide +kernel) (pa_cons (pe_callTy (call_setC rfl hun) (by rfl) T.set_ (by decide +kernel) (pa_cons (pv 1) pa_nil)) pa_nil)) (nomark _))
        (pe_one (pe_cmpR (op_eqD hun) (pv 2) (pe_callB (cr_sortSet rfl) (by rfl) T.sorted (by decide +kernel) (pa_cons (pe_callTy (call_setTx rfl) (by rfl) T.set_ (by decide +kernel) (pa_cons (pv 2) pa_nil)) pa_nil)) (nomark _)))))))))), ?_⟩
    refine ⟨_, rfl, x, d, rfl, D, qT d, rfl, ?_⟩
    refine ite2 (fun h => ?_) (fun h => ?_)
    · have e : yardB d = false := by cases d <;> first | rfl | exact absurd h Bool.false_ne_true
      rw [e] at k
      exact k H (Same.refl H)
    obtain ⟨a, xs, ds, rfl, rfl, hT, hA⟩ := dat_tup D (by simpa using h)
    obtain ⟨b1, b2⟩ := bd_tup bd
    have lx := hA.len
    refine ⟨_, rfl, a, xs, rfl, .inr hT, rfl, _, rfl, ?_⟩
    refine ite2 (fun h => ?_) (fun h => ?_)
    · have e : yardB (.tuple ds) = false := yard_not (d := .tuple ds) fun z => by
        have z := of_decide_eq_true (show decide ((ds.length : Int) = 2) = true from z)
        rw [lx, z] at h
        exact absurd h (by decide)
      rw [e] at k
      exact k H (Same.refl H)
    have l2 : ds.length = 2 := by
      rw [lx] at h
      have h : decide (V.int (ds.length : Int) = V.int 2) = true := by simpa using h
      have := of_decide_eq_true h
      injection this with this
      omega
    obtain ⟨x1, x2, d1, d2, rfl, rfl, D1, D2⟩ := row2 hA l2
    have k' : ∀ H', Same H H' → Q (.bl (cabsB d1 && carsB d2)) H' := k
    clear k h
    refine ⟨_, rfl, a, _, 0, x1, rfl, rfl, hT, at0, x1, d1, rfl, D1, qT d1, rfl, ?_⟩
    have note : ∀ {b : Bool}, (cabsB d1 && carsB d2) = b → ∀ H', Same H H' → Q (.bl b) H' := fun e H' M => e ▸ k' H' M
    refine ite2 (fun h => ?_) (fun h => ?_)
    · have e : cabsB d1 = false := by cases d1 <;> first | rfl | exact absurd h Bool.false_ne_true
      exact note (by rw [e]; rfl) H (Same.refl H)
    refine ⟨_, rfl, a, _, 1, x2, rfl, rfl, hT, at1, x2, d2, rfl, D2, qT d2, rfl, ?_⟩
    refine ite2 (fun h => ?_) (fun h2 => ?_)
    · have e : carsB d2 = false := by cases d2 <;> first | rfl | exact absurd h Bool.false_ne_true
      exact note (by rw [e, Bool.and_false]) H (Same.refl H)
    obtain ⟨ta, us, es, rfl, rfl, hTa, hAa⟩ := dat_tup D1 (by simpa using h)
    obtain ⟨tb, vs, fs, rfl, rfl, hTb, hAb⟩ := dat_tup D2 (by simpa using h2)
    clear h h2
    obtain ⟨ea1, ea2⟩ := bd_tup (b2 _ (.head _))
    obtain ⟨eb1, eb2⟩ := bd_tup (b2 _ (.tail _ (.head _)))
    simp only [Tl, TlA] at tl
    have ta63 : es.length ≤ 63 := tl.2.1.1
    have tb63 : fs.length ≤ 63 := tl.2.2.1.1
    have la := hAa.len
    have lb := hAb.len
    -- the cables
    refine ⟨_, rfl, a, _, 0, .ref ta, rfl, rfl, hT, at0, ta, rfl, ⟨_, hTa⟩, fun D1' hD1 => ?_⟩
    refine lc_tup (K := K) (a := ta) (xs := us) (fun i H' => ∃ zs, H' D1' = some (.lst zs) ∧ zs.length ≤ i ∧ (zs = [] ↔ (es.take i).all cableD = true) ∧ Same H H') ?_ ?_ ?_ ?_
    · exact ⟨[], upd_same, Nat.le_refl _, by simp, same_new (Same.refl H) hD1⟩
    · rintro i H' _ ⟨_, _, _, _, M⟩
      exact sqt_more M hTa
    · rintro i u H' hu ⟨zs, q1, q2, q3, M⟩
      obtain ⟨du, hdu, Du⟩ := datA_at hAa hu
      have now : (es.take (i + 1)).all cableD = ((es.take i).all cableD && cableD du) := by rw [List.take_succ, hdu, List.all_append]; simp
      refine ⟨rfl, _, rfl, u, du, rfl, Du.more M, ea2 du (List.mem_of_getElem? hdu), fun H2 M2 => ⟨_, rfl, ?_⟩⟩
      have e1 := M2 _ _ q1
      refine ite2 (fun g => ?_) (fun g => ?_)
      · refine ⟨_, rfl, zs, e1, ?_, zs ++ [u], upd_same, by rw [List.length_append]; show _ + 1 ≤ _; omega, ?_, same_put (M.trans M2) hD1⟩
        · exact small1000 (by have := (List.getElem?_eq_some_iff.mp hdu).1; omega)
        · rw [now, show cableD du = false by simpa using g, Bool.and_false]
          simp
      · refine ⟨zs, e1, by omega, ?_, M.trans M2⟩
        rw [now, show cableD du = true by simpa using g, Bool.and_true]
        exact q3
    rintro H1 ⟨zs, q1, _, q3, M1⟩
    rw [la, List.take_length] at q3
    refine ⟨by show 0 ≤ sizeLine; decide, fun p hp => ⟨D1', p, zs, rfl, rfl, SqL.of (s3u hp q1), SqL.of upd_same, _, rfl, ?_⟩⟩
    have M2 := same_new (o := .lst []) M1 hp
    generalize upd H1 p (.lst []) = H2 at M2 ⊢
    refine ite2 (fun g => ?_) (fun g => ?_)
    · have e : es.all cableD = false := by
        cases c : es.all cableD with
        | false => rfl
        | true => rw [q3.mpr c] at g; exact absurd g (by decide)
      exact note (by rw [show cabsB (.tuple es) = (es.all cableD && _) from rfl, e]; rfl) H2 M2
    have hca : es.all cableD = true := q3.mp (by simpa using g)
    clear g q1 q3 M1 hp hD1
    -- the cars
    refine ⟨_, rfl, a, _, 1, .ref tb, rfl, rfl, sqt_more M2 hT, at1, tb, rfl, ⟨_, sqt_more M2 hTb⟩, fun D2' hD2 => ?_⟩
    have hD2n := fr_none M2 hD2
    refine lc_tup (K := K) (a := tb) (xs := vs) (fun i H' => ∃ zs, H' D2' = some (.lst zs) ∧ zs.length ≤ i ∧ (zs = [] ↔ (fs.take i).all carT = true) ∧ Same H H') ?_ ?_ ?_ ?_
    · exact ⟨[], upd_same, Nat.le_refl _, by simp, same_new M2 hD2⟩
    · rintro i H' _ ⟨_, _, _, _, M⟩
      exact sqt_more M hTb
    · rintro i u H' hu ⟨zs, q1, q2, q3, M⟩
      obtain ⟨du, hdu, Du⟩ := datA_at hAb hu
      have now : (fs.take (i + 1)).all carT = ((fs.take i).all carT && carT du) := by rw [List.take_succ, hdu, List.all_append]; simp
      refine ⟨rfl, _, rfl, u, du, rfl, Du.more M, eb2 du (List.mem_of_getElem? hdu), fun H2 M2 => ⟨_, rfl, ?_⟩⟩
      have e1 := M2 _ _ q1
      refine ite2 (fun g => ?_) (fun g => ?_)
      · refine ⟨_, rfl, zs, e1, ?_, zs ++ [u], upd_same, by rw [List.length_append]; show _ + 1 ≤ _; omega, ?_, same_put (M.trans M2) hD2n⟩
        · exact small1000 (by have := (List.getElem?_eq_some_iff.mp hdu).1; omega)
        · rw [now, show carT du = false by simpa using g, Bool.and_false]
          simp
      · refine ⟨zs, e1, by omega, ?_, M.trans M2⟩
        rw [now, show carT du = true by simpa using g, Bool.and_true]
        exact q3
    rintro H3 ⟨zs, q1, _, q3, M3⟩
    rw [lb, List.take_length] at q3
    refine ⟨by show 0 ≤ sizeLine; decide, fun p hp => ⟨D2', p, zs, rfl, rfl, SqL.of (s3u hp q1), SqL.of upd_same, _, rfl, ?_⟩⟩
    have M4 := same_new (o := .lst []) M3 hp
    generalize upd H3 p (.lst []) = H4 at M4 ⊢
    refine ite2 (fun g => ?_) (fun g => ?_)
    · have e : fs.all carT = false := by
        cases c : fs.all carT with
        | false => rfl
        | true => rw [q3.mpr c] at g; exact absurd g (by decide)
      exact note (by rw [show carsB (.tuple fs) = (fs.all carT && _) from rfl, e, Bool.false_and, Bool.and_false]) H4 M4
    have hra : fs.all carT = true := q3.mp (by simpa using g)
    clear g q1 q3 M3 hp hD2 M2 hD2n
    have note2 : ∀ {b : Bool}, (risesD ((es.map endsD).map pD) && risesD ((fs.map nameOf).map .str)) = b → ∀ H', Same H H' → Q (.bl b) H' := fun e H' M => note (by
      rw [show cabsB (.tuple es) = (es.all cableD && risesD ((es.map endsD).map pD)) from rfl, show carsB (.tuple fs) = (fs.all carT && risesD ((fs.map nameOf).map .str)) from rfl, hca, hra]
      exact e) H' M
    clear note k'
    -- their ends, their names
    refine ⟨_, rfl, a, _, 0, .ref ta, rfl, rfl, sqt_more M4 hT, at0, ta, rfl, ⟨_, sqt_more M4 hTa⟩, fun G1 hG1 => ?_⟩
    have hG1n := fr_none M4 hG1
    refine lc_tup (K := K) (a := ta) (xs := us) (fun i H' => ∃ qs : List Addr, H' G1 = some (.lst (qs.map V.ref)) ∧ Paired (fun q k => H' q = some (.tup [.str k.1, .str k.2])) qs ((es.take i).map endsD) ∧ Same H H') ?_ ?_ ?_ ?_
    · exact ⟨[], upd_same, by rw [List.take_zero]; exact .nil, same_new M4 hG1⟩
    · rintro i H' _ ⟨_, _, _, M⟩
      exact sqt_more M hTa
    · rintro i u H' hu ⟨qs, g1, g2, M⟩
      obtain ⟨du, hdu, Du⟩ := datA_at hAa hu
      obtain ⟨z1, z2, z3, rfl, _⟩ := cable_shape (List.all_eq_true.mp hca du (List.mem_of_getElem? hdu))
      obtain ⟨tu, rfl, hTu⟩ := dat_row3 (Du.more M)
      refine ⟨rfl, _, rfl, tu, _, 0, _, rfl, rfl, hTu, at0, _, rfl, tu, _, 1, _, rfl, rfl, hTu, at1, by show 2 ≤ sizeLine; decide, fun q hq => ⟨qs.map V.ref, s3u hq g1, ?_, qs ++ [q], ?_, ?_, ?_⟩⟩
      · have := paired_len g2
        rw [List.length_map, List.length_take] at this
        rw [List.length_map]
        exact small1000 (by omega)
      · rw [upd_same, List.map_append]
        rfl
      · have nD : G1 ≠ q := fun e => by rw [e, hq] at g1; cases g1
        have keep : ∀ {r : Addr} {o : HO}, r ≠ G1 → H' r = some o → upd (upd H' q (.tup [.str z1, .str z2])) G1 (.lst (qs.map V.ref ++ [.ref q])) r = some o := fun n e => by rw [upd_ne n]; exact s3u hq e
        rw [List.take_succ, hdu, List.map_append]
        exact paired_snoc (by rw [upd_ne nD.symm]; exact upd_same) (paired_imp (fun r e hr' => keep (fun z => by rw [z, g1] at hr'; cases hr') hr') g2)
      · exact same_put (same_new M hq) hG1n
    rintro H5 ⟨qs, g1, g2, M5⟩
    rw [la, List.take_length] at g2
    refine ⟨_, rfl, a, _, 1, .ref tb, rfl, rfl, sqt_more M5 hT, at1, tb, rfl, ⟨_, sqt_more M5 hTb⟩, fun G2 hG2 => ?_⟩
    have hG2n := fr_none M5 hG2
    have hG2n5 : H5 G2 = none := fr_none (Same.refl H5) hG2
    refine lc_tup (K := K) (a := tb) (xs := vs) (fun i H' => H' G2 = some (.lst (((fs.take i).map nameOf).map V.str)) ∧ Same H5 H') ?_ ?_ ?_ ?_
    · exact ⟨by rw [List.take_zero, upd_same]; rfl, same_new (Same.refl H5) hG2⟩
    · rintro i H' _ ⟨_, M⟩
      exact sqt_more (M5.trans M) hTb
    · rintro i u H' hu ⟨w1, M⟩
      obtain ⟨du, hdu, Du⟩ := datA_at hAb hu
      obtain ⟨z1, z2, z3, z4, rfl, _⟩ := car_shape (List.all_eq_true.mp hra du (List.mem_of_getElem? hdu))
      obtain ⟨tu, rfl, hTu⟩ := dat_row4 (Du.more (M5.trans M))
      refine ⟨rfl, _, rfl, tu, _, 0, _, rfl, rfl, hTu, at0, _, w1, ?_, ?_, same_put M hG2n5⟩
      · rw [List.length_map, List.length_map, List.length_take]
        exact small1000 (by omega)
      · rw [upd_same, List.take_succ, hdu]
        simp [nameOf]
    rintro H6 ⟨w1, M6⟩
    rw [lb, List.take_length] at w1
    have g1 := M6 _ _ g1
    have g2 : Paired (fun q k => H6 q = some (.tup [.str k.1, .str k.2])) qs (es.map endsD) := paired_imp (fun _ _ h => M6 _ _ h) g2
    have M6 := M5.trans M6
    clear M5 hG1 hG2 hG1n hG2n hG2n5
    refine ⟨_, _, rfl, ?_⟩
    obtain ⟨ps, rfl, e2, tps⟩ := cps_of g2
    have lps : ps.length = es.length := by
      have := congrArg List.length e2
      rwa [List.length_map, List.length_map] at this
    have nms1 : ∀ k ∈ es.map endsD, Nm k.1 ∧ Nm k.2 := fun k hk => by
      obtain ⟨u, hu, rfl⟩ := List.mem_map.mp hk
      obtain ⟨z1, z2, z3, rfl, n1, n2⟩ := cable_shape (List.all_eq_true.mp hca u hu)
      exact ⟨nmB_nm n1, nmB_nm n2⟩
    have nms2 : ∀ k ∈ fs.map nameOf, Nm k := fun k hk => by
      obtain ⟨u, hu, rfl⟩ := List.mem_map.mp hk
      obtain ⟨z1, z2, z3, z4, rfl, n1⟩ := car_shape (List.all_eq_true.mp hra u hu)
      exact nmB_nm n1
    have g1 : H6 G1 = some (.lst (ps.map fun p => V.ref p.1)) := by rw [g1, List.map_map]; rfl
    refine ⟨_, rfl, _, rfl, G1, ps, rfl, SqL.of g1, by omega, fun p hp => SqT.of (tps p hp), fun S rs hS sub nd mem => ?_⟩
    have M7 := same_new (o := SetC P w S rs) (Same.refl H6) hS
    have gS : upd H6 S (SetC P w S rs) S = some (SetC P w S rs) := upd_same
    refine ⟨S, rs, rfl, gS, fun r hr => SqT.of (M7 _ _ (tps r (sub r hr))), fun p qs hp perm pw => ?_⟩
    have M8 := same_new (o := .lst (qs.map fun q => V.ref q.1)) M7 hp
    have gq : upd (upd H6 S (SetC P w S rs)) p (.lst (qs.map fun q => V.ref q.1)) p = some (.lst (qs.map fun q => V.ref q.1)) := upd_same
    have inps : ∀ q ∈ qs, q ∈ ps := fun q hq => sub q (perm.mem_iff.mp hq)
    have mem2 : ∀ k, k ∈ qs.map (·.2) ↔ k ∈ ps.map (·.2) := fun k => (perm.map (·.2)).mem_iff.trans (mem k)
    refine ⟨.list ((ps.map (·.2)).map pD), .list ((qs.map (·.2)).map pD), .lst (SqL.of (M8 _ _ g1)) (dp_cps fun q hq => SqT.of (M8 _ _ (tps q hq))), .lst (SqL.of gq) (dp_cps fun q hq => SqT.of (M8 _ _ (tps q (inps q hq)))),
      shaped_pairs (by rw [e2]; exact nms1), shaped_pairs (fun k hk => nms1 k (by rw [← e2]; exact (mem2 k).mp hk)), _, rfl, ?_⟩
    have ev : PyData.eqv (.list ((ps.map (·.2)).map pD)) (.list ((qs.map (·.2)).map pD)) = risesD ((es.map endsD).map pD) := by
      rw [pairs_eqv, sorted_set (le := dataLe false pD) anti_pD le_pD ((perm.map (·.2)).nodup_iff.mpr nd) mem2 (List.pairwise_map.mpr (pw.imp fun {a b} h => by rw [PySem.W.dataLe_eq] at h ⊢; exact h)), rises_of, e2]
    rw [ev]
    have M68 := M6.trans M8
    refine ite2 (fun h => ?_) (fun h => ?_)
    · rw [h, Bool.true_and] at note2
      have w8 := M8 _ _ w1
      refine ⟨_, rfl, _, rfl, G2, fs.map nameOf, rfl, SqL.of w8, by rw [List.length_map]; omega, fun S2 ls hS2 mem3 => ?_⟩
      have M9 := same_new (o := SetS P w S2 ls) M8 hS2
      refine ⟨S2, ls, rfl, upd_same, fun l nl ml => ?_, fun p2 ys hp2 sy ny my => ?_⟩
      · have : l.length ≤ (fs.map nameOf).length := sub_len nl fun s hs => (mem3 s).mp ((ml s).mp hs)
        rw [List.length_map] at this
        omega
      · have MA := same_new (o := .lst (ys.map V.str)) M9 hp2
        have mem4 : ∀ m, m ∈ ys ↔ m ∈ fs.map nameOf := fun m => (my m).trans (mem3 m)
        refine ⟨.list ((fs.map nameOf).map .str), .list (ys.map .str), .lst (SqL.of (MA _ _ w1)) (dp_nms _), .lst (SqL.of upd_same) (dp_nms _), shaped_nms nms2, shaped_nms (fun k hk => nms2 k ((mem4 k).mp hk)), ?_⟩
        refine note2 ?_ _ (M6.trans MA)
        rw [strs_eqv, sorted_set (le := dataLe false PyData.str) anti_str le_str ny mem4 (sorted_pw sy), rises_of]
    · have h : risesD ((es.map endsD).map pD) = false := by simpa using h
      rw [h, Bool.false_and] at note2
      exact note2 rfl _ M68
end
end Y

/-! SY6: a yard with one more cable or car. -/
namespace Ns
open PySem PySem.Spec PyProof.Rows L2
/-- a value with what is known of it -/
def tCut (te : TE) : TE := fun σ H Q => ∃ R : VK, te σ H R ∧ ∀ v H', R v H' → Q v H'
theorem pe_cut {X : Cx} {e : Expr} {te : TE} (he : PE X e te) : PE X e (tCut te) := by
  refine ⟨fun pins s σ H Q I h => ?_⟩
  obtain ⟨R, h1, h2⟩ := h
  refine thn (he.run pins s σ H R I h1) fun u s1 hu => ?_
  obtain ⟨v, H1, I1, r, q⟩ := hu
  exact ⟨v, H1, I1, r, h2 _ _ q⟩
/-- a condition with what is known behind it -/
def tCutB (t : TT) : TT := fun σ H Q => ∃ R : Bool → Hp → Prop, t σ H R ∧ ∀ c H', R c H' → Q c H'
theorem pt_cutB {X : Cx} {e : Expr} {t : TT} (h : PT X e t) : PT X e (tCutB t) := by
  refine ⟨fun pins s σ H Q I h0 => ?_⟩
  obtain ⟨R, h1, h2⟩ := h0
  refine thn (h.run pins s σ H R I h1) fun u s1 hu => ?_
  obtain ⟨H1, I1, q⟩ := hu
  exact ⟨H1, I1, h2 _ _ q⟩
end Ns
namespace Y
open PySem PySem.Spec PyProof.Rows L2 Ns
open PySem.W (dataLe dataLt alike)
theorem pairs_of {α β : Type} {R : α → β → Prop} : ∀ {as : List α} {bs : List β}, Paired R as bs → ∃ ps : List (α × β), ps.map (·.1) = as ∧ ps.map (·.2) = bs ∧ ∀ p ∈ ps, R p.1 p.2
  | _, _, .nil => ⟨[], rfl, rfl, (fun _ z => nomatch z)⟩
  | _, _, .cons (a := a) (b := b) h t => by
    obtain ⟨ps, e1, e2, g⟩ := pairs_of t
    exact ⟨(a, b) :: ps, by rw [List.map_cons, e1], by rw [List.map_cons, e2], fun p hp => (List.mem_cons.mp hp).elim (fun z => by rw [z]; exact h) (g p)⟩
theorem datA_all {K : PySem.W.Frag} {H : Hp} : ∀ {l : List (V × PyData)}, (∀ p ∈ l, DatV K H p.1 p.2) → DatA K H (l.map (·.1)) (l.map (·.2))
  | [], _ => .nil
  | p :: l, h => .cons (h p List.mem_cons_self) (datA_all fun x hx => h x (List.mem_cons_of_mem _ hx))
theorem cars_more {K : PySem.W.Frag} {H H' : Hp} {zs : List V} {rs : List Car} (h : Paired (CarV K H) zs rs) (m : Same H H') : Paired (CarV K H') zs rs := paired_imp (fun v c ⟨a, e1, q⟩ => ⟨a, e1, sqt_more m q⟩) h
theorem cabs_more {K : PySem.W.Frag} {H H' : Hp} {zs : List V} {rs : List Cab} (h : Paired (CabV K H) zs rs) (m : Same H H') : Paired (CabV K H') zs rs := paired_imp (fun v c ⟨a, e1, q⟩ => ⟨a, e1, sqt_more m q⟩) h
theorem dat_cab {K : PySem.W.Frag} {H : Hp} {x : V} {c : Cab} (h : CabV K H x c) : DatV K H x (cabD c) := by
  obtain ⟨t, rfl, h⟩ := h
  exact .tup h (.cons (.str _) (.cons (.str _) (.cons (.int _) .nil)))
theorem dat_car {K : PySem.W.Frag} {H : Hp} {x : V} {c : Car} (h : CarV K H x c) : DatV K H x (carD c) := by
  obtain ⟨t, rfl, h⟩ := h
  exact .tup h (.cons (.str _) (.cons (.str _) (.cons (.int _) (.cons (.int _) .nil))))
def CabN (c : Cab) : Prop := c.1.length ≤ 41 ∧ c.2.1.length ≤ 41 ∧ 0 ≤ c.2.2 ∧ c.2.2 ≤ 10 ^ 12 + 1
def CarN (c : Car) : Prop := c.1.length ≤ 41 ∧ c.2.1.length ≤ 41 ∧ 0 ≤ c.2.2.1 ∧ c.2.2.1 ≤ 10 ^ 12 + 1 ∧ 0 ≤ c.2.2.2 ∧ c.2.2.2 ≤ 10 ^ 12 + 1
theorem bd_num {i : Int} (h0 : 0 ≤ i) (h1 : i ≤ 10 ^ 12 + 1) : i.natAbs < 10 ^ 41 := by
  have : (10 : Nat) ^ 13 < 10 ^ 41 := by decide
  omega
theorem bd_cab {c : Cab} (h : CabN c) : Bd 41 (cabD c) := by
  unfold cabD
  simp only [Bd, BdA, and_true]
  exact ⟨by simp, h.1, h.2.1, bd_num h.2.2.1 h.2.2.2⟩
theorem bd_car {c : Car} (h : CarN c) : Bd 41 (carD c) := by
  unfold carD
  simp only [Bd, BdA, and_true]
  exact ⟨by simp, h.1, h.2.1, bd_num h.2.2.1 h.2.2.2.1, bd_num h.2.2.2.2.1 h.2.2.2.2.2⟩
theorem cabN {cs : List Cab} {rs : List Car} (h : YardP cs rs) : ∀ c ∈ cs, CabN c := fun c hc => by
  obtain ⟨h1, h2, h3, h4⟩ := h.cab c hc
  have := (nm_codes h1).2
  have := (nm_codes h2).2
  exact ⟨by omega, by omega, h3, by omega⟩
theorem carN {cs : List Cab} {rs : List Car} (h : YardP cs rs) : ∀ c ∈ rs, CarN c := fun c hc => by
  obtain ⟨h1, h2, h3, h4, h5, h6⟩ := h.car c hc
  have := (nm_codes (.inl h1)).2
  have := (nm_codes h2).2
  exact ⟨by omega, by omega, by omega, by omega, h5, by omega⟩
theorem bd_row {ds : List PyData} (l : ds.length ≤ 41) (h : ∀ d ∈ ds, Bd 41 d) : Bd 41 (.tuple ds) := by
  simp only [Bd]
  exact ⟨l, bdA_iff.mpr h⟩
theorem bd_cabs {cs : List Cab} {rs : List Car} (h : YardP cs rs) : Bd 41 (.tuple (cs.map cabD)) := bd_row (by rw [List.length_map]; have := h.lc; omega) fun d hd => by
  obtain ⟨c, hc, rfl⟩ := List.mem_map.mp hd
  exact bd_cab (cabN h c hc)
theorem bd_cars {cs : List Cab} {rs : List Car} (h : YardP cs rs) : Bd 41 (.tuple (rs.map carD)) := bd_row (by rw [List.length_map]; have := h.lr; omega) fun d hd => by
  obtain ⟨c, hc, rfl⟩ := List.mem_map.mp hd
  exact bd_car (carN h c hc)
theorem bd_two {d e : PyData} (h1 : Bd 41 d) (h2 : Bd 41 e) : Bd 41 (.tuple [d, e]) := bd_row (by show 2 ≤ 41; decide) fun x hx => by
  simp only [List.mem_cons, List.not_mem_nil, or_false] at hx
  rcases hx with rfl | rfl <;> assumption
def spNearY (K : PySem.W.Frag) : Sp := fun as H Q _ => ∃ (b : Addr) (y : V) (cs : List Cab) (rs : List Car), as = [.ref b, y] ∧ Bag H b ∧ YardV K (wo H b) y cs rs ∧ YardP cs rs ∧
  ∀ (x : V) (d : PyData) (H' : Hp), DatV K (wo H' b) x d → Bd 41 d → Bag H' b → Sb b H H' → Q x H'
section
variable {P : Program} {w : World} {K : PySem.W.Frag} {mg : Str → Option Value} {base : Heap}
theorem scNY : FnScope ["bag", "yard", "cables", "cars", "one", "other", "cap", "more", "rows", "name", "knot", "rate", "need", "some"] ["bag", "yard"] (defScope sNearYard) := ⟨rfl, rfl, rfl, by decide +kernel, rfl, by decide +kernel, by decide +kernel⟩
theorem ok_nearYard {f fT fS : Addr} {fd dT dS : FuncData} (F : Fun K "_law_near_yard" "_law_near_yard" sNearYard f fd) (T : Nat0 mg) (FT : Fun K "_law_take" "_law_take" sTake fT dT) (mT : mg "_law_take" = some (.ref fT)) (bT : Binds K dT ["bag", "many"] [])
    (FS : Fun K "_law_some" "_law_some" sSome fS dS) (mS : mg "_law_some" = some (.ref fS)) (bS : Binds K dS ["bag", "things"] []) : FnOk P w K mg base CX0 3 f fd ["bag", "yard"] (spNearY K) := by
  have GT : FnOk P w K mg base CX0 1 fT dT ["bag", "many"] spTake := ok_take FT T
  have GS : FnOk P w K mg base CX0 2 fS dS ["bag", "things"] (spSome K) := ok_some FS T FT mT bT
  refine F.ok scNY (fun as H Q E h => ?_) (fun cdv A outer s H as Q E hr h => ?_)
  · obtain ⟨b, y, cs, rs, rfl, _⟩ := h
    rfl
  · obtain ⟨b, y, cs, rs, rfl, hB, hV, hP, k⟩ := h
    have hr1 : Room 1 _ := hr.mono (by decide)
    have hun := hr.units
    have hr2 : Room 2 _ := hr.mono (by decide)
    refine ⟨_, pss_cons (ps_asg (pv 1) (pg_tup rfl (pgs_cons (pg_name (i := 2) scNY.nd rfl (.inl rfl)) (pgs_cons (pg_name (i := 3) scNY.nd rfl (.inl rfl)) pgs_nil))))
      (pss_cons (ps_if (pt_cutB <| PW.pt (pw_and (pt_cmpR (op_neE hun) (pv 2) (pe_tup pa_nil) (nomark _)) (pw_and1 (pt_cmpR op_eq (pe_call GT hr1 rfl mT FT.kp bT .nil pass0 (pa_cons (pv 0) (pa_cons pe_int pa_nil))) pe_int (nomark _))))) (pss_cons (ps_asg (pe_call GS hr2 rfl mS FS.kp bS .nil pass0 (pa_cons (pv 0) (pa_cons (pe_callTy call_list_of (by rfl) T.list_ (by decide +kernel) (pa_cons (pv 2) pa_nil)) pa_nil))) (pg_tup rfl (pgs_cons (pg_name (i := 4) scNY.nd rfl (.inl rfl)) (pgs_cons (pg_name (i := 5) scNY.nd rfl (.inl rfl)) (pgs_cons (pg_name (i := 6) scNY.nd rfl (.inl rfl)) pgs_nil)))))
      (pss_cons (ps_set (i := 7) scNY.nd rfl (.inl rfl) (pe_call GS hr2 rfl mS FS.kp bS .nil pass0 (pa_cons (pv 0) (pa_cons (pe_lst (pa_cons (pe_tup (pa_cons (pv 4) (pa_cons (pv 5) (pa_cons (pe_op op_add (pv 6) pe_int) pa_nil)))) (pa_cons (pe_tup (pa_cons (pv 5) (pa_cons (pv 4) (pa_cons (pv 6) pa_nil)))) (pa_cons (pe_tup (pa_cons (pv 4) (pa_cons pe_str (pa_cons (pv 6) pa_nil)))) (pa_cons (pe_tup (pa_cons (pv 4) (pa_cons (pv 5) (pa_cons (pv 6) pa_nil)))) pa_nil))))) pa_nil))))
      (pss_cons (ps_set (i := 8) scNY.nd rfl (.inl rfl) (pe_op op_cat (pe_callTy call_list_of (by rfl) T.list_ (by decide +kernel) (pa_cons (pv 2) pa_nil)) (pe_lst (pa_cons (pv 7) pa_nil))))
      (pss_one (ps_ret (pe_tup (pa_cons (pe_callTy call_tuple_of (by rfl) T.tuple (by decide +kernel) (pa_cons (pe_cut (pe_ifExp (pt_cmpR op_gt (pe_call GT hr1 rfl mT FT.kp bT .nil pass0 (pa_cons (pv 0) (pa_cons pe_int pa_nil))) pe_int (nomark _)) (pe_callB (cr_sortG hun) (by rfl) T.sorted (by decide +kernel) (pa_cons (pv 8) pa_nil)) (pv 8))) pa_nil)) (pa_cons (pv 3) pa_nil)))))))) pss_nil)
      (pss_cons (ps_if (pt_cmpR (op_neE hun) (pv 3) (pe_tup pa_nil) (nomark _)) (pss_cons (ps_asg (pe_call GS hr2 rfl mS FS.kp bS .nil pass0 (pa_cons (pv 0) (pa_cons (pe_callTy call_list_of (by rfl) T.list_ (by decide +kernel) (pa_cons (pv 3) pa_nil)) pa_nil))) (pg_tup rfl (pgs_cons (pg_name (i := 9) scNY.nd rfl (.inl rfl)) (pgs_cons (pg_name (i := 10) scNY.nd rfl (.inl rfl)) (pgs_cons (pg_name (i := 11) scNY.nd rfl (.inl rfl)) (pgs_cons (pg_name (i := 12) scNY.nd rfl (.inl rfl)) pgs_nil))))))
      (pss_cons (ps_set (i := 13) scNY.nd rfl (.inl rfl) (pe_lst (pa_cons (pe_tup (pa_cons (pv 9) (pa_cons (pv 10) (pa_cons (pv 11) (pa_cons (pe_op op_add (pv 12) pe_int) pa_nil))))) (pa_cons (pe_tup (pa_cons (pv 9) (pa_cons pe_str (pa_cons (pv 11) (pa_cons (pv 12) pa_nil))))) (pa_cons (pe_tup (pa_cons (pe_op op_add_str (pv 9) pe_str) (pa_cons (pv 10) (pa_cons (pv 11) (pa_cons (pv 12) pa_nil))))) pa_nil)))))
      (pss_cons (ps_set (i := 8) scNY.nd rfl (.inl rfl) (pe_op op_cat (pe_callTy call_list_of (by rfl) T.list_ (by decide +kernel) (pa_cons (pv 3) pa_nil)) (pe_lst (pa_cons (pe_call GS hr2 rfl mS FS.kp bS .nil pass0 (pa_cons (pv 0) (pa_cons (pe_op op_cat (pv 13) (pe_lst (pa_cons (pe_tup (pa_cons pe_str (pa_cons (pv 9) (pa_cons pe_int (pa_cons pe_int pa_nil))))) pa_nil))) pa_nil))) pa_nil))))
      (pss_one (ps_ret (pe_tup (pa_cons (pv 2) (pa_cons (pe_callTy call_tuple_of (by rfl) T.tuple (by decide +kernel) (pa_cons (pe_cut (pe_ifExp (pt_cmpR op_gt (pe_call GT hr1 rfl mT FT.kp bT .nil pass0 (pa_cons (pv 0) (pa_cons pe_int pa_nil))) pe_int (nomark _)) (pe_callB (cr_sortG hun) (by rfl) T.sorted (by decide +kernel) (pa_cons (pv 8) pa_nil)) (pv 8))) pa_nil)) pa_nil)))))))) pss_nil)
      (pss_one (ps_ret (pe_tup (pa_cons (pv 2) (pa_cons (pe_tup (pa_cons (pe_tup (pa_cons pe_str (pa_cons pe_str (pa_cons pe_int (pa_cons pe_int pa_nil))))) pa_nil)) pa_nil))))))), ?_⟩
    obtain ⟨ty, ya, yb, xs, zs, rfl, v1, v2, v3, v4, v5⟩ := hV
    have lx : xs.length = cs.length := paired_len v4
    have lz : zs.length = rs.length := paired_len v5
    have lc := hP.lc
    have lr := hP.lr
    refine ⟨_, rfl, ty, _, rfl, sqt_more (wo_sub H b) v1, rfl, _, _, rfl, _, _, rfl, rfl, ?_⟩
    refine ⟨fun c H' => (c = true → cs ≠ []) ∧ Bag H' b ∧ Sb b H H', ?_, ?_⟩
    · refine ⟨_, rfl, by show 0 ≤ sizeLine; decide, fun q hq => ⟨ya, q, xs, rfl, rfl, sqt_more (same_new (Same.refl H) hq) (sqt_more (wo_sub H b) v2), SqT.of upd_same, _, rfl, ?_⟩⟩
      have bq := hB.new (o := .tup []) hq
      have sq := (Sb.refl b H).new (o := .tup []) hq
      refine ite2 (fun c => ?_) (fun c => ⟨(fun z => by cases z), bq, sq⟩)
      have ne : xs ≠ [] := by simpa using c
      refine ⟨_, rfl, b, 2, rfl, bq, by decide, by decide, fun v H1 v0 v1 b1 s1 => ⟨rfl, _, rfl, ?_⟩⟩
      exact ⟨fun _ z => ne (List.length_eq_zero_iff.mp (by rw [lx, z]; rfl)), b1, sq.trans s1⟩
    rintro c H1 ⟨c1, B1, S1⟩
    refine ite2 (fun h => ?_) (fun _ => ?_)
    · have ne : cs ≠ [] := c1 h
      clear c1 h
      have w2 := sqt_more S1.1 v2
      have w3 := sqt_more S1.1 v3
      have w4 := cabs_more v4 S1.1
      have w5 := cars_more v5 S1.1
      refine ⟨_, rfl, _, rfl, ya, xs, rfl, .inr (sqt_more (wo_sub H1 b) w2), fun l1 hl1 => ?_⟩
      have B2 := B1.new (o := .lst xs) hl1
      have S2 := S1.new (o := .lst xs) hl1
      refine ⟨b, l1, xs, rfl, B2, sql_new upd_same (B1.ne hl1), fun z => ne (List.length_eq_zero_iff.mp (by rw [← lx, z]; rfl)), by omega, fun x H2 hx B3 S3 => ?_⟩
      have S3 := S2.trans S3
      clear B2 S2
      obtain ⟨j, hj⟩ := List.getElem?_of_mem hx
      obtain ⟨c, hc, tx, rfl, htx⟩ := paired_at v4 hj
      have N := cabN hP c (List.mem_of_getElem? hc)
      have hF := hP.cab c (List.mem_of_getElem? hc)
      have htx2 := sqt_more S3.1 htx
      refine ⟨tx, _, rfl, sqt_more (wo_sub H2 b) htx2, rfl, _, _, rfl, _, _, rfl, _, _, rfl, rfl, ?_⟩
      have ins : ∀ {G : Hp} {p : Addr} (s1 s2 : Str) (m : Int), Bag G b → G p = none → SqT K (wo (upd G p (.tup [.str s1, .str s2, .int m])) b) p [.str s1, .str s2, .int m] := fun s1 s2 m B hp => sqt_wo' (SqT.of upd_same) (B.new hp)
      have fF : feed.length ≤ 41 := by decide +kernel
      refine ⟨_, rfl, _, rfl, _, rfl, _, rfl, _, _, rfl, rfl, by show 3 ≤ sizeLine; decide, fun t1 h1 => ?_⟩
      have q1 := ins c.1 c.2.1 (c.2.2 + 1) B3 h1
      have M1 := same_new (o := .tup [.str c.1, .str c.2.1, .int (c.2.2 + 1)]) (Same.refl H2) h1
      generalize upd H2 t1 (.tup [.str c.1, .str c.2.1, .int (c.2.2 + 1)]) = G1 at q1 M1 ⊢
      have b1 := B3.keep M1
      refine ⟨_, rfl, _, rfl, _, rfl, by show 3 ≤ sizeLine; decide, fun t2 h2 => ?_⟩
      have q2 := ins c.2.1 c.1 c.2.2 b1 h2
      have M2 := same_new (o := .tup [.str c.2.1, .str c.1, .int c.2.2]) (Same.refl G1) h2
      generalize upd G1 t2 (.tup [.str c.2.1, .str c.1, .int c.2.2]) = G2 at q2 M2 ⊢
      have b2 := b1.keep M2
      refine ⟨_, rfl, _, rfl, by show 3 ≤ sizeLine; decide, fun t3 h3 => ?_⟩
      have q3 := ins c.1 feed c.2.2 b2 h3
      have M3 := same_new (o := .tup [.str c.1, .str feed, .int c.2.2]) (Same.refl G2) h3
      generalize upd G2 t3 (.tup [.str c.1, .str feed, .int c.2.2]) = G3 at q3 M3 ⊢
      have b3 := b2.keep M3
      refine ⟨_, rfl, _, rfl, _, rfl, by show 3 ≤ sizeLine; decide, fun t4 h4 => ?_⟩
      have q4 := ins c.1 c.2.1 c.2.2 b3 h4
      have M4 := same_new (o := .tup [.str c.1, .str c.2.1, .int c.2.2]) (Same.refl G3) h4
      generalize upd G3 t4 (.tup [.str c.1, .str c.2.1, .int c.2.2]) = G4 at q4 M4 ⊢
      have b4 := b3.keep M4
      refine ⟨by show 4 ≤ sizeLine; decide, fun t5 h5 => ?_⟩
      have M5 := same_new (o := .lst [.ref t1, .ref t2, .ref t3, .ref t4]) (Same.refl G4) h5
      have q5 : SqL K (wo (upd G4 t5 (.lst [.ref t1, .ref t2, .ref t3, .ref t4])) b) t5 [.ref t1, .ref t2, .ref t3, .ref t4] := sql_new upd_same (b4.ne h5)
      generalize upd G4 t5 (.lst [.ref t1, .ref t2, .ref t3, .ref t4]) = G5 at q5 M5 ⊢
      have b5 := b4.keep M5
      have M45 := M4.trans M5
      have M35 := M3.trans M45
      have M25 := M2.trans M35
      have S5 := S3.same (M1.trans M25)
      refine ⟨b, t5, _, rfl, b5, q5, by simp, by show 4 ≤ 1000000; decide, fun x G6 hx B6 s6 => ?_⟩
      have S6 := S5.trans s6
      obtain ⟨c', N', V'⟩ : ∃ c' : Cab, CabN c' ∧ CabV K (wo G6 b) x c' := by
        simp only [List.mem_cons, List.not_mem_nil, or_false] at hx
        obtain ⟨n1, n2, n3, n4⟩ := N
        rcases hx with rfl | rfl | rfl | rfl
        · exact ⟨(c.1, c.2.1, c.2.2 + 1), ⟨n1, n2, by show 0 ≤ c.2.2 + 1; omega, by have := hF.2.2.2; show c.2.2 + 1 ≤ 10 ^ 12 + 1; omega⟩, t1, rfl, sqt_more s6.1 (sqt_more (wo_same M25) q1)⟩
        · exact ⟨(c.2.1, c.1, c.2.2), ⟨n2, n1, n3, n4⟩, t2, rfl, sqt_more s6.1 (sqt_more (wo_same M35) q2)⟩
        · exact ⟨(c.1, feed, c.2.2), ⟨n1, fF, n3, n4⟩, t3, rfl, sqt_more s6.1 (sqt_more (wo_same M45) q3)⟩
        · exact ⟨c, ⟨n1, n2, n3, n4⟩, t4, rfl, sqt_more s6.1 (sqt_more (wo_same M5) q4)⟩
      clear q1 q2 q3 q4 q5 M1 M2 M3 M4 M5 M45 M35 M25 b1 b2 b3 b4 b5 S5 s6 hx
      have w2 : SqT K (wo G6 b) ya xs := sqt_more S6.1 v2
      have w3 := sqt_more S6.1 v3
      have w4 := cabs_more v4 S6.1
      have w5 := cars_more v5 S6.1
      refine ⟨_, rfl, ya, xs, rfl, .inr (sqt_more (wo_sub G6 b) w2), fun l hl => ⟨_, rfl, by show 1 ≤ sizeLine; decide, fun l2 hl2 => ?_⟩⟩
      have M1 := same_new (o := .lst [x]) (same_new (o := .lst xs) (Same.refl G6) hl) hl2
      refine ⟨l, l2, xs, [x], rfl, rfl, s3u hl2 upd_same, upd_same, by show xs.length + 1 ≤ sizeLine; exact Nat.le_of_lt (small1000 (by omega)), fun r hr => ?_⟩
      have M2 := same_new (o := .lst (xs ++ [x])) M1 hr
      have er : upd (upd (upd G6 l (.lst xs)) l2 (.lst [x])) r (.lst (xs ++ [x])) r = some (.lst (xs ++ [x])) := upd_same
      generalize upd (upd (upd G6 l (.lst xs)) l2 (.lst [x])) r (.lst (xs ++ [x])) = G7 at M2 er ⊢
      have B7 := B6.keep M2
      have S7 := S6.same M2
      have nr : r ≠ b := (B6.keep M1).ne hr
      have w2 := sqt_more (wo_same M2) w2
      have w3 := sqt_more (wo_same M2) w3
      have w4 := cabs_more w4 (wo_same M2)
      have w5 := cars_more w5 (wo_same M2)
      obtain ⟨ps, e1, e2, hps⟩ := pairs_of (paired_snoc (V'.more (wo_same M2)) w4)
      have lps : ps.length ≤ 41 := by
        have := congrArg List.length e2
        rw [List.length_map, List.length_append] at this
        have l1 : [c'].length = 1 := rfl
        omega
      have nps : ∀ p ∈ ps, CabN p.2 := fun p hp => by
        have : p.2 ∈ cs ++ [c'] := by rw [← e2]; exact List.mem_map.mpr ⟨p, hp, rfl⟩
        rcases List.mem_append.mp this with h | h
        · exact cabN hP _ h
        · rw [List.mem_singleton.mp h]; exact N'
      rw [← e1] at er
      have bf1 : (ps.map fun p => (p.1, cabD p.2)).map (·.1) = ps.map (·.1) := by rw [List.map_map]; rfl
      have bf2 : (ps.map fun p => (p.1, cabD p.2)).map (·.2) = ps.map fun p => cabD p.2 := by rw [List.map_map]; rfl
      refine ⟨fun v H' => ∃ (p : Addr) (zs : List (V × PyData)), v = .ref p ∧ SqL K H' p (zs.map (·.1)) ∧ zs.Perm (ps.map fun p => (p.1, cabD p.2)) ∧ Bag H' b ∧ Sb b G7 H', ?_, ?_⟩
      · refine ⟨_, rfl, b, 3, rfl, B7, by decide, by decide, fun v H8 v0 v1 B8 s8 => ⟨v, 0, rfl, rfl, _, rfl, ?_⟩⟩
        have er8 := s8.get er nr
        refine ite2 (fun _ => ?_) (fun _ => ?_)
        · refine ⟨_, rfl, r, ps.map fun p => (p.1, cabD p.2), rfl, by rw [bf1]; exact SqL.of er8, fun q hq => ?_, by rw [bf2]; exact PySem.W.AllAlike.of fun _ _ => by simp [PySem.W.alike, PySem.W.alikeAll, cabD], by rw [bf2]; exact PySem.W.Sortable.tuples fun _ => ⟨_, _, rfl⟩, by rw [List.length_map]; exact Nat.le_of_lt (small1000 (by omega)), fun p hp => ?_⟩
          · obtain ⟨p, hp, rfl⟩ := List.mem_map.mp hq
            exact ⟨(dat_cab (hps p hp)).more (s8.1.trans (wo_sub H8 b)), by simp [cabD, PyData.depth, PyData.depthAll]⟩
          · exact ⟨p, _, rfl, SqL.of upd_same, List.mergeSort_perm _ _, B8.new hp, s8.new hp⟩
        · exact ⟨_, rfl, r, _, rfl, by rw [bf1]; exact SqL.of er8, List.Perm.refl _, B8, s8⟩
      rintro _ H8 ⟨p, zs, rfl, hp, perm, B8, s8⟩
      have S8 := S7.trans s8
      refine ⟨p, _, rfl, .inl ⟨hp, fun t ht => ⟨_, rfl, by show 2 ≤ sizeLine; decide, fun u hu => ?_⟩⟩⟩
      have lz' : zs.length ≤ 41 := by rw [perm.length_eq, List.length_map]; exact lps
      have zin : ∀ z ∈ zs, ∃ p ∈ ps, z = (p.1, cabD p.2) := fun z hz => by
        obtain ⟨p, hp, e⟩ := List.mem_map.mp (perm.mem_iff.mp hz)
        exact ⟨p, hp, e.symm⟩
      have Bt := B8.new (o := .tup (zs.map (·.1))) ht
      have Mt := same_new (o := .tup (zs.map (·.1))) (Same.refl H8) ht
      have qt : SqT K (wo (upd H8 t (.tup (zs.map (·.1)))) b) t (zs.map (·.1)) := sqt_wo' (SqT.of upd_same) Bt
      generalize upd H8 t (.tup (zs.map (·.1))) = H9 at Bt Mt qt hu ⊢
      have Mu := same_new (o := .tup [.ref t, .ref yb]) (Same.refl H9) hu
      have Bu := Bt.new (o := .tup [.ref t, .ref yb]) hu
      have qu : SqT K (wo (upd H9 u (.tup [.ref t, .ref yb])) b) u [.ref t, .ref yb] := sqt_wo' (SqT.of upd_same) Bu
      generalize upd H9 u (.tup [.ref t, .ref yb]) = HA at Mu Bu qu ⊢
      have M7A := s8.1.trans (wo_same (Mt.trans Mu))
      refine k (.ref u) (.tuple [.tuple (zs.map (·.2)), .tuple (rs.map carD)]) HA (.tup qu (.cons (.tup (sqt_more (wo_same Mu) qt) (datA_all fun z hz => ?_)) (.cons (.tup (sqt_more M7A w3) ((dat_cars w5).more M7A)) .nil))) ?_ Bu (S8.same (Mt.trans Mu))
      · obtain ⟨p, hp, rfl⟩ := zin z hz
        exact (dat_cab (hps p hp)).more M7A
      · refine bd_two (bd_row (by rw [List.length_map]; exact lz') fun d hd => ?_) (bd_cars hP)
        obtain ⟨z, hz, rfl⟩ := List.mem_map.mp hd
        obtain ⟨p, hp, rfl⟩ := zin z hz
        exact bd_cab (nps p hp)
    · clear c1
      have w2 := sqt_more S1.1 v2
      have w3 := sqt_more S1.1 v3
      have w4 := cabs_more v4 S1.1
      have w5 := cars_more v5 S1.1
      refine ⟨_, rfl, by show 0 ≤ sizeLine; decide, fun q hq => ⟨yb, q, zs, rfl, rfl, sqt_more (same_new (Same.refl H1) hq) (sqt_more (wo_sub H1 b) w3), SqT.of upd_same, _, rfl, ?_⟩⟩
      have Bq := B1.new (o := .tup []) hq
      have Sq := S1.new (o := .tup []) hq
      have Mq := same_new (o := .tup []) (Same.refl H1) hq
      have w2 := sqt_more (wo_same Mq) w2
      have w3 := sqt_more (wo_same Mq) w3
      have w4 := cabs_more w4 (wo_same Mq)
      have w5 := cars_more w5 (wo_same Mq)
      generalize upd H1 q (.tup []) = Hq at Bq Sq Mq w2 w3 w4 w5 ⊢
      refine ite2 (fun h => ?_) (fun _ => ?_)
      · have ne : rs ≠ [] := fun z => absurd h (by rw [show zs = [] from List.length_eq_zero_iff.mp (by rw [lz, z]; rfl)]; decide)
        clear h
        refine ⟨_, rfl, _, rfl, yb, zs, rfl, .inr (sqt_more (wo_sub Hq b) w3), fun l1 hl1 => ?_⟩
        have B2 := Bq.new (o := .lst zs) hl1
        have S2 := Sq.new (o := .lst zs) hl1
        refine ⟨b, l1, zs, rfl, B2, sql_new upd_same (Bq.ne hl1), fun z => ne (List.length_eq_zero_iff.mp (by rw [← lz, z]; rfl)), by omega, fun x H2 hx B3 S3 => ?_⟩
        have S3 := S2.trans S3
        clear B2 S2
        obtain ⟨j, hj⟩ := List.getElem?_of_mem hx
        obtain ⟨c, hc, tx, rfl, htx⟩ := paired_at v5 hj
        have N := carN hP c (List.mem_of_getElem? hc)
        have hF := hP.car c (List.mem_of_getElem? hc)
        have n20 := (nm_codes (.inl hF.1)).2
        have htx2 := sqt_more S3.1 htx
        refine ⟨tx, _, rfl, sqt_more (wo_sub H2 b) htx2, rfl, _, _, rfl, _, _, rfl, _, _, rfl, _, _, rfl, rfl, ?_⟩
        have ins : ∀ {G : Hp} {p : Addr} (s1 s2 : Str) (m n : Int), Bag G b → G p = none → SqT K (wo (upd G p (.tup [.str s1, .str s2, .int m, .int n])) b) p [.str s1, .str s2, .int m, .int n] := fun s1 s2 m n B hp => sqt_wo' (SqT.of upd_same) (B.new hp)
        have fF : feed.length ≤ 41 := by decide +kernel
        refine ⟨_, rfl, _, rfl, _, rfl, _, rfl, _, _, rfl, rfl, by show 4 ≤ sizeLine; decide, fun t1 h1 => ?_⟩
        have q1 := ins c.1 c.2.1 c.2.2.1 (c.2.2.2 + 1) B3 h1
        have M1 := same_new (o := .tup [.str c.1, .str c.2.1, .int c.2.2.1, .int (c.2.2.2 + 1)]) (Same.refl H2) h1
        generalize upd H2 t1 (.tup [.str c.1, .str c.2.1, .int c.2.2.1, .int (c.2.2.2 + 1)]) = G1 at q1 M1 ⊢
        have b1 := B3.keep M1
        refine ⟨_, rfl, _, rfl, _, rfl, by show 4 ≤ sizeLine; decide, fun t2 h2 => ?_⟩
        have q2 := ins c.1 feed c.2.2.1 c.2.2.2 b1 h2
        have M2 := same_new (o := .tup [.str c.1, .str feed, .int c.2.2.1, .int c.2.2.2]) (Same.refl G1) h2
        generalize upd G1 t2 (.tup [.str c.1, .str feed, .int c.2.2.1, .int c.2.2.2]) = G2 at q2 M2 ⊢
        have b2 := b1.keep M2
        have lx1 : ("x" : Str).length = 1 := by decide +kernel
        refine ⟨_, rfl, _, _, rfl, rfl, by rw [lx1]; exact Nat.le_of_lt (small1000 (by omega)), _, rfl, _, rfl, _, rfl, by show 4 ≤ sizeLine; decide, fun t3 h3 => ?_⟩
        have q3 := ins (c.1 ++ "x") c.2.1 c.2.2.1 c.2.2.2 b2 h3
        have M3 := same_new (o := .tup [.str (c.1 ++ "x"), .str c.2.1, .int c.2.2.1, .int c.2.2.2]) (Same.refl G2) h3
        generalize upd G2 t3 (.tup [.str (c.1 ++ "x"), .str c.2.1, .int c.2.2.1, .int c.2.2.2]) = G3 at q3 M3 ⊢
        have b3 := b2.keep M3
        refine ⟨by show 3 ≤ sizeLine; decide, fun l3 hl3 => ?_⟩
        have e3 : upd G3 l3 (.lst [.ref t1, .ref t2, .ref t3]) l3 = some (.lst [.ref t1, .ref t2, .ref t3]) := upd_same
        have M4 := same_new (o := .lst [.ref t1, .ref t2, .ref t3]) (Same.refl G3) hl3
        generalize upd G3 l3 (.lst [.ref t1, .ref t2, .ref t3]) = G4 at e3 M4 ⊢
        have b4 := b3.keep M4
        have M34 := M3.trans M4
        have M24 := M2.trans M34
        have S4 := S3.same (M1.trans M24)
        have q1 := sqt_more (wo_same M24) q1
        have q2 := sqt_more (wo_same M34) q2
        have q3 := sqt_more (wo_same M4) q3
        clear M1 M2 M3 M4 M34 M24 b1 b2 b3 h1 h2 h3 hl3 S3 B3 htx2 hx hl1
        refine ⟨_, rfl, yb, zs, rfl, .inr (sqt_more (wo_sub G4 b) (sqt_more S4.1 v3)), fun la hla => ⟨_, rfl, _, rfl, _, rfl, by show 4 ≤ sizeLine; decide, fun t4 h4 => ⟨by show 1 ≤ sizeLine; decide, fun t5 h5 => ?_⟩⟩⟩
        have N1 := same_new (o := .lst zs) (Same.refl G4) hla
        have ea : upd G4 la (.lst zs) la = some (.lst zs) := upd_same
        have na := b4.ne hla
        have ba := b4.new (o := .lst zs) hla
        have q4 := ins feed c.1 1 0 ba h4
        generalize upd G4 la (.lst zs) = G5 at N1 ea ba q4 h4 h5 ⊢
        have N2 := same_new (o := .tup [.str feed, .str c.1, .int 1, .int 0]) (Same.refl G5) h4
        have bb := ba.keep N2
        have q4 : SqT K (wo (upd G5 t4 (.tup [.str feed, .str c.1, .int 1, .int 0])) b) t4 [.str feed, .str c.1, .int 1, .int 0] := q4
        generalize upd G5 t4 (.tup [.str feed, .str c.1, .int 1, .int 0]) = G6 at N2 bb q4 h5 ⊢
        have N3 := same_new (o := .lst [.ref t4]) (Same.refl G6) h5
        have e5 : upd G6 t5 (.lst [.ref t4]) t5 = some (.lst [.ref t4]) := upd_same
        have bc := bb.keep N3
        generalize upd G6 t5 (.lst [.ref t4]) = G7 at N3 e5 bc ⊢
        have N13 := N1.trans (N2.trans N3)
        refine ⟨l3, t5, _, _, rfl, rfl, N13 _ _ e3, e5, by show 4 ≤ sizeLine; decide, fun t6 h6 => ?_⟩
        have N4 := same_new (o := .lst ([.ref t1, .ref t2, .ref t3] ++ [.ref t4])) (Same.refl G7) h6
        have q5 : SqL K (wo (upd G7 t6 (.lst ([.ref t1, .ref t2, .ref t3] ++ [.ref t4]))) b) t6 [.ref t1, .ref t2, .ref t3, .ref t4] := sql_new upd_same (bc.ne h6)
        generalize upd G7 t6 (.lst ([.ref t1, .ref t2, .ref t3] ++ [.ref t4])) = G8 at N4 q5 ⊢
        have b8 := bc.keep N4
        have N14 := N13.trans N4
        have S8 := S4.same N14
        refine ⟨b, t6, _, rfl, b8, q5, by simp, by show 4 ≤ 1000000; decide, fun x G9 hx B9 s9 => ?_⟩
        have S9 := S8.trans s9
        have ea9 := s9.get (N4 _ _ (N3 _ _ (N2 _ _ ea))) na
        obtain ⟨c', N', V'⟩ : ∃ c' : Car, CarN c' ∧ CarV K (wo G9 b) x c' := by
          simp only [List.mem_cons, List.not_mem_nil, or_false] at hx
          obtain ⟨n1, n2, n3, n4, n5, n6⟩ := N
          rcases hx with rfl | rfl | rfl | rfl
          · exact ⟨(c.1, c.2.1, c.2.2.1, c.2.2.2 + 1), ⟨n1, n2, n3, n4, by show 0 ≤ c.2.2.2 + 1; omega, by have := hF.2.2.2.2.2; show c.2.2.2 + 1 ≤ 10 ^ 12 + 1; omega⟩, t1, rfl, sqt_more s9.1 (sqt_more (wo_same N14) q1)⟩
          · exact ⟨(c.1, feed, c.2.2.1, c.2.2.2), ⟨n1, fF, n3, n4, n5, n6⟩, t2, rfl, sqt_more s9.1 (sqt_more (wo_same N14) q2)⟩
          · exact ⟨(c.1 ++ "x", c.2.1, c.2.2.1, c.2.2.2), ⟨by show (c.1 ++ "x").length ≤ 41; rw [strLen_append, lx1]; omega, n2, n3, n4, n5, n6⟩, t3, rfl, sqt_more s9.1 (sqt_more (wo_same N14) q3)⟩
          · exact ⟨(feed, c.1, 1, 0), ⟨fF, n1, by show (0 : Int) ≤ 1; decide, by show (1 : Int) ≤ 10 ^ 12 + 1; decide, by show (0 : Int) ≤ 0; decide, by show (0 : Int) ≤ 10 ^ 12 + 1; decide⟩, t4, rfl, sqt_more s9.1 (sqt_more (wo_same ((N3.trans N4))) q4)⟩
        clear q1 q2 q3 q4 q5 N1 N2 N3 N4 N13 N14 e3 e5 ea h4 h5 h6 hla b4 S4 b8 S8 hx ba bb bc s9
        have w2 : SqT K (wo G9 b) ya xs := sqt_more S9.1 v2
        have w3 := sqt_more S9.1 v3
        have w4 := cabs_more v4 S9.1
        have w5 := cars_more v5 S9.1
        refine ⟨by show 1 ≤ sizeLine; decide, fun l2 hl2 => ?_⟩
        have M1 := same_new (o := .lst [x]) (Same.refl G9) hl2
        refine ⟨la, l2, zs, [x], rfl, rfl, s3u hl2 ea9, upd_same, by show zs.length + 1 ≤ sizeLine; exact Nat.le_of_lt (small1000 (by omega)), fun r hr => ?_⟩
        have M2 := same_new (o := .lst (zs ++ [x])) M1 hr
        have er : upd (upd G9 l2 (.lst [x])) r (.lst (zs ++ [x])) r = some (.lst (zs ++ [x])) := upd_same
        have nr : r ≠ b := (B9.keep M1).ne hr
        generalize upd (upd G9 l2 (.lst [x])) r (.lst (zs ++ [x])) = GA at M2 er ⊢
        have B7 := B9.keep M2
        have S7 := S9.same M2
        have w2 := sqt_more (wo_same M2) w2
        have w3 := sqt_more (wo_same M2) w3
        have w4 := cabs_more w4 (wo_same M2)
        have w5 := cars_more w5 (wo_same M2)
        obtain ⟨ps, e1, e2, hps⟩ := pairs_of (paired_snoc (V'.more (wo_same M2)) w5)
        have lps : ps.length ≤ 41 := by
          have := congrArg List.length e2
          rw [List.length_map, List.length_append] at this
          have l1 : [c'].length = 1 := rfl
          omega
        have nps : ∀ p ∈ ps, CarN p.2 := fun p hp => by
          have : p.2 ∈ rs ++ [c'] := by rw [← e2]; exact List.mem_map.mpr ⟨p, hp, rfl⟩
          rcases List.mem_append.mp this with h | h
          · exact carN hP _ h
          · rw [List.mem_singleton.mp h]; exact N'
        rw [← e1] at er
        have bf1 : (ps.map fun p => (p.1, carD p.2)).map (·.1) = ps.map (·.1) := by rw [List.map_map]; rfl
        have bf2 : (ps.map fun p => (p.1, carD p.2)).map (·.2) = ps.map fun p => carD p.2 := by rw [List.map_map]; rfl
        refine ⟨_, rfl, ?_⟩
        refine ⟨fun v H' => ∃ (p : Addr) (zs : List (V × PyData)), v = .ref p ∧ SqL K H' p (zs.map (·.1)) ∧ zs.Perm (ps.map fun p => (p.1, carD p.2)) ∧ Bag H' b ∧ Sb b GA H', ?_, ?_⟩
        · refine ⟨_, rfl, b, 3, rfl, B7, by decide, by decide, fun v H8 v0 v1 B8 s8 => ⟨v, 0, rfl, rfl, _, rfl, ?_⟩⟩
          have er8 := s8.get er nr
          refine ite2 (fun _ => ?_) (fun _ => ?_)
          · refine ⟨_, rfl, r, ps.map fun p => (p.1, carD p.2), rfl, by rw [bf1]; exact SqL.of er8, fun q hq => ?_, by rw [bf2]; exact PySem.W.AllAlike.of fun _ _ => by simp [PySem.W.alike, PySem.W.alikeAll, carD], by rw [bf2]; exact PySem.W.Sortable.tuples fun _ => ⟨_, _, rfl⟩, by rw [List.length_map]; exact Nat.le_of_lt (small1000 (by omega)), fun p hp => ?_⟩
            · obtain ⟨p, hp, rfl⟩ := List.mem_map.mp hq
              exact ⟨(dat_car (hps p hp)).more (s8.1.trans (wo_sub H8 b)), by simp [carD, PyData.depth, PyData.depthAll]⟩
            · exact ⟨p, _, rfl, SqL.of upd_same, List.mergeSort_perm _ _, B8.new hp, s8.new hp⟩
          · exact ⟨_, rfl, r, _, rfl, by rw [bf1]; exact SqL.of er8, List.Perm.refl _, B8, s8⟩
        rintro _ H8 ⟨p, ts, rfl, hp, perm, B8, s8⟩
        have S8 := S7.trans s8
        refine ⟨p, _, rfl, .inl ⟨hp, fun t ht => ⟨by show 2 ≤ sizeLine; decide, fun u hu => ?_⟩⟩⟩
        have lz' : ts.length ≤ 41 := by rw [perm.length_eq, List.length_map]; exact lps
        have zin : ∀ z ∈ ts, ∃ p ∈ ps, z = (p.1, carD p.2) := fun z hz => by
          obtain ⟨p, hp, e⟩ := List.mem_map.mp (perm.mem_iff.mp hz)
          exact ⟨p, hp, e.symm⟩
        have Bt := B8.new (o := .tup (ts.map (·.1))) ht
        have Mt := same_new (o := .tup (ts.map (·.1))) (Same.refl H8) ht
        have qt : SqT K (wo (upd H8 t (.tup (ts.map (·.1)))) b) t (ts.map (·.1)) := sqt_wo' (SqT.of upd_same) Bt
        generalize upd H8 t (.tup (ts.map (·.1))) = HB at Bt Mt qt hu ⊢
        have Mu := same_new (o := .tup [.ref ya, .ref t]) (Same.refl HB) hu
        have Bu := Bt.new (o := .tup [.ref ya, .ref t]) hu
        have qu : SqT K (wo (upd HB u (.tup [.ref ya, .ref t])) b) u [.ref ya, .ref t] := sqt_wo' (SqT.of upd_same) Bu
        generalize upd HB u (.tup [.ref ya, .ref t]) = HC at Mu Bu qu ⊢
        have M7A := s8.1.trans (wo_same (Mt.trans Mu))
        refine k (.ref u) (.tuple [.tuple (cs.map cabD), .tuple (ts.map (·.2))]) HC (.tup qu (.cons (.tup (sqt_more M7A w2) ((dat_cabs w4).more M7A)) (.cons (.tup (sqt_more (wo_same Mu) qt) (datA_all fun z hz => ?_)) .nil))) ?_ Bu (S8.same (Mt.trans Mu))
        · obtain ⟨p, hp, rfl⟩ := zin z hz
          exact (dat_car (hps p hp)).more M7A
        · refine bd_two (bd_cabs hP) (bd_row (by rw [List.length_map]; exact lz') fun d hd => ?_)
          obtain ⟨z, hz, rfl⟩ := List.mem_map.mp hd
          obtain ⟨p, hp, rfl⟩ := zin z hz
          exact bd_car (nps p hp)
      · refine ⟨_, rfl, by show 4 ≤ sizeLine; decide, fun t1 h1 => ⟨by show 1 ≤ sizeLine; decide, fun t2 h2 => ⟨by show 2 ≤ sizeLine; decide, fun t3 h3 => ?_⟩⟩⟩
        have B2 := Bq.new (o := .tup [.str feed, .str feed, .int 1, .int 0]) h1
        have M1 := same_new (o := .tup [.str feed, .str feed, .int 1, .int 0]) (Same.refl Hq) h1
        have q1 : SqT K (wo (upd Hq t1 (.tup [.str feed, .str feed, .int 1, .int 0])) b) t1 [.str feed, .str feed, .int 1, .int 0] := sqt_wo' (SqT.of upd_same) B2
        have q2 : SqT K (wo (upd (upd Hq t1 (.tup [.str feed, .str feed, .int 1, .int 0])) t2 (.tup [.ref t1])) b) t2 [.ref t1] := sqt_wo' (SqT.of upd_same) (B2.new h2)
        have q3 : SqT K (wo (upd (upd (upd Hq t1 (.tup [.str feed, .str feed, .int 1, .int 0])) t2 (.tup [.ref t1])) t3 (.tup [.ref ya, .ref t2])) b) t3 [.ref ya, .ref t2] := sqt_wo' (SqT.of upd_same) ((B2.new h2).new h3)
        have M3 := same_new (o := .tup [.ref ya, .ref t2]) (Same.refl _) h3
        have M2 := (same_new (o := .tup [.ref t1]) (Same.refl _) h2).trans M3
        have MM := M1.trans M2
        refine k (.ref t3) (.tuple [.tuple (cs.map cabD), .tuple [carD (feed, feed, 1, 0)]]) _ (.tup q3 (.cons (.tup (sqt_more (wo_same MM) w2) ((dat_cabs w4).more (wo_same MM))) (.cons (.tup (sqt_more (wo_same M3) q2) (.cons (dat_car ⟨t1, rfl, sqt_more (wo_same M2) q1⟩) .nil)) .nil))) ?_ (Bq.keep MM) (Sq.same MM)
        refine bd_two (bd_cabs hP) (bd_row (by show 1 ≤ 41; decide) fun d hd => ?_)
        rw [List.mem_singleton.mp hd]
        exact bd_car ⟨by decide +kernel, by decide +kernel, by show (0 : Int) ≤ 1; decide, by show (1 : Int) ≤ 10 ^ 12 + 1; decide, by show (0 : Int) ≤ 0; decide, by show (0 : Int) ≤ 10 ^ 12 + 1; decide⟩
end
end Y

/-! SYH: a list that grows, hidden while others draw: what they give cannot reach it. -/
namespace Ns
open PySem PySem.Spec PyProof.Rows L2
/-- the list with items xs, as an object that no datum reaches -/
def hidL (a : Addr) (xs : List V) : HO := .ext fun h => xs.length ≤ sizeLine ∧ ∃ (its : List Value) (n : Nat), Vals xs its ∧ h.get? a = some { cls := .type "list", data := .seq its.toArray n }
def tHid (te : TE) : TE := fun σ H Q => ∃ (a : Addr) (xs : List V), H a = some (.lst xs) ∧ te σ (upd H a (hidL a xs)) (fun v H' => H' a = some (hidL a xs) ∧ Q v (upd H' a (.lst xs)))
theorem pe_hid {X : Cx} {e : Expr} {te : TE} (he : PE X e te) : PE X e (tHid te) := by
  refine ⟨fun pins s σ H Q I h => ?_⟩
  obtain ⟨a, xs, hH, h2⟩ := h
  obtain ⟨z, its, n, r, g⟩ := I.hok a _ hH
  have I' : Inv X pins σ (upd H a (hidL a xs)) s := I.write (x := a) (e := a) (o := hidL a xs) (h' := s.heap) (t' := s.toks) (by rw [hH]; trivial) (.inl rfl) (fun _ _ _ q => q) ⟨_, g⟩
    ⟨⟨z, its, n, r, g⟩, ⟨_, g⟩, fun h1 h2 p k => let ⟨z, its, n, r, g⟩ := p; ⟨z, its, n, r, k _ g⟩⟩
  refine thn (he.run pins s σ _ _ I' h2) fun u s1 hu => ?_
  obtain ⟨v, H1, I1, rv, q1, q2⟩ := hu
  obtain ⟨⟨z1, its1, n1, r1, g1⟩, _⟩ := I1.hok a _ q1
  exact ⟨v, upd H1 a (.lst xs), I1.write (x := a) (e := a) (o := .lst xs) (h' := s1.heap) (t' := s1.toks) (by rw [q1]; trivial) (.inl rfl) (fun _ _ _ q => q) ⟨_, g1⟩ ⟨z1, its1, n1, r1, g1⟩, rv, q2⟩
/-- the heap without objects of one's own kind -/
def nx (H : Hp) : Hp := fun a => match H a with
  | some (.ext _) => none
  | o => o
theorem nx_of {H : Hp} {a : Addr} {o : HO} (h : H a = some o) (n : ∀ φ, o ≠ .ext φ) : nx H a = some o := by
  unfold nx
  rw [h]
  cases o <;> first | rfl | exact absurd rfl (n _)
mutual
theorem DatV.nx {K : PySem.W.Frag} {H : Hp} : ∀ {x : V} {d : PyData}, DatV K H x d → DatV K (nx H) x d
  | _, _, .non => .non
  | _, _, .bl b => .bl b
  | _, _, .int i => .int i
  | _, _, .str x => .str x
  | _, _, .lst h t => .lst (h.elim (fun z => .inl (z.elim (fun z => .inl (nx_of z fun _ q => by cases q)) fun ⟨o, z⟩ => .inr ⟨o, nx_of z fun _ q => by cases q⟩)) .inr) t.nx
  | _, _, .tup h t => .tup (h.elim (fun z => .inl (z.elim (fun z => .inl (nx_of z fun _ q => by cases q)) fun ⟨o, z⟩ => .inr ⟨o, nx_of z fun _ q => by cases q⟩)) .inr) t.nx
  | _, _, .dic h t => .dic (nx_of h fun _ q => by cases q) t.nx
theorem DatA.nx {K : PySem.W.Frag} {H : Hp} : ∀ {xs : List V} {ds : List PyData}, DatA K H xs ds → DatA K (nx H) xs ds
  | _, _, .nil => .nil
  | _, _, .cons h t => .cons h.nx t.nx
end
end Ns
namespace Y
open PySem PySem.Spec PyProof.Rows L2 Ns
def w2 (H : Hp) (d q : Addr) : Hp := fun a => if a = d ∨ a = q then none else H a
theorem w2_of {H : Hp} {d q a : Addr} {o : HO} (h : w2 H d q a = some o) : a ≠ d ∧ a ≠ q ∧ H a = some o := by
  unfold w2 at h
  split at h
  · cases h
  · rename_i n
    exact ⟨fun z => n (.inl z), fun z => n (.inr z), h⟩
theorem w2_ne {H : Hp} {d q a : Addr} (h1 : a ≠ d) (h2 : a ≠ q) : w2 H d q a = H a := if_neg (fun z => z.elim h1 h2)
theorem w2_sub (H : Hp) (d q : Addr) : Same (w2 H d q) H := fun _ _ h => (w2_of h).2.2
theorem w2_more {H H' : Hp} {d q : Addr} (m : Same H H') : Same (w2 H d q) (w2 H' d q) := fun a o e => by
  obtain ⟨h1, h2, h3⟩ := w2_of e
  rw [w2_ne h1 h2]
  exact m _ _ h3
theorem w2_wr {H : Hp} {b e : Addr} {o : HO} : Same (w2 H b e) (w2 (upd H e o) b e) := fun a u h => by
  obtain ⟨h1, h2, h3⟩ := w2_of h
  rw [w2_ne h1 h2, upd_ne h2]
  exact h3
theorem wo_w2 {H : Hp} {b e : Addr} {o : HO} (he : H e = none) : Same (wo H b) (w2 (upd H e o) b e) := fun c u h => by
  obtain ⟨h1, h2⟩ := wo_of h
  have ne := ne_of_none h2 he
  rw [w2_ne h1 ne, upd_ne ne]
  exact h2
/-- known beside the hidden list: known while it is hidden -/
theorem w2_wo {H : Hp} {b e : Addr} {o : HO} : Same (w2 H b e) (wo (upd H e o) b) := fun a u h => by
  obtain ⟨h1, h2, h3⟩ := w2_of h
  rw [wo_ne h1, upd_ne h2]
  exact h3
/-- what stood beside the hidden list stands behind a draw -/
theorem w2_sb {H H' : Hp} {b e : Addr} {o u : HO} (s : Sb b (upd H e o) H') : Same (w2 H b e) (w2 (upd H' e u) b e) := fun a v h => by
  obtain ⟨h1, h2, h3⟩ := w2_of h
  rw [w2_ne h1 h2, upd_ne h2]
  exact s.get (by rw [upd_ne h2]; exact h3) h1
/-- what a draw gave while the list was hidden does not reach it -/
theorem dat_hid {K : PySem.W.Frag} {H : Hp} {b e : Addr} {xs : List V} {u : HO} {x : V} {d : PyData} (q : H e = some (hidL e xs)) (h : DatV K (wo H b) x d) : DatV K (w2 (upd H e u) b e) x d := by
  refine h.nx.more fun a o g => ?_
  have g2 : wo H b a = some o ∧ ∀ φ, o ≠ .ext φ := by
    unfold Ns.nx at g
    cases c : wo H b a with
    | none => rw [c] at g; cases g
    | some v =>
      rw [c] at g
      cases v <;> first | (cases g; exact ⟨rfl, fun φ z => by cases z⟩) | cases g
  obtain ⟨g3, nE⟩ := g2
  obtain ⟨h1, h2⟩ := wo_of g3
  have ne : a ≠ e := fun z => by
    rw [z, q] at h2
    exact nE _ (Option.some.inj h2).symm
  rw [w2_ne h1 ne, upd_ne ne]
  exact h2
end Y

/-! SY7: the law. -/
namespace Y
open PySem PySem.Spec PyProof.Rows L2 Ns
open C8 (pss_cut)
theorem boolFit (b : Bool) : (PyData.bool b).showable = true ∧ (PyData.bool b).shown.length ≤ sizeLine ∧ (PyData.bool b).depth ≤ 60 := by
  cases b <;> exact ⟨rfl, by decide +kernel, by decide⟩
theorem yard_none : YardP [] [] := ⟨by simp, by simp, (fun _ h => nomatch h), (fun _ h => nomatch h), by simp, by simp⟩
section
variable {P : Program} {w : World} {K : PySem.W.Frag} {mg : Str → Option Value} {base : Heap} {fB fS fSm fW fNY fO fBt fYd fLY fA : Addr} {dB dS dSm dW dNY dO dBt dYd dLY dA : FuncData}
structure D02 (P : Program) (w : World) (K : PySem.W.Frag) (mg : Str → Option Value) (base : Heap) (fB fS fSm fW fNY fO fBt fYd fLY fA : Addr) (dB dS dSm dW dNY dO dBt dYd dLY dA : FuncData) : Prop where
  B : Fun K "_law_bag" "_law_bag" sBag fB dB
  mB : mg "_law_bag" = some (.ref fB)
  bB : Binds K dB ["script"] []
  gB : FnOk P w K mg base CX0 1 fB dB ["script"] (spBag K)
  S : Fun K "_law_some" "_law_some" sSome fS dS
  mS : mg "_law_some" = some (.ref fS)
  bS : Binds K dS ["bag", "things"] []
  gS : FnOk P w K mg base CX0 2 fS dS ["bag", "things"] (spSome K)
  Sm : Fun K "_law_small_yard" "_law_small_yard" sSmall fSm dSm
  mSm : mg "_law_small_yard" = some (.ref fSm)
  bSm : Binds K dSm ["bag"] []
  gSm : FnOk P w K mg base CX0 7 fSm dSm ["bag"] (spYard K 7)
  W : Fun K "_law_wide_yard" "_law_wide_yard" sWide fW dW
  mW : mg "_law_wide_yard" = some (.ref fW)
  bW : Binds K dW ["bag"] []
  gW : FnOk P w K mg base CX0 7 fW dW ["bag"] (spYard K (10 ^ 12))
  NY : Fun K "_law_near_yard" "_law_near_yard" sNearYard fNY dNY
  mNY : mg "_law_near_yard" = some (.ref fNY)
  bNY : Binds K dNY ["bag", "yard"] []
  gNY : FnOk P w K mg base CX0 3 fNY dNY ["bag", "yard"] (spNearY K)
  O : Fun K "_law_odd" "_law_odd" sOdd fO dO
  mO : mg "_law_odd" = some (.ref fO)
  bO : Binds K dO ["bag"] []
  gO : FnOk P w K mg base CX0 3 fO dO ["bag"] (spOdd K)
  Bt : Fun K "_law_bent" "_law_bent" sBent fBt dBt
  mBt : mg "_law_bent" = some (.ref fBt)
  bBt : Binds K dBt ["bag", "thing", "deep"] []
  gB3 : FnOk P w K mg base CX0 7 fBt dBt ["bag", "thing", "deep"] (spBentM K 3)
  gB4 : FnOk P w K mg base CX0 8 fBt dBt ["bag", "thing", "deep"] (spBentM K 4)
  Yd : Fun K "is_yard" "is_yard" sIsYard fYd dYd
  mYd : mg "is_yard" = some (.ref fYd)
  bYd : Binds K dYd ["thing"] []
  gYd : FnOk P w K mg base CX0 5 fYd dYd ["thing"] (spTellS K yardB)
  LY : Fun K "_law_is_yard" "_law_is_yard" sLIsYard fLY dLY
  mLY : mg "_law_is_yard" = some (.ref fLY)
  bLY : Binds K dLY ["thing"] []
  gLY : FnOk P w K mg base CX0 4 fLY dLY ["thing"] (spLYard K)
  A : Fun K "_law_alike" "_law_alike" sAlike fA dA
  mA : mg "_law_alike" = some (.ref fA)
  bA : Binds K dA ["found", "due"] []
  gA : GnOk P w K mg base 1 fA dA ["found", "due"] (spAlike K)
theorem scL : FnScope ["script", "bag", "turn", "yard", "things", "thing", "one"] ["script"] (defScope sLaw) := ⟨rfl, rfl, rfl, by decide +kernel, rfl, by decide +kernel, by decide +kernel⟩
theorem ok_law {f : Addr} {fd : FuncData} (F : Fun K "law" "law" sLaw f fd) (T : Nat0 mg) (D : D02 P w K mg base fB fS fSm fW fNY fO fBt fYd fLY fA dB dS dSm dW dNY dO dBt dYd dLY dA) : GnOk P w K mg base 10 f fd ["script"] (spTop K) := by
  refine Fun.okG F scL (fun as H Q E h => ?_) (fun cdv A outer s H as Q E hr hgd h => ?_)
  · obtain ⟨a, ns, rfl, _⟩ := h
    rfl
  · obtain ⟨a, ns, rfl, hS, hl, k⟩ := h
    have hr1 : Room 1 _ := hr.mono (by decide)
    have hr2 : Room 2 _ := hr.mono (by decide)
    have hr3 : Room 3 _ := hr.mono (by decide)
    have hr4 : Room 4 _ := hr.mono (by decide)
    have hr5 : Room 5 _ := hr.mono (by decide)
    have hr7 : Room 7 _ := hr.mono (by decide)
    have hr8 : Room 8 _ := hr.mono (by decide)
    have hun := hr.units
    refine ⟨_, pss_cons (ps_set (i := 1) scL.nd rfl (.inl rfl) (pe_call D.gB hr1 rfl D.mB D.B.kp D.bB .nil pass0 (pa_cons (pv 0) pa_nil)))
      (pss_cons (ps_for PassesOwn.never rfl (pi_range1 (by rfl) T.range (pa_cons pe_int pa_nil)) (pg_name (i := 2) scL.nd rfl (.inl rfl))
      (pss_cons (ps_set (i := 3) scL.nd rfl (.inl rfl) (pe_call D.gS hr2 rfl D.mS D.S.kp D.bS .nil pass0 (pa_cons (pv 1) (pa_cons (pe_lst (pa_cons (pe_call D.gSm hr7 rfl D.mSm D.Sm.kp D.bSm .nil pass0 (pa_cons (pv 1) pa_nil)) (pa_cons (pe_call D.gW hr7 rfl D.mW D.W.kp D.bW .nil pass0 (pa_cons (pv 1) pa_nil)) (pa_cons (pe_tup (pa_cons (pe_tup pa_nil) (pa_cons (pe_tup pa_nil) pa_nil))) pa_nil)))) pa_nil))))
        (pss_cons (ps_par (i := 4) (j := 5) rfl scL.nd rfl rfl (by decide) rfl rfl (pa_cons (pe_lst (pa_cons (pv 3) (pa_cons (pe_call D.gNY hr3 rfl D.mNY D.NY.kp D.bNY .nil pass0 (pa_cons (pv 1) (pa_cons (pv 3) pa_nil))) pa_nil))) (pa_cons (pe_hid (pe_call D.gB4 hr8 rfl D.mBt D.Bt.kp D.bBt .nil pass0 (pa_cons (pv 1) (pa_cons (pv 3) (pa_cons pe_int pa_nil))))) pa_nil)) (by rfl))
        (pss_cons (ps_expr (pe_bm PySem.F.plainAttrs_list PySem.F.slot_list_extend PySem.F.type_list_extend mt_extend (pv 4) (pa_cons (pe_lst (pa_cons (pv 5) (pa_cons (pe_hid (pe_call D.gB3 hr7 rfl D.mBt D.Bt.kp D.bBt .nil pass0 (pa_cons (pv 1) (pa_cons (pv 3) (pa_cons pe_int pa_nil))))) (pa_cons (pe_hid (pe_call D.gO hr3 rfl D.mO D.O.kp D.bO .nil pass0 (pa_cons (pv 1) pa_nil))) (pa_cons (pe_tup (pa_cons (pe_ix ix_tup (pv 3) pe_int (fun _ _ => rfl)) pa_nil)) (pa_cons (pe_tup (pa_cons (pe_ix ix_tup (pv 3) pe_int (fun _ _ => rfl)) (pa_cons (pe_ix ix_tup (pv 3) pe_int (fun _ _ => rfl)) pa_nil))) pa_nil)))))) pa_nil)))
        (pss_cut (ps_if (pt_val (pe_callB (call_isD kit_T) (by rfl) T.isi (by decide +kernel) (pa_cons (pv 5) (pa_cons (pe_bltn (v := .ty "tuple") (by rfl) T.tuple (by decide +kernel) rfl) pa_nil)))) (pss_one (ps_expr (pe_bm PySem.F.plainAttrs_list PySem.F.slot_list_append PySem.F.type_list_append mt_append (pv 4) (pa_cons (pe_hid (pe_call D.gB4 hr8 rfl D.mBt D.Bt.kp D.bBt .nil pass0 (pa_cons (pv 1) (pa_cons (pv 5) (pa_cons pe_int pa_nil))))) pa_nil)))) pss_nil)
        (pss_one (ps_for PassesOwn.never rfl (pi_list (pv 4)) (pg_name (i := 6) scL.nd rfl (.inl rfl)) (pss_one (ps_if (pt_not (pt_val (pe_callG D.gA hr1 hgd rfl D.mA D.A.kp D.bA (pa_cons (pe_call D.gYd hr5 rfl D.mYd D.Yd.kp D.bYd .nil pass0 (pa_cons (pv 6) pa_nil)) (pa_cons (pe_call D.gLY hr4 rfl D.mLY D.LY.kp D.bLY .nil pass0 (pa_cons (pv 6) pa_nil)) pa_nil))))) (pss_one (ps_ret pe_bl)) pss_nil)))))))))
      (pss_one (ps_ret pe_bl))), ?_⟩
    refine ⟨_, rfl, a, ns, rfl, hS, hl, fun b H1 hB1 _ _ => ?_⟩
    refine ⟨8, rfl, by decide, by decide, for_range (n := 8) (fun i σ H' => ∃ v2 v3 v4 v5 v6 : Option V, σ = [some (.ref a), some (.ref b), v2, v3, v4, v5, v6] ∧ Bag H' b) ?_ ?_ ?_⟩
    · exact ⟨none, none, none, none, none, rfl, hB1⟩
    · clear hB1
      rintro i σ H0 hi ⟨v2, v3, v4, v5, v6, rfl, hB⟩
      refine ⟨_, rfl, _, rfl, b, rfl, hB, fun y1 cs1 rs1 H2 F1 V1 B2 s2 => ⟨_, rfl, b, rfl, B2, fun y2 cs2 rs2 H3 F2 V2 B3 s3 => ⟨by show 0 ≤ sizeLine; decide, fun t1 h1 => ⟨by show 0 ≤ sizeLine; decide, fun t2 h2 => ⟨by show 2 ≤ sizeLine; decide, fun t3 h3 => ⟨by show 3 ≤ sizeLine; decide, fun l hl => ?_⟩⟩⟩⟩⟩⟩
      have e1 := s3u (o := .lst [y1, y2, .ref t3]) hl (s3u (o := .tup [.ref t1, .ref t2]) h3 (s3u (o := .tup []) h2 (upd_same (H := H3) (a := t1) (o := .tup []))))
      have e2 := s3u (o := .lst [y1, y2, .ref t3]) hl (s3u (o := .tup [.ref t1, .ref t2]) h3 (upd_same (H := upd H3 t1 (.tup [])) (a := t2) (o := .tup [])))
      have e3 := s3u (o := .lst [y1, y2, .ref t3]) hl (upd_same (H := upd (upd H3 t1 (.tup [])) t2 (.tup [])) (a := t3) (o := .tup [.ref t1, .ref t2]))
      have M1 : Same H3 (upd (upd (upd (upd H3 t1 (.tup [])) t2 (.tup [])) t3 (.tup [.ref t1, .ref t2])) l (.lst [y1, y2, .ref t3])) := same_new (same_new (same_new (same_new (Same.refl H3) h1) h2) h3) hl
      have nl : l ≠ b := (((B3.new (o := .tup []) h1).new (o := .tup []) h2).new (o := .tup [.ref t1, .ref t2]) h3).ne hl
      have el : SqL K (wo (upd (upd (upd (upd H3 t1 (.tup [])) t2 (.tup [])) t3 (.tup [.ref t1, .ref t2])) l (.lst [y1, y2, .ref t3])) b) l [y1, y2, .ref t3] := sql_new upd_same nl
      have B4 := B3.keep M1
      generalize upd (upd (upd (upd H3 t1 (.tup [])) t2 (.tup [])) t3 (.tup [.ref t1, .ref t2])) l (.lst [y1, y2, .ref t3]) = H4 at e1 e2 e3 M1 el B4 ⊢
      clear h1 h2 h3 hl nl
      refine ⟨b, l, _, rfl, B4, el, by simp, by show 3 ≤ 1000000; decide, fun y H5 hy B5 s5 => ?_⟩
      obtain ⟨cs, rs, YP, VY⟩ : ∃ cs rs, YardP cs rs ∧ YardV K (wo H5 b) y cs rs := by
        simp only [List.mem_cons, List.not_mem_nil, or_false] at hy
        rcases hy with rfl | rfl | rfl
        · exact ⟨cs1, rs1, F1.plain (by decide), ((V1.more s3.1).more (wo_same M1)).more s5.1⟩
        · exact ⟨cs2, rs2, F2.plain (Int.le_refl _), (V2.more (wo_same M1)).more s5.1⟩
        · exact ⟨[], [], yard_none, t3, t1, t2, [], [], rfl, sqt_more s5.1 (sqt_wo' (SqT.of e3) B4), sqt_more s5.1 (sqt_wo' (SqT.of e1) B4), sqt_more s5.1 (sqt_wo' (SqT.of e2) B4), .nil, .nil⟩
      clear hy e1 e2 e3 el M1 F1 V1 F2 V2 s2 s3 s5 B2 B3 B4 hB
      have YD : DatV K (wo H5 b) y (yardD cs rs) := dat_yard VY
      have bY : Bd 41 (yardD cs rs) := bd_two (bd_cabs YP) (bd_cars YP)
      -- the things
      refine ⟨_, rfl, _, rfl, _, rfl, b, y, cs, rs, rfl, B5, VY, YP, fun x dx H6 Dx bx B6 s6 => ⟨by show 2 ≤ sizeLine; decide, fun e he => ?_⟩⟩
      have neb : e ≠ b := B6.ne he
      have B7 := B6.new (o := .lst [y, x]) he
      have e7 : upd H6 e (.lst [y, x]) e = some (.lst [y, x]) := upd_same
      have D7 : DatA K (w2 (upd H6 e (.lst [y, x])) b e) [y, x] [yardD cs rs, dx] := .cons ((YD.more s6.1).more (wo_w2 he)) (.cons (Dx.more (wo_w2 he)) .nil)
      have V7 : YardV K (w2 (upd H6 e (.lst [y, x])) b e) y cs rs := (VY.more s6.1).more (wo_w2 he)
      have S7 := (Sb.refl b H6).new (o := .lst [y, x]) he
      generalize upd H6 e (.lst [y, x]) = H7 at B7 e7 D7 V7 S7 ⊢
      clear VY YD s6 Dx
      have YD7 : DatV K (w2 H7 b e) y (yardD cs rs) := dat_yard V7
      have step : ∀ {G G' : Hp} {xs : List V}, Sb b H6 G → Sb b (upd G e (hidL e xs)) G' → Bag G' b → Bag (upd G' e (.lst xs)) b ∧ Sb b H6 (upd G' e (.lst xs)) ∧ Same (w2 G b e) (w2 (upd G' e (.lst xs)) b e) := fun {G G' xs} s1 s2 B =>
        ⟨B6.wr he ((s1.wr he).trans s2) B, ((s1.wr he).trans s2).wr he, w2_sb s2⟩
      have hidB : ∀ {G : Hp} {xs : List V}, Sb b H6 G → Bag G b → Bag (upd G e (hidL e xs)) b := fun s B => B6.wr he s B
      refine ⟨e, [y, x], e7, _, rfl, _, rfl, b, y, yardD cs rs, 41, 41, rfl, hidB S7 B7, YD7.more w2_wo, bY, by decide, bY.tl, by decide, fun t dt H8 Dt bt tt B8 s8 => ⟨s8.get upd_same neb, ?_⟩⟩
      have Dt9 : DatV K (w2 (upd H8 e (.lst [y, x])) b e) t dt := dat_hid (s8.get upd_same neb) Dt
      obtain ⟨B9, S9, M9⟩ := step S7 s8 B8
      have e9 : upd H8 e (.lst [y, x]) e = some (.lst [y, x]) := upd_same
      have D9 := D7.more M9
      have V9 := V7.more M9
      generalize upd H8 e (.lst [y, x]) = H9 at Dt9 B9 S9 e9 D9 V9 ⊢
      clear M9 s8 B8 Dt D7 V7 S7 B7 e7 YD7
      refine ⟨_, _, rfl, ?_⟩
      -- more things
      refine ⟨_, rfl, .inl ⟨rfl, _, SqL.of e9⟩, _, rfl, e, [y, x], e9, _, rfl, _, rfl, b, y, yardD cs rs, 41, 41, rfl, hidB S9 B9, (dat_yard V9).more w2_wo, bY, by decide, bY.tl, by decide, fun u du H10 Du bu tu B10 s10 => ⟨s10.get upd_same neb, ?_⟩⟩
      have Du11 : DatV K (w2 (upd H10 e (.lst [y, x])) b e) u du := dat_hid (s10.get upd_same neb) Du
      obtain ⟨B11, S11, M11⟩ := step S9 s10 B10
      have e11 : upd H10 e (.lst [y, x]) e = some (.lst [y, x]) := upd_same
      have D11 := D9.more M11
      have V11 := V9.more M11
      have Dt11 := Dt9.more M11
      generalize upd H10 e (.lst [y, x]) = H11 at Du11 B11 S11 e11 D11 V11 Dt11 ⊢
      clear M11 s10 B10 Du D9 V9 S9 B9 e9 Dt9
      refine ⟨e, [y, x], e11, _, rfl, b, rfl, hidB S11 B11, fun v dv H12 Dv bv B12 s12 => ⟨s12.get upd_same neb, ?_⟩⟩
      have Dv13 : DatV K (w2 (upd H12 e (.lst [y, x])) b e) v dv := dat_hid (s12.get upd_same neb) Dv
      obtain ⟨B13, S13, M13⟩ := step S11 s12 B12
      have e13 : upd H12 e (.lst [y, x]) e = some (.lst [y, x]) := upd_same
      have D13 := D11.more M13
      have V13 := V11.more M13
      have Dt13 := Dt11.more M13
      have Du13 := Du11.more M13
      generalize upd H12 e (.lst [y, x]) = H13 at Dv13 Du13 B13 S13 e13 D13 V13 Dt13 ⊢
      clear M13 s12 B12 Dv D11 V11 S11 B11 e11 Dt11 Du11
      obtain ⟨ty, ya, yb, xs, zs, rfl, w1, w2', w3, w4, w5⟩ := V13
      have yt : ∀ {G : Hp}, Same H13 G → SqT K G ty [.ref ya, .ref yb] := fun m => sqt_more m (sqt_more (w2_sub H13 b e) w1)
      refine ⟨_, rfl, ty, _, 0, .ref ya, rfl, rfl, yt (Same.refl _), at0, by show 1 ≤ sizeLine; decide, fun t4 h4 => ?_⟩
      refine ⟨_, rfl, ty, _, 1, .ref yb, rfl, rfl, yt (same_new (Same.refl _) h4), at1, _, rfl, ty, _, 0, .ref ya, rfl, rfl, yt (same_new (Same.refl _) h4), at0, by show 2 ≤ sizeLine; decide, fun t5 h5 => ⟨by show 5 ≤ sizeLine; decide, fun l2 hl2 => ?_⟩⟩
      have g4 := s3u (o := .lst [t, u, v, .ref t4, .ref t5]) hl2 (s3u (o := .tup [.ref yb, .ref ya]) h5 (upd_same (H := H13) (a := t4) (o := .tup [.ref ya])))
      have g5 := s3u (o := .lst [t, u, v, .ref t4, .ref t5]) hl2 (upd_same (H := upd H13 t4 (.tup [.ref ya])) (a := t5) (o := .tup [.ref yb, .ref ya]))
      have gl := upd_same (H := upd (upd H13 t4 (.tup [.ref ya])) t5 (.tup [.ref yb, .ref ya])) (a := l2) (o := .lst [t, u, v, .ref t4, .ref t5])
      have MF : Same H13 (upd (upd (upd H13 t4 (.tup [.ref ya])) t5 (.tup [.ref yb, .ref ya])) l2 (.lst [t, u, v, .ref t4, .ref t5])) := same_new (same_new (same_new (Same.refl _) h4) h5) hl2
      have n4 : t4 ≠ b := B13.ne h4
      have n5 : t5 ≠ b := (B13.new (o := .tup [.ref ya]) h4).ne h5
      have n4e : t4 ≠ e := (ne_of_none e13 h4).symm
      have n5e : t5 ≠ e := (ne_of_none (same_new (o := .tup [.ref ya]) (Same.refl _) h4 _ _ e13) h5).symm
      generalize upd (upd (upd H13 t4 (.tup [.ref ya])) t5 (.tup [.ref yb, .ref ya])) l2 (.lst [t, u, v, .ref t4, .ref t5]) = G at g4 g5 gl MF ⊢
      clear h4 h5 hl2
      refine ⟨e, l2, [.ref ty, x], [t, u, v, .ref t4, .ref t5], rfl, rfl, MF _ _ e13, gl, by show 2 + 5 ≤ sizeLine; decide, ?_⟩
      have eH : upd G e (.lst ([.ref ty, x] ++ [t, u, v, .ref t4, .ref t5])) e = some (.lst ([.ref ty, x] ++ [t, u, v, .ref t4, .ref t5])) := upd_same
      have BH : Bag (upd G e (.lst ([.ref ty, x] ++ [t, u, v, .ref t4, .ref t5]))) b := B6.wr he (S13.same MF) (B13.keep MF)
      have SH : Sb b H6 (upd G e (.lst ([.ref ty, x] ++ [t, u, v, .ref t4, .ref t5]))) := (S13.same MF).wr he
      have MH : Same (w2 H13 b e) (w2 (upd G e (.lst ([.ref ty, x] ++ [t, u, v, .ref t4, .ref t5]))) b e) := (w2_more MF).trans w2_wr
      have q4 : SqT K (w2 (upd G e (.lst ([.ref ty, x] ++ [t, u, v, .ref t4, .ref t5]))) b e) t4 [.ref ya] := SqT.of (by rw [w2_ne n4 n4e, upd_ne n4e]; exact g4)
      have q5 : SqT K (w2 (upd G e (.lst ([.ref ty, x] ++ [t, u, v, .ref t4, .ref t5]))) b e) t5 [.ref yb, .ref ya] := SqT.of (by rw [w2_ne n5 n5e, upd_ne n5e]; exact g5)
      generalize upd G e (.lst ([.ref ty, x] ++ [t, u, v, .ref t4, .ref t5])) = HX at eH BH SH MH q4 q5 ⊢
      have DC : DatV K (w2 HX b e) (.ref ya) (.tuple (cs.map cabD)) := .tup (sqt_more MH w2') ((dat_cabs w4).more MH)
      have DR : DatV K (w2 HX b e) (.ref yb) (.tuple (rs.map carD)) := .tup (sqt_more MH w3) ((dat_cars w5).more MH)
      have row : DatA K (w2 HX b e) ([.ref ty, x] ++ [t, u, v, .ref t4, .ref t5]) ([yardD cs rs, dx] ++ [dt, du, dv, .tuple [.tuple (cs.map cabD)], .tuple [.tuple (rs.map carD), .tuple (cs.map cabD)]]) :=
        datA_app (D13.more MH) (.cons (Dt13.more MH) (.cons (Du13.more MH) (.cons (Dv13.more MH) (.cons (.tup q4 (.cons DC .nil)) (.cons (.tup q5 (.cons DR (.cons DC .nil))) .nil)))))
      have DtX := Dt13.more MH
      have bdr : ∀ d ∈ [yardD cs rs, dx] ++ [dt, du, dv, .tuple [.tuple (cs.map cabD)], .tuple [.tuple (rs.map carD), .tuple (cs.map cabD)]], Bd 1000 d ∧ Tl 63 d := fun d hd => by
        have up : ∀ {d : PyData}, Bd 41 d → Bd 1000 d ∧ Tl 63 d := fun h => ⟨Bd.up (by decide) h, Tl.up (by decide) h.tl⟩
        simp only [List.cons_append, List.nil_append, List.mem_cons, List.not_mem_nil, or_false] at hd
        rcases hd with rfl | rfl | rfl | rfl | rfl | rfl | rfl
        · exact up bY
        · exact up bx
        · exact ⟨Bd.up (by decide) bt, Tl.up (by decide) tt⟩
        · exact ⟨Bd.up (by decide) bu, Tl.up (by decide) tu⟩
        · exact ⟨Bd.up (by decide) bv, Tl.up (by decide) bv.tl⟩
        · exact up (bd_row (by show 1 ≤ 41; decide) fun d hd => by rw [List.mem_singleton.mp hd]; exact bd_cabs YP)
        · exact up (bd_two (bd_cars YP) (bd_cabs YP))
      have lr : ([V.ref ty, x] ++ [t, u, v, .ref t4, .ref t5]).length ≤ 8 := by show 7 ≤ 8; decide
      generalize [V.ref ty, x] ++ [t, u, v, .ref t4, .ref t5] = things at eH row lr ⊢
      generalize [yardD cs rs, dx] ++ [dt, du, dv, .tuple [.tuple (cs.map cabD)], .tuple [.tuple (rs.map carD), .tuple (cs.map cabD)]] = dats at row bdr
      clear DC DR q4 q5 MH w1 w2' w3 w4 w5 D13 Dt13 Du13 Dv13 g4 g5 gl MF n4 n5 n4e n5e B13 S13 e13 yt
      refine ⟨fun σ' H' => ∃ (xs : List V) (ds : List PyData), σ' = [some (.ref a), some (.ref b), some (.int (0 + (i : Int))), some (.ref ty), some (.ref e), some t, v6] ∧ H' e = some (.lst xs) ∧ DatA K (w2 H' b e) xs ds ∧ (∀ d ∈ ds, Bd 1000 d ∧ Tl 63 d) ∧ xs.length ≤ 9 ∧ Bag H' b, ?_, ?_⟩
      · refine ⟨_, rfl, t, dt, rfl, DtX.more (w2_sub HX b e), qT dt, rfl, ?_⟩
        refine ite2 (fun _ => ?_) (fun _ => ⟨things, dats, rfl, eH, row, bdr, by omega, BH⟩)
        refine ⟨_, rfl, .inl ⟨rfl, _, SqL.of eH⟩, e, things, eH, _, rfl, _, rfl, b, t, dt, 3 * 41 + 40, 41 + 1, rfl, hidB SH BH, DtX.more w2_wo, bt, by decide, tt, by decide, fun z dz HY Dz bz tz BY sY => ⟨sY.get upd_same neb, ?_⟩⟩
        have DzY : DatV K (w2 (upd HY e (.lst things)) b e) z dz := dat_hid (sY.get upd_same neb) Dz
        obtain ⟨BZ, SZ, MZ⟩ := step SH sY BY
        have eZ : upd HY e (.lst things) e = some (.lst things) := upd_same
        have rowZ := row.more MZ
        generalize upd HY e (.lst things) = HZ at DzY BZ SZ eZ rowZ ⊢
        refine ⟨e, things, z, rfl, rfl, eZ, small1000 (by omega), ?_⟩
        refine ⟨things ++ [z], dats ++ [dz], rfl, upd_same, (datA_app rowZ (.cons DzY .nil)).more w2_wr, fun d hd => ?_, by rw [List.length_append]; show _ + 1 ≤ 9; omega, B6.wr he SZ BZ⟩
        rcases List.mem_append.mp hd with hd | hd
        · exact bdr d hd
        · rw [List.mem_singleton.mp hd]
          exact ⟨Bd.up (by decide) bz, Tl.up (by decide) tz⟩
      clear DtX row bdr lr eH BH SH things dats HX
      rintro σ H' ⟨xs, ds, rfl, eX, row, bdr, lx, BX⟩
      have row := row.more (w2_sub H' b e)
      refine ⟨_, rfl, e, rfl, ⟨_, SqL.of eX⟩, ?_⟩
      refine for_list (K := K) (a := e) (xs := xs) (fun j σ G => ∃ v6 : Option V, σ = [some (.ref a), some (.ref b), some (.int (0 + (i : Int))), some (.ref ty), some (.ref e), some t, v6] ∧ Same H' G) ?_ ?_ ?_ ?_
      · exact ⟨_, rfl, Same.refl _⟩
      · rintro j σ G _ ⟨_, _, m⟩
        exact SqL.of (m _ _ eX)
      · rintro j z σ G hz ⟨v6, rfl, m⟩
        obtain ⟨d, hd, Dz⟩ := datA_at row hz
        obtain ⟨bz, tz⟩ := bdr d (List.mem_of_getElem? hd)
        obtain ⟨z1, z2, z3⟩ := boolFit (yardB d)
        refine ⟨_, rfl, z, d, rfl, Dz.more m, bz, fun G1 m1 => ⟨_, rfl, z, d, rfl, (Dz.more m).more m1, bz, tz, fun G2 m2 => ?_⟩⟩
        refine ⟨.bl (yardB d), .bl (yardB d), .bool (yardB d), rfl, .inl ⟨rfl, .inr (.inr (.inr ⟨_, rfl⟩))⟩, .bl _, .bl _, z1, z2, z3, ?_⟩
        refine ⟨_, rfl, ?_⟩
        refine ite2 (fun h => by cases h) (fun _ => ?_)
        exact ⟨_, rfl, (m.trans m1).trans m2⟩
      · rintro σ G ⟨v6, rfl, m⟩
        exact ⟨_, _, _, _, _, rfl, BX.keep m⟩
    · rintro σ H' _
      exact k H'
end
end Y

/-! EXw: what an error class and a constant of the text must say, asked at once. -/
namespace Y
open PySem PySem.Spec PyProof.Rows L2 Ns
def strIn (K : PySem.W.Frag) (x z : Str) : Bool := match PySem.W.nsIn K mainGlobals x with
  | some (some (.str y _)) => decide (y = z)
  | _ => false
theorem strIn_ok {K : PySem.W.Frag} {x z : Str} {h : Heap} {mg : Str → Option Value} (X : K.In h) (G : h.Ns mainGlobals mg) (e : strIn K x z = true) : ∃ u, mg x = some u ∧ RelV (.str z) u := by
  unfold strIn at e
  split at e
  · rename_i y t q
    rw [← of_decide_eq_true e]
    exact ⟨_, PySem.W.mg_of X G q, t, rfl⟩
  · cases e
end Y

namespace Y
open PySem PySem.Spec PyProof.Rows L2 Ns
/-- the def's data -/
def fdOf {K : PySem.W.Frag} {x q : Str} {st : Stmt} {f : Addr} {fd : FuncData} (_ : Fun K x q st f fd) : FuncData := fd
set_option maxHeartbeats 4000000 in
theorem all_mk {l : PySem.W.OpenLaw} {w : World} {K : PySem.W.Frag} {h : Heap} {mg : Str → Option Value} {fa : Addr} (X : K.In h) (G : h.Ns mainGlobals mg) (hfa : mg "law" = some (.ref fa))
    {fII fIC fIP fIN fIT fICb fICr fIR fYd fAB fACr fB fT fS fA fN fNN fZ fC fR fY fSm fW fWh fO fBW fBt fLN fLC fLB fLR fLY fNY fL : Addr}
    {oddII andII : Option Addr} {sldII : Array (Option Value)} {ocdII kVdII dcdII pmdII cddII ctdII : Value}
    {oddIC andIC : Option Addr} {sldIC : Array (Option Value)} {ocdIC kVdIC dcdIC pmdIC cddIC ctdIC : Value}
    {oddIP andIP : Option Addr} {sldIP : Array (Option Value)} {ocdIP kVdIP dcdIP pmdIP cddIP ctdIP : Value}
    {oddIN andIN : Option Addr} {sldIN : Array (Option Value)} {ocdIN kVdIN dcdIN pmdIN cddIN ctdIN : Value}
    {oddIT andIT : Option Addr} {sldIT : Array (Option Value)} {ocdIT kVdIT dcdIT pmdIT cddIT ctdIT : Value}
    {oddICb andICb : Option Addr} {sldICb : Array (Option Value)} {ocdICb kVdICb dcdICb pmdICb cddICb ctdICb : Value}
    {oddICr andICr : Option Addr} {sldICr : Array (Option Value)} {ocdICr kVdICr dcdICr pmdICr cddICr ctdICr : Value}
    {oddIR andIR : Option Addr} {sldIR : Array (Option Value)} {ocdIR kVdIR dcdIR pmdIR cddIR ctdIR : Value}
    {oddYd andYd : Option Addr} {sldYd : Array (Option Value)} {ocdYd kVdYd dcdYd pmdYd cddYd ctdYd : Value}
    {oddAB andAB : Option Addr} {sldAB : Array (Option Value)} {ocdAB kVdAB dcdAB pmdAB cddAB ctdAB : Value}
    {oddACr andACr : Option Addr} {sldACr : Array (Option Value)} {ocdACr kVdACr dcdACr pmdACr cddACr ctdACr : Value}
    {oddB andB : Option Addr} {sldB : Array (Option Value)} {ocdB kVdB dcdB pmdB cddB ctdB : Value}
    {oddT andT : Option Addr} {sldT : Array (Option Value)} {ocdT kVdT dcdT pmdT cddT ctdT : Value}
    {oddS andS : Option Addr} {sldS : Array (Option Value)} {ocdS kVdS dcdS pmdS cddS ctdS : Value}
    {oddA andA : Option Addr} {sldA : Array (Option Value)} {ocdA kVdA dcdA pmdA cddA ctdA : Value}
    {oddN andN : Option Addr} {sldN : Array (Option Value)} {ocdN kVdN dcdN pmdN cddN ctdN : Value}
    {oddNN andNN : Option Addr} {sldNN : Array (Option Value)} {ocdNN kVdNN dcdNN pmdNN cddNN ctdNN : Value}
    {oddZ andZ : Option Addr} {sldZ : Array (Option Value)} {ocdZ kVdZ dcdZ pmdZ cddZ ctdZ : Value}
    {oddC andC : Option Addr} {sldC : Array (Option Value)} {ocdC kVdC dcdC pmdC cddC ctdC : Value}
    {oddR andR : Option Addr} {sldR : Array (Option Value)} {ocdR kVdR dcdR pmdR cddR ctdR : Value}
    {oddY andY : Option Addr} {sldY : Array (Option Value)} {ocdY kVdY dcdY pmdY cddY ctdY : Value}
    {oddSm andSm : Option Addr} {sldSm : Array (Option Value)} {ocdSm kVdSm dcdSm pmdSm cddSm ctdSm : Value}
    {oddW andW : Option Addr} {sldW : Array (Option Value)} {ocdW kVdW dcdW pmdW cddW ctdW : Value}
    {oddWh andWh : Option Addr} {sldWh : Array (Option Value)} {ocdWh kVdWh dcdWh pmdWh cddWh ctdWh : Value}
    {oddO andO : Option Addr} {sldO : Array (Option Value)} {ocdO kVdO dcdO pmdO cddO ctdO : Value}
    {oddBW andBW : Option Addr} {sldBW : Array (Option Value)} {ocdBW kVdBW dcdBW pmdBW cddBW ctdBW : Value}
    {oddBt andBt : Option Addr} {sldBt : Array (Option Value)} {ocdBt kVdBt dcdBt pmdBt cddBt ctdBt : Value}
    {oddLN andLN : Option Addr} {sldLN : Array (Option Value)} {ocdLN kVdLN dcdLN pmdLN cddLN ctdLN : Value}
    {oddLC andLC : Option Addr} {sldLC : Array (Option Value)} {ocdLC kVdLC dcdLC pmdLC cddLC ctdLC : Value}
    {oddLB andLB : Option Addr} {sldLB : Array (Option Value)} {ocdLB kVdLB dcdLB pmdLB cddLB ctdLB : Value}
    {oddLR andLR : Option Addr} {sldLR : Array (Option Value)} {ocdLR kVdLR dcdLR pmdLR cddLR ctdLR : Value}
    {oddLY andLY : Option Addr} {sldLY : Array (Option Value)} {ocdLY kVdLY dcdLY pmdLY cddLY ctdLY : Value}
    {oddNY andNY : Option Addr} {sldNY : Array (Option Value)} {ocdNY kVdNY dcdNY pmdNY cddNY ctdNY : Value}
    {oddL andL : Option Addr} {sldL : Array (Option Value)} {ocdL kVdL dcdL pmdL cddL ctdL : Value}
    (adII : PySem.W.nsIn K mainGlobals "is_integer" = some (some (.ref fII)))
    (ldII : K.lookup fII = some ⟨ocdII, oddII, .func (PySem.W.fnOf "is_integer" "is_integer" (defArgs sIsInteger) (defBody sIsInteger) (defScope sIsInteger) .none kVdII dcdII pmdII andII cddII ctdII), sldII⟩)
    (cdII : PySem.W.codeIn K cddII "is_integer" = true)
    (kdII : PySem.W.keepIn K (.ref fII) = true)
    (adIC : PySem.W.nsIn K mainGlobals "is_count" = some (some (.ref fIC)))
    (ldIC : K.lookup fIC = some ⟨ocdIC, oddIC, .func (PySem.W.fnOf "is_count" "is_count" (defArgs sIsCount) (defBody sIsCount) (defScope sIsCount) .none kVdIC dcdIC pmdIC andIC cddIC ctdIC), sldIC⟩)
    (cdIC : PySem.W.codeIn K cddIC "is_count" = true)
    (kdIC : PySem.W.keepIn K (.ref fIC) = true)
    (adIP : PySem.W.nsIn K mainGlobals "is_positive" = some (some (.ref fIP)))
    (ldIP : K.lookup fIP = some ⟨ocdIP, oddIP, .func (PySem.W.fnOf "is_positive" "is_positive" (defArgs sIsPositive) (defBody sIsPositive) (defScope sIsPositive) .none kVdIP dcdIP pmdIP andIP cddIP ctdIP), sldIP⟩)
    (cdIP : PySem.W.codeIn K cddIP "is_positive" = true)
    (kdIP : PySem.W.keepIn K (.ref fIP) = true)
    (adIN : PySem.W.nsIn K mainGlobals "is_name" = some (some (.ref fIN)))
    (ldIN : K.lookup fIN = some ⟨ocdIN, oddIN, .func (PySem.W.fnOf "is_name" "is_name" (defArgs sIsName) (defBody sIsName) (defScope sIsName) .none kVdIN dcdIN pmdIN andIN cddIN ctdIN), sldIN⟩)
    (cdIN : PySem.W.codeIn K cddIN "is_name" = true)
    (kdIN : PySem.W.keepIn K (.ref fIN) = true)
    (adIT : PySem.W.nsIn K mainGlobals "is_tuple_of" = some (some (.ref fIT)))
    (ldIT : K.lookup fIT = some ⟨ocdIT, oddIT, .func (PySem.W.fnOf "is_tuple_of" "is_tuple_of" (defArgs sIsTupleOf) (defBody sIsTupleOf) (defScope sIsTupleOf) .none kVdIT dcdIT pmdIT andIT cddIT ctdIT), sldIT⟩)
    (cdIT : PySem.W.codeIn K cddIT "is_tuple_of" = true)
    (kdIT : PySem.W.keepIn K (.ref fIT) = true)
    (adICb : PySem.W.nsIn K mainGlobals "is_cable" = some (some (.ref fICb)))
    (ldICb : K.lookup fICb = some ⟨ocdICb, oddICb, .func (PySem.W.fnOf "is_cable" "is_cable" (defArgs sIsCable) (defBody sIsCable) (defScope sIsCable) .none kVdICb dcdICb pmdICb andICb cddICb ctdICb), sldICb⟩)
    (cdICb : PySem.W.codeIn K cddICb "is_cable" = true)
    (kdICb : PySem.W.keepIn K (.ref fICb) = true)
    (adICr : PySem.W.nsIn K mainGlobals "is_car" = some (some (.ref fICr)))
    (ldICr : K.lookup fICr = some ⟨ocdICr, oddICr, .func (PySem.W.fnOf "is_car" "is_car" (defArgs sIsCar) (defBody sIsCar) (defScope sIsCar) .none kVdICr dcdICr pmdICr andICr cddICr ctdICr), sldICr⟩)
    (cdICr : PySem.W.codeIn K cddICr "is_car" = true)
    (kdICr : PySem.W.keepIn K (.ref fICr) = true)
    (adIR : PySem.W.nsIn K mainGlobals "is_rising" = some (some (.ref fIR)))
    (ldIR : K.lookup fIR = some ⟨ocdIR, oddIR, .func (PySem.W.fnOf "is_rising" "is_rising" (defArgs sIsRising) (defBody sIsRising) (defScope sIsRising) .none kVdIR dcdIR pmdIR andIR cddIR ctdIR), sldIR⟩)
    (cdIR : PySem.W.codeIn K cddIR "is_rising" = true)
    (kdIR : PySem.W.keepIn K (.ref fIR) = true)
    (adYd : PySem.W.nsIn K mainGlobals "is_yard" = some (some (.ref fYd)))
    (ldYd : K.lookup fYd = some ⟨ocdYd, oddYd, .func (PySem.W.fnOf "is_yard" "is_yard" (defArgs sIsYard) (defBody sIsYard) (defScope sIsYard) .none kVdYd dcdYd pmdYd andYd cddYd ctdYd), sldYd⟩)
    (cdYd : PySem.W.codeIn K cddYd "is_yard" = true)
    (kdYd : PySem.W.keepIn K (.ref fYd) = true)
    (adAB : PySem.W.nsIn K mainGlobals "_are_cables" = some (some (.ref fAB)))
    (ldAB : K.lookup fAB = some ⟨ocdAB, oddAB, .func (PySem.W.fnOf "_are_cables" "_are_cables" (defArgs sAreCables) (defBody sAreCables) (defScope sAreCables) .none kVdAB dcdAB pmdAB andAB cddAB ctdAB), sldAB⟩)
    (cdAB : PySem.W.codeIn K cddAB "_are_cables" = true)
    (kdAB : PySem.W.keepIn K (.ref fAB) = true)
    (adACr : PySem.W.nsIn K mainGlobals "_are_cars" = some (some (.ref fACr)))
    (ldACr : K.lookup fACr = some ⟨ocdACr, oddACr, .func (PySem.W.fnOf "_are_cars" "_are_cars" (defArgs sAreCars) (defBody sAreCars) (defScope sAreCars) .none kVdACr dcdACr pmdACr andACr cddACr ctdACr), sldACr⟩)
    (cdACr : PySem.W.codeIn K cddACr "_are_cars" = true)
    (kdACr : PySem.W.keepIn K (.ref fACr) = true)
    (adB : PySem.W.nsIn K mainGlobals "_law_bag" = some (some (.ref fB)))
    (ldB : K.lookup fB = some ⟨ocdB, oddB, .func (PySem.W.fnOf "_law_bag" "_law_bag" (defArgs sBag) (defBody sBag) (defScope sBag) .none kVdB dcdB pmdB andB cddB ctdB), sldB⟩)
    (cdB : PySem.W.codeIn K cddB "_law_bag" = true)
    (kdB : PySem.W.keepIn K (.ref fB) = true)
    (adT : PySem.W.nsIn K mainGlobals "_law_take" = some (some (.ref fT)))
    (ldT : K.lookup fT = some ⟨ocdT, oddT, .func (PySem.W.fnOf "_law_take" "_law_take" (defArgs sTake) (defBody sTake) (defScope sTake) .none kVdT dcdT pmdT andT cddT ctdT), sldT⟩)
    (cdT : PySem.W.codeIn K cddT "_law_take" = true)
    (kdT : PySem.W.keepIn K (.ref fT) = true)
    (adS : PySem.W.nsIn K mainGlobals "_law_some" = some (some (.ref fS)))
    (ldS : K.lookup fS = some ⟨ocdS, oddS, .func (PySem.W.fnOf "_law_some" "_law_some" (defArgs sSome) (defBody sSome) (defScope sSome) .none kVdS dcdS pmdS andS cddS ctdS), sldS⟩)
    (cdS : PySem.W.codeIn K cddS "_law_some" = true)
    (kdS : PySem.W.keepIn K (.ref fS) = true)
    (adA : PySem.W.nsIn K mainGlobals "_law_alike" = some (some (.ref fA)))
    (ldA : K.lookup fA = some ⟨ocdA, oddA, .func (PySem.W.fnOf "_law_alike" "_law_alike" (defArgs sAlike) (defBody sAlike) (defScope sAlike) .none kVdA dcdA pmdA andA cddA ctdA), sldA⟩)
    (cdA : PySem.W.codeIn K cddA "_law_alike" = true)
    (kdA : PySem.W.keepIn K (.ref fA) = true)
    (adN : PySem.W.nsIn K mainGlobals "_law_name" = some (some (.ref fN)))
    (ldN : K.lookup fN = some ⟨ocdN, oddN, .func (PySem.W.fnOf "_law_name" "_law_name" (defArgs sName) (defBody sName) (defScope sName) .none kVdN dcdN pmdN andN cddN ctdN), sldN⟩)
    (cdN : PySem.W.codeIn K cddN "_law_name" = true)
    (kdN : PySem.W.keepIn K (.ref fN) = true)
    (adNN : PySem.W.nsIn K mainGlobals "_law_names" = some (some (.ref fNN)))
    (ldNN : K.lookup fNN = some ⟨ocdNN, oddNN, .func (PySem.W.fnOf "_law_names" "_law_names" (defArgs sNames) (defBody sNames) (defScope sNames) .none kVdNN dcdNN pmdNN andNN cddNN ctdNN), sldNN⟩)
    (cdNN : PySem.W.codeIn K cddNN "_law_names" = true)
    (kdNN : PySem.W.keepIn K (.ref fNN) = true)
    (adZ : PySem.W.nsIn K mainGlobals "_law_size" = some (some (.ref fZ)))
    (ldZ : K.lookup fZ = some ⟨ocdZ, oddZ, .func (PySem.W.fnOf "_law_size" "_law_size" (defArgs sSize) (defBody sSize) (defScope sSize) .none kVdZ dcdZ pmdZ andZ cddZ ctdZ), sldZ⟩)
    (cdZ : PySem.W.codeIn K cddZ "_law_size" = true)
    (kdZ : PySem.W.keepIn K (.ref fZ) = true)
    (adC : PySem.W.nsIn K mainGlobals "_law_cables" = some (some (.ref fC)))
    (ldC : K.lookup fC = some ⟨ocdC, oddC, .func (PySem.W.fnOf "_law_cables" "_law_cables" (defArgs sCables) (defBody sCables) (defScope sCables) .none kVdC dcdC pmdC andC cddC ctdC), sldC⟩)
    (cdC : PySem.W.codeIn K cddC "_law_cables" = true)
    (kdC : PySem.W.keepIn K (.ref fC) = true)
    (adR : PySem.W.nsIn K mainGlobals "_law_cars" = some (some (.ref fR)))
    (ldR : K.lookup fR = some ⟨ocdR, oddR, .func (PySem.W.fnOf "_law_cars" "_law_cars" (defArgs sCars) (defBody sCars) (defScope sCars) .none kVdR dcdR pmdR andR cddR ctdR), sldR⟩)
    (cdR : PySem.W.codeIn K cddR "_law_cars" = true)
    (kdR : PySem.W.keepIn K (.ref fR) = true)
    (adY : PySem.W.nsIn K mainGlobals "_law_yard_of" = some (some (.ref fY)))
    (ldY : K.lookup fY = some ⟨ocdY, oddY, .func (PySem.W.fnOf "_law_yard_of" "_law_yard_of" (defArgs sYardOf) (defBody sYardOf) (defScope sYardOf) .none kVdY dcdY pmdY andY cddY ctdY), sldY⟩)
    (cdY : PySem.W.codeIn K cddY "_law_yard_of" = true)
    (kdY : PySem.W.keepIn K (.ref fY) = true)
    (adSm : PySem.W.nsIn K mainGlobals "_law_small_yard" = some (some (.ref fSm)))
    (ldSm : K.lookup fSm = some ⟨ocdSm, oddSm, .func (PySem.W.fnOf "_law_small_yard" "_law_small_yard" (defArgs sSmall) (defBody sSmall) (defScope sSmall) .none kVdSm dcdSm pmdSm andSm cddSm ctdSm), sldSm⟩)
    (cdSm : PySem.W.codeIn K cddSm "_law_small_yard" = true)
    (kdSm : PySem.W.keepIn K (.ref fSm) = true)
    (adW : PySem.W.nsIn K mainGlobals "_law_wide_yard" = some (some (.ref fW)))
    (ldW : K.lookup fW = some ⟨ocdW, oddW, .func (PySem.W.fnOf "_law_wide_yard" "_law_wide_yard" (defArgs sWide) (defBody sWide) (defScope sWide) .none kVdW dcdW pmdW andW cddW ctdW), sldW⟩)
    (cdW : PySem.W.codeIn K cddW "_law_wide_yard" = true)
    (kdW : PySem.W.keepIn K (.ref fW) = true)
    (adWh : PySem.W.nsIn K mainGlobals "_law_whole" = some (some (.ref fWh)))
    (ldWh : K.lookup fWh = some ⟨ocdWh, oddWh, .func (PySem.W.fnOf "_law_whole" "_law_whole" (defArgs sWhole) (defBody sWhole) (defScope sWhole) .none kVdWh dcdWh pmdWh andWh cddWh ctdWh), sldWh⟩)
    (cdWh : PySem.W.codeIn K cddWh "_law_whole" = true)
    (kdWh : PySem.W.keepIn K (.ref fWh) = true)
    (adO : PySem.W.nsIn K mainGlobals "_law_odd" = some (some (.ref fO)))
    (ldO : K.lookup fO = some ⟨ocdO, oddO, .func (PySem.W.fnOf "_law_odd" "_law_odd" (defArgs sOdd) (defBody sOdd) (defScope sOdd) .none kVdO dcdO pmdO andO cddO ctdO), sldO⟩)
    (cdO : PySem.W.codeIn K cddO "_law_odd" = true)
    (kdO : PySem.W.keepIn K (.ref fO) = true)
    (adBW : PySem.W.nsIn K mainGlobals "_law_bent_word" = some (some (.ref fBW)))
    (ldBW : K.lookup fBW = some ⟨ocdBW, oddBW, .func (PySem.W.fnOf "_law_bent_word" "_law_bent_word" (defArgs sBentWord) (defBody sBentWord) (defScope sBentWord) .none kVdBW dcdBW pmdBW andBW cddBW ctdBW), sldBW⟩)
    (cdBW : PySem.W.codeIn K cddBW "_law_bent_word" = true)
    (kdBW : PySem.W.keepIn K (.ref fBW) = true)
    (adBt : PySem.W.nsIn K mainGlobals "_law_bent" = some (some (.ref fBt)))
    (ldBt : K.lookup fBt = some ⟨ocdBt, oddBt, .func (PySem.W.fnOf "_law_bent" "_law_bent" (defArgs sBent) (defBody sBent) (defScope sBent) .none kVdBt dcdBt pmdBt andBt cddBt ctdBt), sldBt⟩)
    (cdBt : PySem.W.codeIn K cddBt "_law_bent" = true)
    (kdBt : PySem.W.keepIn K (.ref fBt) = true)
    (adLN : PySem.W.nsIn K mainGlobals "_law_is_name" = some (some (.ref fLN)))
    (ldLN : K.lookup fLN = some ⟨ocdLN, oddLN, .func (PySem.W.fnOf "_law_is_name" "_law_is_name" (defArgs sLIsName) (defBody sLIsName) (defScope sLIsName) .none kVdLN dcdLN pmdLN andLN cddLN ctdLN), sldLN⟩)
    (cdLN : PySem.W.codeIn K cddLN "_law_is_name" = true)
    (kdLN : PySem.W.keepIn K (.ref fLN) = true)
    (adLC : PySem.W.nsIn K mainGlobals "_law_is_count" = some (some (.ref fLC)))
    (ldLC : K.lookup fLC = some ⟨ocdLC, oddLC, .func (PySem.W.fnOf "_law_is_count" "_law_is_count" (defArgs sLIsCount) (defBody sLIsCount) (defScope sLIsCount) .none kVdLC dcdLC pmdLC andLC cddLC ctdLC), sldLC⟩)
    (cdLC : PySem.W.codeIn K cddLC "_law_is_count" = true)
    (kdLC : PySem.W.keepIn K (.ref fLC) = true)
    (adLB : PySem.W.nsIn K mainGlobals "_law_is_cable" = some (some (.ref fLB)))
    (ldLB : K.lookup fLB = some ⟨ocdLB, oddLB, .func (PySem.W.fnOf "_law_is_cable" "_law_is_cable" (defArgs sLIsCable) (defBody sLIsCable) (defScope sLIsCable) .none kVdLB dcdLB pmdLB andLB cddLB ctdLB), sldLB⟩)
    (cdLB : PySem.W.codeIn K cddLB "_law_is_cable" = true)
    (kdLB : PySem.W.keepIn K (.ref fLB) = true)
    (adLR : PySem.W.nsIn K mainGlobals "_law_is_car" = some (some (.ref fLR)))
    (ldLR : K.lookup fLR = some ⟨ocdLR, oddLR, .func (PySem.W.fnOf "_law_is_car" "_law_is_car" (defArgs sLIsCar) (defBody sLIsCar) (defScope sLIsCar) .none kVdLR dcdLR pmdLR andLR cddLR ctdLR), sldLR⟩)
    (cdLR : PySem.W.codeIn K cddLR "_law_is_car" = true)
    (kdLR : PySem.W.keepIn K (.ref fLR) = true)
    (adLY : PySem.W.nsIn K mainGlobals "_law_is_yard" = some (some (.ref fLY)))
    (ldLY : K.lookup fLY = some ⟨ocdLY, oddLY, .func (PySem.W.fnOf "_law_is_yard" "_law_is_yard" (defArgs sLIsYard) (defBody sLIsYard) (defScope sLIsYard) .none kVdLY dcdLY pmdLY andLY cddLY ctdLY), sldLY⟩)
    (cdLY : PySem.W.codeIn K cddLY "_law_is_yard" = true)
    (kdLY : PySem.W.keepIn K (.ref fLY) = true)
    (adNY : PySem.W.nsIn K mainGlobals "_law_near_yard" = some (some (.ref fNY)))
    (ldNY : K.lookup fNY = some ⟨ocdNY, oddNY, .func (PySem.W.fnOf "_law_near_yard" "_law_near_yard" (defArgs sNearYard) (defBody sNearYard) (defScope sNearYard) .none kVdNY dcdNY pmdNY andNY cddNY ctdNY), sldNY⟩)
    (cdNY : PySem.W.codeIn K cddNY "_law_near_yard" = true)
    (kdNY : PySem.W.keepIn K (.ref fNY) = true)
    (adL : PySem.W.nsIn K mainGlobals "law" = some (some (.ref fL)))
    (ldL : K.lookup fL = some ⟨ocdL, oddL, .func (PySem.W.fnOf "law" "law" (defArgs sLaw) (defBody sLaw) (defScope sLaw) .none kVdL dcdL pmdL andL cddL ctdL), sldL⟩)
    (cdL : PySem.W.codeIn K cddL "law" = true)
    (kdL : PySem.W.keepIn K (.ref fL) = true)
    (kccL : strIn K "_LETTERS" letters = true)
    (kccS : strIn K "_SIGNS" signs = true)
    (zabs : PySem.W.nsIn K mainGlobals "abs" = some none)
    (zint : PySem.W.nsIn K mainGlobals "int" = some none)
    (zlen : PySem.W.nsIn K mainGlobals "len" = some none)
    (zrepr : PySem.W.nsIn K mainGlobals "repr" = some none)
    (zisinstance : PySem.W.nsIn K mainGlobals "isinstance" = some none)
    (zrange : PySem.W.nsIn K mainGlobals "range" = some none)
    (zsorted : PySem.W.nsIn K mainGlobals "sorted" = some none)
    (ztuple : PySem.W.nsIn K mainGlobals "tuple" = some none)
    (zlist : PySem.W.nsIn K mainGlobals "list" = some none)
    (zdict : PySem.W.nsIn K mainGlobals "dict" = some none)
    (zset : PySem.W.nsIn K mainGlobals "set" = some none)
    (zsum : PySem.W.nsIn K mainGlobals "sum" = some none)
    (zmax : PySem.W.nsIn K mainGlobals "max" = some none)
    (zmin : PySem.W.nsIn K mainGlobals "min" = some none)
    (zstr : PySem.W.nsIn K mainGlobals "str" = some none)
    (zall : PySem.W.nsIn K mainGlobals "all" = some none)
    (zany : PySem.W.nsIn K mainGlobals "any" = some none)
    (zzip : PySem.W.nsIn K mainGlobals "zip" = some none)
    (zbool : PySem.W.nsIn K mainGlobals "bool" = some none) :
    ∃ fd : FuncData, (∀ (s : Shared) (v : Value), BindsTo s fd ⟨[v], []⟩ [("script", v)]) ∧ ∀ base : Heap, K.In base → base.Ns mainGlobals mg → GnOk l.prog w K mg base 10 fa fd ["script"] (spTop K) := by
  have e := hfa.symm.trans (PySem.W.mg_of X G adL)
  cases e
  have T : Nat0 mg := ⟨PySem.W.mg_none_of X G zabs, PySem.W.mg_none_of X G zint, PySem.W.mg_none_of X G zlen, PySem.W.mg_none_of X G zrepr, PySem.W.mg_none_of X G zisinstance, PySem.W.mg_none_of X G zrange, PySem.W.mg_none_of X G zsorted, PySem.W.mg_none_of X G ztuple, PySem.W.mg_none_of X G zlist, PySem.W.mg_none_of X G zdict, PySem.W.mg_none_of X G zset, PySem.W.mg_none_of X G zsum, PySem.W.mg_none_of X G zmax, PySem.W.mg_none_of X G zmin, PySem.W.mg_none_of X G zstr, PySem.W.mg_none_of X G zall, PySem.W.mg_none_of X G zany, PySem.W.mg_none_of X G zzip⟩
  have h_bool : mg "bool" = none := PySem.W.mg_none_of X G zbool
  have FII := fun_mk (st := sIsInteger) ldII cdII kdII
  have bII := FII.binds (ps := ["thing"]) fun _ _ _ _ _ _ us hl => match us, hl with | [_], _ => rfl
  have mII := PySem.W.mg_of X G adII
  have FIC := fun_mk (st := sIsCount) ldIC cdIC kdIC
  have bIC := FIC.binds (ps := ["thing"]) fun _ _ _ _ _ _ us hl => match us, hl with | [_], _ => rfl
  have mIC := PySem.W.mg_of X G adIC
  have FIP := fun_mk (st := sIsPositive) ldIP cdIP kdIP
  have bIP := FIP.binds (ps := ["thing"]) fun _ _ _ _ _ _ us hl => match us, hl with | [_], _ => rfl
  have mIP := PySem.W.mg_of X G adIP
  have FIN := fun_mk (st := sIsName) ldIN cdIN kdIN
  have bIN := FIN.binds (ps := ["thing"]) fun _ _ _ _ _ _ us hl => match us, hl with | [_], _ => rfl
  have mIN := PySem.W.mg_of X G adIN
  have FIT := fun_mk (st := sIsTupleOf) ldIT cdIT kdIT
  have bIT := FIT.binds (ps := ["many", "thing"]) fun _ _ _ _ _ _ us hl => match us, hl with | [_, _], _ => rfl
  have mIT := PySem.W.mg_of X G adIT
  have FICb := fun_mk (st := sIsCable) ldICb cdICb kdICb
  have bICb := FICb.binds (ps := ["thing"]) fun _ _ _ _ _ _ us hl => match us, hl with | [_], _ => rfl
  have mICb := PySem.W.mg_of X G adICb
  have FICr := fun_mk (st := sIsCar) ldICr cdICr kdICr
  have bICr := FICr.binds (ps := ["thing"]) fun _ _ _ _ _ _ us hl => match us, hl with | [_], _ => rfl
  have mICr := PySem.W.mg_of X G adICr
  have FIR := fun_mk (st := sIsRising) ldIR cdIR kdIR
  have bIR := FIR.binds (ps := ["row"]) fun _ _ _ _ _ _ us hl => match us, hl with | [_], _ => rfl
  have mIR := PySem.W.mg_of X G adIR
  have FYd := fun_mk (st := sIsYard) ldYd cdYd kdYd
  have bYd := FYd.binds (ps := ["thing"]) fun _ _ _ _ _ _ us hl => match us, hl with | [_], _ => rfl
  have mYd := PySem.W.mg_of X G adYd
  have FAB := fun_mk (st := sAreCables) ldAB cdAB kdAB
  have bAB := FAB.binds (ps := ["thing"]) fun _ _ _ _ _ _ us hl => match us, hl with | [_], _ => rfl
  have mAB := PySem.W.mg_of X G adAB
  have FACr := fun_mk (st := sAreCars) ldACr cdACr kdACr
  have bACr := FACr.binds (ps := ["thing"]) fun _ _ _ _ _ _ us hl => match us, hl with | [_], _ => rfl
  have mACr := PySem.W.mg_of X G adACr
  have FB := fun_mk (st := sBag) ldB cdB kdB
  have bB := FB.binds (ps := ["script"]) fun _ _ _ _ _ _ us hl => match us, hl with | [_], _ => rfl
  have mB := PySem.W.mg_of X G adB
  have FT := fun_mk (st := sTake) ldT cdT kdT
  have bT := FT.binds (ps := ["bag", "many"]) fun _ _ _ _ _ _ us hl => match us, hl with | [_, _], _ => rfl
  have mT := PySem.W.mg_of X G adT
  have FS := fun_mk (st := sSome) ldS cdS kdS
  have bS := FS.binds (ps := ["bag", "things"]) fun _ _ _ _ _ _ us hl => match us, hl with | [_, _], _ => rfl
  have mS := PySem.W.mg_of X G adS
  have FA := fun_mk (st := sAlike) ldA cdA kdA
  have bA := FA.binds (ps := ["found", "due"]) fun _ _ _ _ _ _ us hl => match us, hl with | [_, _], _ => rfl
  have mA := PySem.W.mg_of X G adA
  have FN := fun_mk (st := sName) ldN cdN kdN
  have bN := FN.binds (ps := ["bag", "taken"]) fun _ _ _ _ _ _ us hl => match us, hl with | [_, _], _ => rfl
  have mN := PySem.W.mg_of X G adN
  have FNN := fun_mk (st := sNames) ldNN cdNN kdNN
  have bNN := FNN.binds (ps := ["bag", "many", "taken"]) fun _ _ _ _ _ _ us hl => match us, hl with | [_, _, _], _ => rfl
  have mNN := PySem.W.mg_of X G adNN
  have FZ := fun_mk (st := sSize) ldZ cdZ kdZ
  have bZ := FZ.binds (ps := ["bag", "most"]) fun _ _ _ _ _ _ us hl => match us, hl with | [_, _], _ => rfl
  have mZ := PySem.W.mg_of X G adZ
  have FC := fun_mk (st := sCables) ldC cdC kdC
  have bC := FC.binds (ps := ["bag", "knots", "many", "most"]) fun _ _ _ _ _ _ us hl => match us, hl with | [_, _, _, _], _ => rfl
  have mC := PySem.W.mg_of X G adC
  have FR := fun_mk (st := sCars) ldR cdR kdR
  have bR := FR.binds (ps := ["bag", "names", "knots", "most"]) fun _ _ _ _ _ _ us hl => match us, hl with | [_, _, _, _], _ => rfl
  have mR := PySem.W.mg_of X G adR
  have FY := fun_mk (st := sYardOf) ldY cdY kdY
  have bY := FY.binds (ps := ["bag", "cars", "knots", "cables", "most"]) fun _ _ _ _ _ _ us hl => match us, hl with | [_, _, _, _, _], _ => rfl
  have mY := PySem.W.mg_of X G adY
  have FSm := fun_mk (st := sSmall) ldSm cdSm kdSm
  have bSm := FSm.binds (ps := ["bag"]) fun _ _ _ _ _ _ us hl => match us, hl with | [_], _ => rfl
  have mSm := PySem.W.mg_of X G adSm
  have FW := fun_mk (st := sWide) ldW cdW kdW
  have bW := FW.binds (ps := ["bag"]) fun _ _ _ _ _ _ us hl => match us, hl with | [_], _ => rfl
  have mW := PySem.W.mg_of X G adW
  have FWh := fun_mk (st := sWhole) ldWh cdWh kdWh
  have bWh := FWh.binds (ps := ["thing"]) fun _ _ _ _ _ _ us hl => match us, hl with | [_], _ => rfl
  have mWh := PySem.W.mg_of X G adWh
  have FO := fun_mk (st := sOdd) ldO cdO kdO
  have bO := FO.binds (ps := ["bag"]) fun _ _ _ _ _ _ us hl => match us, hl with | [_], _ => rfl
  have mO := PySem.W.mg_of X G adO
  have FBW := fun_mk (st := sBentWord) ldBW cdBW kdBW
  have bBW := FBW.binds (ps := ["bag", "word"]) fun _ _ _ _ _ _ us hl => match us, hl with | [_, _], _ => rfl
  have mBW := PySem.W.mg_of X G adBW
  have FBt := fun_mk (st := sBent) ldBt cdBt kdBt
  have bBt := FBt.binds (ps := ["bag", "thing", "deep"]) fun _ _ _ _ _ _ us hl => match us, hl with | [_, _, _], _ => rfl
  have mBt := PySem.W.mg_of X G adBt
  have FLN := fun_mk (st := sLIsName) ldLN cdLN kdLN
  have bLN := FLN.binds (ps := ["thing"]) fun _ _ _ _ _ _ us hl => match us, hl with | [_], _ => rfl
  have mLN := PySem.W.mg_of X G adLN
  have FLC := fun_mk (st := sLIsCount) ldLC cdLC kdLC
  have bLC := FLC.binds (ps := ["thing"]) fun _ _ _ _ _ _ us hl => match us, hl with | [_], _ => rfl
  have mLC := PySem.W.mg_of X G adLC
  have FLB := fun_mk (st := sLIsCable) ldLB cdLB kdLB
  have bLB := FLB.binds (ps := ["thing"]) fun _ _ _ _ _ _ us hl => match us, hl with | [_], _ => rfl
  have mLB := PySem.W.mg_of X G adLB
  have FLR := fun_mk (st := sLIsCar) ldLR cdLR kdLR
  have bLR := FLR.binds (ps := ["thing"]) fun _ _ _ _ _ _ us hl => match us, hl with | [_], _ => rfl
  have mLR := PySem.W.mg_of X G adLR
  have FLY := fun_mk (st := sLIsYard) ldLY cdLY kdLY
  have bLY := FLY.binds (ps := ["thing"]) fun _ _ _ _ _ _ us hl => match us, hl with | [_], _ => rfl
  have mLY := PySem.W.mg_of X G adLY
  have FNY := fun_mk (st := sNearYard) ldNY cdNY kdNY
  have bNY := FNY.binds (ps := ["bag", "yard"]) fun _ _ _ _ _ _ us hl => match us, hl with | [_, _], _ => rfl
  have mNY := PySem.W.mg_of X G adNY
  have FL := fun_mk (st := sLaw) ldL cdL kdL
  have gcL := strIn_ok X G kccL
  have gcS := strIn_ok X G kccS
  exact ⟨_, fun s v => .of_eq rfl, fun base _ _ =>
    have gII : FnOk l.prog w K mg base CX0 1 fII _ ["thing"] (spTells K isInt) := ok_isInteger FII T h_bool
    have gIC : FnOk l.prog w K mg base CX0 2 fIC _ ["thing"] (spTells K isCnt) := ok_isCount FIC gII FII mII bII
    have gIP : FnOk l.prog w K mg base CX0 2 fIP _ ["thing"] (spTells K isPos) := ok_isPositive FIP gII FII mII bII
    have gIN : FnOk l.prog w K mg base CX0 1 fIN _ ["thing"] (spTellS K nameD) := ok_isName FIN T gcL gcS
    have gIT : FnOk l.prog w K mg base CX0 1 fIT _ ["many", "thing"] (spTup K) := ok_isTupleOf FIT T
    have gICb : FnOk l.prog w K mg base CX0 3 fICb _ ["thing"] (spTellS K cableD) := ok_isCable FICb gIT FIT mIT bIT gIN FIN mIN bIN gIC FIC mIC bIC
    have gICr : FnOk l.prog w K mg base CX0 3 fICr _ ["thing"] (spTellS K carT) := ok_isCar FICr gIT FIT mIT bIT gIN FIN mIN bIN gIC FIC mIC bIC gIP FIP mIP bIP
    have gS : FnOk l.prog w K mg base CX0 2 fS _ ["bag", "things"] (spSome K) := ok_some FS T FT mT bT
    have gN : FnOk l.prog w K mg base CX0 3 fN _ ["bag", "taken"] (spName K) := ok_name FN T FT mT bT FS mS bS
    have gNN : FnOk l.prog w K mg base CX0 4 fNN _ ["bag", "many", "taken"] (spNames K) := ok_names FNN T gN FN mN bN
    have gZ : FnOk l.prog w K mg base CX0 3 fZ _ ["bag", "most"] spSize := ok_size FZ T FT mT bT FS mS bS
    have gC : FnOk l.prog w K mg base CX0 4 fC _ ["bag", "knots", "many", "most"] (spCables K) := ok_cables FC T FT mT bT FS mS bS gZ FZ mZ bZ
    have gR : FnOk l.prog w K mg base CX0 4 fR _ ["bag", "names", "knots", "most"] (spCars K) := ok_cars FR T FT mT bT FS mS bS gZ FZ mZ bZ
    have Gg : Gen l.prog w K mg base fT fS fN fNN fC fR _ _ (fdOf FN) _ _ _ := { T := FT, mT := mT, bT := bT, S := FS, mS := mS, bS := bS, N := FNN, mN := mNN, bN := bNN, gN := gNN, C := FC, mC := mC, bC := bC, gC := gC.mono (by decide), R := FR, mR := mR, bR := bR, gR := gR.mono (by decide) }
    have gSm : FnOk l.prog w K mg base CX0 7 fSm _ ["bag"] (spYard K 7) := ok_small FSm T Gg FY mY bY
    have gW : FnOk l.prog w K mg base CX0 7 fW _ ["bag"] (spYard K (10 ^ 12)) := ok_wide FW T Gg FY mY bY
    have gWh : FnOk l.prog w K mg base CX0 1 fWh _ ["thing"] (spTells K isInt) := ok_whole FWh T h_bool
    have gLN : FnOk l.prog w K mg base CX0 1 fLN _ ["thing"] (spTellS K nameD) := ok_lName FLN T
    have gLC : FnOk l.prog w K mg base CX0 2 fLC _ ["thing"] (spTells K isCnt) := ok_lCount FLC gWh FWh mWh bWh
    have gLB : FnOk l.prog w K mg base CX0 3 fLB _ ["thing"] (spTellS K cableD) := ok_lCable FLB T gLN FLN mLN bLN gLC FLC mLC bLC
    have gLR : FnOk l.prog w K mg base CX0 3 fLR _ ["thing"] (spTellS K carT) := ok_lCar FLR T gLN FLN mLN bLN gLC FLC mLC bLC
    have gIR : FnOk l.prog w K mg base CX0 1 fIR _ ["row"] (spRise K) := ok_isRising FIR T
    have gAB : FnOk l.prog w K mg base CX0 4 fAB _ ["thing"] (spTellS K cabsB) := ok_areCables FAB T gICb FICb mICb bICb gIR FIR mIR bIR
    have gACr : FnOk l.prog w K mg base CX0 4 fACr _ ["thing"] (spTellS K carsB) := ok_areCars FACr T gICr FICr mICr bICr gIR FIR mIR bIR
    have gYd : FnOk l.prog w K mg base CX0 5 fYd _ ["thing"] (spTellS K yardB) := ok_isYard FYd (gIT) FIT mIT bIT gAB FAB mAB bAB gACr FACr mACr bACr
    have gLY : FnOk l.prog w K mg base CX0 4 fLY _ ["thing"] (spLYard K) := ok_lYard FLY T gLB FLB mLB bLB gLR FLR mLR bLR
    have gNY : FnOk l.prog w K mg base CX0 3 fNY _ ["bag", "yard"] (spNearY K) := ok_nearYard FNY T FT mT bT FS mS bS
    have gB0 : FnOk l.prog w K mg base CX0 4 fBt _ ["bag", "thing", "deep"] (spBentM K 0) := bent_stepM (n := 0) (k := 3) FBt T h_bool mBt bBt ((ok_neverM FBt).mono (by decide)) (by decide) FT mT bT FS mS bS FO mO bO FBW mBW bBW
    have gB1 : FnOk l.prog w K mg base CX0 5 fBt _ ["bag", "thing", "deep"] (spBentM K 1) := bent_stepM (n := 1) (k := 4) FBt T h_bool mBt bBt gB0 (by decide) FT mT bT FS mS bS FO mO bO FBW mBW bBW
    have gB2 : FnOk l.prog w K mg base CX0 6 fBt _ ["bag", "thing", "deep"] (spBentM K 2) := bent_stepM (n := 2) (k := 5) FBt T h_bool mBt bBt gB1 (by decide) FT mT bT FS mS bS FO mO bO FBW mBW bBW
    have gB3 : FnOk l.prog w K mg base CX0 7 fBt _ ["bag", "thing", "deep"] (spBentM K 3) := bent_stepM (n := 3) (k := 6) FBt T h_bool mBt bBt gB2 (by decide) FT mT bT FS mS bS FO mO bO FBW mBW bBW
    have gB4 : FnOk l.prog w K mg base CX0 8 fBt _ ["bag", "thing", "deep"] (spBentM K 4) := bent_stepM (n := 4) (k := 7) FBt T h_bool mBt bBt gB3 (by decide) FT mT bT FS mS bS FO mO bO FBW mBW bBW
    have D : D02 l.prog w K mg base fB fS fSm fW fNY fO fBt fYd fLY fA _ _ _ _ _ _ _ _ _ _ := { B := FB, mB := mB, bB := bB, gB := ok_bag FB T, S := FS, mS := mS, bS := bS, gS := gS, Sm := FSm, mSm := mSm, bSm := bSm, gSm := gSm, W := FW, mW := mW, bW := bW, gW := gW, NY := FNY, mNY := mNY, bNY := bNY, gNY := gNY, O := FO, mO := mO, bO := bO, gO := ok_odd FO FS mS bS gS, Bt := FBt, mBt := mBt, bBt := bBt, gB3 := gB3, gB4 := gB4, Yd := FYd, mYd := mYd, bYd := bYd, gYd := gYd, LY := FLY, mLY := mLY, bLY := bLY, gLY := gLY, A := FA, mA := mA, bA := bA, gA := ok_alike FA T }
    ok_law FL T D⟩
end Y
open PySem PySem.W PyProof.Rows in
set_option maxRecDepth 100000 in
set_option maxHeartbeats 0 in
theorem PySem.Challenge.cw_nightstairs_k02_whole_yards_of_any_value_holds : PySem.Challenge.rw_nightstairs_k02_whole_yards_of_any_value.Holds := by
  w_on; o_law; k_head; (case hw => w_witness2)
  k_fill
  refine Ns.walk_ofG (l := PySem.Challenge.rw_nightstairs_k02_whole_yards_of_any_value) (k := 10) rfl rfl ⟨rfl, by decide, by decide⟩ (fun w h Y => PySem.W.kIn_of Y) ?F
  case F =>
    intro w mg fa h KX G hmg
    refine' Y.all_mk KX G hmg ?adII ?ldII ?cdII ?kdII ?adIC ?ldIC ?cdIC ?kdIC ?adIP ?ldIP ?cdIP ?kdIP ?adIN ?ldIN ?cdIN ?kdIN ?adIT ?ldIT ?cdIT ?kdIT ?adICb ?ldICb ?cdICb ?kdICb ?adICr ?ldICr ?cdICr ?kdICr ?adIR ?ldIR ?cdIR ?kdIR ?adYd ?ldYd ?cdYd ?kdYd ?adAB ?ldAB ?cdAB ?kdAB ?adACr ?ldACr ?cdACr ?kdACr ?adB ?ldB ?cdB ?kdB ?adT ?ldT ?cdT ?kdT ?adS ?ldS ?cdS ?kdS ?adA ?ldA ?cdA ?kdA ?adN ?ldN ?cdN ?kdN ?adNN ?ldNN ?cdNN ?kdNN ?adZ ?ldZ ?cdZ ?kdZ ?adC ?ldC ?cdC ?kdC ?adR ?ldR ?cdR ?kdR ?adY ?ldY ?cdY ?kdY ?adSm ?ldSm ?cdSm ?kdSm ?adW ?ldW ?cdW ?kdW ?adWh ?ldWh ?cdWh ?kdWh ?adO ?ldO ?cdO ?kdO ?adBW ?ldBW ?cdBW ?kdBW ?adBt ?ldBt ?cdBt ?kdBt ?adLN ?ldLN ?cdLN ?kdLN ?adLC ?ldLC ?cdLC ?kdLC ?adLB ?ldLB ?cdLB ?kdLB ?adLR ?ldLR ?cdLR ?kdLR ?adLY ?ldLY ?cdLY ?kdLY ?adNY ?ldNY ?cdNY ?kdNY ?adL ?ldL ?cdL ?kdL ?kccL ?kccS ?zabs ?zint ?zlen ?zrepr ?zisinstance ?zrange ?zsorted ?ztuple ?zlist ?zdict ?zset ?zsum ?zmax ?zmin ?zstr ?zall ?zany ?zzip ?zbool
    (case adII => k_is)
    (case ldII => k_is)
    (case cdII => k_is)
    (case kdII => k_is)
    (case adIC => k_is)
    (case ldIC => k_is)
    (case cdIC => k_is)
    (case kdIC => k_is)
    (case adIP => k_is)
    (case ldIP => k_is)
    (case cdIP => k_is)
    (case kdIP => k_is)
    (case adIN => k_is)
    (case ldIN => k_is)
    (case cdIN => k_is)
    (case kdIN => k_is)
    (case adIT => k_is)
    (case ldIT => k_is)
    (case cdIT => k_is)
    (case kdIT => k_is)
    (case adICb => k_is)
    (case ldICb => k_is)
    (case cdICb => k_is)
    (case kdICb => k_is)
    (case adICr => k_is)
    (case ldICr => k_is)
    (case cdICr => k_is)
    (case kdICr => k_is)
    (case adIR => k_is)
    (case ldIR => k_is)
    (case cdIR => k_is)
    (case kdIR => k_is)
    (case adYd => k_is)
    (case ldYd => k_is)
    (case cdYd => k_is)
    (case kdYd => k_is)
    (case adAB => k_is)
    (case ldAB => k_is)
    (case cdAB => k_is)
    (case kdAB => k_is)
    (case adACr => k_is)
    (case ldACr => k_is)
    (case cdACr => k_is)
    (case kdACr => k_is)
    (case adB => k_is)
    (case ldB => k_is)
    (case cdB => k_is)
    (case kdB => k_is)
    (case adT => k_is)
    (case ldT => k_is)
    (case cdT => k_is)
    (case kdT => k_is)
    (case adS => k_is)
    (case ldS => k_is)
    (case cdS => k_is)
    (case kdS => k_is)
    (case adA => k_is)
    (case ldA => k_is)
    (case cdA => k_is)
    (case kdA => k_is)
    (case adN => k_is)
    (case ldN => k_is)
    (case cdN => k_is)
    (case kdN => k_is)
    (case adNN => k_is)
    (case ldNN => k_is)
    (case cdNN => k_is)
    (case kdNN => k_is)
    (case adZ => k_is)
    (case ldZ => k_is)
    (case cdZ => k_is)
    (case kdZ => k_is)
    (case adC => k_is)
    (case ldC => k_is)
    (case cdC => k_is)
    (case kdC => k_is)
    (case adR => k_is)
    (case ldR => k_is)
    (case cdR => k_is)
    (case kdR => k_is)
    (case adY => k_is)
    (case ldY => k_is)
    (case cdY => k_is)
    (case kdY => k_is)
    (case adSm => k_is)
    (case ldSm => k_is)
    (case cdSm => k_is)
    (case kdSm => k_is)
    (case adW => k_is)
    (case ldW => k_is)
    (case cdW => k_is)
    (case kdW => k_is)
    (case adWh => k_is)
    (case ldWh => k_is)
    (case cdWh => k_is)
    (case kdWh => k_is)
    (case adO => k_is)
    (case ldO => k_is)
    (case cdO => k_is)
    (case kdO => k_is)
    (case adBW => k_is)
    (case ldBW => k_is)
    (case cdBW => k_is)
    (case kdBW => k_is)
    (case adBt => k_is)
    (case ldBt => k_is)
    (case cdBt => k_is)
    (case kdBt => k_is)
    (case adLN => k_is)
    (case ldLN => k_is)
    (case cdLN => k_is)
    (case kdLN => k_is)
    (case adLC => k_is)
    (case ldLC => k_is)
    (case cdLC => k_is)
    (case kdLC => k_is)
    (case adLB => k_is)
    (case ldLB => k_is)
    (case cdLB => k_is)
    (case kdLB => k_is)
    (case adLR => k_is)
    (case ldLR => k_is)
    (case cdLR => k_is)
    (case kdLR => k_is)
    (case adLY => k_is)
    (case ldLY => k_is)
    (case cdLY => k_is)
    (case kdLY => k_is)
    (case adNY => k_is)
    (case ldNY => k_is)
    (case cdNY => k_is)
    (case kdNY => k_is)
    (case adL => k_is)
    (case ldL => k_is)
    (case cdL => k_is)
    (case kdL => k_is)
    (case kccL => kernel_rfl)
    (case kccS => kernel_rfl)
    (case zabs => k_is)
    (case zint => k_is)
    (case zlen => k_is)
    (case zrepr => k_is)
    (case zisinstance => k_is)
    (case zrange => k_is)
    (case zsorted => k_is)
    (case ztuple => k_is)
    (case zlist => k_is)
    (case zdict => k_is)
    (case zset => k_is)
    (case zsum => k_is)
    (case zmax => k_is)
    (case zmin => k_is)
    (case zstr => k_is)
    (case zall => k_is)
    (case zany => k_is)
    (case zzip => k_is)
    (case zbool => k_is)

