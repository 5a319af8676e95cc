import PyProof.Rows.All
import Wide.All
import OpenK.AllK
import Wide.FinOn
import PyProof.ReprRoads
import HandS.ForMost
import HandS.DeepEq
import HandS.Ends
import HandS.Wide
import HandS.Codes
import KE.KEqNest
import HandS.IsInst
import HandS.TupAny
import HandS.Conv
import KE.SortData
import HandS.DictTup
import PyProof.DictUpdate
import KE.KItemsList
import KE.KDictSum
import HandS.Strs
import HandS.SetFor
import HandS.SortInts
import KE.GoesMore
import KE.GoesEnum
import HandS.Iter
import HandS.Walk
import KE.GoesNew
import HandS.Zip
import HandS.Sort
import PyProof.SumWalkG
import HandS.TupMul
import HandS.More
import HandS.Text
import PyProof.EqKinds
import PyProof.IsiFacts
import PyProof.FactsAll.dict_1
import HandS.TupLen
import HandS.Steps
import HandS.DictComp
import KE.KDictPairs
import KE.KDictKeyed
import HandS.SetTxt0
import HandS.Set
import HandS.SetKeys
import PyProof.StrLawsFirst
import PyProof.StrLawsChain
import KE.IntTextLaws
import HandS.ExcInit
import HandS.ExcIs
import HandS.ExcField
import HandS.ExcValue
import HandS.TryMany
import HandS.WordsExc
import KE.IntTextText
import PyProof.StrLaws
import PyProof.StrLawsTight
import PyProof.Rows.StrJoinMade
import PyProof.Rows.ReprOcc
import HandS.Style
import PySem.Challenge.RW_nightstairs_k09_first_bad_line
set_option Elab.async false
set_option linter.all false
set_option maxRecDepth 100000
set_option pp.maxSteps 150
set_option pp.deepTerms false
set_option maxHeartbeats 8000000
/-! NsA: data as a whole over the abstract heap; its repr; its ==. -/
namespace Ns
open PySem PySem.Spec PyProof.Rows L2

/-- a key as data -/
def kD : Key → PyData
  | .inl i => .int i
  | .inr x => .str x

mutual
/-- the value x is the datum d -/
inductive DatV (K : PySem.W.Frag) (H : Hp) : V → PyData → Prop
  | non : DatV K H .non .none
  | bl (b : Bool) : DatV K H (.bl b) (.bool b)
  | int (i : Int) : DatV K H (.int i) (.int i)
  | str (x : Str) : DatV K H (.str x) (.str x)
  | lst {a : Addr} {xs : List V} {ds : List PyData} : SqL K H a xs → DatA K H xs ds → DatV K H (.ref a) (.list ds)
  | tup {a : Addr} {xs : List V} {ds : List PyData} : SqT K H a xs → DatA K H xs ds → DatV K H (.ref a) (.tuple ds)
  | dic {a : Addr} {kvs : List (Key × V)} {ds : List PyData} : H a = some (.dK kvs) → DatA K H (kvs.map (·.2)) ds → DatV K H (.ref a) (.dict ((kvs.map fun p => kD p.1).zip ds))
inductive DatA (K : PySem.W.Frag) (H : Hp) : List V → List PyData → Prop
  | nil : DatA K H [] []
  | cons {x : V} {d : PyData} {xs : List V} {ds : List PyData} : DatV K H x d → DatA K H xs ds → DatA K H (x :: xs) (d :: ds)
end

theorem DatA.len {K : PySem.W.Frag} {H : Hp} : ∀ {xs : List V} {ds : List PyData}, DatA K H xs ds → xs.length = ds.length
  | _, _, .nil => rfl
  | _, _, .cons _ t => by rw [List.length_cons, List.length_cons, t.len]

mutual
/-- what stood stands: the datum too -/
theorem DatV.more {K : PySem.W.Frag} {H H' : Hp} (m : Same H H') : ∀ {x : V} {d : PyData}, DatV K H x d → DatV K H' x d
  | _, _, .non => .non
  | _, _, .bl b => .bl b
  | _, _, .int i => .int i
  | _, _, .str x => .str x
  | _, _, .lst h t => .lst (m.seq h) (t.more m)
  | _, _, .tup h t => .tup (h.elim (fun z => .inl (z.elim (fun z => .inl (m _ _ z)) fun ⟨o, z⟩ => .inr ⟨o, m _ _ z⟩)) .inr) (t.more m)
  | _, _, .dic h t => .dic (m _ _ h) (t.more m)
theorem DatA.more {K : PySem.W.Frag} {H H' : Hp} (m : Same H H') : ∀ {xs : List V} {ds : List PyData}, DatA K H xs ds → DatA K H' xs ds
  | _, _, .nil => .nil
  | _, _, .cons h t => .cons (h.more m) (t.more m)
end

theorem map_fst_zip {α β : Type} : ∀ {as : List α} {bs : List β}, as.length = bs.length → (as.zip bs).map (·.1) = as
  | [], [], _ => rfl
  | a :: as, b :: bs, h => by
    have h' : as.length = bs.length := by simpa using h
    simp [map_fst_zip h']
theorem map_snd_zip {α β : Type} : ∀ {as : List α} {bs : List β}, as.length = bs.length → (as.zip bs).map (·.2) = bs
  | [], [], _ => rfl
  | a :: as, b :: bs, h => by
    have h' : as.length = bs.length := by simpa using h
    simp [map_snd_zip h']

section
variable {X : Cx} {pins : List (Addr × Obj)} {σ : L2.St} {H : Hp} {s : Shared}

/-- the keys of a dict's entries are read -/
theorem keys_read {h : Heap} {P : Program} {w : World} : ∀ {es : List DictEntry} {vs : List (Key × Value)}, Pairs (mixKind P w) es vs → ReadsAll h (es.map (·.key)) (vs.map fun p => kD p.1) []
  | _, _, .nil => .nil
  | e :: es, kv :: vs, .cons h1 _ t => by
    have q : Reads h e.key (kD kv.1) [] := by
      rcases keyIs_shape (show keyIs kv.1 e.key = true from h1) with ⟨i, t, ek, ev⟩ | ⟨x, t, ek, ev⟩
      · rw [ek, ev]; exact .int i t
      · rw [ek, ev]; exact .str x t
    exact ReadsAll.cons (as := []) (bs := []) q (keys_read t)
theorem pairs_vals {P : Program} {w : World} : ∀ {es : List DictEntry} {vs : List (Key × Value)}, Pairs (mixKind P w) es vs → es.map (·.val) = vs.map (·.2)
  | _, _, .nil => rfl
  | e :: es, kv :: vs, .cons _ h2 t => by
    rw [List.map_cons, List.map_cons, h2, pairs_vals t]
theorem kv_fst : ∀ {ks : List (Key × V)} {vs : List (Key × Value)}, KV ks vs → vs.map (fun p => kD p.1) = ks.map fun p => kD p.1
  | _, _, .nil => rfl
  | _, _, .cons h t => by rw [List.map_cons, List.map_cons, h.1, kv_fst t]
theorem kv_vals : ∀ {ks : List (Key × V)} {vs : List (Key × Value)}, KV ks vs → Vals (ks.map (·.2)) (vs.map (·.2))
  | _, _, .nil => .nil
  | _, _, .cons h t => .cons h.2 (kv_vals t)

mutual
/-- what the heap reads of it -/
theorem reads_of (I : Inv X pins σ H s) : ∀ {x : V} {d : PyData}, DatV X.K H x d → ∀ {v : Value}, RelV x v → ∃ as, Reads s.heap v d as
  | _, _, .non, v, r => by cases (show v = Value.none from r); exact ⟨_, .none⟩
  | _, _, .bl b, v, r => by cases (show v = Value.bool b from r); exact ⟨_, .bool b⟩
  | _, _, .int i, v, r => by obtain ⟨t, rfl⟩ := (show ∃ t, v = Value.int i t from r); exact ⟨_, .int i t⟩
  | _, _, .str x, v, r => by obtain ⟨t, rfl⟩ := (show ∃ t, v = Value.str x t from r); exact ⟨_, .str x t⟩
  | _, _, .lst (a := a) h t, v, r => by
    cases (show v = Value.ref a from r)
    obtain ⟨its, rv, ⟨o, n, h1, h2, h3, h4⟩, _⟩ := I.list h
    obtain ⟨as, q⟩ := readsA_of I t rv
    exact ⟨_, .list h1 h2 (by first | exact h3 | exact h4) (by simpa using q)⟩
  | _, _, .tup (a := a) h t, v, r => by
    cases (show v = Value.ref a from r)
    obtain ⟨its, rv, ⟨o, h1, h2, n, h3⟩, _⟩ := I.tuple h
    obtain ⟨as, q⟩ := readsA_of I t rv
    exact ⟨_, .tuple h1 h2 h3 (by simpa using q)⟩
  | _, _, .dic (a := a) (kvs := kvs) (ds := ds) h t, v, r => by
    cases (show v = Value.ref a from r)
    obtain ⟨_, _, vs, rv, o, es, ep, h1, h2, h3, _, h5, _⟩ := (show ObjOk X.prog X.w H s.heap a (.dK kvs) from I.hok a _ h)
    obtain ⟨as, q⟩ := readsA_of I t (kv_vals rv)
    have hl : (kvs.map fun p => kD p.1).length = ds.length := by
      have z := t.len
      rw [List.length_map] at z ⊢
      exact z
    refine ⟨_, Reads.dict (as := []) (bs := as) h1 h2.1 h3 ?_ ?_⟩
    · rw [map_fst_zip hl, ← kv_fst rv]
      exact keys_read h5
    · rw [map_snd_zip hl, pairs_vals h5]
      exact q
theorem readsA_of (I : Inv X pins σ H s) : ∀ {xs : List V} {ds : List PyData}, DatA X.K H xs ds → ∀ {us : List Value}, Vals xs us → ∃ as, ReadsAll s.heap us ds as
  | _, _, .nil, us, r => by cases r; exact ⟨_, .nil⟩
  | _, _, .cons h t, us, r => by
    cases r with
    | cons r1 r2 =>
      obtain ⟨as, q⟩ := reads_of I h r1
      obtain ⟨bs, q2⟩ := readsA_of I t r2
      exact ⟨_, .cons q q2⟩
end
end
end Ns

/-! NsB: repr of data. -/
namespace Ns
open PySem PySem.Spec PyProof.Rows L2
section
variable {X : Cx} {pins : List (Addr × Obj)} {σ : L2.St} {H : Hp} {s : Shared}

theorem zip_kv : ∀ {as : List Key} {ds : List PyData}, as.length = ds.length → ((as.map kD).zip ds).map (·.1) = as.map kD := fun {as ds} h => map_fst_zip (by rw [List.length_map]; exact h)

theorem kv_of_zip {α : Type} {f : α → PyData} {l : List α} {ds : List PyData} (h : l.length = ds.length) : (((l.map f).zip ds).map (·.1) = l.map f) ∧ (((l.map f).zip ds).map (·.2) = ds) :=
  ⟨map_fst_zip (by rw [List.length_map]; exact h), map_snd_zip (by rw [List.length_map]; exact h)⟩

/-- keys show themselves, whatever stands -/
theorem keys_shown {P : Program} {w : World} {h : Heap} {n : Nat} : ∀ {es : List DictEntry} {vs : List (Key × Value)}, Pairs (mixKind P w) es vs → (∀ p ∈ vs, (kD p.1).showable = true ∧ (kD p.1).shown.length ≤ sizeLine) →
    ReprAllK P w [] h n (es.map (·.key)) (PyData.shownAll (vs.map fun p => kD p.1))
  | _, _, .nil, _ => by simp only [List.map_nil, PyData.shownAll]; exact .nil
  | e :: es, kv :: vs, .cons h1 _ t, hz => by
    rw [List.map_cons, List.map_cons, PyData.shownAll_cons]
    obtain ⟨z1, z2⟩ := hz kv List.mem_cons_self
    refine .cons (ReprK.of_is ?_ _ _ _) (keys_shown t fun p hp => hz p (List.mem_cons_of_mem _ hp))
    rcases keyIs_shape (show keyIs kv.1 e.key = true from h1) with ⟨i, tk, ek, ev⟩ | ⟨x, tk, ek, ev⟩
    · rw [ek] at z1 ⊢
      rw [ev]
      show ReprIs P w _ (PyData.int i).shown
      rw [PyData.shown_int]
      exact ReprIs.int tk (of_decide_eq_true (by simpa [kD, PyData.showable] using z1))
    · rw [ek] at z2 ⊢
      rw [ev]
      show ReprIs P w _ (PyData.str x).shown
      have z2' : (PyData.str x).shown.length ≤ sizeLine := z2
      rw [PyData.shown_str] at z2' ⊢
      exact ReprIs.str x tk z2'

theorem all_of : ∀ {l : List PyData}, PyData.showableAll l = true → ∀ d ∈ l, d.showable = true
  | [], _, _, hd => nomatch hd
  | x :: l, h, d, hd => by
    have h' : x.showable = true ∧ PyData.showableAll l = true := by simpa [PyData.showableAll] using h
    rcases List.mem_cons.mp hd with e | e
    · rw [e]; exact h'.1
    · exact all_of h'.2 d e
theorem shown_mem : ∀ {l : List PyData} {d : PyData}, d ∈ l → d.shown ∈ PyData.shownAll l
  | [], _, h => nomatch h
  | x :: l, d, h => by
    rw [PyData.shownAll_cons]
    rcases List.mem_cons.mp h with e | e
    · rw [e]; exact List.mem_cons_self
    · exact List.mem_cons_of_mem _ (shown_mem e)

mutual
theorem reprK_of (I : Inv X pins σ H s) : ∀ {x : V} {d : PyData}, DatV X.K H x d → ∀ {v : Value}, RelV x v → d.showable = true → d.shown.length ≤ sizeLine →
    ∃ bs, ReadAtMost s.heap d.depth bs ∧ ReprK X.prog X.w bs s.heap d.depth v d.shown
  | _, _, .non, v, r, _, _ => by
    cases (show v = Value.none from r)
    exact ⟨[], (fun _ z => nomatch z), by rw [PyData.shown_none]; exact .of_is ReprIs.none _ _ _⟩
  | _, _, .bl b, v, r, _, _ => by
    cases (show v = Value.bool b from r)
    refine ⟨[], (fun _ z => nomatch z), ?_⟩
    simp only [PyData.shown]
    exact .of_is (ReprIs.bool b) _ _ _
  | _, _, .int i, v, r, hs, _ => by
    obtain ⟨t, rfl⟩ := (show ∃ t, v = Value.int i t from r)
    refine ⟨[], (fun _ z => nomatch z), ?_⟩
    rw [PyData.shown_int]
    exact .of_is (ReprIs.int t (by simpa [PyData.showable] using hs)) _ _ _
  | _, _, .str x, v, r, _, hz => by
    obtain ⟨t, rfl⟩ := (show ∃ t, v = Value.str x t from r)
    refine ⟨[], (fun _ z => nomatch z), ?_⟩
    rw [PyData.shown_str] at hz ⊢
    exact .of_is (ReprIs.str x t hz) _ _ _
  | _, _, .lst (a := a) (ds := ds) h t, v, r, hs, hz => by
    cases (show v = Value.ref a from r)
    have hz1 : (listText (PyData.shownAll ds)).length ≤ sizeLine := by simpa only [PyData.shown] using hz
    have hs1 : PyData.showableAll ds = true := by simpa [PyData.showable] using hs
    obtain ⟨as, rd⟩ := reads_of I (.lst h t) (v := .ref a) rfl
    obtain ⟨its, rv, ⟨o, n, h1, h2, h3, h4⟩, _⟩ := I.list h
    have h5 : o.data = .seq its.toArray n := by first | exact h3 | exact h4
    obtain ⟨bs, hb, hk⟩ := reprA_of I t rv hs1 fun u hu => Nat.le_trans (listText_mem_le hu) hz1
    have dp : (PyData.list ds).depth = PyData.depthAll ds + 1 := by simp only [PyData.depth] <;> omega
    have hna : a ∉ bs := not_mem_of_deeper rd (by rw [dp]; omega) hb
    refine ⟨a :: bs, ReadAtMost.cons rd (by rw [dp]; omega) hb, ?_⟩
    rw [dp]
    simp only [PyData.shown]
    cases its with
    | nil =>
      have e0 : PyData.shownAll ds = [] := List.length_eq_zero_iff.mp (by simpa using hk.length_eq)
      rw [e0, listText_nil]
      exact ReprK.listEmpty h1 h2 h5
    | cons y l => exact ReprK.list h1 h2 h5 hna (by simpa using hk.length_eq) fun i u e => hk.item i u (by simpa using e)
  | _, _, .tup (a := a) (ds := ds) h t, v, r, hs, hz => by
    cases (show v = Value.ref a from r)
    have hz1 : (tupleText (PyData.shownAll ds)).length ≤ sizeLine := by simpa only [PyData.shown] using hz
    have hs1 : PyData.showableAll ds = true := by simpa [PyData.showable] using hs
    obtain ⟨as, rd⟩ := reads_of I (.tup h t) (v := .ref a) rfl
    obtain ⟨its, rv, ⟨o, h1, h2, n, h3⟩, _⟩ := I.tuple h
    obtain ⟨bs, hb, hk⟩ := reprA_of I t rv hs1 fun u hu => Nat.le_trans (tupleText_mem_le hu) hz1
    have dp : (PyData.tuple ds).depth = PyData.depthAll ds + 1 := by simp only [PyData.depth] <;> omega
    have hna : a ∉ bs := not_mem_of_deeper rd (by rw [dp]; omega) hb
    refine ⟨a :: bs, ReadAtMost.cons rd (by rw [dp]; omega) hb, ?_⟩
    rw [dp]
    simp only [PyData.shown]
    exact ReprK.tuple h1 h2 h3 hna (by simpa using hk)
  | _, _, .dic (a := a) (kvs := kvs) (ds := ds) h t, v, r, hs, hz => by
    cases (show v = Value.ref a from r)
    have hl : kvs.length = ds.length := by
      have z := t.len
      rw [List.length_map] at z
      exact z
    obtain ⟨e1, e2⟩ := kv_of_zip (f := fun p : Key × V => kD p.1) (l := kvs) hl
    have hz1 : (dictText (PyData.shownKv ((kvs.map fun p => kD p.1).zip ds))).length ≤ sizeLine := by simpa only [PyData.shown] using hz
    have hs1 : PyData.showableKv ((kvs.map fun p => kD p.1).zip ds) = true := by simpa [PyData.showable] using hs
    obtain ⟨s1, s2⟩ := PyData.showableKv_split _ hs1
    rw [e1] at s1
    rw [e2] at s2
    obtain ⟨as, rd⟩ := reads_of I (.dic h t) (v := .ref a) rfl
    obtain ⟨_, hsy, vs, rv, o, es, ep, h1, h2, h3, _, h5, _⟩ := (show ObjOk X.prog X.w H s.heap a (.dK kvs) from I.hok a _ h)
    have vl : ∀ u ∈ PyData.shownAll ds, u.length ≤ sizeLine := fun u hu => by
      obtain ⟨p, hp, hq⟩ := PyData.shownKv_val_le _ u (by rw [e2]; exact hu)
      exact Nat.le_trans hq (Nat.le_trans (dictText_mem_le hp) hz1)
    have kl : ∀ u ∈ PyData.shownAll (kvs.map fun p => kD p.1), u.length ≤ sizeLine := fun u hu => by
      obtain ⟨p, hp, hq⟩ := PyData.shownKv_key_le _ u (by rw [e1]; exact hu)
      exact Nat.le_trans hq (Nat.le_trans (dictText_mem_le hp) hz1)
    obtain ⟨bs, hb, hk⟩ := reprA_of I t (kv_vals rv) s2 vl
    have kk : ReprAllK X.prog X.w [] s.heap (PyData.depthKv ((kvs.map fun p => kD p.1).zip ds)) (es.toList.map (·.key)) (PyData.shownAll (kvs.map fun p => kD p.1)) := by
      rw [← kv_fst rv]
      refine keys_shown h5 fun p hp => ?_
      have hm : kD p.1 ∈ kvs.map fun p => kD p.1 := by
        rw [← kv_fst rv]
        exact List.mem_map.mpr ⟨p, hp, rfl⟩
      exact ⟨all_of s1 _ hm, kl _ (shown_mem hm)⟩
    have dv : PyData.depthAll ds ≤ PyData.depthKv ((kvs.map fun p => kD p.1).zip ds) := by
      have z := PyData.depthAll_vals_le ((kvs.map fun p => kD p.1).zip ds)
      rw [e2] at z
      exact z
    have hb2 : ReadAtMost s.heap (PyData.depthKv ((kvs.map fun p => kD p.1).zip ds)) bs := hb.mono dv
    have dp : (PyData.dict ((kvs.map fun p => kD p.1).zip ds)).depth = PyData.depthKv ((kvs.map fun p => kD p.1).zip ds) + 1 := by simp only [PyData.depth] <;> omega
    have hna : a ∉ bs := not_mem_of_deeper rd (by rw [dp]; omega) hb2
    refine ⟨a :: bs, ReadAtMost.cons rd (by rw [dp]; omega) hb2, ?_⟩
    rw [dp]
    simp only [PyData.shown, PyData.shownKv_eq]
    rw [e1, e2]
    refine ReprK.dict h1 h2.1 h3 hsy hna (ReprEntriesK.of_two es.toList _ _ (kk.more_le (fun b z => absurd z List.not_mem_nil) (Nat.le_refl _)) ?_)
    rw [pairs_vals h5]
    exact hk.more_le (fun b z => z) dv
theorem reprA_of (I : Inv X pins σ H s) : ∀ {xs : List V} {ds : List PyData}, DatA X.K H xs ds → ∀ {us : List Value}, Vals xs us → PyData.showableAll ds = true → (∀ t ∈ PyData.shownAll ds, t.length ≤ sizeLine) →
    ∃ bs, ReadAtMost s.heap (PyData.depthAll ds) bs ∧ ReprAllK X.prog X.w bs s.heap (PyData.depthAll ds) us (PyData.shownAll ds)
  | _, _, .nil, us, r, _, _ => by
    cases r
    exact ⟨[], (fun _ z => nomatch z), by simp only [PyData.shownAll]; exact .nil⟩
  | _, _, .cons (d := d) (ds := ds) h t, us, r, hs, hz => by
    cases r with
    | cons r1 r2 =>
      have hs1 : d.showable = true ∧ PyData.showableAll ds = true := by simpa [PyData.showableAll] using hs
      rw [PyData.shownAll_cons] at hz ⊢
      obtain ⟨b1, g1, k1⟩ := reprK_of I h r1 hs1.1 (hz _ List.mem_cons_self)
      obtain ⟨b2, g2, k2⟩ := reprA_of I t r2 hs1.2 fun u hu => hz u (List.mem_cons_of_mem _ hu)
      have dp : PyData.depthAll (d :: ds) = max d.depth (PyData.depthAll ds) := by simp only [PyData.depthAll]
      refine ⟨b1 ++ b2, ?_, ?_⟩
      · rw [dp]
        exact (g1.mono (Nat.le_max_left _ _)).append (g2.mono (Nat.le_max_right _ _))
      · rw [dp]
        exact .cons ((k1.more fun b z => List.mem_append_left _ z).level_le (Nat.le_max_left _ _)) (k2.more_le (fun b z => List.mem_append_right _ z) (Nat.le_max_right _ _))
end
theorem dict_entries (I : Inv X pins σ H s) {a : Addr} {kvs : List (Key × V)} {ds : List PyData} {vs : List (Key × Value)} {o : Obj} {es : Array DictEntry} {ep : Nat} (h : H a = some (.dK kvs)) (t : DatA X.K H (kvs.map (·.2)) ds)
    (hs : (PyData.dict ((kvs.map fun p => kD p.1).zip ds)).showable = true) (hz : (PyData.dict ((kvs.map fun p => kD p.1).zip ds)).shown.length ≤ sizeLine) (h1 : s.heap.get? a = some o) (h3 : o.data = .dict es ep)
    (h5 : Pairs (mixKind X.prog X.w) es.toList vs) (rv : KV kvs vs) :
    ∃ n bs, a ∉ bs ∧ ReprEntriesK X.prog X.w bs s.heap n es.toList (PyData.shownKv ((kvs.map fun p => kD p.1).zip ds)) ∧ n + 1 ≤ (PyData.dict ((kvs.map fun p => kD p.1).zip ds)).depth := by
  have hl : kvs.length = ds.length := by
    have z := t.len
    rw [List.length_map] at z
    exact z
  obtain ⟨e1, e2⟩ := kv_of_zip (f := fun p : Key × V => kD p.1) (l := kvs) hl
  have hz1 : (dictText (PyData.shownKv ((kvs.map fun p => kD p.1).zip ds))).length ≤ sizeLine := by simpa only [PyData.shown] using hz
  have hs1 : PyData.showableKv ((kvs.map fun p => kD p.1).zip ds) = true := by simpa [PyData.showable] using hs
  obtain ⟨s1, s2⟩ := PyData.showableKv_split _ hs1
  rw [e1] at s1
  rw [e2] at s2
  obtain ⟨as, rd⟩ := reads_of I (.dic h t) (v := .ref a) rfl
  obtain ⟨bs, hb, hk⟩ := reprA_of I t (kv_vals rv) s2 fun u hu => by
    obtain ⟨p, hp, hq⟩ := PyData.shownKv_val_le _ u (by rw [e2]; exact hu)
    exact Nat.le_trans hq (Nat.le_trans (dictText_mem_le hp) hz1)
  have kk : ReprAllK X.prog X.w [] s.heap (PyData.depthKv ((kvs.map fun p => kD p.1).zip ds)) (es.toList.map (·.key)) (PyData.shownAll (kvs.map fun p => kD p.1)) := by
    rw [← kv_fst rv]
    refine keys_shown h5 fun p hp => ?_
    have hm : kD p.1 ∈ kvs.map fun p => kD p.1 := by
      rw [← kv_fst rv]
      exact List.mem_map.mpr ⟨p, hp, rfl⟩
    obtain ⟨y, hy, hq⟩ := PyData.shownKv_key_le _ _ (by rw [e1]; exact shown_mem hm)
    exact ⟨all_of s1 _ hm, Nat.le_trans hq (Nat.le_trans (dictText_mem_le hy) hz1)⟩
  have dv : PyData.depthAll ds ≤ PyData.depthKv ((kvs.map fun p => kD p.1).zip ds) := by
    have z := PyData.depthAll_vals_le ((kvs.map fun p => kD p.1).zip ds)
    rw [e2] at z
    exact z
  have dp : (PyData.dict ((kvs.map fun p => kD p.1).zip ds)).depth = PyData.depthKv ((kvs.map fun p => kD p.1).zip ds) + 1 := by simp only [PyData.depth] <;> omega
  have hna : a ∉ bs := not_mem_of_deeper rd (by rw [dp]; omega) (hb.mono dv)
  refine ⟨_, bs, hna, ?_, Nat.le_of_eq dp.symm⟩
  rw [PyData.shownKv_eq, e1, e2]
  refine ReprEntriesK.of_two es.toList _ _ (kk.more_le (fun b z => absurd z List.not_mem_nil) (Nat.le_refl _)) ?_
  rw [pairs_vals h5]
  exact hk.more_le (fun b z => z) dv
end
end Ns

/-! NsC: the call of repr; == of equal data. -/
namespace Ns
open PySem PySem.Spec PyProof.Rows L2
section
variable {X : Cx} {pins : List (Addr × Obj)} {σ : L2.St} {H : Hp} {s : Shared}

theorem repr_run (I : Inv X pins σ H s) {A : Around} (hg : A.guards = some []) {x : V} {d : PyData} (D : DatV X.K H x d) {v : Value} (r : RelV x v) (hs : d.showable = true) (hz : d.shown.length ≤ sizeLine) (hu : A.units + (d.depth + 2) < cLine)
    {E Q : Value → Shared → Prop} (q : ∀ h' u tk, (∀ b o, s.heap.get? b = some o → h'.get? b = some o) → Q (.str d.shown u) { s with heap := h', toks := tk }) :
    wpAny (model X.prog X.w) A (call (.builtin "repr") [v]) Q E s := by
  cases D with
  | non =>
    cases (show v = Value.none from r)
    rw [PyData.shown_none] at q
    exact PySem.P.repr_of_none (q s.heap _ _ fun _ _ e => e)
  | bl b =>
    cases (show v = Value.bool b from r)
    rw [PyData.shown_bool] at q
    exact PySem.P.repr_of_bool (q s.heap _ _ fun _ _ e => e)
  | int i =>
    obtain ⟨t, rfl⟩ := (show ∃ t, v = Value.int i t from r)
    rw [PyData.shown_int] at q
    exact PySem.P.repr_of_int (of_decide_eq_true (by simpa [PyData.showable] using hs)) (q s.heap _ _ fun _ _ e => e)
  | str y =>
    obtain ⟨t, rfl⟩ := (show ∃ t, v = Value.str y t from r)
    rw [PyData.shown_str] at q hz
    exact PySem.P.repr_of_str (q s.heap _ _ fun _ _ e => e) hz
  | @lst a xs ds h t =>
    cases (show v = Value.ref a from r)
    have hz1 : (listText (PyData.shownAll ds)).length ≤ sizeLine := by simpa only [PyData.shown] using hz
    have hs1 : PyData.showableAll ds = true := by simpa [PyData.showable] using hs
    obtain ⟨as, rd⟩ := reads_of I (.lst h t) (v := .ref a) rfl
    obtain ⟨its, rv, ⟨o, n, h1, h2, h3, h4⟩, _⟩ := I.list h
    have h5 : o.data = .seq its.toArray n := by first | exact h3 | exact h4
    obtain ⟨bs, hb, hk⟩ := reprA_of I t rv hs1 fun u hu => Nat.le_trans (listText_mem_le hu) hz1
    have dp : (PyData.list ds).depth = PyData.depthAll ds + 1 := by simp only [PyData.depth] <;> omega
    have hna : a ∉ bs := not_mem_of_deeper rd (by rw [dp]; omega) hb
    simp only [PyData.shown] at q
    rw [dp] at hu
    refine call_repr_slot (by omega) ⟨o, h1, h2⟩ F.slot_list_repr.toG ?_
    cases its with
    | nil =>
      have e0 : PyData.shownAll ds = [] := List.length_eq_zero_iff.mp (by simpa using hk.length_eq)
      rw [e0, listText_nil] at q
      exact call_list_repr_empty ⟨o, h1, h2⟩ h1 h5 ⟨_, _, rfl, q s.heap _ _ fun _ _ e => e⟩
    | cons y l =>
      exact call_list_reprK (A := A.in1) (g := []) h1 h2 h5 hna (by simpa using hk.length_eq) (fun i u e => hk.item i u (by simpa using e)) hg (fun b _ => Clear.nil b) (by show A.units + 1 + _ < _; omega) (fun _ _ e => e)
        (fun h' u tk k => ⟨_, _, rfl, q h' u tk k⟩) hz1
  | @tup a xs ds h t =>
    cases (show v = Value.ref a from r)
    have hz1 : (tupleText (PyData.shownAll ds)).length ≤ sizeLine := by simpa only [PyData.shown] using hz
    have hs1 : PyData.showableAll ds = true := by simpa [PyData.showable] using hs
    obtain ⟨as, rd⟩ := reads_of I (.tup h t) (v := .ref a) rfl
    obtain ⟨its, rv, ⟨o, h1, h2, n, h3⟩, _⟩ := I.tuple h
    obtain ⟨bs, hb, hk⟩ := reprA_of I t rv hs1 fun u hu => Nat.le_trans (tupleText_mem_le hu) hz1
    have dp : (PyData.tuple ds).depth = PyData.depthAll ds + 1 := by simp only [PyData.depth] <;> omega
    have hna : a ∉ bs := not_mem_of_deeper rd (by rw [dp]; omega) hb
    simp only [PyData.shown] at q
    rw [dp] at hu
    refine call_repr_slot (by omega) ⟨o, h1, h2⟩ F.slot_tuple_repr ?_
    exact call_tuple_reprK (A := A.in1) (g := []) h1 h2 h3 hna (by simpa using hk) hg (fun b _ => Clear.nil b) (by show A.units + 1 + _ < _; omega) (fun _ _ e => e)
      (fun h' u tk k => ⟨_, _, rfl, q h' u tk k⟩) hz1
  | @dic a kvs ds h t =>
    cases (show v = Value.ref a from r)
    obtain ⟨_, hsy, vs, rv, o, es, ep, h1, h2, h3, _, h5, _⟩ := (show ObjOk X.prog X.w H s.heap a (.dK kvs) from I.hok a _ h)
    obtain ⟨n, bs, hna, hE, hd⟩ := dict_entries I h t hs hz h1 h3 h5 rv
    simp only [PyData.shown] at q hz
    refine call_repr_slot (by omega) ⟨o, h1, h2.1⟩ F.slot_dict_repr ?_
    exact call_dict_reprK (A := A.in1) (g := []) h1 h2.1 h3 hsy hna hE hg (fun b _ => Clear.nil b) (by show A.units + 1 + _ < _; omega) (fun _ _ e => e)
      (fun h' u tk k => ⟨_, _, rfl, q h' u tk k⟩) hz

/-- repr(x), x data -/
def rRep (K : PySem.W.Frag) : List V → Hp → VK → Prop := fun xs H Q => ∃ x d, xs = [x] ∧ DatV K H x d ∧ d.showable = true ∧ d.shown.length ≤ sizeLine ∧ d.depth ≤ 60 ∧ Q (.str d.shown) H
theorem call_reprD (hg : X.A.guards = some []) (hu : X.A.units + 64 < cLine) : CallR X (.builtin "repr") (rRep X.K) := by
  intro pins s σ H xs us Q I r h
  obtain ⟨x, d, rfl, D, hs, hz, hd, q⟩ := h
  obtain ⟨u, rfl, r1⟩ := vals1 r
  exact repr_run I hg D r1 hs hz (by omega) fun h' u tk k => ⟨.str d.shown, H, I.kept (t' := tk) k, ⟨u, rfl⟩, q⟩
end
end Ns

/-! NsG: defs that are called where no repr is under way (the guards are known to be none); xs[i] op= e of a list; the end of a law over such a def. -/
namespace Ns
open PySem PySem.Spec PyProof.Rows L2

/-- as FnOk, for calls with no guard around -/
structure GnOk (P : Program) (w : World) (K : PySem.W.Frag) (mg : Str → Option Value) (base : Heap) (k : Nat) (f : Addr) (fd : FuncData) (ps : List Str) (sp : Sp) : Prop where
  glen : ∀ as H Q E, sp as H Q E → as.length = ps.length
  grun : ∀ (A : Around) (outer : List Env) (s : Shared) (H : Hp) (args : Args) (us : List Value) (as : List V) (Q : VK) (E : XK), Room k A → A.guards = some [] → Env0 P w K mg base A outer s H →
    BindsTo s fd args (ps.zip us) → Vals as us → sp as H Q E → codeAny (model P w) A (.call (.ref f) args) (CR CX0 outer P w H s Q E) s
theorem FnOk.guarded {P : Program} {w : World} {K : PySem.W.Frag} {mg : Str → Option Value} {base : Heap} {k : Nat} {f : Addr} {fd : FuncData} {ps : List Str} {sp : Sp} (F : FnOk P w K mg base CX0 k f fd ps sp) : GnOk P w K mg base k f fd ps sp :=
  ⟨F.len, fun A outer s H args us as Q E hr _ e b v h => F.run A outer s H args us as Q E hr e b v h⟩

section
variable {X : Cx} {k : Nat} {f : Addr} {fd : FuncData} {ps : List Str} {sp : Sp} {x : Str} {p pos : Pos} {e : Expr} {es : List Expr} {t : TA}
theorem run_g {pins : List (Addr × Obj)} {σ : L2.St} {H : Hp} {s : Shared} {Q : VK} {us : List Value} {as : List V} (F : GnOk X.prog X.w X.K X.mg X.base k f fd ps sp) (hr : Room k X.A) (hgd : X.A.guards = some []) (hb : Binds X.K fd ps [])
    (I : Inv X pins σ H s) (r : Vals as us) (h : sp as H Q E0) : wpAny (model X.prog X.w) X.A (call (.ref f) us) (EP X pins σ Q) X.xe s := by
  have hl : us.length = ps.length := r.length.symm.trans (F.glen _ _ _ _ h)
  have bb := hb s us I.kIn (by rw [List.append_nil]; exact hl)
  rw [List.append_nil] at bb
  refine wpAny_call (codeAny_mono (F.grun X.A X.stack s H ⟨us, []⟩ us as Q E0 hr hgd I.env0 bb r h) fun z s' hz => ?_)
  match z, hz with
  | .error _, hz => exact (show False from hz).elim
  | .ok (.ret u), hz => exact I.after hz
  | .ok .next, hz => exact (show False from hz).elim
  | .ok .brk, hz => exact (show False from hz).elim
  | .ok .cont, hz => exact (show False from hz).elim
theorem pe_callG (F : GnOk X.prog X.w X.K X.mg X.base k f fd ps sp) (hr : Room k X.A) (hgd : X.A.guards = some []) (hg : Gl X x) (hm : X.mg x = some (.ref f)) (hk : PySem.W.keepIn X.K (.ref f) = true) (hb : Binds X.K fd ps [])
    (ha : PA X (e :: es) t) (hdb : (x == ("__debug__" : Str)) = false := by decide) (he : starEach (e :: es) X.env = (false, eval e X.env) :: starEach es X.env := by rfl) (hpl : (backTo pos (starEach es X.env)).any (·.1) = false := by rfl) :
    PE X (.Call (.Name x p) (e :: es) [] pos) (tCall sp [] E0 t) :=
  ⟨fun pins s σ H Q I h => wpAny_Call_Name_kw (ld_glob I hg hm (PySem.W.callWith_K (h₀ := X.base) I.ok.mod.kin hk (thn (ha.run pos pins s σ H _ I h) fun us s1 ⟨as, H1, I1, r, q⟩ => ⟨I1.kIn, run_g F hr hgd hb I1 r (by have q' : sp (as ++ []) H1 Q E0 := q; rw [List.append_nil] at q'; exact q')⟩) he hpl) hdb)⟩
end

/-- the def by its body: the guards are known within -/
theorem Fun.okG {P : Program} {w : World} {K : PySem.W.Frag} {mg : Str → Option Value} {base : Heap} {x qual : Str} {st : Stmt} {f : Addr} {fd : FuncData} {N ps : List Str} {k : Nat} {sp : Sp} (F : Fun K x qual st f fd) (S : FnScope N ps (defScope st))
    (len : ∀ as H Q E, sp as H Q E → as.length = ps.length)
    (body : ∀ (cdv : Value) (A : Around) (outer : List Env) (s : Shared) (H : Hp) (as : List V) (Q : VK) (E : XK), Room k (A.deeper (envOfC qual (defScope st) s.heap.objs.size f cdv)) → (A.deeper (envOfC qual (defScope st) s.heap.objs.size f cdv)).guards = some [] → sp as H Q E →
      ∃ t, PSs (cxOf CX0 P w K mg base N qual (defScope st) f cdv A outer s H E).nox (defBody st) t ∧ t { nx := fun _ H' => Q .non H', rt := Q } (start N as) H) : GnOk P w K mg base (k + 1) f fd ps sp := by
  obtain ⟨oc, od, kV, doc, pm, an, cdv, ct, osl, rfl, lk, hcd⟩ := F.ex
  refine ⟨len, fun A outer s H args us as Q E hr hgd e0 hb r hsp => ?_⟩
  have old : ∀ b o, base.get? b = some o → s.heap.get? b = some o := fun b o z => (e0.bs b o z).1
  have kin : K.In s.heap := e0.mod.kin.keeps old
  refine codeAny_call_function hr.depth (kin _ _ lk) rfl S.co S.gen rfl (PySem.W.codeRec_of kin hcd) (hb _ _ _ _ (wpAny_newFunctionEnv_cells S.kind (fun y hy => ?_) fun env he s1 x => ?_))
  · have hm := (List.of_mem_zip (show (y.1, y.2) ∈ ps.zip us from hy)).1
    exact (S.par y.1 hm).imp (fun z => z) fun z => ⟨z, PySem.W.cellsFrom_some _ _ _ (.inl z)⟩
  · cases he
    refine ⟨(e0.mod.nolimit.keeps old).keeps x.toInCall.keep, codeAny_func ?_⟩
    obtain ⟨t, ht, hq⟩ := body cdv A outer s H as Q E (hr.deeper _) hgd hsp
    have J := inv_start (CX := CX0) (E := E) S hr.hd e0 (len _ _ _ _ hsp) r x
    refine wpAny_mono (ht.nox.run [] s1 (start N as) H _ J hq) (fun fl s' hs => ?_) fun e s' hs => hs
    match fl, hs with
    | .ret u, ⟨v, _, H', J', rv, q⟩ => exact ⟨v, H', J'.os, J'.bare, J'.base, J'.hok, rv, q⟩
    | .next, ⟨_, H', J', q⟩ => exact ⟨V.non, H', J'.os, J'.bare, J'.base, J'.hok, rfl, q⟩
    | .brk, ⟨_, _, _, q⟩ => exact (show False from q).elim
    | .cont, ⟨_, _, _, q⟩ => exact (show False from q).elim
end Ns

/-! NsH: the end of a law over a guarded def; xs[i] op= e. -/
namespace Ns
open PySem PySem.Spec PyProof.Rows L2

/-- what a law's def promises: of a list of ints, True -/
def spTop (K : PySem.W.Frag) : Sp := fun as H Q _ => ∃ (a : Addr) (ns : List Int), as = [.ref a] ∧ SqL K H a (ns.map V.int) ∧ ns.length ≤ 63 ∧ ∀ H', Q (.bl true) H'

/-- the abstract heap at the entry: the script at a alone, unless it is a written object -/
theorem entry_core {P : Program} {w : World} {K : PySem.W.Frag} {mg mb : Str → Option Value} {k : Nat} {fa a : Addr} {fd : FuncData} {s : Shared} {vs : List Value} {ns : List Int} (kin : K.In s.heap) (gl : s.heap.Ns mainGlobals mg)
    (bl : s.heap.Ns builtinsNs mb) (bb : ∀ x : Str, x ≠ "__name__" → mb x = bootBuiltins x) (nl : s.heap.NoLimit) (ge : s.gens = #[]) (sc : s.heap.get? a = some { cls := .type "list", data := .seq vs.toArray }) (l63 : ns.length ≤ 63)
    (hr : Room k callerA) (F : ∀ base : Heap, K.In base → base.Ns mainGlobals mg → GnOk P w K mg base k fa fd ["script"] (spTop K)) (bd : ∀ (z : Shared) (u : Value), BindsTo z fd ⟨[u], []⟩ [("script", u)])
    (H : Hp) (only : ∀ b o, H b = some o → b = a ∧ ∃ ob xs, o = .frz ob (.lst xs)) (free : H a ≠ none → K.lookup a = none) (hok : HOk P w H s.heap) (sq : SqL K H a (ns.map V.int)) :
    codeAny (model P w) callerA (.call (.ref fa) ⟨[.ref a], []⟩) (fun r s' => r = .ok (.ret (.bool true)) ∧ OldK s.heap s'.heap ∧ s'.os = s.os ∧ AllBare s'.gens) s := by
  have noD : ∀ {b : Addr} {o : Obj} {es : Array DictEntry} {n : Nat}, s.heap.get? b = some o → o.data = .dict es n → H b = none := by
    intro b o es n e d
    cases q : H b with
    | none => rfl
    | some u =>
      obtain ⟨rfl, _⟩ := only b u q
      rw [sc] at e
      cases e
      cases d
  have ns' : ∀ {b : Addr} {m : Str → Option Value}, s.heap.Ns b m → (hidT s.heap H).Ns b m := by
    rintro b m ⟨o, es, n, e, d, r⟩
    exact ⟨o, es, n, hidT_get e (noD e d), d, r⟩
  have kin' : K.In (hidT s.heap H) := by
    intro b o e
    refine hidT_get (kin b o e) ?_
    cases q : H b with
    | none => rfl
    | some u =>
      obtain ⟨rfl, _⟩ := only b u q
      rw [free (by rw [q]; exact fun z => nomatch z)] at e
      cases e
  have md : Mod K mg (hidT s.heap H) := by
    obtain ⟨mc, n1, n2⟩ := nl
    exact { kin := kin', glob := ns' gl, blt := ⟨mb, ns' bl, bb⟩, nolimit := ⟨mc, ns' n1, n2⟩ }
  have e0 : Env0 P w K mg (hidT s.heap H) callerA [] s H :=
    { frames := rfl, mod := md, bs := fun b o e => of_hidT e, bsz := Nat.le_of_eq (hidT_size _ _), funs := trivial, frf := fun b hb => (List.not_mem_nil hb).elim, hok := hok, bare := .of_eq ge }
  have run := (F _ kin' (ns' gl)).grun callerA [] s H ⟨[.ref a], []⟩ [.ref a] [.ref a] (fun v _ => v = .bl true) E0 hr rfl e0 (bd s (.ref a)) (.cons rfl .nil) ⟨a, ns, rfl, sq, l63, fun _ => rfl⟩
  refine codeAny_mono run fun r s' h => ?_
  match r, h with
  | .error _, h => exact (show False from h).elim
  | .ok .next, h => exact (show False from h).elim
  | .ok .brk, h => exact (show False from h).elim
  | .ok .cont, h => exact (show False from h).elim
  | .ok (.ret u), ⟨v, H', o', bare, un, hok', rv, q⟩ =>
    have q' : v = .bl true := q
    rw [q'] at rv
    have eu : u = Value.bool true := rv
    rw [eu]
    refine ⟨rfl, OldK.of_keep fun b o e => ?_, o', bare⟩
    cases z : H b with
    | none => exact un.keep b o e z (fun y => List.not_mem_nil y) List.not_mem_nil
    | some u' =>
      obtain ⟨_, ob, xs, rfl⟩ := only b u' z
      have h1 : s.heap.get? b = some ob := (hok b _ z).1
      have h2 : s'.heap.get? b = some ob := (hok' b _ (un.frzs b ob _ z)).1
      rw [e] at h1
      cases h1
      exact h2

theorem walk_ofG {l : PySem.W.OpenLaw} {k : Nat} {q : Program} {loose : List Str} {XP : (Str → Option Value) → Heap → Prop} {YP : World → Heap → Prop} {d : DefRec} {K : Params → PySem.W.Frag} (hn : l.most = some 63) (hdf : d.params.defaults = []) (hr : Room k callerA)
    (hY : ∀ (w : World) (h : Heap), YP w h → (K w.params).In h)
    (F : ∀ (w : World) (mg : Str → Option Value) (fa : Addr) (h : Heap), (K w.params).In h → h.Ns mainGlobals mg → mg d.name = some (.ref fa) →
      ∃ fd : FuncData, (∀ (z : Shared) (u : Value), BindsTo z fd ⟨[u], []⟩ [("script", u)]) ∧ ∀ base : Heap, (K w.params).In base → base.Ns mainGlobals mg → GnOk l.prog w (K w.params) mg base k fa fd ["script"] (spTop (K w.params))) :
    PySem.W.WalkO q loose XP YP l.row.toRowW d [] (fun f vs => PySem.call f vs) := by
  refine Att.attach_call hn hdf ?_
  intro w s0 s mg mb fa o pm cd doc a vs ns G Y ho hd hcd hmg hobj hints hlen hg
  obtain ⟨fd, bd, hF⟩ := F w mg fa _ (hY w _ Y) G.T.g hmg
  have rv := vals_ints hints
  have hz : (ns.map V.int).length ≤ sizeLine := by
    rw [List.length_map]
    exact Nat.le_trans hlen (by decide)
  have go := entry_core (P := l.prog) (w := w) (a := a) (ns := ns) (hY w _ Y) G.T.g G.T.b G.T.builtins G.T.nolimit hg hobj hlen hr hF bd
  cases hk : (K w.params).lookup a with
  | some ok =>
    have e := hY w _ Y a ok hk
    rw [hobj] at e
    cases e
    refine go (fun _ => none) (fun b o z => nomatch z) (fun z => absurd rfl z) (fun b u z => nomatch z) (.inr ⟨_, vs.toArray, _, hk, rfl, rfl, rfl, ?_, by simpa using rv⟩)
    rw [List.size_toArray, ← rv.length]
    exact hz
  | none =>
    have at_a : (fun b => if b = a then some (HO.frz { cls := .type "list", data := .seq vs.toArray } (.lst (ns.map V.int))) else none) a = some (HO.frz { cls := .type "list", data := .seq vs.toArray } (.lst (ns.map V.int))) := if_pos rfl
    have un_a : ∀ (b : Addr) (u : HO), (if b = a then some (HO.frz { cls := .type "list", data := .seq vs.toArray } (.lst (ns.map V.int))) else none) = some u → b = a ∧ u = HO.frz { cls := .type "list", data := .seq vs.toArray } (.lst (ns.map V.int)) := by
      intro b u z
      by_cases hb : b = a
      · rw [if_pos hb] at z
        exact ⟨hb, (Option.some.inj z).symm⟩
      · rw [if_neg hb] at z
        cases z
    refine go (fun b => if b = a then some (HO.frz { cls := .type "list", data := .seq vs.toArray } (.lst (ns.map V.int))) else none) (fun b u z => ?_) (fun _ => hk) (fun b u z => ?_) (.inl (.inr ⟨_, at_a⟩))
    · obtain ⟨e1, e2⟩ := un_a b u z
      exact ⟨e1, _, _, e2⟩
    · obtain ⟨e1, e2⟩ := un_a b u z
      subst e1
      subst e2
      exact ⟨hobj, hz, vs, _, rv, hobj⟩

/-- o[i] of a list, by values -/
theorem get_list {X : Cx} : PGet X (rIxL X.K) := by
  intro pins s σ H o i ov iv Q I ro ri h
  obtain ⟨p, xs, j, v, rfl, rfl, hS, hat, q⟩ := h
  cases (show ov = Value.ref p from ro)
  obtain ⟨t, rfl⟩ := (show ∃ t, iv = Value.int j t from ri)
  obtain ⟨its, rv, pl, hz⟩ := I.list hS
  obtain ⟨n, h1, h2, h3, h4, h5⟩ := atI_get hat
  obtain ⟨u, eu, ru⟩ := rv.get h2
  have ln := rv.length
  have l63 := line63
  have done : EP X pins σ Q u s := ⟨v, H, I, ru, q⟩
  rcases Int.lt_or_le j 0 with c | c
  · refine wpAny_getItem_list_neg pl.isList (by omega) (by rw [List.size_toArray]; omega) (by omega) ?_ done
    have e : (j + (its.toArray.size : Int)).toNat = n := by
      rw [seqIndex_neg (by omega) h4] at h1
      rw [List.size_toArray, ← ln]
      exact Option.some.inj h1
    rw [e]
    simpa using eu
  · refine wpAny_getItem_list pl.isList c (by omega) ?_ done
    have e : j.toNat = n := by
      rw [seqIndex_of c h5] at h1
      exact Option.some.inj h1
    rw [e]
    simpa using eu
end Ns

/-! the tops of the text -/
namespace Y
open PySem PySem.Spec PyProof.Rows L2 Ns
def top (i : Nat) : Stmt := PySem.Challenge.pw_nightstairs_k09_first_bad_line.main.body.getD i (.Pass ⟨0, 0, 0, 0⟩)
abbrev sIsInteger : Stmt := top 7
abbrev sIsCount : Stmt := top 8
abbrev sIsPositive : Stmt := top 9
abbrev sIsName : Stmt := top 10
abbrev sIsTupleOf : Stmt := top 11
abbrev sIsCable : Stmt := top 12
abbrev sIsCar : Stmt := top 13
abbrev sWordsOf : Stmt := top 15
abbrev sCountIn : Stmt := top 16
abbrev sReadYard : Stmt := top 17
abbrev sTookLine : Stmt := top 18
abbrev sPutNew : Stmt := top 19
abbrev sBag : Stmt := top 21
abbrev sTake : Stmt := top 22
abbrev sSome : Stmt := top 23
abbrev sMixed : Stmt := top 24
abbrev sAlike : Stmt := top 25
abbrev sName : Stmt := top 26
abbrev sNames : Stmt := top 27
abbrev sSize : Stmt := top 28
abbrev sCables : Stmt := top 29
abbrev sCars : Stmt := top 30
abbrev sYardOf : Stmt := top 31
abbrev sSmall : Stmt := top 32
abbrev sWhole : Stmt := top 33
abbrev sOdd : Stmt := top 34
abbrev sBentWord : Stmt := top 35
abbrev sLIsName : Stmt := top 36
abbrev sLIsCount : Stmt := top 37
abbrev sLIsCable : Stmt := top 38
abbrev sLIsCar : Stmt := top 39
abbrev sNumber : Stmt := top 40
abbrev sRow : Stmt := top 41
abbrev sReading : Stmt := top 42
abbrev sTold : Stmt := top 43
abbrev sHurt : Stmt := top 44
abbrev sLaw : Stmt := top 45
end Y

/-! the bag over the heap -/
namespace Y
open PySem PySem.Spec PyProof.Rows L2 Ns
/-- the heap but for b -/
def wo (H : Hp) (b : Addr) : Hp := fun c => if c = b then none else H c
theorem wo_ne {H : Hp} {b c : Addr} (h : c ≠ b) : wo H b c = H c := if_neg h
theorem wo_at {H : Hp} {b : Addr} : wo H b b = none := if_pos rfl
theorem wo_of {H : Hp} {b c : Addr} {o : HO} (h : wo H b c = some o) : c ≠ b ∧ H c = some o := by
  by_cases e : c = b
  · rw [e, wo_at] at h
    cases h
  · exact ⟨e, (wo_ne e).symm.trans h⟩
theorem wo_sub (H : Hp) (b : Addr) : Same (wo H b) H := fun _ _ h => (wo_of h).2
/-- all but b stands; b keeps its row of numbers -/
def Sb (b : Addr) (H H' : Hp) : Prop := Same (wo H b) (wo H' b) ∧ ∀ (n0 n1 n2 : Int) (l : Addr), H b = some (.lst [.int n0, .int n1, .int n2, .ref l]) → ∃ m0 m1 m2 : Int, H' b = some (.lst [.int m0, .int m1, .int m2, .ref l])
theorem Sb.refl (b : Addr) (H : Hp) : Sb b H H := ⟨Same.refl _, fun n0 n1 n2 _ h => ⟨n0, n1, n2, h⟩⟩
theorem Sb.trans {b : Addr} {H H1 H2 : Hp} (h : Sb b H H1) (g : Sb b H1 H2) : Sb b H H2 := ⟨Same.trans h.1 g.1, fun n0 n1 n2 l e => by
  obtain ⟨m0, m1, m2, e1⟩ := h.2 n0 n1 n2 l e
  exact g.2 _ _ _ _ e1⟩
theorem Sb.get {b c : Addr} {H H' : Hp} {o : HO} (h : Sb b H H') (e : H c = some o) (n : c ≠ b) : H' c = some o := (wo_of (h.1 c o ((wo_ne n).trans e))).2
theorem Sb.new {b p : Addr} {H H' : Hp} {o : HO} (h : Sb b H H') (n : H' p = none) : Sb b H (upd H' p o) := ⟨fun c u e => by
  have q := h.1 c u e
  obtain ⟨q1, q2⟩ := wo_of q
  rw [wo_ne q1, upd_ne (ne_of_none q2 n)]
  exact q2, fun n0 n1 n2 l e => by
  obtain ⟨m0, m1, m2, e1⟩ := h.2 n0 n1 n2 l e
  exact ⟨m0, m1, m2, by rw [upd_ne (ne_of_none e1 n)]; exact e1⟩⟩
theorem Sb.put {b l : Addr} {H H' : Hp} {n0 n1 n2 m0 m1 m2 : Int} (h : Sb b H H') (e0 : H' b = some (.lst [.int n0, .int n1, .int n2, .ref l])) : Sb b H (upd H' b (.lst [.int m0, .int m1, .int m2, .ref l])) := ⟨fun c u e => by
  obtain ⟨q1, q2⟩ := wo_of (h.1 c u e)
  rw [wo_ne q1, upd_ne q1]
  exact q2, fun k0 k1 k2 l' e => by
  obtain ⟨j0, j1, j2, e1⟩ := h.2 _ _ _ _ e
  rw [e0] at e1
  cases e1
  exact ⟨m0, m1, m2, upd_same⟩⟩
theorem Sb.same {b : Addr} {H H' H2 : Hp} (h : Sb b H H') (m : Same H' H2) : Sb b H H2 := ⟨fun c u e => by
  obtain ⟨q1, q2⟩ := wo_of (h.1 c u e)
  rw [wo_ne q1]
  exact m _ _ q2, fun n0 n1 n2 l e => by
  obtain ⟨m0, m1, m2, e1⟩ := h.2 n0 n1 n2 l e
  exact ⟨m0, m1, m2, m _ _ e1⟩⟩
/-- the bag at b -/
def Bag (H : Hp) (b : Addr) : Prop := ∃ (n0 n1 n2 : Int) (l : Addr) (ns : List Int), H b = some (.lst [.int n0, .int n1, .int n2, .ref l]) ∧ H l = some (.lst (ns.map V.int)) ∧ l ≠ b ∧ 0 ≤ n0 ∧ 0 ≤ n1 ∧ n1 < 2147483647 ∧ 0 ≤ n2 ∧ (∀ n ∈ ns, 0 ≤ n) ∧ ns.length ≤ 63
theorem Bag.new {H : Hp} {b p : Addr} {o : HO} (h : Bag H b) (n : H p = none) : Bag (upd H p o) b := by
  obtain ⟨n0, n1, n2, l, ns, h1, h2, r⟩ := h
  exact ⟨n0, n1, n2, l, ns, by rw [upd_ne (ne_of_none h1 n)]; exact h1, by rw [upd_ne (ne_of_none h2 n)]; exact h2, r⟩
theorem Bag.keep {H H' : Hp} {b : Addr} (h : Bag H b) (m : Same H H') : Bag H' b := by
  obtain ⟨n0, n1, n2, l, ns, h1, h2, r⟩ := h
  exact ⟨n0, n1, n2, l, ns, m _ _ h1, m _ _ h2, r⟩
theorem Bag.ne {H : Hp} {b p : Addr} (h : Bag H b) (n : H p = none) : p ≠ b := fun e => by
  obtain ⟨_, _, _, _, _, h1, _⟩ := h
  rw [e, h1] at n
  cases n
/-- a place that was free at first is written: the bag stands -/
theorem Bag.wr {H H' : Hp} {b p : Addr} {o : HO} (h : Bag H b) (n : H p = none) (s : Sb b H H') (g : Bag H' b) : Bag (upd H' p o) b := by
  obtain ⟨n0, n1, n2, l, ns, h1, h2, h3, _⟩ := id h
  obtain ⟨k0, k1, k2, l', ns', g1, g2, r⟩ := g
  obtain ⟨m0, m1, m2, e⟩ := s.2 _ _ _ _ h1
  rw [g1] at e
  cases e
  exact ⟨_, _, _, _, ns', by rw [upd_ne (h.ne n).symm]; exact g1, by rw [upd_ne (ne_of_none h2 n)]; exact g2, r⟩
theorem Sb.wr {b p : Addr} {H H' : Hp} {o : HO} (s : Sb b H H') (n : H p = none) : Sb b H (upd H' p o) := ⟨fun c u e => by
  obtain ⟨q1, q2⟩ := wo_of (s.1 c u e)
  rw [wo_ne q1, upd_ne (ne_of_none (wo_of e).2 n)]
  exact q2, fun n0 n1 n2 l e => by
  obtain ⟨m0, m1, m2, e1⟩ := s.2 n0 n1 n2 l e
  exact ⟨m0, m1, m2, by rw [upd_ne (ne_of_none e n)]; exact e1⟩⟩
theorem Sb.free {b p : Addr} {H H' : Hp} (h : Sb b H H') (hp : H' p = none) (n : p ≠ b) : H p = none := by
  cases e : H p with
  | none => rfl
  | some o => rw [h.get e n] at hp; cases hp
/-- what stood but for the bag: lists, tuples -/
theorem Sb.sl {K : PySem.W.Frag} {b a : Addr} {H H' : Hp} {xs : List V} (s : Sb b H H') (h : SqL K (wo H b) a xs) : SqL K (wo H' b) a xs := Same.seq s.1 h
theorem wo_same {H H' : Hp} {b : Addr} (m : Same H H') : Same (wo H b) (wo H' b) := fun c o e => by
  obtain ⟨q1, q2⟩ := wo_of e
  rw [wo_ne q1]
  exact m _ _ q2
theorem ints_at {ns : List Int} {i : Nat} {v : V} (h : (ns.map V.int)[i]? = some v) : ∃ z, ns[i]? = some z ∧ v = .int z := by
  rw [List.getElem?_map] at h
  obtain ⟨z, e, q⟩ := Option.map_eq_some_iff.mp h
  exact ⟨z, e, q.symm⟩
theorem cut_ints (ns : List Int) (lo hi : Option Int) : ∃ ms : List Int, cutV (ns.map V.int) lo hi = ms.map V.int ∧ (∀ n ∈ ms, n ∈ ns) ∧ ms.length ≤ ns.length := by
  refine ⟨(ns.drop (HT.sIx (ns.map V.int).length 0 lo)).take (HT.sIx (ns.map V.int).length (ns.map V.int).length hi - HT.sIx (ns.map V.int).length 0 lo), ?_, fun n h => List.mem_of_mem_drop (List.mem_of_mem_take h), ?_⟩
  · unfold cutV
    rw [List.map_take, List.map_drop]
  · rw [List.length_take, List.length_drop]
    omega
theorem same_new {H H' : Hp} {p : Addr} {o : HO} (h : Same H H') (n : H' p = none) : Same H (upd H' p o) := fun c u e => by
  rw [upd_ne (ne_of_none (h c u e) n)]
  exact h c u e
theorem same_put {H H' : Hp} {p : Addr} {o : HO} (h : Same H H') (n : H p = none) : Same H (upd H' p o) := fun c u e => by
  rw [upd_ne (ne_of_none e n)]
  exact h c u e
/-- a thing put amid is among -/
theorem put_perm {α : Type} {xs ys : List α} {x : α} {i j : Nat} (h : ys.Perm (xs.take i)) (hx : xs[i]? = some x) : (ys.take j ++ [x] ++ ys.drop j).Perm (xs.take (i + 1)) := by
  have e : xs.take (i + 1) = xs.take i ++ [x] := by rw [List.take_succ, hx]; rfl
  rw [e]
  have p1 : (ys.take j ++ [x] ++ ys.drop j).Perm (x :: ys) := by
    rw [List.append_assoc, List.singleton_append]
    refine List.perm_middle.trans ?_
    rw [List.take_append_drop]
  exact p1.trans ((h.cons x).trans (List.perm_append_singleton x (xs.take i)).symm)
/-- what the top has left of the built-in names -/
structure Nat0 (mg : Str → Option Value) : Prop where
  abs : mg "abs" = none
  int : mg "int" = none
  len : mg "len" = none
  repr : mg "repr" = none
  isi : mg "isinstance" = none
  range : mg "range" = none
  sorted : mg "sorted" = none
  tuple : mg "tuple" = none
  list_ : mg "list" = none
  dict : mg "dict" = none
  set_ : mg "set" = none
  sum : mg "sum" = none
  max : mg "max" = none
  min : mg "min" = none
  str : mg "str" = none
  all : mg "all" = none
  any : mg "any" = none
  zip : mg "zip" = none
end Y

namespace Y
open PySem PySem.Spec PyProof.Rows L2 Ns
open C8 (pss_cut)
def spBag (K : PySem.W.Frag) : Sp := fun as H Q _ => ∃ (a : Addr) (ns : List Int), as = [.ref a] ∧ SqL K H a (ns.map V.int) ∧ ns.length ≤ 63 ∧ ∀ (b : Addr) (H' : Hp), Bag H' b → H b = none → Same H H' → Q (.ref b) H'
def spTake : Sp := fun as H Q _ => ∃ (b : Addr) (m : Int), as = [.ref b, .int m] ∧ Bag H b ∧ 0 < m ∧ m.natAbs < 2 ^ 200 ∧ ∀ (v : Int) (H' : Hp), 0 ≤ v → v < m → Bag H' b → Sb b H H' → Q (.int v) H'
section
variable {P : Program} {w : World} {K : PySem.W.Frag} {mg : Str → Option Value} {base : Heap}
theorem scB : FnScope ["script", "cell"] ["script"] (defScope sBag) := ⟨rfl, rfl, rfl, by decide +kernel, rfl, by decide +kernel, by decide +kernel⟩
theorem ok_bag {f : Addr} {fd : FuncData} (F : Fun K "_law_bag" "_law_bag" sBag f fd) (T : Nat0 mg) : FnOk P w K mg base CX0 1 f fd ["script"] (spBag K) := by
  refine F.ok scB (fun as H Q E h => ?_) (fun cdv A outer s H as Q E hr h => ?_)
  · obtain ⟨a, ns, rfl, _⟩ := h
    rfl
  · obtain ⟨a, ns, rfl, hS, hl, k⟩ := h
    refine ⟨_, pss_one (ps_ret (pe_lst (pa_cons pe_int (pa_cons pe_int (pa_cons pe_int (pa_cons
      (pe_lc (own := [("cell", 1)]) (g := gName 1) (tt := tYes) rfl scB.nd (pi_list (pe_slice sl_list (pv 0) po_none (po_some pe_int))) (blkOk_by (N := ["script", "cell"]) (sc := defScope sBag) (by decide +kernel)) (fun _ _ _ _ _ => pg_name (i := 1) scB.nd rfl (Or.inl rfl)) (fun _ _ _ _ _ => pts_nil)
        (fun _ _ _ _ _ => pe_callB call_abs (by rfl) T.abs (by decide +kernel) (pa_cons (pv 1) pa_nil))) pa_nil)))))), ?_⟩
    obtain ⟨ms, ec, hin, hlm⟩ := cut_ints ns none (some 63)
    refine ⟨_, rfl, _, rfl, a, _, rfl, hS, fun p hp => ?_⟩
    rw [ec]
    have lm : ms.length ≤ 63 := Nat.le_trans hlm hl
    refine ⟨p, rfl, ⟨_, .inl (.inl upd_same)⟩, fun D hD => ?_⟩
    refine lc_list (K := K) (a := p) (xs := ms.map V.int) (fun i H' => ∃ ks : List Int, H' D = some (.lst (ks.map V.int)) ∧ ks.length = i ∧ (∀ n ∈ ks, 0 ≤ n) ∧ H' p = some (.lst (ms.map V.int)) ∧ Same H H') ?_ ?_ ?_ ?_
    · have npd : p ≠ D := fun e => by rw [← e, upd_same] at hD; cases hD
      refine ⟨[], upd_same, rfl, (fun _ z => nomatch z), by rw [upd_ne npd, upd_same], fun c o e => ?_⟩
      have hD' : H D = none := by rw [upd_ne npd.symm] at hD; exact hD
      rw [upd_ne (ne_of_none e hD'), upd_ne (ne_of_none e hp)]
      exact e
    · rintro i H' hi ⟨ks, _, _, _, h, _⟩
      exact .inl (.inl h)
    · rintro i x H' hx ⟨ks, h1, h2, h3, h4, h5⟩
      obtain ⟨z, hz, rfl⟩ := ints_at hx
      have hi : i < ms.length := (List.getElem?_eq_some_iff.mp hz).1
      refine ⟨rfl, _, rfl, z, rfl, ks.map V.int, h1, by rw [List.length_map, h2]; exact small1000 (by omega), ks ++ [if z < 0 then -z else z], ?_, ?_, ?_, ?_, ?_⟩
      · rw [upd_same, List.map_append]
        rfl
      · rw [List.length_append, h2]
        rfl
      · intro n hn
        rcases List.mem_append.mp hn with q | q
        · exact h3 n q
        · rw [List.mem_singleton] at q
          subst q
          split <;> omega
      · have npd : p ≠ D := fun e => by rw [← e, upd_same] at hD; cases hD
        rw [upd_ne npd]
        exact h4
      · intro c o e
        have hD' : H D = none := by
          have npd : p ≠ D := fun e => by rw [← e, upd_same] at hD; cases hD
          rw [upd_ne npd.symm] at hD
          exact hD
        rw [upd_ne (ne_of_none e hD')]
        exact h5 c o e
    · rintro H' ⟨ks, h1, h2, h3, h4, h5⟩
      rw [List.length_map] at h2
      refine ⟨by show 4 ≤ sizeLine; decide, fun b hb => ?_⟩
      refine k b _ ⟨0, 1234567891, 0, D, ks, upd_same, by rw [upd_ne (ne_of_none h1 hb)]; exact h1, ne_of_none h1 hb, by decide, by decide, by decide, by decide, h3, by omega⟩ (h5.free hb) fun c o e => ?_
      rw [upd_ne (ne_of_none (h5 c o e) hb)]
      exact h5 c o e
end
section
variable {P : Program} {w : World} {K : PySem.W.Frag} {mg : Str → Option Value} {base : Heap}
theorem scT : FnScope ["bag", "many", "cell", "stirred", "value", "begin", "second"] ["bag", "many"] (defScope sTake) := ⟨rfl, rfl, rfl, by decide +kernel, rfl, by decide +kernel, by decide +kernel⟩
theorem at0 {α : Type} {x : α} {xs : List α} : atI (x :: xs) (0 : Int) = some x := atI_nat (j := 0) rfl
theorem at1 {α : Type} {x y : α} {xs : List α} : atI (x :: y :: xs) (1 : Int) = some y := atI_nat (j := 1) rfl
theorem at2 {α : Type} {x y z : α} {xs : List α} : atI (x :: y :: z :: xs) (2 : Int) = some z := atI_nat (j := 2) rfl
theorem at3 {α : Type} {x y z u : α} {xs : List α} : atI (x :: y :: z :: u :: xs) (3 : Int) = some u := atI_nat (j := 3) rfl
theorem fm {x m : Int} (h : 0 < m) : 0 ≤ x.fmod m ∧ x.fmod m < m := by
  rw [Int.fmod_eq_emod_of_nonneg x (by omega)]
  exact ⟨Int.emod_nonneg _ (by omega), Int.emod_lt_of_pos _ h⟩
theorem head_int {ms : List Int} (h : ∀ n ∈ ms, 0 ≤ n) : ∃ z : Int, 0 ≤ z ∧ atI (ms.map V.int ++ [V.int 0]) (0 : Int) = some (.int z) := by
  cases ms with
  | nil => exact ⟨0, by decide, at0⟩
  | cons n ms => exact ⟨n, h n List.mem_cons_self, at0⟩
theorem ok_take {f : Addr} {fd : FuncData} (F : Fun K "_law_take" "_law_take" sTake f fd) (T : Nat0 mg) : FnOk P w K mg base CX0 1 f fd ["bag", "many"] spTake := by
  refine F.ok scT (fun as H Q E h => ?_) (fun cdv A outer s H as Q E hr h => ?_)
  · obtain ⟨b, m, rfl, _⟩ := h
    rfl
  · obtain ⟨b, m, rfl, hB, hm, hmz, k⟩ := h
    refine ⟨_, pss_cut (ps_if (pt_cmpR op_eq (pe_ix ix_list (pv 0) pe_int (fun _ _ => rfl)) pe_int (nomark _))
        (pss_cons (ps_set (i := 2) scT.nd rfl (.inl rfl) (pe_ix ix_list (pe_op op_cat (pe_slice sl_list (pe_ix ix_list (pv 0) pe_int (fun _ _ => rfl)) (po_some (pe_ix ix_list (pv 0) pe_int (fun _ _ => rfl))) po_none) (pe_lst (pa_cons pe_int pa_nil))) pe_int (fun _ _ => rfl)))
        (pss_cons (ps_augS (pv 0) pe_int get_list pe_int ip_add set_list)
        (pss_cut (ps_if (pt_cmpR op_ge (pv 2) (pe_op op_pow pe_int pe_int) (nomark _)) (pss_one (ps_asg (pv 2) (pg_sub (pv 0) pe_int set_list))) pss_nil)
        (pss_cons (ps_set (i := 3) scT.nd rfl (.inl rfl) (pe_op op_add (pe_op op_add (pe_op op_mul (pe_ix ix_list (pv 0) pe_int (fun _ _ => rfl)) pe_int)
            (pe_op op_modN (pe_callTy call_int1 (by rfl) T.int (by decide +kernel) (pa_cons (pv 2) pa_nil)) pe_int)) (pe_op op_mul pe_int (pe_ix ix_list (pv 0) pe_int (fun _ _ => rfl)))))
        (pss_one (ps_asg (pe_op op_modN (pe_callTy call_int1 (by rfl) T.int (by decide +kernel) (pa_cons (pv 3) pa_nil)) pe_int) (pg_sub (pv 0) pe_int set_list))))))) pss_nil)
      (pss_cons (ps_if (pt_cmpR op_gt (pe_ix ix_list (pv 0) pe_int (fun _ _ => rfl)) pe_int (nomark _))
        (pss_cons (ps_set (i := 4) scT.nd rfl (.inl rfl) (pe_op op_modN (pe_callTy call_int1 (by rfl) T.int (by decide +kernel) (pa_cons (pe_ix ix_list (pv 0) pe_int (fun _ _ => rfl)) pa_nil)) (pv 1)))
        (pss_cons (ps_asg (pe_op op_fdivW (pe_callTy call_int1 (by rfl) T.int (by decide +kernel) (pa_cons (pe_ix ix_list (pv 0) pe_int (fun _ _ => rfl)) pa_nil)) (pv 1)) (pg_sub (pv 0) pe_int set_list))
        (pss_one (ps_ret (pv 4))))) pss_nil)
      (pss_cons (ps_set (i := 5) scT.nd rfl (.inl rfl) (pe_op op_modN (pe_callTy call_int1 (by rfl) T.int (by decide +kernel) (pa_cons (pe_op op_mul (pe_op op_add (pe_ix ix_list (pv 0) pe_int (fun _ _ => rfl)) pe_int) pe_int) pa_nil)) pe_int))
      (pss_cons (ps_set (i := 6) scT.nd rfl (.inl rfl) (pe_op op_modN (pe_callTy call_int1 (by rfl) T.int (by decide +kernel) (pa_cons (pe_op op_mul (pe_op op_modN (pe_callTy call_int1 (by rfl) T.int (by decide +kernel) (pa_cons (pe_op op_mul (pv 5) (pv 5)) pa_nil)) pe_int) pe_int) pa_nil)) pe_int))
      (pss_one (ps_ret (pe_op op_modN (pe_callTy call_int1 (by rfl) T.int (by decide +kernel) (pa_cons (pe_op op_fdivN (pv 6) pe_int) pa_nil)) (pv 1))))))), ?_⟩
    refine ⟨fun σ' H' => ∃ c s : Option V, σ' = [some (.ref b), some (.int m), c, s, none, none, none] ∧ Bag H' b ∧ Sb b H H', ?_, ?_⟩
    · obtain ⟨n0, n1, n2, l, ns, h1, h2, hlb, z0, z1, z1', z2, hn, hlen⟩ := id hB
      refine ⟨_, rfl, b, _, _, _, rfl, rfl, SqL.of h1, at0, rfl, _, rfl, ?_⟩
      refine ite2 (fun c => ?_) (fun c => ⟨none, none, rfl, hB, Sb.refl _ _⟩)
      obtain ⟨ms, ec, hin, hlm⟩ := cut_ints ns (some n2) none
      refine ⟨_, rfl, b, _, _, _, rfl, rfl, SqL.of h1, at3, _, rfl, b, _, _, _, rfl, rfl, SqL.of h1, at2, n2, rfl, l, _, rfl, SqL.of h2, fun p hp => ?_⟩
      rw [ec]
      refine ⟨by show 1 ≤ sizeLine; decide, fun q hq => ?_⟩
      have npq : p ≠ q := fun e => by rw [← e, upd_same] at hq; cases hq
      have lmz : (ms.map V.int).length + [V.int 0].length ≤ sizeLine := by
        rw [List.length_map]
        exact Nat.le_of_lt (small1000 (show ms.length + 1 ≤ 1000 by omega))
      refine ⟨p, q, _, _, rfl, rfl, by rw [upd_ne npq, upd_same], upd_same, lmz, fun r hr => ?_⟩
      obtain ⟨z, hz, hat⟩ := head_int (ms := ms) fun n h => hn n (hin n h)
      refine ⟨r, _, _, _, rfl, rfl, SqL.of upd_same, hat, ?_⟩
      have hb3 : upd (upd (upd H p (.lst (ms.map V.int))) q (.lst [V.int 0])) r (.lst (ms.map V.int ++ [V.int 0])) b = some (.lst [.int n0, .int n1, .int n2, .ref l]) := by
        have e1 : upd H p (.lst (ms.map V.int)) b = some (.lst [.int n0, .int n1, .int n2, .ref l]) := by rw [upd_ne (ne_of_none h1 hp)]; exact h1
        have e2 : upd (upd H p (.lst (ms.map V.int))) q (.lst [V.int 0]) b = some (.lst [.int n0, .int n1, .int n2, .ref l]) := by rw [upd_ne (ne_of_none e1 hq)]; exact e1
        rw [upd_ne (ne_of_none e2 hr)]
        exact e2
      have hl3 : upd (upd (upd H p (.lst (ms.map V.int))) q (.lst [V.int 0])) r (.lst (ms.map V.int ++ [V.int 0])) l = some (.lst (ns.map V.int)) := by
        have e1 : upd H p (.lst (ms.map V.int)) l = some (.lst (ns.map V.int)) := by rw [upd_ne (ne_of_none h2 hp)]; exact h2
        have e2 : upd (upd H p (.lst (ms.map V.int))) q (.lst [V.int 0]) l = some (.lst (ns.map V.int)) := by rw [upd_ne (ne_of_none e1 hq)]; exact e1
        rw [upd_ne (ne_of_none e2 hr)]
        exact e2
      have sb3 : Sb b H (upd (upd (upd H p (.lst (ms.map V.int))) q (.lst [V.int 0])) r (.lst (ms.map V.int ++ [V.int 0]))) := (((Sb.refl b H).new hp).new hq).new hr
      generalize upd (upd (upd H p (.lst (ms.map V.int))) q (.lst [V.int 0])) r (.lst (ms.map V.int ++ [V.int 0])) = H3 at hb3 hl3 sb3 ⊢
      refine ⟨_, rfl, b, _, _, _, rfl, rfl, SqL.of hb3, at2, n2, 1, rfl, rfl, b, _, _, 2, rfl, rfl, hb3, rfl, ?_⟩
      refine ⟨fun σ' H' => ∃ n0' : Int, σ' = [some (.ref b), some (.int m), some (.int z), none, none, none, none] ∧ H' b = some (.lst [.int n0', .int n1, .int (n2 + 1), .ref l]) ∧ H' l = some (.lst (ns.map V.int)) ∧ 0 ≤ n0' ∧ Sb b H H', ?_, ?_⟩
      · have hb4 : upd H3 b (.lst (([.int n0, .int n1, .int n2, .ref l] : List V).set 2 (.int (n2 + 1)))) b = some (.lst [.int n0, .int n1, .int (n2 + 1), .ref l]) := upd_same
        have hl4 : upd H3 b (.lst (([.int n0, .int n1, .int n2, .ref l] : List V).set 2 (.int (n2 + 1)))) l = some (.lst (ns.map V.int)) := by rw [upd_ne hlb]; exact hl3
        have sb4 : Sb b H (upd H3 b (.lst (([.int n0, .int n1, .int n2, .ref l] : List V).set 2 (.int (n2 + 1))))) := sb3.put hb3
        generalize upd H3 b (.lst (([.int n0, .int n1, .int n2, .ref l] : List V).set 2 (.int (n2 + 1)))) = H4 at hb4 hl4 sb4 ⊢
        refine ⟨_, rfl, 10, 18, rfl, rfl, ⟨by decide, by decide, by decide⟩, z, _, rfl, rfl, _, rfl, ?_⟩
        refine ite2 (fun _ => ?_) (fun _ => ⟨n0, rfl, hb4, hl4, z0, sb4⟩)
        exact ⟨_, rfl, _, rfl, b, _, _, 0, rfl, rfl, hb4, rfl, z, rfl, upd_same, by rw [upd_ne hlb]; exact hl4, hz, sb4.put hb4⟩
      · rintro σ' H' ⟨n0', rfl, hb5, hl5, z0', sb5⟩
        refine ⟨_, rfl, b, _, _, _, rfl, rfl, SqL.of hb5, at1, n1, _, rfl, rfl, .inl ⟨by omega, by omega⟩, _, rfl, .inl ⟨z, rfl, z, _, rfl, rfl, (show (2147483647 : Int) ≠ 0 by decide), _, _, rfl, rfl, _, rfl, b, _, _, _, rfl, rfl, SqL.of hb5, at2, 7919, _, rfl, rfl, .inl ⟨by decide, by decide⟩, _, _, rfl, rfl, ?_⟩⟩
        refine ⟨_, rfl, .inl ⟨_, rfl, _, _, rfl, rfl, (show (2147483647 : Int) ≠ 0 by decide), _, rfl, b, _, _, 1, rfl, rfl, hb5, rfl, ?_⟩⟩
        exact ⟨_, _, rfl, ⟨n0', _, n2 + 1, l, ns, upd_same, by rw [upd_ne hlb]; exact hl5, hlb, z0', (fm (by decide)).1, (fm (by decide)).2, by omega, hn, hlen⟩, sb5.put hb5⟩
    · rintro σ' H' ⟨c, s', rfl, hB', sb⟩
      obtain ⟨n0, n1, n2, l, ns, h1, h2, hlb, z0, z1, z1', z2, hn, hlen⟩ := id hB'
      refine ⟨_, rfl, b, _, _, _, rfl, rfl, SqL.of h1, at0, _, _, rfl, rfl, _, rfl, ?_⟩
      refine ite2 (fun _ => ?_) (fun _ => ?_)
      · refine ⟨_, rfl, b, _, _, _, rfl, rfl, SqL.of h1, at0, .inl ⟨n0, rfl, _, rfl, n0, m, rfl, rfl, by omega, ?_⟩⟩
        refine ⟨_, rfl, b, _, _, _, rfl, rfl, SqL.of h1, at0, .inl ⟨n0, rfl, _, rfl, n0, m, rfl, rfl, wide_div hm hmz (by decide) (by decide), _, rfl, b, _, _, 0, rfl, rfl, h1, rfl, ?_⟩⟩
        refine ⟨_, rfl, k _ _ (fm hm).1 (fm hm).2 ⟨n0 / m, n1, n2, l, ns, upd_same, by rw [upd_ne hlb]; exact h2, hlb, Int.ediv_nonneg z0 (by omega), z1, z1', z2, hn, hlen⟩ (sb.put h1)⟩
      · have b1 := fm (x := (n1 + 1) * 39373) (m := 1000000007) (by decide)
        refine ⟨_, rfl, b, _, _, _, rfl, rfl, SqL.of h1, at1, n1, 1, rfl, rfl, n1 + 1, _, rfl, rfl, .inl ⟨by omega, by omega⟩, .inl ⟨_, rfl, _, _, rfl, rfl, (show (1000000007 : Int) ≠ 0 by decide), ?_⟩⟩
        have b2 := fm (x := ((n1 + 1) * 39373).fmod 1000000007 * ((n1 + 1) * 39373).fmod 1000000007) (m := 998244353) (by decide)
        refine ⟨_, rfl, _, rfl, _, _, rfl, rfl, .inl ⟨by omega, by omega⟩, .inl ⟨_, rfl, _, _, rfl, rfl, (show (998244353 : Int) ≠ 0 by decide), _, _, rfl, rfl, .inl ⟨by omega, by omega⟩, .inl ⟨_, rfl, _, _, rfl, rfl, (show (998244353 : Int) ≠ 0 by decide), ?_⟩⟩⟩
        exact ⟨_, rfl, _, _, rfl, rfl, ⟨by decide, by decide⟩, .inl ⟨_, rfl, _, rfl, _, m, rfl, rfl, by omega, k _ _ (fm hm).1 (fm hm).2 hB' sb⟩⟩
end
end Y

namespace Y
open PySem PySem.Spec PyProof.Rows L2 Ns
open C8 (pss_cut)
def spSome (K : PySem.W.Frag) : Sp := fun as H Q _ => ∃ (b a : Addr) (xs : List V), as = [.ref b, .ref a] ∧ Bag H b ∧ SqL K (wo H b) a xs ∧ xs ≠ [] ∧ xs.length ≤ 1000000 ∧ ∀ (x : V) (H' : Hp), x ∈ xs → Bag H' b → Sb b H H' → Q x H'
section
variable {P : Program} {w : World} {K : PySem.W.Frag} {mg : Str → Option Value} {base : Heap}
theorem scS : FnScope ["bag", "things"] ["bag", "things"] (defScope sSome) := ⟨rfl, rfl, rfl, by decide +kernel, rfl, by decide +kernel, by decide +kernel⟩
theorem ok_some {f fT : Addr} {fd fdT : FuncData} (F : Fun K "_law_some" "_law_some" sSome f fd) (T : Nat0 mg) (FT : Fun K "_law_take" "_law_take" sTake fT fdT) (mT : mg "_law_take" = some (.ref fT)) (bT : Binds K fdT ["bag", "many"] []) :
    FnOk P w K mg base CX0 2 f fd ["bag", "things"] (spSome K) := by
  have GT : FnOk P w K mg base CX0 1 fT fdT ["bag", "many"] spTake := ok_take FT T
  refine F.ok scS (fun as H Q E h => ?_) (fun cdv A outer s H as Q E hr h => ?_)
  · obtain ⟨b, a, xs, rfl, _⟩ := h
    rfl
  · obtain ⟨b, a, xs, rfl, hB, hS, hne, hl, k⟩ := h
    have pos : 0 < xs.length := List.length_pos_iff.mpr hne
    refine ⟨_, pss_one (ps_ret (pe_ix ix_list (pv 1) (pe_call GT hr rfl mT FT.kp bT .nil pass0 (pa_cons (pv 0) (pa_cons (pe_callB call_len_seq (by rfl) T.len PySem.boot_len (pa_cons (pv 1) pa_nil)) pa_nil))) (fun _ _ => rfl))), ?_⟩
    refine ⟨_, rfl, _, rfl, _, rfl, a, _, rfl, .inl ((wo_sub H b).seq hS), b, _, rfl, hB, by omega, ?_, fun v H' h0 h1 hB' sb => ?_⟩
    · exact Nat.lt_of_le_of_lt (show ((xs.length : Int)).natAbs ≤ 1000000 by omega) (by decide)
    · have hi : v.toNat < xs.length := by omega
      have e : v = ((v.toNat : Nat) : Int) := by omega
      have hx : xs[v.toNat]? = some xs[v.toNat] := List.getElem?_eq_getElem hi
      obtain ⟨x, ex⟩ : ∃ x, xs[v.toNat]? = some x := ⟨_, hx⟩
      exact ⟨a, xs, v, x, rfl, rfl, (wo_sub H' b).seq (sb.sl hS), by rw [e]; exact atI_nat ex, k _ _ (List.mem_of_getElem? ex) hB' sb⟩
end
end Y

/-! NsD: how long the text of data is. -/
namespace Ns
open PySem PySem.Spec PyProof.Rows L2
/-- shown in at most m signs, nested at most k deep -/
def Fit (m k : Nat) (d : PyData) : Prop := d.showable = true ∧ d.shown.length ≤ m ∧ d.depth ≤ k
theorem Fit.mono {m m' k k' : Nat} {d : PyData} (h : Fit m k d) (hm : m ≤ m') (hk : k ≤ k') : Fit m' k' d := ⟨h.1, Nat.le_trans h.2.1 hm, Nat.le_trans h.2.2 hk⟩
theorem sum_le {m : Nat} : ∀ {l : List Nat}, (∀ n ∈ l, n ≤ m) → l.sum ≤ l.length * m
  | [], _ => Nat.zero_le _
  | n :: l, h => by
    have h1 := h n List.mem_cons_self
    have h2 := sum_le (l := l) fun k hk => h k (List.mem_cons_of_mem _ hk)
    rw [List.sum_cons, List.length_cons, Nat.succ_mul]
    omega
theorem depthAll_le {k : Nat} : ∀ {ds : List PyData}, (∀ d ∈ ds, d.depth ≤ k) → PyData.depthAll ds ≤ k
  | [], _ => by simp [PyData.depthAll]
  | d :: ds, h => by
    simp only [PyData.depthAll]
    exact Nat.max_le.mpr ⟨h d List.mem_cons_self, depthAll_le fun e he => h e (List.mem_cons_of_mem _ he)⟩
theorem mem_shown : ∀ {ds : List PyData} {t : Str}, t ∈ PyData.shownAll ds → ∃ d ∈ ds, t = d.shown
  | [], t, h => by rw [PyData.shownAll_nil] at h; exact nomatch h
  | d :: ds, t, h => by
    rw [PyData.shownAll_cons] at h
    rcases List.mem_cons.mp h with e | e
    · exact ⟨d, List.mem_cons_self, e⟩
    · obtain ⟨d', h1, h2⟩ := mem_shown e
      exact ⟨d', List.mem_cons_of_mem _ h1, h2⟩
theorem lens_le {m k : Nat} {ds : List PyData} (h : ∀ d ∈ ds, Fit m k d) : ((PyData.shownAll ds).map (·.length)).sum ≤ ds.length * m := by
  have e : ((PyData.shownAll ds).map (·.length)).length = ds.length := by rw [List.length_map, PyData.shownAll_length]
  have z := sum_le (l := (PyData.shownAll ds).map (·.length)) (m := m) fun n hn => by
    obtain ⟨t, ht, rfl⟩ := List.mem_map.mp hn
    obtain ⟨d, hd, rfl⟩ := mem_shown ht
    exact (h d hd).2.1
  rw [e] at z
  exact z
theorem fit_list {m k : Nat} {ds : List PyData} (h : ∀ d ∈ ds, Fit m k d) : Fit (ds.length * (m + 2) + 3) (k + 1) (.list ds) := by
  refine ⟨?_, ?_, ?_⟩
  · simp only [PyData.showable]
    exact showableAll_of fun d hd => (h d hd).1
  · simp only [PyData.shown]
    have z1 := listText_len_le (PyData.shownAll ds)
    have z2 := lens_le h
    rw [PyData.shownAll_length] at z1
    rw [Nat.mul_add]
    omega
  · have e : (PyData.list ds).depth = PyData.depthAll ds + 1 := by simp only [PyData.depth] <;> omega
    rw [e]
    exact Nat.succ_le_succ (depthAll_le fun d hd => (h d hd).2.2)
theorem fit_tuple {m k : Nat} {ds : List PyData} (h : ∀ d ∈ ds, Fit m k d) : Fit (ds.length * (m + 2) + 3) (k + 1) (.tuple ds) := by
  refine ⟨?_, ?_, ?_⟩
  · simp only [PyData.showable]
    exact showableAll_of fun d hd => (h d hd).1
  · simp only [PyData.shown]
    have z1 := tupleText_len_le (PyData.shownAll ds)
    have z2 := lens_le h
    rw [PyData.shownAll_length] at z1
    rw [Nat.mul_add]
    omega
  · have e : (PyData.tuple ds).depth = PyData.depthAll ds + 1 := by simp only [PyData.depth] <;> omega
    rw [e]
    exact Nat.succ_le_succ (depthAll_le fun d hd => (h d hd).2.2)
theorem kvs_le {m k : Nat} : ∀ {kvs : List (PyData × PyData)}, (∀ p ∈ kvs, Fit m k p.1 ∧ Fit m k p.2) → ((PyData.shownKv kvs).map (·.length)).sum ≤ kvs.length * (2 * m + 2) ∧ PyData.depthKv kvs ≤ k
  | [], _ => by simp [PyData.shownKv, PyData.depthKv]
  | (a, b) :: r, h => by
    obtain ⟨h1, h2⟩ := h (a, b) List.mem_cons_self
    obtain ⟨z1, z2⟩ := kvs_le (kvs := r) fun p hp => h p (List.mem_cons_of_mem _ hp)
    have e : (a.shown ++ ": " ++ b.shown).length = a.shown.length + 2 + b.shown.length := by
      rw [strLen_append, strLen_append]
      rfl
    have y1 := h1.2.1
    have y2 := h2.2.1
    refine ⟨?_, ?_⟩
    · rw [PyData.shownKv_cons, List.map_cons, List.sum_cons, List.length_cons, Nat.succ_mul, e]
      have y1' : a.shown.length ≤ m := y1
      have y2' : b.shown.length ≤ m := y2
      omega
    · have y3 : a.depth ≤ k := h1.2.2
      have y4 : b.depth ≤ k := h2.2.2
      simp only [PyData.depthKv]
      omega
theorem fit_dict {m k : Nat} {kvs : List (PyData × PyData)} (h : ∀ p ∈ kvs, Fit m k p.1 ∧ Fit m k p.2) : Fit (kvs.length * (2 * m + 4) + 3) (k + 1) (.dict kvs) := by
  obtain ⟨z1, z2⟩ := kvs_le h
  refine ⟨?_, ?_, ?_⟩
  · simp only [PyData.showable]
    exact showableKv_of fun p hp => ⟨(h p hp).1.1, (h p hp).2.1⟩
  · simp only [PyData.shown]
    have y := dictText_len_le (PyData.shownKv kvs)
    rw [PyData.shownKv_length] at y
    have e : kvs.length * (2 * m + 4) = kvs.length * (2 * m + 2) + 2 * kvs.length := by
      rw [Nat.mul_add, Nat.mul_add]
      omega
    omega
  · have e : (PyData.dict kvs).depth = PyData.depthKv kvs + 1 := by simp only [PyData.depth] <;> omega
    omega
theorem fit_int {i : Int} {n : Nat} (h0 : 0 < n) (h : i.natAbs < 10 ^ n) (hn : n ≤ 500) : Fit (n + 1) 0 (.int i) := by
  have z : (10 : Nat) ^ n < 2 ^ 1920 := Nat.lt_of_le_of_lt (Nat.pow_le_pow_right (by decide) hn) (by decide +kernel)
  refine ⟨decide_eq_true (log2_small (Nat.lt_trans h z)), ?_, by simp [PyData.depth]⟩
  rw [PyData.shown_int, PySem.ofString_length]
  exact int_text_length_le10 h0 h
/-- a datum is equal to itself -/
theorem eqv_self {K : PySem.W.Frag} {H : Hp} {x : V} {d : PyData} (D : DatV K H x d) (n : Nat) : EqV K H (n + 1) x x := by
  cases D with
  | non => exact .inl ⟨rfl, rfl⟩
  | bl b => exact .inl ⟨rfl, rfl⟩
  | int i => exact .inl ⟨rfl, rfl⟩
  | str y => exact .inl ⟨rfl, rfl⟩
  | lst _ _ => exact .inr (.inl ⟨_, rfl, rfl⟩)
  | tup _ _ => exact .inr (.inl ⟨_, rfl, rfl⟩)
  | dic _ _ => exact .inr (.inl ⟨_, rfl, rfl⟩)
theorem paired_rep {α β : Type} {F : α → β → Prop} {a : α} {b : β} (h : F a b) : ∀ n : Nat, Paired F (List.replicate n a) (List.replicate n b)
  | 0 => .nil
  | n + 1 => .cons h (paired_rep h n)
theorem datA_rep {K : PySem.W.Frag} {H : Hp} {x : V} {d : PyData} (D : DatV K H x d) : ∀ n : Nat, DatA K H (List.replicate n x) (List.replicate n d)
  | 0 => .nil
  | n + 1 => .cons D (datA_rep D n)
end Ns

/-! NsE: == of equal nested lists, tuples and dicts. -/
namespace Ns
open PySem PySem.Spec PyProof.Rows L2
/-- two tuples of equal items -/
def EqU (K : PySem.W.Frag) (H : Hp) (E : V → V → Prop) (x y : V) : Prop := ∃ a b xs ys, x = .ref a ∧ y = .ref b ∧ SqT K H a xs ∧ SqT K H b ys ∧ Paired E xs ys
/-- equal, of nesting below n, tuples too -/
def EqT (K : PySem.W.Frag) (H : Hp) : Nat → V → V → Prop
  | 0 => fun _ _ => False
  | n + 1 => fun x y => (x = y ∧ flatB x = true) ∨ (∃ a, x = .ref a ∧ y = .ref a) ∨ EqR K H (EqT K H n) x y ∨ EqU K H (EqT K H n) x y
section
variable {X : Cx} {pins : List (Addr × Obj)} {σ : L2.St} {H : Hp} {s : Shared}
theorem eqU_run (I : Inv X pins σ H s) {A : Around} {F : V → V → Prop} (hu : A.units < cLine) (ih : ∀ x y v u, F x y → RelV x v → RelV y u → SeqAt.EqP X.prog X.w A.in1 s v u true) {x y : V} {v u : Value} (h : EqU X.K H F x y) (rx : RelV x v) (ry : RelV y u)
    (E Q : Value → Shared → Prop) (q : Q (.bool true) s) : wpAny (model X.prog X.w) A (richCompare .Eq v u) Q E s := by
  obtain ⟨a, b, xs, ys, rfl, rfl, ha, hb, hp⟩ := h
  cases (show v = Value.ref a from rx)
  cases (show u = Value.ref b from ry)
  obtain ⟨us, r1, ⟨o1, h1, h2, n1, h3⟩, _⟩ := I.tuple ha
  obtain ⟨ws, r2, ⟨o2, g1, g2, n2, g3⟩, _⟩ := I.tuple hb
  have hsz : us.toArray.size = ws.toArray.size := by
    rw [List.size_toArray, List.size_toArray, ← r1.length, ← r2.length]
    exact Paired.length hp
  refine SeqAt.rcIn_tuples (e := fun _ => true) ⟨o1, h1, h2, n1, h3⟩ ⟨o2, g1, g2, n2, g3⟩ hu (fun j h1 h2 => ?_) ?_
  · have k := items_run ih hp r1 r2 j (by simpa using h1) (by simpa using h2)
    simp only [List.getElem_toArray]
    exact fun E Q q => k E Q q
  · rw [hsz, show ((List.range (min ws.toArray.size ws.toArray.size)).all fun _ => true) = true from List.all_eq_true.mpr fun _ _ => rfl]
    simpa using q
theorem eqT_run (I : Inv X pins σ H s) : ∀ (n : Nat) (A : Around), A.units + n < cLine → ∀ (x y : V) (v u : Value), EqT X.K H n x y → RelV x v → RelV y u → SeqAt.EqP X.prog X.w A s v u true
  | 0, _, _, _, _, _, _, h, _, _ => (show False from h).elim
  | n + 1, A, hu, x, y, v, u, h, rx, ry => by
    have ih := eqT_run I n A.in1 (by show A.units + 1 + n < cLine; omega)
    rcases h with ⟨rfl, f⟩ | ⟨a, rfl, rfl⟩ | h | h
    · exact (eqAt_same rx ry f).eqP
    · cases (show v = Value.ref a from rx)
      cases (show u = Value.ref a from ry)
      exact (SeqAt.EqAt.same _).eqP
    · have step := eqR_run I (A := A) (by omega) ih h rx ry
      obtain ⟨a, b, rfl, rfl⟩ : ∃ a b, x = .ref a ∧ y = .ref b := by
        rcases h with ⟨a, b, _, _, e1, e2, _⟩ | ⟨a, b, _, _, e1, e2, _⟩
        · exact ⟨a, b, e1, e2⟩
        · exact ⟨a, b, e1, e2⟩
      cases (show v = Value.ref a from rx)
      cases (show u = Value.ref b from ry)
      by_cases e : a = b
      · subst e
        exact (SeqAt.EqAt.same _).eqP
      · exact SeqAt.eqP_refs e step
    · have step := eqU_run I (A := A) (by omega) ih h rx ry
      obtain ⟨a, b, _, _, rfl, rfl, _⟩ := h
      cases (show v = Value.ref a from rx)
      cases (show u = Value.ref b from ry)
      by_cases e : a = b
      · subst e
        exact (SeqAt.EqAt.same _).eqP
      · exact SeqAt.eqP_refs e step
end
/-- flat, or a list, a tuple, a dict, the two of them equal -/
def EqS (K : PySem.W.Frag) (H : Hp) (n : Nat) (x y : V) : Prop := EqR K H (EqT K H n) x y ∨ EqU K H (EqT K H n) x y
section
variable {X : Cx}
/-- a == b, equal: flat ones, or lists, tuples, dicts -/
def rEqT (K : PySem.W.Frag) : R2 := fun x y H Q => ((x = y ∧ ((∃ i, x = .int i) ∨ (∃ z, x = .str z) ∨ x = .non ∨ ∃ b, x = .bl b)) ∨ ∃ n, n ≤ 60 ∧ EqS K H n x y) ∧ Q (.bl true) H
theorem op_eqT (hu : X.A.units + 64 < cLine) : OpR X (compareOp .Eq) (rEqT X.K) := by
  intro pins s σ H x y v u Q I rx ry h
  obtain ⟨h, q⟩ := h
  have qq : EP X pins σ Q (Value.bool true) s := ⟨.bl true, H, I, rfl, q⟩
  rcases h with ⟨rfl, ⟨i, rfl⟩ | ⟨z, rfl⟩ | rfl | ⟨b, rfl⟩⟩ | ⟨n, hn, h | h⟩
  · obtain ⟨t, rfl⟩ := (show ∃ t, v = Value.int i t from rx)
    obtain ⟨t', rfl⟩ := (show ∃ t, u = Value.int i t from ry)
    exact SeqAt.RcAt.int_int i t i t' _ _ _ _ (by rw [beq_self_eq_true]; exact qq)
  · obtain ⟨t, rfl⟩ := (show ∃ t, v = Value.str z t from rx)
    obtain ⟨t', rfl⟩ := (show ∃ t, u = Value.str z t from ry)
    exact SeqAt.RcAt.str_str z t z t' _ _ _ _ (by rw [beq_self_eq_true]; exact qq)
  · cases (show v = Value.none from rx)
    cases (show u = Value.none from ry)
    exact SeqAt.RcAt.none_none _ _ _ _ qq
  · cases (show v = Value.bool b from rx)
    cases (show u = Value.bool b from ry)
    exact SeqAt.RcAt.bool_bool b b _ _ _ _ (by rw [beq_self_eq_true]; exact qq)
  · exact eqR_run I (A := X.A) (by omega) (eqT_run I n X.A.in1 (by show X.A.units + 1 + n < cLine; omega)) h rx ry _ _ qq
  · exact eqU_run I (A := X.A) (by omega) (eqT_run I n X.A.in1 (by show X.A.units + 1 + n < cLine; omega)) h rx ry _ _ qq
end
end Ns

namespace Y
open PySem PySem.Spec PyProof.Rows L2 Ns
/-- equal data: True -/
def spAlike (K : PySem.W.Frag) : Sp := fun as H Q _ => ∃ (x y : V) (d : PyData), as = [x, y] ∧ ((x = y ∧ ((∃ i, x = .int i) ∨ (∃ z, x = .str z) ∨ x = .non ∨ ∃ b, x = .bl b)) ∨ ∃ n, n ≤ 60 ∧ EqS K H n x y) ∧ DatV K H x d ∧ DatV K H y d ∧ d.showable = true ∧ d.shown.length ≤ sizeLine ∧ d.depth ≤ 60 ∧ Q (.bl true) H
section
variable {P : Program} {w : World} {K : PySem.W.Frag} {mg : Str → Option Value} {base : Heap}
theorem scA : FnScope ["found", "due"] ["found", "due"] (defScope sAlike) := ⟨rfl, rfl, rfl, by decide +kernel, rfl, by decide +kernel, by decide +kernel⟩
theorem ok_alike {f : Addr} {fd : FuncData} (F : Fun K "_law_alike" "_law_alike" sAlike f fd) (T : Nat0 mg) : GnOk P w K mg base 1 f fd ["found", "due"] (spAlike K) := by
  refine Fun.okG F scA (fun as H Q E h => ?_) (fun cdv A outer s H as Q E hr hgd h => ?_)
  · obtain ⟨x, y, d, rfl, _⟩ := h
    rfl
  · obtain ⟨x, y, d, rfl, he, dx, dy, hs, hz, hd, k⟩ := h
    have hu : (A.deeper (envOfC "_law_alike" (defScope sAlike) s.heap.objs.size f cdv)).units + 64 < cLine := hr.units
    refine ⟨_, pss_one (ps_ret (pe_and (pe_cmpR (op_eqT hu) (pv 0) (pv 1) (nomark _)) (pe_one (pe_cmpR op_eq
      (pe_callB (call_reprD hgd hu) (by rfl) T.repr (by decide +kernel) (pa_cons (pv 0) pa_nil)) (pe_callB (call_reprD hgd hu) (by rfl) T.repr (by decide +kernel) (pa_cons (pv 1) pa_nil)) (nomark _))))), ?_⟩
    refine ⟨_, rfl, _, rfl, he, true, rfl, ?_⟩
    refine iteT ?_
    refine ⟨_, rfl, x, d, rfl, dx, hs, hz, hd, _, rfl, y, d, rfl, dy, hs, hz, hd, rfl, ?_⟩
    rw [decide_eq_true rfl]
    exact k
end
end Y

/-! NsS: sorted(xs) of data that are alike; sorted(d), d with pairs of texts as keys. -/
namespace Ns
open PySem PySem.Spec PyProof.Rows L2
open PySem.W (dataLe AllAlike Sortable EachIs)
section
variable {X : Cx}
theorem each_vals {bs : List (V × PyData)} : ∀ {out : List Value}, EachIs (fun v (b : V × PyData) => RelV b.1 v) out bs → Vals (bs.map (·.1)) out
  | _, .nil => .nil
  | _, .cons h t => .cons h (each_vals t)
theorem vals_each {bs : List (V × PyData)} : ∀ {us : List Value}, Vals (bs.map (·.1)) us → EachIs (fun v (b : V × PyData) => RelV b.1 v) us bs := by
  induction bs with
  | nil => intro us r; cases r; exact .nil
  | cons b bs ih => intro us r; cases r with
    | cons h t => exact .cons h (ih t)
theorem each_and {α β : Type} {R S : α → β → Prop} : ∀ {as : List α} {bs : List β}, EachIs R as bs → (∀ b ∈ bs, ∀ a, R a b → S a b) → EachIs S as bs
  | _, _, .nil, _ => .nil
  | _, _, .cons h t, k => .cons (k _ List.mem_cons_self _ h) (each_and t fun b hb => k b (List.mem_cons_of_mem _ hb))
/-- sorted(xs): alike data in Python's order -/
def rSortG (K : PySem.W.Frag) : List V → Hp → VK → Prop := fun vs H Q => ∃ (a : Addr) (bs : List (V × PyData)), vs = [V.ref a] ∧ SqL K H a (bs.map (·.1)) ∧ (∀ p ∈ bs, DatV K H p.1 p.2 ∧ p.2.depth ≤ 60) ∧ AllAlike (bs.map (·.2)) ∧ Sortable (bs.map (·.2)) ∧ bs.length ≤ sizeLine ∧
  ∀ p, H p = none → Q (.ref p) (upd H p (.lst ((bs.mergeSort (dataLe false (·.2))).map (·.1))))
theorem cr_sortG (hu : X.A.units + 64 < cLine) : CallR X (.builtin "sorted") (rSortG X.K) := by
  intro pins s σ H vs us Q I r h
  obtain ⟨a, bs, rfl, hs, hD, ha, hk, hz, q⟩ := h
  obtain ⟨its, rv, hl, _⟩ := I.list hs
  rw [Vals.ref1 r]
  have e := vals_each rv
  refine PySem.W.sorted_data (enc := fun b : V × PyData => b.2) hl.isList e (each_and e fun b hb v rb => reads_of I (hD b hb).1 rb) ha hk hz (fun b hb => by have := (hD b hb).2; omega) fun out hlo ho => ?_
  obtain ⟨ep, he'⟩ := PyProof.Rows.sortedAll_at s.heap its out.toArray
  have hlen : ((bs.mergeSort (dataLe false (·.2))).map (·.1)).length ≤ sizeLine := by rw [List.length_map, List.length_mergeSort]; exact hz
  exact ⟨.ref _, upd H (s.heap.objs.size + 1) (.lst ((bs.mergeSort (dataLe false (·.2))).map (·.1))), I.laid (t' := s.toks) (fun _ _ => PyProof.Rows.sortedAll_old) (Nat.le_succ _) ⟨hlen, out, ep, each_vals ho, by simpa using he'⟩, rfl, q _ (I.hok.fresh (Nat.le_succ _))⟩
/-- two rows of one length that agree at each place -/
theorem rows_same {α β : Type} {f : α → β} : ∀ {xs : List β} {ks : List α}, xs.length = ks.length → (∀ (j : Nat) (v : β) (b : α), xs[j]? = some v → ks[j]? = some b → v = f b) → xs = ks.map f
  | [], [], _, _ => rfl
  | v :: xs, b :: ks, hl, h => by
    rw [List.map_cons, h 0 v b rfl rfl, rows_same (Nat.succ.inj hl) fun j u c h1 h2 => h (j + 1) u c h1 h2]
/-- a pair of texts as data -/
def pD (k : Str × Str) : PyData := .tuple [.str k.1, .str k.2]
def pK (k : Str × Str) : List Key := [.inr k.1, .inr k.2]
/-- sorted(d), d with pairs of texts as keys: the keys' own tuples -/
def rSortDT : List V → Hp → VK → Prop := fun vs H Q => ∃ (a : Addr) (kvs : List (List Key × V)) (ks : List (Str × Str)), vs = [V.ref a] ∧ Rd H a (.dT kvs) ∧ kvs.map (·.1) = ks.map pK ∧ ks.length ≤ 1000 ∧
  ∀ (p : Addr) (qs : List Addr), H p = none → Paired (fun (q : Addr) (k : Str × Str) => H q = some (.tup [.str k.1, .str k.2])) qs (ks.mergeSort (dataLe false pD)) → Q (.ref p) (upd H p (.lst (qs.map V.ref)))
theorem isKeys_pairs {H : Hp} : ∀ {kvs : List (List Key × V)} {bs : List Addr} {ks : List (Str × Str)}, IsKeys H kvs bs → kvs.map (·.1) = ks.map pK → Paired (fun (q : Addr) (k : Str × Str) => H q = some (.tup [.str k.1, .str k.2])) bs ks
  | [], _, [], .nil, _ => .nil
  | [], _, _ :: _, _, e => by cases e
  | _ :: _, _, [], _, e => by cases e
  | kv :: kvs, _, k :: ks, .cons h t, e => by
    injection e with e1 e2
    refine .cons ?_ (isKeys_pairs t e2)
    rw [show kv.1 = pK k from e1] at h
    exact h
theorem pair_each {R : Addr → Str × Str → Prop} : ∀ {qs : List Addr} {ks : List (Str × Str)}, Paired R qs ks → EachIs (fun v k => ∃ q, v = Value.ref q ∧ R q k) (qs.map Value.ref) ks
  | _, _, .nil => .nil
  | _, _, .cons h t => .cons ⟨_, rfl, h⟩ (pair_each t)
theorem each_pair {R : Addr → Str × Str → Prop} : ∀ {out : List Value} {ks : List (Str × Str)}, EachIs (fun v k => ∃ q, v = Value.ref q ∧ R q k) out ks → ∃ qs : List Addr, out = qs.map Value.ref ∧ Paired R qs ks
  | _, _, .nil => ⟨[], rfl, .nil⟩
  | _, _, .cons ⟨q, e, h⟩ t => by
    obtain ⟨qs, e2, p⟩ := each_pair t
    exact ⟨q :: qs, by rw [e, e2]; rfl, .cons h p⟩
theorem alike_pD (ks : List (Str × Str)) : AllAlike (ks.map pD) := AllAlike.of fun _ _ => by simp [PySem.W.alike, PySem.W.alikeAll, pD]
theorem sortable_pD (ks : List (Str × Str)) : Sortable (ks.map pD) := Sortable.tuples fun _ => ⟨_, _, rfl⟩
theorem cr_sortDT (hc : X.calm = true) (hu : X.A.units + 64 < cLine) : CallR X (.builtin "sorted") rSortDT := by
  intro pins s σ H xs us Q I r h
  obtain ⟨d, kvs, kk, rfl, hd, hkk, h1000, q⟩ := h
  obtain ⟨u, rfl, rx⟩ := r.one
  cases rx
  obtain ⟨z, hs, ks, pr, o, es, ep, ho, hx, hdt, he, hn⟩ := (show ObjOk X.prog X.w H s.heap d (.dT kvs) from hd.ok I.hok)
  have l1 : es.size = ks.length := size_of_entries he
  have l2 : kvs.length = ks.length := Paired.length pr
  have l3 : kvs.length = kk.length := by
    have := congrArg List.length hkk
    rw [List.length_map, List.length_map] at this
    exact this
  have z16 : sizeLine = 16777216 := sizeLine_eq
  refine Calls.call_function_entry PyProof.Rows.kind_sorted PyProof.Rows.plain_sorted PyProof.Rows.entry_sorted (PyProof.Rows.args_sorted1 _) ?_
  unfold Builtin.«sorted»
  refine wpAny_bind (m := checkCount "sorted" 1 1 _) (wpAny_pure ?_)
  refine wpAny_bind (PySem.W.kdu_collect (A := X.A.in1) (kdl_raw hs hx hdt) (I.ok.hd hc) ho (by omega) fun h' tk acc hk it => ?_)
  have hsz : acc.toList.length = ks.length := (Array.length_toList).trans (it.1.trans l1)
  have ea : acc.toList = ks.map fun x => Value.ref x.2.1 := by
    refine rows_same hsz fun j v b hv hb => ?_
    obtain ⟨en, hen, rfl⟩ := it.2 j v ((Array.getElem?_toList).symm.trans hv)
    have q := (entry_at he j).symm.trans hen
    rw [hb] at q
    cases q
    rfl
  have eb : acc.toList = (ks.map fun x => x.2.1).map Value.ref := by rw [ea, List.map_map]; all_goals rfl
  have hP := isKeys_pairs (isKeys_of pr) hkk
  have hal : acc.toList.length = kk.length := by rw [Array.length_toList, it.1, l1, ← l2, l3]
  have I1 : Inv X pins σ H { s with heap := h', toks := tk } := I.kept hk
  refine wpAny_bind (wpAny_newList ?_ (by rw [hal]; omega))
  have hoL : (h'.push (seqObj "list" acc.toList.toArray 0)).get? h'.objs.size = some (seqObj "list" acc.toList.toArray 0) := Heap.get?_push_size _ rfl
  show wpAny _ _ _ _ _ { s with heap := h'.push (seqObj "list" acc.toList.toArray 0), toks := tk }
  have e0 : EachIs (fun v (k : Str × Str) => ∃ q, v = Value.ref q ∧ H q = some (.tup [.str k.1, .str k.2])) acc.toList kk := by
    rw [eb]
    exact pair_each hP
  refine wpAny_bind (wpAny_holding (PySem.W.list_sort_data (enc := pD) (s := { s with heap := h'.push (seqObj "list" acc.toList.toArray 0), toks := tk }) hoL e0 (each_and e0 fun k _ v rv => ?_) (alike_pD kk) (sortable_pD kk) (by omega) (fun k _ => ?_) fun out hlo hO => ?_))
  · obtain ⟨q, rfl, hq⟩ := rv
    obtain ⟨_, its, rv2, ot, hot, hct, nt, hdtt⟩ := (show ObjOk X.prog X.w H h' q (.tup [.str k.1, .str k.2]) from I1.hok q _ hq)
    obtain ⟨u1, u2, rfl, r1, r2⟩ := rv2.two
    obtain ⟨t1, rfl⟩ := r1
    obtain ⟨t2, rfl⟩ := r2
    refine ⟨[], Reads.tuple (Heap.get?_push_of_some _ hot) hct hdtt ?_, fun z => nomatch z⟩
    exact ReadsAll.cons (as := []) (bs := []) (.str _ _) (ReadsAll.cons (as := []) (bs := []) (.str _ _) .nil)
  · have : (pD k).depth = 1 := by simp [pD, PyData.depth, PyData.depthAll]
    show X.A.units + 1 + 1 + _ < _
    omega
  · obtain ⟨qs, eo, pq⟩ := each_pair hO
    obtain ⟨e', he'⟩ := PyProof.Rows.sortedHeap_at (vs := acc.toList) (out := out.toArray) hoL
    have hlen : (qs.map V.ref).length ≤ sizeLine := by
      have : out.length = qs.length := by rw [eo, List.length_map]
      rw [List.length_map]
      omega
    refine wpAny_pure ⟨_, rfl, .ref h'.objs.size, upd H h'.objs.size (.lst (qs.map V.ref)), I1.laid (t' := tk) (fun b u e => ?_) (Nat.le_refl _)
      (show ObjOk X.prog X.w _ _ _ (.lst (qs.map V.ref)) from ⟨hlen, out, e', by rw [eo]; exact vals_refs qs, by simpa using he'⟩), rfl, q _ qs (I1.hok.fresh (Nat.le_refl _)) pq⟩
    have hb : b < h'.objs.size := Heap.lt_size e
    rw [PyProof.Rows.sortedHeap_old (Nat.ne_of_lt hb) (by rw [size_push']; exact Nat.lt_succ_of_lt hb)]
    exact Heap.get?_push_of_some _ e
end
end Ns

/-! NsU: d.update(e), two dicts; the values and the items of a dict. -/
namespace Ns
open PySem PySem.Spec PyProof.Rows L2
open L2.DX (itemsO itemsO_ok takeT)
theorem mergeK_len : ∀ (more kvs : List (Key × V)), (mergeK kvs more).length ≤ kvs.length + more.length
  | [], kvs => Nat.le_refl _
  | p :: more, kvs => by
    have h1 := mergeK_len more (putK kvs p.1 p.2)
    have h2 := length_putK kvs p.1 p.2
    show (mergeK (putK kvs p.1 p.2) more).length ≤ _
    rw [List.length_cons]
    omega
section
variable {X : Cx}
def rDUpd : V → List V → Hp → VK → Prop := fun x xs H Q => ∃ (a b : Addr) (kvs more : List (Key × V)), x = .ref a ∧ xs = [.ref b] ∧ a ≠ b ∧ H a = some (.dK kvs) ∧ H b = some (.dK more) ∧ kvs.length + more.length ≤ sizeLine ∧ Q .non (upd H a (.dK (mergeK kvs more)))
theorem mt_dupd : MtR X "dict.update" rDUpd := by
  intro pins s σ H x xs v us Q I rx rxs h
  obtain ⟨a, b, kvs, more, rfl, rfl, hab, ha, hb, hz, q⟩ := h
  cases rx
  obtain ⟨u, rfl, ru⟩ := vals1 rxs
  cases ru
  obtain ⟨_, da, va, ka, oa⟩ := dk_of I.hok ha
  obtain ⟨_, db, vb, kb, ob⟩ := dk_of I.hok hb
  have lens : va.length + vb.length ≤ sizeLine := by rw [← ka.length, ← kb.length]; exact hz
  refine call_meetsIn PySem.F.slot_dict_update oa.typeIs PySem.F.entry_dict_update (PySem.F.args_dict_update_2 _ _) (meets_dict_update (mixKind X.prog X.w) a b hab db) ⟨va, vb, oa, ob, lens, fun h' m1 _ sb => ?_⟩
  have there : ∃ q, h'.get? a = some q := by
    obtain ⟨q, _, _, hq, _⟩ := m1
    exact ⟨q, hq⟩
  exact ⟨.non, _, d_write (t' := s.toks) I (by rw [ha]; trivial) sb there (dk_new (Nat.le_trans (mergeK_len more kvs) hz) da (KV.merge kb ka) m1), rfl, q⟩
/-- the view d.values() at p -/
def valsO (p d : Addr) : HO := .ext fun h => h.IsValuesView p d
theorem valsO_ok {P : Program} {w : World} {H : Hp} {h : Heap} {p d : Addr} (e : h.get? p = some { cls := .type "dict_values", data := .fields #[.ref d] }) : ObjOk P w H h p (valsO p d) :=
  ⟨⟨_, e, rfl, rfl⟩, ⟨_, e⟩, fun h1 h2 x k => by
    obtain ⟨o, ho, r⟩ := x
    exact ⟨o, k o ho, r⟩⟩
def rItemsK : V → List V → Hp → VK → Prop := fun x xs H Q => ∃ (a : Addr) (kvs : List (Key × V)), x = .ref a ∧ xs = [] ∧ H a = some (.dK kvs) ∧ ∀ p, H p = none → Q (.ref p) (upd H p (itemsO p a))
def rValsK : V → List V → Hp → VK → Prop := fun x xs H Q => ∃ (a : Addr) (kvs : List (Key × V)), x = .ref a ∧ xs = [] ∧ H a = some (.dK kvs) ∧ ∀ p, H p = none → Q (.ref p) (upd H p (valsO p a))
theorem mt_itemsK : MtR X "dict.items" rItemsK := by
  intro pins s σ H x xs v us Q I rx rxs h
  obtain ⟨a, kvs, rfl, rfl, ha, q⟩ := h
  cases rx
  cases rxs
  obtain ⟨_, da, va, ka, oa⟩ := dk_of I.hok ha
  refine call_meetsIn PySem.F.slot_dict_items oa.typeIs PySem.F.entry_dict_items (PySem.F.args_dict_items_1 _) (meets_dict_items (mixKind X.prog X.w) a da) ⟨⟨va, oa⟩, ?_⟩
  exact ⟨.ref s.heap.objs.size, upd H s.heap.objs.size (itemsO s.heap.objs.size a), I.laid (t' := s.toks) (fun b u e => Heap.get?_push_of_some _ e) (Nat.le_refl _) (itemsO_ok (Heap.get?_push_size _ rfl)), rfl, q _ (I.hok.fresh (Nat.le_refl _))⟩
theorem mt_valsK : MtR X "dict.values" rValsK := by
  intro pins s σ H x xs v us Q I rx rxs h
  obtain ⟨a, kvs, rfl, rfl, ha, q⟩ := h
  cases rx
  cases rxs
  obtain ⟨_, da, va, ka, oa⟩ := dk_of I.hok ha
  refine call_meetsIn PySem.F.slot_dict_values oa.typeIs PySem.F.entry_dict_values (PySem.F.args_dict_values_1 _) (meets_dict_values (mixKind X.prog X.w) a da) ⟨⟨va, oa⟩, ?_⟩
  exact ⟨.ref s.heap.objs.size, upd H s.heap.objs.size (valsO s.heap.objs.size a), I.laid (t' := s.toks) (fun b u e => Heap.get?_push_of_some _ e) (Nat.le_refl _) (valsO_ok (Heap.get?_push_size _ rfl)), rfl, q _ (I.hok.fresh (Nat.le_refl _))⟩
/-- sum(d.values()), whole numbers -/
def rSumVals : List V → Hp → VK → Prop := fun xs H Q => ∃ (p a : Addr) (kvs : List (Key × V)) (ns : List Int), xs = [.ref p] ∧ H p = some (valsO p a) ∧ H a = some (.dK kvs) ∧ kvs.map (·.2) = ns.map V.int ∧ Q (.int ns.sum) H
theorem preSum_eq : ∀ ns : List Int, preSum (fun i => ns.getD i 0) ns.length = ns.sum
  | [] => rfl
  | n :: ns => by
    rw [List.length_cons, PySem.W.kdu_shift]
    have ih := preSum_eq ns
    show n + preSum (fun i => ns.getD i 0) ns.length = _
    rw [ih, List.sum_cons]
theorem vals_num {ns : List Int} : ∀ {us : List Value}, Vals (ns.map V.int) us → ∀ (j : Nat) (u : Value), us[j]? = some u → ∃ t, u = .int (ns.getD j 0) t := by
  induction ns with
  | nil => intro us r j u h; cases r; cases h
  | cons n ns ih =>
    intro us r j u h
    cases r with
    | cons a b =>
      cases j with
      | zero =>
        cases h
        exact a
      | succ j => exact ih b j u h
theorem call_sumVals (hc : X.calm = true) : CallR X (.builtin "sum") rSumVals := by
  intro pins s σ H xs us Q I r h
  obtain ⟨p, a, kvs, ns, rfl, hp, ha, hn, q⟩ := h
  obtain rfl := Vals.ref1 r
  have view : s.heap.IsValuesView p a := (show ObjOk X.prog X.w H s.heap p (valsO p a) from I.hok p _ hp).1
  obtain ⟨_, da, va, ka, oa⟩ := dk_of I.hok ha
  obtain ⟨ep, hat⟩ := oa.dictAt
  have src := PySem.W.kdl_values (prog := X.prog) (w := X.w) (knd := mixKind X.prog X.w) (kvs := va) (ep := ep) (r := p) (d := a)
  have ok : s.heap.IsValuesView p a ∧ s.heap.DictAt (mixKind X.prog X.w) a va ep := ⟨view, hat⟩
  have nums := kv_vals ka
  rw [hn] at nums
  have ln : va.length = ns.length := by
    have := nums.length
    rw [List.length_map, List.length_map] at this
    exact this.symm
  refine call_sum_walkAnyS ?_
  obtain ⟨ob, St, step, W, st⟩ := src.iter X.A.in1 s (I.ok.hd hc) ok
  refine step _ _ ⟨s.heap.objs.size, _, _, _, va.length, _, _, fun i => ns.getD i 0, rfl, W.toS, st, fun b hb => ?_, fun i v hv => ?_, fun s' t' hm => ?_⟩
  · have there := src.there _ ok
    have up : s.heap.objs.size < (s.heap.push ob).objs.size := by rw [size_push']; omega
    rcases List.mem_cons.mp hb with e | e
    · rw [e]; exact up
    · rw [List.mem_singleton.mp e]
      exact Nat.lt_trans there.2 up
  · obtain ⟨k, hk⟩ := hv
    exact vals_num nums i v (by rw [List.getElem?_map, hk]; rfl)
  · have kept : ∀ b o, s.heap.get? b = some o → s'.heap.get? b = some o := fun b o e => by
      refine hm.heap b o (fun z => ?_) (Heap.get?_push_of_some _ e)
      have := Heap.lt_size e
      rw [List.mem_singleton.mp z] at this
      exact Nat.lt_irrefl _ this
    rw [Moved.eq_with hm, ln, preSum_eq]
    exact ⟨.int ns.sum, H, I.kept kept, ⟨_, rfl⟩, q⟩
/-- list(d.items()): new pairs -/
def rListItems : List V → Hp → VK → Prop := fun xs H Q => ∃ (p a : Addr) (kvs : List (Key × V)), xs = [.ref p] ∧ H p = some (itemsO p a) ∧ H a = some (.dK kvs) ∧
  ∀ (l : Addr) (ts : List Addr) (H' : Hp), H l = none → Same H H' → H' l = some (.lst (ts.map V.ref)) → Paired (fun (t : Addr) (kv : Key × V) => H' t = some (.tup [kV kv.1, kv.2]) ∧ H t = none) ts kvs → Q (.ref l) H'
theorem key_rel {P : Program} {w : World} {k : Key} {u : Value} (h : (mixKind P w).is k u = true) : RelV (kV k) u := by
  rcases keyIs_shape (show keyIs k u = true from h) with ⟨i, t, rfl, rfl⟩ | ⟨x, t, rfl, rfl⟩
  · exact ⟨t, rfl⟩
  · exact ⟨t, rfl⟩
theorem kv_at : ∀ {ks : List (Key × V)} {vs : List (Key × Value)}, KV ks vs → ∀ {j : Nat} {k : Key} {x : Value}, vs[j]? = some (k, x) → ∃ v, ks[j]? = some (k, v) ∧ RelV v x
  | _, _, .cons (a := a) h t, 0, k, x, e => by
    cases e
    obtain ⟨h1, h2⟩ := h
    have h1' : a.1 = k := h1
    exact ⟨a.2, by rw [← h1']; rfl, h2⟩
  | _, _, .cons h t, j + 1, k, x, e => kv_at t e
theorem pair_rows {R : Addr → Key × V → Prop} : ∀ {ts : List Addr} {kvs : List (Key × V)}, ts.length = kvs.length → (∀ (j : Nat) (t : Addr) (kv : Key × V), ts[j]? = some t → kvs[j]? = some kv → R t kv) → Paired R ts kvs
  | [], [], _, _ => .nil
  | t :: ts, kv :: kvs, hl, h => .cons (h 0 t kv rfl rfl) (pair_rows (Nat.succ.inj hl) fun j a b h1 h2 => h (j + 1) a b h1 h2)
theorem call_listItems (hc : X.calm = true) : CallR X (.type "list") rListItems := by
  intro pins s σ H xs us Q I r h
  obtain ⟨p, a, kvs, rfl, hp, ha, q⟩ := h
  obtain rfl := Vals.ref1 r
  have view : s.heap.IsItemsView p a := (show ObjOk X.prog X.w H s.heap p (itemsO p a) from I.hok p _ hp).1
  obtain ⟨hz, da, va, ka, oa⟩ := dk_of I.hok ha
  obtain ⟨ep, hat⟩ := oa.dictAt
  have lv : kvs.length = va.length := ka.length
  refine PySem.W.kdx_call (I.ok.hd hc) view hat (by rw [← lv]; exact hz) fun h' tk acc c ts kept hS hl hG hacc => ?_
  have nd : ts.Nodup := List.Pairwise.imp (fun h => Nat.ne_of_lt h) hG.rise
  have fr : H s.heap.objs.size = none := I.hok.fresh (Nat.le_refl _)
  have lz : (ts.map V.ref).length ≤ sizeLine := by rw [List.length_map, hl, ← lv]; exact hz
  have I1 : Inv X pins σ (upd H s.heap.objs.size (.lst (ts.map V.ref))) { s with heap := h', toks := tk } :=
    I.laid (t' := tk) kept (Nat.le_refl _) ⟨lz, acc.toList, c, by rw [hacc]; exact vals_refs ts, by rw [Array.toArray_toList]; exact hS⟩
  have made : ∀ (j : Nat) (t : Addr), ts[j]? = some t → ∃ (k : Key) (v : V), kvs[j]? = some (k, v) ∧ ∀ H2, ObjOk X.prog X.w H2 h' t (.tup [kV k, v]) := fun j t ht => by
    obtain ⟨key, k, x, e1, e2, e3⟩ := hG.pairs j t ht
    obtain ⟨v, e4, rv⟩ := kv_at ka e1
    exact ⟨k, v, e4, fun H2 => ⟨(by rw [sizeLine_eq]; show 2 ≤ 16777216; omega), [key, x], .cons (key_rel e2) (.cons rv .nil), ⟨_, e3, rfl, 0, rfl⟩⟩⟩
  obtain ⟨H2, I3, g, qt⟩ := takeT (P := fun t vs => ∃ (j : Nat) (k : Key) (v : V), ts[j]? = some t ∧ kvs[j]? = some (k, v) ∧ vs = [kV k, v]) I ts _ I1 nd fun t ht => by
    obtain ⟨j, hj⟩ := List.mem_iff_getElem?.mp ht
    obtain ⟨k, v, e1, e2⟩ := made j t hj
    have above := hG.above t ht
    exact ⟨Nat.le_of_lt above, by rw [upd_ne (Nat.ne_of_gt above)]; exact I.hok.fresh (Nat.le_of_lt above), [kV k, v], ⟨j, k, v, hj, e1, rfl⟩, e2⟩
  refine ⟨.ref s.heap.objs.size, H2, I3, rfl, q _ ts H2 fr (fun b o e => g b o (by rw [upd_ne (ne_of_none e fr)]; exact e)) (g _ _ upd_same) (pair_rows (by rw [hl, lv]) fun j t kv h1 h2 => ?_)⟩
  obtain ⟨vs, ⟨i, k, v, e1, e2, rfl⟩, e3⟩ := qt t (List.mem_of_getElem? h1)
  have ij : i = j := (List.getElem?_inj (List.getElem?_eq_some_iff.mp e1).1 nd).mp (e1.trans h1.symm)
  rw [ij, h2] at e2
  cases e2
  exact ⟨e3, I.hok.fresh (Nat.le_of_lt (hG.above t (List.mem_of_getElem? h1)))⟩
end
end Ns

/-! NsI: set(xs) of whole numbers, xs a list. -/
namespace Ns
open PySem PySem.Spec PyProof.Rows L2
/-- a set as it is made -/
abbrev setN (w : World) : Obj := { cls := .type "set", dict := none, data := .set #[] 0 (.fresh 0 0 (!w.params.followText "set-order")) }
section
variable {P : Program} {w : World} {A : Around} {E : Value → Shared → Prop} {s : Shared}
set_option maxHeartbeats 3200000 in
theorem set_ofI {l : Addr} {items : Array Value} (ns : List Int) {Q : Value → Shared → Prop} (hh : A.handled = none) (hl : s.heap.IsList l items) (rel : IntsAre items.toList ns) (room : ns.length + 1 < scanBound)
    (q : ∀ (h' : Heap) (tk c : Nat), (∀ b o, s.heap.get? b = some o → h'.get? b = some o) → SetR w h' s.heap.objs.size (fun j => decide (j ∈ ns)) c → c ≤ ns.length → Q (.ref s.heap.objs.size) { s with heap := h', toks := tk }) :
    wpAny (model P w) A (call (.type "set") [.ref l]) Q E s := by
  have sz : items.size = ns.length := by
    have e := IntsAre.length rel
    rw [Array.length_toList] at e
    exact e
  obtain ⟨c, tl, hmro⟩ := F.called_set.mro
  have f1 := F.called_set.made
  have f2 := F.called_set.sub
  have f3 := F.called_set.notType
  have f4 := F.called_set.canCreate
  have f5 := F.typeCall_set_1 (.ref l)
  refine wpAny_call (codeAny_of_tree ?_)
  show wpAny _ _ (callAny (.type "set") _) _ _ _
  refine wpAny_pure ⟨Code.quiet_builtin _ (by decide +kernel), codeAny_builtin F.entry_type_call ?_⟩
  rw [Around.under_plain (weight_type_call_type "set" [.ref l] []) rfl]
  repeat (any_goals (first | assumption | wp_step))
  refine codeAny_mono (code_set_led1 (.ref l) (E := E) (Q₁ := fun obj s₁ => obj = .ref s.heap.objs.size ∧ s₁ = { s with heap := s.heap.push (setN w) }) ⟨rfl, rfl⟩) fun r s₁ hr => ?_
  rcases r with e | fl
  · exact hr
  cases fl with
  | ret obj =>
    obtain ⟨rfl, rfl⟩ := hr
    have at0 : (s.heap.push (setN w)).get? s.heap.objs.size = some (setN w) := Heap.get?_push_size _ rfl
    have ty0 : Shared.TypeIs { s with heap := s.heap.push (setN w) } (.ref s.heap.objs.size) "set" := ⟨_, at0, rfl⟩
    have f6 := F.called_set.init.lookup
    have f7 := F.called_set.init.bind (.ref s.heap.objs.size)
    repeat (any_goals (first | assumption | wp_step))
    refine codeAny_mono (codeAny_call_builtin (R := wants (fun r s₂ => r = .none ∧ ∃ h' tk c, s₂ = { s with heap := h', toks := tk } ∧ (∀ c o, s.heap.get? c = some o → h'.get? c = some o) ∧ SetR w h' s.heap.objs.size (fun j => decide (j ∈ ns)) c ∧ c ≤ ns.length) E)
      F.called_set.init.plain F.entry_set_init (check_set_init_1 ty0 ?_)) fun r₂ s₂ hr₂ => ?_
    · obtain ⟨⟨ocls, odict, odata, oslots⟩, hol, hcl, nl, hdl⟩ := hl
      simp only at hcl hdl
      subst hcl; subst hdl
      have lS : l < s.heap.objs.size := Heap.lt_size hol
      have hol' : (s.heap.push (setN w)).get? l = some { cls := .type "list", dict := odict, data := .seq items nl, slots := oslots } := Heap.get?_push_of_some _ hol
      have g1 := F.sub_list_set
      have g2 := F.sub_list_frozenset
      have g3 : (Value.type "list" == Value.type "dict") = false := by decide
      have isl : (s.heap.push (setN w)).IsList l items := ⟨_, hol', rfl, nl, rfl⟩
      unfold Builtin.«set.__init__» noKeywords Builtin.Frozenset.updateFrom
      generalize keep : pyIter = PI
      wp_walk
      subst keep
      refine wpAny_pyIter_list isl (wpAny_bind (wpAny_runValue ?_))
      have up : (s.heap.push (setN w)).objs.size = s.heap.objs.size + 1 := size_push' _ _
      have nI : l ≠ (s.heap.push (setN w)).objs.size := by rw [up]; exact Nat.ne_of_lt (Nat.lt_succ_of_lt lS)
      have nS : s.heap.objs.size ∉ [(s.heap.push (setN w)).objs.size, l] := fun z => by
        rw [up] at z
        rcases List.mem_cons.mp z with e | e
        · exact Nat.ne_of_lt (Nat.lt_succ_self _) e
        · exact Nat.ne_of_gt lS (List.mem_singleton.mp e)
      have hval : ∀ (i : Nat) (v : Value), items[i]? = some v → ∃ k t, ns[i]? = some k ∧ v = .int k t := fun i v hv => by
        have hi : i < ns.length := by rw [← sz]; exact (Array.getElem?_eq_some_iff.mp hv).1
        obtain ⟨t, e⟩ := IntsAre.int_at rel i v (by rw [Array.getElem?_toList]; exact hv)
        refine ⟨ns[i], t, List.getElem?_eq_getElem hi, ?_⟩
        rw [e, List.getD_eq_getElem?_getD, List.getElem?_eq_getElem hi]
        all_goals rfl
      refine set_update_ints ((Walks.list (by simp [hh]) _ l nI items).toS) s.heap.objs.size nS ns sz room hval items.size 0 _ (Nat.sub_zero _) (Nat.zero_le _) ⟨⟨_, Heap.get?_push_size _ rfl, rfl, rfl⟩, isl.push _⟩
        ⟨0, Nat.le_refl 0, setR_new_at (Heap.get?_push_of_some _ at0)⟩ fun s' c' hm hc hS => ?_
      obtain ⟨h', g', d', tk', os'⟩ := s'
      have e1 : g' = s.gens := hm.gens
      have e2 : d' = s.drawn := hm.drawn
      have e3 : os' = s.os := hm.os
      subst e1
      subst e2
      subst e3
      refine wpAny_pure (wpAny_pure ⟨rfl, h', tk', c', rfl, fun b o e => ?_, hS, by rw [← sz]; exact hc⟩)
      have cl : b < s.heap.objs.size := Heap.lt_size e
      refine hm.heap b o (fun z => ?_) (Heap.get?_push_of_some _ (Heap.get?_push_of_some _ e))
      rcases List.mem_cons.mp z with e | e
      · exact Nat.ne_of_lt cl e
      · rw [List.mem_singleton, up] at e
        exact Nat.ne_of_lt (Nat.lt_succ_of_lt cl) e
    · rcases r₂ with e | fl₂
      · exact hr₂
      cases fl₂ with
      | ret r =>
        obtain ⟨rfl, h', tk, c', rfl, kp, X, m⟩ := hr₂
        repeat (any_goals (first | assumption | wp_step))
        exact q h' tk c' kp X m
      | _ => exact hr₂.elim
  | _ => exact hr.elim
end
section
variable {X : Cx}
/-- set(xs): whole numbers -/
def rSetI (K : PySem.W.Frag) (w : World) : List V → Hp → VK → Prop := fun xs H Q => ∃ (a : Addr) (ns : List Int), xs = [.ref a] ∧ SqL K H a (ns.map V.int) ∧ ns.length ≤ 1000 ∧ ∀ (p : Addr) (c : Nat), c ≤ ns.length → H p = none → Q (.ref p) (upd H p (SetO w p (fun j => decide (j ∈ ns)) c))
theorem vals_ints {ns : List Int} : ∀ {us : List Value}, Vals (ns.map V.int) us → IntsAre us ns := by
  induction ns with
  | nil => intro us r; cases r; exact .nil
  | cons n ns ih => intro us r; cases r with
    | cons h t =>
      obtain ⟨tk, rfl⟩ := h
      exact .cons n tk (ih t)
theorem call_setI (hc : X.calm = true) : CallR X (.type "set") (rSetI X.K X.w) := by
  intro pins s σ H xs us Q I r h
  obtain ⟨a, ns, rfl, hs, hz, q⟩ := h
  obtain ⟨its, rv, hl, _⟩ := I.list hs
  rw [Vals.ref1 r]
  refine set_ofI ns (I.ok.hd hc) hl.isList (by simpa using vals_ints rv) (Nat.lt_of_le_of_lt (show ns.length + 1 ≤ 1001 by omega) (by decide)) fun h' tk c kp R hcl => ?_
  exact ⟨.ref s.heap.objs.size, upd H s.heap.objs.size (SetO X.w s.heap.objs.size (fun j => decide (j ∈ ns)) c), I.laid (t' := tk) kp (Nat.le_refl _) (setO_new R), rfl, q _ c hcl (I.hok.fresh (Nat.le_refl _))⟩
end
end Ns

/-! NsJ: sorted(t) of a tuple of ints. -/
namespace Ns
open PySem PySem.Spec PyProof.Rows L2
section
variable {prog : Program} {w : World} {A : Around} {E : Value → Shared → Prop} {s : Shared}
/-- the heap behind the gathering of a tuple's items -/
abbrev gath (h : Heap) (vs : List Value) : Heap := (h.push (seqObj "list" #[] 0)).update h.objs.size (Obj.mapSeq (· ++ vs.toArray))
theorem gather_tup {l : Addr} {vs : List Value} {Q : List Value → Shared → Prop} (hl : IsTup s.heap l vs.toArray) (hz : vs.length ≤ sizeLine) (h : Q vs { s with heap := gath s.heap vs }) : wpAny (model prog w) A (collect (.ref l)) Q E s := by
  obtain ⟨o, e, cl, n, d⟩ := hl
  have e1 : (s.heap.push (seqObj "list" #[] 0)).get? l = some o := Heap.get?_push_of_some _ e
  have e2 : (s.heap.push (seqObj "list" #[] 0)).get? s.heap.objs.size = some (seqObj "list" #[] 0) := Heap.get?_push_size _ rfl
  have t0 : (Value.type "tuple" == Value.type "tuple") = true := rfl
  unfold collect
  refine wpAny_bind (wpAny_runValue (codeAny_builtin entry_proto_collect' ?_)); show wpAny _ _ (do again (.builtin "list.__iadd__" ⟨[← newList [], .ref l], []⟩)) _ _ s
  refine wpAny_bind (wpAny_newList (wpAny_pure ⟨Code.quiet_builtin _ (by decide +kernel), codeAny_builtin entry_list_iadd' ?_⟩)); show wpAny _ _ (Builtin.List.listExtendWith (.ref s.heap.objs.size) (.ref l) (.ref s.heap.objs.size)) _ _ { s with heap := s.heap.push (seqObj "list" #[] 0) }
  unfold Builtin.List.listExtendWith
  refine wpAny_bind (wpAny_typeOf (T := "tuple") ⟨o, e1, cl⟩ ?_)
  rw [if_pos (by rw [t0, Bool.or_true])]
  refine wpAny_bind (listItems_at e1 d (wpAny_bind (listItems_at (xs := #[]) (n := 0) e2 rfl ?_)))
  rw [if_neg (by simp)]
  refine wpAny_bind (listUpdate_at (xs := #[]) (n := 0) e2 rfl (wpAny_pure ?_) (Nat.zero_le _) (by rw [Array.empty_append, List.size_toArray]; omega))
  show wpAny (model prog w) A (do let q ← load s.heap.objs.size; match q.data with | .seq xs _ => pure xs.toList | _ => unsupported "internal:collect") Q E { s with heap := gath s.heap vs }
  refine wpAny_bind (wpAny_load (get?_update_seq e2 _) ?_)
  show wpAny _ _ (pure ((#[] : Array Value) ++ vs.toArray).toList) Q E _
  have ev : ((#[] : Array Value) ++ vs.toArray).toList = vs := by simp
  rw [ev]
  exact wpAny_pure h
theorem sorted_tupI {l : Addr} {vs : List Value} {ns : List Int} {Q : Value → Shared → Prop} (hl : IsTup s.heap l vs.toArray) (hi : IntsAre vs ns) (hz : vs.length ≤ sizeLine)
    (h : ∀ out : List Value, SrtO.Srtd SrtO.ltIv out → SrtO.Stb SrtO.ltIv out vs → Q (.ref (s.heap.objs.size + 1)) { s with heap := PyProof.Rows.sortedAll s.heap vs out.toArray }) : wpAny (model prog w) A (call (.builtin "sorted") [.ref l]) Q E s := by
  have sz : (gath s.heap vs).objs.size = s.heap.objs.size + 1 := by rw [Heap.size_update, size_push']
  have at1 : ((gath s.heap vs).push (seqObj "list" vs.toArray 0)).get? (s.heap.objs.size + 1) = some (seqObj "list" vs.toArray 0) := by rw [← sz]; exact Heap.get?_push_size _ rfl
  refine Calls.call_function_entry kind_sorted plain_sorted entry_sorted (args_sorted1 _) ?_; unfold Builtin.«sorted»
  refine wpAny_bind (m := checkCount "sorted" 1 1 _) (wpAny_pure (wpAny_bind (gather_tup hl hz (wpAny_bind (wpAny_newList ?_ hz)))))
  show wpAny _ _ _ _ _ { s with heap := (gath s.heap vs).push (seqObj "list" vs.toArray 0) }
  rw [sz]
  have srt := @SrtO.list_sort_ord prog w
  refine wpAny_bind (wpAny_holding (wpAny_call_entry slot_list_sort ⟨_, at1, rfl⟩ entry_list_sort (srt (s := { s with heap := (gath s.heap vs).push (seqObj "list" vs.toArray 0) }) SrtO.swo_int at1 hz (fun two => SrtO.ints_sortable hi two) fun o a b => ⟨_, rfl, ?_⟩) (args_list_sort _)))
  exact wpAny_pure ⟨_, rfl, h o a b⟩
end
/-- sorted(t), a tuple of ints -/
def rSortedTI (K : PySem.W.Frag) : List V → Hp → VK → Prop := fun vs H Q => ∃ (a : Addr) (ns : List Int), vs = [.ref a] ∧ SqT K H a (ns.map V.int) ∧ ∀ (ms : List Int) (p : Addr), ms.Perm ns → ms.Pairwise (· ≤ ·) → H p = none → Q (.ref p) (upd H p (.lst (ms.map V.int)))
theorem cr_sortedTI {X : Cx} : CallR X (.builtin "sorted") (rSortedTI X.K) := by
  intro pins s σ H vs us Q I r h
  obtain ⟨a, ns, rfl, hs, q⟩ := h
  obtain ⟨its, rv, hl, hz⟩ := I.tuple hs
  have hi := rv.ints
  rw [Vals.ref1 r]
  refine sorted_tupI hl hi (by rw [← rv.length]; exact hz) fun out h1 h2 => ?_
  obtain ⟨k1, k2, k3⟩ := SrtO.ints_out hi h1 h2
  obtain ⟨ep, he⟩ := PyProof.Rows.sortedAll_at s.heap its out.toArray
  have len : ((out.map SrtO.iv).map V.int).length ≤ sizeLine := by
    rw [List.length_map, k2.length_eq, ← List.length_map (f := V.int)]
    exact hz
  refine ⟨.ref _, upd H (s.heap.objs.size + 1) (.lst ((out.map SrtO.iv).map V.int)), I.laid (t' := s.toks) (fun _ _ => PyProof.Rows.sortedAll_old) (Nat.le_succ _) ⟨len, out, ep, vals_of_ints k1, he⟩, rfl, ?_⟩
  exact q _ _ k2 k3 (I.hok.fresh (Nat.le_succ _))
end Ns

/-! NsK: enumerate(t), a tuple. -/
namespace Ns
open PySem PySem.Spec PyProof.Rows L2
set_option maxHeartbeats 4000000 in
theorem meets_enum1 {v : Value} {o : Obj} {H : Heap → Prop} (B : Begins v o H) :
    Meets (Builtin.«enumerate.__new__» ⟨[.type "enumerate", v], []⟩) (fun _ R s => H s.heap ∧
      R (.ok (.ret (.ref (s.heap.push o).objs.size))) { s with heap := (s.heap.push o).push { cls := .type "enumerate", data := .fields #[.none, .bool false, .ref s.heap.objs.size, rawInt 0, .none, .none] } }) :=
  .of_wp fun prog w A R s h => by
    obtain ⟨hp, g, d, tk, os⟩ := s; obtain ⟨h1, h⟩ := h
    have hsub := sub_enumerate
    have q1 : ∀ {A' : Around} {E : Value → Shared → Prop} {Q : Value → Shared → Prop}, Q (.ref hp.objs.size) ⟨hp.push o, g, d, tk, os⟩ → wpAny (model prog w) A' (pyIter v) Q E ⟨hp, g, d, tk, os⟩ :=
      fun q => B.iter prog w _ _ ⟨hp, g, d, tk, os⟩ _ h1 q
    wp_walk using q1
    refine wpAny_stack_any fun st => wpAny_pure ?_
    split
    · rename_i c _ _ _ _ _
      cases (c == Value.type "enumerate")
      · wp_walk using q1
        exact ⟨_, rfl, h⟩
      · wp_walk using q1
        exact ⟨_, rfl, h⟩
    · wp_walk using q1
      exact ⟨_, rfl, h⟩
section
variable {prog : Program} {w : World} {A : Around} {E : Value → Shared → Prop} {s : Shared}
theorem call_enum1 {v : Value} {o : Obj} {H : Heap → Prop} {Q : Value → Shared → Prop} (B : Begins v o H) (h1 : H s.heap)
    (h : ∀ h', IsEnum h' (s.heap.objs.size + 1) s.heap.objs.size 0 .none → h'.get? s.heap.objs.size = some o → h'.objs.size = s.heap.objs.size + 2 →
      (∀ b o, s.heap.get? b = some o → h'.get? b = some o) → Q (.ref (s.heap.objs.size + 1)) { s with heap := h' }) :
    wpAny (model prog w) A (call (.type "enumerate") [v]) Q E s := by
  refine callType_new F.called_enumerate (by decide) (F.typeCall_enumerate_1 _) (F.newCall_enumerate_1 _) (fun obj => F.args_object_init_2 obj _) F.entry_enumerate_new
    (meets_enum1 B) ⟨h1, ?_⟩
  have hz : (s.heap.push o).objs.size = s.heap.objs.size + 1 := Heap.size_push ..
  show _ ∧ _
  rw [hz]
  have he : IsEnum ((s.heap.push o).push { cls := .type "enumerate", data := .fields #[.none, .bool false, .ref s.heap.objs.size, rawInt 0, .none, .none] }) (s.heap.objs.size + 1) s.heap.objs.size 0 .none := by
    have := Heap.get?_push_size (s.heap.push o) (o := { cls := .type "enumerate", data := .fields #[.none, .bool false, .ref s.heap.objs.size, rawInt 0, .none, .none] }) rfl
    rw [hz] at this; exact this
  refine ⟨⟨_, he, rfl⟩, h _ he (Heap.get?_push_of_some _ (Heap.get?_push_size _ B.free)) (by rw [Heap.size_push, hz]) fun b o x => Heap.get?_push_of_some _ (Heap.get?_push_of_some _ x)⟩
end
/-- the tuple at a, each item in a new pair -/
def IteT (K : PySem.W.Frag) (a : Addr) : It :=
  ⟨fun i H => ∃ (xs : List V) (x : V), SqT K H a xs ∧ xs[i]? = some x, fun i H v H' => ∃ T x, v = .ref T ∧ H T = none ∧ H' = upd H T (.tup [.int (i : Nat), x]) ∧ ∀ xs, SqT K H a xs → xs[i]? = some x, fun i H => ∃ xs : List V, SqT K H a xs ∧ xs.length ≤ i⟩
theorem turn_enumT {P : Program} {w : World} {K : PySem.W.Frag} {elts : List Expr} {kk : Nat} {tpos : Pos} (a e it : Addr) :
    Turn P w K (.Tuple elts kk tpos) (IteT K a) [e, it] e (fun i h => (∃ old, IsEnum h e it ((i : Nat) : Int) old) ∧ h.IsTupleIter it a i ∧ e ≠ it) where
  mem := by simp
  obj := fun i h st b hb => by
    obtain ⟨⟨old, he⟩, ⟨o, ho, hc, hd⟩, _⟩ := st
    have e' : b = e ∨ b = it := by simpa using hb
    rcases e' with z | z
    · rw [z]; exact ⟨_, he, fun v q => nomatch q⟩
    · rw [z]; exact ⟨o, ho, fun v q => by rw [hd] at q; cases q⟩
  keep := fun i h h' st k => let ⟨⟨old, he⟩, hi, hne⟩ := st; ⟨⟨old, k e (by simp) _ he⟩, hi.at fun o q => k it (by simp) o q, hne⟩
  item := by
    intro X hP hw hK hc i pins s σ H E I hf st hg
    subst hP hw hK
    obtain ⟨⟨old, he⟩, hit, hne⟩ := st
    obtain ⟨xs, x, hq, hx⟩ := hg
    obtain ⟨its, rv, p, hz⟩ := I.tuple hq
    obtain ⟨u, hu, ru⟩ := rv.get hx
    have p' : s.heap.IsTuple a its.toArray := p
    have hel : e < s.heap.objs.size := Heap.lt_size he
    have hil : it < s.heap.objs.size := by obtain ⟨_, q, _⟩ := hit; exact Heap.lt_size q
    have nai : a ≠ it := fun z => by
      obtain ⟨o, e1, c1, _⟩ := p'
      obtain ⟨o2, e2, c2, _⟩ := hit
      rw [z, e2] at e1
      cases e1
      rw [c1] at c2
      injection c2 with c3
      exact absurd c3 (by decide)
    have nea : e ≠ a := fun z => by
      obtain ⟨o, e1, c1, _⟩ := p'
      have e2 : s.heap.get? e = _ := he
      rw [z, e1] at e2
      have := congrArg (fun z => z.map Obj.cls) e2
      have c2 : o.cls = .type "enumerate" := Option.some.inj this
      rw [c1] at c2
      injection c2 with c3
      exact absurd c3 (by decide)
    have D := Draws.tuple (prog := X.prog) (w := X.w) (A := X.A.in1) (I.ok.hd hc) it a nai its.toArray
    have hi : i < its.toArray.size := by
      have := (List.getElem?_eq_some_iff.mp hu).1
      simpa using this
    refine wpAny_pyNext_enum_itemD D he ⟨hit, p'⟩ hi hne (by simp [hne, nea]) fun x' h' tk hP ho hit' hT hsz hk => ?_
    have ex : x' = u := by
      have hP : its.toArray[i]? = some x' := hP
      have h2 : its.toArray[i]? = some u := by simpa using hu
      rw [h2] at hP
      exact (Option.some.inj hP).symm
    subst ex
    refine ⟨_, rfl, wpAny_letOwnedTupleGo_enum (s := { s with heap := h', toks := tk + 1 }) ho fun h'' he' sb => ?_⟩
    have hT2 : h''.get? s.heap.objs.size = some { cls := .type "tuple", data := .seq #[.int i tk, x'] } := (sb.2 _ (Nat.ne_of_gt hel)).trans hT
    have new : ObjOk X.prog X.w (upd H s.heap.objs.size (.tup [.int (i : Nat), x])) h'' s.heap.objs.size (.tup [.int (i : Nat), x]) :=
      ⟨by show 2 ≤ sizeLine; decide, [.int i tk, x'], .cons ⟨_, rfl⟩ (.cons ru .nil), ⟨_, hT2, rfl, _, rfl⟩⟩
    have I1 : Inv X pins σ (upd H s.heap.objs.size (.tup [.int (i : Nat), x])) { s with heap := h'', toks := tk + 1 } :=
      I.turnedNew (ch := [e, it]) (fun b ob hb q => (sb.2 b (fun z => hb (by simp [z]))).trans (hk b ob (fun z => hb (by simp [z])) (fun z => hb (by simp [z])) q)) hf (Nat.le_refl _) new
    refine ⟨.ref s.heap.objs.size, _, I1, rfl, ⟨_, x, rfl, I.hok.fresh (Nat.le_refl _), rfl, fun ys hy => by rw [I.tuple_inj hy hq]; exact hx⟩, ⟨⟨x', ?_⟩, hit'.1.at fun o q => (sb.2 it (Ne.symm hne)).trans q, hne⟩, fun b hb => ?_⟩
    · have e1 : ((i + 1 : Nat) : Int) = (i : Int) + 1 := by omega
      rw [e1]; exact he'
    · have hb' : b < s.heap.objs.size := by
        have e' : b = e ∨ b = it := by simpa using hb
        rcases e' with z | z
        · rw [z]; exact hel
        · rw [z]; exact hil
      rw [upd_ne (Nat.ne_of_lt hb')]
      exact (hf b hb).1
  done := by
    intro X hP hw hK hc i pins s σ H E I hf st hg
    subst hP hw hK
    obtain ⟨⟨old, he⟩, hit, hne⟩ := st
    obtain ⟨xs, hq, hx⟩ := hg
    obtain ⟨its, rv, p, hz⟩ := I.tuple hq
    have p' : s.heap.IsTuple a its.toArray := p
    obtain ⟨f0, f1, f2, f3, f4, f5⟩ := hf it (by simp)
    have hl := rv.length
    have hT : s.TypeIs (.ref e) "enumerate" := ⟨_, he, rfl⟩
    unfold pyNext
    refine wpAny_bind (wpAny_attempt (wpAny_callSpecial?_slot (name := Str.ofString "__next__") hT F.slot_enumerate_next
      (wpAny_call_entry F.slot_enumerate_next hT F.entry_enumerate_next ?_ (F.args_enumerate_next_1 _))))
    show wpAny _ _ (field (.ref e) 2 >>= _) _ _ _
    refine wpAny_bind (wpAny_field he rfl (x := .ref it) rfl ?_)
    refine wpAny_bind (wpAny_nextOf_tuple_end (I.ok.hd hc) hit p' (by simp; omega) fun h' x he' hx' => ?_)
    obtain ⟨o, ho, hc'⟩ := hx'
    refine wpAny_bind (wpAny_isInstance (T := "StopIteration") (b := true) ⟨o, ho, hc'⟩ isSubtype_stop ?_)
    exact wpAny_pure ⟨rfl, I.turned (t' := s.toks) (fun b o hb q => he' b o hb q) f0 f1 f3 f4 f5⟩
  self := fun A i s Q E st h => let ⟨⟨_, he⟩, _⟩ := st; wpAny_pyIter_enum he h
def iEnumT (K : PySem.W.Frag) (ta : TA) : TI := fun σ H R => ta σ H fun vs H1 => ∃ a xs, vs = [.ref a] ∧ SqT K H1 a xs ∧ R (IteT K a) H1
theorem pi_enumT {X : Cx} {e : Expr} {ta : TA} {p pos tpos : Pos} {elts : List Expr} {kk : Nat} (hg : Gl X "enumerate") (hm : X.mg "enumerate" = none) (ha : PA X [e] ta) (hs : starEach [e] X.env = [(false, eval e X.env)] := by rfl) :
    PI X (.Tuple elts kk tpos) (.Call (.Name "enumerate" p) [e] [] pos) (iEnumT X.K ta) := by
  refine ⟨fun pins s σ H R I h => ?_⟩
  refine Call_ (ld_blt I hg hm boot_enumerate (PyProof.Rows.callWith_type1 (thn (ha.run pos pins s σ H _ I h) fun us s1 ⟨vs, H1, I1, r1, q1⟩ => ?_) hs rfl))
  obtain ⟨a, xs, ex, hq, q⟩ := q1
  subst ex
  cases r1 with
  | cons r rr =>
    cases rr
    cases r
    obtain ⟨its, rv, p', hz⟩ := I1.tuple hq
    have pT : s1.heap.IsTuple a its.toArray := p'
    refine call_enum1 (begins_tuple a its.toArray) pT fun h' he hit hsz hk => wpAny_pyIter_enum he ?_
    have I2 : Inv X pins σ H1 { s1 with heap := h' } := I1.kept (t' := s1.toks) hk
    refine ⟨s1.heap.objs.size + 1, [s1.heap.objs.size + 1, s1.heap.objs.size], _, _, H1, rfl, I2, turn_enumT a (s1.heap.objs.size + 1) s1.heap.objs.size, ⟨⟨.none, he⟩, ⟨_, hit, rfl, rfl⟩, Nat.succ_ne_self _⟩, fun b hb => ?_, q⟩
    have e' : b = s1.heap.objs.size + 1 ∨ b = s1.heap.objs.size := by simpa using hb
    have hle : s1.heap.objs.size ≤ b := by
      rcases e' with z | z
      · rw [z]; exact Nat.le_add_right _ _
      · rw [z]; exact Nat.le_refl _
    exact I1.fpOk hle (I1.hok.fresh hle)
theorem walk_enumT {K : PySem.W.Frag} {a : Addr} {xs : List V} : Walk (IteT K a) xs.length (fun H => SqT K H a xs) (YPair (fun i => some (.int (i : Nat))) (fun i => xs[i]?)) := by
  refine ⟨fun i _ hi q => ⟨xs, xs[i], q, by simp [hi]⟩, fun _ q => ⟨xs, q, Nat.le_refl _⟩, fun i H v H' _ q y => ?_⟩
  obtain ⟨T, x, h1, h2, h3, h4⟩ := y
  exact ⟨T, .int (i : Nat), x, h1, h2, h3, rfl, h4 xs q⟩
end Ns

/-! NsP: three plain local names stored at once. -/
namespace Ns
open PySem PySem.Spec PyProof.Rows L2
def tPar3 (i j k : Nat) (ta : TA) : TS := fun D σ H => ta σ H fun vs H1 => ∃ v w z, vs = [v, w, z] ∧ D.nx (((σ.set i (some v)).set j (some w)).set k (some z)) H1
theorem ps_par3 {X : Cx} {i j k : Nat} {x y z : Str} {a b c : Expr} {ta : TA} {px py pz pt pos : Pos} {kt k2 pt2} (hc : X.calm = true) (hN : X.N.Nodup) (hi : X.N[i]? = some x) (hj : X.N[j]? = some y) (hk : X.N[k]? = some z) (hij : i ≠ j) (hik : i ≠ k) (hjk : j ≠ k)
    (hx : X.env.scope.names.lookup x = some .local) (hy : X.env.scope.names.lookup y = some .local) (hz : X.env.scope.names.lookup z = some .local) (ha : PA X [a, b, c] ta)
    (hw : swappedStores [.Tuple [.Name x px, .Name y py, .Name z pz] kt pt] (.Tuple [a, b, c] k2 pt2) X.env = pure (some [x, y, z]))
    (hs : swapsWithSole [.Tuple [.Name x px, .Name y py, .Name z pz] kt pt] (.Tuple [a, b, c] k2 pt2) pos.line X.env = pure false := by rfl) :
    PS X (.Assign [.Tuple [.Name x px, .Name y py, .Name z pz] kt pt] (.Tuple [a, b, c] k2 pt2) pos) (tPar3 i j k ta) := by
  refine ⟨fun pins s σ H D I h => ?_⟩
  rw [exec_Assign_arm]
  refine wpAny_bind (wpAny_standAt ?_)
  rw [hs]
  refine wpAny_bind (wpAny_pure ?_)
  rw [if_neg (by decide)]
  refine wpAny_bind (Tuple_ (thn (ha.run _ pins s σ H _ I h) fun us s1 ⟨vs, H1, I1, r1, q1⟩ => ?_))
  obtain ⟨v1, v2, v3, e1, q1⟩ := q1
  subst e1
  obtain ⟨u1, u2, u3, rfl, t1, t2, t3⟩ : ∃ u1 u2 u3, us = [u1, u2, u3] ∧ RelV v1 u1 ∧ RelV v2 u2 ∧ RelV v3 u3 := by
    cases r1 with
    | cons p q => cases q with
      | cons p' q' => cases q' with
        | cons p'' q'' =>
          cases q''
          exact ⟨_, _, _, rfl, p, p', p''⟩
  refine wpAny_newObj_type ?_ (by show 3 ≤ sizeLine; decide)
  have I2 : Inv X pins σ H1 { s1 with heap := s1.heap.push { cls := .type "tuple", data := .seq [u1, u2, u3].toArray } } := I1.kept (t' := s1.toks) fun b o e => Heap.get?_push_of_some _ e
  rw [hw]
  refine wpAny_bind (wpAny_pure ?_)
  show wpAny (model X.prog X.w) X.A (do rule "assign.swapped-stores"; let items ← unpackItems (.ref s1.heap.objs.size) 3 none; assignInOrder [fun v => bindName X.env z v, fun v => bindName X.env y v, fun v => bindName X.env x v] items.reverse; pure Flow.next) _ _ _
  refine wpAny_bind (wpAny_rule (wpAny_bind (unpackItems_tuple (items := #[u1, u2, u3]) (I.ok.hd hc) (IsTup.new s1.heap _) fun h' hx' => ?_)))
  have I3 := I2.kept (h' := h') (t' := s1.toks) fun b o e => hx' b o (Nat.ne_of_lt (Heap.lt_size e)) e
  show wpAny _ _ (assignInOrder [fun v => bindName X.env z v, fun v => bindName X.env y v, fun v => bindName X.env x v] [u3, u2, u1] >>= fun _ => pure Flow.next) _ _ _
  refine wpAny_bind (assignInOrder_cons (wpAny_bindName (store_ok I3 hN hk (.inl hz) t3 (fun s2 I4 => ?_) (.inr hz))))
  refine assignInOrder_cons (wpAny_bindName (store_ok I4 hN hj (.inl hy) t2 (fun s3 I5 => ?_) (.inr hy)))
  refine assignInOrder_cons (wpAny_bindName (store_ok I5 hN hi (.inl hx) t1 (fun s4 I6 => assignInOrder_nil (wpAny_pure ?_)) (.inr hx)))
  have e : ((σ.set k (some v3)).set j (some v2)).set i (some v1) = ((σ.set i (some v1)).set j (some v2)).set k (some v3) := by
    rw [List.set_comm _ _ (Ne.symm hjk), List.set_comm _ _ (Ne.symm hik), List.set_comm _ _ (Ne.symm hij)]
  rw [e] at I6
  exact ⟨_, H1, I6, q1⟩
end Ns

/-! NsQ: zip of a tuple, a tuple and a list. -/
namespace Ns
open PySem PySem.Spec PyProof.Rows L2
def Itz3 (K : PySem.W.Frag) (a b c : Addr) : It :=
  ⟨fun i H => ∃ (xs ys zs : List V) (x y z : V), SqT K H a xs ∧ SqT K H b ys ∧ SqL K H c zs ∧ xs[i]? = some x ∧ ys[i]? = some y ∧ zs[i]? = some z,
    fun i H v H' => ∃ T x y z, v = .ref T ∧ H T = none ∧ H' = upd H T (.tup [x, y, z]) ∧ (∀ xs, SqT K H a xs → xs[i]? = some x) ∧ (∀ ys, SqT K H b ys → ys[i]? = some y) ∧ ∀ zs, SqL K H c zs → zs[i]? = some z,
    fun i H => ∃ xs ys zs : List V, SqT K H a xs ∧ SqT K H b ys ∧ SqL K H c zs ∧ xs.length = i ∧ ys.length = i ∧ i ≤ zs.length⟩
theorem turn_zip3 {P : Program} {w : World} {K : PySem.W.Frag} {elts : List Expr} {kk : Nat} {tpos : Pos} {a b c z TI TO i1 i2 i3 : Addr} (S : ZipSep3 z TI TO i1 i2 i3 [i1, a] [i2, b] [i3, c]) (na : a ≠ i1) (nb : b ≠ i2) (nc : c ≠ i3) :
    Turn P w K (.Tuple elts kk tpos) (Itz3 K a b c) [z, TI, TO, i1, i2, i3] z (fun i h => IsZip h z TI TO .none ∧ IsTupOf3 h TI (.ref i1) (.ref i2) (.ref i3) ∧ (∃ a1 a2 a3, IsTupOf3 h TO a1 a2 a3) ∧ h.IsTupleIter i1 a i ∧ h.IsTupleIter i2 b i ∧ h.IsListIter i3 c i) where
  mem := by simp
  obj := fun i h st d hd => by
    obtain ⟨hz, hTI, ⟨x, y, u, hTO⟩, ⟨o1, e1, _, d1⟩, ⟨o2, e2, _, d2⟩, ⟨o3, e3, _, d3⟩⟩ := st
    have e' : d = z ∨ d = TI ∨ d = TO ∨ d = i1 ∨ d = i2 ∨ d = i3 := by simpa using hd
    rcases e' with q | q | q | q | q | q
    · rw [q]; exact ⟨_, hz, fun v q => nomatch q⟩
    · rw [q]; exact ⟨_, hTI, fun v q => nomatch q⟩
    · rw [q]; exact ⟨_, hTO, fun v q => nomatch q⟩
    · rw [q]; exact ⟨o1, e1, fun v q => by rw [d1] at q; cases q⟩
    · rw [q]; exact ⟨o2, e2, fun v q => by rw [d2] at q; cases q⟩
    · rw [q]; exact ⟨o3, e3, fun v q => by rw [d3] at q; cases q⟩
  keep := fun i h h' st k => by
    obtain ⟨hz, hTI, ⟨x, y, u, hTO⟩, h1, h2, h3⟩ := st
    exact ⟨k z (by simp) _ hz, k TI (by simp) _ hTI, ⟨x, y, u, k TO (by simp) _ hTO⟩, h1.at fun o q => k i1 (by simp) o q, h2.at fun o q => k i2 (by simp) o q, h3.at fun o q => k i3 (by simp) o q⟩
  item := by
    intro X hP hw hK hc i pins s σ H E I hf st hg
    subst hP hw hK
    have low : ∀ d ∈ [z, TI, TO, i1, i2, i3], d < s.heap.objs.size := fun d hd => by
      obtain ⟨hz, hTI, ⟨x, y, u, hTO⟩, ⟨o1, e1, _⟩, ⟨o2, e2, _⟩, ⟨o3, e3, _⟩⟩ := st
      have e' : d = z ∨ d = TI ∨ d = TO ∨ d = i1 ∨ d = i2 ∨ d = i3 := by simpa using hd
      rcases e' with q | q | q | q | q | q
      · rw [q]; exact Heap.lt_size hz
      · rw [q]; exact Heap.lt_size hTI
      · rw [q]; exact Heap.lt_size hTO
      · rw [q]; exact Heap.lt_size e1
      · rw [q]; exact Heap.lt_size e2
      · rw [q]; exact Heap.lt_size e3
    obtain ⟨hz, hTI, hTO, h1, h2, h3⟩ := st
    obtain ⟨xs, ys, zs, x, y, u, hqx, hqy, hqz, hx, hy, hu⟩ := hg
    obtain ⟨its, rv, p, _⟩ := I.tuple hqx
    obtain ⟨its2, rv2, p2, _⟩ := I.tuple hqy
    obtain ⟨its3, rv3, p3, _⟩ := I.list hqz
    obtain ⟨v1, hv1, rx⟩ := rv.get hx
    obtain ⟨v2, hv2, ry⟩ := rv2.get hy
    obtain ⟨v3, hv3, ru⟩ := rv3.get hu
    have W := GoesN.zip3 (prog := X.prog) (w := X.w) (A := X.A) (elts := elts) (x1 := kk) (pos := tpos) S (Draws.tuple (prog := X.prog) (w := X.w) (A := X.A.in1) (I.ok.hd hc) i1 a na its.toArray) (Draws.tuple (prog := X.prog) (w := X.w) (A := X.A.in1) (I.ok.hd hc) i2 b nb its2.toArray) (Draws.list (prog := X.prog) (w := X.w) (A := X.A.in1) (I.ok.hd hc) i3 c nc its3.toArray)
    have b1 := (List.getElem?_eq_some_iff.mp hv1).1
    have b2 := (List.getElem?_eq_some_iff.mp hv2).1
    have b3 := (List.getElem?_eq_some_iff.mp hv3).1
    refine W.goes i s _ E (by simp; omega) ⟨hz, hTI, hTO, ⟨h1, p⟩, ⟨h2, p2⟩, ⟨h3, p3.isList⟩⟩ fun v h' tk hY st' hk htk => ?_
    obtain ⟨T, x', y', u', rfl, hT, P1, P2, P3, tup⟩ := hY
    have ex : x' = v1 := by
      have P1 : its.toArray[i]? = some x' := P1
      rw [show its.toArray[i]? = some v1 by simpa using hv1] at P1
      exact (Option.some.inj P1).symm
    have ey : y' = v2 := by
      have P2 : its2.toArray[i]? = some y' := P2
      rw [show its2.toArray[i]? = some v2 by simpa using hv2] at P2
      exact (Option.some.inj P2).symm
    have eu : u' = v3 := by
      have P3 : its3.toArray[i]? = some u' := P3
      rw [show its3.toArray[i]? = some v3 by simpa using hv3] at P3
      exact (Option.some.inj P3).symm
    subst ex ey eu
    have new : ObjOk X.prog X.w (upd H T (.tup [x, y, u])) h' T (.tup [x, y, u]) :=
      ⟨by show 3 ≤ sizeLine; decide, [x', y', u'], .cons rx (.cons ry (.cons ru .nil)), tup⟩
    have sub : ∀ d ∈ [z, TO, i1, i2, i3], d ∈ [z, TI, TO, i1, i2, i3] := fun d hd => by
      simp only [List.mem_cons, List.not_mem_nil, or_false] at hd ⊢
      rcases hd with q | q | q | q | q <;> simp [q]
    have I1 : Inv X pins σ (upd H T (.tup [x, y, u])) { s with heap := h', toks := tk } :=
      I.turnedNew (ch := [z, TO, i1, i2, i3]) hk (fun d hd => hf d (sub d hd)) hT new
    obtain ⟨z1, z2, z3, z4, z5, z6⟩ := st'
    refine ⟨.ref T, _, I1, rfl, ⟨T, x, y, u, rfl, I.hok.fresh hT, rfl, fun l hl => by rw [I.tuple_inj hl hqx]; exact hx, fun l hl => by rw [I.tuple_inj hl hqy]; exact hy, fun l hl => by rw [I.list_inj hl hqz]; exact hu⟩, ⟨z1, z2, z3, z4.1, z5.1, z6.1⟩, fun d hd => ?_⟩
    rw [upd_ne (Nat.ne_of_lt (Nat.lt_of_lt_of_le (low d hd) hT))]
    exact (hf d hd).1
  done := by
    intro X hP hw hK hc i pins s σ H E I hf st hg
    subst hP hw hK
    obtain ⟨hz, hTI, hTO, h1, h2, h3⟩ := st
    obtain ⟨xs, ys, zs, hqx, hqy, hqz, l1, l2, l3⟩ := hg
    obtain ⟨its, rv, p, _⟩ := I.tuple hqx
    obtain ⟨its2, rv2, p2, _⟩ := I.tuple hqy
    obtain ⟨its3, rv3, p3, _⟩ := I.list hqz
    have k1 := rv.length
    have k2 := rv2.length
    have k3 := rv3.length
    have W := GoesN.zip3 (prog := X.prog) (w := X.w) (A := X.A) (elts := elts) (x1 := kk) (pos := tpos) S (Draws.tuple (prog := X.prog) (w := X.w) (A := X.A.in1) (I.ok.hd hc) i1 a na its.toArray) (Draws.tuple (prog := X.prog) (w := X.w) (A := X.A.in1) (I.ok.hd hc) i2 b nb its2.toArray) (Draws.list (prog := X.prog) (w := X.w) (A := X.A.in1) (I.ok.hd hc) i3 c nc its3.toArray)
    have en : min (min its.toArray.size its2.toArray.size) its3.toArray.size = i := by simp; omega
    have sub : ∀ d ∈ [z, TO, i1, i2, i3], d ∈ [z, TI, TO, i1, i2, i3] := fun d hd => by
      simp only [List.mem_cons, List.not_mem_nil, or_false] at hd ⊢
      rcases hd with q | q | q | q | q <;> simp [q]
    refine W.stops s _ E (by rw [en]; exact ⟨hz, hTI, hTO, ⟨h1, p⟩, ⟨h2, p2⟩, ⟨h3, p3.isList⟩⟩) fun h' tk hk htk => ?_
    exact I.turnedL (t' := tk) (ch := [z, TO, i1, i2, i3]) hk (fun d hd => hf d (sub d hd))
  self := fun A i s Q E st h => wpAny_pyIter_zip st.1 h
def iZip3 (K : PySem.W.Frag) (ta : TA) : TI := fun σ H R => ta σ H fun vs H1 => ∃ a b c xs ys zs, vs = [.ref a, .ref b, .ref c] ∧ SqT K H1 a xs ∧ SqT K H1 b ys ∧ SqL K H1 c zs ∧ R (Itz3 K a b c) H1
theorem pi_zip3 {X : Cx} {e e2 e3 : Expr} {ta : TA} {p pos tpos : Pos} {elts : List Expr} {kk : Nat} (hg : Gl X "zip") (hm : X.mg "zip" = none) (ha : PA X [e, e2, e3] ta)
    (hs : starEach [e, e2, e3] X.env = (false, eval e X.env) :: starEach [e2, e3] X.env := by rfl) (hpl : (backTo pos (starEach [e2, e3] X.env)).any (·.1) = false := by rfl) :
    PI X (.Tuple elts kk tpos) (.Call (.Name "zip" p) [e, e2, e3] [] pos) (iZip3 X.K ta) := by
  refine ⟨fun pins s σ H R I h => ?_⟩
  refine Call_ (ld_blt I hg hm PyProof.Rows.boot_zip (PyProof.Rows.callWith_type1 (thn (ha.run pos pins s σ H _ I h) fun us s1 ⟨vs, H1, I1, r1, q1⟩ => ?_) hs hpl))
  obtain ⟨a, b, c, xs, ys, zs, ex, hqx, hqy, hqz, q⟩ := q1
  subst ex
  obtain ⟨rfl⟩ : us = [.ref a, .ref b, .ref c] := by
    cases r1 with
    | cons r rr => cases rr with
      | cons r' rr => cases rr with
        | cons r'' rr =>
          cases rr
          cases r
          cases r'
          cases r''
          rfl
  have fresh6 : ∀ d, d ∈ [s1.heap.objs.size + 5, s1.heap.objs.size + 3, s1.heap.objs.size + 4, s1.heap.objs.size, s1.heap.objs.size + 1, s1.heap.objs.size + 2] → FpOk X pins H1 d := fun d hd => by
    have e' : d = s1.heap.objs.size + 5 ∨ d = s1.heap.objs.size + 3 ∨ d = s1.heap.objs.size + 4 ∨ d = s1.heap.objs.size ∨ d = s1.heap.objs.size + 1 ∨ d = s1.heap.objs.size + 2 := by simpa using hd
    have hle : s1.heap.objs.size ≤ d := by
      rcases e' with z | z | z | z | z | z <;> rw [z]
      · exact Nat.le_add_right _ _
      · exact Nat.le_add_right _ _
      · exact Nat.le_add_right _ _
      · exact Nat.le_refl _
      · exact Nat.le_add_right _ _
      · exact Nat.le_add_right _ _
    exact I1.fpOk hle (I1.hok.fresh hle)
  obtain ⟨its, rv, p1, _⟩ := I1.tuple hqx
  obtain ⟨its2, rv2, p2, _⟩ := I1.tuple hqy
  obtain ⟨its3, rv3, p3, _⟩ := I1.list hqz
  obtain ⟨o1, ho1, _⟩ := id p1
  obtain ⟨o2, ho2, _⟩ := id p2
  have la := Heap.lt_size ho1
  have lb := Heap.lt_size ho2
  have lc := p3.lt
  refine zip_begins3 (begins_tuple a its.toArray) (begins_tuple b its2.toArray) (begins_list c its3.toArray) p1 p2 p3.isList fun h' hz hTI hTO e1 e2 e3 hsz hk => wpAny_pyIter_zip hz ?_
  have I2 : Inv X pins σ H1 { s1 with heap := h' } := I1.kept (t' := s1.toks) hk
  have S := zip_sep3 (N := s1.heap.objs.size) (fp1 := [a]) (fp2 := [b]) (fp3 := [c]) (fun d hd => by rw [List.mem_singleton.mp hd]; exact la) (fun d hd => by rw [List.mem_singleton.mp hd]; exact lb) (fun d hd => by rw [List.mem_singleton.mp hd]; exact lc)
  exact ⟨s1.heap.objs.size + 5, [s1.heap.objs.size + 5, s1.heap.objs.size + 3, s1.heap.objs.size + 4, s1.heap.objs.size, s1.heap.objs.size + 1, s1.heap.objs.size + 2], _, _, H1, rfl, I2, turn_zip3 S (Nat.ne_of_lt la) (Nat.ne_of_lt (Nat.lt_succ_of_lt lb)) (Nat.ne_of_lt (Nat.lt_succ_of_lt (Nat.lt_succ_of_lt lc))), ⟨hz, hTI, ⟨_, _, _, hTO⟩, ⟨_, e1, rfl, rfl⟩, ⟨_, e2, rfl, rfl⟩, ⟨_, e3, rfl, rfl⟩⟩, fresh6, q⟩
section
variable {K : PySem.W.Frag} {a b c : Addr} {xs ys zs : List V}
theorem walk_zip3 {n : Nat} (h1 : xs.length = n) (h2 : ys.length = n) (h3 : n ≤ zs.length) : Walk (Itz3 K a b c) n (fun H => SqT K H a xs ∧ SqT K H b ys ∧ SqL K H c zs) (fun i H v H' => ∃ T x y z, v = .ref T ∧ H T = none ∧ H' = upd H T (.tup [x, y, z]) ∧ xs[i]? = some x ∧ ys[i]? = some y ∧ zs[i]? = some z) := by
  subst h1
  refine ⟨fun i _ hi q => ⟨xs, ys, zs, xs[i], ys[i], zs[i]'(by omega), q.1, q.2.1, q.2.2, by simp [hi], by simp [h2, hi], List.getElem?_eq_getElem (by omega)⟩, fun _ q => ⟨xs, ys, zs, q.1, q.2.1, q.2.2, rfl, h2, h3⟩, fun i H v H' _ q y => ?_⟩
  obtain ⟨T, x, y, z, h1, h2, h3, h4, h5, h6⟩ := y
  exact ⟨T, x, y, z, h1, h2, h3, h4 xs q.1, h5 ys q.2.1, h6 zs q.2.2⟩
end
end Ns

/-! NsR: sum of the values of a dict of ints. -/
namespace Ns
open PySem PySem.Spec PyProof.Rows L2
def tSumVals (td : TE) : TE := fun σ H Q => td σ H fun x H1 => ∃ (a : Addr) (kvs : List (Key × V)) (is : List Int), x = V.ref a ∧ H1 a = some (.dK kvs) ∧ kvs.map (·.2) = is.map V.int ∧ Q (.int is.sum) H1
theorem preSum_is : ∀ (is : List Int) (n : Nat), n ≤ is.length → preSum (fun i => is.getD i 0) n = (is.take n).sum
  | is, 0, _ => by
    rw [List.take_zero]
    rfl
  | is, n + 1, h => by
    have ih := preSum_is is n (by omega)
    obtain ⟨x, hx⟩ : ∃ x, is[n]? = some x := ⟨_, List.getElem?_eq_getElem (by omega)⟩
    have e1 : is.getD n 0 = x := by rw [List.getD_eq_getElem?_getD, hx]; rfl
    rw [List.take_succ, hx, List.sum_append, ← ih]
    show preSum (fun i => is.getD i 0) n + is.getD n 0 = _
    rw [e1]
    simp
section
variable {X : Cx} {o : Expr} {p pos apos mpos : Pos} {td : TE}
theorem pe_sumVals (hc : X.calm = true) (hg : Gl X "sum") (hm : X.mg "sum" = none) (hd : PE X o td) (hbase : attributeBase o "values" X.env (eval o X.env) = eval o X.env := by rfl) (hline : (apos.endLine == mpos.line) = true := by rfl)
    (hse : starEach [Expr.Call (.Attribute o "values" apos) [] [] mpos] X.env = [(false, eval (Expr.Call (.Attribute o "values" apos) [] [] mpos) X.env)] := by rfl) :
    PE X (.Call (.Name "sum" p) [.Call (.Attribute o "values" apos) [] [] mpos] [] pos) (tSumVals td) := by
  refine ⟨fun pins s σ H Q I h => ?_⟩
  refine wpAny_Call_Name_kw (ld_blt I hg hm (u := .builtin "sum") (by first | rfl | decide +kernel) ?_ (by first | decide +kernel | decide) (by first | decide +kernel | decide))
  rw [hse]
  refine PySem.callWith_builtin1 (wpAny_Call_method0_late hbase hline (thn (hd.run pins s σ H _ I h) fun v s1 ⟨x, H1, I1, r1, a, kvs, is, ex, ha, hv, q⟩ => ?_))
  subst ex
  obtain rfl : v = Value.ref a := r1
  obtain ⟨_, hsys, vs, rel, dof⟩ := dk_of I1.hok ha
  obtain ⟨ep, dat⟩ := dof.dictAt
  obtain ⟨ob, es, ho, ex, _⟩ := id dat
  refine ⟨"dict", "dict.values", F.plainAttrs_dict, F.slot_dict_values, F.type_dict_values, ⟨ob, ho, ex.1⟩, fun b e => by cases e; exact ⟨ob, ho, ex.2.1⟩, Calls.callWith_builtin rfl (PySem.evalArgs_none ?_)⟩
  refine call_meetsIn F.slot_dict_values ⟨ob, ho, ex.1⟩ F.entry_dict_values (F.args_dict_values_1 _) (meets_dict_values (mixKind X.prog X.w) a hsys) ⟨⟨vs, dof⟩, ?_⟩
  have lt := Heap.lt_size ho
  have grow : ∀ b u, s1.heap.get? b = some u → (s1.heap.push { cls := .type "dict_values", data := .fields #[.ref a] }).get? b = some u := fun b u e => Heap.get?_push_of_some _ e
  have dat2 := dat.keep grow
  have sz : (s1.heap.push { cls := .type "dict_values", data := .fields #[.ref a] }).objs.size = s1.heap.objs.size + 1 := Heap.size_push _ _
  have same : vs.length = is.length := by
    have e1 := congrArg List.length hv
    rw [List.length_map, List.length_map] at e1
    exact (KV.length rel).symm.trans e1
  have look : ∀ (i : Nat) (v : Value), (∃ k, vs[i]? = some (k, v)) → ∃ t, v = Value.int (is.getD i 0) t := fun i v ⟨k, hk⟩ => by
    obtain ⟨x, h1, h2⟩ := KV.at' rel hk
    have e1 : (is.map V.int)[i]? = some x := by rw [← hv, List.getElem?_map, h1]; rfl
    rw [List.getElem?_map] at e1
    obtain ⟨j, hj, e2⟩ := Option.map_eq_some_iff.mp e1
    subst e2
    obtain ⟨t, e3⟩ := h2
    exact ⟨t, by rw [e3, List.getD_eq_getElem?_getD, hj]; rfl⟩
  refine call_sum_walkG (wpAny_pyIter_values (v := s1.heap.objs.size) (d := a) ⟨_, Heap.get?_push_size _ rfl, rfl, rfl⟩ dat2 ?_)
  refine ⟨_, _, _, _, _, _, fun i => is.getD i 0, rfl, Walks.dictValues (knd := mixKind X.prog X.w) (A := X.A.in1) (I.ok.hd hc) (s1.heap.push { cls := .type "dict_values", data := .fields #[.ref a] }).objs.size a (by rw [sz]; exact Nat.ne_of_lt (Nat.lt_succ_of_lt lt)) vs ep,
    ⟨⟨_, Heap.get?_push_size _ rfl, rfl, rfl⟩, dat2.keep fun b u e => Heap.get?_push_of_some _ e⟩, fun b hb => ?_, look, fun h' tk t' hk => ?_⟩
  · show b < ((s1.heap.push _).push _).objs.size
    rw [Heap.size_push, Heap.size_push]
    rw [sz] at hb
    rcases List.mem_cons.mp hb with e | hb
    · rw [e]
      exact Nat.lt_succ_self _
    · rw [List.mem_singleton.mp hb]
      exact Nat.lt_succ_of_lt (Nat.lt_succ_of_lt lt)
  · refine ⟨.int is.sum, H1, I1.kept (t' := tk) fun b u e => hk b u (fun hmem => ?_) (Heap.get?_push_of_some _ (grow b u e)), ⟨t', ?_⟩, q⟩
    · have e1 : b = (s1.heap.push { cls := .type "dict_values", data := .fields #[.ref a] }).objs.size := List.mem_singleton.mp hmem
      have e2 := Heap.lt_size e
      rw [sz] at e1
      rw [e1] at e2
      exact absurd e2 (Nat.not_lt.mpr (Nat.le_succ _))
    · rw [preSum_is is _ (Nat.le_of_eq same), same, List.take_length]
end
end Ns

/-! NsV: a tuple times 0 or 1. -/
namespace Ns
open PySem PySem.Spec PyProof.Rows L2
theorem tup_mul1 (l : Addr) (items : Array Value) (n : Nat) (dd : Option Addr) (sl : Array (Option Value)) (u : Tok) :
    Meets (Builtin.«tuple.__mul__» ⟨[.ref l, .int 1 u], []⟩) (fun _ R s => s.heap.get? l = some { cls := .type "tuple", dict := dd, data := .seq items n, slots := sl } ∧ R (.ok (.ret (Value.ref l))) s) :=
  .of_wp fun prog w A R s h => by
    obtain ⟨hp, g, d, tk, os⟩ := s
    obtain ⟨hl, h⟩ := h
    have f1 := AutoSeq1.idx_int
    wp_walk using wpAny_loadPart' hl
    exact ⟨_, rfl, h⟩
theorem tup_mul0 (l : Addr) (items : Array Value) (n : Nat) (dd : Option Addr) (sl : Array (Option Value)) (u : Tok) (hi : items.isEmpty = false) :
    Meets (Builtin.«tuple.__mul__» ⟨[.ref l, .int 0 u], []⟩) (fun _ R s => s.heap.get? l = some { cls := .type "tuple", dict := dd, data := .seq items n, slots := sl } ∧
      R (.ok (.ret (Value.ref s.heap.objs.size))) { s with heap := s.heap.push { cls := Value.type "tuple", data := Data.seq #[] }, toks := s.toks }) :=
  .of_wp fun prog w A R s h => by
    obtain ⟨hp, g, d, tk, os⟩ := s
    obtain ⟨hl, h⟩ := h
    have f1 := AutoSeq1.idx_int
    wp_walk using wpAny_loadPart' hl
    exact ⟨_, rfl, h⟩
def rRep01 (K : PySem.W.Frag) : R2 := fun x y H Q => ∃ (l : Addr) (k : Int) (xs : List V), x = .ref l ∧ y = .int k ∧ SqT K H l xs ∧ xs ≠ [] ∧ (k = 0 ∨ k = 1) ∧ (k = 1 → Q (.ref l) H) ∧ (k = 0 → ∀ p, H p = none → Q (.ref p) (upd H p (.tup [])))
theorem op_rep01 {X : Cx} : OpR X (binaryOp .Mult) (rRep01 X.K) := by
  intro pins s σ H x y v u Q I rx ry h
  obtain ⟨l, k, xs, rfl, rfl, hT, hne, hk, q1, q0⟩ := h
  cases rx
  obtain ⟨t, rfl⟩ := ry
  obtain ⟨its, r, ⟨⟨cls, dd, data, sl⟩, ho, hc, n, hd⟩, hs⟩ := I.tuple hT
  simp only at hc hd
  subst hc hd
  have hi : its.toArray.isEmpty = false := by
    cases its with
    | nil => exact absurd (List.eq_nil_of_length_eq_zero r.length) hne
    | cons a b => rfl
  rcases hk with rfl | rfl
  · refine wpAny_binaryOp_repeat_ref (T := "tuple") (U := "int") (by decide) ⟨_, ho, rfl⟩ (fun s' => typeIs_int s' 0 t) noFill_tuple_mul F.fills_int_mul F.slot_int_rmul repeat_tuple F.slot_int_index.lookup
      (call_meets F.slot_int_rmul (typeIs_int s 0 t) F.entry_int_rmul (F.args_int_rmul_2 _ _) (int_rmul_tuple 0 t l its.toArray n dd sl)
        ⟨ho, rfl, ⟨_, ho, rfl⟩, call_meets F.slot_tuple_mul ⟨_, ho, rfl⟩ F.entry_tuple_mul (F.args_tuple_mul_2 _ _) (tup_mul0 l its.toArray n dd sl t hi) ⟨ho, ?_⟩⟩)
    exact ⟨.ref s.heap.objs.size, _, I.laid (t' := s.toks) (o := .tup []) (fun b ob q => Heap.get?_push_of_some _ q) (Nat.le_refl _) ⟨by show 0 ≤ sizeLine; decide, [], .nil, IsTup.new _ _⟩, rfl, q0 rfl _ (I.hok.fresh (Nat.le_refl _))⟩
  · refine wpAny_binaryOp_repeat_ref (T := "tuple") (U := "int") (by decide) ⟨_, ho, rfl⟩ (fun s' => typeIs_int s' 1 t) noFill_tuple_mul F.fills_int_mul F.slot_int_rmul repeat_tuple F.slot_int_index.lookup
      (call_meets F.slot_int_rmul (typeIs_int s 1 t) F.entry_int_rmul (F.args_int_rmul_2 _ _) (int_rmul_tuple 1 t l its.toArray n dd sl)
        ⟨ho, rfl, ⟨_, ho, rfl⟩, call_meets F.slot_tuple_mul ⟨_, ho, rfl⟩ F.entry_tuple_mul (F.args_tuple_mul_2 _ _) (tup_mul1 l its.toArray n dd sl t) ⟨ho, ?_⟩⟩)
    exact ⟨.ref l, H, I, rfl, q1 rfl⟩
end Ns

/-! NsW: isinstance of data; t != (); t[::-1]; t * k; 'b' * k. -/
namespace Ns
open PySem PySem.Spec PyProof.Rows L2
/-- the name of a datum's class -/
def tyN : PyData → String
  | .none => "NoneType"
  | .bool _ => "bool"
  | .int _ => "int"
  | .str _ => "str"
  | .list _ => "list"
  | .tuple _ => "tuple"
  | .dict _ => "dict"
theorem tyX_lst {K : PySem.W.Frag} {H : Hp} {a : Addr} {xs : List V} (h : SqL K H a xs) : TyX K H (.ref a) (.type "list") := by
  rcases h with (h | ⟨o, h⟩) | ⟨o, _, _, h, c, _⟩
  · exact .base (.lst h)
  · exact .base (.frz h)
  · exact .kList h c
theorem tyX_tup {K : PySem.W.Frag} {H : Hp} {a : Addr} {xs : List V} (h : SqT K H a xs) : TyX K H (.ref a) (.type "tuple") := by
  rcases h with (h | ⟨o, h⟩) | ⟨o, _, _, h, c, _⟩
  · exact .base (.tup h)
  · exact .fTuple h
  · exact .kTuple h c
theorem tyX_dat {K : PySem.W.Frag} {H : Hp} {x : V} {d : PyData} (D : DatV K H x d) : TyX K H x (.type (tyN d)) := by
  cases D with
  | non => exact .base .non
  | bl b => exact .base (.bl b)
  | int i => exact .base (.int i)
  | str z => exact .base (.str z)
  | lst h _ => exact tyX_lst h
  | tup h _ => exact tyX_tup h
  | dic h _ => exact .base (.dK h)
section
variable {X : Cx}
/-- isinstance(x, T), x any datum -/
def rIsD (K : PySem.W.Frag) (t : String) (f : PyData → Bool) : List V → Hp → VK → Prop := fun xs H Q => ∃ (x : V) (d : PyData), xs = [x, .ty t] ∧ DatV K H x d ∧ Q (.bl (f d)) H
theorem call_isD {t : String} {f : PyData → Bool} (hf : ∀ d, kitB (tyN d) t = some (f d)) : CallR X (.builtin "isinstance") (rIsD X.K t f) := by
  intro pins s σ H xs us Q I r h
  obtain ⟨x, d, rfl, D, q⟩ := h
  exact call_isi pins s σ H _ us Q I r ⟨x, .ty t, _, _, f d, rfl, .ty t, tyX_dat D, kit_ty (hf d), q⟩
def qT : PyData → Bool | .tuple _ => true | _ => false
def qI : PyData → Bool | .int _ => true | .bool _ => true | _ => false
def qB : PyData → Bool | .bool _ => true | _ => false
def qS : PyData → Bool | .str _ => true | _ => false
def qD : PyData → Bool | .dict _ => true | _ => false
theorem kit_T : ∀ d, kitB (tyN d) "tuple" = some (qT d) := fun d => by cases d <;> simp only [tyN, qT, qI, qB, qS, qD] <;> decide +kernel
theorem kit_I : ∀ d, kitB (tyN d) "int" = some (qI d) := fun d => by cases d <;> simp only [tyN, qT, qI, qB, qS, qD] <;> decide +kernel
theorem kit_B : ∀ d, kitB (tyN d) "bool" = some (qB d) := fun d => by cases d <;> simp only [tyN, qT, qI, qB, qS, qD] <;> decide +kernel
theorem kit_S : ∀ d, kitB (tyN d) "str" = some (qS d) := fun d => by cases d <;> simp only [tyN, qT, qI, qB, qS, qD] <;> decide +kernel
theorem kit_D : ∀ d, kitB (tyN d) "dict" = some (qD d) := fun d => by cases d <;> simp only [tyN, qT, qI, qB, qS, qD] <;> decide +kernel
/-- t != (), any tuple -/
def rNeE (K : PySem.W.Frag) : R2 := fun x y H Q => ∃ (a b : Addr) (xs : List V), x = .ref a ∧ y = .ref b ∧ SqT K H a xs ∧ SqT K H b [] ∧ Q (.bl (!decide (xs = []))) H
theorem op_neE (hu : X.A.units + 64 < cLine) : OpR X (compareOp .NotEq) (rNeE X.K) := by
  intro pins s σ H x y v u Q I rx ry h
  obtain ⟨a, b, xs, rfl, rfl, ha, hb, q⟩ := h
  cases (show v = Value.ref a from rx)
  cases (show u = Value.ref b from ry)
  obtain ⟨us, r1, ⟨o1, h1, h2, n1, h3⟩, _⟩ := I.tuple ha
  obtain ⟨ws, r2, ⟨o2, g1, g2, n2, g3⟩, _⟩ := I.tuple hb
  have z : ws = [] := by cases r2; rfl
  subst z
  refine SeqAt.RcNeAt.tuples (e := fun _ => true) ⟨o1, h1, h2, n1, h3⟩ ⟨o2, g1, g2, n2, g3⟩ (by omega) (fun j _ j2 => absurd j2 (Nat.not_lt_zero j)) _ _ _ _ ?_
  have e : (!((List.range (min us.toArray.size ([] : List Value).toArray.size)).all (fun _ => true) && us.toArray.size == ([] : List Value).toArray.size)) = !decide (xs = []) := by
    have l1 := r1.length
    cases xs with
    | nil => cases us with
      | nil => rfl
      | cons _ _ => cases l1
    | cons _ _ => cases us with
      | nil => cases l1
      | cons _ _ => simp
  exact ⟨.bl (!decide (xs = [])), H, I, congrArg Value.bool e, q⟩
end
theorem filterMap_some {α β : Type} {f : α → Option β} {g : α → β} : ∀ {l : List α}, (∀ k ∈ l, f k = some (g k)) → l.filterMap f = l.map g
  | [], _ => rfl
  | a :: l, h => by
    rw [List.filterMap_cons, h a List.mem_cons_self, List.map_cons, filterMap_some fun k hk => h k (List.mem_cons_of_mem _ hk)]
section
variable {prog : Program} {w : World} {A : Around} {E : Value → Shared → Prop} {s : Shared}
theorem pick_back (xs : Array Value) : (List.range xs.size).filterMap (fun k : Nat => xs[((xs.size : Int) - 1 + (k : Int) * (-1)).toNat]?) = xs.toList.reverse := by
  refine List.ext_getElem? fun i => ?_
  have e : (List.range xs.size).filterMap (fun k : Nat => xs[((xs.size : Int) - 1 + (k : Int) * (-1)).toNat]?) = (List.range xs.size).map (fun k : Nat => (xs.toList.reverse)[k]?.getD .none) := by
    refine filterMap_some fun k hk => ?_
    have hk' := List.mem_range.mp hk
    have e1 : ((xs.size : Int) - 1 + (k : Int) * (-1)).toNat = xs.size - 1 - k := by omega
    have e2 : xs[xs.size - 1 - k]? = some xs[xs.size - 1 - k] := Array.getElem?_eq_getElem (by omega)
    rw [e1, e2]
    have e3 : xs.toList.reverse[k]? = some xs[xs.size - 1 - k] := by
      rw [List.getElem?_reverse (by rw [Array.length_toList]; exact hk'), Array.length_toList, Array.getElem?_toList, e2]
    rw [e3]
    rfl
  rw [e, List.getElem?_map]
  by_cases h : i < xs.size
  · rw [List.getElem?_range h]
    have : i < xs.toList.reverse.length := by rw [List.length_reverse, Array.length_toList]; exact h
    rw [List.getElem?_eq_getElem this]
    show some (xs.toList.reverse[i]?.getD .none) = _
    rw [List.getElem?_eq_getElem this]
    rfl
  · rw [List.getElem?_eq_none (by rw [List.length_range]; omega), List.getElem?_eq_none (by rw [List.length_reverse, Array.length_toList]; omega)]
    rfl
theorem applied_back {p : Addr} {u : Tok} {n : Nat} {Q : Int × Int × Nat → Shared → Prop} (hp : s.heap.IsSliceOf p .none .none (.int (-1) u)) (h : Q ((n : Int) - 1, -1, n) s) : wpAny (model prog w) A (Builtin.Slice.sliceApplied (.ref p) (pure (n : Int))) Q E s := by
  obtain ⟨o, e1, e2, e3⟩ := id hp
  unfold Builtin.Slice.sliceApplied Builtin.Slice.sliceFields
  refine wpAny_bind (wpAny_bind (wpAny_field e1 e3 (x := .none) rfl (wpAny_bind (wpAny_field e1 e3 (x := .none) rfl (wpAny_bind (wpAny_field e1 e3 (x := .int (-1) u) rfl (wpAny_pure ?_)))))))
  refine wpAny_bind (slicePart_int ?_)
  have nz : ¬ (((some (-1 : Int)).getD 1 == 0) = true) := by decide
  rw [if_neg nz]
  refine wpAny_bind (slicePart_none (wpAny_bind (slicePart_none (wpAny_bind (wpAny_pure (wpAny_pure ?_))))))
  have e4 : Builtin.Slice.slicePlaces ((n : Int) - 1) (-1) (-1) = n := by
    unfold Builtin.Slice.slicePlaces
    rw [if_neg (by decide)]
    split
    · rw [Int.neg_neg, Int.ediv_one]; omega
    · omega
  have e5 : Builtin.Slice.slicePlaces (Builtin.Slice.sliceAdjust none none (-1) (n : Int)).1 (Builtin.Slice.sliceAdjust none none (-1) (n : Int)).2 (-1) = n := e4
  show Q ((Builtin.Slice.sliceAdjust none none (-1) (n : Int)).1, -1, Builtin.Slice.slicePlaces (Builtin.Slice.sliceAdjust none none (-1) (n : Int)).1 (Builtin.Slice.sliceAdjust none none (-1) (n : Int)).2 (-1)) s
  rw [e5]
  exact h
theorem tup_back {t p : Addr} {its : Array Value} {u : Tok} {Q : Value → Shared → Prop} (ht : IsTup s.heap t its) (hp : s.heap.IsSliceOf p .none .none (.int (-1) u)) (hz : its.size ≤ sizeLine)
    (h : Q (.ref s.heap.objs.size) { s with heap := s.heap.push { cls := .type "tuple", data := .seq its.toList.reverse.toArray } }) : wpAny (model prog w) A (getItem (.ref t) (.ref p)) Q E s := by
  have ok : sizeOk (.seq its.toList.reverse.toArray) := by
    show its.toList.reverse.toArray.size ≤ sizeLine
    rw [List.size_toArray, List.length_reverse, Array.length_toList]
    exact hz
  have ty : s.TypeIs (.ref p) "slice" := by
    obtain ⟨o, e1, e2, _⟩ := hp
    exact ⟨o, e1, e2⟩
  unfold getItem
  refine wpAny_holding ?_
  refine wpAny_bind (wpAny_sequenceKey ht.typeIs (by decide) ?_)
  refine wpAny_bind (wpAny_callSpecial?_slot (name := Str.ofString "__getitem__") ht.typeIs PyProof.Rows.slot_tuple_getitem (wpAny_call_entry PyProof.Rows.slot_tuple_getitem ht.typeIs entry_tuple_getitem ?_ (args_tuple_getitem _ _)))
  show wpAny _ _ (Builtin.Tuple.tupleItemsOf (.ref t) >>= _) _ _ s
  refine wpAny_bind (tupleItemsOf_ ht (wpAny_bind (wpAny_typeOf ty ?_)))
  rw [if_pos (by decide)]
  refine wpAny_bind (applied_back hp ?_)
  have no : ¬ ((((its.size : Int) - 1 == 0) && ((-1 : Int) == 1) && (its.size == its.size)) = true) := by simp
  show wpAny _ _ (if (((its.size : Int) - 1 == 0) && ((-1 : Int) == 1) && (its.size == its.size)) = true then _ else _) _ _ s
  rw [if_neg no, pick_back]
  first
    | exact wpAny_bind (m := Builtin.Tuple.tupleExact _) (wpAny_newObj_type (wpAny_pure ⟨_, rfl, wpAny_pure h⟩) ok)
    | exact wpAny_bind (m := Builtin.Tuple.tupleExact _) (wpAny_newObj_type (wpAny_bind (wpAny_pure (wpAny_pure ⟨_, rfl, wpAny_pure h⟩))) ok)
    | exact wpAny_bind (wpAny_bind (m := Builtin.Tuple.tupleExact _) (wpAny_newObj_type (wpAny_pure (wpAny_pure ⟨_, rfl, wpAny_pure h⟩)) ok))
    | exact wpAny_bind (wpAny_bind (m := Builtin.Tuple.tupleExact _) (wpAny_newObj_type (wpAny_pure ⟨_, rfl, wpAny_pure h⟩) ok))
end
section
variable {X : Cx}
/-- t[::-1] -/
def tRevT (K : PySem.W.Frag) (te : TE) : TE := fun σ H Q => te σ H fun x H1 => ∃ a xs, x = .ref a ∧ SqT K H1 a xs ∧ ∀ p, H1 p = none → Q (.ref p) (upd H1 p (.tup xs.reverse))
theorem pe_revT {e : Expr} {te : TE} {k : Nat} {p1 p2 p3 pos : Pos} (he : PE X e te) : PE X (.Subscript e (.Slice none none (some (.UnaryOp .USub (.Constant (.int 1) k p1) p2)) p3) pos) (tRevT X.K te) := by
  constructor
  intro pins s σ H Q I h
  have st : PO X (some (.UnaryOp .USub (.Constant (.int 1) k p1) p2)) (tPart (tUn (rU fun i => .int (-i)) (tC (.int 1)))) := po_some (pe_un un_neg pe_int)
  refine Subscript_ (thn (he.run pins s σ H _ I h) ?_)
  rintro v s1 ⟨x, H1, I1, r1, a, xs, rfl, hx, q⟩
  cases (show v = Value.ref a from r1)
  refine wpAny_Slice (wpAny_pure (wpAny_pure (thn (st.run pins s1 σ H1 (fun o H4 => o = some (-1) ∧ H4 = H1) I1 ⟨1, rfl, -1, rfl, rfl, rfl⟩) ?_)))
  rintro vs s4 ⟨o, H4, I4, ps, rfl, rfl⟩
  obtain ⟨u, rfl⟩ : ∃ u, vs = .int (-1) u := by cases ps; exact ⟨_, rfl⟩
  have I5 : Inv X pins σ H4 { s4 with heap := s4.heap.push { cls := .type "slice", data := .fields #[.none, .none, .int (-1) u] } } := I4.kept (t' := s4.toks) fun b ob q => Heap.get?_push_of_some _ q
  obtain ⟨its, r, ht, hz⟩ := I5.tuple hx
  have ln := r.length
  show wpAny (model X.prog X.w) X.A (subscriptTail e (.Slice none none (some (.UnaryOp .USub (.Constant (.int 1) k p1) p2)) p3) (.ref a) (.ref s4.heap.objs.size)) (EP X pins σ Q) X.xe { s4 with heap := s4.heap.push { cls := .type "slice", data := .fields #[.none, .none, .int (-1) u] } }
  refine tail_any (ops := [.ref a, .ref s4.heap.objs.size]) ht.typeIs (PyProof.Rows.slot_tuple_getitem.lookup) ?_ (by with_unfolding_all rfl)
  refine tup_back ht (Heap.IsSliceOf.new _ .none .none (.int (-1) u)) (by rw [List.size_toArray, ← ln]; exact hz) ?_
  refine ⟨.ref _, _, I5.laid (t' := s4.toks) (o := .tup xs.reverse) (fun b ob q => Heap.get?_push_of_some _ q) (Nat.le_refl _) ?_, rfl, q _ (I5.hok.fresh (Nat.le_refl _))⟩
  exact ⟨by rw [List.length_reverse]; exact hz, _, r.reverse, IsTup.new _ _⟩
/-- t * k, k from 0 on, t not empty -/
def rRepN (K : PySem.W.Frag) : R2 := fun x y H Q => ∃ (l : Addr) (k : Nat) (xs : List V), x = .ref l ∧ y = .int k ∧ SqT K H l xs ∧ xs ≠ [] ∧ k ≤ 1000 ∧ xs.length ≤ 1000 ∧ ∀ (p : Addr) (H' : Hp), Same H H' → SqT K H' p (List.replicate k xs).flatten → Q (.ref p) H'
theorem op_repN : OpR X (binaryOp .Mult) (rRepN X.K) := by
  intro pins s σ H x y v u Q I rx ry h
  obtain ⟨l, k, xs, rfl, rfl, hT, hne, h1, h2, q⟩ := h
  have nw : ∀ (p : Addr) (ys : List V), H p = none → Same H (upd H p (.tup ys)) := fun p ys hp c o e => by rw [upd_ne (ne_of_none e hp)]; exact e
  by_cases c : 2 ≤ k
  · refine op_repT pins s σ H _ _ v u Q I rx ry ⟨l, (k : Int), xs, rfl, rfl, hT, hne, by omega, by omega, h2, fun p hp => ?_⟩
    exact q p _ (nw p _ hp) (SqT.of upd_same)
  · refine op_rep01 pins s σ H _ _ v u Q I rx ry ⟨l, (k : Int), xs, rfl, rfl, hT, hne, by omega, fun e => ?_, fun e p hp => ?_⟩
    · have e1 : k = 1 := by omega
      subst e1
      exact q l H (Same.refl H) (by simpa using hT)
    · have e1 : k = 0 := by omega
      subst e1
      exact q p _ (nw p _ hp) (SqT.of upd_same)
theorem fold_size {α : Type} (a : Array α) : ∀ (k : Nat) (b : Array α), ((List.replicate k a).foldl (· ++ ·) b).size = b.size + k * a.size
  | 0, b => by simp
  | k + 1, b => by
    rw [List.replicate_succ, List.foldl_cons, fold_size a k, Array.size_append, Nat.succ_mul]
    omega
theorem mulS_len (z : Str) (k : Nat) : (⟨(List.replicate k z.cps).foldl (· ++ ·) #[]⟩ : Str).length = k * z.length := by
  have := fold_size z.cps k #[]
  show Array.size _ = k * z.cps.size
  rw [this]
  simp
/-- 'b' * k -/
def rMulS : R2 := fun x y H Q => ∃ (z : Str) (k : Nat), x = .str z ∧ y = .int k ∧ 2 ≤ k ∧ k ≤ 1000 ∧ 1 ≤ z.length ∧ z.length ≤ 1000 ∧ Q (.str ⟨(List.replicate k z.cps).foldl (· ++ ·) #[]⟩) H
theorem op_mulStr : OpR X (binaryOp .Mult) rMulS := by
  intro pins s σ H x y v u Q I rx ry h
  obtain ⟨z, k, rfl, rfl, h1, h2, h3, h4, q⟩ := h
  obtain ⟨t, rfl⟩ := (show ∃ t, v = Value.str z t from rx)
  obtain ⟨t2, rfl⟩ := (show ∃ t, u = Value.int k t from ry)
  have hm : z.length * k ≤ 1000 * 1000 := Nat.mul_le_mul h4 h2
  have no : (((k : Int) == 1) || (z.length == 0)) = false := by
    rw [Bool.or_eq_false_iff]
    exact ⟨beq_eq_false_iff_ne.mpr (by omega), beq_eq_false_iff_ne.mpr (by omega)⟩
  refine P.mul_str ?_ (fun _ _ => ?_) (fun _ _ => ?_) ?_
  · rw [decide_eq_false (by omega), decide_eq_false (by omega)]; rfl
  · have : (1000 : Int) ≤ (2 ^ 63 - 1) / (k : Int) := Int.le_ediv_of_mul_le (by omega) (by omega)
    omega
  · unfold Builtin.Str.tooLong
    rw [sizeLine_eq, Int.toNat_natCast]
    exact decide_eq_false (by omega)
  · rw [if_neg (by omega), no]
    exact ⟨by rw [Int.toNat_natCast, mulS_len, Nat.mul_comm, sizeLine_eq]; omega, ⟨.str _, H, I.tok _, ⟨_, rfl⟩, by rw [Int.toNat_natCast]; exact q⟩⟩
end
end Ns

/-! OB: data within bounds; data in a heap but for the bag. -/
namespace Y
open PySem PySem.Spec PyProof.Rows L2 Ns
mutual
/-- no row, text or number is longer than w -/
def Bd (w : Nat) : PyData → Prop
  | .none => True
  | .bool _ => True
  | .int i => i.natAbs < 10 ^ w
  | .str z => z.length ≤ w
  | .list ds => ds.length ≤ w ∧ BdA w ds
  | .tuple ds => ds.length ≤ w ∧ BdA w ds
  | .dict kvs => kvs.length ≤ w
def BdA (w : Nat) : List PyData → Prop
  | [] => True
  | d :: ds => Bd w d ∧ BdA w ds
end
theorem bdA_iff {w : Nat} : ∀ {ds : List PyData}, BdA w ds ↔ ∀ d ∈ ds, Bd w d
  | [] => by simp [BdA]
  | d :: ds => by
    have ih := bdA_iff (w := w) (ds := ds)
    simp only [BdA, List.mem_cons, forall_eq_or_imp, ih]
theorem pow_up {i w w' : Nat} (h : i < 10 ^ w) (hw : w ≤ w') : i < 10 ^ w' := Nat.lt_of_lt_of_le h (Nat.pow_le_pow_right (by decide) hw)
mutual
theorem Bd.up {w w' : Nat} (hw : w ≤ w') : ∀ {d : PyData}, Bd w d → Bd w' d
  | .none, _ => by simp only [Bd]
  | .bool _, _ => by simp only [Bd]
  | .int i, h => by simp only [Bd] at h ⊢; exact pow_up h hw
  | .str z, h => by simp only [Bd] at h ⊢; omega
  | .list ds, h => by simp only [Bd] at h ⊢; exact ⟨by omega, BdA.up hw h.2⟩
  | .tuple ds, h => by simp only [Bd] at h ⊢; exact ⟨by omega, BdA.up hw h.2⟩
  | .dict kvs, h => by simp only [Bd] at h ⊢; omega
theorem BdA.up {w w' : Nat} (hw : w ≤ w') : ∀ {ds : List PyData}, BdA w ds → BdA w' ds
  | [], _ => by simp only [BdA]
  | d :: ds, h => by simp only [BdA] at h ⊢; exact ⟨Bd.up hw h.1, BdA.up hw h.2⟩
end
theorem datA_mem {K : PySem.W.Frag} {H : Hp} : ∀ {xs : List V} {ds : List PyData}, DatA K H xs ds → ∀ {x : V}, x ∈ xs → ∃ d ∈ ds, DatV K H x d
  | _, _, .cons (d := d) h t, x, hx => by
    rcases List.mem_cons.mp hx with e | e
    · exact ⟨d, List.mem_cons_self, by rw [e]; exact h⟩
    · obtain ⟨d', h1, h2⟩ := datA_mem t e
      exact ⟨d', List.mem_cons_of_mem _ h1, h2⟩
theorem datA_at {K : PySem.W.Frag} {H : Hp} : ∀ {xs : List V} {ds : List PyData}, DatA K H xs ds → ∀ {i : Nat} {x : V}, xs[i]? = some x → ∃ d, ds[i]? = some d ∧ DatV K H x d
  | _, _, .cons (d := d) h _, 0, x, e => by
    rw [List.getElem?_cons_zero] at e
    cases e
    exact ⟨d, rfl, h⟩
  | _, _, .cons _ t, i + 1, x, e => by
    rw [List.getElem?_cons_succ] at e
    exact datA_at t e
theorem datA_app {K : PySem.W.Frag} {H : Hp} : ∀ {xs : List V} {ds : List PyData}, DatA K H xs ds → ∀ {ys : List V} {es : List PyData}, DatA K H ys es → DatA K H (xs ++ ys) (ds ++ es)
  | _, _, .nil, _, _, h => h
  | _, _, .cons h t, _, _, g => .cons h (datA_app t g)
theorem datA_take {K : PySem.W.Frag} {H : Hp} : ∀ {xs : List V} {ds : List PyData}, DatA K H xs ds → ∀ n : Nat, DatA K H (xs.take n) (ds.take n)
  | _, _, .nil, n => by rw [List.take_nil, List.take_nil]; exact .nil
  | _, _, .cons _ _, 0 => .nil
  | _, _, .cons h t, n + 1 => .cons h (datA_take t n)
theorem datA_drop {K : PySem.W.Frag} {H : Hp} : ∀ {xs : List V} {ds : List PyData}, DatA K H xs ds → ∀ n : Nat, DatA K H (xs.drop n) (ds.drop n)
  | _, _, .nil, n => by rw [List.drop_nil, List.drop_nil]; exact .nil
  | _, _, .cons h t, 0 => .cons h t
  | _, _, .cons _ t, n + 1 => datA_drop t n
theorem datA_rev {K : PySem.W.Frag} {H : Hp} : ∀ {xs : List V} {ds : List PyData}, DatA K H xs ds → DatA K H xs.reverse ds.reverse
  | _, _, .nil => .nil
  | _, _, .cons h t => by
    rw [List.reverse_cons, List.reverse_cons]
    exact datA_app (datA_rev t) (.cons h .nil)
theorem datA_ints {K : PySem.W.Frag} {H : Hp} : ∀ ns : List Int, DatA K H (ns.map V.int) (ns.map PyData.int)
  | [] => .nil
  | n :: ns => .cons (.int n) (datA_ints ns)
theorem sqt_wo' {K : PySem.W.Frag} {H : Hp} {b p : Addr} {xs : List V} (h : SqT K H p xs) (B : Bag H b) : SqT K (wo H b) p xs := by
  have nb : ∀ {o : HO}, H p = some o → (∀ l, o ≠ .lst l) → p ≠ b := fun {o} e n z => by
    obtain ⟨_, _, _, _, _, h1, _⟩ := B
    rw [z, h1] at e
    exact n _ (Option.some.inj e).symm
  rcases h with (h | ⟨o, h⟩) | h
  · exact .inl (.inl ((wo_ne (nb h (fun l z => by cases z))).trans h))
  · exact .inl (.inr ⟨o, (wo_ne (nb h (fun l z => by cases z))).trans h⟩)
  · exact .inr h
/-- t[lo:hi], the result by what stands at it -/
def rSlP (K : PySem.W.Frag) : V → Option Int → Option Int → Hp → VK → Prop := fun x lo hi H Q => ∃ a xs, x = .ref a ∧ SqT K H a xs ∧ ∀ (p : Addr) (H' : Hp), Same H H' → SqT K H' p (cutV xs lo hi) → Q (.ref p) H'
theorem cut_all {xs : List V} {lo hi : Option Int} (h : HT.sIx xs.length 0 lo = 0 ∧ HT.sIx xs.length xs.length hi = xs.length) : cutV xs lo hi = xs := by
  unfold cutV
  rw [h.1, h.2, List.drop_zero, Nat.sub_zero, List.take_length]
theorem sl_tupP {X : Cx} : SlR X (rSlP X.K) := by
  intro pins s σ H x v vl vu lo hi sl Q I rx hs pl pu h
  obtain ⟨a, xs, rfl, hx, q⟩ := h
  exact sl_tupA pins s σ H _ v vl vu lo hi sl Q I rx hs pl pu ⟨a, xs, rfl, hx, fun e => q a H (Same.refl H) (by rw [cut_all e]; exact hx), fun _ p hp => q p _ (same_new (Same.refl H) hp) (SqT.of upd_same)⟩
/-- t + u, the result by what stands at it -/
def rCatP (K : PySem.W.Frag) : R2 := fun x y H Q => ∃ a b xs ys, x = .ref a ∧ y = .ref b ∧ SqT K H a xs ∧ SqT K H b ys ∧ xs.length + ys.length ≤ sizeLine ∧ ∀ (p : Addr) (H' : Hp), Same H H' → SqT K H' p (xs ++ ys) → Q (.ref p) H'
theorem op_catP {X : Cx} : OpR X (binaryOp .Add) (rCatP X.K) := by
  intro pins s σ H x y v u Q I rx ry h
  obtain ⟨a, b, xs, ys, rfl, rfl, ha, hb, hz, q⟩ := h
  refine op_catA pins s σ H _ _ v u Q I rx ry ⟨a, b, xs, ys, rfl, rfl, ha, hb, hz, fun e => q b H (Same.refl H) (by rw [e]; exact hb), fun _ e => q a H (Same.refl H) (by rw [e, List.append_nil]; exact ha), fun _ _ p hp => q p _ (same_new (Same.refl H) hp) (SqT.of upd_same)⟩
end Y

namespace Y
open PySem PySem.Spec PyProof.Rows L2 Ns
open C8 (pss_cut)
/-- the things in some order: a new list -/
def spMixed (K : PySem.W.Frag) : Sp := fun as H Q _ => ∃ (b a : Addr) (xs : List V), as = [.ref b, .ref a] ∧ Bag H b ∧ SqL K (wo H b) a xs ∧ xs.length ≤ 1000 ∧
  ∀ (p : Addr) (ys : List V) (H' : Hp), ys.Perm xs → H' p = some (.lst ys) → H p = none → p ≠ b → Bag H' b → Sb b H H' → Q (.ref p) H'
/-- one sign of a text -/
def spSomeS : Sp := fun as H Q _ => ∃ (b : Addr) (z : Str), as = [.ref b, .str z] ∧ Bag H b ∧ z.length ≠ 0 ∧ z.length ≤ 1000 ∧ ∀ (c : Nat) (H' : Hp), c ∈ z.cps.toList → Bag H' b → Sb b H H' → Q (.str ⟨#[c]⟩) H'
section
variable {P : Program} {w : World} {K : PySem.W.Frag} {mg : Str → Option Value} {base : Heap}
theorem scM : FnScope ["bag", "things", "found", "thing"] ["bag", "things"] (defScope sMixed) := ⟨rfl, rfl, rfl, by decide +kernel, rfl, by decide +kernel, by decide +kernel⟩
theorem ok_mixed {f fT : Addr} {fd fdT : FuncData} (F : Fun K "_law_mixed" "_law_mixed" sMixed f fd) (T : Nat0 mg) (FT : Fun K "_law_take" "_law_take" sTake fT fdT) (mT : mg "_law_take" = some (.ref fT)) (bT : Binds K fdT ["bag", "many"] []) :
    FnOk P w K mg base CX0 2 f fd ["bag", "things"] (spMixed K) := by
  have GT : FnOk P w K mg base CX0 1 fT fdT ["bag", "many"] spTake := ok_take FT T
  refine F.ok scM (fun as H Q E h => ?_) (fun cdv A outer s H as Q E hr h => ?_)
  · obtain ⟨b, a, xs, rfl, _⟩ := h
    rfl
  · obtain ⟨b, a, xs, rfl, hB, hS, hl, k⟩ := h
    refine ⟨_, pss_cons (ps_set (i := 2) scM.nd rfl (.inl rfl) (pe_lst pa_nil))
      (pss_cons (ps_for PassesOwn.never rfl (pi_list (pv 1)) (pg_name (i := 3) scM.nd rfl (.inl rfl))
        (pss_one (ps_expr (pe_bm PySem.F.plainAttrs_list PySem.F.slot_list_insert PySem.F.type_list_insert mt_insert (pv 2)
          (pa_cons (pe_call GT hr rfl mT FT.kp bT .nil pass0 (pa_cons (pv 0) (pa_cons (pe_op op_add (pe_callB call_len_seq (by rfl) T.len PySem.boot_len (pa_cons (pv 2) pa_nil)) pe_int) pa_nil))) (pa_cons (pv 3) pa_nil))))))
      (pss_one (ps_ret (pv 2)))), ?_⟩
    refine ⟨by show 0 ≤ sizeLine; decide, fun p hp => ?_⟩
    have npb : p ≠ b := hB.ne hp
    have hS0 : SqL K (upd H p (.lst [])) a xs := Same.seq (same_new (Same.refl H) hp) ((wo_sub H b).seq hS)
    refine ⟨_, rfl, a, rfl, ⟨_, hS0⟩, ?_⟩
    refine for_list (K := K) (a := a) (xs := xs) (fun i σ H' => ∃ (v : Option V) (ys : List V), σ = [some (.ref b), some (.ref a), some (.ref p), v] ∧ H' p = some (.lst ys) ∧ ys.Perm (xs.take i) ∧ Bag H' b ∧ Sb b H H') ?_ ?_ ?_ ?_
    · exact ⟨none, [], rfl, upd_same, by rw [List.take_zero], hB.new hp, (Sb.refl b H).new hp⟩
    · rintro i σ H' _ ⟨v, ys, _, _, _, _, s⟩
      exact (wo_sub H' b).seq (s.sl hS)
    · rintro i x σ H' hx ⟨v, ys, rfl, h1, h2, h3, h4⟩
      have hi : i < xs.length := (List.getElem?_eq_some_iff.mp hx).1
      have hyl : ys.length = i := by rw [h2.length_eq, List.length_take]; omega
      refine ⟨_, rfl, .inl ⟨rfl, _, SqL.of h1⟩, _, rfl, _, rfl, p, _, rfl, .inl (SqL.of h1), ys.length, 1, rfl, rfl, b, _, rfl, h3, by omega, Nat.lt_of_le_of_lt (show ((ys.length : Int) + 1).natAbs ≤ 2000 by omega) (by decide), fun j H2 h0 hj hB2 sb2 => ?_⟩
      have e2 := sb2.get h1 npb
      refine ⟨_, rfl, p, ys, j, x, rfl, rfl, e2, small1000 (by omega), h0, by omega, some x, _, rfl, upd_same, put_perm h2 hx, ?_, ?_⟩
      · exact hB.wr hp (h4.trans sb2) hB2
      · exact (h4.trans sb2).wr hp
    · rintro σ H' ⟨v, ys, rfl, h1, h2, h3, h4⟩
      rw [List.take_length] at h2
      exact ⟨_, rfl, k p ys H' h2 h1 hp npb h3 h4⟩
theorem ok_someS {f fT : Addr} {fd fdT : FuncData} (F : Fun K "_law_some" "_law_some" sSome f fd) (T : Nat0 mg) (FT : Fun K "_law_take" "_law_take" sTake fT fdT) (mT : mg "_law_take" = some (.ref fT)) (bT : Binds K fdT ["bag", "many"] []) :
    FnOk P w K mg base CX0 2 f fd ["bag", "things"] spSomeS := by
  have GT : FnOk P w K mg base CX0 1 fT fdT ["bag", "many"] spTake := ok_take FT T
  refine F.ok scS (fun as H Q E h => ?_) (fun cdv A outer s H as Q E hr h => ?_)
  · obtain ⟨b, z, rfl, _⟩ := h
    rfl
  · obtain ⟨b, z, rfl, hB, hne, hl, k⟩ := h
    refine ⟨_, pss_one (ps_ret (pe_ix ix_str (pv 1) (pe_call GT hr rfl mT FT.kp bT .nil pass0 (pa_cons (pv 0) (pa_cons (pe_callB call_len_str (by rfl) T.len PySem.boot_len (pa_cons (pv 1) pa_nil)) pa_nil))) (fun _ _ => rfl))), ?_⟩
    refine ⟨_, rfl, _, rfl, _, rfl, z, rfl, Nat.le_of_lt (small1000 hl), b, _, rfl, hB, by omega, ?_, fun v H' h0 h1 hB' sb => ?_⟩
    · exact Nat.lt_of_le_of_lt (show ((z.length : Int)).natAbs ≤ 1000 by omega) (by decide)
    · have hi : v.toNat < z.cps.toList.length := by
        have e : z.cps.toList.length = z.length := by first | rfl | simp [PySem.Str.length]
        omega
      have ev : v = ((v.toNat : Nat) : Int) := by omega
      obtain ⟨c, ec⟩ : ∃ c, z.cps.toList[v.toNat]? = some c := ⟨_, List.getElem?_eq_getElem hi⟩
      refine ⟨z, v, c, rfl, rfl, Nat.le_of_lt (small1000 hl), by rw [ev]; exact atI_nat ec, ?_⟩
      exact k c H' (List.mem_of_getElem? ec) hB' sb
end
end Y

/-! names, as texts: what is one, and that a row of tries comes to a new one -/
namespace Y
open PySem PySem.Spec PyProof.Rows L2 Ns
def isL (c : Nat) : Prop := 97 ≤ c ∧ c ≤ 122
def isD (c : Nat) : Prop := 48 ≤ c ∧ c ≤ 57
def isS (c : Nat) : Prop := isL c ∨ isD c
instance (c : Nat) : Decidable (isL c) := inferInstanceAs (Decidable (_ ∧ _))
instance (c : Nat) : Decidable (isD c) := inferInstanceAs (Decidable (_ ∧ _))
instance (c : Nat) : Decidable (isS c) := inferInstanceAs (Decidable (_ ∨ _))
/-- the signs of a name -/
def NmL (n : List Nat) : Prop := ∃ c r, n = c :: r ∧ isL c ∧ (∀ d ∈ r, isS d) ∧ r.length ≤ 19
def Nm (x : Str) : Prop := NmL x.cps.toList
abbrev letters : Str := "abcdefghijklmnopqrstuvwxyz"
abbrev signs : Str := "abcdefghijklmnopqrstuvwxyz0123456789"
theorem letters_ok : ∀ c ∈ letters.cps.toList, isL c := by decide +kernel
theorem signs_ok : ∀ c ∈ signs.cps.toList, isS c := by decide +kernel
theorem len_cps (z : Str) : z.cps.toList.length = z.length := by first | rfl | simp [PySem.Str.length]
theorem str_ext {x y : Str} (h : x.cps.toList = y.cps.toList) : x = y := by
  cases x
  cases y
  exact congrArg PySem.Str.mk (Array.toList_inj.mp h)
theorem Nm.len {x : Str} (h : Nm x) : 1 ≤ x.length ∧ x.length ≤ 20 := by
  obtain ⟨c, r, e, _, _, h⟩ := h
  rw [← len_cps, e, List.length_cons]
  omega
theorem nm_one {c : Nat} (h : isL c) : Nm ⟨#[c]⟩ := ⟨c, [], rfl, h, (fun _ z => nomatch z), by decide⟩
theorem nm_snoc {x : Str} {c : Nat} (h : Nm x) (hl : x.length ≤ 19) (hc : isS c) : Nm (x ++ ⟨#[c]⟩) := by
  obtain ⟨d, r, e, h1, h2, h3⟩ := h
  refine ⟨d, r ++ [c], by rw [cps_toList_append, e]; rfl, h1, fun k hk => ?_, ?_⟩
  · rcases List.mem_append.mp hk with q | q
    · exact h2 k q
    · rw [List.mem_singleton] at q
      rw [q]; exact hc
  · have q : x.cps.toList.length ≤ 19 := by rw [len_cps]; exact hl
    rw [e, List.length_cons] at q
    rw [List.length_append, List.length_singleton]
    omega
theorem cut_list (z : Str) (k : Nat) : (cutS z none (some (k : Int))).cps.toList = z.cps.toList.take k := by
  have e : HT.sIx z.length 0 none = 0 := rfl
  unfold cutS
  show ((z.cps.toList.drop (HT.sIx z.length 0 none)).take (HT.sIx z.length z.length (some (k : Int)) - HT.sIx z.length 0 none)) = _
  rw [e, List.drop_zero, Nat.sub_zero]
  have h : HT.sIx z.length z.length (some (k : Int)) = min k z.length := by
    unfold HT.sIx
    simp
    try omega
  rw [h, ← len_cps]
  rw [List.take_eq_take_iff]
  omega
theorem nm_cut {x : Str} {k : Nat} (h : Nm x) (hk : 1 ≤ k) : Nm (cutS x none (some (k : Int))) ∧ (cutS x none (some (k : Int))).length ≤ k := by
  obtain ⟨c, r, e, h1, h2, h3⟩ := h
  have q := cut_list x k
  obtain ⟨m, rfl⟩ : ∃ m, k = m + 1 := ⟨k - 1, by omega⟩
  rw [e, List.take_succ_cons] at q
  refine ⟨⟨c, r.take m, q, h1, fun d hd => h2 d (List.mem_of_mem_take hd), ?_⟩, ?_⟩
  · rw [List.length_take]; omega
  · rw [← len_cps, q, List.length_cons, List.length_take]; omega
/-- the digits of a number -/
def Dg (k : Nat) : List Nat := (toString (k : Int) : PySem.Str).cps.toList
theorem dg_digits : ∀ k, k < 101 → (∀ c ∈ Dg k, isD c) ∧ (Dg k).length ≤ 3 := by decide +kernel
theorem dg_inj : ∀ j, j < 101 → ∀ k, k < 101 → Dg j = Dg k → j = k := by decide +kernel
theorem not_both {c : Nat} (h : isL c) (g : isD c) : False := by
  unfold isL at h
  unfold isD at g
  omega
theorem split_same : ∀ {a b : List Nat} {c d : Nat} {r t : List Nat}, (∀ x ∈ a, isD x) → (∀ x ∈ b, isD x) → isL c → isL d → a ++ c :: r = b ++ d :: t → a = b
  | [], [], _, _, _, _, _, _, _, _, _ => rfl
  | [], y :: b, c, d, r, t, _, hb, hc, _, h => by
    injection h with h1 h2
    rw [h1] at hc
    exact (not_both hc (hb y List.mem_cons_self)).elim
  | x :: a, [], c, d, r, t, ha, _, _, hd, h => by
    injection h with h1 h2
    rw [← h1] at hd
    exact (not_both hd (ha x List.mem_cons_self)).elim
  | x :: a, y :: b, c, d, r, t, ha, hb, hc, hd, h => by
    injection h with h1 h2
    rw [h1, split_same (fun z hz => ha z (List.mem_cons_of_mem _ hz)) (fun z hz => hb z (List.mem_cons_of_mem _ hz)) hc hd h2]
/-- the k-th try -/
def Tr (k : Nat) (x : Str) : Prop := ∃ c r, isL c ∧ x.cps.toList = 120 :: (Dg k ++ c :: r)
theorem tr_inj {j k : Nat} {x : Str} (hj : j < 101) (hk : k < 101) (h : Tr j x) (g : Tr k x) : j = k := by
  obtain ⟨c, r, h1, h2⟩ := h
  obtain ⟨d, t, g1, g2⟩ := g
  rw [h2] at g2
  injection g2 with _ e
  exact dg_inj j hj k hk (split_same (dg_digits j hj).1 (dg_digits k hk).1 h1 g1 e)
def tryOf (k : Nat) (x : Str) : Str := ("x" : Str) ++ toString (k : Int) ++ cutS x none (some (16 : Int))
theorem tryOf_cps (k : Nat) (x : Str) : (tryOf k x).cps.toList = 120 :: (Dg k ++ x.cps.toList.take 16) := by
  unfold tryOf
  rw [cps_toList_append, cps_toList_append, show (16 : Int) = ((16 : Nat) : Int) from rfl, cut_list]
  rfl
theorem tr_try {k : Nat} {x : Str} (h : Nm x) : Tr k (tryOf k x) := by
  obtain ⟨c, r, e, h1, _⟩ := h
  exact ⟨c, r.take 15, h1, by rw [tryOf_cps, e]; rfl⟩
theorem nm_try {k : Nat} {x : Str} (h : Nm x) (hk : k < 101) : Nm (tryOf k x) := by
  obtain ⟨c, r, e, h1, h2, h3⟩ := h
  obtain ⟨d1, d2⟩ := dg_digits k hk
  refine ⟨120, Dg k ++ x.cps.toList.take 16, tryOf_cps k x, by decide, fun d hd => ?_, ?_⟩
  · rcases List.mem_append.mp hd with q | q
    · exact .inr (d1 d q)
    · have q' := List.mem_of_mem_take q
      rw [e] at q'
      rcases List.mem_cons.mp q' with z | z
      · rw [z]; exact .inl h1
      · exact h2 d z
  · rw [List.length_append, List.length_take]
    omega
abbrev feed : Str := "feed"
theorem tr_feed {k : Nat} {x : Str} (h : Tr k x) : x ≠ feed := by
  rintro rfl
  obtain ⟨c, r, _, e⟩ := h
  have e' : feed.cps.toList = [102, 101, 101, 100] := by decide +kernel
  rw [e'] at e
  cases e
theorem sub_len {α : Type} [DecidableEq α] : ∀ {l m : List α}, l.Nodup → (∀ x ∈ l, x ∈ m) → l.length ≤ m.length
  | [], _, _, _ => Nat.zero_le _
  | x :: l, m, hn, hs => by
    have hx := hs x List.mem_cons_self
    have q := sub_len (l := l) (m := m.erase x) (List.nodup_cons.mp hn).2 fun y hy => by
      have ne : y ≠ x := fun e => (List.nodup_cons.mp hn).1 (e ▸ hy)
      exact (List.mem_erase_of_ne ne).mpr (hs y (List.mem_cons_of_mem _ hy))
    rw [List.length_erase_of_mem hx] at q
    have := List.length_pos_of_mem hx
    rw [List.length_cons]
    omega
/-- ahead of the i-th turn -/
def Ahead (taken : List Str) (i : Nat) (x : Str) : Prop := Nm x ∧ ((x ∉ taken ∧ x ≠ feed) ∨ i = 0 ∨ ∃ seen : List Str, seen.length + 1 = i ∧ seen.Nodup ∧ (∀ s ∈ seen, s ∈ taken ∧ ∃ k, k + 1 < i ∧ Tr k s) ∧ Tr (i - 1) x)
theorem ahead_good {taken : List Str} {i : Nat} {x : Str} (h : Nm x) (h1 : x ∉ taken) (h2 : x ≠ feed) : Ahead taken (i + 1) x := ⟨h, .inl ⟨h1, h2⟩⟩
theorem ahead_bad {taken : List Str} {i : Nat} {x : Str} (hi : i < 101) (h : Ahead taken i x) (hb : x ∈ taken ∨ x = feed) : Ahead taken (i + 1) (tryOf i x) := by
  obtain ⟨n, h⟩ := h
  refine ⟨nm_try n hi, ?_⟩
  rcases h with ⟨h1, h2⟩ | rfl | ⟨seen, h1, h2, h3, h4⟩
  · rcases hb with q | q
    · exact absurd q h1
    · exact absurd q h2
  · exact .inr (.inr ⟨[], rfl, List.nodup_nil, (fun _ z => nomatch z), tr_try n⟩)
  · have hx : x ∈ taken := by
      rcases hb with q | q
      · exact q
      · exact absurd q (tr_feed h4)
    refine .inr (.inr ⟨x :: seen, by rw [List.length_cons]; omega, List.nodup_cons.mpr ⟨fun hm => ?_, h2⟩, fun s hs => ?_, tr_try n⟩)
    · obtain ⟨_, k, hk, ht⟩ := h3 x hm
      have := tr_inj (by omega) (by omega) ht h4
      omega
    · rcases List.mem_cons.mp hs with e | e
      · rw [e]
        exact ⟨hx, i - 1, by omega, h4⟩
      · obtain ⟨g1, k, g2, g3⟩ := h3 s e
        exact ⟨g1, k, by omega, g3⟩
theorem ahead_end {taken : List Str} {x : Str} (hl : taken.length ≤ 100) (h : Ahead taken (taken.length + 1) x) : Nm x ∧ x ∉ taken ∧ x ≠ feed := by
  obtain ⟨n, h⟩ := h
  refine ⟨n, ?_⟩
  rcases h with h | h | ⟨seen, h1, h2, h3, h4⟩
  · exact h
  · cases h
  · refine ⟨fun hx => ?_, tr_feed h4⟩
    have q := sub_len (l := x :: seen) (m := taken) (List.nodup_cons.mpr ⟨fun hm => ?_, h2⟩) fun s hs => by
      rcases List.mem_cons.mp hs with e | e
      · rw [e]; exact hx
      · exact (h3 s e).1
    · rw [List.length_cons] at q
      omega
    · obtain ⟨_, k, hk, ht⟩ := h3 x hm
      have := tr_inj (by omega) (by omega) ht h4
      omega
end Y

namespace Y
open PySem PySem.Spec PyProof.Rows L2 Ns
open C8 (pss_cut)
def txs (l : List Str) : List V := l.map V.str
def spName (K : PySem.W.Frag) : Sp := fun as H Q _ => ∃ (b a : Addr) (ts : List Str), as = [.ref b, .ref a] ∧ Bag H b ∧ SqL K (wo H b) a (txs ts) ∧ ts.length ≤ 100 ∧ (∀ t ∈ ts, Nm t) ∧ ∀ (x : Str) (H' : Hp), Nm x → x ∉ ts → x ≠ feed → Bag H' b → Sb b H H' → Q (.str x) H'
theorem dp_txs {K : PySem.W.Frag} {H : Hp} : ∀ ts : List Str, DpAll K H (txs ts) (ts.map PyData.str)
  | [] => .nil
  | t :: ts => .cons (.str t) (dp_txs ts)
theorem nm_ok {t : Str} (h : Nm t) : PyData.strOk t = true := by
  obtain ⟨c, r, e, h1, h2, _⟩ := h
  unfold PyData.strOk
  rw [Array.all_eq_true_iff_forall_mem]
  intro x hx
  have hx' : x ∈ t.cps.toList := by simpa using hx
  rw [e] at hx'
  refine decide_eq_true ?_
  rcases List.mem_cons.mp hx' with q | q
  · rw [q]; unfold isL at h1; omega
  · rcases h2 x q with z | z
    · unfold isL at z; omega
    · unfold isD at z; omega
theorem lay_txs : ∀ ts : List Str, (∀ t ∈ ts, Nm t) → PyData.canLayAll0 (ts.map PyData.str) = true ∧ PyData.depthAll (ts.map PyData.str) = 0
  | [], _ => ⟨rfl, rfl⟩
  | t :: ts, h => by
    obtain ⟨h1, h2⟩ := lay_txs ts fun t ht => h t (List.mem_cons_of_mem _ ht)
    exact ⟨by simp [PyData.canLayAll0, PyData.canLay0, h1, nm_ok (h t List.mem_cons_self)], by simp [PyData.depthAll, PyData.depth, h2]⟩
theorem shaped_txs {ts : List Str} (h : ∀ t ∈ ts, Nm t) : SeqAt.shaped (.list (ts.map PyData.str)) = true := by
  obtain ⟨h1, h2⟩ := lay_txs ts h
  simp [SeqAt.shaped, PyData.canLay0, PyData.depth, h1, h2]
theorem flat_txs (ts : List Str) : (txs ts).all flatV = true := by
  rw [List.all_eq_true]
  intro x hx
  obtain ⟨t, _, rfl⟩ := List.mem_map.mp hx
  rfl
theorem in_txs {x : Str} {ts : List Str} : inV (.str x) (txs ts) = true ↔ x ∈ ts := by
  unfold inV txs
  rw [List.any_map, List.any_eq_true]
  constructor
  · rintro ⟨y, hy, h⟩
    have e : y = x := by simpa [L2.eqV] using h
    rw [← e]; exact hy
  · intro h
    exact ⟨x, h, by simp [L2.eqV]⟩
theorem hx20 {x : Str} (h : Nm x) : x.length ≤ sizeLine := Nat.le_of_lt (small1000 (show x.length ≤ 1000 by have := h.len; omega))
section
variable {P : Program} {w : World} {K : PySem.W.Frag} {mg : Str → Option Value} {base : Heap}
theorem scN : FnScope ["bag", "taken", "letters", "signs", "name", "way", "k", "near"] ["bag", "taken"] (defScope sName) := ⟨rfl, rfl, rfl, by decide +kernel, rfl, by decide +kernel, by decide +kernel⟩
theorem ok_name {f fT fS : Addr} {fd fdT fdS : FuncData} (F : Fun K "_law_name" "_law_name" sName f fd) (T : Nat0 mg) (FT : Fun K "_law_take" "_law_take" sTake fT fdT) (mT : mg "_law_take" = some (.ref fT)) (bT : Binds K fdT ["bag", "many"] [])
    (FS : Fun K "_law_some" "_law_some" sSome fS fdS) (mS : mg "_law_some" = some (.ref fS)) (bS : Binds K fdS ["bag", "things"] []) :
    FnOk P w K mg base CX0 3 f fd ["bag", "taken"] (spName K) := by
  have GT : FnOk P w K mg base CX0 1 fT fdT ["bag", "many"] spTake := ok_take FT T
  have GS : FnOk P w K mg base CX0 2 fS fdS ["bag", "things"] (spSome K) := ok_some FS T FT mT bT
  have GZ : FnOk P w K mg base CX0 2 fS fdS ["bag", "things"] spSomeS := ok_someS FS T FT mT bT
  refine F.ok scN (fun as H Q E h => ?_) (fun cdv A outer s H as Q E hr h => ?_)
  · obtain ⟨b, a, ts, rfl, _⟩ := h
    rfl
  · obtain ⟨b, a, ts, rfl, hB, hS, hl, hn, k⟩ := h
    have hr1 : Room 1 _ := hr.mono (by decide)
    refine ⟨_, pss_cons (ps_asg (pe_tup (pa_cons pe_str (pa_cons pe_str pa_nil))) (pg_tup (by rfl) (pgs_cons (pg_name (i := 2) scN.nd rfl (.inl rfl)) (pgs_cons (pg_name (i := 3) scN.nd rfl (.inl rfl)) pgs_nil))))
      (pss_cons (ps_par (i := 4) (j := 5) rfl scN.nd rfl rfl (by decide) rfl rfl (pa_cons (pe_call GZ hr rfl mS FS.kp bS .nil pass0 (pa_cons (pv 0) (pa_cons (pv 2) pa_nil))) (pa_cons (pe_call GT hr1 rfl mT FT.kp bT .nil pass0 (pa_cons (pv 0) (pa_cons pe_int pa_nil))) pa_nil)) (by rfl))
      (pss_cons (ps_for PassesOwn.never rfl (pi_range1 (by rfl) T.range (pa_cons (pe_ix ix_list (pe_lst (pa_cons pe_int (pa_cons pe_int (pa_cons pe_int (pa_cons pe_int (pa_cons pe_int (pa_cons pe_int pa_nil))))))) (pv 5) (fun _ _ => rfl)) pa_nil)) (pg_name (i := 6) scN.nd rfl (.inl rfl))
        (pss_one (ps_set (i := 4) scN.nd rfl (.inl rfl) (pe_op op_add_str (pv 4) (pe_call GZ hr rfl mS FS.kp bS .nil pass0 (pa_cons (pv 0) (pa_cons (pv 3) pa_nil)))))))
      (pss_cut (ps_if (PW.pt (pw_and (pt_cmpR (op_neD hr.units) (pv 1) (pe_lst pa_nil) (nomark _)) (pw_and1 (pt_cmpR op_eq (pe_call GT hr1 rfl mT FT.kp bT .nil pass0 (pa_cons (pv 0) (pa_cons pe_int pa_nil))) pe_int (nomark _)))))
        (pss_cons (ps_set (i := 7) scN.nd rfl (.inl rfl) (pe_call GS hr rfl mS FS.kp bS .nil pass0 (pa_cons (pv 0) (pa_cons (pv 1) pa_nil))))
        (pss_one (ps_set (i := 4) scN.nd rfl (.inl rfl) (pe_op op_add_str (pe_ifExp (pt_cmpR op_eq (pe_call GT hr1 rfl mT FT.kp bT .nil pass0 (pa_cons (pv 0) (pa_cons pe_int pa_nil))) pe_int (nomark _)) (pe_slice sl_str (pv 7) po_none (po_some pe_int)) (pe_slice sl_str (pv 7) po_none (po_some pe_int)))
          (pe_call GZ hr rfl mS FS.kp bS .nil pass0 (pa_cons (pv 0) (pa_cons (pv 3) pa_nil))))))) pss_nil)
      (pss_cons (ps_for PassesOwn.never rfl (pi_range1 (by rfl) T.range (pa_cons (pe_op op_add (pe_callB call_len_seq (by rfl) T.len PySem.boot_len (pa_cons (pv 1) pa_nil)) pe_int) pa_nil)) (pg_name (i := 6) scN.nd rfl (.inl rfl))
        (pss_one (ps_if (PW.pt (pw_or (pt_cmpR op_in_seq (pv 4) (pv 1) (by rfl)) (pw_or1 (pt_cmpR op_eq (pv 4) pe_str (nomark _)))))
          (pss_one (ps_set (i := 4) scN.nd rfl (.inl rfl) (pe_op op_add_str (pe_op op_add_str pe_str (pe_callTy call_str_int (by rfl) T.str (by decide +kernel) (pa_cons (pv 6) pa_nil))) (pe_slice sl_str (pv 4) po_none (po_some pe_int))))) pss_nil)))
      (pss_one (ps_ret (pv 4))))))), ?_⟩
    refine ⟨by show 2 ≤ sizeLine; decide, fun p hp => ?_⟩
    refine ⟨p, _, rfl, SqT.of upd_same, rfl, ?_⟩
    have hB0 : Bag (upd H p (.tup [.str letters, .str signs])) b := hB.new hp
    have s0 : Sb b H (upd H p (.tup [.str letters, .str signs])) := (Sb.refl b H).new hp
    refine ⟨_, _, rfl, _, _, rfl, rfl, ?_⟩
    refine ⟨_, rfl, _, rfl, b, letters, rfl, hB0, by decide, by decide, fun c0 H1 hc0 hB1 s1 => ?_⟩
    refine ⟨_, rfl, b, 6, rfl, hB1, by decide, by decide, fun way H2 w0 w1 hB2 s2 => ?_⟩
    refine ⟨_, _, rfl, ?_⟩
    have s02 := (s0.trans s1).trans s2
    refine ⟨by show 6 ≤ sizeLine; decide, fun q hq => ⟨_, rfl, ?_⟩⟩
    obtain ⟨m, hm, hat⟩ : ∃ m : Nat, m ≤ 19 ∧ atI [V.int 0, V.int 1, V.int 2, V.int 5, V.int 12, V.int 19] way = some (.int m) := by
      have : way = 0 ∨ way = 1 ∨ way = 2 ∨ way = 3 ∨ way = 4 ∨ way = 5 := by omega
      rcases this with rfl | rfl | rfl | rfl | rfl | rfl
      · exact ⟨0, by decide, atI_nat (j := 0) rfl⟩
      · exact ⟨1, by decide, atI_nat (j := 1) rfl⟩
      · exact ⟨2, by decide, atI_nat (j := 2) rfl⟩
      · exact ⟨5, by decide, atI_nat (j := 3) rfl⟩
      · exact ⟨12, by decide, atI_nat (j := 4) rfl⟩
      · exact ⟨19, by decide, atI_nat (j := 5) rfl⟩
    refine ⟨q, _, way, _, rfl, rfl, SqL.of upd_same, hat, ?_⟩
    have hB3 := hB2.new (o := .lst [V.int 0, V.int 1, V.int 2, V.int 5, V.int 12, V.int 19]) hq
    have s3 := s02.new (o := .lst [V.int 0, V.int 1, V.int 2, V.int 5, V.int 12, V.int 19]) hq
    refine ⟨m, rfl, by omega, by omega, for_range (n := (m : Int).toNat) (fun i σ H' => ∃ (x : Str) (kk : Option V), σ = [some (.ref b), some (.ref a), some (.str letters), some (.str signs), some (.str x), some (.int way), kk, none] ∧ Nm x ∧ x.length ≤ i + 1 ∧ Bag H' b ∧ Sb b H H') ?_ ?_ ?_⟩
    · exact ⟨⟨#[c0]⟩, none, rfl, nm_one (letters_ok c0 hc0), Nat.le_refl 1, hB3, s3⟩
    · rintro i σ H' hi ⟨x, kk, rfl, hx, hxl, hB4, s4⟩
      refine ⟨_, rfl, _, rfl, _, rfl, b, signs, rfl, hB4, by decide, by decide, fun c H5 hc hB5 s5 => ?_⟩
      have hz : x.length ≤ 19 := by omega
      refine ⟨x, ⟨#[c]⟩, rfl, rfl, ?_, x ++ ⟨#[c]⟩, _, rfl, nm_snoc hx hz (signs_ok c hc), ?_, hB5, s4.trans s5⟩
      · exact Nat.le_of_lt (small1000 (show x.length + 1 ≤ 1000 by omega))
      · rw [strLen_append]
        show x.length + 1 ≤ _
        omega
    rintro σ H' ⟨x, kk, rfl, hx, hxl, hB4, s4⟩
    refine ⟨fun σ' H' => ∃ (x : Str) (kk nn : Option V), σ' = [some (.ref b), some (.ref a), some (.str letters), some (.str signs), some (.str x), some (.int way), kk, nn] ∧ Nm x ∧ Bag H' b ∧ Sb b H H', ?_, ?_⟩
    · refine ⟨_, rfl, by show 0 ≤ sizeLine; decide, fun r hr' => ?_⟩
      have hB5 := hB4.new (o := .lst []) hr'
      have s5 := s4.new (o := .lst []) hr'
      have hSn : SqL K (upd H' r (.lst [])) a (txs ts) := (wo_sub _ b).seq (s5.sl hS)
      refine ⟨.list (ts.map PyData.str), .list [], .lst hSn (dp_txs ts), .lst (SqL.of upd_same) .nil, shaped_txs hn, by decide +kernel, _, rfl, ?_⟩
      refine ite2 (fun hne => ?_) (fun _ => ⟨x, _, _, rfl, hx, hB5, s5⟩)
      have ne : txs ts ≠ [] := by
        rintro e
        have e' : ts = [] := List.map_eq_nil_iff.mp e
        rw [e'] at hne
        revert hne
        decide
      refine ⟨_, rfl, b, 3, rfl, hB5, by decide, by decide, fun v H6 v0 v1 hB6 s6 => ⟨rfl, _, rfl, ?_⟩⟩
      refine ite2 (fun _ => ?_) (fun _ => ⟨x, _, _, rfl, hx, hB6, s5.trans s6⟩)
      have s06 := s5.trans s6
      refine ⟨_, rfl, _, rfl, b, a, _, rfl, hB6, s06.sl hS, ne, ?_, fun y H7 hy hB7 s7 => ?_⟩
      · rw [show (txs ts).length = ts.length from List.length_map _]
        omega
      obtain ⟨t, ht, rfl⟩ := List.mem_map.mp hy
      have nt := hn t ht
      have s07 := s06.trans s7
      have tl : t.length ≤ sizeLine := Nat.le_of_lt (small1000 (show t.length ≤ 1000 by have := nt.len; omega))
      refine ⟨_, rfl, b, 2, rfl, hB7, by decide, by decide, fun v2 H8 v20 v21 hB8 s8 => ⟨rfl, _, rfl, ?_⟩⟩
      have s08 := s07.trans s8
      refine ite2 (fun _ => ?_) (fun _ => ?_)
      · refine ⟨_, rfl, _, rfl, t, rfl, tl, _, rfl, _, rfl, b, signs, rfl, hB8, by decide, by decide, fun c H9 hc hB9 s9 => ?_⟩
        obtain ⟨n1, n2⟩ : Nm (cutS t none (some (19 : Int))) ∧ (cutS t none (some (19 : Int))).length ≤ 19 := nm_cut nt (k := 19) (by decide)
        refine ⟨_, _, rfl, rfl, ?_, _, _, _, rfl, nm_snoc n1 n2 (signs_ok c hc), hB9, s08.trans s9⟩
        exact Nat.le_of_lt (small1000 (show _ + 1 ≤ 1000 by omega))
      · refine ⟨_, rfl, _, rfl, t, rfl, tl, _, rfl, _, rfl, b, signs, rfl, hB8, by decide, by decide, fun c H9 hc hB9 s9 => ?_⟩
        obtain ⟨n1, n2⟩ : Nm (cutS t none (some (1 : Int))) ∧ (cutS t none (some (1 : Int))).length ≤ 1 := nm_cut nt (k := 1) (by decide)
        refine ⟨_, _, rfl, rfl, ?_, _, _, _, rfl, nm_snoc n1 (Nat.le_trans n2 (by decide)) (signs_ok c hc), hB9, s08.trans s9⟩
        exact Nat.le_of_lt (small1000 (show _ + 1 ≤ 1000 by omega))
    rintro σ' H5 ⟨x, kk, nn, rfl, hx, hB5, s5⟩
    have tz : (txs ts).length = ts.length := List.length_map _
    refine ⟨_, rfl, a, _, rfl, .inl ((wo_sub _ b).seq (s5.sl hS)), ((txs ts).length : Nat), 1, rfl, rfl, ?_⟩
    refine ⟨_, rfl, by omega, by omega, for_range (n := (((txs ts).length : Int) + 1).toNat) (fun i σ H' => ∃ (x : Str) (kk : Option V), σ = [some (.ref b), some (.ref a), some (.str letters), some (.str signs), some (.str x), some (.int way), kk, nn] ∧ Ahead ts i x ∧ Bag H' b ∧ Sb b H H') ?_ ?_ ?_⟩
    · exact ⟨x, kk, rfl, ⟨hx, .inr (.inl rfl)⟩, hB5, s5⟩
    · rintro i σ H' hi ⟨x, kk, rfl, hA, hB6, s6⟩
      refine ⟨_, rfl, _, rfl, a, _, rfl, .inl ((wo_sub _ b).seq (s6.sl hS)), rfl, flat_txs ts, _, rfl, ?_⟩
      have i100 : i < 101 := by omega
      have xl := hx20 hA.1
      have go : ∀ (Z : Str → Hp → Prop), Z (tryOf i x) H' → Z ("x" ++ toString (0 + (i : Int)) ++ cutS x none (some 16)) H' := fun Z z => by rw [Int.zero_add]; exact z
      have l1 : (0 + (i : Int)).natAbs.log2 < 1920 := log2_small (Nat.lt_of_le_of_lt (show (0 + (i : Int)).natAbs ≤ 100 by omega) (by decide +kernel))
      have l2 : ("x" : Str).length + (toString (0 + (i : Int)) : Str).length ≤ sizeLine := by
        rw [Int.zero_add]
        have := (dg_digits i i100).2
        unfold Dg at this
        rw [len_cps] at this
        exact Nat.le_of_lt (small1000 (show 1 + _ ≤ 1000 by omega))
      have l3 : (("x" : Str) ++ (toString (0 + (i : Int)) : Str)).length + (cutS x none (some 16)).length ≤ sizeLine := by
        rw [Int.zero_add, strLen_append]
        have := (dg_digits i i100).2
        unfold Dg at this
        rw [len_cps] at this
        have : (cutS x none (some (16 : Int))).length ≤ 16 := (nm_cut hA.1 (k := 16) (by decide)).2
        exact Nat.le_of_lt (small1000 (show 1 + _ + _ ≤ 1000 by omega))
      refine ite2 (fun hin => ?_) (fun hin => ?_)
      · refine iteT ?_
        refine ⟨_, rfl, _, rfl, l1, _, _, rfl, rfl, l2, _, rfl, _, rfl, _, rfl, xl, _, _, rfl, rfl, l3, _, _, rfl, ?_, hB6, s6⟩
        rw [Int.zero_add]
        exact ahead_bad i100 hA (.inl (in_txs.mp hin))
      · refine ⟨_, rfl, rfl, _, rfl, ?_⟩
        refine ite2 (fun heq => ?_) (fun hne => ?_)
        · refine ⟨_, rfl, _, rfl, l1, _, _, rfl, rfl, l2, _, rfl, _, rfl, _, rfl, xl, _, _, rfl, rfl, l3, _, _, rfl, ?_, hB6, s6⟩
          rw [Int.zero_add]
          exact ahead_bad i100 hA (.inr (by simpa using heq))
        · exact ⟨x, _, rfl, ahead_good hA.1 (fun z => hin (in_txs.mpr z)) (by simpa using hne), hB6, s6⟩
    · rintro σ H' ⟨x, kk, rfl, hA, hB6, s6⟩
      obtain ⟨n1, n2, n3⟩ := ahead_end (x := x) hl (by rw [tz] at hA; exact hA)
      exact ⟨_, rfl, k x H' n1 n2 n3 hB6 s6⟩
end
end Y

namespace Y
open PySem PySem.Spec PyProof.Rows L2 Ns
open C8 (pss_cut)
theorem cut_from (xs : List V) (k : Nat) : cutV xs (some (k : Int)) none = xs.drop k := by
  unfold cutV
  rw [HT.sIx_nat, HT.sIx_none]
  rcases Nat.lt_or_ge xs.length k with h | h
  · rw [Nat.min_eq_right (Nat.le_of_lt h), Nat.sub_self, List.take_zero, List.drop_of_length_le (Nat.le_of_lt h)]
  · rw [Nat.min_eq_left h]
    exact List.take_of_length_le (by rw [List.length_drop]; exact Nat.le_refl _)
theorem cut_upto (xs : List V) (k : Nat) : cutV xs none (some (k : Int)) = xs.take k := by
  unfold cutV
  rw [HT.sIx_nat, HT.sIx_none, List.drop_zero, Nat.sub_zero]
  rw [List.take_eq_take_iff]
  omega
/-- a list that stands apart from the bag -/
theorem sql_new {K : PySem.W.Frag} {H : Hp} {b p : Addr} {xs : List V} (e : H p = some (.lst xs)) (n : p ≠ b) : SqL K (wo H b) p xs := SqL.of ((wo_ne n).trans e)
theorem sqt_new {K : PySem.W.Frag} {H : Hp} {b p : Addr} {xs : List V} (e : H p = some (.tup xs)) (n : p ≠ b) : SqT K (wo H b) p xs := SqT.of ((wo_ne n).trans e)
/-- new names -/
structure Nms (ts xs : List Str) : Prop where
  nm : ∀ x ∈ xs, Nm x
  nodup : xs.Nodup
  off : ∀ x ∈ xs, x ∉ ts ∧ x ≠ feed
def spNames (K : PySem.W.Frag) : Sp := fun as H Q _ => ∃ (b a : Addr) (m : Nat) (ts : List Str), as = [.ref b, .int m, .ref a] ∧ Bag H b ∧ SqL K (wo H b) a (txs ts) ∧ ts.length + m ≤ 100 ∧ (∀ t ∈ ts, Nm t) ∧
  ∀ (p : Addr) (xs : List Str) (H' : Hp), xs.length = m → Nms ts xs → H' p = some (.lst (txs xs)) → H p = none → Bag H' b → Sb b H H' → Q (.ref p) H'
def spSize : Sp := fun as H Q _ => ∃ (b : Addr) (m : Int), as = [.ref b, .int m] ∧ Bag H b ∧ 0 ≤ m ∧ m ≤ 10 ^ 13 ∧ ∀ (v : Int) (H' : Hp), 0 ≤ v → v ≤ m → Bag H' b → Sb b H H' → Q (.int v) H'
section
variable {P : Program} {w : World} {K : PySem.W.Frag} {mg : Str → Option Value} {base : Heap}
theorem scNs : FnScope ["bag", "many", "taken", "found", "k"] ["bag", "many", "taken"] (defScope sNames) := ⟨rfl, rfl, rfl, by decide +kernel, rfl, by decide +kernel, by decide +kernel⟩
theorem ok_names {f fN : Addr} {fd fdN : FuncData} (F : Fun K "_law_names" "_law_names" sNames f fd) (T : Nat0 mg) (GN : FnOk P w K mg base CX0 3 fN fdN ["bag", "taken"] (spName K)) (FN : Fun K "_law_name" "_law_name" sName fN fdN) (mN : mg "_law_name" = some (.ref fN)) (bN : Binds K fdN ["bag", "taken"] []) :
    FnOk P w K mg base CX0 4 f fd ["bag", "many", "taken"] (spNames K) := by
  refine F.ok scNs (fun as H Q E h => ?_) (fun cdv A outer s H as Q E hr h => ?_)
  · obtain ⟨b, a, m, ts, rfl, _⟩ := h
    rfl
  · obtain ⟨b, a, m, ts, rfl, hB, hS, hl, hn, k⟩ := h
    refine ⟨_, pss_cons (ps_set (i := 3) scNs.nd rfl (.inl rfl) (pe_callTy call_list_of (by rfl) T.list_ (by decide +kernel) (pa_cons (pv 2) pa_nil)))
      (pss_cons (ps_for PassesOwn.never rfl (pi_range1 (by rfl) T.range (pa_cons (pv 1) pa_nil)) (pg_name (i := 4) scNs.nd rfl (.inl rfl))
        (pss_one (ps_expr (pe_bm PySem.F.plainAttrs_list PySem.F.slot_list_append PySem.F.type_list_append mt_append (pv 3) (pa_cons (pe_call GN hr rfl mN FN.kp bN .nil pass0 (pa_cons (pv 0) (pa_cons (pv 3) pa_nil))) pa_nil)))))
      (pss_one (ps_ret (pe_slice sl_list (pv 3) (po_some (pe_callB call_len_seq (by rfl) T.len PySem.boot_len (pa_cons (pv 2) pa_nil))) po_none)))), ?_⟩
    refine ⟨_, rfl, a, _, rfl, .inl ((wo_sub H b).seq hS), fun p hp => ?_⟩
    have npb : p ≠ b := hB.ne hp
    refine ⟨_, rfl, m, rfl, by omega, by omega, for_range (n := ((m : Int)).toNat) (fun i σ H' => ∃ (kk : Option V) (xs : List Str), σ = [some (.ref b), some (.int m), some (.ref a), some (.ref p), kk] ∧ xs.length = i ∧ Nms ts xs ∧ H' p = some (.lst (txs (ts ++ xs))) ∧ Bag H' b ∧ Sb b H H') ?_ ?_ ?_⟩
    · exact ⟨none, [], rfl, rfl, ⟨(fun _ z => nomatch z), List.nodup_nil, (fun _ z => nomatch z)⟩, by rw [upd_same, List.append_nil], hB.new hp, (Sb.refl b H).new hp⟩
    · rintro i σ H' hi ⟨kk, xs, rfl, hx, N, e, hB1, s1⟩
      have hlen : (ts ++ xs).length ≤ 100 := by rw [List.length_append]; omega
      refine ⟨_, rfl, .inl ⟨rfl, _, SqL.of e⟩, _, rfl, _, rfl, b, p, ts ++ xs, rfl, hB1, sql_new e npb, hlen, fun t ht => ?_, fun x H2 nx n1 n2 hB2 s2 => ?_⟩
      · rcases List.mem_append.mp ht with q | q
        · exact hn t q
        · exact N.nm t q
      · have e2 := s2.get e npb
        refine ⟨p, _, _, rfl, rfl, e2, small1000 ?_, ⟨_, xs ++ [x], rfl, by rw [List.length_append, hx]; rfl, ⟨fun y hy => ?_, ?_, fun y hy => ?_⟩, ?_, hB.wr hp (s1.trans s2) hB2, (s1.trans s2).wr hp⟩⟩
        · rw [show (txs (ts ++ xs)).length = (ts ++ xs).length from List.length_map _]
          omega
        · rcases List.mem_append.mp hy with q | q
          · exact N.nm y q
          · rw [List.mem_singleton.mp q]; exact nx
        · rw [List.nodup_append]
          refine ⟨N.nodup, List.nodup_cons.mpr ⟨(fun z => nomatch z), List.nodup_nil⟩, fun y hy z hz => ?_⟩
          rw [List.mem_singleton.mp hz]
          rintro rfl
          exact n1 (List.mem_append_right _ hy)
        · rcases List.mem_append.mp hy with q | q
          · exact N.off y q
          · rw [List.mem_singleton.mp q]
            exact ⟨fun z => n1 (List.mem_append_left _ z), n2⟩
        · rw [upd_same, ← List.append_assoc]
          unfold txs
          rw [List.map_append (l₁ := ts ++ xs)]
          rfl
    · rintro σ H' ⟨kk, xs, rfl, hx, N, e, hB1, s1⟩
      refine ⟨_, rfl, _, rfl, a, _, rfl, .inl ((wo_sub H' b).seq (s1.sl hS)), _, rfl, p, _, rfl, SqL.of e, fun q hq => ?_⟩
      have e4 : cutV (txs (ts ++ xs)) (some (((txs ts).length : Nat) : Int)) none = txs xs := by
        rw [cut_from]
        unfold txs
        rw [List.map_append, List.drop_left]
      rw [e4]
      exact k q xs _ (by omega) N upd_same (s1.free hq (hB1.ne hq)) (hB1.new hq) (s1.new hq)
theorem scZ : FnScope ["bag", "most", "small"] ["bag", "most"] (defScope sSize) := ⟨rfl, rfl, rfl, by decide +kernel, rfl, by decide +kernel, by decide +kernel⟩
theorem ok_size {f fT fS : Addr} {fd fdT fdS : FuncData} (F : Fun K "_law_size" "_law_size" sSize f fd) (T : Nat0 mg) (FT : Fun K "_law_take" "_law_take" sTake fT fdT) (mT : mg "_law_take" = some (.ref fT)) (bT : Binds K fdT ["bag", "many"] [])
    (FS : Fun K "_law_some" "_law_some" sSome fS fdS) (mS : mg "_law_some" = some (.ref fS)) (bS : Binds K fdS ["bag", "things"] []) :
    FnOk P w K mg base CX0 3 f fd ["bag", "most"] spSize := by
  have GT : FnOk P w K mg base CX0 1 fT fdT ["bag", "many"] spTake := ok_take FT T
  have GS : FnOk P w K mg base CX0 2 fS fdS ["bag", "things"] (spSome K) := ok_some FS T FT mT bT
  refine F.ok scZ (fun as H Q E h => ?_) (fun cdv A outer s H as Q E hr h => ?_)
  · obtain ⟨b, m, rfl, _⟩ := h
    rfl
  · obtain ⟨b, m, rfl, hB, h0, h1, k⟩ := h
    have hr1 : Room 1 _ := hr.mono (by decide)
    refine ⟨_, pss_cons (ps_set (i := 2) scZ.nd rfl (.inl rfl) (pe_call GT hr1 rfl mT FT.kp bT .nil pass0 (pa_cons (pv 0) (pa_cons (pe_op op_add (pe_callB (call_min2 rfl) (by rfl) T.min (by decide +kernel) (pa_cons (pv 1) (pa_cons pe_int pa_nil))) pe_int) pa_nil))))
      (pss_one (ps_ret (pe_call GS hr rfl mS FS.kp bS .nil pass0 (pa_cons (pv 0) (pa_cons (pe_lst (pa_cons (pv 2) (pa_cons (pv 2) (pa_cons (pv 2) (pa_cons (pe_callB (call_min2 rfl) (by rfl) T.min (by decide +kernel) (pa_cons (pv 1) (pa_cons pe_int pa_nil)))
        (pa_cons (pe_call GT hr1 rfl mT FT.kp bT .nil pass0 (pa_cons (pv 0) (pa_cons (pe_op op_add (pv 1) pe_int) pa_nil))) (pa_cons (pv 1) pa_nil))))))) pa_nil))))), ?_⟩
    have big : ((10 : Int) ^ 13 + 1).natAbs < 2 ^ 200 := by decide +kernel
    refine ⟨_, rfl, _, rfl, m, 6, rfl, _, 1, rfl, rfl, b, _, rfl, hB, ?_, ?_, fun v H1 v0 v1 hB1 s1 => ?_⟩
    · split <;> omega
    · refine Nat.lt_of_le_of_lt ?_ big
      split <;> omega
    refine ⟨_, rfl, _, rfl, _, rfl, _, rfl, _, rfl, m, 1, rfl, _, rfl, _, rfl, m, 1, rfl, rfl, b, _, rfl, hB1, by omega, Nat.lt_of_le_of_lt (show (m + 1).natAbs ≤ _ by omega) big, fun u H2 u0 u1 hB2 s2 => ?_⟩
    refine ⟨_, rfl, by show 6 ≤ sizeLine; decide, fun p hp => ?_⟩
    refine ⟨b, p, _, rfl, hB2.new hp, sql_new upd_same (hB2.ne hp), (fun z => nomatch z), by show 6 ≤ 1000000; decide, fun x H' hx hB' s' => ?_⟩
    have fin : ∀ i : Int, x = .int i → 0 ≤ i → i ≤ m → Q x H' := fun i e g0 g1 => by
      rw [e]
      exact k i H' g0 g1 hB' (((s1.trans s2).new hp).trans s')
    have v1' : v ≤ m := by
      by_cases c : (6 : Int) < m
      · rw [if_pos c] at v1; omega
      · rw [if_neg c] at v1; omega
    simp only [List.mem_cons, List.not_mem_nil, or_false] at hx
    rcases hx with rfl | rfl | rfl | rfl | rfl | rfl
    · exact fin v rfl v0 v1'
    · exact fin v rfl v0 v1'
    · exact fin v rfl v0 v1'
    · refine fin _ rfl ?_ ?_ <;> split <;> omega
    · exact fin u rfl u0 (by omega)
    · exact fin m rfl h0 (Int.le_refl m)
end
end Y

/-! OC: _law_odd. -/
namespace Y
open PySem PySem.Spec PyProof.Rows L2 Ns
def bs : Str := ⟨(List.replicate 21 ("b" : Str).cps).foldl (· ++ ·) #[]⟩
theorem bs_len : bs.length ≤ 40 := by
  show (⟨(List.replicate 21 ("b" : Str).cps).foldl (· ++ ·) #[]⟩ : Str).length ≤ 40
  rw [mulS_len]
  decide
def oddDs : List PyData := [.none, .bool true, .bool false, .int (-1), .int 0, .int 1, .int (10 ^ Int.toNat 39), .str "", .str "a", .str "feed", .str "A", .str "a b", .str "7b", .str "a_b", .str bs, .tuple [], .list [], .dict [], .tuple [.str "a"], .tuple [.str "a", .str "b"], .tuple [.str "a", .str "b", .int 1], .list [.int 0], .tuple [.int 0], .tuple [.none], .tuple [.tuple []], .tuple [.tuple [], .tuple []], .dict [(.str "a", .int 1)], .str "\n", .tuple [.int 0, .int 1]]
theorem odd_bd : ∀ d ∈ oddDs, Bd 40 d := bdA_iff.mp (by
  unfold oddDs
  simp only [BdA, Bd, and_true, true_and]
  repeat (first | exact bs_len | (refine ⟨?_, ?_⟩) | decide)
  )
def spOdd (K : PySem.W.Frag) : Sp := fun as H Q _ => ∃ (b : Addr), as = [.ref b] ∧ Bag H b ∧ ∀ (x : V) (d : PyData) (H' : Hp), DatV K (wo H' b) x d → Bd 40 d → Bag H' b → Sb b H H' → Q x H'
section
variable {P : Program} {w : World} {K : PySem.W.Frag} {mg : Str → Option Value} {base : Heap}
theorem scO : FnScope ["bag", "some", "more"] ["bag"] (defScope sOdd) := ⟨rfl, rfl, rfl, by decide +kernel, rfl, by decide +kernel, by decide +kernel⟩
theorem ok_odd {f fS : Addr} {fd dS : FuncData} (F : Fun K "_law_odd" "_law_odd" sOdd f fd) (FS : Fun K "_law_some" "_law_some" sSome fS dS) (mS : mg "_law_some" = some (.ref fS)) (bS : Binds K dS ["bag", "things"] [])
    (GS : FnOk P w K mg base CX0 2 fS dS ["bag", "things"] (spSome K)) : FnOk P w K mg base CX0 3 f fd ["bag"] (spOdd K) := by
  refine F.ok scO (fun as H Q E h => ?_) (fun cdv A outer s H0 as Q E hr h => ?_)
  · obtain ⟨b, rfl, _⟩ := h
    rfl
  · obtain ⟨b, rfl, b0, k⟩ := h
    refine ⟨_, pss_cons (ps_set (i := 1) scO.nd rfl (.inl rfl) (pe_lst (pa_cons pe_non (pa_cons pe_bl (pa_cons pe_bl (pa_cons (pe_un un_neg pe_int) (pa_cons pe_int (pa_cons pe_int (pa_cons (pe_op op_pow pe_int pe_int) (pa_cons pe_str (pa_cons pe_str (pa_cons pe_str (pa_cons pe_str (pa_cons pe_str (pa_cons pe_str (pa_cons pe_str (pa_cons (pe_op op_mulStr pe_str pe_int) (pa_cons (pe_tup pa_nil) (pa_cons (pe_lst pa_nil) (pa_cons pe_dnewK pa_nil))))))))))))))))))))
      (pss_cons (ps_set (i := 2) scO.nd rfl (.inl rfl) (pe_lst (pa_cons (pe_tup (pa_cons pe_str pa_nil)) (pa_cons (pe_tup (pa_cons pe_str (pa_cons pe_str pa_nil))) (pa_cons (pe_tup (pa_cons pe_str (pa_cons pe_str (pa_cons pe_int pa_nil)))) (pa_cons (pe_lst (pa_cons pe_int pa_nil)) (pa_cons (pe_tup (pa_cons pe_int pa_nil)) (pa_cons (pe_tup (pa_cons pe_non pa_nil)) (pa_cons (pe_tup (pa_cons (pe_tup pa_nil) pa_nil)) (pa_cons (pe_tup (pa_cons (pe_tup pa_nil) (pa_cons (pe_tup pa_nil) pa_nil))) (pa_cons (pe_disp (pps_cons pe_str pe_int pps_nil) (by rfl) (by rfl) (fun z => by cases z) (by decide)) (pa_cons pe_str (pa_cons (pe_tup (pa_cons pe_int (pa_cons pe_int pa_nil))) pa_nil)))))))))))))
      (pss_one (ps_ret (pe_call GS hr rfl mS FS.kp bS .nil pass0 (pa_cons (pv 0) (pa_cons (pe_op op_cat (pv 1) (pv 2)) pa_nil)))))), ?_⟩
    refine ⟨1, rfl, ?_⟩
    refine ⟨10, 39, rfl, rfl, ⟨by decide, by decide, by decide⟩, ?_⟩
    refine ⟨"b", 21, rfl, rfl, by decide, by decide, by decide, by decide, ?_⟩
    refine ⟨by show 0 ≤ sizeLine; decide, fun t1 u1 => ?_⟩
    have m1 := same_new (o := .tup []) (Same.refl H0) u1
    have e1 : upd H0 t1 (.tup []) t1 = some (.tup []) := upd_same
    have b1 := b0.new (o := .tup []) u1
    have n1 : t1 ≠ b := b0.ne u1
    generalize upd H0 t1 (.tup []) = H1 at m1 e1 b1 ⊢
    refine ⟨by show 0 ≤ sizeLine; decide, fun t2 u2 => ?_⟩
    have m2 := same_new (o := .lst []) (Same.refl H1) u2
    have e2 : upd H1 t2 (.lst []) t2 = some (.lst []) := upd_same
    have b2 := b1.new (o := .lst []) u2
    have n2 : t2 ≠ b := b1.ne u2
    generalize upd H1 t2 (.lst []) = H2 at m2 e2 b2 ⊢
    refine fun t3 u3 => ?_
    have m3 := same_new (o := .dK []) (Same.refl H2) u3
    have e3 : upd H2 t3 (.dK []) t3 = some (.dK []) := upd_same
    have b3 := b2.new (o := .dK []) u3
    have n3 : t3 ≠ b := b2.ne u3
    generalize upd H2 t3 (.dK []) = H3 at m3 e3 b3 ⊢
    refine ⟨by show 18 ≤ sizeLine; decide, fun t4 u4 => ?_⟩
    have m4 := same_new (o := .lst [.non, .bl true, .bl false, .int (-1), .int 0, .int 1, .int (10 ^ Int.toNat 39), .str "", .str "a", .str "feed", .str "A", .str "a b", .str "7b", .str "a_b", .str ⟨(List.replicate 21 (Str.ofString "b").cps).foldl (fun x1 x2 => x1 ++ x2) #[]⟩, .ref t1, .ref t2, .ref t3]) (Same.refl H3) u4
    have e4 : upd H3 t4 (.lst [.non, .bl true, .bl false, .int (-1), .int 0, .int 1, .int (10 ^ Int.toNat 39), .str "", .str "a", .str "feed", .str "A", .str "a b", .str "7b", .str "a_b", .str ⟨(List.replicate 21 (Str.ofString "b").cps).foldl (fun x1 x2 => x1 ++ x2) #[]⟩, .ref t1, .ref t2, .ref t3]) t4 = some (.lst [.non, .bl true, .bl false, .int (-1), .int 0, .int 1, .int (10 ^ Int.toNat 39), .str "", .str "a", .str "feed", .str "A", .str "a b", .str "7b", .str "a_b", .str ⟨(List.replicate 21 (Str.ofString "b").cps).foldl (fun x1 x2 => x1 ++ x2) #[]⟩, .ref t1, .ref t2, .ref t3]) := upd_same
    have b4 := b3.new (o := .lst [.non, .bl true, .bl false, .int (-1), .int 0, .int 1, .int (10 ^ Int.toNat 39), .str "", .str "a", .str "feed", .str "A", .str "a b", .str "7b", .str "a_b", .str ⟨(List.replicate 21 (Str.ofString "b").cps).foldl (fun x1 x2 => x1 ++ x2) #[]⟩, .ref t1, .ref t2, .ref t3]) u4
    have n4 : t4 ≠ b := b3.ne u4
    generalize upd H3 t4 (.lst [.non, .bl true, .bl false, .int (-1), .int 0, .int 1, .int (10 ^ Int.toNat 39), .str "", .str "a", .str "feed", .str "A", .str "a b", .str "7b", .str "a_b", .str ⟨(List.replicate 21 (Str.ofString "b").cps).foldl (fun x1 x2 => x1 ++ x2) #[]⟩, .ref t1, .ref t2, .ref t3]) = H4 at m4 e4 b4 ⊢
    refine ⟨by show 1 ≤ sizeLine; decide, fun t5 u5 => ?_⟩
    have m5 := same_new (o := .tup [.str "a"]) (Same.refl H4) u5
    have e5 : upd H4 t5 (.tup [.str "a"]) t5 = some (.tup [.str "a"]) := upd_same
    have b5 := b4.new (o := .tup [.str "a"]) u5
    have n5 : t5 ≠ b := b4.ne u5
    generalize upd H4 t5 (.tup [.str "a"]) = H5 at m5 e5 b5 ⊢
    refine ⟨by show 2 ≤ sizeLine; decide, fun t6 u6 => ?_⟩
    have m6 := same_new (o := .tup [.str "a", .str "b"]) (Same.refl H5) u6
    have e6 : upd H5 t6 (.tup [.str "a", .str "b"]) t6 = some (.tup [.str "a", .str "b"]) := upd_same
    have b6 := b5.new (o := .tup [.str "a", .str "b"]) u6
    have n6 : t6 ≠ b := b5.ne u6
    generalize upd H5 t6 (.tup [.str "a", .str "b"]) = H6 at m6 e6 b6 ⊢
    refine ⟨by show 3 ≤ sizeLine; decide, fun t7 u7 => ?_⟩
    have m7 := same_new (o := .tup [.str "a", .str "b", .int 1]) (Same.refl H6) u7
    have e7 : upd H6 t7 (.tup [.str "a", .str "b", .int 1]) t7 = some (.tup [.str "a", .str "b", .int 1]) := upd_same
    have b7 := b6.new (o := .tup [.str "a", .str "b", .int 1]) u7
    have n7 : t7 ≠ b := b6.ne u7
    generalize upd H6 t7 (.tup [.str "a", .str "b", .int 1]) = H7 at m7 e7 b7 ⊢
    refine ⟨by show 1 ≤ sizeLine; decide, fun t8 u8 => ?_⟩
    have m8 := same_new (o := .lst [.int 0]) (Same.refl H7) u8
    have e8 : upd H7 t8 (.lst [.int 0]) t8 = some (.lst [.int 0]) := upd_same
    have b8 := b7.new (o := .lst [.int 0]) u8
    have n8 : t8 ≠ b := b7.ne u8
    generalize upd H7 t8 (.lst [.int 0]) = H8 at m8 e8 b8 ⊢
    refine ⟨by show 1 ≤ sizeLine; decide, fun t9 u9 => ?_⟩
    have m9 := same_new (o := .tup [.int 0]) (Same.refl H8) u9
    have e9 : upd H8 t9 (.tup [.int 0]) t9 = some (.tup [.int 0]) := upd_same
    have b9 := b8.new (o := .tup [.int 0]) u9
    have n9 : t9 ≠ b := b8.ne u9
    generalize upd H8 t9 (.tup [.int 0]) = H9 at m9 e9 b9 ⊢
    refine ⟨by show 1 ≤ sizeLine; decide, fun t10 u10 => ?_⟩
    have m10 := same_new (o := .tup [.non]) (Same.refl H9) u10
    have e10 : upd H9 t10 (.tup [.non]) t10 = some (.tup [.non]) := upd_same
    have b10 := b9.new (o := .tup [.non]) u10
    have n10 : t10 ≠ b := b9.ne u10
    generalize upd H9 t10 (.tup [.non]) = H10 at m10 e10 b10 ⊢
    refine ⟨by show 0 ≤ sizeLine; decide, fun t11 u11 => ?_⟩
    have m11 := same_new (o := .tup []) (Same.refl H10) u11
    have e11 : upd H10 t11 (.tup []) t11 = some (.tup []) := upd_same
    have b11 := b10.new (o := .tup []) u11
    have n11 : t11 ≠ b := b10.ne u11
    generalize upd H10 t11 (.tup []) = H11 at m11 e11 b11 ⊢
    refine ⟨by show 1 ≤ sizeLine; decide, fun t12 u12 => ?_⟩
    have m12 := same_new (o := .tup [.ref t11]) (Same.refl H11) u12
    have e12 : upd H11 t12 (.tup [.ref t11]) t12 = some (.tup [.ref t11]) := upd_same
    have b12 := b11.new (o := .tup [.ref t11]) u12
    have n12 : t12 ≠ b := b11.ne u12
    generalize upd H11 t12 (.tup [.ref t11]) = H12 at m12 e12 b12 ⊢
    refine ⟨by show 0 ≤ sizeLine; decide, fun t13 u13 => ?_⟩
    have m13 := same_new (o := .tup []) (Same.refl H12) u13
    have e13 : upd H12 t13 (.tup []) t13 = some (.tup []) := upd_same
    have b13 := b12.new (o := .tup []) u13
    have n13 : t13 ≠ b := b12.ne u13
    generalize upd H12 t13 (.tup []) = H13 at m13 e13 b13 ⊢
    refine ⟨by show 0 ≤ sizeLine; decide, fun t14 u14 => ?_⟩
    have m14 := same_new (o := .tup []) (Same.refl H13) u14
    have e14 : upd H13 t14 (.tup []) t14 = some (.tup []) := upd_same
    have b14 := b13.new (o := .tup []) u14
    have n14 : t14 ≠ b := b13.ne u14
    generalize upd H13 t14 (.tup []) = H14 at m14 e14 b14 ⊢
    refine ⟨by show 2 ≤ sizeLine; decide, fun t15 u15 => ?_⟩
    have m15 := same_new (o := .tup [.ref t13, .ref t14]) (Same.refl H14) u15
    have e15 : upd H14 t15 (.tup [.ref t13, .ref t14]) t15 = some (.tup [.ref t13, .ref t14]) := upd_same
    have b15 := b14.new (o := .tup [.ref t13, .ref t14]) u15
    have n15 : t15 ≠ b := b14.ne u15
    generalize upd H14 t15 (.tup [.ref t13, .ref t14]) = H15 at m15 e15 b15 ⊢
    refine fun t16 u16 => ⟨upd_same, [((Sum.inr "a" : Key), V.int 1)], rfl, by decide, ?_⟩
    rw [upd_upd, show mergeK [] [((Sum.inr "a" : Key), V.int 1)] = [((Sum.inr "a" : Key), V.int 1)] from rfl]
    have m16 := same_new (o := .dK [((Sum.inr "a" : Key), V.int 1)]) (Same.refl H15) u16
    have e16 : upd H15 t16 (.dK [((Sum.inr "a" : Key), V.int 1)]) t16 = some (.dK [((Sum.inr "a" : Key), V.int 1)]) := upd_same
    have b16 := b15.new (o := .dK [((Sum.inr "a" : Key), V.int 1)]) u16
    have n16 : t16 ≠ b := b15.ne u16
    generalize upd H15 t16 (.dK [((Sum.inr "a" : Key), V.int 1)]) = H16 at m16 e16 b16 ⊢
    refine ⟨by show 2 ≤ sizeLine; decide, fun t17 u17 => ?_⟩
    have m17 := same_new (o := .tup [.int 0, .int 1]) (Same.refl H16) u17
    have e17 : upd H16 t17 (.tup [.int 0, .int 1]) t17 = some (.tup [.int 0, .int 1]) := upd_same
    have b17 := b16.new (o := .tup [.int 0, .int 1]) u17
    have n17 : t17 ≠ b := b16.ne u17
    generalize upd H16 t17 (.tup [.int 0, .int 1]) = H17 at m17 e17 b17 ⊢
    refine ⟨by show 11 ≤ sizeLine; decide, fun t18 u18 => ?_⟩
    have m18 := same_new (o := .lst [.ref t5, .ref t6, .ref t7, .ref t8, .ref t9, .ref t10, .ref t12, .ref t15, .ref t16, .str "\n", .ref t17]) (Same.refl H17) u18
    have e18 : upd H17 t18 (.lst [.ref t5, .ref t6, .ref t7, .ref t8, .ref t9, .ref t10, .ref t12, .ref t15, .ref t16, .str "\n", .ref t17]) t18 = some (.lst [.ref t5, .ref t6, .ref t7, .ref t8, .ref t9, .ref t10, .ref t12, .ref t15, .ref t16, .str "\n", .ref t17]) := upd_same
    have b18 := b17.new (o := .lst [.ref t5, .ref t6, .ref t7, .ref t8, .ref t9, .ref t10, .ref t12, .ref t15, .ref t16, .str "\n", .ref t17]) u18
    have n18 : t18 ≠ b := b17.ne u18
    generalize upd H17 t18 (.lst [.ref t5, .ref t6, .ref t7, .ref t8, .ref t9, .ref t10, .ref t12, .ref t15, .ref t16, .str "\n", .ref t17]) = H18 at m18 e18 b18 ⊢
    refine ⟨_, rfl, _, rfl, _, rfl, t4, t18, _, _, rfl, rfl, (m5.trans (m6.trans (m7.trans (m8.trans (m9.trans (m10.trans (m11.trans (m12.trans (m13.trans (m14.trans (m15.trans (m16.trans (m17.trans (m18.trans (Same.refl H18))))))))))))))) _ _ e4, e18, by show 18 + 11 ≤ sizeLine; decide, fun q hq => ?_⟩
    have f1 := (m2.trans (m3.trans (m4.trans (m5.trans (m6.trans (m7.trans (m8.trans (m9.trans (m10.trans (m11.trans (m12.trans (m13.trans (m14.trans (m15.trans (m16.trans (m17.trans (m18.trans (Same.refl H18)))))))))))))))))) _ _ e1
    have f2 := (m3.trans (m4.trans (m5.trans (m6.trans (m7.trans (m8.trans (m9.trans (m10.trans (m11.trans (m12.trans (m13.trans (m14.trans (m15.trans (m16.trans (m17.trans (m18.trans (Same.refl H18))))))))))))))))) _ _ e2
    have f3 := (m4.trans (m5.trans (m6.trans (m7.trans (m8.trans (m9.trans (m10.trans (m11.trans (m12.trans (m13.trans (m14.trans (m15.trans (m16.trans (m17.trans (m18.trans (Same.refl H18)))))))))))))))) _ _ e3
    have f5 := (m6.trans (m7.trans (m8.trans (m9.trans (m10.trans (m11.trans (m12.trans (m13.trans (m14.trans (m15.trans (m16.trans (m17.trans (m18.trans (Same.refl H18)))))))))))))) _ _ e5
    have f6 := (m7.trans (m8.trans (m9.trans (m10.trans (m11.trans (m12.trans (m13.trans (m14.trans (m15.trans (m16.trans (m17.trans (m18.trans (Same.refl H18))))))))))))) _ _ e6
    have f7 := (m8.trans (m9.trans (m10.trans (m11.trans (m12.trans (m13.trans (m14.trans (m15.trans (m16.trans (m17.trans (m18.trans (Same.refl H18)))))))))))) _ _ e7
    have f8 := (m9.trans (m10.trans (m11.trans (m12.trans (m13.trans (m14.trans (m15.trans (m16.trans (m17.trans (m18.trans (Same.refl H18))))))))))) _ _ e8
    have f9 := (m10.trans (m11.trans (m12.trans (m13.trans (m14.trans (m15.trans (m16.trans (m17.trans (m18.trans (Same.refl H18)))))))))) _ _ e9
    have f10 := (m11.trans (m12.trans (m13.trans (m14.trans (m15.trans (m16.trans (m17.trans (m18.trans (Same.refl H18))))))))) _ _ e10
    have f11 := (m12.trans (m13.trans (m14.trans (m15.trans (m16.trans (m17.trans (m18.trans (Same.refl H18)))))))) _ _ e11
    have f12 := (m13.trans (m14.trans (m15.trans (m16.trans (m17.trans (m18.trans (Same.refl H18))))))) _ _ e12
    have f13 := (m14.trans (m15.trans (m16.trans (m17.trans (m18.trans (Same.refl H18)))))) _ _ e13
    have f14 := (m15.trans (m16.trans (m17.trans (m18.trans (Same.refl H18))))) _ _ e14
    have f15 := (m16.trans (m17.trans (m18.trans (Same.refl H18)))) _ _ e15
    have f16 := (m17.trans (m18.trans (Same.refl H18))) _ _ e16
    have f17 := (m18.trans (Same.refl H18)) _ _ e17
    have M : Same H0 H18 := (m1.trans (m2.trans (m3.trans (m4.trans (m5.trans (m6.trans (m7.trans (m8.trans (m9.trans (m10.trans (m11.trans (m12.trans (m13.trans (m14.trans (m15.trans (m16.trans (m17.trans (m18.trans (Same.refl H18)))))))))))))))))))
    have D : DatA K (wo H18 b) ([.non, .bl true, .bl false, .int (-1), .int 0, .int 1, .int (10 ^ Int.toNat 39), .str "", .str "a", .str "feed", .str "A", .str "a b", .str "7b", .str "a_b", .str ⟨(List.replicate 21 (Str.ofString "b").cps).foldl (fun x1 x2 => x1 ++ x2) #[]⟩, .ref t1, .ref t2, .ref t3] ++ [.ref t5, .ref t6, .ref t7, .ref t8, .ref t9, .ref t10, .ref t12, .ref t15, .ref t16, .str "\n", .ref t17]) oddDs := (.cons .non
      (.cons (.bl _)
      (.cons (.bl _)
      (.cons (.int _)
      (.cons (.int _)
      (.cons (.int _)
      (.cons (.int _)
      (.cons (.str _)
      (.cons (.str _)
      (.cons (.str _)
      (.cons (.str _)
      (.cons (.str _)
      (.cons (.str _)
      (.cons (.str _)
      (.cons (.str _)
      (.cons (.tup (sqt_new f1 n1) .nil)
      (.cons (.lst (sql_new f2 n2) .nil)
      (.cons (.dic (kvs := []) ((wo_ne n3).trans f3) .nil)
      (.cons (.tup (sqt_new f5 n5) (.cons (.str _) .nil))
      (.cons (.tup (sqt_new f6 n6) (.cons (.str _) (.cons (.str _) .nil)))
      (.cons (.tup (sqt_new f7 n7) (.cons (.str _) (.cons (.str _) (.cons (.int _) .nil))))
      (.cons (.lst (sql_new f8 n8) (.cons (.int _) .nil))
      (.cons (.tup (sqt_new f9 n9) (.cons (.int _) .nil))
      (.cons (.tup (sqt_new f10 n10) (.cons .non .nil))
      (.cons (.tup (sqt_new f12 n12) (.cons (.tup (sqt_new f11 n11) .nil) .nil))
      (.cons (.tup (sqt_new f15 n15) (.cons (.tup (sqt_new f13 n13) .nil) (.cons (.tup (sqt_new f14 n14) .nil) .nil)))
      (.cons (.dic (kvs := [((Sum.inr "a" : Key), V.int 1)]) ((wo_ne n16).trans f16) (.cons (.int 1) .nil))
      (.cons (.str _)
      (.cons (.tup (sqt_new f17 n17) (.cons (.int _) (.cons (.int _) .nil)))
      .nil)))))))))))))))))))))))))))))
    clear m1 e1 m2 e2 m3 e3 m4 e4 m5 e5 m6 e6 m7 e7 m8 e8 m9 e9 m10 e10 m11 e11 m12 e12 m13 e13 m14 e14 m15 e15 m16 e16 m17 e17
    refine ⟨b, q, _, rfl, b18.new hq, sql_new upd_same (b18.ne hq), (fun z => nomatch z), by show 29 ≤ 1000000; decide, fun x H' hx hB' s' => ?_⟩
    obtain ⟨d, hd, Dx⟩ := datA_mem D hx
    exact k x d H' ((Dx.more (wo_same (same_new (Same.refl _) hq))).more s'.1) (odd_bd d hd) hB' (((Sb.refl b H0).same (same_new M hq)).trans s')
end
end Y


/-! OD: whole numbers and counts among any values. -/
namespace Y
open PySem PySem.Spec PyProof.Rows L2 Ns
def isInt : PyData → Bool | .int _ => true | _ => false
def isCnt : PyData → Bool | .int i => decide (0 ≤ i) | _ => false
theorem isInt_and (d : PyData) : isInt d = (qI d && !qB d) := by cases d <;> rfl
/-- what tells something of any value -/
def spTells (K : PySem.W.Frag) (f : PyData → Bool) : Sp := fun as H Q _ => ∃ (x : V) (d : PyData), as = [x] ∧ DatV K H x d ∧ Q (.bl (f d)) H
section
variable {P : Program} {w : World} {K : PySem.W.Frag} {mg : Str → Option Value} {base : Heap}
theorem scWh : FnScope ["thing"] ["thing"] (defScope sWhole) := ⟨rfl, rfl, rfl, by decide +kernel, rfl, by decide +kernel, by decide +kernel⟩
theorem ok_whole {f : Addr} {fd : FuncData} (F : Fun K "_law_whole" "_law_whole" sWhole f fd) (T : Nat0 mg) (hB : mg "bool" = none) : FnOk P w K mg base CX0 1 f fd ["thing"] (spTells K isInt) := by
  refine F.ok scWh (fun as H Q E h => ?_) (fun cdv A outer s H as Q E hr h => ?_)
  · obtain ⟨x, d, rfl, _⟩ := h
    rfl
  · obtain ⟨x, d, rfl, D, k⟩ := h
    refine ⟨_, pss_one (ps_ret (pe_and (pe_callB (call_isD kit_I) (by rfl) T.isi (by decide +kernel) (pa_cons (pv 0) (pa_cons (pe_bltn (v := .ty "int") (by rfl) T.int (by decide +kernel) rfl) pa_nil)))
      (pe_one (pe_not (pe_callB (call_isD kit_B) (by rfl) T.isi (by decide +kernel) (pa_cons (pv 0) (pa_cons (pe_bltn (v := .ty "bool") (by rfl) hB (by decide +kernel) rfl) pa_nil))))))), ?_⟩
    rw [isInt_and] at k
    refine ⟨_, rfl, x, d, rfl, D, qI d, rfl, ?_⟩
    refine ite2 (fun h => ?_) (fun h => ?_)
    · refine ⟨_, rfl, x, d, rfl, D, qB d, rfl, ?_⟩
      rw [h] at k
      exact k
    · rw [Bool.eq_false_iff.mpr h] at k
      exact k
theorem scII : FnScope ["thing"] ["thing"] (defScope sIsInteger) := ⟨rfl, rfl, rfl, by decide +kernel, rfl, by decide +kernel, by decide +kernel⟩
theorem ok_isInteger {f : Addr} {fd : FuncData} (F : Fun K "is_integer" "is_integer" sIsInteger f fd) (T : Nat0 mg) (hB : mg "bool" = none) : FnOk P w K mg base CX0 1 f fd ["thing"] (spTells K isInt) := by
  refine F.ok scII (fun as H Q E h => ?_) (fun cdv A outer s H as Q E hr h => ?_)
  · obtain ⟨x, d, rfl, _⟩ := h
    rfl
  · obtain ⟨x, d, rfl, D, k⟩ := h
    refine ⟨_, pss_one (ps_ret (pe_and (pe_callB (call_isD kit_I) (by rfl) T.isi (by decide +kernel) (pa_cons (pv 0) (pa_cons (pe_bltn (v := .ty "int") (by rfl) T.int (by decide +kernel) rfl) pa_nil)))
      (pe_one (pe_not (pe_callB (call_isD kit_B) (by rfl) T.isi (by decide +kernel) (pa_cons (pv 0) (pa_cons (pe_bltn (v := .ty "bool") (by rfl) hB (by decide +kernel) rfl) pa_nil))))))), ?_⟩
    rw [isInt_and] at k
    refine ⟨_, rfl, x, d, rfl, D, qI d, rfl, ?_⟩
    refine ite2 (fun h => ?_) (fun h => ?_)
    · refine ⟨_, rfl, x, d, rfl, D, qB d, rfl, ?_⟩
      rw [h] at k
      exact k
    · rw [Bool.eq_false_iff.mpr h] at k
      exact k
theorem isInt_int {d : PyData} (h : isInt d = true) : ∃ i, d = .int i := by cases d <;> first | exact ⟨_, rfl⟩ | cases h
theorem dat_int {K : PySem.W.Frag} {H : Hp} {x : V} {i : Int} (D : DatV K H x (.int i)) : x = .int i := by cases D; rfl
theorem scIC : FnScope ["thing"] ["thing"] (defScope sIsCount) := ⟨rfl, rfl, rfl, by decide +kernel, rfl, by decide +kernel, by decide +kernel⟩
theorem ok_isCount {f fI : Addr} {fd dI : FuncData} (F : Fun K "is_count" "is_count" sIsCount f fd) (GI : FnOk P w K mg base CX0 1 fI dI ["thing"] (spTells K isInt)) (FI : Fun K "is_integer" "is_integer" sIsInteger fI dI) (mI : mg "is_integer" = some (.ref fI)) (bI : Binds K dI ["thing"] []) :
    FnOk P w K mg base CX0 2 f fd ["thing"] (spTells K isCnt) := by
  refine F.ok scIC (fun as H Q E h => ?_) (fun cdv A outer s H as Q E hr h => ?_)
  · obtain ⟨x, d, rfl, _⟩ := h
    rfl
  · obtain ⟨x, d, rfl, D, k⟩ := h
    refine ⟨_, pss_one (ps_ret (pe_and (pe_call GI hr rfl mI FI.kp bI .nil pass0 (pa_cons (pv 0) pa_nil)) (pe_one (pe_cmpR op_ge (pv 0) pe_int (nomark _))))), ?_⟩
    refine ⟨_, rfl, x, d, rfl, D, isInt d, rfl, ?_⟩
    refine ite2 (fun h => ?_) (fun h => ?_)
    · obtain ⟨i, rfl⟩ := isInt_int h
      cases dat_int D
      exact ⟨_, rfl, _, _, rfl, rfl, k⟩
    · have e : isCnt d = false := by cases d <;> first | rfl | exact absurd rfl h
      rw [e] at k
      exact k
end
end Y

/-! OQ: any datum == a text. -/
namespace Ns
open PySem PySem.Spec PyProof.Rows L2
theorem dict_no_str (l : Addr) (es : Array DictEntry) (n : Nat) (dd : Option Addr) (sl : Array (Option Value)) (b : Str) (u : Tok) :
    Meets (Builtin.«dict.__eq__» ⟨[.ref l, .str b u], []⟩) (fun _ R s => s.heap.get? l = some { cls := .type "dict", dict := dd, data := .dict es n, slots := sl } ∧ R (.ok (.ret .notImplemented)) s) :=
  .of_wp fun prog w A R s h => by
    obtain ⟨hp, g, d, tk, os⟩ := s
    obtain ⟨hl, h⟩ := h
    have f1 := F.sub_str_dict
    wp_walk using wpAny_loadPart' hl, wpAny_load hl
    exact ⟨_, rfl, h⟩
theorem str_no_dict (b : Str) (u : Tok) (l : Addr) (es : Array DictEntry) (n : Nat) (dd : Option Addr) (sl : Array (Option Value)) :
    Meets (Builtin.«str.__eq__» ⟨[.str b u, .ref l], []⟩) (fun _ R s => s.heap.get? l = some { cls := .type "dict", dict := dd, data := .dict es n, slots := sl } ∧ R (.ok (.ret .notImplemented)) s) :=
  .of_wp fun prog w A R s h => by
    obtain ⟨hp, g, d, tk, os⟩ := s
    obtain ⟨hl, h⟩ := h
    wp_walk using wpAny_loadPart' hl, wpAny_load hl
    exact ⟨_, rfl, h⟩
theorem rc_dict_str {A : Around} {s : Shared} {l : Addr} {dd : Option Addr} {es : Array DictEntry} {n : Nat} {sl : Array (Option Value)} (b : Str) (u : Tok) (ho : s.heap.get? l = some { cls := .type "dict", dict := dd, data := .dict es n, slots := sl }) (hu : A.units < cLine) : SeqAt.RcAt A s (.ref l) (.str b u) false := fun prog w E Q h =>
  SeqAt.rc_eq_decline_or (k := false) ⟨_, ho, rfl⟩ (typeIs_str s b u) (by decide) F.sub_str_dict F.slot_dict_eq F.slot_str_eq_refl
    (fun _ hq => call_meets F.slot_dict_eq ⟨_, ho, rfl⟩ F.entry_dict_eq (F.args_dict_eq_2 _ _) (dict_no_str l es n dd sl b u) ⟨ho, hq⟩)
    (fun _ hq => call_meets F.slot_str_eq_refl (typeIs_str s b u) F.entry_str_eq (F.args_str_eq_2 _ _) (str_no_dict b u l es n dd sl) ⟨ho, hq⟩)
    (fun _ hq => wpAny_of_eq (rfl : isSame (.ref l) (.str b u) = pure false) hq) (.inr hu) h
def isText (z : Str) : PyData → Bool
  | .str y => decide (y = z)
  | _ => false
/-- x == 'z', x any datum -/
def rEqTx (K : PySem.W.Frag) : R2 := fun x y H Q => ∃ (d : PyData) (z : Str), y = .str z ∧ DatV K H x d ∧ Q (.bl (isText z d)) H
theorem op_eqTx {X : Cx} (hu : X.A.units + 64 < cLine) : OpR X (compareOp .Eq) (rEqTx X.K) := by
  intro pins s σ H x y v u Q I rx ry h
  obtain ⟨d, z, rfl, D, q⟩ := h
  have flat : ∀ {c : Bool}, scal x (.str z) = true → decide (x = V.str z) = c → isText z d = c → wpAny (model X.prog X.w) X.A (compareOp .Eq v u) (EP X pins σ Q) X.xe s := fun {c} h1 h2 h3 => by
    rw [h3, ← h2] at q
    exact op_eq pins s σ H x (.str z) v u Q I rx ry ⟨h1, q⟩
  cases D with
  | non => exact flat (c := false) rfl (by simp) rfl
  | bl b => exact flat (c := false) rfl (by simp) rfl
  | int i => exact flat (c := false) rfl (by simp) rfl
  | str y =>
    refine flat (c := decide (y = z)) rfl ?_ rfl
    by_cases e : y = z
    · rw [e, decide_eq_true rfl, decide_eq_true rfl]
    · rw [decide_eq_false e, decide_eq_false (fun h => e (by injection h))]
  | @lst a xs ds h1 h2 =>
    cases (show v = Value.ref a from rx)
    obtain ⟨t, rfl⟩ := (show ∃ t, u = Value.str z t from ry)
    obtain ⟨its, _, pl, _⟩ := I.list h1
    exact SeqAt.RcAt.list_str z t pl.isList (by omega) _ _ _ _ ⟨.bl false, H, I, rfl, q⟩
  | @tup a xs ds h1 h2 =>
    cases (show v = Value.ref a from rx)
    obtain ⟨t, rfl⟩ := (show ∃ t, u = Value.str z t from ry)
    obtain ⟨its, _, ⟨o1, g1, g2, n1, g3⟩, _⟩ := I.tuple h1
    exact SeqAt.RcAt.tuple_str z t ⟨o1, g1, g2, n1, g3⟩ (by omega) _ _ _ _ ⟨.bl false, H, I, rfl, q⟩
  | @dic a kvs ds h1 h2 =>
    cases (show v = Value.ref a from rx)
    obtain ⟨t, rfl⟩ := (show ∃ t, u = Value.str z t from ry)
    obtain ⟨_, _, vs, _, ⟨oc, od, dt, sl⟩, es, ep, g1, g2, g3⟩ := (show ObjOk X.prog X.w H s.heap a (.dK kvs) from I.hok a _ h1)
    obtain ⟨k1, k2, k3⟩ := g2
    have g3' := g3.1
    simp only at k1 g3'
    subst k1
    subst g3'
    exact rc_dict_str z t g1 (by omega) _ _ _ _ ⟨.bl false, H, I, rfl, q⟩
end Ns

/-! cables and cars: what is known of them; dicts of pairs -/
namespace Y
open PySem PySem.Spec PyProof.Rows L2 Ns
open PySem.W (dataLe)
abbrev Cab := Str × Str × Int
abbrev Car := Str × Str × Int × Int
def ckey (c : Cab) : Str × Str := (c.1, c.2.1)
/-- a dict of pairs, its entries -/
def kvs (fs : List ((Str × Str) × Int)) : List (List Key × V) := fs.map fun f => (pK f.1, .int f.2)
theorem pK_inj {k j : Str × Str} (h : pK k = pK j) : k = j := by
  obtain ⟨a, b⟩ := k
  obtain ⟨c, d⟩ := j
  injection h with h1 h2
  injection h2 with h2 _
  injection h1 with h1
  injection h2 with h2
  exact Prod.ext h1 h2
def put (fs : List ((Str × Str) × Int)) (k : Str × Str) (v : Int) : List ((Str × Str) × Int) := if (fs.any fun f => decide (f.1 = k)) = true then fs.map (fun f => if f.1 = k then (f.1, v) else f) else fs ++ [(k, v)]
theorem kvs_any (k : Str × Str) : ∀ fs : List ((Str × Str) × Int), ((kvs fs).any fun kv => decide (kv.1 = pK k)) = fs.any fun f => decide (f.1 = k)
  | [] => rfl
  | f :: fs => by
    have ih := kvs_any k fs
    unfold kvs at ih ⊢
    rw [List.map_cons, List.any_cons, List.any_cons, ih]
    congr 1
    rw [decide_eq_decide]
    exact ⟨fun h => pK_inj h, fun h => by rw [h]⟩
theorem kvs_put (fs : List ((Str × Str) × Int)) (k : Str × Str) (v : Int) : putK (kvs fs) (pK k) (.int v) = kvs (put fs k v) := by
  unfold putK put
  rw [kvs_any]
  by_cases h : (fs.any fun f => decide (f.1 = k)) = true
  · rw [if_pos h, if_pos h]
    unfold kvs
    rw [List.map_map, List.map_map]
    apply List.map_congr_left
    intro f _
    by_cases e : f.1 = k
    · simp [e]
    · have e' : ¬ pK f.1 = pK k := fun z => e (pK_inj z)
      simp [e, e']
  · rw [if_neg h, if_neg h]
    unfold kvs
    rw [List.map_append]
    rfl
/-- what a dict of drawn cables holds -/
structure Fs (ns : List Str) (most : Int) (many : Nat) (fs : List ((Str × Str) × Int)) : Prop where
  len : fs.length ≤ many
  nodup : (fs.map (·.1)).Nodup
  each : ∀ f ∈ fs, f.1.1 ≠ f.1.2 ∧ f.1.1 ∈ feed :: ns ∧ f.1.2 ∈ ns ∧ 0 ≤ f.2 ∧ f.2 ≤ most
theorem Fs.nil (ns : List Str) (most : Int) (many : Nat) : Fs ns most many [] := ⟨Nat.zero_le _, List.nodup_nil, fun _ z => nomatch z⟩
theorem Fs.put {ns : List Str} {most v : Int} {many : Nat} {fs : List ((Str × Str) × Int)} {s e : Str} (h : Fs ns most many fs) (hl : fs.length < many) (h1 : s ≠ e) (h2 : s ∈ feed :: ns) (h3 : e ∈ ns) (h4 : 0 ≤ v) (h5 : v ≤ most) : Fs ns most many (put fs (s, e) v) := by
  unfold Y.put
  by_cases c : (fs.any fun f => decide (f.1 = (s, e))) = true
  · rw [if_pos c]
    refine ⟨by rw [List.length_map]; exact h.len, ?_, fun f hf => ?_⟩
    · have e1 : (fs.map (fun f => if f.1 = (s, e) then (f.1, v) else f)).map (·.1) = fs.map (·.1) := by
        rw [List.map_map]
        apply List.map_congr_left
        intro f _
        by_cases z : f.1 = (s, e)
        · simp [z]
        · simp [z]
      rw [e1]
      exact h.nodup
    · obtain ⟨g, hg, rfl⟩ := List.mem_map.mp hf
      by_cases z : g.1 = (s, e)
      · rw [if_pos z]
        obtain ⟨g1, g2, g3, _⟩ := h.each g hg
        exact ⟨g1, g2, g3, h4, h5⟩
      · rw [if_neg z]
        exact h.each g hg
  · rw [if_neg c]
    have nc : (s, e) ∉ fs.map (·.1) := fun z => c (by
      obtain ⟨f, hf, ef⟩ := List.mem_map.mp z
      exact List.any_eq_true.mpr ⟨f, hf, decide_eq_true ef⟩)
    refine ⟨by rw [List.length_append]; exact hl, ?_, fun f hf => ?_⟩
    · rw [List.map_append, List.nodup_append]
      refine ⟨h.nodup, List.nodup_cons.mpr ⟨(fun z => nomatch z), List.nodup_nil⟩, fun y hy z hz => ?_⟩
      rw [List.mem_singleton.mp hz]
      rintro rfl
      exact nc hy
    · rcases List.mem_append.mp hf with q | q
      · exact h.each f q
      · rw [List.mem_singleton.mp q]
        exact ⟨h1, h2, h3, h4, h5⟩
/-- drawn cables, in their order -/
structure Cabs (ns : List Str) (most : Int) (many : Nat) (cs : List Cab) : Prop where
  len : cs.length ≤ many
  nodup : (cs.map ckey).Nodup
  each : ∀ c ∈ cs, c.1 ≠ c.2.1 ∧ c.1 ∈ feed :: ns ∧ c.2.1 ∈ ns ∧ 0 ≤ c.2.2 ∧ c.2.2 ≤ most
  srt : ∃ ks : List (Str × Str), cs.map ckey = ks.mergeSort (dataLe false pD)
/-- a cable as a value, a car -/
def CabV (K : PySem.W.Frag) (H : Hp) (x : V) (c : Cab) : Prop := ∃ t, x = .ref t ∧ SqT K H t [.str c.1, .str c.2.1, .int c.2.2]
def CarV (K : PySem.W.Frag) (H : Hp) (x : V) (c : Car) : Prop := ∃ t, x = .ref t ∧ SqT K H t [.str c.1, .str c.2.1, .int c.2.2.1, .int c.2.2.2]
theorem sqt_more {K : PySem.W.Frag} {H H' : Hp} (m : Same H H') {a : Addr} {xs : List V} (h : SqT K H a xs) : SqT K H' a xs := h.elim (fun z => .inl (z.elim (fun z => .inl (m _ _ z)) fun ⟨o, z⟩ => .inr ⟨o, m _ _ z⟩)) .inr
theorem CabV.more {K : PySem.W.Frag} {H H' : Hp} (m : Same H H') {x : V} {c : Cab} (h : CabV K H x c) : CabV K H' x c := by
  obtain ⟨t, e, q⟩ := h
  exact ⟨t, e, sqt_more m q⟩
theorem CarV.more {K : PySem.W.Frag} {H H' : Hp} (m : Same H H') {x : V} {c : Car} (h : CarV K H x c) : CarV K H' x c := by
  obtain ⟨t, e, q⟩ := h
  exact ⟨t, e, sqt_more m q⟩
theorem paired_imp {α β : Type} {R S : α → β → Prop} (k : ∀ a b, R a b → S a b) : ∀ {as : List α} {bs : List β}, Paired R as bs → Paired S as bs
  | _, _, .nil => .nil
  | _, _, .cons h t => .cons (k _ _ h) (paired_imp k t)
theorem paired_snoc {α β : Type} {R : α → β → Prop} {a : α} {b : β} (h : R a b) : ∀ {as : List α} {bs : List β}, Paired R as bs → Paired R (as ++ [a]) (bs ++ [b])
  | _, _, .nil => .cons h .nil
  | _, _, .cons g t => .cons g (paired_snoc h t)
theorem rows_nodup {ns : List Str} (N : Nms [] ns) : (feed :: ns).Nodup := List.nodup_cons.mpr ⟨fun z => (N.off _ z).2 rfl, N.nodup⟩
theorem row_ne {α : Type} {l : List α} (n : l.Nodup) {i j : Nat} {x y : α} (h : l[i]? = some x) (g : l[j]? = some y) (ne : i ≠ j) : x ≠ y := by
  rintro rfl
  exact ne ((List.getElem?_inj (List.getElem?_eq_some_iff.mp h).1 n).mp (h.trans g.symm))
theorem txs_at {l : List Str} {j : Nat} {s : Str} (h : l[j]? = some s) : (txs l)[j]? = some (.str s) := by
  unfold txs
  rw [List.getElem?_map, h]
  rfl
/-- the value of a pair in a dict of pairs -/
theorem kvs_get {fs : List ((Str × Str) × Int)} (n : (fs.map (·.1)).Nodup) {k : Str × Str} {v : Int} (h : (k, v) ∈ fs) : valV (kvs fs) (pK k) = some (.int v) := by
  induction fs with
  | nil => cases h
  | cons f fs ih =>
    rw [List.map_cons, List.nodup_cons] at n
    show valV ((pK f.1, V.int f.2) :: kvs fs) (pK k) = _
    rcases List.mem_cons.mp h with e | e
    · rw [← e]
      exact valV_pos rfl
    · rw [valV_neg (fun z => n.1 ?_)]
      · exact ih n.2 e
      · rw [show f.1 = k from pK_inj z]
        exact List.mem_map.mpr ⟨(k, v), e, rfl⟩
end Y

namespace Y
open PySem PySem.Spec PyProof.Rows L2 Ns
open C8 (pss_cut)
open PySem.W (dataLe)
def spCables (K : PySem.W.Frag) : Sp := fun as H Q _ => ∃ (b a : Addr) (ns : List Str) (many : Nat) (most : Int), as = [.ref b, .ref a, .int many, .int most] ∧ Bag H b ∧ H a = some (.lst (txs ns)) ∧ Nms [] ns ∧ ns.length ≤ 50 ∧ many ≤ 60 ∧ 2 ≤ most ∧ most ≤ 10 ^ 12 ∧
  ∀ (p : Addr) (xs : List V) (cs : List Cab) (H' : Hp), Cabs ns most many cs → H' p = some (.tup xs) → Paired (CabV K (wo H' b)) xs cs → H p = none → p ≠ b → Bag H' b → Sb b H H' → Q (.ref p) H'
theorem s3u {H : Hp} {a q : Addr} {o u : HO} (hq : H q = none) (h : H a = some u) : upd H q o a = some u := by rw [upd_ne (ne_of_none h hq)]; exact h
theorem paired_len {α β : Type} {R : α → β → Prop} : ∀ {as : List α} {bs : List β}, Paired R as bs → as.length = bs.length
  | _, _, .nil => rfl
  | _, _, .cons _ t => by rw [List.length_cons, List.length_cons, paired_len t]
/-- a new tuple of a cable -/
def CabT (H : Hp) (b : Addr) (x : V) (c : Cab) : Prop := ∃ t, x = .ref t ∧ t ≠ b ∧ H t = some (.tup [.str c.1, .str c.2.1, .int c.2.2])
theorem CabT.more {H H' : Hp} {b : Addr} (m : Same H H') {x : V} {c : Cab} (h : CabT H b x c) : CabT H' b x c := by
  obtain ⟨t, e, n, q⟩ := h
  exact ⟨t, e, n, m _ _ q⟩
theorem CabT.upd {H : Hp} {b D : Addr} {ys : List V} {o : HO} (hD : H D = some (.lst ys)) {x : V} {c : Cab} (h : CabT H b x c) : CabT (L2.upd H D o) b x c := by
  obtain ⟨t, e, n, q⟩ := h
  exact ⟨t, e, n, by rw [upd_ne (fun z => by rw [z, hD] at q; cases q)]; exact q⟩
theorem paired_at {α β : Type} {R : α → β → Prop} : ∀ {as : List α} {bs : List β}, Paired R as bs → ∀ {i : Nat} {a : α}, as[i]? = some a → ∃ b, bs[i]? = some b ∧ R a b
  | _, _, .cons h _, 0, a, e => by
    rw [List.getElem?_cons_zero] at e
    cases e
    exact ⟨_, rfl, h⟩
  | _, _, .cons _ t, i + 1, a, e => by
    rw [List.getElem?_cons_succ] at e
    exact paired_at t e
theorem ne_at {H : Hp} {a b : Addr} {o u : HO} (h : H a = some o) (g : H b = some u) (n : o ≠ u) : a ≠ b := fun e => by
  rw [e, g] at h
  exact n (Option.some.inj h).symm
/-- amid the loops -/
def CabI (H : Hp) (b a d r : Addr) (ns : List Str) (many : Nat) (most : Int) (σ : L2.St) (H' : Hp) : Prop := ∃ (kk tt cc : Option V) (fs : List ((Str × Str) × Int)), σ = [some (.ref b), some (.ref a), some (.int many), some (.int most), some (.ref d), some (.ref r), kk, tt, cc, none, none] ∧
  H' d = some (.dT (kvs fs)) ∧ H' r = some (.lst (txs (feed :: ns))) ∧ Fs ns most many fs ∧ Bag H' b ∧ Sb b H H'
theorem cab_put {H H' : Hp} {b d r : Addr} {fs : List ((Str × Str) × Int)} {s e : Str} {v : Int} {ns : List Str} (hB : Bag H b) (hd : H d = none) (hr : H r = none) (nrd : r ≠ d) (e1 : H' d = some (.dT (kvs fs))) (e2 : H' r = some (.lst (txs (feed :: ns)))) (hB' : Bag H' b) (s' : Sb b H H') :
    upd H' d (.dT (putK (kvs fs) (pK (s, e)) (.int v))) d = some (.dT (kvs (put fs (s, e) v))) ∧ upd H' d (.dT (putK (kvs fs) (pK (s, e)) (.int v))) r = some (.lst (txs (feed :: ns))) ∧ Bag (upd H' d (.dT (putK (kvs fs) (pK (s, e)) (.int v)))) b ∧ Sb b H (upd H' d (.dT (putK (kvs fs) (pK (s, e)) (.int v)))) :=
  ⟨by rw [upd_same, kvs_put], by rw [upd_ne nrd]; exact e2, hB.wr hd s' hB', s'.wr hd⟩
section
variable {P : Program} {w : World} {K : PySem.W.Frag} {mg : Str → Option Value} {base : Heap}
theorem scC : FnScope ["bag", "knots", "many", "most", "found", "rows", "k", "turn", "couple", "one", "other"] ["bag", "knots", "many", "most"] (defScope sCables) := ⟨rfl, rfl, rfl, by decide +kernel, rfl, by decide +kernel, by decide +kernel⟩
theorem ok_cables {f fT fS fZ : Addr} {fd fdT fdS fdZ : FuncData} (F : Fun K "_law_cables" "_law_cables" sCables f fd) (T : Nat0 mg) (FT : Fun K "_law_take" "_law_take" sTake fT fdT) (mT : mg "_law_take" = some (.ref fT)) (bT : Binds K fdT ["bag", "many"] [])
    (FS : Fun K "_law_some" "_law_some" sSome fS fdS) (mS : mg "_law_some" = some (.ref fS)) (bS : Binds K fdS ["bag", "things"] [])
    (GZ : FnOk P w K mg base CX0 3 fZ fdZ ["bag", "most"] spSize) (FZ : Fun K "_law_size" "_law_size" sSize fZ fdZ) (mZ : mg "_law_size" = some (.ref fZ)) (bZ : Binds K fdZ ["bag", "most"] []) :
    FnOk P w K mg base CX0 4 f fd ["bag", "knots", "many", "most"] (spCables K) := by
  have GT : FnOk P w K mg base CX0 1 fT fdT ["bag", "many"] spTake := ok_take FT T
  have GS : FnOk P w K mg base CX0 2 fS fdS ["bag", "things"] (spSome K) := ok_some FS T FT mT bT
  refine F.ok scC (fun as H Q E h => ?_) (fun cdv A outer s H as Q E hr h => ?_)
  · obtain ⟨b, a, ns, many, most, rfl, _⟩ := h
    rfl
  · obtain ⟨b, a, ns, many, most, rfl, hB, hS, N, hns, hm, hmo, hmo2, k⟩ := h
    have hr1 : Room 1 _ := hr.mono (by decide)
    have hr2 : Room 2 _ := hr.mono (by decide)
    have hu := hu_of hr
    refine ⟨_, pss_cons (ps_asg (pe_tup (pa_cons pe_dnewT (pa_cons (pe_op op_cat (pe_lst (pa_cons pe_str pa_nil)) (pv 1)) pa_nil))) (pg_tup (by rfl) (pgs_cons (pg_name (i := 4) scC.nd rfl (.inr rfl)) (pgs_cons (pg_name (i := 5) scC.nd rfl (.inl rfl)) pgs_nil))))
      (pss_cons (ps_for PassesOwn.never rfl (pi_range2 (by rfl) T.range (pa_cons pe_int (pa_cons (pe_callB call_len_seq (by rfl) T.len PySem.boot_len (pa_cons (pv 5) pa_nil)) pa_nil))) (pg_name (i := 6) scC.nd rfl (.inl rfl))
        (pss_one (ps_if (PW.pt (pw_and (pt_cmpR op_gt (pe_call GT hr1 rfl mT FT.kp bT .nil pass0 (pa_cons (pv 0) (pa_cons pe_int pa_nil))) pe_int (nomark _)) (pw_and1 (pt_cmpR op_lt (pe_callB call_len_dT (by rfl) T.len PySem.boot_len (pa_cons (pv 4) pa_nil)) (pv 2) (nomark _)))))
          (pss_one (ps_dput hu (pv 4) (pe_tup (pa_cons (pe_ix ix_list (pv 5) (pe_call GT hr1 rfl mT FT.kp bT .nil pass0 (pa_cons (pv 0) (pa_cons (pv 6) pa_nil))) (fun _ _ => rfl)) (pa_cons (pe_ix ix_list (pv 5) (pv 6) (fun _ _ => rfl)) pa_nil)))
            (pe_callB (call_max2 rfl) (by rfl) T.max (by decide +kernel) (pa_cons (pe_call GS hr2 rfl mS FS.kp bS .nil pass0 (pa_cons (pv 0) (pa_cons (pe_lst (pa_cons pe_int (pa_cons pe_int (pa_cons pe_int (pa_cons pe_int pa_nil))))) pa_nil)))
              (pa_cons (pe_call GZ hr rfl mZ FZ.kp bZ .nil pass0 (pa_cons (pv 0) (pa_cons (pv 3) pa_nil))) pa_nil))) rfl)) pss_nil)))
      (pss_cons (ps_for PassesOwn.never rfl (pi_range1 (by rfl) T.range (pa_cons (pe_call GT hr1 rfl mT FT.kp bT .nil pass0 (pa_cons (pv 0) (pa_cons (pe_op op_add (pv 2) pe_int) pa_nil))) pa_nil)) (pg_name (i := 7) scC.nd rfl (.inl rfl))
        (pss_cons (ps_set (i := 8) scC.nd rfl (.inl rfl) (pe_tup (pa_cons (pe_call GS hr2 rfl mS FS.kp bS .nil pass0 (pa_cons (pv 0) (pa_cons (pv 5) pa_nil))) (pa_cons (pe_call GS hr2 rfl mS FS.kp bS .nil pass0 (pa_cons (pv 0) (pa_cons (pv 5) pa_nil))) pa_nil))))
        (pss_one (ps_if (PW.pt (pw_and (pt_cmpR op_ne (pe_ix ix_tup (pv 8) pe_int (fun _ _ => rfl)) (pe_ix ix_tup (pv 8) pe_int (fun _ _ => rfl)) (nomark _)) (pw_and (pt_cmpR op_ne (pe_ix ix_tup (pv 8) pe_int (fun _ _ => rfl)) pe_str (nomark _))
            (pw_and1 (pt_cmpR op_lt (pe_callB call_len_dT (by rfl) T.len PySem.boot_len (pa_cons (pv 4) pa_nil)) (pv 2) (nomark _))))))
          (pss_one (ps_dput hu (pv 4) (pv 8) (pe_call GZ hr rfl mZ FZ.kp bZ .nil pass0 (pa_cons (pv 0) (pa_cons (pv 3) pa_nil))) rfl)) pss_nil))))
      (pss_one (ps_ret (pe_callTy call_tuple_of (by rfl) T.tuple (by decide +kernel) (pa_cons
        (pe_lc (own := [("one", 9), ("other", 10)]) (g := gTup K 2 (gCons (gName 9) (gCons (gName 10) gNil))) (tt := tYes) rfl scC.nd (pi_list (pe_callB (cr_sortDT rfl hr.units) (by rfl) T.sorted (by decide +kernel) (pa_cons (pv 4) pa_nil)))
          (blkOk_by (N := ["bag", "knots", "many", "most", "found", "rows", "k", "turn", "couple", "one", "other"]) (sc := defScope sCables) (by decide +kernel)) (fun _ _ _ _ _ => pg_tup rfl (pgs_cons (pg_name (i := 9) scC.nd rfl (Or.inl rfl)) (pgs_cons (pg_name (i := 10) scC.nd rfl (Or.inl rfl)) pgs_nil))) (fun _ _ _ _ _ => pts_nil)
          (fun _ _ _ _ _ => pe_tup (pa_cons (pv 9) (pa_cons (pv 10) (pa_cons (pe_dget hu (pv 4) (pe_tup (pa_cons (pv 9) (pa_cons (pv 10) pa_nil))) (fun _ _ => rfl)) pa_nil))))) pa_nil)))))), ?_⟩
    refine fun d hd => ⟨by show 1 ≤ sizeLine; decide, fun q hq => ⟨_, rfl, q, a, [.str feed], txs ns, rfl, rfl, upd_same, ?_, ?_, fun r hr' => ⟨by show 2 ≤ sizeLine; decide, fun t ht => ⟨t, _, rfl, SqT.of upd_same, rfl, _, _, rfl, _, _, rfl, rfl, ?_⟩⟩⟩⟩
    · exact same_new (same_new (Same.refl H) hd) hq _ _ hS
    · rw [show (txs ns).length = ns.length from List.length_map _]
      exact Nat.le_of_lt (small1000 (show 1 + ns.length ≤ 1000 by omega))
    have ndb : d ≠ b := hB.ne hd
    have s0 : Sb b H (upd H d (.dT [])) := (Sb.refl b H).new hd
    have s1 := s0.new (o := .lst [.str feed]) hq
    have s2 := s1.new (o := .lst ([.str feed] ++ txs ns)) hr'
    have s3 := s2.new (o := .tup [.ref d, .ref r]) ht
    have b0 := ((((hB.new (o := .dT []) hd).new (o := .lst [.str feed]) hq).new (o := .lst ([.str feed] ++ txs ns)) hr').new (o := .tup [.ref d, .ref r]) ht)
    have nrb : r ≠ b := ((hB.new (o := .dT []) hd).new (o := .lst [.str feed]) hq).ne hr'
    have fr : H r = none := s1.free hr' nrb
    have e1 : upd (upd (upd (upd H d (.dT [])) q (.lst [.str feed])) r (.lst ([.str feed] ++ txs ns))) t (.tup [.ref d, .ref r]) d = some (.dT (kvs [])) := by
      have f0 : upd H d (.dT []) d = some (.dT (kvs [])) := upd_same
      have f1 : upd (upd H d (.dT [])) q (.lst [.str feed]) d = some (.dT (kvs [])) := by rw [upd_ne (ne_of_none f0 hq)]; exact f0
      have f2 : upd (upd (upd H d (.dT [])) q (.lst [.str feed])) r (.lst ([.str feed] ++ txs ns)) d = some (.dT (kvs [])) := by rw [upd_ne (ne_of_none f1 hr')]; exact f1
      rw [upd_ne (ne_of_none f2 ht)]; exact f2
    have e2 : upd (upd (upd (upd H d (.dT [])) q (.lst [.str feed])) r (.lst ([.str feed] ++ txs ns))) t (.tup [.ref d, .ref r]) r = some (.lst (txs (feed :: ns))) := by
      have f2 : upd (upd (upd H d (.dT [])) q (.lst [.str feed])) r (.lst ([.str feed] ++ txs ns)) r = some (.lst (txs (feed :: ns))) := upd_same
      rw [upd_ne (ne_of_none f2 ht)]; exact f2
    have nrd : r ≠ d := ne_at e2 e1 (fun z => by cases z)
    have tz : (txs (feed :: ns)).length = ns.length + 1 := by show (List.map _ _).length = _; rw [List.length_map]; rfl
    have big : ((10 : Int) ^ 13).natAbs < 2 ^ 200 := by decide +kernel
    have posR : txs (feed :: ns) ≠ [] := fun z => nomatch z
    refine ⟨_, rfl, r, _, rfl, .inl (SqL.of e2), 1, ((txs (feed :: ns)).length : Int), rfl, ⟨by decide, by decide, by omega, by omega⟩, for_range (lo := 1) (n := (((txs (feed :: ns)).length : Int) - 1).toNat) (fun i σ H' => CabI H b a d r ns many most σ H') ?_ ?_ ?_⟩
    · exact ⟨none, none, none, [], rfl, e1, e2, Fs.nil _ _ _, b0, s3⟩
    · rintro i σ H' hi ⟨kk, tt, cc, fs, rfl, g1, g2, FF, hB', s'⟩
      have hi' : i < ns.length := by omega
      refine ⟨_, rfl, b, 8, rfl, hB', by decide, by decide, fun v H2 v0 v1 hB2 s2' => ⟨v, 0, rfl, rfl, _, rfl, ?_⟩⟩
      have h1 := s2'.get g1 ndb
      have h2 := s2'.get g2 nrb
      have s02 := s'.trans s2'
      refine ite2 (fun _ => ?_) (fun _ => ⟨_, tt, cc, fs, rfl, h1, h2, FF, hB2, s02⟩)
      refine ⟨_, rfl, d, _, rfl, h1, _, rfl, _, _, rfl, rfl, _, rfl, ?_⟩
      refine ite2 (fun lt => ?_) (fun _ => ⟨_, tt, cc, fs, rfl, h1, h2, FF, hB2, s02⟩)
      have hlt : fs.length < many := by
        have q := of_decide_eq_true lt
        rw [show (kvs fs).length = fs.length from List.length_map _] at q
        omega
      refine ⟨_, rfl, by show 4 ≤ sizeLine; decide, fun q4 hq4 => ⟨b, q4, _, rfl, hB2.new hq4, sql_new upd_same (hB2.ne hq4), (fun z => nomatch z), by show 4 ≤ 1000000; decide, fun x H3 hx hB3 s3' => ?_⟩⟩
      obtain ⟨c, rfl, c0, c2⟩ : ∃ c : Int, x = .int c ∧ 0 ≤ c ∧ c ≤ 2 := by
        simp only [List.mem_cons, List.not_mem_nil, or_false] at hx
        rcases hx with rfl | rfl | rfl | rfl
        · exact ⟨1, rfl, by decide, by decide⟩
        · exact ⟨2, rfl, by decide, by decide⟩
        · exact ⟨1, rfl, by decide, by decide⟩
        · exact ⟨0, rfl, by decide, by decide⟩
      have s03 := (s02.new (o := .lst [.int 1, .int 2, .int 1, .int 0]) hq4).trans s3'
      refine ⟨_, rfl, _, rfl, b, most, rfl, hB3, by omega, by omega, fun u H4 u0 u1 hB4 s4 => ⟨c, u, rfl, _, rfl, ?_⟩⟩
      have s04 := s03.trans s4
      refine ⟨_, rfl, _, rfl, _, rfl, b, _, rfl, hB4, by omega, Nat.lt_of_le_of_lt (show (1 + (i : Int)).natAbs ≤ _ by omega) big, fun j H5 j0 j1 hB5 s5 => ?_⟩
      have s05 := s04.trans s5
      obtain ⟨sx, hsx⟩ : ∃ sx, (feed :: ns)[j.toNat]? = some sx := ⟨_, List.getElem?_eq_getElem (by rw [List.length_cons]; omega)⟩
      obtain ⟨ex, hex⟩ : ∃ ex, (feed :: ns)[1 + i]? = some ex := ⟨_, List.getElem?_eq_getElem (by rw [List.length_cons]; omega)⟩
      have m1 : sx ∈ feed :: ns := List.mem_of_getElem? hsx
      have m2 : ex ∈ ns := by
        rw [Nat.add_comm, List.getElem?_cons_succ] at hex
        exact List.mem_of_getElem? hex
      have ne : sx ≠ ex := row_ne (rows_nodup N) hsx hex (by omega)
      have k1 := s5.get (s4.get (s3'.get (s3u hq4 h1) ndb) ndb) ndb
      have k2 := s5.get (s4.get (s3'.get (s3u hq4 h2) nrb) nrb) nrb
      refine ⟨r, _, j, .str sx, rfl, rfl, SqL.of k2, by rw [show j = ((j.toNat : Nat) : Int) by omega]; exact atI_nat (txs_at hsx), ?_⟩
      refine ⟨_, rfl, _, rfl, r, _, _, .str ex, rfl, rfl, SqL.of k2, by rw [show (1 + (i : Int)) = ((1 + i : Nat) : Int) by omega]; exact atI_nat (txs_at hex), ?_⟩
      refine ⟨by show 2 ≤ sizeLine; decide, fun t' ht' => ?_⟩
      have k1' : upd H5 t' (.tup [.str sx, .str ex]) d = some (.dT (kvs fs)) := by rw [upd_ne (ne_of_none k1 ht')]; exact k1
      have k2' : upd H5 t' (.tup [.str sx, .str ex]) r = some (.lst (txs (feed :: ns))) := by rw [upd_ne (ne_of_none k2 ht')]; exact k2
      have hz : (kvs fs).length < sizeLine := by
        rw [show (kvs fs).length = fs.length from List.length_map _]
        exact small1000 (by omega)
      refine ⟨d, _, rfl, DPut.t (k := pK (sx, ex)) k1' upd_same hz, ?_⟩
      obtain ⟨p1, p2, p3, p4⟩ := cab_put (s := sx) (e := ex) (v := if u > c then u else c) hB hd fr nrd k1' k2' (hB5.new ht') (s05.new ht')
      exact ⟨_, tt, cc, _, rfl, p1, p2, FF.put hlt ne m1 m2 (by split <;> omega) (by split <;> omega), p3, p4⟩
    rintro σ H' ⟨kk, tt, cc, fs, rfl, g1, g2, FF, hB', s'⟩
    refine ⟨_, rfl, _, rfl, _, _, rfl, rfl, b, _, rfl, hB', by omega, Nat.lt_of_le_of_lt (show ((many : Int) + 1).natAbs ≤ _ by omega) big, fun n H2 n0 n1 hB2 s2' => ?_⟩
    refine ⟨n, rfl, by omega, by omega, for_range (n := n.toNat) (fun i σ H' => CabI H b a d r ns many most σ H') ?_ ?_ ?_⟩
    · exact ⟨kk, tt, cc, fs, rfl, s2'.get g1 ndb, s2'.get g2 nrb, FF, hB2, s'.trans s2'⟩
    · clear g1 g2 FF hB' s' s2' hB2
      rintro i σ H3 hi ⟨kk, tt, cc, fs, rfl, g1, g2, FF, hB3, s3'⟩
      refine ⟨_, rfl, _, rfl, b, r, _, rfl, hB3, sql_new g2 nrb, posR, by omega, fun x H4 hx hB4 s4 => ?_⟩
      obtain ⟨sx, m1, rfl⟩ := List.mem_map.mp hx
      have q1 := s4.get g1 ndb
      have q2 := s4.get g2 nrb
      refine ⟨_, rfl, _, rfl, b, r, _, rfl, hB4, sql_new q2 nrb, posR, by omega, fun y H5 hy hB5 s5 => ?_⟩
      obtain ⟨ex, m2, rfl⟩ := List.mem_map.mp hy
      have s05 := (s3'.trans s4).trans s5
      have k1 := s5.get q1 ndb
      have k2 := s5.get q2 nrb
      refine ⟨by show 2 ≤ sizeLine; decide, fun t' ht' => ?_⟩
      have k1' : upd H5 t' (.tup [.str sx, .str ex]) d = some (.dT (kvs fs)) := by rw [upd_ne (ne_of_none k1 ht')]; exact k1
      have k2' : upd H5 t' (.tup [.str sx, .str ex]) r = some (.lst (txs (feed :: ns))) := by rw [upd_ne (ne_of_none k2 ht')]; exact k2
      have kt : upd H5 t' (.tup [.str sx, .str ex]) t' = some (.tup [.str sx, .str ex]) := upd_same
      have hB6 := hB5.new (o := .tup [.str sx, .str ex]) ht'
      have s06 := s05.new (o := .tup [.str sx, .str ex]) ht'
      generalize upd H5 t' (.tup [.str sx, .str ex]) = H6 at k1' k2' kt hB6 s06 ⊢
      have stay : CabI H b a d r ns many most [some (.ref b), some (.ref a), some (.int many), some (.int most), some (.ref d), some (.ref r), kk, some (.int (0 + (i : Int))), some (.ref t'), none, none] H6 := ⟨kk, _, _, fs, rfl, k1', k2', FF, hB6, s06⟩
      refine ⟨_, rfl, t', _, 0, _, rfl, rfl, SqT.of kt, at0, _, rfl, t', _, 1, _, rfl, rfl, SqT.of kt, at1, rfl, _, rfl, ?_⟩
      refine ite2 (fun ne => ?_) (fun _ => stay)
      refine ⟨_, rfl, t', _, 1, _, rfl, rfl, SqT.of kt, at1, rfl, _, rfl, ?_⟩
      refine ite2 (fun nf => ?_) (fun _ => stay)
      refine ⟨_, rfl, d, _, rfl, k1', _, rfl, _, _, rfl, rfl, _, rfl, ?_⟩
      refine ite2 (fun lt => ?_) (fun _ => stay)
      have hlt : fs.length < many := by
        have q := of_decide_eq_true lt
        rw [show (kvs fs).length = fs.length from List.length_map _] at q
        omega
      have ne' : sx ≠ ex := fun e => by
        rw [e] at ne
        simp at ne
      have nf' : ex ≠ feed := fun e => by
        rw [e] at nf
        simp at nf
      have m2' : ex ∈ ns := (List.mem_cons.mp m2).resolve_left nf'
      refine ⟨_, rfl, _, rfl, b, most, rfl, hB6, by omega, by omega, fun v H7 v0 v1 hB7 s7 => ?_⟩
      have hz : (kvs fs).length < sizeLine := by
        rw [show (kvs fs).length = fs.length from List.length_map _]
        exact small1000 (by omega)
      have ntb : t' ≠ b := hB5.ne ht'
      refine ⟨_, rfl, _, rfl, d, _, rfl, DPut.t (k := pK (sx, ex)) (s7.get k1' ndb) (s7.get kt ntb) hz, ?_⟩
      obtain ⟨p1, p2, p3, p4⟩ := cab_put (s := sx) (e := ex) (v := v) hB hd fr nrd (s7.get k1' ndb) (s7.get k2' nrb) hB7 (s06.trans s7)
      exact ⟨kk, _, _, _, rfl, p1, p2, FF.put hlt ne' m1 m2' v0 v1, p3, p4⟩
    clear g1 g2 FF hB' s' s2' hB2
    rintro σ H3 ⟨kk, tt, cc, fs, rfl, g1, g2, FF, hB3, s3'⟩
    refine ⟨_, rfl, d, kvs fs, fs.map (·.1), rfl, Rd.of g1, by unfold kvs; rw [List.map_map, List.map_map]; rfl, by rw [List.length_map]; have := FF.len; omega, fun p qs hp pq => ?_⟩
    refine ⟨p, rfl, ⟨_, .inl (.inl upd_same)⟩, fun D hD => ?_⟩
    have npd : p ≠ D := fun e => by rw [← e, upd_same] at hD; cases hD
    have hD' : H3 D = none := by rw [upd_ne npd.symm] at hD; exact hD
    refine lc_list (K := K) (a := p) (xs := qs.map V.ref) (fun i H' => ∃ (ys : List V) (cs : List Cab), H' D = some (.lst ys) ∧ ys.length = i ∧ cs.map ckey = ((fs.map (·.1)).mergeSort (dataLe false pD)).take i ∧ (∀ c ∈ cs, (ckey c, c.2.2) ∈ fs) ∧
      Paired (CabT H' b) ys cs ∧ H' p = some (.lst (qs.map V.ref)) ∧ Same H3 H' ∧ Bag H' b) ?_ ?_ ?_ ?_
    · refine ⟨[], [], upd_same, rfl, by rw [List.take_zero]; rfl, (fun _ z => nomatch z), .nil, by rw [upd_ne npd, upd_same], same_new (same_new (Same.refl H3) hp) hD, (hB3.new hp).new hD⟩
    · rintro i H' hi ⟨ys, cs, _, _, _, _, _, h, _⟩
      exact .inl (.inl h)
    · rintro i x H' hx ⟨ys, cs, h1, h2, h3, h4, h5, h6, h7, h8⟩
      rw [List.getElem?_map] at hx
      obtain ⟨t', ht', rfl⟩ := Option.map_eq_some_iff.mp hx
      obtain ⟨kx, hkx, hq'⟩ := paired_at pq ht'
      have memk : kx ∈ fs.map (·.1) := (List.mergeSort_perm _ _).mem_iff.mp (List.mem_of_getElem? hkx)
      obtain ⟨fx, hfx, rfl⟩ := List.mem_map.mp memk
      have hv : valV (kvs fs) (pK fx.1) = some (.int fx.2) := kvs_get FF.nodup hfx
      refine ⟨t', _, rfl, SqT.of (h7 _ _ hq'), rfl, _, _, rfl, _, _, rfl, rfl, ?_⟩
      refine ⟨rfl, _, rfl, _, rfl, _, rfl, _, rfl, _, rfl, by show 2 ≤ sizeLine; decide, fun u hu' => ?_⟩
      have gd : upd H' u (.tup [.str fx.1.1, .str fx.1.2]) d = some (.dT (kvs fs)) := s3u hu' (h7 _ _ g1)
      have dg := DGet.t (k := pK fx.1) gd (upd_same (H := H') (a := u) (o := .tup [.str fx.1.1, .str fx.1.2]))
      rw [hv] at dg
      refine ⟨d, _, rfl, dg, by show 3 ≤ sizeLine; decide, fun v hv' => ?_⟩
      have nvb : v ≠ b := (h8.new hu').ne hv'
      have q1 : upd (upd H' u (.tup [.str fx.1.1, .str fx.1.2])) v (.tup [.str fx.1.1, .str fx.1.2, .int fx.2]) D = some (.lst ys) := s3u hv' (s3u hu' h1)
      have nDu : D ≠ b := (hB3.new hp).ne hD
      have nvD : v ≠ D := ne_at upd_same q1 (fun z => by cases z)
      refine ⟨ys, q1, by rw [h2]; exact small1000 (by have := (List.getElem?_eq_some_iff.mp hkx).1; rw [List.length_mergeSort, List.length_map] at this; have := FF.len; omega), ?_⟩
      have s9 : Same H' (upd (upd H' u (.tup [.str fx.1.1, .str fx.1.2])) v (.tup [.str fx.1.1, .str fx.1.2, .int fx.2])) := same_new (same_new (Same.refl H') hu') hv'
      have b9 : Bag (upd (upd H' u (.tup [.str fx.1.1, .str fx.1.2])) v (.tup [.str fx.1.1, .str fx.1.2, .int fx.2])) b := (h8.new hu').new hv'
      have v9 : upd (upd H' u (.tup [.str fx.1.1, .str fx.1.2])) v (.tup [.str fx.1.1, .str fx.1.2, .int fx.2]) v = some (.tup [.str fx.1.1, .str fx.1.2, .int fx.2]) := upd_same
      generalize upd (upd H' u (.tup [.str fx.1.1, .str fx.1.2])) v (.tup [.str fx.1.1, .str fx.1.2, .int fx.2]) = H9 at q1 s9 b9 v9 ⊢
      refine ⟨ys ++ [.ref v], cs ++ [(fx.1.1, fx.1.2, fx.2)], upd_same, by rw [List.length_append, h2]; rfl, ?_, fun c hc => ?_, ?_, ?_, ?_, ?_⟩
      · rw [List.map_append, h3, List.take_succ, hkx]
        rfl
      · rcases List.mem_append.mp hc with z | z
        · exact h4 c z
        · rw [List.mem_singleton.mp z]
          exact hfx
      · exact paired_snoc ⟨v, rfl, nvb, by rw [upd_ne nvD]; exact v9⟩ (paired_imp (fun x c h => (CabT.more s9 h).upd q1) h5)
      · rw [upd_ne npd]
        exact s9 _ _ h6
      · exact same_put (h7.trans s9) hD'
      · exact hB3.wr hD' ((Sb.refl b H3).same (h7.trans s9)) b9
    · rintro H' ⟨ys, cs, h1, h2, h3, h4, h5, h6, h7, h8⟩
      refine ⟨D, ys, rfl, .inl ⟨SqL.of h1, fun l hl => ?_⟩⟩
      have nlb : l ≠ b := h8.ne hl
      have ea : cs.map ckey = (fs.map (·.1)).mergeSort (dataLe false pD) := by
        rw [h3, List.take_of_length_le]
        rw [List.length_map, ← paired_len pq]
        exact Nat.le_refl _
      have pm := List.mergeSort_perm (fs.map (·.1)) (dataLe false pD)
      have s4 : Sb b H (upd H' l (.tup ys)) := (s3'.same h7).new hl
      refine k l ys cs _ ⟨?_, ?_, fun c hc => FF.each _ (h4 c hc), _, ea⟩ upd_same ?_ ((s3'.same h7).free hl nlb) nlb (h8.new hl) s4
      · have := congrArg List.length ea
        rw [List.length_map, pm.length_eq, List.length_map] at this
        rw [this]
        exact FF.len
      · rw [ea]
        exact pm.nodup_iff.mpr FF.nodup
      · refine paired_imp (fun x c h => ?_) h5
        obtain ⟨t', e, n, q⟩ := h
        exact ⟨t', e, sqt_new (s3u hl q) n⟩
end
end Y

/-! OAy: the place of OA in laws with yards. -/
namespace Y
open PySem PySem.Spec PyProof.Rows L2 Ns
theorem fr_none {H H' : Hp} {p : Addr} (m : Same H H') (h : H' p = none) : H p = none := by
  cases e : H p with
  | none => rfl
  | some o => rw [m _ _ e] at h; cases h
end Y

/-! OE: _law_bent_word. -/
namespace Y
open PySem PySem.Spec PyProof.Rows L2 Ns
def spBW : Sp := fun as H Q _ => ∃ (b : Addr) (z : Str), as = [.ref b, .str z] ∧ Bag H b ∧ z.length ≤ 300 ∧ ∀ (y : Str) (H' : Hp), y.length ≤ 2 * z.length + 4 → Bag H' b → Sb b H H' → Q (.str y) H'
theorem strs_in {xs : List Str} {n : Nat} (h : ∀ z ∈ xs, z.length ≤ n) {x : V} (hx : x ∈ xs.map V.str) : ∃ z, x = .str z ∧ z.length ≤ n := by
  obtain ⟨z, hz, rfl⟩ := List.mem_map.mp hx
  exact ⟨z, rfl, h z hz⟩
section
variable {P : Program} {w : World} {K : PySem.W.Frag} {mg : Str → Option Value} {base : Heap}
theorem scBW : FnScope ["bag", "word", "at", "sign", "some"] ["bag", "word"] (defScope sBentWord) := ⟨rfl, rfl, rfl, by decide +kernel, rfl, by decide +kernel, by decide +kernel⟩
theorem ok_bentWord {f fT fS : Addr} {fd dT dS : FuncData} (F : Fun K "_law_bent_word" "_law_bent_word" sBentWord f fd) (T : Nat0 mg) (FT : Fun K "_law_take" "_law_take" sTake fT dT) (mT : mg "_law_take" = some (.ref fT)) (bT : Binds K dT ["bag", "many"] [])
    (FS : Fun K "_law_some" "_law_some" sSome fS dS) (mS : mg "_law_some" = some (.ref fS)) (bS : Binds K dS ["bag", "things"] []) : FnOk P w K mg base CX0 3 f fd ["bag", "word"] spBW := by
  have GT : FnOk P w K mg base CX0 1 fT dT ["bag", "many"] spTake := ok_take FT T
  have GS : FnOk P w K mg base CX0 2 fS dS ["bag", "things"] (spSome K) := ok_some FS T FT mT bT
  refine F.ok scBW (fun as H Q E h => ?_) (fun cdv A outer s H as Q E hr h => ?_)
  · obtain ⟨b, z, rfl, _⟩ := h
    rfl
  · obtain ⟨b, z, rfl, hB, hz, k⟩ := h
    have hr1 : Room 1 _ := hr.mono (by decide)
    refine ⟨_, pss_cons (ps_par (i := 2) (j := 3) rfl scBW.nd rfl rfl (by decide) rfl rfl (pa_cons (pe_call GT hr1 rfl mT FT.kp bT .nil pass0 (pa_cons (pv 0) (pa_cons (pe_op op_add (pe_callB call_len_str (by rfl) T.len PySem.boot_len (pa_cons (pv 1) pa_nil)) pe_int) pa_nil)))
        (pa_cons (pe_call GS hr rfl mS FS.kp bS .nil pass0 (pa_cons (pv 0) (pa_cons (pe_lst (pa_cons pe_str (pa_cons pe_str (pa_cons pe_str (pa_cons pe_str (pa_cons pe_str (pa_cons pe_str (pa_cons pe_str (pa_cons pe_str pa_nil))))))))) pa_nil))) pa_nil)) (by rfl))
      (pss_cons (ps_set (i := 4) scBW.nd rfl (.inl rfl) (pe_lst (pa_cons (pe_op op_add_str (pe_op op_add_str (pe_slice sl_str (pv 1) po_none (po_some (pv 2))) (pv 3)) (pe_slice sl_str (pv 1) (po_some (pv 2)) po_none))
        (pa_cons (pe_op op_add_str (pe_slice sl_str (pv 1) po_none (po_some (pv 2))) (pe_slice sl_str (pv 1) (po_some (pe_op op_add (pv 2) pe_int)) po_none))
        (pa_cons (pe_op op_add_str (pe_op op_add_str (pe_slice sl_str (pv 1) po_none (po_some (pv 2))) (pv 3)) (pe_slice sl_str (pv 1) (po_some (pe_op op_add (pv 2) pe_int)) po_none)) pa_nil)))))
      (pss_one (ps_ret (pe_call GS hr rfl mS FS.kp bS .nil pass0 (pa_cons (pv 0) (pa_cons (pe_op op_cat (pv 4) (pe_lst (pa_cons pe_str (pa_cons (pe_op op_add_str (pv 1) (pv 1)) pa_nil)))) pa_nil)))))), ?_⟩
    have zl : z.length ≤ sizeLine := Nat.le_of_lt (small1000 (by omega))
    refine ⟨_, rfl, _, rfl, z, rfl, zl, _, 1, rfl, rfl, b, _, rfl, hB, by omega, Nat.lt_of_le_of_lt (show ((z.length : Int) + 1).natAbs ≤ 1000 by omega) (by decide), fun v H1 v0 v1 B1 s1 => ?_⟩
    refine ⟨_, rfl, by show 8 ≤ sizeLine; decide, fun q hq => ⟨b, q, _, rfl, B1.new hq, sql_new upd_same (B1.ne hq), (fun z => nomatch z), by show 8 ≤ 1000000; decide, fun x H2 hx B2 s2 => ?_⟩⟩
    obtain ⟨g, rfl, gl⟩ := strs_in (xs := ["z", "0", "A", " ", "_", "9", "-", "\n"]) (n := 1) (by decide) hx
    have s12 : Sb b H H2 := (s1.new hq).trans s2
    clear s1 s2 hx
    refine ⟨_, _, rfl, ?_⟩
    have c1 := cutS_length z none (some v)
    have c2 := cutS_length z (some v) none
    have c3 := cutS_length z (some (v + 1)) none
    have l1 : (cutS z none (some v) ++ g).length + (cutS z (some v) none).length ≤ sizeLine := by rw [strLen_append]; exact Nat.le_of_lt (small1000 (by omega))
    have l2 : (cutS z none (some v)).length + (cutS z (some (v + 1)) none).length ≤ sizeLine := Nat.le_of_lt (small1000 (by omega))
    have l3 : (cutS z none (some v) ++ g).length + (cutS z (some (v + 1)) none).length ≤ sizeLine := by rw [strLen_append]; exact Nat.le_of_lt (small1000 (by omega))
    have l0 : (cutS z none (some v)).length + g.length ≤ sizeLine := Nat.le_of_lt (small1000 (by omega))
    refine ⟨_, rfl, _, rfl, _, rfl, _, rfl, zl, _, rfl, _, _, rfl, rfl, l0, _, rfl, _, rfl, _, rfl, _, rfl, zl, _, _, rfl, rfl, l1, ?_⟩
    refine ⟨_, rfl, _, rfl, _, rfl, _, rfl, zl, _, rfl, _, rfl, _, _, rfl, rfl, _, rfl, _, rfl, zl, _, _, rfl, rfl, l2, ?_⟩
    refine ⟨_, rfl, _, rfl, _, rfl, _, rfl, zl, _, rfl, _, _, rfl, rfl, l0, _, rfl, _, rfl, _, _, rfl, rfl, _, rfl, _, rfl, zl, _, _, rfl, rfl, l3, ?_⟩
    refine ⟨by show 3 ≤ sizeLine; decide, fun q2 hq2 => ?_⟩
    have ll : z.length + z.length ≤ sizeLine := Nat.le_of_lt (small1000 (by omega))
    refine ⟨_, rfl, _, rfl, _, rfl, _, rfl, _, _, rfl, rfl, ll, by show 2 ≤ sizeLine; decide, fun q3 hq3 => ⟨q2, q3, _, _, rfl, rfl, s3u hq3 upd_same, upd_same, by show 3 + 2 ≤ sizeLine; decide, fun q4 hq4 => ?_⟩⟩
    refine ⟨b, q4, _, rfl, ((B2.new hq2).new hq3).new hq4, sql_new upd_same (((B2.new hq2).new hq3).ne hq4), (fun z => nomatch z), by show 5 ≤ 1000000; decide, fun x H3 hx B3 s3 => ?_⟩
    obtain ⟨y, rfl, yl⟩ := strs_in (xs := [cutS z none (some v) ++ g ++ cutS z (some v) none, cutS z none (some v) ++ cutS z (some (v + 1)) none, cutS z none (some v) ++ g ++ cutS z (some (v + 1)) none, "feed", z ++ z]) (n := 2 * z.length + 4) (fun u hu => by
      simp only [List.mem_cons, List.not_mem_nil, or_false] at hu
      rcases hu with rfl | rfl | rfl | rfl | rfl
      · rw [strLen_append, strLen_append]; omega
      · rw [strLen_append]; omega
      · rw [strLen_append, strLen_append]; omega
      · show 4 ≤ _; omega
      · rw [strLen_append]; omega) hx
    exact k y H3 yl B3 ((((s12.new hq2).new hq3).new hq4).trans s3)
end
end Y

/-! OF: _law_bent, for each depth. -/
namespace Y
open PySem PySem.Spec PyProof.Rows L2 Ns
open C8 (pss_cut)
theorem datA_cut {K : PySem.W.Frag} {H : Hp} {xs : List V} {ds : List PyData} (h : DatA K H xs ds) (lo hi : Option Int) : ∃ es, DatA K H (cutV xs lo hi) es ∧ (∀ e ∈ es, e ∈ ds) ∧ es.length ≤ ds.length := by
  refine ⟨_, datA_take (datA_drop h _) _, fun e he => List.mem_of_mem_drop (List.mem_of_mem_take he), ?_⟩
  rw [List.length_take, List.length_drop]
  omega
theorem cut_one (xs : List V) : (cutV xs none (some 1)).length ≤ 1 := by
  unfold cutV
  rw [List.length_take, show HT.sIx xs.length xs.length (some 1) = min 1 xs.length from HT.sIx_nat _ _ 1]
  have := Nat.min_le_left 1 xs.length
  omega
theorem sbT {K : PySem.W.Frag} {b p : Addr} {H H' : Hp} {xs : List V} (s : Sb b H H') (B : Bag H b) (h : SqT K H p xs) : SqT K H' p xs := sqt_more (wo_sub H' b) (sqt_more s.1 (sqt_wo' h B))
theorem dat_tup {K : PySem.W.Frag} {H : Hp} {x : V} {d : PyData} (D : DatV K H x d) (h : qT d = true) : ∃ a xs ds, x = .ref a ∧ d = .tuple ds ∧ SqT K H a xs ∧ DatA K H xs ds := by
  cases D with
  | tup h1 h2 => exact ⟨_, _, _, rfl, rfl, h1, h2⟩
  | _ => cases h
theorem dat_str {K : PySem.W.Frag} {H : Hp} {x : V} {d : PyData} (D : DatV K H x d) (h : qS d = true) : ∃ z, x = .str z ∧ d = .str z := by
  cases D with
  | str z => exact ⟨z, rfl, rfl⟩
  | _ => cases h
theorem dat_whole {K : PySem.W.Frag} {H : Hp} {x : V} {d : PyData} (D : DatV K H x d) (h : qI d = true) (g : ¬ qB d = true) : ∃ i, x = .int i ∧ d = .int i := by
  cases D with
  | int i => exact ⟨i, rfl, rfl⟩
  | bl b => exact absurd rfl g
  | _ => cases h
theorem str_int {i : Int} {w : Nat} (h : i.natAbs < 10 ^ w) (hw : w ≤ 300) : (toString i : Str).length ≤ w + 2 ∧ i.natAbs.log2 < 1920 := by
  have h' : i.natAbs < 10 ^ (w + 1) := pow_up h (Nat.le_succ w)
  have f := fit_int (i := i) (n := w + 1) (by omega) h' (by omega)
  refine ⟨?_, ?_⟩
  · have := f.2.1
    exact this
  · refine log2_small (Nat.lt_trans h' (Nat.lt_of_le_of_lt (Nat.pow_le_pow_right (by decide) (show w + 1 ≤ 301 by omega)) (by decide +kernel)))
/-- a value with one part otherwise, at most n deep -/
def spBent (K : PySem.W.Frag) (n : Nat) : Sp := fun as H Q _ => ∃ (b : Addr) (x : V) (d : PyData) (w : Nat), as = [.ref b, x, .int (n : Int)] ∧ Bag H b ∧ DatV K (wo H b) x d ∧ Bd w d ∧ w ≤ 300 ∧
  ∀ (x' : V) (d' : PyData) (H' : Hp), DatV K (wo H' b) x' d' → Bd (3 * w + 40) d' → Bag H' b → Sb b H H' → Q x' H'
def spLess (K : PySem.W.Frag) : Nat → Sp
  | 0 => fun _ _ _ _ => False
  | n + 1 => spBent K n
section
variable {P : Program} {w : World} {K : PySem.W.Frag} {mg : Str → Option Value} {base : Heap}
end
end Y

/-! OR: names, cables, cars, edits among any values: the program's. -/
namespace Ns
open PySem PySem.Spec PyProof.Rows L2
/-- xs == [], any list -/
def rEqE (K : PySem.W.Frag) : R2 := fun x y H Q => ∃ (a b : Addr) (xs : List V), x = .ref a ∧ y = .ref b ∧ SqL K H a xs ∧ SqL K H b [] ∧ Q (.bl (decide (xs = []))) H
theorem op_eqE {X : Cx} (hu : X.A.units + 64 < cLine) : OpR X (compareOp .Eq) (rEqE X.K) := by
  intro pins s σ H x y v u Q I rx ry h
  obtain ⟨a, b, xs, rfl, rfl, ha, hb, q⟩ := h
  cases (show v = Value.ref a from rx)
  cases (show u = Value.ref b from ry)
  obtain ⟨us, r1, p1, _⟩ := I.list ha
  obtain ⟨ws, r2, p2, _⟩ := I.list hb
  have z : ws = [] := by cases r2; rfl
  subst z
  have l1 := r1.length
  cases xs with
  | nil =>
    cases us with
    | nil =>
      refine SeqAt.RcAt.lists (e := fun _ => true) p1.isList p2.isList rfl (by omega) (fun j h1 _ => absurd h1 (Nat.not_lt_zero j)) _ _ _ _ ?_
      exact ⟨.bl true, H, I, rfl, q⟩
    | cons _ _ => cases l1
  | cons x xs =>
    cases us with
    | nil => cases l1
    | cons u us =>
      refine SeqAt.RcAt.lists_lengths p1.isList p2.isList (by simp) (by omega) _ _ _ _ ?_
      exact ⟨.bl false, H, I, rfl, q⟩
end Ns
namespace Y
open PySem PySem.Spec PyProof.Rows L2 Ns
def nmB (z : Str) : Bool := match z.cps.toList with
  | [] => false
  | c :: r => decide (z.length ≤ 20) && (decide (c ∈ letters.cps.toList) && (c :: r).all fun c => decide (c ∈ signs.cps.toList))
def nameD : PyData → Bool | .str z => nmB z | _ => false
def isPos : PyData → Bool | .int i => decide (1 ≤ i) | _ => false
def strOf : PyData → Str | .str z => z | _ => ""
def tupN (n : Int) : PyData → Bool | .tuple ds => decide ((ds.length : Int) = n) | _ => false
def cableD : PyData → Bool
  | .tuple [a, b, c] => nameD a && (nameD b && (!decide (strOf a = strOf b) && (!decide (strOf b = feed) && isCnt c)))
  | _ => false
def carT : PyData → Bool
  | .tuple [a, b, c, d] => nameD a && (nameD b && (isPos c && isCnt d))
  | _ => false
def editD : PyData → Bool
  | .tuple (w :: r) => if isText "cable" w then cableD (.tuple r) else if isText "no cable" w then cableD (.tuple (r ++ [.int 0])) else if isText "car" w then carT (.tuple r) else isText "no car" w && (decide (((w :: r).length : Int) = 2) && nameD (r.headD .none))
  | _ => false
theorem name_str {d : PyData} (h : nameD d = true) : ∃ z, d = .str z := by cases d <;> first | exact ⟨_, rfl⟩ | cases h
theorem dat_s {K : PySem.W.Frag} {H : Hp} {x : V} {z : Str} (D : DatV K H x (.str z)) : x = .str z := by cases D; rfl
/-- what tells something of any value, and may make objects -/
def spTellS (K : PySem.W.Frag) (f : PyData → Bool) : Sp := fun as H Q _ => ∃ (x : V) (d : PyData), as = [x] ∧ DatV K H x d ∧ Bd 1000 d ∧ ∀ H', Same H H' → Q (.bl (f d)) H'
def spTup (K : PySem.W.Frag) : Sp := fun as H Q _ => ∃ (n : Int) (x : V) (d : PyData), as = [.int n, x] ∧ DatV K H x d ∧ Q (.bl (tupN n d)) H
theorem small_str {z : Str} (h : Bd 1000 (.str z)) : z.length ≤ sizeLine := by
  simp only [Bd] at h
  exact Nat.le_of_lt (small1000 h)
section
variable {P : Program} {w : World} {K : PySem.W.Frag} {mg : Str → Option Value} {base : Heap}
theorem scIP : FnScope ["thing"] ["thing"] (defScope sIsPositive) := ⟨rfl, rfl, rfl, by decide +kernel, rfl, by decide +kernel, by decide +kernel⟩
theorem ok_isPositive {f fI : Addr} {fd dI : FuncData} (F : Fun K "is_positive" "is_positive" sIsPositive f fd) (GI : FnOk P w K mg base CX0 1 fI dI ["thing"] (spTells K isInt)) (FI : Fun K "is_integer" "is_integer" sIsInteger fI dI) (mI : mg "is_integer" = some (.ref fI)) (bI : Binds K dI ["thing"] []) :
    FnOk P w K mg base CX0 2 f fd ["thing"] (spTells K isPos) := by
  refine F.ok scIP (fun as H Q E h => ?_) (fun cdv A outer s H as Q E hr h => ?_)
  · obtain ⟨x, d, rfl, _⟩ := h
    rfl
  · obtain ⟨x, d, rfl, D, k⟩ := h
    refine ⟨_, pss_one (ps_ret (pe_and (pe_call GI hr rfl mI FI.kp bI .nil pass0 (pa_cons (pv 0) pa_nil)) (pe_one (pe_cmpR op_ge (pv 0) pe_int (nomark _))))), ?_⟩
    refine ⟨_, rfl, x, d, rfl, D, isInt d, rfl, ?_⟩
    refine ite2 (fun h => ?_) (fun h => ?_)
    · obtain ⟨i, rfl⟩ := isInt_int h
      cases dat_int D
      exact ⟨_, rfl, _, _, rfl, rfl, k⟩
    · have e : isPos d = false := by cases d <;> first | rfl | exact absurd rfl h
      rw [e] at k
      exact k
theorem scTO : FnScope ["many", "thing"] ["many", "thing"] (defScope sIsTupleOf) := ⟨rfl, rfl, rfl, by decide +kernel, rfl, by decide +kernel, by decide +kernel⟩
theorem ok_isTupleOf {f : Addr} {fd : FuncData} (F : Fun K "is_tuple_of" "is_tuple_of" sIsTupleOf f fd) (T : Nat0 mg) : FnOk P w K mg base CX0 1 f fd ["many", "thing"] (spTup K) := by
  refine F.ok scTO (fun as H Q E h => ?_) (fun cdv A outer s H as Q E hr h => ?_)
  · obtain ⟨n, x, d, rfl, _⟩ := h
    rfl
  · obtain ⟨n, x, d, rfl, D, k⟩ := h
    refine ⟨_, pss_one (ps_ret (pe_and (pe_callB (call_isD kit_T) (by rfl) T.isi (by decide +kernel) (pa_cons (pv 1) (pa_cons (pe_bltn (v := .ty "tuple") (by rfl) T.tuple (by decide +kernel) rfl) pa_nil)))
      (pe_one (pe_cmpR op_eq (pe_callB call_len_seq (by rfl) T.len PySem.boot_len (pa_cons (pv 1) pa_nil)) (pv 0) (nomark _))))), ?_⟩
    refine ⟨_, rfl, x, d, rfl, D, qT d, rfl, ?_⟩
    refine ite2 (fun h => ?_) (fun h => ?_)
    · obtain ⟨a, xs, ds, rfl, rfl, hT, hA⟩ := dat_tup D h
      refine ⟨_, rfl, a, xs, rfl, .inr hT, _, rfl, rfl, ?_⟩
      have e : tupN n (.tuple ds) = decide (V.int (xs.length : Int) = V.int n) := by
        rw [hA.len]
        show decide ((ds.length : Int) = n) = _
        by_cases z : (ds.length : Int) = n
        · rw [z, decide_eq_true rfl, decide_eq_true rfl]
        · rw [decide_eq_false z, decide_eq_false (fun y => z (by injection y))]
      rw [e] at k
      exact k
    · have e : tupN n d = false := by cases d <;> first | rfl | exact absurd rfl h
      rw [e] at k
      exact k
theorem scNa : FnScope ["thing", "sign"] ["thing"] (defScope sIsName) := ⟨rfl, rfl, rfl, by decide +kernel, rfl, by decide +kernel, by decide +kernel⟩
theorem ok_isName {f : Addr} {fd : FuncData} (F : Fun K "is_name" "is_name" sIsName f fd) (T : Nat0 mg) (gL : ∃ u, mg "_LETTERS" = some u ∧ RelV (.str letters) u) (gS : ∃ u, mg "_SIGNS" = some u ∧ RelV (.str signs) u) : FnOk P w K mg base CX0 1 f fd ["thing"] (spTellS K nameD) := by
  refine F.ok scNa (fun as H Q E h => ?_) (fun cdv A outer s H as Q E hr h => ?_)
  · obtain ⟨x, d, rfl, _⟩ := h
    rfl
  · obtain ⟨x, d, rfl, D, bd, k⟩ := h
    refine ⟨_, pss_cons (ps_if (PW.pt (pw_or (pt_not (pt_val (pe_callB (call_isD kit_S) (by rfl) T.isi (by decide +kernel) (pa_cons (pv 0) (pa_cons (pe_bltn (v := .ty "str") (by rfl) T.str (by decide +kernel) rfl) pa_nil)))))
        (pw_or (pt_cmpR op_eq (pv 0) pe_str (nomark _)) (pw_or1 (pt_cmpR op_gt (pe_callB call_len_str (by rfl) T.len PySem.boot_len (pa_cons (pv 0) pa_nil)) pe_int (nomark _)))))) (pss_one (ps_ret pe_bl)) pss_nil)
      (pss_one (ps_ret (pe_and (pe_cmpR op_in_sign (pe_ix ix_str (pv 0) pe_int (fun _ _ => rfl)) (C8.pe_gc (v := .str letters) (by rfl) gL) (by rfl))
        (pe_one (pe_callB (cr_all rfl) (by rfl) T.all (by decide +kernel) (pa_cons (pe_lc (own := [("sign", 1)]) (g := gName 1) (tt := tYes) rfl scNa.nd (pi_str (pv 0)) (blkOk_by (N := ["thing", "sign"]) (sc := defScope sIsName) (by decide +kernel))
          (fun _ _ _ _ _ => pg_name (i := 1) scNa.nd rfl (Or.inl rfl)) (fun _ _ _ _ _ => pts_nil) (fun _ _ _ _ _ => pe_cmpR op_in_sign (pv 1) (C8.pe_gc (v := .str signs) (by rfl) gS) (by rfl))) pa_nil)))))), ?_⟩
    refine ⟨_, rfl, x, d, rfl, D, qS d, rfl, ?_⟩
    refine ite2 (fun h => ?_) (fun h => ?_)
    · have e : nameD d = false := by cases d <;> first | rfl | exact absurd h Bool.false_ne_true
      rw [e] at k
      exact k H (Same.refl H)
    obtain ⟨z, rfl, rfl⟩ := dat_str D (by simpa using h)
    have zl := small_str bd
    have k' : ∀ H', Same H H' → Q (.bl (nmB z)) H' := k
    clear k h
    refine ⟨_, rfl, rfl, _, rfl, ?_⟩
    refine ite2 (fun h => ?_) (fun h => ?_)
    · have e : z = "" := by
        have := of_decide_eq_true h
        injection this
      rw [e] at k'
      exact k' H (Same.refl H)
    have ne : z ≠ "" := fun e => h (by rw [e]; rfl)
    refine ⟨_, rfl, z, rfl, zl, _, _, rfl, rfl, _, rfl, ?_⟩
    refine ite2 (fun h => ?_) (fun h => ?_)
    · have e : nmB z = false := by
        unfold nmB
        cases z.cps.toList with
        | nil => rfl
        | cons c r =>
          have := of_decide_eq_true h
          show (decide (z.length ≤ 20) && _) = false
          rw [decide_eq_false (by omega)]
          rfl
      rw [e] at k'
      exact k' H (Same.refl H)
    have l20 : z.length ≤ 20 := by
      have : ¬ (20 : Int) < (z.length : Int) := fun g => h (decide_eq_true g)
      omega
    obtain ⟨c, r, ec⟩ : ∃ c r, z.cps.toList = c :: r := by
      cases e : z.cps.toList with
      | nil => exact absurd (str_ext (by rw [e]; rfl)) ne
      | cons c r => exact ⟨c, r, rfl⟩
    have en : nmB z = (decide (c ∈ letters.cps.toList) && z.cps.toList.all fun c => decide (c ∈ signs.cps.toList)) := by
      unfold nmB
      rw [ec]
      show (decide (z.length ≤ 20) && _) = _
      rw [decide_eq_true l20, Bool.true_and]
    rw [en] at k'
    refine ⟨_, rfl, z, 0, c, rfl, rfl, zl, by rw [ec]; exact at0, c, letters, rfl, rfl, _, rfl, ?_⟩
    refine ite2 (fun h => ?_) (fun h => ?_)
    · rw [h, Bool.true_and] at k'
      refine ⟨_, rfl, z, rfl, fun D1 hD1 => ?_⟩
      refine lc_it (walk_str (z := z)) (fun i H' => H' D1 = some (.lst (((z.cps.toList.take i).map fun c => decide (c ∈ signs.cps.toList)).map V.bl)) ∧ Same H H') ?_ ?_ ?_ ?_
      · exact ⟨by rw [List.take_zero, upd_same]; rfl, same_new (Same.refl H) hD1⟩
      · exact fun _ _ _ _ => trivial
      · rintro i u H' H'' hi ⟨q1, M⟩ ⟨rfl, c', hc, rfl⟩
        have hc' : z.cps.toList[i]? = some c' := by rw [Array.getElem?_toList]; exact hc
        have hi' : i < z.length := hi
        refine ⟨rfl, _, rfl, c', signs, rfl, rfl, _, q1, ?_, ?_, same_put M hD1⟩
        · rw [List.length_map, List.length_map, List.length_take]
          exact small1000 (by omega)
        · rw [upd_same, List.take_succ, hc']
          simp
      · rintro H' ⟨q1, M⟩
        rw [List.take_of_length_le (by rw [Array.length_toList]; exact Nat.le_refl _)] at q1
        refine ⟨D1, _, rfl, SqL.of q1, ?_⟩
        have ea : ((z.cps.toList.map fun c => decide (c ∈ signs.cps.toList)).all id) = z.cps.toList.all fun c => decide (c ∈ signs.cps.toList) := by rw [List.all_map]; rfl
        rw [ea]
        exact k' H' M
    · rw [Bool.eq_false_iff.mpr h] at k'
      exact k' H (Same.refl H)
theorem tup3 {ds : List PyData} {K : PySem.W.Frag} {H : Hp} {xs : List V} (h : DatA K H xs ds) (e : ds.length = 3) : ∃ x y z a b c, xs = [x, y, z] ∧ ds = [a, b, c] ∧ DatV K H x a ∧ DatV K H y b ∧ DatV K H z c := by
  cases h with
  | nil => cases e
  | cons h1 t => cases t with
    | nil => cases e
    | cons h2 t => cases t with
      | nil => cases e
      | cons h3 t => cases t with
        | nil => exact ⟨_, _, _, _, _, _, rfl, rfl, h1, h2, h3⟩
        | cons _ _ => simp at e
theorem tup4 {ds : List PyData} {K : PySem.W.Frag} {H : Hp} {xs : List V} (h : DatA K H xs ds) (e : ds.length = 4) : ∃ x y z u a b c d, xs = [x, y, z, u] ∧ ds = [a, b, c, d] ∧ DatV K H x a ∧ DatV K H y b ∧ DatV K H z c ∧ DatV K H u d := by
  cases h with
  | nil => cases e
  | cons h1 t =>
    obtain ⟨x, y, z, a, b, c, rfl, rfl, h2, h3, h4⟩ := tup3 t (Nat.succ.inj e)
    exact ⟨_, _, _, _, _, _, _, _, rfl, rfl, h1, h2, h3, h4⟩
theorem cable_not {d : PyData} (h : tupN 3 d = false) : cableD d = false := by
  cases d with
  | tuple ds =>
    unfold cableD
    split
    · rename_i e
      injection e with e
      rw [e] at h
      cases h
    · rfl
  | _ => rfl
theorem car_not {d : PyData} (h : tupN 4 d = false) : carT d = false := by
  cases d with
  | tuple ds =>
    unfold carT
    split
    · rename_i e
      injection e with e
      rw [e] at h
      cases h
    · rfl
  | _ => rfl
theorem tupN_get {d : PyData} {n : Nat} (h : tupN n d = true) : ∃ ds, d = .tuple ds ∧ ds.length = n := by
  cases d with
  | tuple ds =>
    have h' := of_decide_eq_true (show decide ((ds.length : Int) = (n : Int)) = true from h)
    exact ⟨ds, rfl, by omega⟩
  | _ => cases h
theorem dat_tupT {K : PySem.W.Frag} {H : Hp} {x : V} {ds : List PyData} (D : DatV K H x (.tuple ds)) : ∃ a xs, x = .ref a ∧ SqT K H a xs ∧ DatA K H xs ds := by
  cases D with
  | tup h1 h2 => exact ⟨_, _, rfl, h1, h2⟩
theorem bd_in {ds : List PyData} {d : PyData} (h : Bd 1000 (.tuple ds)) (m : d ∈ ds) : Bd 1000 d := by
  simp only [Bd] at h
  exact bdA_iff.mp h.2 d m
theorem scCb : FnScope ["thing", "start", "end", "cap"] ["thing"] (defScope sIsCable) := ⟨rfl, rfl, rfl, by decide +kernel, rfl, by decide +kernel, by decide +kernel⟩
theorem neS {a b : Str} : (!decide (V.str a = V.str b)) = !decide (a = b) := by
  by_cases h : a = b
  · rw [h, decide_eq_true rfl, decide_eq_true rfl]
  · rw [decide_eq_false h, decide_eq_false (fun z => h (by injection z))]
theorem ok_isCable {f fU fN fC : Addr} {fd dU dN dC : FuncData} (F : Fun K "is_cable" "is_cable" sIsCable f fd) (GU : FnOk P w K mg base CX0 1 fU dU ["many", "thing"] (spTup K)) (FU : Fun K "is_tuple_of" "is_tuple_of" sIsTupleOf fU dU) (mU : mg "is_tuple_of" = some (.ref fU)) (bU : Binds K dU ["many", "thing"] [])
    (GN : FnOk P w K mg base CX0 1 fN dN ["thing"] (spTellS K nameD)) (FN : Fun K "is_name" "is_name" sIsName fN dN) (mN : mg "is_name" = some (.ref fN)) (bN : Binds K dN ["thing"] [])
    (GC : FnOk P w K mg base CX0 2 fC dC ["thing"] (spTells K isCnt)) (FC : Fun K "is_count" "is_count" sIsCount fC dC) (mC : mg "is_count" = some (.ref fC)) (bC : Binds K dC ["thing"] []) : FnOk P w K mg base CX0 3 f fd ["thing"] (spTellS K cableD) := by
  refine F.ok scCb (fun as H Q E h => ?_) (fun cdv A outer s H as Q E hr h => ?_)
  · obtain ⟨x, d, rfl, _⟩ := h
    rfl
  · obtain ⟨x, d, rfl, D, bd, k⟩ := h
    have hr1 : Room 1 _ := hr.mono (by decide)
    refine ⟨_, pss_cons (ps_if (pt_not (pt_val (pe_call GU hr1 rfl mU FU.kp bU .nil pass0 (pa_cons pe_int (pa_cons (pv 0) pa_nil))))) (pss_one (ps_ret pe_bl)) pss_nil)
      (pss_cons (ps_asg (pv 0) (pg_tup (by rfl) (pgs_cons (pg_name (i := 1) scCb.nd rfl (.inl rfl)) (pgs_cons (pg_name (i := 2) scCb.nd rfl (.inl rfl)) (pgs_cons (pg_name (i := 3) scCb.nd rfl (.inl rfl)) pgs_nil)))))
      (pss_one (ps_ret (pe_and (pe_call GN hr1 rfl mN FN.kp bN .nil pass0 (pa_cons (pv 1) pa_nil)) (pe_and (pe_call GN hr1 rfl mN FN.kp bN .nil pass0 (pa_cons (pv 2) pa_nil)) (pe_and (pe_cmpR op_ne (pv 1) (pv 2) (nomark _)) (pe_and (pe_cmpR op_ne (pv 2) pe_str (nomark _))
        (pe_one (pe_call GC hr rfl mC FC.kp bC .nil pass0 (pa_cons (pv 3) pa_nil)))))))))), ?_⟩
    refine ⟨_, rfl, 3, x, d, rfl, D, _, rfl, ?_⟩
    refine ite2 (fun h => ?_) (fun h => ?_)
    · have e : cableD d = false := cable_not (by simpa using h)
      rw [e] at k
      exact k H (Same.refl H)
    obtain ⟨ds, rfl, l3⟩ := tupN_get (d := d) (n := 3) (by simpa using h)
    obtain ⟨a, xs, rfl, hT, hA⟩ := dat_tupT D
    obtain ⟨x1, x2, x3, d1, d2, d3, rfl, rfl, D1, D2, D3⟩ := tup3 hA l3
    have k' : ∀ H', Same H H' → Q (.bl (nameD d1 && (nameD d2 && (!decide (strOf d1 = strOf d2) && (!decide (strOf d2 = feed) && isCnt d3))))) H' := k
    clear k h
    refine ⟨_, rfl, a, _, rfl, hT, rfl, _, _, rfl, _, _, rfl, _, _, rfl, rfl, ?_⟩
    refine ⟨_, rfl, x1, d1, rfl, D1, bd_in bd (.head _), fun H1 M1 => ⟨nameD d1, rfl, ?_⟩⟩
    refine ite2 (fun h1 => ?_) (fun h1 => ?_)
    · obtain ⟨s1, rfl⟩ := name_str h1
      cases dat_s D1
      refine ⟨_, rfl, x2, d2, rfl, D2.more M1, bd_in bd (.tail _ (.head _)), fun H2 M2 => ⟨nameD d2, rfl, ?_⟩⟩
      refine ite2 (fun h2 => ?_) (fun h2 => ?_)
      · obtain ⟨s2, rfl⟩ := name_str h2
        cases dat_s D2
        refine ⟨_, rfl, _, rfl, rfl, _, rfl, ?_⟩
        rw [h1, h2, Bool.true_and, Bool.true_and] at k'
        refine ite2 (fun h3 => ?_) (fun h3 => ?_)
        · refine ⟨_, rfl, rfl, _, rfl, ?_⟩
          rw [neS] at h3
          rw [show (!decide (strOf (.str s1) = strOf (.str s2))) = true from h3, Bool.true_and] at k'
          refine ite2 (fun h4 => ?_) (fun h4 => ?_)
          · rw [neS] at h4
            rw [show (!decide (strOf (.str s2) = feed)) = true from h4, Bool.true_and] at k'
            exact ⟨_, rfl, x3, d3, rfl, (D3.more M1).more M2, k' H2 (M1.trans M2)⟩
          · rw [neS] at h4
            rw [show (!decide (strOf (.str s2) = feed)) = false from Bool.eq_false_iff.mpr h4] at k'
            exact k' H2 (M1.trans M2)
        · rw [neS] at h3
          rw [show (!decide (strOf (.str s1) = strOf (.str s2))) = false from Bool.eq_false_iff.mpr h3] at k'
          exact k' H2 (M1.trans M2)
      · rw [Bool.eq_false_iff.mpr h2, Bool.false_and, Bool.and_false] at k'
        exact k' H2 (M1.trans M2)
    · rw [Bool.eq_false_iff.mpr h1, Bool.false_and] at k'
      exact k' H1 M1
theorem scCr : FnScope ["thing", "name", "knot", "rate", "need"] ["thing"] (defScope sIsCar) := ⟨rfl, rfl, rfl, by decide +kernel, rfl, by decide +kernel, by decide +kernel⟩
theorem ok_isCar {f fU fN fC fP : Addr} {fd dU dN dC dP : FuncData} (F : Fun K "is_car" "is_car" sIsCar f fd) (GU : FnOk P w K mg base CX0 1 fU dU ["many", "thing"] (spTup K)) (FU : Fun K "is_tuple_of" "is_tuple_of" sIsTupleOf fU dU) (mU : mg "is_tuple_of" = some (.ref fU)) (bU : Binds K dU ["many", "thing"] [])
    (GN : FnOk P w K mg base CX0 1 fN dN ["thing"] (spTellS K nameD)) (FN : Fun K "is_name" "is_name" sIsName fN dN) (mN : mg "is_name" = some (.ref fN)) (bN : Binds K dN ["thing"] [])
    (GC : FnOk P w K mg base CX0 2 fC dC ["thing"] (spTells K isCnt)) (FC : Fun K "is_count" "is_count" sIsCount fC dC) (mC : mg "is_count" = some (.ref fC)) (bC : Binds K dC ["thing"] [])
    (GP : FnOk P w K mg base CX0 2 fP dP ["thing"] (spTells K isPos)) (FP : Fun K "is_positive" "is_positive" sIsPositive fP dP) (mP : mg "is_positive" = some (.ref fP)) (bP : Binds K dP ["thing"] []) : FnOk P w K mg base CX0 3 f fd ["thing"] (spTellS K carT) := by
  refine F.ok scCr (fun as H Q E h => ?_) (fun cdv A outer s H as Q E hr h => ?_)
  · obtain ⟨x, d, rfl, _⟩ := h
    rfl
  · obtain ⟨x, d, rfl, D, bd, k⟩ := h
    have hr1 : Room 1 _ := hr.mono (by decide)
    refine ⟨_, pss_cons (ps_if (pt_not (pt_val (pe_call GU hr1 rfl mU FU.kp bU .nil pass0 (pa_cons pe_int (pa_cons (pv 0) pa_nil))))) (pss_one (ps_ret pe_bl)) pss_nil)
      (pss_cons (ps_asg (pv 0) (pg_tup (by rfl) (pgs_cons (pg_name (i := 1) scCr.nd rfl (.inl rfl)) (pgs_cons (pg_name (i := 2) scCr.nd rfl (.inl rfl)) (pgs_cons (pg_name (i := 3) scCr.nd rfl (.inl rfl)) (pgs_cons (pg_name (i := 4) scCr.nd rfl (.inl rfl)) pgs_nil))))))
      (pss_one (ps_ret (pe_and (pe_call GN hr1 rfl mN FN.kp bN .nil pass0 (pa_cons (pv 1) pa_nil)) (pe_and (pe_call GN hr1 rfl mN FN.kp bN .nil pass0 (pa_cons (pv 2) pa_nil)) (pe_and (pe_call GP hr rfl mP FP.kp bP .nil pass0 (pa_cons (pv 3) pa_nil))
        (pe_one (pe_call GC hr rfl mC FC.kp bC .nil pass0 (pa_cons (pv 4) pa_nil))))))))), ?_⟩
    refine ⟨_, rfl, 4, x, d, rfl, D, _, rfl, ?_⟩
    refine ite2 (fun h => ?_) (fun h => ?_)
    · have e : carT d = false := car_not (by simpa using h)
      rw [e] at k
      exact k H (Same.refl H)
    obtain ⟨ds, rfl, l3⟩ := tupN_get (d := d) (n := 4) (by simpa using h)
    obtain ⟨a, xs, rfl, hT, hA⟩ := dat_tupT D
    obtain ⟨x1, x2, x3, x4, d1, d2, d3, d4, rfl, rfl, D1, D2, D3, D4⟩ := tup4 hA l3
    have k' : ∀ H', Same H H' → Q (.bl (nameD d1 && (nameD d2 && (isPos d3 && isCnt d4)))) H' := k
    clear k h
    refine ⟨_, rfl, a, _, rfl, hT, rfl, _, _, rfl, _, _, rfl, _, _, rfl, _, _, rfl, rfl, ?_⟩
    refine ⟨_, rfl, x1, d1, rfl, D1, bd_in bd (.head _), fun H1 M1 => ⟨nameD d1, rfl, ?_⟩⟩
    refine ite2 (fun h1 => ?_) (fun h1 => ?_)
    · refine ⟨_, rfl, x2, d2, rfl, D2.more M1, bd_in bd (.tail _ (.head _)), fun H2 M2 => ⟨nameD d2, rfl, ?_⟩⟩
      refine ite2 (fun h2 => ?_) (fun h2 => ?_)
      · rw [h1, h2, Bool.true_and, Bool.true_and] at k'
        refine ⟨_, rfl, x3, d3, rfl, (D3.more M1).more M2, isPos d3, rfl, ?_⟩
        refine ite2 (fun h3 => ?_) (fun h3 => ?_)
        · rw [h3, Bool.true_and] at k'
          exact ⟨_, rfl, x4, d4, rfl, (D4.more M1).more M2, k' H2 (M1.trans M2)⟩
        · rw [Bool.eq_false_iff.mpr h3, Bool.false_and] at k'
          exact k' H2 (M1.trans M2)
      · rw [Bool.eq_false_iff.mpr h2, Bool.false_and, Bool.and_false] at k'
        exact k' H2 (M1.trans M2)
    · rw [Bool.eq_false_iff.mpr h1, Bool.false_and] at k'
      exact k' H1 M1
end
end Y

/-! OS: edits among any values; the law's own reading of all these. -/
namespace Ns
open PySem PySem.Spec PyProof.Rows L2
/-- t == (), any tuple -/
def rEq0 (K : PySem.W.Frag) : R2 := fun x y H Q => ∃ (a b : Addr) (xs : List V), x = .ref a ∧ y = .ref b ∧ SqT K H a xs ∧ SqT K H b [] ∧ Q (.bl (decide (xs = []))) H
theorem op_eq0 {X : Cx} (hu : X.A.units + 64 < cLine) : OpR X (compareOp .Eq) (rEq0 X.K) := by
  intro pins s σ H x y v u Q I rx ry h
  obtain ⟨a, b, xs, rfl, rfl, ha, hb, q⟩ := h
  cases (show v = Value.ref a from rx)
  cases (show u = Value.ref b from ry)
  obtain ⟨us, r1, ⟨o1, h1, h2, n1, h3⟩, _⟩ := I.tuple ha
  obtain ⟨ws, r2, ⟨o2, g1, g2, n2, g3⟩, _⟩ := I.tuple hb
  have z : ws = [] := by cases r2; rfl
  subst z
  refine SeqAt.RcAt.tuples (e := fun _ => true) ⟨o1, h1, h2, n1, h3⟩ ⟨o2, g1, g2, n2, g3⟩ (by omega) (fun j _ j2 => absurd j2 (Nat.not_lt_zero j)) _ _ _ _ ?_
  have e : ((List.range (min us.toArray.size ([] : List Value).toArray.size)).all (fun _ => true) && us.toArray.size == ([] : List Value).toArray.size) = decide (xs = []) := by
    have l1 := r1.length
    cases xs with
    | nil => cases us with
      | nil => rfl
      | cons _ _ => cases l1
    | cons _ _ => cases us with
      | nil => cases l1
      | cons _ _ => simp
  exact ⟨.bl (decide (xs = [])), H, I, congrArg Value.bool e, q⟩
end Ns
namespace Y
open PySem PySem.Spec PyProof.Rows L2 Ns
theorem cut_tail (x : V) (xs : List V) : cutV (x :: xs) (some (1 : Int)) none = xs := by
  rw [show (1 : Int) = ((1 : Nat) : Int) from rfl, cut_from]
  rfl
theorem bd_tail {d : PyData} {ds : List PyData} (h : Bd 1000 (.tuple (d :: ds))) : Bd 1000 (.tuple ds) := by
  simp only [Bd, BdA] at h ⊢
  exact ⟨by have := h.1; rw [List.length_cons] at this; omega, h.2.2⟩
theorem bd_more {d : PyData} {ds : List PyData} (h : Bd 1000 (.tuple (d :: ds))) : Bd 1000 (.tuple (ds ++ [.int 0])) := by
  simp only [Bd, BdA] at h ⊢
  refine ⟨by have := h.1; rw [List.length_cons] at this; rw [List.length_append]; exact this, bdA_iff.mpr fun u hu => ?_⟩
  rcases List.mem_append.mp hu with z | z
  · exact bdA_iff.mp h.2.2 u z
  · rw [List.mem_singleton.mp z]
    simp only [Bd]
    decide +kernel
theorem text_eq {z : Str} {d : PyData} (h : isText z d = true) : d = .str z := by
  cases d with
  | str y => rw [of_decide_eq_true (show decide (y = z) = true from h)]
  | _ => cases h
section
variable {P : Program} {w : World} {K : PySem.W.Frag} {mg : Str → Option Value} {base : Heap}
-- the law's
theorem scLN : FnScope ["thing", "letters", "signs", "sign"] ["thing"] (defScope sLIsName) := ⟨rfl, rfl, rfl, by decide +kernel, rfl, by decide +kernel, by decide +kernel⟩
theorem ok_lName {f : Addr} {fd : FuncData} (F : Fun K "_law_is_name" "_law_is_name" sLIsName f fd) (T : Nat0 mg) : FnOk P w K mg base CX0 1 f fd ["thing"] (spTellS K nameD) := by
  refine F.ok scLN (fun as H Q E h => ?_) (fun cdv A outer s H as Q E hr h => ?_)
  · obtain ⟨x, d, rfl, _⟩ := h
    rfl
  · obtain ⟨x, d, rfl, D, bd, k⟩ := h
    refine ⟨_, pss_cons (ps_asg (pe_tup (pa_cons pe_str (pa_cons pe_str pa_nil))) (pg_tup (by rfl) (pgs_cons (pg_name (i := 1) scLN.nd rfl (.inl rfl)) (pgs_cons (pg_name (i := 2) scLN.nd rfl (.inr rfl)) pgs_nil))))
      (pss_cons (ps_if (PW.pt (pw_or (pt_not (pt_val (pe_callB (call_isD kit_S) (by rfl) T.isi (by decide +kernel) (pa_cons (pv 0) (pa_cons (pe_bltn (v := .ty "str") (by rfl) T.str (by decide +kernel) rfl) pa_nil)))))
          (pw_or (pt_not (pt_chain op_le op_le pe_int (pe_callB call_len_str (by rfl) T.len PySem.boot_len (pa_cons (pv 0) pa_nil)) pe_int)) (pw_or1 (pt_cmpR op_notInS (pe_ix ix_str (pv 0) pe_int (fun _ _ => rfl)) (pv 1) (by rfl)))))) (pss_one (ps_ret pe_bl)) pss_nil)
      (pss_one (ps_ret (pe_cmpR (op_eqE hr.units) (pe_lc (own := [("sign", 3)]) (g := gName 3) (tt := tTest (tOp _ (tVar 3) (tVar 2))) rfl scLN.nd (pi_str (pv 0)) (blkOk_by (N := ["thing", "letters", "signs", "sign"]) (sc := defScope sLIsName) (by decide +kernel))
        (fun _ _ _ _ _ => pg_name (i := 3) scLN.nd rfl (Or.inl rfl)) (fun _ _ _ _ _ => by exact pts_one (pt_cmpR op_notInS (pv 3) (pv 2) (by rfl))) (fun _ _ _ _ _ => pv 3)) (pe_lst pa_nil) (nomark _))))), ?_⟩
    refine ⟨by show 2 ≤ sizeLine; decide, fun t ht => ⟨t, _, rfl, SqT.of upd_same, rfl, _, _, rfl, _, _, rfl, rfl, ?_⟩⟩
    have M1 := same_new (o := .tup [.str letters, .str signs]) (Same.refl H) ht
    have D1 := D.more M1
    have k1 : ∀ H', Same (upd H t (.tup [.str letters, .str signs])) H' → Q (.bl (nameD d)) H' := fun H' M => k H' (M1.trans M)
    clear k D
    generalize upd H t (.tup [.str letters, .str signs]) = H1 at k1 D1 ⊢
    refine ⟨_, rfl, x, d, rfl, D1, qS d, rfl, ?_⟩
    refine ite2 (fun h => ?_) (fun h => ?_)
    · have e : nameD d = false := by cases d <;> first | rfl | exact absurd h Bool.false_ne_true
      rw [e] at k1
      exact k1 H1 (Same.refl H1)
    obtain ⟨z, rfl, rfl⟩ := dat_str D1 (by simpa using h)
    have zl := small_str bd
    have k' : ∀ H', Same H1 H' → Q (.bl (nmB z)) H' := k1
    clear k1 h
    have long : ¬ (1 ≤ z.length ∧ z.length ≤ 20) → nmB z = false := fun n => by
      unfold nmB
      cases e : z.cps.toList with
      | nil => rfl
      | cons c r =>
        have lz : z.length = r.length + 1 := by rw [← len_cps, e, List.length_cons]
        show (decide (z.length ≤ 20) && _) = false
        rw [decide_eq_false (by omega)]
        rfl
    refine ⟨_, rfl, z, rfl, zl, _, _, rfl, rfl, _, rfl, ?_⟩
    have cont : 1 ≤ z.length → z.length ≤ 20 → ∃ c r, z.cps.toList = c :: r ∧ nmB z = (decide (c ∈ letters.cps.toList) && z.cps.toList.all fun c => decide (c ∈ signs.cps.toList)) := fun h1 h2 => by
      unfold nmB
      cases e : z.cps.toList with
      | nil =>
        have := len_cps z
        rw [e] at this
        simp at this
        omega
      | cons c r =>
        refine ⟨c, r, rfl, ?_⟩
        show (decide (z.length ≤ 20) && _) = _
        rw [decide_eq_true h2, Bool.true_and]
    refine ite2 (fun g1 => ?_) (fun g1 => ?_)
    · have h1 : 1 ≤ z.length := by
        have := of_decide_eq_true g1
        omega
      refine ⟨_, _, rfl, rfl, _, rfl, ?_⟩
      refine ite2 (fun h => ?_) (fun h => ?_)
      · have e : nmB z = false := long fun y => by
          have g2 : ¬ ((z.length : Int) ≤ 20) := by simpa using h
          omega
        rw [e] at k'
        exact k' H1 (Same.refl H1)
      · have h2 : z.length ≤ 20 := by
          have g2 : ((z.length : Int) ≤ 20) := by simpa using h
          omega
        obtain ⟨c, r, ec, en⟩ := cont h1 h2
        rw [en] at k'
        refine ⟨_, rfl, z, 0, c, rfl, rfl, zl, by rw [ec]; exact at0, _, rfl, c, letters, rfl, rfl, _, rfl, ?_⟩
        refine ite2 (fun h => ?_) (fun h => ?_)
        · rw [show decide (c ∈ letters.cps.toList) = false by simpa using h, Bool.false_and] at k'
          exact k' H1 (Same.refl H1)
        rw [show decide (c ∈ letters.cps.toList) = true by simpa using h, Bool.true_and] at k'
        refine ⟨_, rfl, z, rfl, fun Dd hDd => ?_⟩
        refine lc_it (walk_str (z := z)) (fun i H' => H' Dd = some (.lst (((z.cps.toList.take i).filter fun c => !decide (c ∈ signs.cps.toList)).map fun c => V.str ⟨#[c]⟩)) ∧ Same H1 H') ?_ ?_ ?_ ?_
        · exact ⟨by rw [List.take_zero, upd_same]; rfl, same_new (Same.refl H1) hDd⟩
        · exact fun _ _ _ _ => trivial
        · rintro i u H' H'' hi ⟨q1, M⟩ ⟨rfl, c', hc, rfl⟩
          have hc' : z.cps.toList[i]? = some c' := by rw [Array.getElem?_toList]; exact hc
          have hi' : i < z.length := hi
          refine ⟨rfl, _, rfl, _, rfl, c', signs, rfl, rfl, _, rfl, ?_⟩
          refine ite2 (fun g => ?_) (fun g => ?_)
          · refine ⟨_, rfl, _, q1, ?_, ?_, same_put M hDd⟩
            · rw [List.length_map]
              refine Nat.lt_of_le_of_lt (List.length_filter_le _ _) ?_
              rw [List.length_take]
              exact small1000 (by omega)
            · rw [upd_same, List.take_succ, hc']
              show some (HO.lst _) = some (HO.lst (((z.cps.toList.take i ++ [c']).filter _).map _))
              rw [List.filter_append, List.map_append, List.filter_cons, if_pos g]
              rfl
          · refine ⟨?_, M⟩
            rw [q1, List.take_succ, hc']
            show some (HO.lst _) = some (HO.lst (((z.cps.toList.take i ++ [c']).filter _).map _))
            rw [List.filter_append, List.filter_cons, if_neg g, List.filter_nil, List.append_nil]
        · rintro H' ⟨q1, M⟩
          rw [List.take_of_length_le (by rw [Array.length_toList]; exact Nat.le_refl _)] at q1
          refine ⟨by show 0 ≤ sizeLine; decide, fun e he => ⟨Dd, e, _, rfl, rfl, SqL.of (s3u he q1), SqL.of upd_same, ?_⟩⟩
          have ea : decide (((z.cps.toList.filter fun c => !decide (c ∈ signs.cps.toList)).map fun c => V.str ⟨#[c]⟩) = []) = z.cps.toList.all fun c => decide (c ∈ signs.cps.toList) := by
            rw [Bool.eq_iff_iff, decide_eq_true_eq, List.map_eq_nil_iff, List.filter_eq_nil_iff, List.all_eq_true]
            constructor
            · intro g j hj
              have := g j hj
              simpa using this
            · intro g j hj
              have := g j hj
              simpa using this
          rw [ea]
          exact k' _ (same_new M he)
    · have e : nmB z = false := long fun y => g1 (decide_eq_true (by omega))
      rw [e] at k'
      refine ⟨_, rfl, ?_⟩
      exact ite2 (fun _ => k' H1 (Same.refl H1)) (fun h => absurd rfl h)
end
end Y

/-! OT: the law's cables, cars, edits among any values. -/
namespace Y
open PySem PySem.Spec PyProof.Rows L2 Ns
section
variable {P : Program} {w : World} {K : PySem.W.Frag} {mg : Str → Option Value} {base : Heap}
theorem scLC : FnScope ["thing"] ["thing"] (defScope sLIsCount) := ⟨rfl, rfl, rfl, by decide +kernel, rfl, by decide +kernel, by decide +kernel⟩
theorem ok_lCount {f fI : Addr} {fd dI : FuncData} (F : Fun K "_law_is_count" "_law_is_count" sLIsCount f fd) (GI : FnOk P w K mg base CX0 1 fI dI ["thing"] (spTells K isInt)) (FI : Fun K "_law_whole" "_law_whole" sWhole fI dI) (mI : mg "_law_whole" = some (.ref fI)) (bI : Binds K dI ["thing"] []) :
    FnOk P w K mg base CX0 2 f fd ["thing"] (spTells K isCnt) := by
  refine F.ok scLC (fun as H Q E h => ?_) (fun cdv A outer s H as Q E hr h => ?_)
  · obtain ⟨x, d, rfl, _⟩ := h
    rfl
  · obtain ⟨x, d, rfl, D, k⟩ := h
    refine ⟨_, pss_one (ps_ret (pe_and (pe_call GI hr rfl mI FI.kp bI .nil pass0 (pa_cons (pv 0) pa_nil)) (pe_one (pe_cmpR op_ge (pv 0) pe_int (nomark _))))), ?_⟩
    refine ⟨_, rfl, x, d, rfl, D, isInt d, rfl, ?_⟩
    refine ite2 (fun h => ?_) (fun h => ?_)
    · obtain ⟨i, rfl⟩ := isInt_int h
      cases dat_int D
      exact ⟨_, rfl, _, _, rfl, rfl, k⟩
    · have e : isCnt d = false := by cases d <;> first | rfl | exact absurd rfl h
      rw [e] at k
      exact k
theorem len3 {xs : List V} {n : Nat} : (!decide (V.int (xs.length : Int) = V.int (n : Int))) = !decide (xs.length = n) := by
  by_cases h : xs.length = n
  · rw [h, decide_eq_true rfl, decide_eq_true rfl]
  · rw [decide_eq_false h, decide_eq_false (fun z => h (by injection z with z; omega))]
theorem cable_len {ds : List PyData} (h : ds.length ≠ 3) : cableD (.tuple ds) = false := cable_not (decide_eq_false (fun z => h (by omega)))
theorem car_len {ds : List PyData} (h : ds.length ≠ 4) : carT (.tuple ds) = false := car_not (decide_eq_false (fun z => h (by omega)))
theorem scLB : FnScope ["thing"] ["thing"] (defScope sLIsCable) := ⟨rfl, rfl, rfl, by decide +kernel, rfl, by decide +kernel, by decide +kernel⟩
theorem ok_lCable {f fN fC : Addr} {fd dN dC : FuncData} (F : Fun K "_law_is_cable" "_law_is_cable" sLIsCable f fd) (T : Nat0 mg) (GN : FnOk P w K mg base CX0 1 fN dN ["thing"] (spTellS K nameD)) (FN : Fun K "_law_is_name" "_law_is_name" sLIsName fN dN) (mN : mg "_law_is_name" = some (.ref fN)) (bN : Binds K dN ["thing"] [])
    (GC : FnOk P w K mg base CX0 2 fC dC ["thing"] (spTells K isCnt)) (FC : Fun K "_law_is_count" "_law_is_count" sLIsCount fC dC) (mC : mg "_law_is_count" = some (.ref fC)) (bC : Binds K dC ["thing"] []) : FnOk P w K mg base CX0 3 f fd ["thing"] (spTellS K cableD) := by
  refine F.ok scLB (fun as H Q E h => ?_) (fun cdv A outer s H as Q E hr h => ?_)
  · obtain ⟨x, d, rfl, _⟩ := h
    rfl
  · obtain ⟨x, d, rfl, D, bd, k⟩ := h
    have hr1 : Room 1 _ := hr.mono (by decide)
    refine ⟨_, pss_cons (ps_if (PW.pt (pw_or (pt_not (pt_val (pe_callB (call_isD kit_T) (by rfl) T.isi (by decide +kernel) (pa_cons (pv 0) (pa_cons (pe_bltn (v := .ty "tuple") (by rfl) T.tuple (by decide +kernel) rfl) pa_nil)))))
        (pw_or (pt_cmpR op_ne (pe_callB call_len_seq (by rfl) T.len PySem.boot_len (pa_cons (pv 0) pa_nil)) pe_int (nomark _))
        (pw_or (pt_not (pt_val (pe_call GN hr1 rfl mN FN.kp bN .nil pass0 (pa_cons (pe_ix ix_tup (pv 0) pe_int (fun _ _ => rfl)) pa_nil)))) (pw_or1 (pt_not (pt_val (pe_call GN hr1 rfl mN FN.kp bN .nil pass0 (pa_cons (pe_ix ix_tup (pv 0) pe_int (fun _ _ => rfl)) pa_nil))))))))) (pss_one (ps_ret pe_bl)) pss_nil)
      (pss_one (ps_ret (pe_and (pe_cmpR op_ne (pe_ix ix_tup (pv 0) pe_int (fun _ _ => rfl)) (pe_ix ix_tup (pv 0) pe_int (fun _ _ => rfl)) (nomark _)) (pe_and (pe_cmpR op_ne (pe_ix ix_tup (pv 0) pe_int (fun _ _ => rfl)) pe_str (nomark _))
        (pe_one (pe_call GC hr rfl mC FC.kp bC .nil pass0 (pa_cons (pe_ix ix_tup (pv 0) pe_int (fun _ _ => rfl)) pa_nil))))))), ?_⟩
    refine ⟨_, rfl, x, d, rfl, D, qT d, rfl, ?_⟩
    refine ite2 (fun h => ?_) (fun h => ?_)
    · have e : cableD d = false := by cases d <;> first | rfl | exact absurd h Bool.false_ne_true
      rw [e] at k
      exact k H (Same.refl H)
    obtain ⟨a, xs, ds, rfl, rfl, hT, hA⟩ := dat_tup D (by simpa using h)
    refine ⟨_, rfl, a, xs, rfl, .inr hT, rfl, _, rfl, ?_⟩
    refine ite2 (fun h => ?_) (fun h => ?_)
    · have e : cableD (.tuple ds) = false := cable_len fun z => by
        rw [show (3 : Int) = ((3 : Nat) : Int) from rfl, len3, hA.len, z] at h
        cases h
      rw [e] at k
      exact k H (Same.refl H)
    have l3 : ds.length = 3 := by
      rw [show (3 : Int) = ((3 : Nat) : Int) from rfl, len3, hA.len] at h
      simpa using h
    obtain ⟨x1, x2, x3, d1, d2, d3, rfl, rfl, D1, D2, D3⟩ := tup3 hA l3
    have k' : ∀ H', Same H H' → Q (.bl (nameD d1 && (nameD d2 && (!decide (strOf d1 = strOf d2) && (!decide (strOf d2 = feed) && isCnt d3))))) H' := k
    clear k h
    refine ⟨_, rfl, a, _, 0, x1, rfl, rfl, hT, at0, x1, d1, rfl, D1, bd_in bd (.head _), fun H1 M1 => ⟨_, rfl, ?_⟩⟩
    refine ite2 (fun h1 => ?_) (fun h1 => ?_)
    · rw [show nameD d1 = false by simpa using h1, Bool.false_and] at k'
      exact k' H1 M1
    have n1 : nameD d1 = true := by simpa using h1
    obtain ⟨s1, rfl⟩ := name_str n1
    cases dat_s D1
    refine ⟨_, rfl, a, _, 1, x2, rfl, rfl, sqt_more M1 hT, at1, x2, d2, rfl, D2.more M1, bd_in bd (.tail _ (.head _)), fun H2 M2 => ⟨_, rfl, ?_⟩⟩
    have M12 := M1.trans M2
    refine ite2 (fun h2 => ?_) (fun h2 => ?_)
    · rw [show nameD d2 = false by simpa using h2, Bool.false_and, Bool.and_false] at k'
      exact k' H2 M12
    have n2 : nameD d2 = true := by simpa using h2
    obtain ⟨s2, rfl⟩ := name_str n2
    cases dat_s D2
    rw [n1, n2, Bool.true_and, Bool.true_and] at k'
    refine ⟨_, rfl, a, _, 0, _, rfl, rfl, sqt_more M12 hT, at0, _, rfl, a, _, 1, _, rfl, rfl, sqt_more M12 hT, at1, rfl, _, rfl, ?_⟩
    refine ite2 (fun h3 => ?_) (fun h3 => ?_)
    · rw [neS] at h3
      rw [show (!decide (strOf (.str s1) = strOf (.str s2))) = true from h3, Bool.true_and] at k'
      refine ⟨_, rfl, a, _, 1, _, rfl, rfl, sqt_more M12 hT, at1, rfl, _, rfl, ?_⟩
      refine ite2 (fun h4 => ?_) (fun h4 => ?_)
      · rw [neS] at h4
        rw [show (!decide (strOf (.str s2) = feed)) = true from h4, Bool.true_and] at k'
        exact ⟨_, rfl, a, _, 2, x3, rfl, rfl, sqt_more M12 hT, at2, x3, d3, rfl, D3.more M12, k' H2 M12⟩
      · rw [neS] at h4
        rw [show (!decide (strOf (.str s2) = feed)) = false from Bool.eq_false_iff.mpr h4] at k'
        exact k' H2 M12
    · rw [neS] at h3
      rw [show (!decide (strOf (.str s1) = strOf (.str s2))) = false from Bool.eq_false_iff.mpr h3] at k'
      exact k' H2 M12
theorem scLR : FnScope ["thing"] ["thing"] (defScope sLIsCar) := ⟨rfl, rfl, rfl, by decide +kernel, rfl, by decide +kernel, by decide +kernel⟩
theorem ok_lCar {f fN fC : Addr} {fd dN dC : FuncData} (F : Fun K "_law_is_car" "_law_is_car" sLIsCar f fd) (T : Nat0 mg) (GN : FnOk P w K mg base CX0 1 fN dN ["thing"] (spTellS K nameD)) (FN : Fun K "_law_is_name" "_law_is_name" sLIsName fN dN) (mN : mg "_law_is_name" = some (.ref fN)) (bN : Binds K dN ["thing"] [])
    (GC : FnOk P w K mg base CX0 2 fC dC ["thing"] (spTells K isCnt)) (FC : Fun K "_law_is_count" "_law_is_count" sLIsCount fC dC) (mC : mg "_law_is_count" = some (.ref fC)) (bC : Binds K dC ["thing"] []) : FnOk P w K mg base CX0 3 f fd ["thing"] (spTellS K carT) := by
  refine F.ok scLR (fun as H Q E h => ?_) (fun cdv A outer s H as Q E hr h => ?_)
  · obtain ⟨x, d, rfl, _⟩ := h
    rfl
  · obtain ⟨x, d, rfl, D, bd, k⟩ := h
    have hr1 : Room 1 _ := hr.mono (by decide)
    refine ⟨_, pss_cons (ps_if (PW.pt (pw_or (pt_not (pt_val (pe_callB (call_isD kit_T) (by rfl) T.isi (by decide +kernel) (pa_cons (pv 0) (pa_cons (pe_bltn (v := .ty "tuple") (by rfl) T.tuple (by decide +kernel) rfl) pa_nil)))))
        (pw_or (pt_cmpR op_ne (pe_callB call_len_seq (by rfl) T.len PySem.boot_len (pa_cons (pv 0) pa_nil)) pe_int (nomark _))
        (pw_or (pt_not (pt_val (pe_call GN hr1 rfl mN FN.kp bN .nil pass0 (pa_cons (pe_ix ix_tup (pv 0) pe_int (fun _ _ => rfl)) pa_nil)))) (pw_or1 (pt_not (pt_val (pe_call GN hr1 rfl mN FN.kp bN .nil pass0 (pa_cons (pe_ix ix_tup (pv 0) pe_int (fun _ _ => rfl)) pa_nil))))))))) (pss_one (ps_ret pe_bl)) pss_nil)
      (pss_one (ps_ret (pe_and (pe_call GC hr rfl mC FC.kp bC .nil pass0 (pa_cons (pe_ix ix_tup (pv 0) pe_int (fun _ _ => rfl)) pa_nil)) (pe_and (pe_cmpR op_gt (pe_ix ix_tup (pv 0) pe_int (fun _ _ => rfl)) pe_int (nomark _))
        (pe_one (pe_call GC hr rfl mC FC.kp bC .nil pass0 (pa_cons (pe_ix ix_tup (pv 0) pe_int (fun _ _ => rfl)) pa_nil))))))), ?_⟩
    refine ⟨_, rfl, x, d, rfl, D, qT d, rfl, ?_⟩
    refine ite2 (fun h => ?_) (fun h => ?_)
    · have e : carT d = false := by cases d <;> first | rfl | exact absurd h Bool.false_ne_true
      rw [e] at k
      exact k H (Same.refl H)
    obtain ⟨a, xs, ds, rfl, rfl, hT, hA⟩ := dat_tup D (by simpa using h)
    refine ⟨_, rfl, a, xs, rfl, .inr hT, rfl, _, rfl, ?_⟩
    refine ite2 (fun h => ?_) (fun h => ?_)
    · have e : carT (.tuple ds) = false := car_len fun z => by
        rw [show (4 : Int) = ((4 : Nat) : Int) from rfl, len3, hA.len, z] at h
        cases h
      rw [e] at k
      exact k H (Same.refl H)
    have l3 : ds.length = 4 := by
      rw [show (4 : Int) = ((4 : Nat) : Int) from rfl, len3, hA.len] at h
      simpa using h
    obtain ⟨x1, x2, x3, x4, d1, d2, d3, d4, rfl, rfl, D1, D2, D3, D4⟩ := tup4 hA l3
    have k' : ∀ H', Same H H' → Q (.bl (nameD d1 && (nameD d2 && (isPos d3 && isCnt d4)))) H' := k
    clear k h
    refine ⟨_, rfl, a, _, 0, x1, rfl, rfl, hT, at0, x1, d1, rfl, D1, bd_in bd (.head _), fun H1 M1 => ⟨_, rfl, ?_⟩⟩
    refine ite2 (fun h1 => ?_) (fun h1 => ?_)
    · rw [show nameD d1 = false by simpa using h1, Bool.false_and] at k'
      exact k' H1 M1
    refine ⟨_, rfl, a, _, 1, x2, rfl, rfl, sqt_more M1 hT, at1, x2, d2, rfl, D2.more M1, bd_in bd (.tail _ (.head _)), fun H2 M2 => ⟨_, rfl, ?_⟩⟩
    have M12 := M1.trans M2
    refine ite2 (fun h2 => ?_) (fun h2 => ?_)
    · rw [show nameD d2 = false by simpa using h2, Bool.false_and, Bool.and_false] at k'
      exact k' H2 M12
    rw [show nameD d1 = true by simpa using h1, show nameD d2 = true by simpa using h2, Bool.true_and, Bool.true_and] at k'
    refine ⟨_, rfl, a, _, 2, x3, rfl, rfl, sqt_more M12 hT, at2, x3, d3, rfl, D3.more M12, isCnt d3, rfl, ?_⟩
    refine ite2 (fun h3 => ?_) (fun h3 => ?_)
    · obtain ⟨i, rfl⟩ : ∃ i, d3 = .int i := by cases d3 <;> first | exact ⟨_, rfl⟩ | cases h3
      cases dat_int D3
      have i0 : 0 ≤ i := of_decide_eq_true h3
      refine ⟨_, rfl, a, _, 2, _, rfl, rfl, sqt_more M12 hT, at2, _, _, rfl, rfl, _, rfl, ?_⟩
      refine ite2 (fun h4 => ?_) (fun h4 => ?_)
      · have i1 : 0 < i := of_decide_eq_true h4
        rw [show isPos (.int i) = true from decide_eq_true (by omega), Bool.true_and] at k'
        exact ⟨_, rfl, a, _, 3, x4, rfl, rfl, sqt_more M12 hT, at3, x4, d4, rfl, D4.more M12, k' H2 M12⟩
      · have i1 : ¬ 0 < i := fun g => h4 (decide_eq_true g)
        rw [show isPos (.int i) = false from decide_eq_false (by omega), Bool.false_and] at k'
        exact k' H2 M12
    · have e : isPos d3 = false := by
        cases d3 with
        | int i =>
          have : ¬ 0 ≤ i := fun g => h3 (decide_eq_true g)
          exact decide_eq_false (by omega)
        | _ => rfl
      rw [e, Bool.false_and] at k'
      exact k' H2 M12
end
end Y

/-! OU: dicts with couples of texts as keys: del, pop, dict of a list of pairs. -/
namespace Ns
open PySem PySem.Spec PyProof.Rows L2
section
variable {X : Cx} {pins : List (Addr × Obj)} {σ : L2.St} {H : Hp} {s : Shared} {a b : Addr} {kvs : List (List Key × V)} {k : List Key} {A : Around} {E : Value → Shared → Prop}
theorem kt_at {xs : List (List Key × Addr × Value)} {v : V} (rel : KT H kvs xs) (l : valV kvs k = some v) : ∃ p, atKey xs k = some p ∧ RelV v p.2 := by
  have r := rel.val k
  rw [l] at r
  cases q : atKey xs k with
  | none => rw [q] at r; exact (show False from r).elim
  | some p => rw [q] at r; exact ⟨p, rfl, r⟩
/-- behind a write: the couples stand -/
theorem kt_write {h' : Heap} {t' : Nat} {kvs' : List (List Key × V)} {xs' : List (List Key × Addr × Value)} (I : Inv X pins σ H s) (e : H a = some (.dT kvs)) (hs : Heap.SameBut a s.heap h') (rel : KT H kvs' xs') (hl : kvs'.length ≤ sizeLine) (hd : (a == sysModules) = false)
    (dd : h'.DictOfH (tupleKind (mixKind X.prog X.w)) a xs') : Inv X pins σ (upd H a (.dT kvs')) { s with heap := h', toks := t' } := by
  obtain ⟨o, es, ep, ho, hx, hdat, hes, _, hn⟩ := dd
  refine d_write I (by rw [e]; exact True.intro) hs ⟨o, ho⟩ ⟨hl, hd, xs', ?_, o, es, ep, ho, hx, hdat, hes, hn⟩
  exact rel.keeps fun c ys ec => by rw [upd_ne (ne_of ec e (fun z => nomatch z))]; exact ec
theorem d_delT {v : V} {Q : Unit → Shared → Prop} (hu : A.units + 1 < cLine) (I : Inv X pins σ H s) (e : H a = some (.dT kvs)) (eb : H b = some (.tup (k.map kV))) (l : valV kvs k = some v) (h : ∀ s', Inv X pins σ (upd H a (.dT (dropK kvs k))) s' → Q () s') :
    wpAny (model X.prog X.w) A (delItem (.ref a) (.ref b)) Q E s := by
  obtain ⟨z, hd, xs, rel, dd⟩ := dt_of I.hok e
  obtain ⟨p, hp, _⟩ := kt_at rel l
  exact wpAny_delItem_heap (hsz := by rw [← Paired.length rel]; exact z) (tupleKind_room_in1 hu) (key_of I.hok eb) hd dd hp fun h' dd' hs => h _ (kt_write I e hs (L2.DX.KT_drop k rel) (Nat.le_trans (dropK_le kvs k) z) hd dd')
end
def sDDelT (td ty : TE) : TS := fun D σ H => td σ H fun x H1 => ty σ H1 fun y H2 => ∃ (a b : Addr) (kvs : List (List Key × V)) (k : List Key) (v : V), x = .ref a ∧ y = .ref b ∧ H2 a = some (.dT kvs) ∧ H2 b = some (.tup (k.map kV)) ∧ valV kvs k = some v ∧ D.nx σ (upd H2 a (.dT (dropK kvs k)))
def rPopT1 : V → List V → Hp → VK → Prop := fun x xs H Q => ∃ (a b : Addr) (kvs : List (List Key × V)) (k : List Key) (v : V), x = .ref a ∧ xs = [.ref b] ∧ H a = some (.dT kvs) ∧ H b = some (.tup (k.map kV)) ∧ valV kvs k = some v ∧ Q v (upd H a (.dT (dropK kvs k)))
def rPopK1 : V → List V → Hp → VK → Prop := fun x xs H Q => ∃ (a : Addr) (kvs : List (Key × V)) (k : Key) (v : V), x = .ref a ∧ xs = [kV k] ∧ H a = some (.dK kvs) ∧ valV kvs k = some v ∧ Q v (upd H a (.dK (dropK kvs k)))
section
variable {X : Cx} {o i : Expr} {pos tpos : Pos} {td ty : TE}
theorem ps_delT (hu : X.A.units + 1 < cLine) (ho : PE X o td) (hi : PE X i ty) : PS X (.Delete [.Subscript o i tpos] pos) (sDDelT td ty) := by
  refine ⟨fun pins s σ H D I h => ?_⟩
  refine wpAny_Delete (wpAny_deleteEach_cons (wpAny_delete_Subscript (thn (ho.run pins s σ H _ I h) fun u s1 ⟨x, H1, I1, rx, q1⟩ => thn (hi.run pins s1 σ H1 _ I1 q1) fun iv s2 hh => ?_)))
  obtain ⟨y, H2, I2, ry, a, b, kvs, k, v, rfl, rfl, e, eb, l, q2⟩ := hh
  cases rx
  cases ry
  exact d_delT hu I2 e eb l fun s3 I3 => wpAny_deleteEach_nil ⟨σ, _, I3, q2⟩
theorem mt_popT1 (hu : X.A.units + 1 < cLine) : MtR X "dict.pop" rPopT1 := by
  intro pins s σ H x xs v us Q I rx rxs h
  obtain ⟨a, b, kvs, k, v, rfl, rfl, e, eb, l, q⟩ := h
  cases rx
  obtain ⟨u1, rfl, r1⟩ := vals1 rxs
  cases r1
  obtain ⟨z, hd, xs', rel, dd⟩ := dt_of I.hok e
  obtain ⟨p, hp, rp⟩ := kt_at rel l
  exact call_pop_heap (hsz := by rw [← Paired.length rel]; exact z) (.inl rfl) (PySem.F.args_dict_pop_2 _ _) (tupleKind_room_in1 hu) (key_of I.hok eb) hd dd hp fun h' dd' hs =>
    ⟨v, _, kt_write I e hs (L2.DX.KT_drop k rel) (Nat.le_trans (dropK_le kvs k) z) hd dd', rp, q⟩
theorem mt_popK1 : MtR X "dict.pop" rPopK1 := by
  intro pins s σ H x xs v us Q I rx rxs h
  obtain ⟨a, kvs, k, v, rfl, rfl, e, l, q⟩ := h
  cases rx
  obtain ⟨u1, rfl, r1⟩ := vals1 rxs
  exact d_pop I e r1 l (.inl rfl) fun w' s3 I3 rw' => ⟨v, _, I3, rw', q⟩
end
/-! ### dict of a list of pairs -/
def mergeT (kvs more : List (List Key × V)) : List (List Key × V) := more.foldl (fun acc kv => putK acc kv.1 kv.2) kvs
theorem kt_merge {H : Hp} : ∀ {more : List (List Key × V)} {ps xs : List (List Key × Addr × Value)} {kvs : List (List Key × V)}, KT H more ps → KT H kvs xs → KT H (mergeT kvs more) (storedAllH xs ps)
  | _, _, _, _, .nil, r => r
  | _, _, _, _, .cons (a := p) (b := q) h t, r => by
    have e := r.put p.1 h.2.1 h.2.2
    rw [h.1] at e
    have z := kt_merge t e
    rw [← h.1] at z
    exact (by rw [h.1] at z; exact (show KT H (mergeT (putK _ p.1 p.2) _) (storedAllH (storedH _ q.1 q.2.1 q.2.2) _) from by rw [h.1]; exact z))
theorem mergeT_len : ∀ (more kvs : List (List Key × V)), (mergeT kvs more).length ≤ kvs.length + more.length
  | [], kvs => Nat.le_refl _
  | p :: r, kvs => by
    have h1 := mergeT_len r (putK kvs p.1 p.2)
    have h2 := length_putK kvs p.1 p.2
    show (mergeT (putK kvs p.1 p.2) r).length ≤ _
    rw [List.length_cons]
    omega
def PrT (K : PySem.W.Frag) (H : Hp) (p : Addr) (kv : List Key × V) : Prop := ∃ b, SqT K H p [.ref b, kv.2] ∧ H b = some (.tup (kv.1.map kV))
theorem prt_of {X : Cx} {pins : List (Addr × Obj)} {σ : L2.St} {H : Hp} {s : Shared} (I : Inv X pins σ H s) : ∀ {ps : List Addr} {kvs : List (List Key × V)}, Paired (PrT X.K H) ps kvs →
    ∃ xs : List (List Key × Addr × Value), KT H kvs xs ∧ xs.length = ps.length ∧ (∀ x ∈ xs, (tupleKind (mixKind X.prog X.w)).is s.heap x.1 x.2.1) ∧ ∀ (j : Nat) (x : List Key × Addr × Value), xs[j]? = some x → ∃ c, ps[j]? = some c ∧ s.heap.IsTuple c #[.ref x.2.1, x.2.2]
  | _, _, .nil => ⟨[], .nil, rfl, (fun _ z => nomatch z), fun j x e => by simp at e⟩
  | _, _, .cons (a := p) (b := kv) h t => by
    obtain ⟨xs, r, hl, hk, hp⟩ := prt_of I t
    obtain ⟨b, sq, eb⟩ := h
    obtain ⟨its, rv, ht, _⟩ := I.tuple sq
    obtain ⟨u, y, ei, ru, ry⟩ := vals2 rv
    subst ei
    cases (show u = Value.ref b from ru)
    refine ⟨(kv.1, b, y) :: xs, .cons ⟨rfl, eb, ry⟩ r, by rw [List.length_cons, List.length_cons, hl], fun x hx => ?_, fun j x e => ?_⟩
    · rcases List.mem_cons.mp hx with rfl | hx
      · exact key_of I.hok eb
      · exact hk x hx
    · cases j with
      | zero =>
        cases (show (kv.1, b, y) = x from Option.some.inj e)
        exact ⟨p, rfl, by obtain ⟨o, ho, hc, n, hd⟩ := ht; exact ⟨o, ho, hc, n, hd⟩⟩
      | succ j => exact hp j x (by simpa using e)
def rDictPT (K : PySem.W.Frag) : List V → Hp → VK → Prop := fun xs H Q => ∃ (a : Addr) (ps : List Addr) (kvs : List (List Key × V)), xs = [.ref a] ∧ SqL K H a (ps.map V.ref) ∧ Paired (PrT K H) ps kvs ∧ ∀ p, H p = none → Q (.ref p) (upd H p (.dT (mergeT [] kvs)))
theorem call_dictPT {X : Cx} (hcalm : X.calm = true) (hu : X.A.units + 3 < cLine) : CallR X (.type "dict") (rDictPT X.K) := by
  intro pins s σ H xs us Q I r q
  obtain ⟨a, ps, kvs, rfl, hq, hp, q⟩ := q
  obtain ⟨u, rfl, rx⟩ := vals1 r
  cases rx
  obtain ⟨its, rv, pl, hz⟩ := I.list hq
  cases refs_at rv
  rw [List.length_map] at hz
  obtain ⟨es, rel, hl, his, hpr⟩ := prt_of I hp
  obtain ⟨o, n, ho, hc, hd, hdat⟩ := pl
  have pit : PairItems s.heap (ps.map Value.ref).toArray (fun j => ps.getD j 0) (es.map fun x => (Value.ref x.2.1, x.2.2)) := by
    refine ⟨by simp [hl], fun j k v e => ?_⟩
    rw [List.getElem?_map] at e
    obtain ⟨x, ex, e2⟩ := Option.map_eq_some_iff.mp e
    cases e2
    obtain ⟨c, hc1, hc2⟩ := hpr j x ex
    have ec : ps.getD j 0 = c := by rw [List.getD_eq_getElem?_getD, hc1]; rfl
    refine ⟨?_, .inl ?_⟩
    · show ((ps.map Value.ref).toArray)[j]? = some (.ref (ps.getD j 0))
      rw [ec]
      simp [hc1]
    · show s.heap.IsTuple (ps.getD j 0) _
      rw [ec]
      exact hc2
  refine call_dict_pairsH (knd := tupleKind (mixKind X.prog X.w)) (ps := es) (PairArg.list a (ps.map Value.ref).toArray (fun j => ps.getD j 0) (es.map fun x => (Value.ref x.2.1, x.2.2))) (I.ok.hd hcalm) (by show _ < cLine; exact Nat.lt_of_le_of_lt (by show X.A.units + 2 ≤ X.A.units + 3; omega) hu) ⟨⟨o, n, ho, hc, hd, hdat⟩, pit⟩ ⟨by rw [List.length_map], fun i key v e => ?_⟩ (fun h' hk x hx => ?_) (by rw [List.length_map, hl]; exact hz) fun h' tk hd' k => ?_
  · rw [show PairRel _ i key v = ((es.map fun x => (Value.ref x.2.1, x.2.2))[i]? = some (key, v)) from rfl, List.getElem?_map] at e
    obtain ⟨x, ex, e2⟩ := Option.map_eq_some_iff.mp e
    cases e2
    exact ⟨x.1, x.2.1, ex, rfl⟩
  · exact tupleKind_stays.stays (fun b o vs n e _ => hk b o (Nat.ne_of_lt (Heap.lt_size e)) (fun z => nomatch z) e) (his x hx)
  · have hm : (s.heap.objs.size == sysModules) = false := beq_eq_false_iff_ne.mpr (Nat.ne_of_gt I.big)
    have hlen : (mergeT [] kvs).length ≤ sizeLine := by
      refine Nat.le_trans (mergeT_len kvs []) ?_
      rw [List.length_nil, Nat.zero_add, Paired.length rel, hl]
      exact hz
    have hf : H s.heap.objs.size = none := I.hok.fresh (Nat.le_refl _)
    obtain ⟨o2, es2, ep2, g1, g2, g3, g4, _, g5⟩ := hd'
    refine ⟨.ref s.heap.objs.size, upd H s.heap.objs.size (.dT (mergeT [] kvs)), I.laid (t' := tk) (fun b o e => k b o (fun z => nomatch z) e) (Nat.le_refl _) ⟨hlen, hm, storedAllH [] es, ?_, o2, es2, ep2, g1, g2, g3, g4, g5⟩, rfl, q _ hf⟩
    exact (kt_merge rel .nil).keeps fun c ys ec => by rw [upd_ne (ne_of_none ec hf)]; exact ec
end Ns

/-! OV: {(a, b): v for ..}: a new dict with tuples as keys, made by a comprehension. -/
namespace Ns
open PySem PySem.Spec PyProof.Rows L2
section
variable {X : Cx}
theorem d_setT {pins : List (Addr × Obj)} {σ : L2.St} {H : Hp} {s : Shared} {E : Value → Shared → Prop} {D b : Addr} {kvs : List (List Key × V)} {k : List Key} {v : V} {r : Value} {Q : Unit → Shared → Prop} (hu : X.A.units < cLine) (I : Inv X pins σ H s) (hD : H D = some (.dT kvs))
    (hb : H b = some (.tup (k.map kV))) (hz : kvs.length < sizeLine) (rv : RelV v r) (h : ∀ s', Inv X pins σ (upd H D (.dT (putK kvs k v))) s' → Q () s') : wpAny (model X.prog X.w) X.A (dictSet D (.ref b) r) Q E s := by
  obtain ⟨z, hd, xs, rel, dd⟩ := dt_of I.hok hD
  refine wpAny_dictSet_heap (hsz := by rw [← Paired.length rel]; exact z) hu (key_of I.hok hb) dd fun h' dd' hs => h _ (kt_write I hD hs (rel.put k hb rv) ?_ hd dd')
  have := length_putK kvs k v
  omega
/-- D the new dict -/
def tDcT (wi : TI) (g : TG) (tt : TT) (tk tv : TE) (own : List Nat) : TE := fun σ H Q => wi σ H fun J H1 => ∀ D, H1 D = none → ∃ W : Nat → Nat → Hp → Prop, (∃ m, W 0 m (upd H1 D (.dT []))) ∧ ∀ i m G, W i m G →
  (J.stop i G ∧ Q (.ref D) G) ∨ (J.go i G ∧ ∃ Nx : Hp → Prop, (∀ G', Nx G' → ∃ m', m' < m ∧ W (i + 1) m' G') ∧ ∀ x G', J.yld i G x G' → g x (wipe σ own) G' fun σ2 G2 => wipe σ2 own = wipe σ own ∧ tt σ2 G2 fun o G3 =>
    if o = true then tk σ2 G3 fun y G4 => tv σ2 G4 fun z G5 => ∃ kvs k b, y = .ref b ∧ G5 b = some (.tup (k.map kV)) ∧ G5 D = some (.dT kvs) ∧ kvs.length < sizeLine ∧ Nx (upd G5 D (.dT (putK kvs k z))) else Nx G3)
variable {kx vx tg iter : Expr} {ifs : List Expr} {scope : Scope} {own : List (Str × Nat)} {pos : Pos} {wi : TI} {g : TG} {tt : TT} {tk tv : TE}
theorem pe_dcT (hu : X.A.units < cLine) (hc : X.calm = true) (hN : X.N.Nodup) (hi : PI X tg iter wi) (ok : BlkOk X.N X.env.scope scope own)
    (hg : ∀ (s : Shared) (H : Hp) (C : Addr) (cl : List (Str × Addr)) (fp : List Addr), PG (X.blk s H scope (compEnvC scope cl C X.env) fp) tg g)
    (ht : ∀ (s : Shared) (H : Hp) (C : Addr) (cl : List (Str × Addr)) (fp : List Addr), PTs (X.blk s H scope (compEnvC scope cl C X.env) fp) ifs tt)
    (hk : ∀ (s : Shared) (H : Hp) (C : Addr) (cl : List (Str × Addr)) (fp : List Addr), PE (X.blk s H scope (compEnvC scope cl C X.env) fp) kx tk)
    (hv : ∀ (s : Shared) (H : Hp) (C : Addr) (cl : List (Str × Addr)) (fp : List Addr), PE (X.blk s H scope (compEnvC scope cl C X.env) fp) vx tv) (hs : ∀ x, foldedSetIterable iter X.env x = pure x := by intro _; rfl) :
    PE X (.DictComp kx vx [⟨tg, iter, ifs, 0⟩] scope pos) (tDcT wi g tt tk tv (own.map (·.2))) := by
  refine ⟨fun pins s σ H Q I h => ?_⟩
  rw [arm_eval_DictComp]
  refine wpAny_comprehension_free (use := none) rfl hs (closure_ok fun y hy e => ?_) ok.kind (fun y hy e => by rw [ok.uniq y hy, e]) (thn (hi.run pins s σ H _ I h) fun xv s1 hx => thn hx fun _ s2 ⟨it, fp, tn, J, H2, e2, I2, T, st2, f2, q⟩ => ?_)
  · exact (ok.free y hy e).elim (fun z => I.ok.has _ (.inl z)) fun z => I.ok.has _ (.inr z)
  subst e2
  refine wpAny_newObj_type (newEnv_comp ?_)
  -- the new dict is at D
  obtain ⟨D, eD⟩ : ∃ D, D = s2.heap.objs.size := ⟨_, rfl⟩
  obtain ⟨W, ⟨m0, w0⟩, turn⟩ := q D (I2.hok.fresh (Nat.le_of_eq eD.symm))
  obtain ⟨s3, es3⟩ : ∃ s3 : Shared, s3 = { s2 with heap := s2.heap.push { cls := .type "dict", data := .dict #[] } } := ⟨_, rfl⟩
  have I3 : Inv X pins σ (upd H2 D (.dT [])) s3 := by
    subst es3 eD
    exact I2.laid (t' := s2.toks) (fun b o e => Heap.get?_push_of_some _ e) (Nat.le_refl _) (dt_empty s2.heap I2.big)
  have up3 : ∀ b o, s2.heap.get? b = some o → s3.heap.get? b = some o := fun b o e => by subst es3; exact Heap.get?_push_of_some _ e
  have f3 : ∀ b ∈ fp, FpOk X pins (upd H2 D (.dT [])) b ∧ b < s3.heap.objs.size := fun b hb => by
    obtain ⟨o, e, _⟩ := T.obj _ _ st2 b hb
    have lt := Heap.lt_size e
    refine ⟨⟨?_, (f2 b hb).2⟩, Heap.lt_size (up3 _ _ e)⟩
    rw [upd_ne (by rw [eD]; exact Nat.ne_of_lt lt)]
    exact (f2 b hb).1
  have st3 : tn 0 s3.heap := T.keep _ _ _ st2 fun b _ o e => up3 _ _ e
  have nD3 : (upd H2 D (.dT [])) D = some (.dT []) := upd_same
  rw [← eD]
  obtain ⟨H3, eH3⟩ : ∃ H3, H3 = upd H2 D (.dT []) := ⟨_, rfl⟩
  rw [← eH3] at I3 f3 w0 nD3
  -- the block
  obtain ⟨C, eC⟩ : ∃ C, C = s3.heap.objs.size := ⟨_, rfl⟩
  have I4 := block_start I3 ok hN f3
  have hgoal : ({ s2 with heap := s2.heap.push { cls := .type "dict", data := .dict #[] } } : Shared) = s3 := es3.symm
  obtain ⟨ce, ece⟩ : ∃ ce, ce = compEnvC scope (cellsFrom (C + 1) scope.names (cloFrom X.env.cells scope.names [])) C X.env := ⟨_, rfl⟩
  have pg := hg s3 H3 C (cellsFrom (C + 1) scope.names (cloFrom X.env.cells scope.names [])) fp
  have pt := ht s3 H3 C (cellsFrom (C + 1) scope.names (cloFrom X.env.cells scope.names [])) fp
  have pk := hk s3 H3 C (cellsFrom (C + 1) scope.names (cloFrom X.env.cells scope.names [])) fp
  have pv := hv s3 H3 C (cellsFrom (C + 1) scope.names (cloFrom X.env.cells scope.names [])) fp
  obtain ⟨s4, es4⟩ : ∃ s4 : Shared, s4 = { s3 with heap := pushCells (s3.heap.push { cls := .type "dict", data := .dict #[] }) scope.names } := ⟨_, rfl⟩
  rw [← eC, ← ece] at I4
  rw [← ece] at pg pt pk pv
  have up4 : ∀ b o, s3.heap.get? b = some o → s4.heap.get? b = some o := fun b o e => by subst es4; exact pushCells_keeps _ _ _ _ (Heap.get?_push_of_some _ e)
  have goal : codeAny (model X.prog X.w) X.A (.compStart (.DictComp kx vx [⟨tg, iter, ifs, 0⟩] scope pos) 0 (.ref it) (.ref D) ce) (compPost (model X.prog X.w) X.A X.xe none (EP X pins σ Q) (.ref D) C) s4 := by
    have cL : ce.locals = C := by rw [ece]; rfl
    have I5 : Inv (X.blk s3 H3 scope ce fp) [] (wipe σ (own.map (·.2))) H3 s4 := by rw [es4]; exact I4
    have apart : ∀ {σ' : L2.St} {G : Hp} {s' : Shared}, Inv (X.blk s3 H3 scope ce fp) [] σ' G s' → (∀ b ∈ fp, G b = none) → ∀ b ∈ fp, FpOk (X.blk s3 H3 scope ce fp) [] G b := fun {σ' G s'} J' hn b hb => by
      have e1 := J'.ok.exf b hb
      exact ⟨hn b hb, e1.1, J'.ok.exfs b hb, .inl hb, fun x c e => e1.2 x c e, fun p hp => (nomatch (show p ∈ ([] : List (Addr × Obj)) from hp))⟩
    have st4 : tn 0 s4.heap := T.keep _ _ _ st3 fun b _ o e => up4 _ _ e
    have none3 : ∀ b ∈ fp, H3 b = none := fun b hb => (f3 b hb).1.1
    suffices loop : codeAny (model X.prog X.w) X.A (.compLoop (.DictComp kx vx [⟨tg, iter, ifs, 0⟩] scope pos) 0 (.ref it) (.ref D) ce) (compPost (model X.prog X.w) X.A X.xe none (EP X pins σ Q) (.ref D) C) s4 from codeAny_compStart_dict loop (T.self X.A 0 _ _ _ st4 loop)
    refine compLoop_anyD (fun n s' => ∃ i G, Inv (X.blk s3 H3 scope ce fp) [] (wipe σ (own.map (·.2))) G s' ∧ tn i s'.heap ∧ (∀ b ∈ fp, G b = none) ∧ W i n G) (fun n s5 hI => ?_) m0 ⟨0, H3, I5, st4, none3, w0⟩
    obtain ⟨i, G, J5, st5, n5, w5⟩ := hI
    rcases turn i n G w5 with ⟨stop, qq⟩ | ⟨go, Nx, hNx, step⟩
    · -- done
      refine thnF (T.done (X.blk s3 H3 scope ce fp) rfl rfl rfl hc i [] s5 _ G (fun _ _ => False) J5 (apart J5 n5) st5 stop) fun r s6 hr => ?_
      obtain ⟨rfl, J6⟩ := hr
      have I7 : Inv X pins σ G s6 := I3.call' (ch := fp) J6.os J6.base J6.hok J6.bare fun b hb => by
        obtain ⟨⟨_, k1, k2, k3, k4, k5⟩, _⟩ := f3 b hb
        exact ⟨k3, k1, k4, k5⟩
      have gC : G C = none := by
        have z := J6.free
        rw [show (X.blk s3 H3 scope ce fp).env.locals = C from cL] at z
        exact z
      obtain ⟨mm, hm, _⟩ := J6.loc
      rw [show (X.blk s3 H3 scope ce fp).env.locals = C from cL] at hm
      obtain ⟨k0, k1, k2, k3, k4, k5⟩ := I3.fpOk (Nat.le_of_eq eC.symm) gC
      refine ⟨mm, hm, fun h'' sb => ?_⟩
      exact ⟨.ref D, G, I7.turned (t' := s6.toks) (fun b o hb e => (sb.2 b hb).trans e) k0 k1 k3 k4 k5, rfl, qq⟩
    · -- one more
      refine thnF (T.item (X.blk s3 H3 scope ce fp) rfl rfl rfl hc i [] s5 _ G (fun _ _ => False) J5 (apart J5 n5) st5 go) fun r s6 hr => ?_
      obtain ⟨u, rfl, h6⟩ := hr
      refine thnF h6 fun _ s7 h7 => ?_
      obtain ⟨x, G7, J7, r7, y7, st7, n7⟩ := h7
      refine thnF (pg.run _ s7 _ G7 x u _ (J7.pinned (apart J7 n7) (T.obj _ _ st7)) r7 (step x G7 y7)) fun _ s8 h8 => ?_
      obtain ⟨σ8, G8, J8, same8, q8⟩ := h8
      refine thnF (pt.run _ s8 σ8 G8 _ J8 q8) fun o s9 h9 => ?_
      obtain ⟨G9, J9, q9⟩ := h9
      have turned : ∀ {s' : Shared} {G' : Hp}, Inv (X.blk s3 H3 scope ce fp) ([] ++ pinsAt fp s7.heap) σ8 G' s' → Nx G' → ∃ m, m < n ∧ ∃ i G', Inv (X.blk s3 H3 scope ce fp) [] (wipe σ (own.map (·.2))) G' s' ∧ tn i s'.heap ∧ (∀ b ∈ fp, G' b = none) ∧ W i m G' := fun {s' G'} J' nx => by
        obtain ⟨m', lt, w'⟩ := hNx G' nx
        have pinned : ∀ b ∈ fp, ∀ ob, s7.heap.get? b = some ob → s'.heap.get? b = some ob ∧ G' b = none := fun b hb ob e => by
          have z := J'.pin (b, ob) (List.mem_append_right _ (List.mem_append_right _ (mem_pinsAt hb e)))
          exact ⟨z.1, z.2.1⟩
        have hl : (wipe σ (own.map (·.2))).length = σ8.length := by rw [← same8, wipe_length]
        refine ⟨m', lt, i + 1, G', (J'.unpinned (pins := [])).weak hl (fun j v e => ?_), T.keep _ _ _ st7 fun b hb ob e => (pinned b hb ob e).1, fun b hb => ?_, w'⟩
        · rw [← same8] at e
          exact (wipe_some e).1
        · obtain ⟨ob, e, _⟩ := T.obj _ _ st7 b hb
          exact (pinned b hb ob e).2
      cases o with
      | false => exact turned J9 (by simpa using q9)
      | true =>
        simp only [if_true] at q9 ⊢
        refine thnF (pk.run _ s9 σ8 G9 _ J9 q9) fun z s10 h10 => ?_
        obtain ⟨y, G10, J10, r10, q10⟩ := h10
        refine thnF (pv.run _ s10 σ8 G10 _ J10 q10) fun z2 s11 h11 => ?_
        obtain ⟨yv, G11, J11, r11, kvs, k, b, rfl, hb, hD, hz, nx⟩ := h11
        cases r10
        exact d_setT (X := X.blk s3 H3 scope ce fp) hu J11 hD hb hz r11 fun s12 J12 => turned J12 nx
  rw [es4, eC] at goal
  rw [ece, es3] at goal
  subst es3 eC
  exact goal
end
end Ns

namespace Y
open PySem PySem.Spec PyProof.Rows L2 Ns
open C8 (pss_cut)
/-- drawn cars, in their order -/
structure Cars (ns nm : List Str) (cs : List Car) : Prop where
  srt : sortedS (cs.map (·.1)) = true
  perm : (cs.map (·.1)).Perm nm
  each : ∀ c ∈ cs, c.2.1 ∈ feed :: ns ∧ 1 ≤ c.2.2.1 ∧ c.2.2.1 ≤ 10 ^ 12 ∧ 0 ≤ c.2.2.2 ∧ c.2.2.2 < 10 ^ 12
/-- a new tuple of a car -/
def CarT (H : Hp) (b : Addr) (x : V) (c : Car) : Prop := ∃ t, x = .ref t ∧ t ≠ b ∧ H t = some (.tup [.str c.1, .str c.2.1, .int c.2.2.1, .int c.2.2.2])
theorem CarT.more {H H' : Hp} {b : Addr} (m : ∀ t xs, t ≠ b → H t = some (.tup xs) → H' t = some (.tup xs)) {x : V} {c : Car} (h : CarT H b x c) : CarT H' b x c := by
  obtain ⟨t, e, n, q⟩ := h
  exact ⟨t, e, n, m _ _ n q⟩
def spCars (K : PySem.W.Frag) : Sp := fun as H Q _ => ∃ (b a c : Addr) (nm ns : List Str) (most : Int), as = [.ref b, .ref a, .ref c, .int most] ∧ Bag H b ∧ SqL K (wo H b) a (txs nm) ∧ H c = some (.lst (txs ns)) ∧ c ≠ b ∧ nm.length ≤ 30 ∧ ns.length ≤ 50 ∧ 2 ≤ most ∧ most < 10 ^ 12 ∧
  ∀ (p : Addr) (xs : List V) (cs : List Car) (H' : Hp), Cars ns nm cs → H' p = some (.tup xs) → Paired (CarV K (wo H' b)) xs cs → H p = none → p ≠ b → Bag H' b → Sb b H H' → Q (.ref p) H'
section
variable {P : Program} {w : World} {K : PySem.W.Frag} {mg : Str → Option Value} {base : Heap}
theorem scR : FnScope ["bag", "names", "knots", "most", "found", "name", "knot", "rate", "need"] ["bag", "names", "knots", "most"] (defScope sCars) := ⟨rfl, rfl, rfl, by decide +kernel, rfl, by decide +kernel, by decide +kernel⟩
theorem ok_cars {f fT fS fZ : Addr} {fd fdT fdS fdZ : FuncData} (F : Fun K "_law_cars" "_law_cars" sCars f fd) (T : Nat0 mg) (FT : Fun K "_law_take" "_law_take" sTake fT fdT) (mT : mg "_law_take" = some (.ref fT)) (bT : Binds K fdT ["bag", "many"] [])
    (FS : Fun K "_law_some" "_law_some" sSome fS fdS) (mS : mg "_law_some" = some (.ref fS)) (bS : Binds K fdS ["bag", "things"] [])
    (GZ : FnOk P w K mg base CX0 3 fZ fdZ ["bag", "most"] spSize) (FZ : Fun K "_law_size" "_law_size" sSize fZ fdZ) (mZ : mg "_law_size" = some (.ref fZ)) (bZ : Binds K fdZ ["bag", "most"] []) :
    FnOk P w K mg base CX0 4 f fd ["bag", "names", "knots", "most"] (spCars K) := by
  have GT : FnOk P w K mg base CX0 1 fT fdT ["bag", "many"] spTake := ok_take FT T
  have GS : FnOk P w K mg base CX0 2 fS fdS ["bag", "things"] (spSome K) := ok_some FS T FT mT bT
  refine F.ok scR (fun as H Q E h => ?_) (fun cdv A outer s H as Q E hr h => ?_)
  · obtain ⟨b, a, c, nm, ns, most, rfl, _⟩ := h
    rfl
  · obtain ⟨b, a, c, nm, ns, most, rfl, hB, hS, hC, ncb, hnm, hns, hmo, hmo2, k⟩ := h
    have hr1 : Room 1 _ := hr.mono (by decide)
    have hr2 : Room 2 _ := hr.mono (by decide)
    refine ⟨_, pss_cons (ps_set (i := 4) scR.nd rfl (.inl rfl) (pe_lst pa_nil))
      (pss_cons (ps_for PassesOwn.never rfl (pi_list (pe_callB cr_sortedS (by rfl) T.sorted (by decide +kernel) (pa_cons (pv 1) pa_nil))) (pg_name (i := 5) scR.nd rfl (.inl rfl))
        (pss_cons (ps_set (i := 6) scR.nd rfl (.inl rfl) (pe_call GS hr2 rfl mS FS.kp bS .nil pass0 (pa_cons (pv 0) (pa_cons (pe_op op_cat (pe_op op_cat (pe_lst (pa_cons pe_str pa_nil)) (pv 2)) (pv 2)) pa_nil))))
        (pss_cons (ps_set (i := 7) scR.nd rfl (.inl rfl) (pe_callB (call_max2 rfl) (by rfl) T.max (by decide +kernel) (pa_cons pe_int (pa_cons (pe_call GS hr2 rfl mS FS.kp bS .nil pass0 (pa_cons (pv 0) (pa_cons (pe_lst (pa_cons pe_int (pa_cons pe_int (pa_cons (pe_call GZ hr rfl mZ FZ.kp bZ .nil pass0 (pa_cons (pv 0) (pa_cons (pv 3) pa_nil))) (pa_cons pe_int pa_nil))))) pa_nil))) pa_nil))))
        (pss_cons (ps_set (i := 8) scR.nd rfl (.inl rfl) (pe_call GS hr2 rfl mS FS.kp bS .nil pass0 (pa_cons (pv 0) (pa_cons (pe_lst (pa_cons (pe_op op_add pe_int (pe_call GZ hr rfl mZ FZ.kp bZ .nil pass0 (pa_cons (pv 0) (pa_cons (pv 3) pa_nil)))) (pa_cons (pv 7)
            (pa_cons (pe_op op_add (pe_op op_mul pe_int (pv 7)) pe_int) (pa_cons pe_int (pa_cons pe_int (pa_cons (pe_op op_mul pe_int (pv 7)) (pa_cons (pe_call GT hr1 rfl mT FT.kp bT .nil pass0 (pa_cons (pv 0) (pa_cons (pe_op op_add (pv 3) pe_int) pa_nil))) pa_nil)))))))) pa_nil))))
        (pss_one (ps_expr (pe_bm PySem.F.plainAttrs_list PySem.F.slot_list_append PySem.F.type_list_append mt_append (pv 4) (pa_cons (pe_tup (pa_cons (pv 5) (pa_cons (pv 6) (pa_cons (pv 7) (pa_cons (pe_callB (call_min2 rfl) (by rfl) T.min (by decide +kernel) (pa_cons (pv 8) (pa_cons (pe_op op_sub (pe_op op_pow pe_int pe_int) pe_int) pa_nil))) pa_nil))))) pa_nil))))))))
      (pss_one (ps_ret (pe_callTy call_tuple_of (by rfl) T.tuple (by decide +kernel) (pa_cons (pv 4) pa_nil))))), ?_⟩
    refine ⟨by show 0 ≤ sizeLine; decide, fun d hd => ?_⟩
    have ndb : d ≠ b := hB.ne hd
    have ncd : c ≠ d := ne_of_none hC hd
    refine ⟨_, rfl, a, nm, rfl, Same.seq (same_new (Same.refl H) hd) ((wo_sub H b).seq hS), by omega, fun ys p perm srt hp => ⟨p, rfl, ⟨_, .inl (.inl upd_same)⟩, ?_⟩⟩
    have npd : p ≠ d := fun e => by rw [e, upd_same] at hp; cases hp
    have hp0 : H p = none := by rw [upd_ne npd] at hp; exact hp
    have npb : p ≠ b := hB.ne hp0
    have hlen : ys.length = nm.length := perm.length_eq
    refine for_list (K := K) (a := p) (xs := ys.map V.str) (fun i σ H' => ∃ (v5 v6 v7 v8 : Option V) (zs : List V) (cs : List Car), σ = [some (.ref b), some (.ref a), some (.ref c), some (.int most), some (.ref d), v5, v6, v7, v8] ∧ H' d = some (.lst zs) ∧ cs.map (·.1) = ys.take i ∧
      (∀ c ∈ cs, c.2.1 ∈ feed :: ns ∧ 1 ≤ c.2.2.1 ∧ c.2.2.1 ≤ 10 ^ 12 ∧ 0 ≤ c.2.2.2 ∧ c.2.2.2 < 10 ^ 12) ∧ Paired (CarT H' b) zs cs ∧ H' p = some (.lst (ys.map V.str)) ∧ Bag H' b ∧ Sb b H H') ?_ ?_ ?_ ?_
    · exact ⟨none, none, none, none, [], [], rfl, by rw [upd_ne npd.symm, upd_same], by rw [List.take_zero]; rfl, (fun _ z => nomatch z), .nil, upd_same, (hB.new hd).new hp, ((Sb.refl b H).new hd).new hp⟩
    · rintro i σ H' _ ⟨v5, v6, v7, v8, zs, cs, _, _, _, _, _, e, _⟩
      exact .inl (.inl e)
    · rintro i x σ H' hx ⟨v5, v6, v7, v8, zs, cs, rfl, g1, g2, g3, g4, g5, hB1, s1⟩
      rw [List.getElem?_map] at hx
      obtain ⟨y, hy, rfl⟩ := Option.map_eq_some_iff.mp hx
      have tl : (txs ns).length = ns.length := List.length_map _
      -- the knot
      refine ⟨_, rfl, by show 1 ≤ sizeLine; decide, fun q1 hq1 => ⟨_, rfl, q1, c, [.str feed], txs ns, rfl, rfl, upd_same, s3u hq1 (s1.get hC ncb), ?_, fun q2 hq2 => ⟨_, rfl, q2, c, [.str feed] ++ txs ns, txs ns, rfl, rfl, upd_same, s3u hq2 (s3u hq1 (s1.get hC ncb)), ?_, fun q3 hq3 => ?_⟩⟩⟩
      · exact Nat.le_of_lt (small1000 (show 1 + _ ≤ 1000 by omega))
      · rw [List.length_append]
        exact Nat.le_of_lt (small1000 (show 1 + _ + _ ≤ 1000 by omega))
      have hB2 := ((hB1.new (o := .lst [.str feed]) hq1).new (o := .lst ([.str feed] ++ txs ns)) hq2).new (o := .lst ([.str feed] ++ txs ns ++ txs ns)) hq3
      have s2 := ((s1.new (o := .lst [.str feed]) hq1).new (o := .lst ([.str feed] ++ txs ns)) hq2).new (o := .lst ([.str feed] ++ txs ns ++ txs ns)) hq3
      have m2 : Same H' (upd (upd (upd H' q1 (.lst [.str feed])) q2 (.lst ([.str feed] ++ txs ns))) q3 (.lst ([.str feed] ++ txs ns ++ txs ns))) := same_new (same_new (same_new (Same.refl H') hq1) hq2) hq3
      refine ⟨b, q3, _, rfl, hB2, sql_new upd_same (((hB1.new (o := .lst [.str feed]) hq1).new (o := .lst ([.str feed] ++ txs ns)) hq2).ne hq3), (fun z => nomatch z), ?_, fun kn H2 hkn hB3 s3 => ?_⟩
      · rw [List.length_append, List.length_append]
        show 1 + _ + _ ≤ _
        omega
      obtain ⟨kx, hkx, rfl⟩ : ∃ kx, kx ∈ feed :: ns ∧ kn = .str kx := by
        rcases List.mem_append.mp hkn with z | z
        · rcases List.mem_append.mp z with z | z
          · exact ⟨feed, List.mem_cons_self, List.mem_singleton.mp z⟩
          · obtain ⟨u, hu, rfl⟩ := List.mem_map.mp z
            exact ⟨u, List.mem_cons_of_mem _ hu, rfl⟩
        · obtain ⟨u, hu, rfl⟩ := List.mem_map.mp z
          exact ⟨u, List.mem_cons_of_mem _ hu, rfl⟩
      have s03 := s2.trans s3
      have b5 := s3
      -- the rate
      refine ⟨_, rfl, _, rfl, _, rfl, b, most, rfl, hB3, by omega, by omega, fun v H3 v0 v1 hB4 s4 => ⟨by show 4 ≤ sizeLine; decide, fun q4 hq4 => ⟨b, q4, _, rfl, hB4.new hq4, sql_new upd_same (hB4.ne hq4), (fun z => nomatch z), by show 4 ≤ 1000000; decide, fun x H4 hx hB5 s5 => ?_⟩⟩⟩
      obtain ⟨r0, rfl, r1, r2⟩ : ∃ r : Int, x = .int r ∧ 0 ≤ r ∧ r ≤ 10 ^ 12 := by
        simp only [List.mem_cons, List.not_mem_nil, or_false] at hx
        rcases hx with rfl | rfl | rfl | rfl
        · exact ⟨1, rfl, by decide, by decide⟩
        · exact ⟨2, rfl, by decide, by decide⟩
        · exact ⟨v, rfl, v0, by omega⟩
        · exact ⟨3, rfl, by decide, by decide⟩
      refine ⟨1, r0, rfl, ?_⟩
      obtain ⟨R, hR, R1, R2⟩ : ∃ R : Int, (if r0 > 1 then r0 else 1) = R ∧ 1 ≤ R ∧ R ≤ 10 ^ 12 := ⟨_, rfl, by split <;> omega, by split <;> omega⟩
      rw [hR]
      have s05 := ((s03.trans s4).new (o := .lst [.int 1, .int 2, .int v, .int 3]) hq4).trans s5
      -- the need
      refine ⟨_, rfl, _, rfl, _, rfl, b, most, rfl, hB5, by omega, by omega, fun v' H5 v0' v1' hB6 s6 => ⟨1, v', rfl, rfl, _, rfl, _, rfl, 2, R, rfl, rfl, .inl ⟨by decide, by decide⟩, _, 1, rfl, rfl, _, rfl, 3, R, rfl, rfl, .inl ⟨by decide, by decide⟩, _, rfl, _, rfl, most, 1, rfl, rfl, b, _, rfl, hB6, by omega, Nat.lt_of_le_of_lt (show (most + 1).natAbs ≤ (10 ^ 13 : Nat) by omega) (by decide +kernel), fun u H6 u0 u1 hB7 s7 => ?_⟩⟩
      refine ⟨by show 7 ≤ sizeLine; decide, fun q5 hq5 => ⟨b, q5, _, rfl, hB7.new hq5, sql_new upd_same (hB7.ne hq5), (fun z => nomatch z), by show 7 ≤ 1000000; decide, fun x H7 hx hB8 s8 => ?_⟩⟩
      obtain ⟨w', rfl, w0⟩ : ∃ r : Int, x = .int r ∧ 0 ≤ r := by
        simp only [List.mem_cons, List.not_mem_nil, or_false] at hx
        rcases hx with rfl | rfl | rfl | rfl | rfl | rfl | rfl
        · exact ⟨_, rfl, by omega⟩
        · exact ⟨_, rfl, by omega⟩
        · exact ⟨_, rfl, by omega⟩
        · exact ⟨_, rfl, by omega⟩
        · exact ⟨_, rfl, by omega⟩
        · exact ⟨_, rfl, by omega⟩
        · exact ⟨_, rfl, by omega⟩
      have s08 := (((s05.trans s6).trans s7).new (o := .lst [.int (1 + v'), .int R, .int (2 * R + 1), .int 0, .int 3, .int (3 * R), .int u]) hq5).trans s8
      -- what stood
      have sk : Sb b H' H7 := ((((((((Sb.refl b H').same m2).trans s3).trans s4).new (o := .lst [.int 1, .int 2, .int v, .int 3]) hq4).trans s5).trans s6).trans s7).new (o := .lst [.int (1 + v'), .int R, .int (2 * R + 1), .int 0, .int 3, .int (3 * R), .int u]) hq5 |>.trans s8
      have e1 := sk.get g1 ndb
      have e5 := sk.get g5 npb
      refine ⟨_, rfl, .inl ⟨rfl, _, SqL.of e1⟩, _, rfl, _, rfl, _, rfl, _, rfl, 10, 12, rfl, rfl, ⟨by decide, by decide, by decide⟩, _, 1, rfl, rfl, w', _, rfl, by show 4 ≤ sizeLine; decide, fun t ht => ?_⟩
      have ntb : t ≠ b := hB8.ne ht
      have ntd : t ≠ d := fun z => by rw [z, e1] at ht; cases ht
      have hz : zs.length ≤ 30 := by
        have h1 := paired_len g4
        have h2 := congrArg List.length g2
        rw [List.length_map, List.length_take] at h2
        omega
      refine ⟨d, zs, .ref t, rfl, rfl, s3u ht e1, small1000 (by omega), _, _, _, _, zs ++ [.ref t], cs ++ [(y, kx, R, if 10 ^ 12 - 1 < w' then 10 ^ 12 - 1 else w')], rfl, upd_same, ?_, fun cc hcc => ?_, ?_, ?_, ?_, ?_⟩
      · rw [List.map_append, g2, List.take_succ, hy]
        rfl
      · rcases List.mem_append.mp hcc with z | z
        · exact g3 cc z
        · rw [List.mem_singleton.mp z]
          refine ⟨hkx, R1, R2, ?_, ?_⟩
          · show 0 ≤ if (10 : Int) ^ 12 - 1 < w' then (10 : Int) ^ 12 - 1 else w'
            split <;> omega
          · show (if (10 : Int) ^ 12 - 1 < w' then (10 : Int) ^ 12 - 1 else w') < _
            split <;> omega
      · refine paired_snoc ⟨t, rfl, ntb, by rw [upd_ne ntd, upd_same]; rfl⟩ (paired_imp (fun x c h => CarT.more (fun t' xs' n q => ?_) h) g4)
        have n2 : t' ≠ d := fun z => by rw [z, g1] at q; cases q
        rw [upd_ne n2]
        exact s3u ht (sk.get q n)
      · rw [upd_ne npd]
        exact s3u ht e5
      · exact hB.wr hd (s08.new (o := .tup [.str y, .str kx, .int R, .int (if (10 : Int) ^ 12 - 1 < w' then 10 ^ 12 - 1 else w')]) ht) (hB8.new ht)
      · exact (s08.new (o := .tup [.str y, .str kx, .int R, .int (if (10 : Int) ^ 12 - 1 < w' then 10 ^ 12 - 1 else w')]) ht).wr hd
    · rintro σ H' ⟨v5, v6, v7, v8, zs, cs, rfl, g1, g2, g3, g4, g5, hB1, s1⟩
      rw [List.length_map, List.take_length] at g2
      refine ⟨_, rfl, d, zs, rfl, .inl ⟨SqL.of g1, fun l hl => ?_⟩⟩
      have nlb : l ≠ b := hB1.ne hl
      refine k l zs cs _ ⟨by rw [g2]; exact srt, by rw [g2]; exact perm, g3⟩ upd_same ?_ (s1.free hl nlb) nlb (hB1.new hl) (s1.new hl)
      refine paired_imp (fun x c h => ?_) g4
      obtain ⟨t', e, n, q⟩ := h
      exact ⟨t', e, sqt_new (s3u hl q) n⟩
end
end Y

namespace Y
open PySem PySem.Spec PyProof.Rows L2 Ns
open C8 (pss_cut)
theorem Cabs.mono {ns : List Str} {m m' : Int} {k k' : Nat} {cs : List Cab} (h : Cabs ns m k cs) (hm : m ≤ m') (hk : k ≤ k') : Cabs ns m' k' cs :=
  ⟨Nat.le_trans h.len hk, h.nodup, fun c hc => by
    obtain ⟨h1, h2, h3, h4, h5⟩ := h.each c hc
    exact ⟨h1, h2, h3, h4, by omega⟩, h.srt⟩
/-- what a drawn yard is -/
structure YardF (most : Int) (cs : List Cab) (rs : List Car) : Prop where
  ex : ∃ ns nm : List Str, Nms [] ns ∧ ns.length ≤ 8 ∧ Nms [] nm ∧ nm.length ≤ 24 ∧ Cabs ns most 40 cs ∧ Cars ns nm rs
theorem YardF.mono {m m' : Int} {cs : List Cab} {rs : List Car} (h : YardF m cs rs) (hm : m ≤ m') : YardF m' cs rs := by
  obtain ⟨ns, nm, h1, h2, h3, h4, h5, h6⟩ := h.ex
  exact ⟨ns, nm, h1, h2, h3, h4, h5.mono hm (Nat.le_refl _), h6⟩
/-- a yard as a value -/
def YardV (K : PySem.W.Frag) (H : Hp) (y : V) (cs : List Cab) (rs : List Car) : Prop := ∃ (t a b : Addr) (xs zs : List V), y = .ref t ∧ SqT K H t [.ref a, .ref b] ∧ SqT K H a xs ∧ SqT K H b zs ∧ Paired (CabV K H) xs cs ∧ Paired (CarV K H) zs rs
theorem YardV.more {K : PySem.W.Frag} {H H' : Hp} (m : Same H H') {y : V} {cs : List Cab} {rs : List Car} (h : YardV K H y cs rs) : YardV K H' y cs rs := by
  obtain ⟨t, a, b, xs, zs, e, h1, h2, h3, h4, h5⟩ := h
  exact ⟨t, a, b, xs, zs, e, sqt_more m h1, sqt_more m h2, sqt_more m h3, paired_imp (fun _ _ => CabV.more m) h4, paired_imp (fun _ _ => CarV.more m) h5⟩
def spYardOf (K : PySem.W.Frag) : Sp := fun as H Q _ => ∃ (b : Addr) (cars knots cables : Nat) (most : Int), as = [.ref b, .int cars, .int knots, .int cables, .int most] ∧ Bag H b ∧ 2 ≤ cars ∧ cars ≤ 24 ∧ knots ≤ 8 ∧ cables ≤ 40 ∧ 2 ≤ most ∧ most < 10 ^ 12 ∧
  ∀ (y : V) (cs : List Cab) (rs : List Car) (H' : Hp), YardF most cs rs → YardV K (wo H' b) y cs rs → Bag H' b → Sb b H H' → Q y H'
/-- a yard drawn, numbers up to most -/
def spYard (K : PySem.W.Frag) (most : Int) : Sp := fun as H Q _ => ∃ (b : Addr), as = [.ref b] ∧ Bag H b ∧ ∀ (y : V) (cs : List Cab) (rs : List Car) (H' : Hp), YardF most cs rs → YardV K (wo H' b) y cs rs → Bag H' b → Sb b H H' → Q y H'
/-- the yards' defs -/
structure Gen (P : Program) (w : World) (K : PySem.W.Frag) (mg : Str → Option Value) (base : Heap) (fT fS fN fNs fC fR : Addr) (dT dS dN dNs dC dR : FuncData) : Prop where
  T : Fun K "_law_take" "_law_take" sTake fT dT
  mT : mg "_law_take" = some (.ref fT)
  bT : Binds K dT ["bag", "many"] []
  S : Fun K "_law_some" "_law_some" sSome fS dS
  mS : mg "_law_some" = some (.ref fS)
  bS : Binds K dS ["bag", "things"] []
  N : Fun K "_law_names" "_law_names" sNames fNs dNs
  mN : mg "_law_names" = some (.ref fNs)
  bN : Binds K dNs ["bag", "many", "taken"] []
  gN : FnOk P w K mg base CX0 4 fNs dNs ["bag", "many", "taken"] (spNames K)
  C : Fun K "_law_cables" "_law_cables" sCables fC dC
  mC : mg "_law_cables" = some (.ref fC)
  bC : Binds K dC ["bag", "knots", "many", "most"] []
  gC : FnOk P w K mg base CX0 5 fC dC ["bag", "knots", "many", "most"] (spCables K)
  R : Fun K "_law_cars" "_law_cars" sCars fR dR
  mR : mg "_law_cars" = some (.ref fR)
  bR : Binds K dR ["bag", "names", "knots", "most"] []
  gR : FnOk P w K mg base CX0 5 fR dR ["bag", "names", "knots", "most"] (spCars K)
section
variable {P : Program} {w : World} {K : PySem.W.Frag} {mg : Str → Option Value} {base : Heap} {fT fS fN fNs fC fR : Addr} {dT dS dN dNs dC dR : FuncData}
theorem scY : FnScope ["bag", "cars", "knots", "cables", "most", "many", "some"] ["bag", "cars", "knots", "cables", "most"] (defScope sYardOf) := ⟨rfl, rfl, rfl, by decide +kernel, rfl, by decide +kernel, by decide +kernel⟩
theorem ok_yardOf {f : Addr} {fd : FuncData} (F : Fun K "_law_yard_of" "_law_yard_of" sYardOf f fd) (T : Nat0 mg) (G : Gen P w K mg base fT fS fN fNs fC fR dT dS dN dNs dC dR) : FnOk P w K mg base CX0 6 f fd ["bag", "cars", "knots", "cables", "most"] (spYardOf K) := by
  have GT : FnOk P w K mg base CX0 1 fT dT ["bag", "many"] spTake := ok_take G.T T
  have GS : FnOk P w K mg base CX0 2 fS dS ["bag", "things"] (spSome K) := ok_some G.S T G.T G.mT G.bT
  refine F.ok scY (fun as H Q E h => ?_) (fun cdv A outer s H as Q E hr h => ?_)
  · obtain ⟨b, cars, knots, cables, most, rfl, _⟩ := h
    rfl
  · obtain ⟨b, cars, knots, cables, most, rfl, hB, hc1, hc2, hk, hb, hmo, hmo2, k⟩ := h
    have hr1 : Room 1 _ := hr.mono (by decide)
    have hr2 : Room 2 _ := hr.mono (by decide)
    have hr4 : Room 4 _ := hr.mono (by decide)
    have hr5 : Room 5 _ := hr
    refine ⟨_, pss_cons (ps_set (i := 5) scY.nd rfl (.inl rfl) (pe_call GS hr2 rfl G.mS G.S.kp G.bS .nil pass0 (pa_cons (pv 0) (pa_cons (pe_lst (pa_cons (pv 1) (pa_cons (pe_op op_add pe_int (pe_call GT hr1 rfl G.mT G.T.kp G.bT .nil pass0 (pa_cons (pv 0) (pa_cons (pv 1) pa_nil)))) (pa_cons (pv 1)
        (pa_cons (pe_callB (call_max2 rfl) (by rfl) T.max (by decide +kernel) (pa_cons pe_int (pa_cons (pe_op op_sub (pv 1) pe_int) pa_nil))) (pa_cons (pe_call GT hr1 rfl G.mT G.T.kp G.bT .nil pass0 (pa_cons (pv 0) (pa_cons (pe_op op_add (pv 1) pe_int) pa_nil))) pa_nil)))))) pa_nil))))
      (pss_cons (ps_set (i := 6) scY.nd rfl (.inl rfl) (pe_call G.gN hr4 rfl G.mN G.N.kp G.bN .nil pass0 (pa_cons (pv 0) (pa_cons (pe_call GT hr1 rfl G.mT G.T.kp G.bT .nil pass0 (pa_cons (pv 0) (pa_cons (pe_op op_add (pv 2) pe_int) pa_nil))) (pa_cons (pe_lst pa_nil) pa_nil)))))
      (pss_one (ps_ret (pe_tup (pa_cons (pe_call G.gC hr5 rfl G.mC G.C.kp G.bC .nil pass0 (pa_cons (pv 0) (pa_cons (pv 6) (pa_cons (pv 3) (pa_cons (pv 4) pa_nil)))))
        (pa_cons (pe_call G.gR hr5 rfl G.mR G.R.kp G.bR .nil pass0 (pa_cons (pv 0) (pa_cons (pe_call G.gN hr4 rfl G.mN G.N.kp G.bN .nil pass0 (pa_cons (pv 0) (pa_cons (pv 5) (pa_cons (pe_lst pa_nil) pa_nil)))) (pa_cons (pv 6) (pa_cons (pv 4) pa_nil))))) pa_nil)))))), ?_⟩
    have big : (2000 : Nat) < 2 ^ 200 := by decide +kernel
    refine ⟨_, rfl, _, rfl, _, rfl, _, rfl, b, cars, rfl, hB, by omega, by omega, fun v H1 v0 v1 hB1 s1 => ⟨1, v, rfl, rfl, _, rfl, _, rfl, cars, 1, rfl, rfl, 1, _, rfl, _, rfl, _, rfl, cars, 1, rfl, rfl, b, _, rfl, hB1, by omega, by omega, fun u H2 u0 u1 hB2 s2 => ?_⟩⟩
    refine ⟨by show 5 ≤ sizeLine; decide, fun q hq => ⟨b, q, _, rfl, hB2.new hq, sql_new upd_same (hB2.ne hq), (fun z => nomatch z), by show 5 ≤ 1000000; decide, fun x H3 hx hB3 s3 => ?_⟩⟩
    obtain ⟨m, rfl, hm⟩ : ∃ m : Nat, x = .int m ∧ m ≤ 24 := by
      have key : ∀ i : Int, 0 ≤ i → i ≤ 24 → ∃ m : Nat, V.int i = .int m ∧ m ≤ 24 := fun i h0 h1 => ⟨i.toNat, by rw [Int.toNat_of_nonneg h0], by omega⟩
      simp only [List.mem_cons, List.not_mem_nil, or_false] at hx
      rcases hx with rfl | rfl | rfl | rfl | rfl
      · exact key _ (by omega) (by omega)
      · exact key _ (by omega) (by omega)
      · exact key _ (by omega) (by omega)
      · exact key _ (by split <;> omega) (by split <;> omega)
      · exact key _ (by omega) (by omega)
    have s03 := ((s1.trans s2).new (o := .lst [.int cars, .int (1 + v), .int cars, .int (if (cars : Int) - 1 > 1 then (cars : Int) - 1 else 1), .int u]) hq).trans s3
    refine ⟨_, rfl, _, rfl, _, rfl, knots, 1, rfl, rfl, b, _, rfl, hB3, by omega, by omega, fun kn H4 k0 k1 hB4 s4 => ⟨by show 0 ≤ sizeLine; decide, fun q2 hq2 => ?_⟩⟩
    obtain ⟨kn', rfl⟩ : ∃ n : Nat, kn = n := ⟨kn.toNat, by omega⟩
    refine ⟨b, q2, kn', [], rfl, hB4.new hq2, sql_new upd_same (hB4.ne hq2), by show 0 + kn' ≤ 100; omega, (fun _ z => nomatch z), fun p ns H5 hns N5 e5 f5 hB5 s5 => ?_⟩
    have s05 := ((s03.trans s4).new (o := .lst []) hq2).trans s5
    have npb : p ≠ b := (hB4.new (o := .lst []) hq2).ne f5
    refine ⟨_, rfl, _, rfl, _, rfl, _, rfl, b, p, ns, cables, most, rfl, hB5, e5, N5, by omega, by omega, hmo, by omega, fun pc xs cs H6 C6 e6 p6 f6 n6 hB6 s6 => ?_⟩
    refine ⟨_, rfl, _, rfl, _, rfl, by show 0 ≤ sizeLine; decide, fun q3 hq3 => ⟨b, q3, m, [], rfl, hB6.new hq3, sql_new upd_same (hB6.ne hq3), by show 0 + m ≤ 100; omega, (fun _ z => nomatch z), fun pn nm H7 hnm N7 e7 f7 hB7 s7 => ?_⟩⟩
    have npn : pn ≠ b := (hB6.new (o := .lst []) hq3).ne f7
    have s67 := ((Sb.refl b H6).new (o := .lst []) hq3).trans s7
    refine ⟨_, rfl, _, rfl, b, pn, p, nm, ns, most, rfl, hB7, sql_new e7 npn, s67.get (s6.get e5 npb) npb, npb, by omega, by omega, hmo, hmo2, fun pr zs rs H8 R8 e8 p8 f8 n8 hB8 s8 => ?_⟩
    have s68 := s67.trans s8
    refine ⟨by show 2 ≤ sizeLine; decide, fun t ht => ?_⟩
    have sT : Same (wo H8 b) (wo (upd H8 t (.tup [.ref pc, .ref pr])) b) := wo_same (same_new (Same.refl H8) ht)
    refine k (.ref t) cs rs _ ⟨ns, nm, N5, by omega, N7, by omega, C6.mono (Int.le_refl _) hb, R8⟩ ⟨t, pc, pr, xs, zs, rfl, sqt_new upd_same (hB8.ne ht), ?_, ?_, ?_, ?_⟩ (hB8.new ht) (((s05.trans s6).trans s68).new ht)
    · exact sqt_new (s3u ht (s68.get e6 n6)) n6
    · exact sqt_new (s3u ht e8) n8
    · exact paired_imp (fun _ _ h => (h.more s68.1).more sT) p6
    · exact paired_imp (fun _ _ h => h.more sT) p8
end
end Y

namespace Y
open PySem PySem.Spec PyProof.Rows L2 Ns
open C8 (pss_cut)
section
variable {P : Program} {w : World} {K : PySem.W.Frag} {mg : Str → Option Value} {base : Heap} {fT fS fN fNs fC fR : Addr} {dT dS dN dNs dC dR : FuncData}
theorem scSm : FnScope ["bag"] ["bag"] (defScope sSmall) := ⟨rfl, rfl, rfl, by decide +kernel, rfl, by decide +kernel, by decide +kernel⟩
theorem ok_small {f fY : Addr} {fd dY : FuncData} (F : Fun K "_law_small_yard" "_law_small_yard" sSmall f fd) (T : Nat0 mg) (G : Gen P w K mg base fT fS fN fNs fC fR dT dS dN dNs dC dR)
    (FY : Fun K "_law_yard_of" "_law_yard_of" sYardOf fY dY) (mY : mg "_law_yard_of" = some (.ref fY)) (bY : Binds K dY ["bag", "cars", "knots", "cables", "most"] []) : FnOk P w K mg base CX0 7 f fd ["bag"] (spYard K 7) := by
  have GS : FnOk P w K mg base CX0 2 fS dS ["bag", "things"] (spSome K) := ok_some G.S T G.T G.mT G.bT
  have GY : FnOk P w K mg base CX0 6 fY dY ["bag", "cars", "knots", "cables", "most"] (spYardOf K) := ok_yardOf FY T G
  refine F.ok scSm (fun as H Q E h => ?_) (fun cdv A outer s H as Q E hr h => ?_)
  · obtain ⟨b, rfl, _⟩ := h
    rfl
  · obtain ⟨b, rfl, hB, k⟩ := h
    have hr2 : Room 2 _ := hr.mono (by decide)
    refine ⟨_, pss_one (ps_ret (pe_call GY hr rfl mY FY.kp bY .nil pass0 (pa_cons (pv 0) (pa_cons (pe_call GS hr2 rfl G.mS G.S.kp G.bS .nil pass0 (pa_cons (pv 0) (pa_cons (pe_lst (pa_cons pe_int (pa_cons pe_int (pa_cons pe_int (pa_cons pe_int pa_nil))))) pa_nil)))
      (pa_cons pe_int (pa_cons (pe_call GS hr2 rfl G.mS G.S.kp G.bS .nil pass0 (pa_cons (pv 0) (pa_cons (pe_lst (pa_cons pe_int (pa_cons pe_int (pa_cons pe_int pa_nil)))) pa_nil)))
      (pa_cons (pe_call GS hr2 rfl G.mS G.S.kp G.bS .nil pass0 (pa_cons (pv 0) (pa_cons (pe_lst (pa_cons pe_int (pa_cons pe_int (pa_cons pe_int pa_nil)))) pa_nil))) pa_nil))))))), ?_⟩
    refine ⟨_, rfl, _, rfl, by show 4 ≤ sizeLine; decide, fun q1 hq1 => ⟨b, q1, _, rfl, hB.new hq1, sql_new upd_same (hB.ne hq1), (fun z => nomatch z), by show 4 ≤ 1000000; decide, fun x H1 hx hB1 s1 => ?_⟩⟩
    obtain ⟨m1, rfl, a1, a2⟩ : ∃ m : Nat, x = .int m ∧ 2 ≤ m ∧ m ≤ 24 := by
      simp only [List.mem_cons, List.not_mem_nil, or_false] at hx
      rcases hx with rfl | rfl | rfl | rfl
      · exact ⟨3, rfl, by decide, by decide⟩
      · exact ⟨4, rfl, by decide, by decide⟩
      · exact ⟨5, rfl, by decide, by decide⟩
      · exact ⟨2, rfl, by decide, by decide⟩
    refine ⟨_, rfl, by show 3 ≤ sizeLine; decide, fun q2 hq2 => ⟨b, q2, _, rfl, hB1.new hq2, sql_new upd_same (hB1.ne hq2), (fun z => nomatch z), by show 3 ≤ 1000000; decide, fun x H2 hx hB2 s2 => ?_⟩⟩
    obtain ⟨m2, rfl, a3⟩ : ∃ m : Nat, x = .int m ∧ m ≤ 40 := by
      simp only [List.mem_cons, List.not_mem_nil, or_false] at hx
      rcases hx with rfl | rfl | rfl
      · exact ⟨4, rfl, by decide⟩
      · exact ⟨6, rfl, by decide⟩
      · exact ⟨3, rfl, by decide⟩
    refine ⟨_, rfl, by show 3 ≤ sizeLine; decide, fun q3 hq3 => ⟨b, q3, _, rfl, hB2.new hq3, sql_new upd_same (hB2.ne hq3), (fun z => nomatch z), by show 3 ≤ 1000000; decide, fun x H3 hx hB3 s3 => ?_⟩⟩
    obtain ⟨m3, rfl, a4, a5⟩ : ∃ m : Int, x = .int m ∧ 2 ≤ m ∧ m ≤ 7 := by
      simp only [List.mem_cons, List.not_mem_nil, or_false] at hx
      rcases hx with rfl | rfl | rfl
      · exact ⟨3, rfl, by decide, by decide⟩
      · exact ⟨7, rfl, by decide, by decide⟩
      · exact ⟨2, rfl, by decide, by decide⟩
    have s03 := ((((((Sb.refl b H).new (o := .lst [.int 3, .int 4, .int 5, .int 2]) hq1).trans s1).new (o := .lst [.int 4, .int 6, .int 3]) hq2).trans s2).new (o := .lst [.int 3, .int 7, .int 2]) hq3).trans s3
    exact ⟨b, m1, 4, m2, m3, rfl, hB3, a1, a2, by decide, a3, a4, by omega, fun y cs rs H' hY hV hB' s' => k y cs rs H' (hY.mono a5) hV hB' (s03.trans s')⟩
end
end Y

namespace Y
open PySem PySem.Spec PyProof.Rows L2 Ns
open C8 (pss_cut)
theorem min_ok {v : Int} (h : 0 ≤ v) : (1 ≤ v → 1 ≤ if (10 : Int) ^ 12 - 1 < v then (10 : Int) ^ 12 - 1 else v) ∧ 0 ≤ (if (10 : Int) ^ 12 - 1 < v then (10 : Int) ^ 12 - 1 else v) ∧ (if (10 : Int) ^ 12 - 1 < v then (10 : Int) ^ 12 - 1 else v) < 10 ^ 12 := by
  split <;> omega
section
variable {P : Program} {w : World} {K : PySem.W.Frag} {mg : Str → Option Value} {base : Heap} {fT fS fN fNs fC fR : Addr} {dT dS dN dNs dC dR : FuncData}
def NG : List Str := ["bag", "yard", "times", "cables", "cars", "most", "one", "other", "cap", "name", "knot", "rate", "need"]
end
end Y

namespace Y
open PySem PySem.Spec PyProof.Rows L2 Ns
open C8 (pss_cut)
/-- a dict of texts to 1 -/
def kv1 (l : List Str) : List (Key × V) := l.map fun s => ((Sum.inr s : Key), V.int 1)
def ins (l : List Str) (s : Str) : List Str := if s ∈ l then l else l ++ [s]
theorem kv1_any (s : Str) : ∀ l : List Str, ((kv1 l).any fun kv => decide (kv.1 = Sum.inr s)) = decide (s ∈ l)
  | [] => by simp [kv1]
  | t :: l => by
    have ih := kv1_any s l
    unfold kv1 at ih ⊢
    rw [List.map_cons, List.any_cons, ih]
    by_cases e : t = s
    · simp [e]
    · have e2 : ¬ s = t := fun z => e z.symm
      simp [e, e2]
theorem kv1_put (l : List Str) (s : Str) : putK (kv1 l) (Sum.inr s) (.int 1) = kv1 (ins l s) := by
  unfold putK ins
  rw [kv1_any]
  by_cases h : s ∈ l
  · rw [if_pos (decide_eq_true h), if_pos h]
    unfold kv1
    rw [List.map_map]
    apply List.map_congr_left
    intro t _
    by_cases e : t = s
    · simp [e]
    · simp [e]
  · rw [if_neg (by simp [h]), if_neg h]
    unfold kv1
    rw [List.map_append]
    rfl
theorem kv1_merge : ∀ (m l : List Str), mergeK (kv1 l) (kv1 m) = kv1 (m.foldl ins l)
  | [], _ => rfl
  | s :: m, l => by
    show mergeK (putK (kv1 l) (Sum.inr s) (.int 1)) (kv1 m) = _
    rw [kv1_put, kv1_merge m]
    rfl
theorem mem_ins {l : List Str} {s t : Str} : t ∈ ins l s ↔ t ∈ l ∨ t = s := by
  unfold ins
  by_cases h : s ∈ l
  · rw [if_pos h]
    exact ⟨.inl, fun z => z.elim id fun e => e ▸ h⟩
  · rw [if_neg h, List.mem_append, List.mem_singleton]
theorem nodup_ins {l : List Str} (h : l.Nodup) (s : Str) : (ins l s).Nodup := by
  unfold ins
  by_cases c : s ∈ l
  · rw [if_pos c]; exact h
  · rw [if_neg c, List.nodup_append]
    refine ⟨h, List.nodup_cons.mpr ⟨(fun z => nomatch z), List.nodup_nil⟩, fun y hy z hz => ?_⟩
    rw [List.mem_singleton.mp hz]
    rintro rfl
    exact c hy
theorem mem_inss {t : Str} : ∀ {m l : List Str}, t ∈ m.foldl ins l ↔ t ∈ l ∨ t ∈ m
  | [], l => by simp
  | s :: m, l => by
    rw [List.foldl_cons, mem_inss, mem_ins, List.mem_cons, or_assoc]
theorem nodup_inss : ∀ {m l : List Str}, l.Nodup → (m.foldl ins l).Nodup
  | [], _, h => h
  | s :: m, l, h => nodup_inss (m := m) (nodup_ins h s)
/-- the knots of a yard -/
def KnIn (cs : List Cab) (rs : List Car) (s : Str) : Prop := (∃ c ∈ cs, s = c.1 ∨ s = c.2.1) ∨ ∃ r ∈ rs, s = r.2.1
theorem knIn_feed {most : Int} {cs : List Cab} {rs : List Car} (h : YardF most cs rs) : ∃ ns : List Str, ns.length ≤ 8 ∧ (∀ x ∈ ns, Nm x) ∧ ∀ s, KnIn cs rs s → s ∈ feed :: ns := by
  obtain ⟨ns, nm, N1, N2, N3, N4, C, R⟩ := h.ex
  refine ⟨ns, N2, N1.nm, fun s hs => ?_⟩
  rcases hs with ⟨c, hc, e | e⟩ | ⟨r, hr, e⟩
  · rw [e]; exact (C.each c hc).2.1
  · rw [e]; exact List.mem_cons_of_mem _ (C.each c hc).2.2.1
  · rw [e]; exact (R.each r hr).1
/-- what the knots' list is: the ascending list without feed -/
def spKnots (K : PySem.W.Frag) : Sp := fun as H Q _ => ∃ (y : V) (cs : List Cab) (rs : List Car) (ns : List Str), as = [y] ∧ YardV K H y cs rs ∧ ns.length ≤ 20 ∧ (∀ s, KnIn cs rs s → s ∈ feed :: ns) ∧
  ∀ (p : Addr) (ks : List Str) (H' : Hp), ks.Nodup → (∀ s, s ∈ ks ↔ KnIn cs rs s ∧ s ≠ feed) → H' p = some (.lst (txs ks)) → H p = none → Same H H' → Q (.ref p) H'
section
variable {P : Program} {w : World} {K : PySem.W.Frag} {mg : Str → Option Value} {base : Heap}
end
end Y

namespace Y
open PySem PySem.Spec PyProof.Rows L2 Ns
open C8 (pss_cut)
open L2.DX (itemsO)
theorem perm_map {α β : Type} {f : α → β} {ys ws : List β} (h : ys.Perm ws) : ∀ {xs : List α}, ws = xs.map f → ∃ zs : List α, zs.Perm xs ∧ ys = zs.map f := by
  induction h with
  | nil =>
    intro xs e
    have : xs = [] := List.map_eq_nil_iff.mp e.symm
    exact ⟨[], by rw [this], rfl⟩
  | @cons x l1 l2 _ ih =>
    intro xs e
    cases xs with
    | nil => cases e
    | cons a xs =>
      injection e with e1 e2
      obtain ⟨zs, p, e3⟩ := ih e2
      exact ⟨a :: zs, p.cons a, by rw [e1, e3]; rfl⟩
  | swap x y l =>
    intro xs e
    match xs, e with
    | a :: b :: xs, e =>
      injection e with e1 e2
      injection e2 with e2 e3
      exact ⟨b :: a :: xs, List.Perm.swap a b xs, by rw [e1, e2, e3]; rfl⟩
  | trans _ _ ih1 ih2 =>
    intro xs e
    obtain ⟨zs, p, e2⟩ := ih2 e
    obtain ⟨us, p2, e3⟩ := ih1 e2
    exact ⟨us, p2.trans p, e3⟩
/-- a dict of numbers by texts -/
def kvI (l : List (Str × Int)) : List (Key × V) := l.map fun p => ((Sum.inr p.1 : Key), V.int p.2)
theorem kvI_get {l : List (Str × Int)} (n : (l.map (·.1)).Nodup) {x : Str} {v : Int} (h : (x, v) ∈ l) : valV (kvI l) (Sum.inr x) = some (.int v) := by
  induction l with
  | nil => cases h
  | cons f l ih =>
    rw [List.map_cons, List.nodup_cons] at n
    show valV (((Sum.inr f.1 : Key), V.int f.2) :: kvI l) (Sum.inr x) = _
    rcases List.mem_cons.mp h with e | e
    · rw [← e]
      exact valV_pos rfl
    · rw [valV_neg (fun z => n.1 ?_)]
      · exact ih n.2 e
      · injection z with z
        rw [z]
        exact List.mem_map.mpr ⟨(x, v), e, rfl⟩
theorem kvI_none {l : List (Str × Int)} {x : Str} (h : x ∉ l.map (·.1)) : valV (kvI l) (Sum.inr x) = none := by
  induction l with
  | nil => rfl
  | cons f l ih =>
    rw [List.map_cons, List.mem_cons, not_or] at h
    show valV (((Sum.inr f.1 : Key), V.int f.2) :: kvI l) (Sum.inr x) = none
    rw [valV_neg (fun z => h.1 ?_)]
    · exact ih h.2
    · injection z with z
      exact z.symm
theorem kvI_merge : ∀ (m l : List (Str × Int)), ((l ++ m).map (·.1)).Nodup → mergeK (kvI l) (kvI m) = kvI (l ++ m)
  | [], l, _ => by rw [List.append_nil]; rfl
  | p :: m, l, h => by
    have e : l ++ p :: m = (l ++ [p]) ++ m := by rw [List.append_assoc]; rfl
    have np : p.1 ∉ l.map (·.1) := fun z => by
      rw [List.map_append, List.nodup_append] at h
      exact h.2.2 _ z _ (List.mem_map.mpr ⟨p, List.mem_cons_self, rfl⟩) rfl
    show mergeK (putK (kvI l) (Sum.inr p.1) (.int p.2)) (kvI m) = _
    rw [putK_new _ (kvI_none np), e]
    have e2 : kvI l ++ [((Sum.inr p.1 : Key), V.int p.2)] = kvI (l ++ [p]) := by
      unfold kvI
      rw [List.map_append]
      rfl
    rw [e2]
    exact kvI_merge m (l ++ [p]) (by rw [← e]; exact h)
theorem kvI_made {l : List (Str × Int)} (h : (l.map (·.1)).Nodup) : mergeK [] (kvI l) = kvI l := kvI_merge l [] h
/-- the tuple of the cars' names -/
def spNamesOf (K : PySem.W.Frag) : Sp := fun as H Q _ => ∃ (y : V) (cs : List Cab) (rs : List Car), as = [y] ∧ YardV K H y cs rs ∧ rs.length ≤ 1000 ∧
  ∀ (p : Addr) (H' : Hp), H' p = some (.tup (txs (rs.map (·.1)))) → H p = none → Same H H' → Q (.ref p) H'
def spALot (K : PySem.W.Frag) : Sp := fun as H Q _ => ∃ (b a : Addr) (ts : List Str), as = [.ref b, .ref a] ∧ Bag H b ∧ SqL K (wo H b) a (txs ts) ∧ ts.length ≤ 60 ∧ ts.Nodup ∧
  ∀ (p : Addr) (ls : List Str) (H' : Hp), sortedS ls = true → ls.Nodup → (∀ x ∈ ls, x ∈ ts) → H' p = some (.tup (txs ls)) → H p = none → p ≠ b → Bag H' b → Sb b H H' → Q (.ref p) H'
def spTurned : Sp := fun as H Q _ => ∃ (b a : Addr) (l : List (Str × Int)), as = [.ref b, .ref a] ∧ Bag H b ∧ H a = some (.dK (kvI l)) ∧ (l.map (·.1)).Nodup ∧ l.length ≤ 1000 ∧
  ∀ (p : Addr) (l' : List (Str × Int)) (H' : Hp), l'.Perm l → H' p = some (.dK (kvI l')) → H p = none → p ≠ b → Bag H' b → Sb b H H' → Q (.ref p) H'
section
variable {P : Program} {w : World} {K : PySem.W.Frag} {mg : Str → Option Value} {base : Heap}
end
end Y

namespace Y
open PySem PySem.Spec PyProof.Rows L2 Ns
open C8 (pss_cut)
def nd (r : Car) : Str × Int := (r.1, r.2.2.2)
def spCarOf (K : PySem.W.Frag) : Sp := fun as H Q _ => ∃ (y : V) (x : Str) (cs : List Cab) (rs : List Car), as = [y, .str x] ∧ YardV K H y cs rs ∧ (∀ v c, rs.find? (fun r => decide (r.1 = x)) = some c → CarV K H v c → Q v H) ∧ (rs.find? (fun r => decide (r.1 = x)) = none → Q .non H)
def spCapOf (K : PySem.W.Frag) : Sp := fun as H Q _ => ∃ (y : V) (s e : Str) (cs : List Cab) (rs : List Car), as = [y, .str s, .str e] ∧ YardV K H y cs rs ∧ (∀ c, cs.find? (fun c => decide (ckey c = (s, e))) = some c → Q (.int c.2.2) H) ∧ (cs.find? (fun c => decide (ckey c = (s, e))) = none → Q .non H)
def spNeedsOf (K : PySem.W.Frag) : Sp := fun as H Q _ => ∃ (y : V) (cs : List Cab) (rs : List Car), as = [y] ∧ YardV K H y cs rs ∧ (rs.map (·.1)).Nodup ∧ rs.length ≤ 1000 ∧ ∀ (p : Addr) (H' : Hp), H' p = some (.dK (kvI (rs.map nd))) → H p = none → Same H H' → Q (.ref p) H'
def spNeedOf (K : PySem.W.Frag) : Sp := fun as H Q _ => ∃ (y : V) (l : Addr) (ls : List Str) (cs : List Cab) (rs : List Car), as = [y, .ref l] ∧ YardV K H y cs rs ∧ SqT K H l (txs ls) ∧ rs.length ≤ 1000 ∧ ∀ H', Same H H' → Q (.int ((rs.filter fun r => decide (r.1 ∈ ls)).map (·.2.2.2)).sum) H'
def spSumOf : Sp := fun as H Q _ => ∃ (a : Addr) (l : List (Str × Int)), as = [.ref a] ∧ H a = some (.dK (kvI l)) ∧ ∀ H', Same H H' → Q (.int (l.map (·.2)).sum) H'
theorem find_take {α : Type} {p : α → Bool} {l : List α} {i : Nat} {c : α} (hc : l[i]? = some c) (hp : p c = true) (hn : ∀ r ∈ l.take i, p r = false) : l.find? p = some c := by
  induction l generalizing i with
  | nil => cases hc
  | cons a l ih =>
    cases i with
    | zero =>
      cases hc
      exact List.find?_cons_of_pos hp
    | succ i =>
      have ha := hn a (by rw [List.take_succ_cons]; exact List.mem_cons_self)
      rw [List.find?_cons_of_neg (by rw [ha]; exact Bool.false_ne_true)]
      exact ih hc fun r hr => hn r (by rw [List.take_succ_cons]; exact List.mem_cons_of_mem _ hr)
theorem not_yet {α : Type} {p : α → Bool} {l : List α} {i : Nat} {c : α} (hc : l[i]? = some c) (hp : p c = false) (hn : ∀ r ∈ l.take i, p r = false) : ∀ r ∈ l.take (i + 1), p r = false := fun r hr => by
  rw [List.take_succ, hc] at hr
  rcases List.mem_append.mp hr with z | z
  · exact hn r z
  · rw [List.mem_singleton.mp z]; exact hp
section
variable {P : Program} {w : World} {K : PySem.W.Frag} {mg : Str → Option Value} {base : Heap}
end
end Y

namespace Y
open PySem PySem.Spec PyProof.Rows L2 Ns
open C8 (pss_cut)
section
variable {P : Program} {w : World} {K : PySem.W.Frag} {mg : Str → Option Value} {base : Heap}
end
end Y

/-! NsZ: set(xs) of texts, and sorted of it. -/
namespace Ns
open PySem PySem.Spec PyProof.Rows L2
open PySem.Froz (SD sObj tailTx addTx TxOk)
/-- the set at a holds the texts l, once each, and can be walked -/
def SetX (P : Program) (w : World) (h : Heap) (a : Addr) (l : List Str) : Prop :=
  ∃ D : SD, h.get? a = some (sObj "set" D) ∧ TxOk P w D l ∧ l.Nodup ∧ Ris D.2.2.place.toList ∧ (w.params.followText "set-order" = true ∨ D.2.2.led = true)
theorem ris_tail {ep : Nat} {es : Array (Int × Value)} {t : SetTable} {b : Bool} (r : Ris t.place.toList) : Ris (tailTx ep es t b).2.2.place.toList ∧ (tailTx ep es t b).2.2.led = t.led := by
  unfold tailTx
  split
  · exact ⟨relayAll_ris _ _ _, relayAll_led _ _ _⟩
  · exact ⟨r, rfl⟩
theorem ris_add {h : Int} {v : Value} {D : SD} (r : Ris D.2.2.place.toList) : Ris (addTx h v D).2.2.place.toList ∧ (addTx h v D).2.2.led = D.2.2.led := by
  have r1 := layNew_ris D.2.2 D.1 h v r
  have l1 := layNew_led D.2.2 D.1 h v
  unfold addTx
  split
  · obtain ⟨g1, g2⟩ := ris_tail (ep := D.2.1) (es := (layNew D.2.2 D.1 h v).1) (t := { (layNew D.2.2 D.1 h v).2.1 with plain := false }) (b := (layNew D.2.2 D.1 h v).2.2.1) r1
    exact ⟨g1, g2.trans l1⟩
  · obtain ⟨g1, g2⟩ := ris_tail (ep := D.2.1) (es := (layNew D.2.2 D.1 h v).1) (t := (layNew D.2.2 D.1 h v).2.1) (b := (layNew D.2.2 D.1 h v).2.2.1) r1
    exact ⟨g1, g2.trans l1⟩
section
variable {P : Program} {w : World} {A : Around} {E : Value → Shared → Prop} {s : Shared}
theorem SetX.keep {h h' : Heap} {a : Addr} {l : List Str} (X : SetX P w h a l) (k : ∀ o, h.get? a = some o → h'.get? a = some o) : SetX P w h' a l := by
  obtain ⟨D, hD, r⟩ := X
  exact ⟨D, k _ hD, r⟩
/-- a text that is there: nothing changes -/
theorem add_there {a : Addr} {l : List Str} {k : Str} {u : Tok} {D : SD} {Q : Bool → Shared → Prop} (ho : s.heap.get? a = some (sObj "set" D)) (F : TxOk P w D l) (hk : k ∈ l) (hb : l.length < scanBound) (q : Q false s) :
    wpAny (model P w) A (setAddHashed a (.str k u) (hashStr w k)) Q E s := by
  have isk : (strKind P w).is k (.str k u) = true := PySem.Froz.is_str k u
  have small : D.1.size < scanBound := by rw [F.sz]; exact hb
  obtain ⟨j, hj⟩ : ∃ j, List.findIdx? (fun e => (strKind P w).is k e.2) D.1.toList = some j := by
    cases e : List.findIdx? (fun e => (strKind P w).is k e.2) D.1.toList with
    | some j => exact ⟨j, rfl⟩
    | none =>
      obtain ⟨x, hx, hy⟩ := (F.mem k).mp hk
      have := List.findIdx?_eq_none_iff.mp e x hx
      rw [hy] at this
      cases this
  unfold setAddHashed setAddHashedIn
  refine wpAny_holding (wpAny_bind (wpAny_setState_of ho rfl F.fit ?_))
  dsimp only
  rw [byScan_of (knd := strKind P w) rfl small F.el]
  simp only [↓reduceIte]
  unfold setAddByScan
  refine wpAny_bind (wpAny_bind (wpAny_rule (wpAny_bind (wpAny_setScan_of (knd := strKind P w) (k := k) isk ho rfl F.fit F.el ?_))))
  rw [hj]
  exact wpAny_pure (wpAny_pure q)
/-- one more text -/
theorem setX_add {a : Addr} {l : List Str} {k : Str} {u : Tok} {Q : Bool → Shared → Prop} (X : SetX P w s.heap a l) (hb : l.length + 1 < scanBound)
    (q : ∀ (b : Bool) (h' : Heap) (l' : List Str), SetX P w h' a l' → (∀ m, m ∈ l' ↔ m ∈ l ∨ m = k) → l'.length ≤ l.length + 1 → (∀ c o, c ≠ a → s.heap.get? c = some o → h'.get? c = some o) → Q b { s with heap := h' }) :
    wpAny (model P w) A (setAddHashed a (.str k u) (hashStr w k)) Q E s := by
  obtain ⟨D, hD, F, n, r, led⟩ := id X
  by_cases hk : k ∈ l
  · exact add_there hD F hk (by omega) (q false s.heap l X (fun m => ⟨.inl, fun z => z.elim id fun e => e ▸ hk⟩) (Nat.le_succ _) fun c o _ e => e)
  · refine PySem.Froz.add_x hD F hk hb (q true _ (k :: l) ⟨_, PySem.Froz.get_upd _ hD rfl, PySem.Froz.add_ok u F, List.nodup_cons.mpr ⟨hk, n⟩, (ris_add r).1, led.imp id fun z => (ris_add r).2.trans z⟩ (fun m => ?_) (Nat.le_refl _) fun c o nc e => ?_)
    · rw [List.mem_cons]
      exact Or.comm
    · exact (Heap.get?_update_other _ _ (Ne.symm nc)).trans e
/-- a row of texts goes into the set -/
theorem set_fill {I L S : Addr} {xs : List Str} {items : Array Value} (hh : A.in1.handled = none) (hL : L ≠ I) (hS : S ≠ I) (hSL : S ≠ L) (rel : Vals (xs.map V.str) items.toList) (room : items.size + 1 < scanBound) {R : Result → Shared → Prop} :
    ∀ (k i : Nat) (s : Shared) (l : List Str), items.size - i = k → i ≤ items.size → s.heap.IsListIter I L i → s.heap.IsList L items → SetX P w s.heap S l → l.length ≤ i → (∀ m, m ∈ l ↔ m ∈ xs.take i) →
      (∀ s' l', (∀ c o, c ≠ S → c ≠ I → s.heap.get? c = some o → s'.heap.get? c = some o) → s'.gens = s.gens → s'.drawn = s.drawn → s'.os = s.os → SetX P w s'.heap S l' → (∀ m, m ∈ l' ↔ m ∈ xs) → R (.ok (.ret .none)) s') →
      codeAny (model P w) A (.builtin "set.update.loop" ⟨[.ref S, .ref I], []⟩) R s := by
  have W := Walks.list (prog := P) (w := w) (A := A.in1) hh I L hL items
  have lx : xs.length = items.size := by
    have := rel.length
    rw [List.length_map, Array.length_toList] at this
    exact this
  intro k
  induction k with
  | zero =>
    intro i s l hk hi i1 i2 X hl hm q
    have e : i = items.size := by omega
    rw [e] at hm i1
    refine codeAny_builtin F.entry_set_update_loop ?_
    rw [Around.under_plainId F.plain_set_update_loop _]
    refine wpAny_bind (W.done s _ _ ⟨i1, i2⟩ fun h' tk kp => ?_)
    rw [← lx, List.take_length] at hm
    exact wpAny_pure (q _ l (fun c o _ n2 e => kp c o (by rw [List.mem_singleton]; exact n2) e) rfl rfl rfl (X.keep fun o => kp S o (by rw [List.mem_singleton]; exact hS)) hm)
  | succ k ih =>
    intro i s l hk hi i1 i2 X hl hm q
    have lt : i < items.size := by omega
    refine codeAny_builtin F.entry_set_update_loop ?_
    rw [Around.under_plainId F.plain_set_update_loop _]
    refine wpAny_bind (W.item i s _ _ lt ⟨i1, i2⟩ fun v h' tk hv st kp => ?_)
    obtain ⟨x, hx, rx⟩ : ∃ x, xs[i]? = some x ∧ RelV (.str x) v := by
      have hx : xs[i]? = some xs[i] := List.getElem?_eq_getElem (by omega)
      obtain ⟨u, hu, ru⟩ := rel.get (i := i) (x := .str xs[i]) (by rw [List.getElem?_map, hx]; rfl)
      rw [Array.getElem?_toList] at hu
      rw [hv] at hu
      cases hu
      exact ⟨_, hx, ru⟩
    obtain ⟨t, rfl⟩ := rx
    refine wpAny_bind (wpAny_holding ?_)
    unfold setAdd
    refine wpAny_holding (wpAny_bind ((strKind P w).pyHash (PySem.Froz.is_str x t) ?_))
    have X1 : SetX P w h' S l := X.keep fun o => kp S o (by rw [List.mem_singleton]; exact hS)
    refine setX_add X1 (by omega) fun b h2 l2 X2 m2 n2 k2 => ?_
    have i3 : h2.IsListIter I L (i + 1) := st.1.at fun o e => k2 I o (Ne.symm hS) e
    have i4 : h2.IsList L items := st.2.at fun o e => k2 L o (Ne.symm hSL) e
    refine wpAny_pure ⟨plainId_quiet F.plain_set_update_loop _, ih (i + 1) _ l2 (by omega) lt i3 i4 X2 (by omega) (fun m => ?_) fun s' l' k3 g1 g2 g3 X3 m3 => ?_⟩
    · rw [m2, hm, List.take_succ, hx, List.mem_append]
      simp
    · exact q s' l' (fun c o c1 c2 e => k3 c o c1 c2 (k2 c o c1 (kp c o (by rw [List.mem_singleton]; exact c2) e))) g1 g2 g3 X3 m3
end
end Ns

/-! NsZ2: the calls set(xs), sorted(set). -/
namespace Ns
open PySem PySem.Spec PyProof.Rows L2
open PySem.Froz (SD sObj TxOk)
/-- a set as it is made -/
abbrev set0 (w : World) : Obj := { cls := .type "set", dict := none, data := .set #[] 0 (.fresh 0 0 (!w.params.followText "set-order")) }
theorem setX_new {P : Program} {w : World} {h : Heap} {a : Addr} (e : h.get? a = some (set0 w)) : SetX P w h a [] := by
  refine ⟨(#[], 0, .fresh 0 0 (!w.params.followText "set-order")), e, PySem.Froz.TxOk.nil (by rfl), List.nodup_nil, List.Pairwise.nil, ?_⟩
  show _ ∨ (!w.params.followText "set-order") = true
  cases w.params.followText "set-order" <;> simp
section
variable {P : Program} {w : World} {A : Around} {E : Value → Shared → Prop} {s : Shared}
set_option maxHeartbeats 3200000 in
theorem set_of {l : Addr} {items : Array Value} {xs : List Str} {Q : Value → Shared → Prop} (hh : A.handled = none) (hl : s.heap.IsList l items) (rel : Vals (xs.map V.str) items.toList) (room : items.size + 1 < scanBound)
    (q : ∀ (h' : Heap) (tk : Nat) (ls : List Str), (∀ c o, s.heap.get? c = some o → h'.get? c = some o) → SetX P w h' s.heap.objs.size ls → (∀ m, m ∈ ls ↔ m ∈ xs) → Q (.ref s.heap.objs.size) { s with heap := h', toks := tk }) :
    wpAny (model P w) A (call (.type "set") [.ref l]) Q E s := by
  obtain ⟨c, tl, hmro⟩ := F.called_set.mro
  have f1 := F.called_set.made
  have f2 := F.called_set.sub
  have f3 := F.called_set.notType
  have f4 := F.called_set.canCreate
  have f5 := F.typeCall_set_1 (.ref l)
  refine wpAny_call (codeAny_of_tree ?_)
  show wpAny _ _ (callAny (.type "set") _) _ _ _
  refine wpAny_pure ⟨Code.quiet_builtin _ (by decide +kernel), codeAny_builtin F.entry_type_call ?_⟩
  rw [Around.under_plain (weight_type_call_type "set" [.ref l] []) rfl]
  repeat (any_goals (first | assumption | wp_step))
  refine codeAny_mono (code_set_led1 (.ref l) (E := E) (Q₁ := fun obj s₁ => obj = .ref s.heap.objs.size ∧ s₁ = { s with heap := s.heap.push (set0 w) }) ⟨rfl, rfl⟩) fun r s₁ hr => ?_
  rcases r with e | fl
  · exact hr
  cases fl with
  | ret obj =>
    obtain ⟨rfl, rfl⟩ := hr
    have at0 : (s.heap.push (set0 w)).get? s.heap.objs.size = some (set0 w) := Heap.get?_push_size _ rfl
    have ty0 : Shared.TypeIs { s with heap := s.heap.push (set0 w) } (.ref s.heap.objs.size) "set" := ⟨_, at0, rfl⟩
    have f6 := F.called_set.init.lookup
    have f7 := F.called_set.init.bind (.ref s.heap.objs.size)
    repeat (any_goals (first | assumption | wp_step))
    refine codeAny_mono (codeAny_call_builtin (R := wants (fun r s₂ => r = .none ∧ ∃ h' tk ls, s₂ = { s with heap := h', toks := tk } ∧ (∀ c o, s.heap.get? c = some o → h'.get? c = some o) ∧ SetX P w h' s.heap.objs.size ls ∧ ∀ m, m ∈ ls ↔ m ∈ xs) E)
      F.called_set.init.plain F.entry_set_init (check_set_init_1 ty0 ?_)) fun r₂ s₂ hr₂ => ?_
    · obtain ⟨⟨ocls, odict, odata, oslots⟩, hol, hcl, nl, hdl⟩ := hl
      simp only at hcl hdl
      subst hcl; subst hdl
      have lS : l < s.heap.objs.size := Heap.lt_size hol
      have hol' : (s.heap.push (set0 w)).get? l = some { cls := .type "list", dict := odict, data := .seq items nl, slots := oslots } := Heap.get?_push_of_some _ hol
      have g1 := F.sub_list_set
      have g2 := F.sub_list_frozenset
      have g3 : (Value.type "list" == Value.type "dict") = false := by decide
      have isl : (s.heap.push (set0 w)).IsList l items := ⟨_, hol', rfl, nl, rfl⟩
      unfold Builtin.«set.__init__» noKeywords Builtin.Frozenset.updateFrom
      generalize keep : pyIter = PI
      wp_walk
      subst keep
      refine wpAny_pyIter_list isl (wpAny_bind (wpAny_runValue ?_))
      have up : (s.heap.push (set0 w)).objs.size = s.heap.objs.size + 1 := size_push' _ _
      refine set_fill (xs := xs) (by simp [hh]) (by rw [up]; exact Nat.ne_of_lt (Nat.lt_succ_of_lt lS)) (by rw [up]; exact Nat.ne_of_lt (Nat.lt_succ_self _)) (Nat.ne_of_gt lS) rel room items.size 0 _ [] (Nat.sub_zero _) (Nat.zero_le _) ⟨_, Heap.get?_push_size _ rfl, rfl, rfl⟩ (isl.push _)
        (setX_new (Heap.get?_push_of_some _ at0)) (Nat.le_refl _) (fun m => by rw [List.take_zero]) fun s' ls kp e1 e2 e3 X m => ?_
      obtain ⟨h', g', d', tk', os'⟩ := s'
      cases e1
      cases e2
      cases e3
      refine wpAny_pure (wpAny_pure ⟨rfl, h', tk', ls, rfl, fun c o e => ?_, X, m⟩)
      have cl : c < s.heap.objs.size := Heap.lt_size e
      exact kp c o (Nat.ne_of_lt cl) (by rw [up]; exact Nat.ne_of_lt (Nat.lt_succ_of_lt cl)) (Heap.get?_push_of_some _ (Heap.get?_push_of_some _ e))
    · rcases r₂ with e | fl₂
      · exact hr₂
      cases fl₂ with
      | ret r =>
        obtain ⟨rfl, h', tk, ls, rfl, kp, X, m⟩ := hr₂
        repeat (any_goals (first | assumption | wp_step))
        exact q h' tk ls kp X m
      | _ => exact hr₂.elim
  | _ => exact hr.elim
end
end Ns

/-! NsZ3: sorted of a set of texts. -/
namespace Ns
open PySem PySem.Spec PyProof.Rows L2
open PySem.Froz (SD sObj TxOk)
section
variable {P : Program} {w : World} {A : Around} {E : Value → Shared → Prop} {s : Shared}
theorem texts_of {l : List Value} (h : ∀ v ∈ l, ∃ x t, v = Value.str x t) : ∃ xs, StrsAre l xs := by
  induction l with
  | nil => exact ⟨[], .nil⟩
  | cons v l ih =>
    obtain ⟨x, t, rfl⟩ := h v List.mem_cons_self
    obtain ⟨xs, r⟩ := ih fun u hu => h u (List.mem_cons_of_mem _ hu)
    exact ⟨x :: xs, .cons x t r⟩
theorem strs_mem {vs : List Value} {xs : List Str} (r : StrsAre vs xs) : ∀ m, m ∈ xs ↔ ∃ t, Value.str m t ∈ vs := by
  induction r with
  | nil => simp
  | cons y t _ ih =>
    intro m
    rw [List.mem_cons, ih]
    constructor
    · rintro (rfl | ⟨u, hu⟩)
      · exact ⟨t, List.mem_cons_self⟩
      · exact ⟨u, List.mem_cons_of_mem _ hu⟩
    · rintro ⟨u, hu⟩
      rcases List.mem_cons.mp hu with e | e
      · injection e with e1 _
        exact .inl e1
      · exact .inr ⟨u, e⟩
theorem sorted_setX {a : Addr} {ls : List Str} {Q : Value → Shared → Prop} (X : SetX P w s.heap a ls) (hh : A.handled = none) (few : ls.length < 64)
    (q : ∀ s' p (out : Array Value) (c : Nat) (ys : List Str), (∀ b o, s.heap.get? b = some o → s'.heap.get? b = some o) → s'.gens = s.gens → s'.os = s.os → s.heap.objs.size ≤ p → s'.heap.get? p = some (seqObj "list" out c) →
      StrsAre out.toList ys → sortedS ys = true → ys.length = ls.length → (∀ m, m ∈ ys ↔ m ∈ ls) → Q (.ref p) s') :
    wpAny (model P w) A (call (.builtin "sorted") [.ref a]) Q E s := by
  obtain ⟨D, hD, F, n, r, led⟩ := X
  have sz := F.sz
  refine Calls.call_function_entry kind_sorted plain_sorted entry_sorted (args_sorted1 _) ?_
  unfold Builtin.«sorted»
  refine wpAny_bind (m := checkCount "sorted" 1 1 _) (wpAny_pure ?_)
  refine wpAny_bind (collect_set (A := A.in1) hh ⟨_, hD, rfl, rfl⟩ F.fit (by rw [sz]; exact Nat.lt_trans few (by decide)) r led fun s1 vs k1 z1 g1 o1 pm => ?_)
  have vl : vs.length = ls.length := by rw [pm.length_eq, List.length_map, Array.length_toList]; exact sz
  have isS : ∀ v ∈ vs, ∃ x t, v = Value.str x t := fun v hv => by
    obtain ⟨e, he, rfl⟩ := List.mem_map.mp (pm.mem_iff.mp hv)
    obtain ⟨⟨k, hk, _⟩, _⟩ := F.el e he
    obtain ⟨t, ht⟩ := Value.isStrOf_shape (x := k) (v := e.2) hk
    exact ⟨k, t, ht⟩
  obtain ⟨us, hS⟩ := texts_of isS
  have um : ∀ m, m ∈ us ↔ m ∈ ls := fun m => by
    rw [strs_mem hS, F.mem m]
    constructor
    · rintro ⟨t, ht⟩
      obtain ⟨e, he, ee⟩ := List.mem_map.mp (pm.mem_iff.mp ht)
      exact ⟨e, he, by rw [show e.2 = Value.str m t from ee]; exact PySem.Froz.is_str m t⟩
    · rintro ⟨e, he, ee⟩
      obtain ⟨t, ht⟩ := Value.isStrOf_shape (x := m) (v := e.2) ee
      exact ⟨t, by rw [← ht]; exact pm.mem_iff.mpr (List.mem_map.mpr ⟨e, he, rfl⟩)⟩
  refine wpAny_bind (wpAny_newList ?_ (by rw [vl, sizeLine_eq]; omega))
  have hoL : (s1.heap.push (seqObj "list" vs.toArray 0)).get? s1.heap.objs.size = some (seqObj "list" vs.toArray 0) := Heap.get?_push_size _ rfl
  refine wpAny_bind (wpAny_holding (wpAny_call_entry slot_list_sort ⟨_, hoL, rfl⟩ entry_list_sort
    (list_sort_treeK strKind_oneLt (s := { s1 with heap := s1.heap.push (seqObj "list" vs.toArray 0) }) hoL hS.keysOf (fun v₁ v₂ rest e => keyKind_strs (by rw [← e]; exact hS)) (by rw [vl]; exact few) fun st' hp hs => ⟨_, rfl, ?_⟩) (args_list_sort _)))
  obtain ⟨ys, y1, y2, y3⟩ := sorted_out_str hS hp hs
  obtain ⟨c, hc⟩ := sortedHeap_at (vs := vs) (out := (arrOf st').map (·.2)) hoL
  refine wpAny_pure ⟨_, rfl, q _ s1.heap.objs.size _ c ys (fun b u e => ?_) g1 o1 z1 hc y1 y3 ?_ fun m => (y2.mem_iff).trans (um m)⟩
  · have k := k1 b u e
    have lt := Heap.lt_size k
    have top : b < (s1.heap.push (seqObj "list" vs.toArray 0)).objs.size := by rw [size_push']; exact Nat.lt_succ_of_lt lt
    have k2 : (s1.heap.push (seqObj "list" vs.toArray 0)).get? b = some u := Heap.get?_push_of_some _ k
    have same := sortedHeap_old (h := s1.heap.push (seqObj "list" vs.toArray 0)) (vs := vs) (out := (arrOf st').map (·.2)) (Nat.ne_of_lt lt) top
    rw [k2] at same
    exact same
  · rw [y2.length_eq, ← vl]
    exact hS.len_eq.symm
end
/-- a set of texts -/
def SetS (P : Program) (w : World) (a : Addr) (ls : List Str) : HO := .ext fun h => SetX P w h a ls
theorem setS_ok {P : Program} {w : World} {H : Hp} {h : Heap} {a : Addr} {ls : List Str} (X : SetX P w h a ls) : ObjOk P w H h a (SetS P w a ls) :=
  ⟨X, (by obtain ⟨D, hD, _⟩ := X; exact ⟨_, hD⟩), fun h1 h2 x k => x.keep k⟩
section
variable {X : Cx}
def rSetTx (K : PySem.W.Frag) (P : Program) (w : World) : List V → Hp → VK → Prop := fun xs H Q => ∃ (a : Addr) (ts : List Str), xs = [.ref a] ∧ SqL K H a (ts.map V.str) ∧ ts.length ≤ 1000 ∧ ∀ (p : Addr) (ls : List Str), H p = none → (∀ m, m ∈ ls ↔ m ∈ ts) → Q (.ref p) (upd H p (SetS P w p ls))
theorem call_setTx (hc : X.calm = true) : CallR X (.type "set") (rSetTx X.K X.prog X.w) := by
  intro pins s σ H xs us Q I r h
  obtain ⟨a, ts, rfl, hs, hz, q⟩ := h
  obtain ⟨its, rv, hl, _⟩ := I.list hs
  rw [Vals.ref1 r]
  have il : its.length = ts.length := by rw [← rv.length, List.length_map]
  refine set_of (xs := ts) (I.ok.hd hc) hl.isList (by simpa using rv) (by rw [List.size_toArray, il]; exact Nat.lt_of_le_of_lt (show ts.length + 1 ≤ 1001 by omega) (by decide)) fun h' tk ls kp XX m => ?_
  exact ⟨.ref s.heap.objs.size, upd H s.heap.objs.size (SetS X.prog X.w s.heap.objs.size ls), I.laid (t' := tk) kp (Nat.le_refl _) (setS_ok XX), rfl, q _ ls (I.hok.fresh (Nat.le_refl _)) m⟩
def rSortSet (P : Program) (w : World) : List V → Hp → VK → Prop := fun xs H Q => ∃ (a : Addr) (ls : List Str), xs = [.ref a] ∧ H a = some (SetS P w a ls) ∧ (∀ l : List Str, l.Nodup → (∀ m, m ∈ l ↔ m ∈ ls) → l.length < 64) ∧
  ∀ (p : Addr) (ys : List Str), H p = none → sortedS ys = true → ys.Nodup → (∀ m, m ∈ ys ↔ m ∈ ls) → Q (.ref p) (upd H p (.lst (ys.map V.str)))
theorem perm_of {α : Type} [DecidableEq α] : ∀ {l ys : List α}, l.Nodup → (∀ m ∈ l, m ∈ ys) → ys.length = l.length → ys.Perm l
  | [], ys, _, _, e => by rw [List.length_eq_zero_iff.mp e]
  | x :: l, ys, n, h, e => by
    obtain ⟨n1, n2⟩ := List.nodup_cons.mp n
    have hx : x ∈ ys := h x List.mem_cons_self
    have le : (ys.erase x).length = l.length := by
      rw [List.length_erase_of_mem hx, e, List.length_cons, Nat.add_sub_cancel]
    exact (List.perm_cons_erase hx).trans ((perm_of n2 (fun m hm => (List.mem_erase_of_ne (fun z : m = x => n1 (by rw [← z]; exact hm))).mpr (h m (List.mem_cons_of_mem _ hm))) le).cons x)
theorem cr_sortSet (hc : X.calm = true) : CallR X (.builtin "sorted") (rSortSet X.prog X.w) := by
  intro pins s σ H xs us Q I r h
  obtain ⟨a, ls, rfl, ha, few, q⟩ := h
  obtain rfl := Vals.ref1 r
  have XX : SetX X.prog X.w s.heap a ls := (show ObjOk X.prog X.w H s.heap a (SetS X.prog X.w a ls) from I.hok a _ ha).1
  have nls : ls.Nodup := by
    obtain ⟨_, _, _, n, _⟩ := XX
    exact n
  refine sorted_setX XX (I.ok.hd hc) (few ls nls fun _ => Iff.rfl) fun s' p out c ys kp eg eo hp hat r1 r2 r3 r4 => ?_
  have yl : (ys.map V.str).length ≤ sizeLine := by
    rw [List.length_map, r3, sizeLine_eq]
    have := few ls nls fun _ => Iff.rfl
    omega
  have fr : H p = none := I.hok.fresh hp
  have nys : ys.Nodup := (perm_of nls (fun m hm => (r4 m).mpr hm) r3).nodup_iff.mpr nls
  obtain ⟨h', g', d', tk', os'⟩ := s'
  cases eo
  have J : Inv X pins σ (upd H p (.lst (ys.map V.str))) { s with heap := h', gens := g', drawn := d', toks := tk' } :=
    I.call (ch := []) (Un.laid kp hp fr) (I.hok.laid kp hp ⟨yl, out.toList, c, vals_of_strs r1, hat⟩) (by rw [show g' = s.gens from eg]; exact I.bare) fun _ z => nomatch z
  exact ⟨.ref p, _, J, rfl, q p ys fr r2 nys r4⟩
end
end Ns

namespace Y
open PySem PySem.Spec PyProof.Rows L2 Ns
open C8 (pss_cut)
def spKin (K : PySem.W.Frag) : Sp := fun as H Q _ => ∃ (y : V) (cs : List Cab) (rs : List Car) (most : Int), as = [y] ∧ YardV K H y cs rs ∧ YardF most cs rs ∧
  ∀ (p : Addr) (ws : List Str) (H' : Hp), sortedS ws = true → ws.Nodup → (∀ s, s ∈ ws ↔ s = feed ∨ KnIn cs rs s) → H' p = some (.tup (txs ws)) → H p = none → Same H H' → Q (.ref p) H'
section
variable {P : Program} {w : World} {K : PySem.W.Frag} {mg : Str → Option Value} {base : Heap}
theorem fr_same {H H' : Hp} {p : Addr} (m : Same H H') (h : H' p = none) : H p = none := by
  cases e : H p with
  | none => rfl
  | some o => rw [m _ _ e] at h; cases h
end
end Y

/-! sizes of yards' texts; equal data; ascending texts are one -/
namespace Y
open PySem PySem.Spec PyProof.Rows L2 Ns
theorem not_lt_trans {a b c : List Nat} (h1 : ¬ b < a) (h2 : ¬ c < b) : ¬ c < a := by
  rw [List.not_lt] at h1 h2 ⊢
  exact List.le_trans h1 h2
theorem rising_all : ∀ {r : List Str} {p : Str}, risingS p r = true → ∀ y ∈ r, ¬ y.cps.toList < p.cps.toList
  | [], _, _, y, hy => nomatch hy
  | x :: r, p, h, y, hy => by
    unfold risingS at h
    rw [Bool.and_eq_true, ltCps_eq] at h
    have h1 : ¬ x.cps.toList < p.cps.toList := by simpa using h.1
    rcases List.mem_cons.mp hy with e | e
    · rw [e]; exact h1
    · exact not_lt_trans h1 (rising_all h.2 y e)
theorem rising_tail {x : Str} {r : List Str} (h : sortedS (x :: r) = true) : sortedS r = true := by
  cases r with
  | nil => rfl
  | cons y r =>
    have h' : risingS x (y :: r) = true := h
    unfold risingS at h'
    exact (Bool.and_eq_true_iff.mp h').2
theorem sorted_one : ∀ {xs ys : List Str}, sortedS xs = true → sortedS ys = true → xs.Perm ys → xs = ys
  | [], ys, _, _, p => (List.nil_perm.mp p).symm
  | x :: xs, [], _, _, p => by cases List.perm_nil.mp p
  | x :: xs, y :: ys, h1, h2, p => by
    have e : x = y := by
      have mx := p.mem_iff.mp (List.mem_cons_self (a := x) (l := xs))
      have my := p.mem_iff.mpr (List.mem_cons_self (a := y) (l := ys))
      rcases List.mem_cons.mp mx with e | hx
      · exact e
      · rcases List.mem_cons.mp my with e | hy
        · exact e.symm
        · have a1 := rising_all h2 x hx
          have a2 := rising_all h1 y hy
          rw [List.not_lt] at a1 a2
          exact str_ext (List.le_antisymm a2 a1)
    subst e
    rw [sorted_one (rising_tail h1) (rising_tail h2) (List.perm_cons x |>.mp p)]
theorem perm_of_mem {xs ys : List Str} (n1 : xs.Nodup) (n2 : ys.Nodup) (h : ∀ s, s ∈ xs ↔ s ∈ ys) : xs.Perm ys := by
  have l1 := sub_len n1 (m := ys) fun s hs => (h s).mp hs
  have l2 := sub_len n2 (m := xs) fun s hs => (h s).mpr hs
  exact perm_of n2 (fun m hm => (h m).mpr hm) (by omega)
/-- a name, or feed -/
def Nf (x : Str) : Prop := Nm x ∨ x = feed
theorem nm_codes {x : Str} (h : Nf x) : (∀ c ∈ x.cps.toList, c < 200) ∧ x.length ≤ 20 := by
  rcases h with h | rfl
  · obtain ⟨c, r, e, h1, h2, h3⟩ := id h
    refine ⟨fun d hd => ?_, h.len.2⟩
    rw [e] at hd
    rcases List.mem_cons.mp hd with z | z
    · rw [z]; unfold isL at h1; omega
    · rcases h2 d z with y | y
      · unfold isL at y; omega
      · unfold isD at y; omega
  · exact ⟨by decide +kernel, by decide +kernel⟩
theorem fit_name {x : Str} (h : Nf x) : Fit 300 0 (.str x) := by
  obtain ⟨h1, h2⟩ := nm_codes h
  refine ⟨by simp [PyData.showable], ?_, by simp [PyData.depth]⟩
  rw [PyData.shown_str]
  have := PySem.StrLaws.reprText_len x fun c hc => Nat.lt_trans (h1 c hc) (by decide)
  omega
theorem fit_num {i : Int} (h0 : 0 ≤ i) (h : i ≤ 10 ^ 12) : Fit 300 0 (.int i) :=
  (fit_int (n := 13) (by decide) (by omega) (by decide)).mono (by decide) (Nat.le_refl _)
def cabD (c : Cab) : PyData := .tuple [.str c.1, .str c.2.1, .int c.2.2]
def carD (c : Car) : PyData := .tuple [.str c.1, .str c.2.1, .int c.2.2.1, .int c.2.2.2]
theorem fit_cab {c : Cab} (h1 : Nf c.1) (h2 : Nf c.2.1) (h3 : 0 ≤ c.2.2) (h4 : c.2.2 ≤ 10 ^ 12) : Fit 1300 1 (cabD c) := by
  refine (fit_tuple (m := 300) (k := 0) fun d hd => ?_).mono (show 3 * (300 + 2) + 3 ≤ 1300 by decide) (by decide)
  simp only [List.mem_cons, List.not_mem_nil, or_false] at hd
  rcases hd with rfl | rfl | rfl
  · exact fit_name h1
  · exact fit_name h2
  · exact fit_num h3 h4
theorem fit_car {c : Car} (h1 : Nf c.1) (h2 : Nf c.2.1) (h3 : 0 ≤ c.2.2.1) (h4 : c.2.2.1 ≤ 10 ^ 12) (h5 : 0 ≤ c.2.2.2) (h6 : c.2.2.2 ≤ 10 ^ 12) : Fit 1300 1 (carD c) := by
  refine (fit_tuple (m := 300) (k := 0) fun d hd => ?_).mono (show 4 * (300 + 2) + 3 ≤ 1300 by decide) (by decide)
  simp only [List.mem_cons, List.not_mem_nil, or_false] at hd
  rcases hd with rfl | rfl | rfl | rfl
  · exact fit_name h1
  · exact fit_name h2
  · exact fit_num h3 h4
  · exact fit_num h5 h6
/-- the facts of a yard's parts, plainly -/
structure YardP (cs : List Cab) (rs : List Car) : Prop where
  lc : cs.length ≤ 40
  lr : rs.length ≤ 24
  cab : ∀ c ∈ cs, Nf c.1 ∧ Nf c.2.1 ∧ 0 ≤ c.2.2 ∧ c.2.2 ≤ 10 ^ 12
  car : ∀ r ∈ rs, Nm r.1 ∧ Nf r.2.1 ∧ 1 ≤ r.2.2.1 ∧ r.2.2.1 ≤ 10 ^ 12 ∧ 0 ≤ r.2.2.2 ∧ r.2.2.2 ≤ 10 ^ 12
  keys : (cs.map ckey).Nodup
  names : (rs.map (·.1)).Nodup
theorem YardF.plain {most : Int} {cs : List Cab} {rs : List Car} (h : YardF most cs rs) (hm : most ≤ 10 ^ 12) : YardP cs rs := by
  obtain ⟨ns, nm, N1, N2, N3, N4, C, R⟩ := h.ex
  have nf : ∀ s, s ∈ feed :: ns → Nf s := fun s hs => by
    rcases List.mem_cons.mp hs with e | e
    · exact .inr e
    · exact .inl (N1.nm s e)
  refine ⟨C.len, ?_, fun c hc => ?_, fun r hr => ?_, C.nodup, R.perm.nodup_iff.mpr N3.nodup⟩
  · have := R.perm.length_eq
    rw [List.length_map] at this
    omega
  · obtain ⟨c1, c2, c3, c4, c5⟩ := C.each c hc
    exact ⟨nf _ c2, .inl (N1.nm _ c3), c4, by omega⟩
  · obtain ⟨r1, r2, r3, r4, r5⟩ := R.each r hr
    exact ⟨N3.nm _ (R.perm.mem_iff.mp (List.mem_map.mpr ⟨r, hr, rfl⟩)), nf _ r1, r2, r3, r4, by omega⟩
def yardD (cs : List Cab) (rs : List Car) : PyData := .tuple [.tuple (cs.map cabD), .tuple (rs.map carD)]
theorem fit_yard {cs : List Cab} {rs : List Car} (h : YardP cs rs) : Fit 130000 3 (yardD cs rs) := by
  have f1 : Fit 60000 2 (.tuple (cs.map cabD)) := by
    refine (fit_tuple (m := 1300) (k := 1) fun d hd => ?_).mono ?_ (by decide)
    · obtain ⟨c, hc, rfl⟩ := List.mem_map.mp hd
      obtain ⟨h1, h2, h3, h4⟩ := h.cab c hc
      exact fit_cab h1 h2 h3 h4
    · rw [List.length_map]
      have := h.lc
      omega
  have f2 : Fit 60000 2 (.tuple (rs.map carD)) := by
    refine (fit_tuple (m := 1300) (k := 1) fun d hd => ?_).mono ?_ (by decide)
    · obtain ⟨c, hc, rfl⟩ := List.mem_map.mp hd
      obtain ⟨h1, h2, h3, h4, h5, h6⟩ := h.car c hc
      exact fit_car (.inl h1) h2 (by omega) h4 h5 h6
    · rw [List.length_map]
      have := h.lr
      omega
  refine (fit_tuple (m := 60000) (k := 2) fun d hd => ?_).mono (show 2 * (60000 + 2) + 3 ≤ 130000 by decide) (by decide)
  simp only [List.mem_cons, List.not_mem_nil, or_false] at hd
  rcases hd with rfl | rfl
  · exact f1
  · exact f2
theorem big_ok {n : Nat} (h : n ≤ 1000000) : n ≤ sizeLine := by rw [sizeLine_eq]; omega
section
variable {K : PySem.W.Frag} {H : Hp}
theorem dat_cabs : ∀ {xs : List V} {cs : List Cab}, Paired (CabV K H) xs cs → DatA K H xs (cs.map cabD)
  | _, _, .nil => .nil
  | _, _, .cons ⟨t, e, h⟩ r => by
    subst e
    exact .cons (.tup h (.cons (.str _) (.cons (.str _) (.cons (.int _) .nil)))) (dat_cabs r)
theorem dat_cars : ∀ {xs : List V} {cs : List Car}, Paired (CarV K H) xs cs → DatA K H xs (cs.map carD)
  | _, _, .nil => .nil
  | _, _, .cons ⟨t, e, h⟩ r => by
    subst e
    exact .cons (.tup h (.cons (.str _) (.cons (.str _) (.cons (.int _) (.cons (.int _) .nil))))) (dat_cars r)
theorem dat_yard {y : V} {cs : List Cab} {rs : List Car} (h : YardV K H y cs rs) : DatV K H y (yardD cs rs) := by
  obtain ⟨t, a, b, xs, zs, rfl, h1, h2, h3, h4, h5⟩ := h
  exact .tup h1 (.cons (.tup h2 (dat_cabs h4)) (.cons (.tup h3 (dat_cars h5)) .nil))
theorem dat_txs : ∀ ls : List Str, DatA K H (txs ls) (ls.map PyData.str)
  | [] => .nil
  | _ :: ls => .cons (.str _) (dat_txs ls)
theorem dat_ints : ∀ ls : List Int, DatA K H (ls.map V.int) (ls.map PyData.int)
  | [] => .nil
  | _ :: ls => .cons (.int _) (dat_ints ls)
theorem same_rows {E : V → V → Prop} : ∀ {xs : List V}, (∀ x ∈ xs, E x x) → Paired E xs xs
  | [], _ => .nil
  | x :: xs, h => .cons (h x List.mem_cons_self) (same_rows fun y hy => h y (List.mem_cons_of_mem _ hy))
theorem eqT_flat {x : V} (n : Nat) (h : flatB x = true) : EqT K H (n + 1) x x := .inl ⟨rfl, h⟩
theorem eqT_tup {a b : Addr} {xs : List V} (n : Nat) (ha : SqT K H a xs) (hb : SqT K H b xs) (h : ∀ x ∈ xs, flatB x = true) : EqT K H (n + 2) (.ref a) (.ref b) :=
  .inr (.inr (.inr ⟨a, b, xs, xs, rfl, rfl, ha, hb, same_rows fun x hx => eqT_flat n (h x hx)⟩))
theorem flat_str {l : List Str} : ∀ x ∈ txs l, flatB x = true := fun x hx => by
  obtain ⟨t, _, rfl⟩ := List.mem_map.mp hx
  rfl
theorem eqT_dict {a b : Addr} {l : List (Str × Int)} (n : Nat) (nd : (l.map (·.1)).Nodup) (ha : H a = some (.dK (kvI l))) (hb : H b = some (.dK (kvI l))) : EqT K H (n + 2) (.ref a) (.ref b) :=
  .inr (.inr (.inl (.inr ⟨a, b, kvI l, kvI l, rfl, rfl, ha, hb, rfl, fun p hp => by
    obtain ⟨q, hq, rfl⟩ := List.mem_map.mp hp
    exact ⟨_, kvI_get nd hq, eqT_flat n rfl⟩⟩)))
end
end Y

/-! data of cars, of numbers, compared by == -/
namespace Y
open PySem PySem.Spec PyProof.Rows L2 Ns
theorem dp_cars {K : PySem.W.Frag} {H : Hp} : ∀ {ys : List V} {fl : List Car}, Paired (CarV K H) ys fl → DpAll K H ys (fl.map carD)
  | _, _, .nil => .nil
  | _, _, .cons ⟨t, e, h⟩ r => by
    subst e
    exact .cons (.tup h (.cons (.str _) (.cons (.str _) (.cons (.int _) (.cons (.int _) .nil))))) (dp_cars r)
theorem nf_ok {t : Str} (h : Nf t) : PyData.strOk t = true := by
  rcases h with h | rfl
  · exact nm_ok h
  · decide +kernel
theorem lay_cars : ∀ {fl : List Car}, (∀ r ∈ fl, Nm r.1 ∧ Nf r.2.1 ∧ 1 ≤ r.2.2.1 ∧ r.2.2.1 ≤ 10 ^ 12 ∧ 0 ≤ r.2.2.2 ∧ r.2.2.2 ≤ 10 ^ 12) → PyData.canLayAll0 (fl.map carD) = true ∧ PyData.depthAll (fl.map carD) ≤ 1
  | [], _ => ⟨rfl, by simp [PyData.depthAll]⟩
  | r :: fl, h => by
    obtain ⟨h1, h2⟩ := lay_cars fun r hr => h r (List.mem_cons_of_mem _ hr)
    obtain ⟨g1, g2, _⟩ := h r List.mem_cons_self
    refine ⟨by simp [carD, PyData.canLayAll0, PyData.canLay0, h1, nm_ok g1, nf_ok g2], ?_⟩
    simp only [List.map_cons, PyData.depthAll, carD, PyData.depth]
    omega
theorem shaped_cars {fl : List Car} (h : ∀ r ∈ fl, Nm r.1 ∧ Nf r.2.1 ∧ 1 ≤ r.2.2.1 ∧ r.2.2.1 ≤ 10 ^ 12 ∧ 0 ≤ r.2.2.2 ∧ r.2.2.2 ≤ 10 ^ 12) : SeqAt.shaped (.list (fl.map carD)) = true := by
  obtain ⟨h1, h2⟩ := lay_cars h
  unfold SeqAt.shaped
  rw [Bool.and_eq_true]
  refine ⟨by simp [PyData.canLay0, h1], decide_eq_true ?_⟩
  simp only [PyData.depth]
  omega
theorem dp_ints {K : PySem.W.Frag} {H : Hp} : ∀ l : List Int, DpAll K H (l.map V.int) (l.map PyData.int)
  | [] => .nil
  | i :: l => .cons (.int i) (dp_ints l)
theorem lay_ints : ∀ l : List Int, PyData.canLayAll0 (l.map PyData.int) = true ∧ PyData.depthAll (l.map PyData.int) = 0
  | [] => ⟨rfl, by simp [PyData.depthAll]⟩
  | i :: l => by
    obtain ⟨h1, h2⟩ := lay_ints l
    exact ⟨by simp [PyData.canLayAll0, PyData.canLay0, h1], by simp [PyData.depthAll, PyData.depth, h2]⟩
theorem shaped_ints (l : List Int) : SeqAt.shaped (.list (l.map PyData.int)) = true := by
  obtain ⟨h1, h2⟩ := lay_ints l
  unfold SeqAt.shaped
  rw [Bool.and_eq_true]
  refine ⟨by simp [PyData.canLay0, h1], decide_eq_true ?_⟩
  simp only [PyData.depth, h2]
  decide
end Y

/-! OW: edits, what they make of a yard's parts. -/
namespace Y
open PySem PySem.Spec PyProof.Rows L2 Ns
inductive Ed where
  | cab (s e : Str) (v : Int) : Ed
  | noc (s e : Str) : Ed
  | car (r : Car) : Ed
  | nor (n : Str) : Ed
inductive Er where
  | cab (s e : Str) : Er
  | car (n : Str) : Er
def edV : Ed → List V
  | .cab s e v => [.str "cable", .str s, .str e, .int v]
  | .noc s e => [.str "no cable", .str s, .str e]
  | .car r => [.str "car", .str r.1, .str r.2.1, .int r.2.2.1, .int r.2.2.2]
  | .nor n => [.str "no car", .str n]
def edD : Ed → PyData
  | .cab s e v => .tuple [.str "cable", .str s, .str e, .int v]
  | .noc s e => .tuple [.str "no cable", .str s, .str e]
  | .car r => .tuple [.str "car", .str r.1, .str r.2.1, .int r.2.2.1, .int r.2.2.2]
  | .nor n => .tuple [.str "no car", .str n]
def EdV (K : PySem.W.Frag) (H : Hp) (x : V) (e : Ed) : Prop := ∃ t, x = .ref t ∧ SqT K H t (edV e)
theorem EdV.more {K : PySem.W.Frag} {H H' : Hp} (m : Same H H') {x : V} {e : Ed} (h : EdV K H x e) : EdV K H' x e := by
  obtain ⟨t, q, h⟩ := h
  exact ⟨t, q, sqt_more m h⟩
theorem EdV.dat {K : PySem.W.Frag} {H : Hp} {x : V} {e : Ed} (h : EdV K H x e) : DatV K H x (edD e) := by
  obtain ⟨t, rfl, h⟩ := h
  cases e with
  | cab s e v => exact .tup h (.cons (.str _) (.cons (.str _) (.cons (.str _) (.cons (.int _) .nil))))
  | noc s e => exact .tup h (.cons (.str _) (.cons (.str _) (.cons (.str _) .nil)))
  | car r => exact .tup h (.cons (.str _) (.cons (.str _) (.cons (.str _) (.cons (.int _) (.cons (.int _) .nil)))))
  | nor n => exact .tup h (.cons (.str _) (.cons (.str _) .nil))
abbrev Caps := List ((Str × Str) × Int)
def dropP (c : Caps) (k : Str × Str) : Caps := c.filter fun f => decide (f.1 ≠ k)
def putR (rs : List Car) (r : Car) : List Car := if (rs.any fun q => decide (q.1 = r.1)) = true then rs.map (fun q => if q.1 = r.1 then r else q) else rs ++ [r]
def dropR (rs : List Car) (n : Str) : List Car := rs.filter fun q => decide (q.1 ≠ n)
def stp : Caps × List Car → Ed → Except Er (Caps × List Car)
  | (c, r), .cab s e v => .ok (put c (s, e) v, r)
  | (c, r), .noc s e => if (s, e) ∈ c.map (·.1) then .ok (dropP c (s, e), r) else .error (.cab s e)
  | (c, r), .car q => .ok (c, putR r q)
  | (c, r), .nor n => if n ∈ r.map (·.1) then .ok (c, dropR r n) else .error (.car n)
def nxt : Except Er (Caps × List Car) → Ed → Except Er (Caps × List Car)
  | .ok s, e => stp s e
  | .error x, _ => .error x
def runE (s : Caps × List Car) (es : List Ed) : Except Er (Caps × List Car) := es.foldl nxt (.ok s)
theorem runE_take {s : Caps × List Car} {es : List Ed} {i : Nat} {e : Ed} (h : es[i]? = some e) : runE s (es.take (i + 1)) = nxt (runE s (es.take i)) e := by
  unfold runE
  rw [List.take_succ, h, List.foldl_append]
  rfl
theorem run_err : ∀ {es : List Ed} {x : Er}, es.foldl nxt (.error x) = .error x
  | [], _ => rfl
  | e :: es, x => run_err (es := es)
theorem runE_stuck {s st : Caps × List Car} {es : List Ed} {i : Nat} {e : Ed} {x : Er} (h : es[i]? = some e) (g : runE s (es.take i) = .ok st) (k : stp st e = .error x) : runE s es = .error x := by
  have q : runE s (es.take (i + 1)) = .error x := by rw [runE_take h, g]; exact k
  unfold runE at q ⊢
  rw [← List.take_append_drop (i + 1) es, List.foldl_append, q]
  exact run_err
/-! ### the dicts -/
def cK (l : List (Key × V)) (rs : List Car) (K : PySem.W.Frag) (H : Hp) : Prop := Paired (fun p r => p.1 = (Sum.inr r.1 : Key) ∧ CarV K H p.2 r) l rs
theorem cK.more {K : PySem.W.Frag} {H H' : Hp} (m : Same H H') {l : List (Key × V)} {rs : List Car} (h : cK l rs K H) : cK l rs K H' := paired_imp (fun _ _ z => ⟨z.1, z.2.more m⟩) h
theorem cK_any {K : PySem.W.Frag} {H : Hp} (n : Str) : ∀ {l : List (Key × V)} {rs : List Car}, cK l rs K H → (l.any fun p => decide (p.1 = (Sum.inr n : Key))) = rs.any fun r => decide (r.1 = n)
  | _, _, .nil => rfl
  | _, _, .cons h t => by
    rw [List.any_cons, List.any_cons, cK_any n t, h.1]
    congr 1
    rw [decide_eq_decide]
    exact ⟨fun z => by injection z, fun z => by rw [z]⟩
theorem any_mem {rs : List Car} {n : Str} : (rs.any fun r => decide (r.1 = n)) = decide (n ∈ rs.map (·.1)) := by
  rw [Bool.eq_iff_iff, List.any_eq_true, decide_eq_true_iff, List.mem_map]
  constructor
  · rintro ⟨r, h, e⟩
    exact ⟨r, h, of_decide_eq_true e⟩
  · rintro ⟨r, h, e⟩
    exact ⟨r, h, decide_eq_true e⟩
theorem cK_is {K : PySem.W.Frag} {H : Hp} {n : Str} {l : List (Key × V)} {rs : List Car} (h : cK l rs K H) : (valV l (Sum.inr n : Key)).isSome = decide (n ∈ rs.map (·.1)) := by
  rw [← valV_any, cK_any n h, any_mem]
theorem cK_put {K : PySem.W.Frag} {H : Hp} {x : V} {r : Car} (hx : CarV K H x r) : ∀ {l : List (Key × V)} {rs : List Car}, cK l rs K H → cK (putK l (Sum.inr r.1 : Key) x) (putR rs r) K H := by
  have rep : ∀ {l : List (Key × V)} {rs : List Car}, cK l rs K H → cK (l.map fun kv => if kv.1 = (Sum.inr r.1 : Key) then (kv.1, x) else kv) (rs.map fun q => if q.1 = r.1 then r else q) K H := by
    intro l rs h
    induction h with
    | nil => exact .nil
    | @cons p q ps qs h t ih =>
      rw [List.map_cons, List.map_cons]
      refine .cons ?_ ih
      by_cases e : q.1 = r.1
      · rw [if_pos e, if_pos (by rw [h.1, e])]
        exact ⟨by rw [h.1, e], hx⟩
      · rw [if_neg e, if_neg (fun z => e (by rw [h.1] at z; injection z))]
        exact h
  intro l rs h
  unfold putK putR
  rw [cK_any r.1 h]
  by_cases e : (rs.any fun q => decide (q.1 = r.1)) = true
  · rw [if_pos e, if_pos e]; exact rep h
  · rw [if_neg e, if_neg e]; exact paired_snoc ⟨rfl, hx⟩ h
theorem cK_drop {K : PySem.W.Frag} {H : Hp} (n : Str) : ∀ {l : List (Key × V)} {rs : List Car}, cK l rs K H → cK (dropK l (Sum.inr n : Key)) (dropR rs n) K H
  | _, _, .nil => .nil
  | _, _, .cons (a := p) (b := q) (l₁ := ps) (l₂ := qs) h t => by
    have ih := cK_drop n t
    unfold dropK dropR at ih ⊢
    rw [List.filter_cons, List.filter_cons]
    by_cases e : q.1 = n
    · rw [if_neg (by simp [h.1, e]), if_neg (by simp [e])]; exact ih
    · rw [if_pos (by rw [h.1]; exact decide_eq_true (fun z => e (by injection z))), if_pos (by simp [e])]; exact .cons h ih
theorem cK_get {K : PySem.W.Frag} {H : Hp} {r : Car} : ∀ {l : List (Key × V)} {rs : List Car}, cK l rs K H → (rs.map (·.1)).Nodup → r ∈ rs → ∃ x, valV l (Sum.inr r.1 : Key) = some x ∧ CarV K H x r
  | _, _, .nil, _, h => nomatch h
  | _, _, .cons (a := p) (b := q) h t, n, hm => by
    rw [List.map_cons, List.nodup_cons] at n
    rcases List.mem_cons.mp hm with rfl | hm
    · exact ⟨_, valV_pos h.1, h.2⟩
    · obtain ⟨x, e, c⟩ := cK_get t n.2 hm
      refine ⟨x, ?_, c⟩
      rw [valV_neg]
      · exact e
      · intro z
        rw [h.1] at z
        injection z with z
        exact n.1 (z ▸ List.mem_map.mpr ⟨r, hm, rfl⟩)
theorem cK_keys {K : PySem.W.Frag} {H : Hp} : ∀ {l : List (Key × V)} {rs : List Car}, cK l rs K H → l.map (·.1) = rs.map fun r => (Sum.inr r.1 : Key)
  | _, _, .nil => rfl
  | _, _, .cons h t => by rw [List.map_cons, List.map_cons, cK_keys t, h.1]
theorem kvs_drop (k : Str × Str) : ∀ c : Caps, dropK (kvs c) (pK k) = kvs (dropP c k)
  | [] => rfl
  | f :: c => by
    have ih := kvs_drop k c
    unfold dropK dropP at ih ⊢
    unfold kvs at ih ⊢
    rw [List.map_cons, List.filter_cons, List.filter_cons]
    by_cases e : f.1 = k
    · rw [if_neg (by simp [e]), if_neg (by simp [e])]; exact ih
    · rw [if_pos (decide_eq_true (show ¬ pK f.1 = pK k from fun z => e (pK_inj z))), if_pos (by simp [e]), List.map_cons, ih]
theorem kvs_is (c : Caps) (k : Str × Str) : (valV (kvs c) (pK k)).isSome = decide (k ∈ c.map (·.1)) := by
  rw [← valV_any, kvs_any, Bool.eq_iff_iff, List.any_eq_true, decide_eq_true_iff, List.mem_map]
  constructor
  · rintro ⟨r, h, e⟩
    exact ⟨r, h, of_decide_eq_true e⟩
  · rintro ⟨r, h, e⟩
    exact ⟨r, h, decide_eq_true e⟩
/-! ### what is known behind edits -/
def CarQ (r : Car) : Prop := Nm r.1 ∧ Nf r.2.1 ∧ 1 ≤ r.2.2.1 ∧ r.2.2.1 ≤ 10 ^ 12 ∧ 0 ≤ r.2.2.2 ∧ r.2.2.2 ≤ 10 ^ 12
structure StQ (m : Nat) (c : Caps) (rs : List Car) : Prop where
  lc : c.length ≤ 40 + m
  lr : rs.length ≤ 24 + m
  cab : ∀ f ∈ c, Nf f.1.1 ∧ Nf f.1.2 ∧ 0 ≤ f.2 ∧ f.2 ≤ 10 ^ 12
  car : ∀ r ∈ rs, CarQ r
  keys : (c.map (·.1)).Nodup
  names : (rs.map (·.1)).Nodup
def EdQ : Ed → Prop
  | .cab s e v => Nf s ∧ Nf e ∧ 0 ≤ v ∧ v ≤ 10 ^ 12
  | .noc s e => Nf s ∧ Nf e
  | .car r => CarQ r
  | .nor n => Nm n
theorem put_keys {c : Caps} {k : Str × Str} {v : Int} (h : (c.map (·.1)).Nodup) : ((put c k v).map (·.1)).Nodup := by
  unfold put
  by_cases e : (c.any fun f => decide (f.1 = k)) = true
  · rw [if_pos e]
    have e1 : (c.map (fun f => if f.1 = k then (f.1, v) else f)).map (·.1) = c.map (·.1) := by
      rw [List.map_map]
      apply List.map_congr_left
      intro f _
      by_cases z : f.1 = k
      · simp [z]
      · simp [z]
    rw [e1]; exact h
  · rw [if_neg e, List.map_append, List.nodup_append]
    refine ⟨h, List.nodup_cons.mpr ⟨(fun z => nomatch z), List.nodup_nil⟩, fun y hy z hz => ?_⟩
    rw [List.mem_singleton.mp hz]
    rintro rfl
    obtain ⟨f, hf, ef⟩ := List.mem_map.mp hy
    exact e (List.any_eq_true.mpr ⟨f, hf, decide_eq_true ef⟩)
theorem put_len (c : Caps) (k : Str × Str) (v : Int) : (put c k v).length ≤ c.length + 1 := by
  unfold put
  split
  · rw [List.length_map]; omega
  · rw [List.length_append]; exact Nat.le_refl _
theorem mem_put {c : Caps} {k : Str × Str} {v : Int} {f : (Str × Str) × Int} (h : f ∈ put c k v) : f ∈ c ∨ f = (k, v) := by
  unfold put at h
  split at h
  · obtain ⟨g, hg, rfl⟩ := List.mem_map.mp h
    by_cases e : g.1 = k
    · rw [if_pos e, e]; exact .inr rfl
    · rw [if_neg e]; exact .inl hg
  · rcases List.mem_append.mp h with z | z
    · exact .inl z
    · exact .inr (List.mem_singleton.mp z)
theorem mem_putR {rs : List Car} {r q : Car} (h : q ∈ putR rs r) : q ∈ rs ∨ q = r := by
  unfold putR at h
  split at h
  · obtain ⟨g, hg, rfl⟩ := List.mem_map.mp h
    by_cases e : g.1 = r.1
    · rw [if_pos e]; exact .inr rfl
    · rw [if_neg e]; exact .inl hg
  · rcases List.mem_append.mp h with z | z
    · exact .inl z
    · exact .inr (List.mem_singleton.mp z)
theorem putR_len (rs : List Car) (r : Car) : (putR rs r).length ≤ rs.length + 1 := by
  unfold putR
  split
  · rw [List.length_map]; omega
  · rw [List.length_append]; exact Nat.le_refl _
theorem putR_names {rs : List Car} {r : Car} (h : (rs.map (·.1)).Nodup) : ((putR rs r).map (·.1)).Nodup := by
  unfold putR
  by_cases e : (rs.any fun q => decide (q.1 = r.1)) = true
  · rw [if_pos e]
    have e1 : (rs.map (fun q => if q.1 = r.1 then r else q)).map (·.1) = rs.map (·.1) := by
      rw [List.map_map]
      apply List.map_congr_left
      intro q _
      by_cases z : q.1 = r.1
      · simp [z]
      · simp [z]
    rw [e1]; exact h
  · rw [if_neg e, List.map_append, List.nodup_append]
    refine ⟨h, List.nodup_cons.mpr ⟨(fun z => nomatch z), List.nodup_nil⟩, fun y hy z hz => ?_⟩
    rw [List.mem_singleton.mp hz]
    rintro rfl
    obtain ⟨f, hf, ef⟩ := List.mem_map.mp hy
    exact e (List.any_eq_true.mpr ⟨f, hf, decide_eq_true ef⟩)
theorem StQ.step {m : Nat} {c c' : Caps} {rs rs' : List Car} {e : Ed} (h : StQ m c rs) (q : EdQ e) (k : stp (c, rs) e = .ok (c', rs')) : StQ (m + 1) c' rs' := by
  cases e with
  | cab s e v =>
    cases (show Except.ok (put c (s, e) v, rs) = Except.ok (c', rs') from k)
    refine ⟨Nat.le_trans (put_len c _ v) (by have := h.lc; omega), by have := h.lr; omega, fun f hf => ?_, h.car, put_keys h.keys, h.names⟩
    rcases mem_put hf with z | z
    · exact h.cab f z
    · rw [z]; exact q
  | noc s e =>
    have k : (if (s, e) ∈ c.map (·.1) then Except.ok (dropP c (s, e), rs) else .error (Er.cab s e)) = Except.ok (c', rs') := k
    split at k
    · cases k
      refine ⟨Nat.le_trans (List.length_filter_le _ _) (by have := h.lc; omega), by have := h.lr; omega, fun f hf => h.cab f (List.mem_filter.mp hf).1, h.car, ?_, h.names⟩
      exact h.keys.sublist (List.filter_sublist.map _)
    · cases k
  | car r =>
    cases (show Except.ok (c, putR rs r) = Except.ok (c', rs') from k)
    refine ⟨by have := h.lc; omega, Nat.le_trans (putR_len rs r) (by have := h.lr; omega), h.cab, fun p hp => ?_, h.keys, putR_names h.names⟩
    rcases mem_putR hp with z | z
    · exact h.car p z
    · rw [z]; exact q
  | nor n =>
    have k : (if n ∈ rs.map (·.1) then Except.ok (c, dropR rs n) else .error (Er.car n)) = Except.ok (c', rs') := k
    split at k
    · cases k
      refine ⟨by have := h.lc; omega, Nat.le_trans (List.length_filter_le _ _) (by have := h.lr; omega), h.cab, fun p hp => h.car p (List.mem_filter.mp hp).1, h.keys, ?_⟩
      exact h.names.sublist (List.filter_sublist.map _)
    · cases k
/-- a yard, its parts as dicts -/
def capsOf (cs : List Cab) : Caps := cs.map fun c => (ckey c, c.2.2)
theorem capsOf_keys (cs : List Cab) : (capsOf cs).map (·.1) = cs.map ckey := by unfold capsOf; rw [List.map_map]; rfl
/-- .. made a yard again -/
structure Res (c : Caps) (rs : List Car) (cs' : List Cab) (rs' : List Car) : Prop where
  srt : cs'.map ckey = (c.map (·.1)).mergeSort (PySem.W.dataLe false pD)
  cab : ∀ x ∈ cs', (ckey x, x.2.2) ∈ c
  rise : sortedS (rs'.map (·.1)) = true
  perm : rs'.Perm rs
structure YardQ (m : Nat) (cs : List Cab) (rs : List Car) : Prop where
  lc : cs.length ≤ 40 + m
  lr : rs.length ≤ 24 + m
  cab : ∀ c ∈ cs, Nf c.1 ∧ Nf c.2.1 ∧ 0 ≤ c.2.2 ∧ c.2.2 ≤ 10 ^ 12
  car : ∀ r ∈ rs, CarQ r
  keys : (cs.map ckey).Nodup
  names : (rs.map (·.1)).Nodup
theorem YardP.q {cs : List Cab} {rs : List Car} (h : YardP cs rs) (m : Nat) : YardQ m cs rs := ⟨by have := h.lc; omega, by have := h.lr; omega, h.cab, h.car, h.keys, h.names⟩
theorem YardQ.st {m : Nat} {cs : List Cab} {rs : List Car} (h : YardQ m cs rs) : StQ m (capsOf cs) rs := by
  refine ⟨by unfold capsOf; rw [List.length_map]; exact h.lc, h.lr, fun f hf => ?_, h.car, by rw [capsOf_keys]; exact h.keys, h.names⟩
  obtain ⟨c, hc, rfl⟩ := List.mem_map.mp hf
  exact h.cab c hc
theorem Res.q {m : Nat} {c : Caps} {rs rs' : List Car} {cs' : List Cab} (h : StQ m c rs) (r : Res c rs cs' rs') : YardQ m cs' rs' := by
  have pm := List.mergeSort_perm (c.map (·.1)) (PySem.W.dataLe false pD)
  refine ⟨?_, by rw [r.perm.length_eq]; exact h.lr, fun x hx => h.cab _ (r.cab x hx), fun q hq => h.car q (r.perm.mem_iff.mp hq), by rw [r.srt]; exact pm.nodup_iff.mpr h.keys, (r.perm.map _).nodup_iff.mpr h.names⟩
  have := congrArg List.length r.srt
  rw [List.length_map, pm.length_eq, List.length_map] at this
  rw [this]; exact h.lc
theorem key_val {c : Caps} (n : (c.map (·.1)).Nodup) {k : Str × Str} {u v : Int} (h : (k, u) ∈ c) (g : (k, v) ∈ c) : u = v := by
  have e := (kvs_get n h).symm.trans (kvs_get n g)
  injection e with e
  injection e
theorem same_names : ∀ {as bs : List Car}, (∀ x ∈ as, ∀ y ∈ bs, x.1 = y.1 → x = y) → as.map (·.1) = bs.map (·.1) → as = bs
  | [], [], _, _ => rfl
  | [], _ :: _, _, e => by cases e
  | _ :: _, [], _, e => by cases e
  | a :: as, b :: bs, h, e => by
    rw [List.map_cons, List.map_cons] at e
    injection e with e1 e2
    rw [h a List.mem_cons_self b List.mem_cons_self e1, same_names (fun x hx y hy => h x (List.mem_cons_of_mem _ hx) y (List.mem_cons_of_mem _ hy)) e2]
theorem same_keys : ∀ {as bs : List Cab}, (∀ x ∈ as, ∀ y ∈ bs, ckey x = ckey y → x = y) → as.map ckey = bs.map ckey → as = bs
  | [], [], _, _ => rfl
  | [], _ :: _, _, e => by cases e
  | _ :: _, [], _, e => by cases e
  | a :: as, b :: bs, h, e => by
    rw [List.map_cons, List.map_cons] at e
    injection e with e1 e2
    rw [h a List.mem_cons_self b List.mem_cons_self e1, same_keys (fun x hx y hy => h x (List.mem_cons_of_mem _ hx) y (List.mem_cons_of_mem _ hy)) e2]
theorem names_in {rs : List Car} (n : (rs.map (·.1)).Nodup) : ∀ {x y : Car}, x ∈ rs → y ∈ rs → x.1 = y.1 → x = y := by
  induction rs with
  | nil => intro x y h; cases h
  | cons r rs ih =>
    rw [List.map_cons, List.nodup_cons] at n
    intro x y hx hy e
    rcases List.mem_cons.mp hx with ex | gx
    · rcases List.mem_cons.mp hy with ey | gy
      · rw [ex, ey]
      · exact (n.1 (by rw [← ex, e]; exact List.mem_map.mpr ⟨y, gy, rfl⟩)).elim
    · rcases List.mem_cons.mp hy with ey | gy
      · exact (n.1 (by rw [← ey, ← e]; exact List.mem_map.mpr ⟨x, gx, rfl⟩)).elim
      · exact ih n.2 gx gy e
theorem Res.uniq {m : Nat} {c : Caps} {rs rs1 rs2 : List Car} {cs1 cs2 : List Cab} (h : StQ m c rs) (a : Res c rs cs1 rs1) (b : Res c rs cs2 rs2) : cs1 = cs2 ∧ rs1 = rs2 := by
  refine ⟨same_keys (fun x hx y hy e => ?_) (a.srt.trans b.srt.symm), same_names (fun x hx y hy e => names_in h.names (a.perm.mem_iff.mp hx) (b.perm.mem_iff.mp hy) e) ?_⟩
  · have v := key_val h.keys (a.cab x hx) (e ▸ b.cab y hy)
    obtain ⟨x1, x2, x3⟩ := x
    obtain ⟨y1, y2, y3⟩ := y
    injection e with e1 e2
    cases e1
    cases e2
    cases (show x3 = y3 from v)
    rfl
  · exact sorted_one a.rise b.rise ((a.perm.trans b.perm.symm).map _)
end Y

/-! QA: texts: the part ahead of a sign, words. -/
namespace Y
open PySem PySem.Spec PyProof.Rows L2 Ns
open PySem.Builtin.Str
/-- the part ahead of the first sign is the first part of the split -/
theorem part_head {a b : Str} (hk : ¬ strKind a < strKind b) : ∃ r, Txt.split a b = (Txt.partition a b).1 :: r := by
  have h1 := StrLaws.occ_head a b 1 (Nat.le_refl 1)
  have h2 := StrLaws.occ_head a b (a.length + 1) (Nat.le_add_left 1 _)
  unfold Txt.split Txt.partition
  rw [decide_eq_false hk, Bool.or_false]
  rcases h1 with ⟨e1, n1⟩ | ⟨i, r1, e1, at1, m1⟩
  · rcases h2 with ⟨e2, n2⟩ | ⟨j, r2, e2, at2, m2⟩
    · rw [e1, e2]
      refine ⟨[], ?_⟩
      split <;> rfl
    · exact (n1 j at2).elim
  · rcases h2 with ⟨e2, n2⟩ | ⟨j, r2, e2, at2, m2⟩
    · exact (n2 i at1).elim
    · have ij : i = j := by
        rcases Nat.lt_trichotomy i j with h | h | h
        · exact (m2 i h at1).elim
        · exact h
        · exact (m1 j h at2).elim
      subst ij
      rw [e1, e2, StrLaws.partsBetween_eq]
      have lt : ¬ a.length < b.length := by
        have := at1.1
        omega
      rw [decide_eq_false lt]
      exact ⟨_, rfl⟩
end Y

/-! QB: the words of a line; the number that a word shows. -/
namespace Y
open PySem PySem.Spec PyProof.Rows L2 Ns
open PySem.Builtin.Str
/-- no part is longer than the whole -/
theorem sub_le (x : Str) (i j : Nat) : (strSub x i j).length ≤ x.length := by
  have e : (strSub x i j).cps.toList.length = (strSub x i j).length := Array.length_toList
  rw [← e, StrLaws.strSub_toList, List.length_take, List.length_drop]
  have : x.cps.toList.length = x.length := Array.length_toList
  omega
theorem partsFrom_le (x : Str) (w : Nat) : ∀ (cuts : List Nat) (a : Nat), ∀ p ∈ StrLaws.partsFrom x w a cuts, p.length ≤ x.length
  | [], a, p, h => by
    rw [List.mem_singleton.mp h]
    exact sub_le _ _ _
  | c :: r, a, p, h => by
    rcases List.mem_cons.mp h with e | e
    · rw [e]; exact sub_le _ _ _
    · exact partsFrom_le x w r _ p e
theorem split_each {a b p : Str} (h : p ∈ Txt.split a b) : p.length ≤ a.length := by
  unfold Txt.split at h
  split at h
  · rw [List.mem_singleton.mp h]; exact Nat.le_refl _
  · split at h
    · rw [List.mem_singleton.mp h]; exact Nat.le_refl _
    · rw [StrLaws.partsBetween_eq] at h
      exact partsFrom_le _ _ _ _ p h
def wordsP (z : Str) : List Str := (Txt.split z " ").filter fun w => decide (w ≠ "")
theorem wordsP_each {z w : Str} (h : w ∈ wordsP z) : w.length ≤ z.length := split_each (List.mem_filter.mp h).1
theorem wordsP_ne {z w : Str} (h : w ∈ wordsP z) : w ≠ "" := of_decide_eq_true (List.mem_filter.mp h).2
def spWords : Sp := fun as H Q _ => ∃ z : Str, as = [.str z] ∧ z.length ≤ 1000000 ∧ ∀ (p : Addr) (H' : Hp), H' p = some (.lst (txs (wordsP z))) → H p = none → Same H H' → Q (.ref p) H'
theorem wordsP_len (z : Str) : (Txt.split z " ").length ≤ z.length + 2 := PyProof.Rows.split_le z " "
abbrev digits : Str := "0123456789"
theorem digits_iff {c : Nat} : c ∈ digits.cps.toList ↔ 48 ≤ c ∧ c ≤ 57 := by
  have e : digits.cps.toList = [48, 49, 50, 51, 52, 53, 54, 55, 56, 57] := by decide +kernel
  rw [e]
  simp only [List.mem_cons, List.not_mem_nil, or_false]
  omega
def allDig (z : Str) : Bool := z.cps.toList.all fun c => decide (c ∈ digits.cps.toList)
theorem allDig_iff {z : Str} : allDig z = true ↔ PySem.NumText.AllDigits z.cps.toList := by
  unfold allDig PySem.NumText.AllDigits
  rw [List.all_eq_true]
  exact ⟨fun h c hc => digits_iff.mp (of_decide_eq_true (h c hc)), fun h c hc => decide_eq_true (digits_iff.mpr (h c hc))⟩
/-- the number that a word shows -/
def numP (z : Str) : Option Int := if z = "" ∨ allDig z = false then none else if z.cps.toList.head? = some 48 ∧ z ≠ "0" then none else intText? z
def numV : Option Int → V
  | some n => .int n
  | none => .non
def spNum (f : Str → Option Int) : Sp := fun as H Q _ => ∃ z : Str, as = [.str z] ∧ z.length ≤ 600 ∧ ∀ H', Same H H' → Q (numV (f z)) H'
section
variable {P : Program} {w : World} {K : PySem.W.Frag} {mg : Str → Option Value} {base : Heap}
theorem scWo : FnScope ["line", "word"] ["line"] (defScope sWordsOf) := ⟨rfl, rfl, rfl, by decide +kernel, rfl, by decide +kernel, by decide +kernel⟩
theorem ok_wordsOf {f : Addr} {fd : FuncData} (F : Fun K "words_of" "words_of" sWordsOf f fd) : FnOk P w K mg base CX0 1 f fd ["line"] spWords := by
  refine F.ok scWo (fun as H Q E h => ?_) (fun cdv A outer s H as Q E hr h => ?_)
  · obtain ⟨z, rfl, _⟩ := h
    rfl
  · obtain ⟨z, rfl, zl, k⟩ := h
    refine ⟨_, pss_one (ps_ret (pe_lc (own := [("word", 1)]) (g := gName 1) rfl scWo.nd (pi_list (pe_split (pv 0) pe_str)) (blkOk_by (N := ["line", "word"]) (sc := defScope sWordsOf) (by decide +kernel))
      (fun _ _ _ _ _ => pg_name (i := 1) scWo.nd rfl (Or.inl rfl)) (fun _ _ _ _ _ => pts_one (pt_cmpR op_ne (pv 1) pe_str (nomark _))) (fun _ _ _ _ _ => pv 1))), ?_⟩
    have sl : z.length + 2 ≤ sizeLine := by rw [sizeLine_eq]; omega
    refine ⟨_, rfl, ⟨z, rfl⟩, z, " ", rfl, rfl, rfl, sl, fun p hp => ⟨p, rfl, ⟨_, SqL.of upd_same⟩, fun D hD => ?_⟩⟩
    have npD : p ≠ D := fun e => by rw [← e, upd_same] at hD; cases hD
    have hD' : H D = none := by rw [upd_ne npD.symm] at hD; exact hD
    refine lc_list (K := K) (a := p) (xs := (Txt.split z " ").map V.str) (fun i H' => H' D = some (.lst (txs (((Txt.split z " ").take i).filter fun w : Str => decide (w ≠ "")))) ∧ H' p = some (.lst ((Txt.split z " ").map V.str)) ∧ Same H H') ?_ ?_ ?_ ?_
    · exact ⟨by rw [List.take_zero, upd_same]; rfl, by rw [upd_ne npD, upd_same], same_new (same_new (Same.refl H) hp) hD⟩
    · rintro i H' hi ⟨_, h, _⟩
      exact SqL.of h
    · rintro i x H' hx ⟨h1, h2, h3⟩
      rw [List.getElem?_map] at hx
      obtain ⟨y, hy, rfl⟩ := Option.map_eq_some_iff.mp hx
      refine ⟨rfl, _, rfl, rfl, _, rfl, ?_⟩
      have il : i < (Txt.split z " ").length := (List.getElem?_eq_some_iff.mp hy).1
      refine ite2 (fun ne => ?_) (fun e => ?_)
      · have ny : y ≠ "" := fun e => by rw [e] at ne; simp at ne
        refine ⟨_, rfl, _, h1, ?_, ?_, by rw [upd_ne npD]; exact h2, same_put h3 hD'⟩
        · unfold txs
          rw [List.length_map]
          have := List.length_filter_le (fun w : Str => decide (w ≠ "")) ((Txt.split z " ").take i)
          rw [List.length_take] at this
          have := wordsP_len z
          rw [sizeLine_eq] at *
          omega
        · rw [upd_same, List.take_succ, hy, List.filter_append]
          unfold txs
          rw [List.map_append]
          simp [ny]
      · have ey : y = "" := by simpa using e
        refine ⟨?_, h2, h3⟩
        rw [h1, List.take_succ, hy, List.filter_append, ey]
        simp
    · rintro H' ⟨h1, h2, h3⟩
      rw [List.length_map, List.take_length] at h1
      exact k D H' h1 hD' h3
theorem scCI : FnScope ["word", "sign"] ["word"] (defScope sCountIn) := ⟨rfl, rfl, rfl, by decide +kernel, rfl, by decide +kernel, by decide +kernel⟩
theorem ok_countIn {f : Addr} {fd : FuncData} (F : Fun K "count_in" "count_in" sCountIn f fd) (T : Nat0 mg) : FnOk P w K mg base CX0 1 f fd ["word"] (spNum numP) := by
  refine F.ok scCI (fun as H Q E h => ?_) (fun cdv A outer s H as Q E hr h => ?_)
  · obtain ⟨z, rfl, _⟩ := h
    rfl
  · obtain ⟨z, rfl, zl, k⟩ := h
    refine ⟨_, pss_cons (ps_if (PW.pt (pw_or (pt_cmpR op_eq (pv 0) pe_str (nomark _)) (pw_or1 (pt_not (pt_val (pe_callB (cr_all rfl) (by rfl) T.all (by decide +kernel) (pa_cons (pe_lc (own := [("sign", 1)]) (g := gName 1) (tt := tYes) rfl scCI.nd (pi_str (pv 0)) (blkOk_by (N := ["word", "sign"]) (sc := defScope sCountIn) (by decide +kernel))
          (fun _ _ _ _ _ => pg_name (i := 1) scCI.nd rfl (Or.inl rfl)) (fun _ _ _ _ _ => pts_nil) (fun _ _ _ _ _ => pe_cmpR op_in_sign (pv 1) pe_str (by rfl))) pa_nil))))))) (pss_one (ps_ret pe_non)) pss_nil)
      (pss_cons (ps_if (PW.pt (pw_and (pt_cmpR op_eq (pe_ix ix_str (pv 0) pe_int (fun _ _ => rfl)) pe_str (nomark _)) (pw_and1 (pt_cmpR op_ne (pv 0) pe_str (nomark _))))) (pss_one (ps_ret pe_non)) pss_nil)
      (pss_one (ps_ret (pe_callTy call_int_str (by rfl) T.int (by decide +kernel) (pa_cons (pv 0) pa_nil))))), ?_⟩
    have non : numP z = none → ∀ H', Same H H' → Q .non H' := fun e H' M => by
      have := k H' M
      rw [e] at this
      exact this
    refine ⟨_, rfl, rfl, _, rfl, ?_⟩
    refine ite2 (fun h => ?_) (fun h => ?_)
    · have e : z = "" := by
        have := of_decide_eq_true h
        injection this
      exact non (by unfold numP; rw [if_pos (.inl e)]) H (Same.refl H)
    have ne : z ≠ "" := fun e => h (by rw [e]; rfl)
    refine ⟨_, rfl, z, rfl, fun D1 hD1 => ?_⟩
    refine lc_it (walk_str (z := z)) (fun i H' => H' D1 = some (.lst (((z.cps.toList.take i).map fun c => decide (c ∈ digits.cps.toList)).map V.bl)) ∧ Same H H') ?_ ?_ ?_ ?_
    · exact ⟨by rw [List.take_zero, upd_same]; rfl, same_new (Same.refl H) hD1⟩
    · exact fun _ _ _ _ => trivial
    · rintro i u H' H'' hi ⟨q1, M⟩ ⟨rfl, c', hc, rfl⟩
      have hc' : z.cps.toList[i]? = some c' := by rw [Array.getElem?_toList]; exact hc
      have hi' : i < z.length := hi
      refine ⟨rfl, _, rfl, c', digits, rfl, rfl, _, q1, ?_, ?_, same_put M hD1⟩
      · rw [List.length_map, List.length_map, List.length_take]
        exact small1000 (by omega)
      · rw [upd_same, List.take_succ, hc']
        simp
    rintro H' ⟨q1, M⟩
    rw [List.take_of_length_le (by rw [Array.length_toList]; exact Nat.le_refl _)] at q1
    have ea : ((z.cps.toList.map fun c => decide (c ∈ digits.cps.toList)).all id) = allDig z := by rw [List.all_map]; rfl
    refine ⟨D1, _, rfl, SqL.of q1, ?_⟩
    refine ⟨_, rfl, ?_⟩
    refine ite2 (fun h2 => ?_) (fun h2 => ?_)
    · have h2 : allDig z = false := by
        rw [← ea]
        simpa using h2
      exact non (by unfold numP; rw [if_pos (.inr h2)]) H' M
    have ad : allDig z = true := by
      rw [← ea]
      simpa using h2
    have n1 : ¬ (z = "" ∨ allDig z = false) := fun g => g.elim ne fun g => by rw [ad] at g; cases g
    have dz := allDig_iff.mp ad
    obtain ⟨c, r, ec⟩ : ∃ c r, z.cps.toList = c :: r := by
      cases e : z.cps.toList with
      | nil => exact absurd (str_ext (by rw [e]; rfl)) ne
      | cons c r => exact ⟨c, r, rfl⟩
    have it := PySem.intText_digits dz (by rw [ec]; exact fun z => nomatch z) (Nat.le_trans zl (by decide))
    have sl : z.length ≤ sizeLine := Nat.le_of_lt (small1000 (by omega))
    have last : ¬ (z.cps.toList.head? = some 48 ∧ z ≠ "0") → ∃ a n, [V.str z] = [V.str a] ∧ intText? a = some n ∧ a.length ≤ 640 ∧ Q (.int n) H' := fun g => by
      refine ⟨z, _, rfl, it, by omega, ?_⟩
      have := k H' M
      unfold numP at this
      rw [if_neg n1, if_neg g, it] at this
      exact this
    have c48 : decide (V.str ⟨#[c]⟩ = V.str "0") = decide (c = 48) := by
      rw [decide_eq_decide]
      constructor
      · intro e
        injection e with e
        have : (⟨#[c]⟩ : Str).cps.toList = ("0" : Str).cps.toList := by rw [e]
        have z0 : ("0" : Str).cps.toList = [48] := by decide +kernel
        rw [z0] at this
        exact (List.cons.inj this).1
      · rintro rfl
        exact congrArg V.str (str_ext (by decide +kernel))
    refine ⟨_, rfl, z, 0, c, rfl, rfl, sl, by rw [ec]; exact at0, rfl, _, rfl, ?_⟩
    rw [c48]
    refine ite2 (fun h3 => ?_) (fun h3 => ?_)
    · have h3 : c = 48 := of_decide_eq_true h3
      refine ⟨_, rfl, rfl, _, rfl, ?_⟩
      refine ite2 (fun h4 => ?_) (fun h4 => ?_)
      · have h4 : z ≠ "0" := fun e => by rw [e] at h4; simp at h4
        exact non (by unfold numP; rw [if_neg n1, if_pos ⟨by rw [ec, h3]; rfl, h4⟩]) H' M
      · refine ⟨_, rfl, last fun g => ?_⟩
        refine h4 ?_
        simpa using g.2
    · refine ⟨_, rfl, last fun g => ?_⟩
      rw [ec] at g
      exact h3 (decide_eq_true (Option.some.inj g.1))
end
end Y

/-! OYw: the heap but for two places (as in OY). -/
namespace Y
open PySem PySem.Spec PyProof.Rows L2 Ns
/-- the heap but for two places -/
def w2 (H : Hp) (d q : Addr) : Hp := fun a => if a = d ∨ a = q then none else H a
theorem w2_of {H : Hp} {d q a : Addr} {o : HO} (h : w2 H d q a = some o) : a ≠ d ∧ a ≠ q ∧ H a = some o := by
  unfold w2 at h
  split at h
  · cases h
  · rename_i n
    exact ⟨fun z => n (.inl z), fun z => n (.inr z), h⟩
theorem w2_ne {H : Hp} {d q a : Addr} (h1 : a ≠ d) (h2 : a ≠ q) : w2 H d q a = H a := if_neg (fun z => z.elim h1 h2)
theorem w2_sub (H : Hp) (d q : Addr) : Same (w2 H d q) H := fun _ _ h => (w2_of h).2.2
theorem w2_more {H H' : Hp} {d q : Addr} (m : Same H H') : Same (w2 H d q) (w2 H' d q) := fun a o e => by
  obtain ⟨h1, h2, h3⟩ := w2_of e
  rw [w2_ne h1 h2]
  exact m _ _ h3
theorem w2_but {H H' : Hp} {d q x : Addr} (hx : x = d ∨ x = q) (m : ∀ a o, a ≠ x → H a = some o → H' a = some o) : Same (w2 H d q) (w2 H' d q) := fun a o e => by
  obtain ⟨h1, h2, h3⟩ := w2_of e
  rw [w2_ne h1 h2]
  exact m _ _ (fun z => hx.elim (fun y => h1 (z.trans y)) fun y => h2 (z.trans y)) h3
theorem w2_new {H H' : Hp} {d q : Addr} (hd : H d = none) (hq : H q = none) (m : Same H H') : Same H (w2 H' d q) := fun a o e => by
  rw [w2_ne (ne_of_none e hd) (ne_of_none e hq)]
  exact m _ _ e
theorem sqt_w2 {K : PySem.W.Frag} {H : Hp} {d q p : Addr} {xs : List V} {u v : HO} (h : SqT K H p xs) (hd : H d = some u) (hq : H q = some v) (nu : ∀ zs, u ≠ .tup zs) (nu' : ∀ o w, u ≠ .frz o w) (nv : ∀ zs, v ≠ .tup zs) (nv' : ∀ o w, v ≠ .frz o w) : SqT K (w2 H d q) p xs := by
  have key : ∀ {o : HO}, H p = some o → o ≠ u → o ≠ v → w2 H d q p = some o := fun {o} e n1 n2 => by
    rw [w2_ne (fun z => by rw [z, hd] at e; exact n1 (Option.some.inj e).symm) (fun z => by rw [z, hq] at e; exact n2 (Option.some.inj e).symm)]
    exact e
  rcases h with (h | ⟨o, h⟩) | h
  · exact .inl (.inl (key h (Ne.symm (nu _)) (Ne.symm (nv _))))
  · exact .inl (.inr ⟨o, key h (Ne.symm (nu' _ _)) (Ne.symm (nv' _ _))⟩)
  · exact .inr h
end Y

/-! QC: a line's row, put to the others. -/
namespace Y
open PySem PySem.Spec PyProof.Rows L2 Ns
def spPut : Sp := fun as H Q _ => ∃ (d : Addr) (y r : V) (o : Option V), as = [.ref d, y, r] ∧ DGet H d y o ∧ (o.isSome = true → Q (.bl false) H) ∧ (o.isSome = false → ∃ H', DPut H d y r H' ∧ Q (.bl true) H')
def numD : Option Int → PyData
  | some n => .int n
  | none => .none
theorem dat_num {K : PySem.W.Frag} {H : Hp} (o : Option Int) : DatV K H (numV o) (numD o) := by
  cases o with
  | none => exact .non
  | some n => exact .int n
/-- the row that words show -/
def rowP : List Str → Option (Cab ⊕ Car)
  | [a, s, e, n] => if a = "cable" then (match numP n with | some v => if cableD (.tuple [.str s, .str e, .int v]) = true then some (.inl (s, e, v)) else none | none => none) else none
  | [a, x, kn, r, n] => if a = "car" then (match numP r, numP n with | some u, some v => if carT (.tuple [.str x, .str kn, .int u, .int v]) = true then some (.inr (x, kn, u, v)) else none | _, _ => none) else none
  | _ => none
theorem dv_lt : ∀ (cs : List Nat) (acc : Nat), PySem.NumText.AllDigits cs → cs.foldl (fun acc c => acc * 10 + (c - 48)) acc < (acc + 1) * 10 ^ cs.length
  | [], acc, _ => by simp
  | c :: cs, acc, h => by
    have hc := h c List.mem_cons_self
    have ih := dv_lt cs (acc * 10 + (c - 48)) fun d hd => h d (List.mem_cons_of_mem _ hd)
    rw [List.foldl_cons, List.length_cons]
    refine Nat.lt_of_lt_of_le ih ?_
    rw [Nat.pow_succ, Nat.mul_comm (10 ^ cs.length) 10, ← Nat.mul_assoc]
    refine Nat.mul_le_mul_right _ ?_
    omega
theorem num_bd {z : Str} {n : Int} (h : numP z = some n) (hl : z.length ≤ 600) : 0 ≤ n ∧ n.natAbs < 10 ^ 1000 := by
  unfold numP at h
  split at h
  · cases h
  · rename_i n1
    split at h
    · cases h
    · have ad : allDig z = true := by
        cases e : allDig z with
        | true => rfl
        | false => exact (n1 (.inr e)).elim
      have ne : z.cps.toList ≠ [] := fun e => n1 (.inl (str_ext (by rw [e]; rfl)))
      have dz := allDig_iff.mp ad
      rw [PySem.intText_digits dz ne (Nat.le_trans hl (by decide))] at h
      cases h
      refine ⟨Int.natCast_nonneg _, ?_⟩
      have b := dv_lt z.cps.toList 0 dz
      rw [len_cps] at b
      show Int.natAbs ((PySem.NumText.digitsVal z.cps.toList : Nat) : Int) < _
      rw [Int.natAbs_natCast]
      refine Nat.lt_of_lt_of_le (show PySem.NumText.digitsVal z.cps.toList < 1 * 10 ^ z.length from b) ?_
      rw [Nat.one_mul]
      exact Nat.pow_le_pow_right (by decide) (by omega)
theorem bd_numD {z : Str} (hl : z.length ≤ 600) : Bd 1000 (numD (numP z)) := by
  cases h : numP z with
  | none => simp [numD, Bd]
  | some n => simp only [numD, Bd]; exact (num_bd h hl).2
theorem bd_word {z : Str} (hl : z.length ≤ 600) : Bd 1000 (.str z) := by simp only [Bd]; omega
section
variable {P : Program} {w : World} {K : PySem.W.Frag} {mg : Str → Option Value} {base : Heap}
theorem scPN : FnScope ["rows", "key", "row"] ["rows", "key", "row"] (defScope sPutNew) := ⟨rfl, rfl, rfl, by decide +kernel, rfl, by decide +kernel, by decide +kernel⟩
theorem ok_putNew {f : Addr} {fd : FuncData} (F : Fun K "_put_new" "_put_new" sPutNew f fd) : FnOk P w K mg base CX0 1 f fd ["rows", "key", "row"] spPut := by
  refine F.ok scPN (fun as H Q E h => ?_) (fun cdv A outer s H as Q E hr h => ?_)
  · obtain ⟨d, y, r, o, rfl, _⟩ := h
    rfl
  · obtain ⟨d, y, r, o, rfl, g, k1, k2⟩ := h
    have hu := hu_of hr
    refine ⟨_, pss_cons (ps_if (pt_cmp (pc_din hu (pv 1) (pv 0))) (pss_one (ps_ret pe_bl)) pss_nil) (pss_cons (ps_dput hu (pv 0) (pv 1) (pv 2) rfl) (pss_one (ps_ret pe_bl))), ?_⟩
    refine ⟨_, rfl, _, rfl, d, o, rfl, g, _, rfl, ?_⟩
    refine ite2 (fun h => k1 h) (fun h => ?_)
    obtain ⟨H', p, q⟩ := k2 (Bool.eq_false_iff.mpr h)
    exact ⟨_, rfl, _, rfl, _, rfl, d, H', rfl, p, q⟩
theorem scTL : FnScope ["cables", "cars", "words", "cable", "car"] ["cables", "cars", "words"] (defScope sTookLine) := ⟨rfl, rfl, rfl, by decide +kernel, rfl, by decide +kernel, by decide +kernel⟩
def spTook (K : PySem.W.Frag) : Sp := fun as H Q _ => ∃ (d q x : Addr) (lD : List (List Key × V)) (l : List (Key × V)) (ws : List Str), as = [.ref d, .ref q, .ref x] ∧ d ≠ q ∧ H d = some (.dT lD) ∧ H q = some (.dK l) ∧ lD.length ≤ 1000000 ∧ l.length ≤ 1000000 ∧ H x = some (.lst (txs ws)) ∧ ws ≠ [] ∧ (∀ s ∈ ws, s.length ≤ 600) ∧
  ((match rowP ws with
    | none => True
    | some (.inl c) => (valV lD (pK (ckey c))).isSome = true
    | some (.inr r) => (valV l (Sum.inr r.1 : Key)).isSome = true) → ∀ H', Same H H' → Q (.bl false) H') ∧
  (∀ c, rowP ws = some (.inl c) → valV lD (pK (ckey c)) = none → ∀ (t : Addr) (H' : Hp), H' d = some (.dT (lD ++ [(pK (ckey c), .ref t)])) → H' q = some (.dK l) → H' t = some (.tup [.str c.1, .str c.2.1, .int c.2.2]) → Same (w2 H d q) (w2 H' d q) → Q (.bl true) H') ∧
  (∀ r, rowP ws = some (.inr r) → valV l (Sum.inr r.1 : Key) = none → ∀ (t : Addr) (H' : Hp), H' q = some (.dK (l ++ [((Sum.inr r.1 : Key), .ref t)])) → H' d = some (.dT lD) → H' t = some (.tup [.str r.1, .str r.2.1, .int r.2.2.1, .int r.2.2.2]) → Same (w2 H d q) (w2 H' d q) → Q (.bl true) H')
theorem ok_took {f fN fB fR fP : Addr} {fd dN dB dR dP : FuncData} (F : Fun K "_took_line" "_took_line" sTookLine f fd) (T : Nat0 mg)
    (GN : FnOk P w K mg base CX0 1 fN dN ["word"] (spNum numP)) (FN : Fun K "count_in" "count_in" sCountIn fN dN) (mN : mg "count_in" = some (.ref fN)) (bN : Binds K dN ["word"] [])
    (GB : FnOk P w K mg base CX0 3 fB dB ["thing"] (spTellS K cableD)) (FB : Fun K "is_cable" "is_cable" sIsCable fB dB) (mB : mg "is_cable" = some (.ref fB)) (bB : Binds K dB ["thing"] [])
    (GR : FnOk P w K mg base CX0 3 fR dR ["thing"] (spTellS K carT)) (FR : Fun K "is_car" "is_car" sIsCar fR dR) (mR : mg "is_car" = some (.ref fR)) (bR : Binds K dR ["thing"] [])
    (GP : FnOk P w K mg base CX0 1 fP dP ["rows", "key", "row"] spPut) (FP : Fun K "_put_new" "_put_new" sPutNew fP dP) (mP : mg "_put_new" = some (.ref fP)) (bP : Binds K dP ["rows", "key", "row"] []) :
    FnOk P w K mg base CX0 4 f fd ["cables", "cars", "words"] (spTook K) := by
  refine F.ok scTL (fun as H Q E h => ?_) (fun cdv A outer s H as Q E hr h => ?_)
  · obtain ⟨d, q, x, lD, l, ws, rfl, _⟩ := h
    rfl
  · obtain ⟨d, q, x, lD, l, ws, rfl, ndq, hd, hq, zD, zl, hx, ne, wl, k0, k1, k2⟩ := h
    have hr1 : Room 1 _ := hr.mono (by decide)
    refine ⟨_, pss_cons (ps_if (PW.pt (pw_and (pt_cmpR op_eq (pe_ix ix_list (pv 2) pe_int (fun _ _ => rfl)) pe_str (nomark _)) (pw_and1 (pt_cmpR op_eq (pe_callB call_len_seq (by rfl) T.len PySem.boot_len (pa_cons (pv 2) pa_nil)) pe_int (nomark _)))))
        (pss_cons (ps_set (i := 3) scTL.nd rfl (.inl rfl) (pe_tup (pa_cons (pe_ix ix_list (pv 2) pe_int (fun _ _ => rfl)) (pa_cons (pe_ix ix_list (pv 2) pe_int (fun _ _ => rfl)) (pa_cons (pe_call GN hr1 rfl mN FN.kp bN .nil pass0 (pa_cons (pe_ix ix_list (pv 2) pe_int (fun _ _ => rfl)) pa_nil)) pa_nil)))))
        (pss_one (ps_ret (pe_and (pe_call GB hr rfl mB FB.kp bB .nil pass0 (pa_cons (pv 3) pa_nil)) (pe_one (pe_call GP hr1 rfl mP FP.kp bP .nil pass0 (pa_cons (pv 0) (pa_cons (pe_tup (pa_cons (pe_ix ix_list (pv 2) pe_int (fun _ _ => rfl)) (pa_cons (pe_ix ix_list (pv 2) pe_int (fun _ _ => rfl)) pa_nil))) (pa_cons (pv 3) pa_nil))))))))) pss_nil)
      (pss_cons (ps_if (PW.pt (pw_and (pt_cmpR op_eq (pe_ix ix_list (pv 2) pe_int (fun _ _ => rfl)) pe_str (nomark _)) (pw_and1 (pt_cmpR op_eq (pe_callB call_len_seq (by rfl) T.len PySem.boot_len (pa_cons (pv 2) pa_nil)) pe_int (nomark _)))))
        (pss_cons (ps_set (i := 4) scTL.nd rfl (.inl rfl) (pe_tup (pa_cons (pe_ix ix_list (pv 2) pe_int (fun _ _ => rfl)) (pa_cons (pe_ix ix_list (pv 2) pe_int (fun _ _ => rfl)) (pa_cons (pe_call GN hr1 rfl mN FN.kp bN .nil pass0 (pa_cons (pe_ix ix_list (pv 2) pe_int (fun _ _ => rfl)) pa_nil)) (pa_cons (pe_call GN hr1 rfl mN FN.kp bN .nil pass0 (pa_cons (pe_ix ix_list (pv 2) pe_int (fun _ _ => rfl)) pa_nil)) pa_nil))))))
        (pss_one (ps_ret (pe_and (pe_call GR hr rfl mR FR.kp bR .nil pass0 (pa_cons (pv 4) pa_nil)) (pe_one (pe_call GP hr1 rfl mP FP.kp bP .nil pass0 (pa_cons (pv 1) (pa_cons (pe_ix ix_list (pv 2) pe_int (fun _ _ => rfl)) (pa_cons (pv 4) pa_nil))))))))) pss_nil)
      (pss_one (ps_ret pe_bl))), ?_⟩
    have eqS : ∀ {a b : Str}, decide (V.str a = V.str b) = decide (a = b) := fun {a b} => decide_eq_decide.mpr ⟨fun z => by injection z, fun z => by rw [z]⟩
    have eqN : ∀ {n : Nat}, decide (V.int ((txs ws).length : Int) = V.int (n : Int)) = decide (ws.length = n) := fun {n} => by
      rw [show (txs ws).length = ws.length from List.length_map _]
      exact decide_eq_decide.mpr ⟨fun z => by injection z with z; omega, fun z => by rw [z]⟩
    obtain ⟨w0, wr, rfl⟩ : ∃ a r, ws = a :: r := by
      cases ws with
      | nil => exact absurd rfl ne
      | cons a r => exact ⟨a, r, rfl⟩
    have none0 : rowP (w0 :: wr) = none → ∀ H', Same H H' → Q (.bl false) H' := fun e => k0 (by rw [e]; trivial)
    refine ⟨_, rfl, x, _, 0, .str w0, rfl, rfl, SqL.of hx, at0, rfl, _, rfl, ?_⟩
    rw [eqS]
    have nocar : "cable" ≠ ("car" : Str) := by decide +kernel
    have tl : (txs (w0 :: wr)).length = wr.length + 1 := List.length_map _
    have notcable : (w0 = "cable" → wr.length ≠ 3) → (w0 = "car" → wr.length ≠ 4) → rowP (w0 :: wr) = none := fun h1 h2 => by
      unfold rowP
      split
      · rename_i a s e n q
        cases q
        rw [if_neg (fun z => h1 z rfl)]
      · rename_i a y kn r n q
        cases q
        rw [if_neg (fun z => h2 z rfl)]
      · rfl
    refine ite2 (fun hc => ?_) (fun hc => ?_)
    · have hc : w0 = "cable" := of_decide_eq_true hc
      subst hc
      refine ⟨_, rfl, x, _, rfl, .inl (SqL.of hx), rfl, _, rfl, ?_⟩
      rw [tl]
      refine ite2 (fun h4 => ?_) (fun h4 => ?_)
      · have h4 : wr.length = 3 := by
          have := of_decide_eq_true h4
          injection this with this
          omega
        match wr, h4 with
        | [s1, e1, n1], _ =>
          have z1 := wl s1 (by simp)
          have z2 := wl e1 (by simp)
          have z3 := wl n1 (by simp)
          refine ⟨_, rfl, x, _, 1, _, rfl, rfl, SqL.of hx, at1, _, rfl, x, _, 2, _, rfl, rfl, SqL.of hx, at2, _, rfl, x, _, 3, _, rfl, rfl, SqL.of hx, at3, n1, rfl, z3, fun H1 M1 => ⟨by show 3 ≤ sizeLine; decide, fun t ht => ?_⟩⟩
          have M2 := same_new (o := .tup [.str s1, .str e1, numV (numP n1)]) M1 ht
          have et : upd H1 t (.tup [.str s1, .str e1, numV (numP n1)]) t = some (.tup [.str s1, .str e1, numV (numP n1)]) := upd_same
          generalize upd H1 t (.tup [.str s1, .str e1, numV (numP n1)]) = H2 at M2 et ⊢
          refine ⟨_, rfl, .ref t, .tuple [.str s1, .str e1, numD (numP n1)], rfl, .tup (SqT.of et) (.cons (.str _) (.cons (.str _) (.cons (dat_num _) .nil))), ?_, fun H3 M3 => ?_⟩
          · simp only [Bd]
            exact ⟨by show 3 ≤ 1000; decide, bdA_iff.mpr fun u hu => by
              simp only [List.mem_cons, List.not_mem_nil, or_false] at hu
              rcases hu with rfl | rfl | rfl
              · exact bd_word z1
              · exact bd_word z2
              · exact bd_numD z3⟩
          have M23 := M2.trans M3
          cases en : numP n1 with
          | none =>
            refine ⟨_, rfl, ?_⟩
            refine ite2 (fun h => ?_) (fun h => ?_)
            · have z : cableD (.tuple [.str s1, .str e1, numD none]) = false := by simp [cableD, isCnt, numD]
              rw [z] at h
              cases h
            · exact none0 (by simp [rowP, en]) H3 M23
          | some v =>
            rw [en] at et
            refine ⟨_, rfl, ?_⟩
            refine ite2 (fun h => ?_) (fun h => ?_)
            · have er : rowP ["cable", s1, e1, n1] = some (.inl (s1, e1, v)) := by
                have h' : cableD (.tuple [.str s1, .str e1, .int v]) = true := h
                simp [rowP, en, h']
              have d3 := M23 _ _ hd
              have q3 := M23 _ _ hq
              have x3 := M23 _ _ hx
              refine ⟨_, rfl, _, rfl, x, _, 1, _, rfl, rfl, SqL.of x3, at1, _, rfl, x, _, 2, _, rfl, rfl, SqL.of x3, at2, by show 2 ≤ sizeLine; decide, fun u hu' => ⟨_, rfl, ?_⟩⟩
              have d4 := s3u (o := .tup [.str s1, .str e1]) hu' d3
              refine ⟨d, .ref u, .ref t, valV lD (pK (s1, e1)), rfl, DGet.t (k := pK (s1, e1)) d4 upd_same, fun hs => k0 (by rw [er]; exact hs) _ (same_new M23 hu'), fun hn => ?_⟩
              have hn : valV lD (pK (s1, e1)) = none := by
                cases e : valV lD (pK (s1, e1)) with
                | none => rfl
                | some _ => rw [e] at hn; cases hn
              refine ⟨_, DPut.t (k := pK (s1, e1)) d4 upd_same (Nat.lt_of_le_of_lt zD (by rw [sizeLine_eq]; decide)), ?_⟩
              rw [putK_new _ hn]
              have ntd : t ≠ d := ne_at (M3 _ _ et) d3 (fun z => by cases z)
              refine k1 (s1, e1, v) er hn t _ upd_same (by rw [upd_ne ndq.symm]; exact s3u hu' q3) (by rw [upd_ne ntd]; exact s3u hu' (M3 _ _ et)) ?_
              exact (w2_more (same_new M23 hu')).trans (w2_but (.inl rfl) fun a o n e => by rw [upd_ne n]; exact e)
            · have h' : ¬ cableD (.tuple [.str s1, .str e1, .int v]) = true := h
              exact none0 (by simp [rowP, en, h']) H3 M23
      · have h4 : wr.length ≠ 3 := fun z => h4 (by rw [z]; rfl)
        refine ⟨_, rfl, x, _, 0, .str "cable", rfl, rfl, SqL.of hx, at0, rfl, _, rfl, ?_⟩
        rw [eqS]
        refine ite2 (fun h => (nocar (of_decide_eq_true h)).elim) (fun _ => ?_)
        exact none0 (notcable (fun _ => h4) (fun z => (nocar z).elim)) H (Same.refl H)
    have hc : w0 ≠ "cable" := fun z => hc (decide_eq_true z)
    refine ⟨_, rfl, x, _, 0, .str w0, rfl, rfl, SqL.of hx, at0, rfl, _, rfl, ?_⟩
    rw [eqS]
    refine ite2 (fun hr => ?_) (fun hr => ?_)
    · have hr : w0 = "car" := of_decide_eq_true hr
      subst hr
      refine ⟨_, rfl, x, _, rfl, .inl (SqL.of hx), rfl, _, rfl, ?_⟩
      rw [tl]
      refine ite2 (fun h5 => ?_) (fun h5 => ?_)
      · have h5 : wr.length = 4 := by
          have := of_decide_eq_true h5
          injection this with this
          omega
        match wr, h5 with
        | [s1, e1, r1, n1], _ =>
          have z1 := wl s1 (by simp)
          have z2 := wl e1 (by simp)
          have z3 := wl r1 (by simp)
          have z4 := wl n1 (by simp)
          refine ⟨_, rfl, x, _, 1, _, rfl, rfl, SqL.of hx, at1, _, rfl, x, _, 2, _, rfl, rfl, SqL.of hx, at2, _, rfl, x, _, 3, _, rfl, rfl, SqL.of hx, at3, r1, rfl, z3, fun H0 M0 => ⟨_, rfl, x, _, 4, _, rfl, rfl, SqL.of (M0 _ _ hx), atI_nat (j := 4) rfl, n1, rfl, z4, fun H1 M1 => ⟨by show 4 ≤ sizeLine; decide, fun t ht => ?_⟩⟩⟩
          have M2 := same_new (o := .tup [.str s1, .str e1, numV (numP r1), numV (numP n1)]) (M0.trans M1) ht
          have et : upd H1 t (.tup [.str s1, .str e1, numV (numP r1), numV (numP n1)]) t = some (.tup [.str s1, .str e1, numV (numP r1), numV (numP n1)]) := upd_same
          generalize upd H1 t (.tup [.str s1, .str e1, numV (numP r1), numV (numP n1)]) = H2 at M2 et ⊢
          refine ⟨_, rfl, .ref t, .tuple [.str s1, .str e1, numD (numP r1), numD (numP n1)], rfl, .tup (SqT.of et) (.cons (.str _) (.cons (.str _) (.cons (dat_num _) (.cons (dat_num _) .nil)))), ?_, fun H3 M3 => ?_⟩
          · simp only [Bd]
            exact ⟨by show 4 ≤ 1000; decide, bdA_iff.mpr fun u hu => by
              simp only [List.mem_cons, List.not_mem_nil, or_false] at hu
              rcases hu with rfl | rfl | rfl | rfl
              · exact bd_word z1
              · exact bd_word z2
              · exact bd_numD z3
              · exact bd_numD z4⟩
          have M23 := M2.trans M3
          have fin : ∀ (o p : Option Int), numP r1 = o → numP n1 = p → (o = none ∨ p = none) → carT (.tuple [.str s1, .str e1, numD o, numD p]) = false ∧ rowP ["car", s1, e1, r1, n1] = none := fun o p eo ep h => by
            refine ⟨?_, ?_⟩
            · rcases h with rfl | rfl
              · simp [carT, numD, isPos]
              · simp [carT, numD, isCnt]
            · simp only [rowP, eo, ep]
              rcases h with rfl | rfl
              · simp
              · cases o <;> simp
          by_cases hbad : numP r1 = none ∨ numP n1 = none
          · obtain ⟨f1, f2⟩ := fin _ _ rfl rfl hbad
            refine ⟨_, rfl, ?_⟩
            refine ite2 (fun h => ?_) (fun h => ?_)
            · rw [f1] at h
              cases h
            · exact none0 f2 H3 M23
          · obtain ⟨u1, eu⟩ : ∃ u, numP r1 = some u := by
              cases e : numP r1 with
              | none => exact (hbad (.inl e)).elim
              | some u => exact ⟨u, rfl⟩
            obtain ⟨v, en⟩ : ∃ u, numP n1 = some u := by
              cases e : numP n1 with
              | none => exact (hbad (.inr e)).elim
              | some u => exact ⟨u, rfl⟩
            rw [eu, en] at et
            refine ⟨_, rfl, ?_⟩
            rw [eu, en]
            refine ite2 (fun h => ?_) (fun h => ?_)
            · have er : rowP ["car", s1, e1, r1, n1] = some (.inr (s1, e1, u1, v)) := by
                have h' : carT (.tuple [.str s1, .str e1, .int u1, .int v]) = true := h
                simp [rowP, eu, en, h']
              have d3 := M23 _ _ hd
              have q3 := M23 _ _ hq
              have x3 := M23 _ _ hx
              refine ⟨_, rfl, _, rfl, x, _, 1, _, rfl, rfl, SqL.of x3, at1, _, rfl, ?_⟩
              refine ⟨q, .str s1, .ref t, valV l (Sum.inr s1 : Key), rfl, DGet.k (k := Sum.inr s1) q3, fun hs => k0 (by rw [er]; exact hs) _ M23, fun hn => ?_⟩
              have hn : valV l (Sum.inr s1 : Key) = none := by
                cases e : valV l (Sum.inr s1 : Key) with
                | none => rfl
                | some _ => rw [e] at hn; cases hn
              refine ⟨_, DPut.k (k := Sum.inr s1) q3 (Nat.lt_of_le_of_lt zl (by rw [sizeLine_eq]; decide)), ?_⟩
              rw [putK_new _ hn]
              have ntq : t ≠ q := ne_at (M3 _ _ et) q3 (fun z => by cases z)
              refine k2 (s1, e1, u1, v) er hn t _ upd_same (by rw [upd_ne ndq]; exact d3) (by rw [upd_ne ntq]; exact M3 _ _ et) ?_
              exact (w2_more M23).trans (w2_but (.inr rfl) fun a o n e => by rw [upd_ne n]; exact e)
            · have h' : ¬ carT (.tuple [.str s1, .str e1, .int u1, .int v]) = true := h
              exact none0 (by simp [rowP, eu, en, h']) H3 M23
      · have h5 : wr.length ≠ 4 := fun z => h5 (by rw [z]; rfl)
        exact none0 (notcable (fun z => (hc z).elim) (fun _ => h5)) H (Same.refl H)
    · have hr : w0 ≠ "car" := fun z => hr (decide_eq_true z)
      exact none0 (notcable (fun z => (hc z).elim) (fun z => (hr z).elim)) H (Same.refl H)
end
end Y

/-! NsX: own exceptions as values: made, their fields read, asked by isinstance; a try whose second clause takes what is raised. -/
namespace Ns
open PySem PySem.Spec PyProof.Rows L2

/-- an exception of the class at C stands at a, its own dict (if it has one) holds fs -/
def ExAt (H : Hp) (a C : Addr) (fs : List (Str × V)) : Prop := (fs = [] ∧ H a = some (exo a C none)) ∨ ∃ d, H a = some (exo a C (some d)) ∧ H d = some (exd d fs)
theorem ExAt.more {H H' : Hp} {a C : Addr} {fs : List (Str × V)} (h : ExAt H a C fs) (m : Same H H') : ExAt H' a C fs :=
  h.imp (fun z => ⟨z.1, m _ _ z.2⟩) fun ⟨d, z1, z2⟩ => ⟨d, m _ _ z1, m _ _ z2⟩
/-- C(e, ..) as a value -/
def tOexV (C : Addr) (sp : Sp) (ta : TA) : TE := fun σ H Q => ta σ H fun as H1 => as.length ≤ 1000 ∧ ∀ a, H1 a = none → sp (.ref a :: as) (upd H1 a (exo a C none)) (fun v H2 => v = .non ∧ Q (.ref a) H2) E0
section
variable {X : Cx} {e : Expr} {es : List Expr} {ta : TA} {te : TE} {x : Str} {p pos : Pos}
theorem pe_oexV {C fI : Addr} {k : Nat} {fd : FuncData} {ps : List Str} {sp : Sp} (T : OexC X.K C) (iC : PySem.W.findIn X.K (.ref C) "__init__" = some (some (.ref fI))) (tI : PySem.W.typeIn X.K (.ref fI) = some (.type "function"))
    (F1 : FnOk X.prog X.w X.K X.mg X.base CX0 k fI fd ps sp) (hr : Room (k + 1) X.A) (hb : Binds X.K fd ps []) (hg : Gl X x) (hm : X.mg x = some (.ref C)) (ha : PA X (e :: es) ta)
    (hdb : (x == ("__debug__" : Str)) = false := by decide) (he : starEach (e :: es) X.env = (false, eval e X.env) :: starEach es X.env := by rfl) (hpl : (backTo pos (starEach es X.env)).any (·.1) = false := by rfl) :
    PE X (.Call (.Name x p) (e :: es) [] pos) (tOexV C sp ta) := by
  refine ⟨fun pins s σ H Q I h => wpAny_Call_Name_kw (ld_glob I hg hm (PySem.W.callWith_K (h₀ := X.base) I.ok.mod.kin T.kC (thn (ha.run pos pins s σ H _ I h) fun us s1 hq => ?_) he hpl) hdb)⟩
  obtain ⟨as, H1, I1, r1, hz, q1⟩ := hq
  refine ⟨I1.kIn, ?_⟩
  obtain ⟨nm, q, N, bs, bm, sn, sub, ab, col, dd, k0, k1, k2, k3, k5, hC, hbm⟩ := T.cls
  obtain ⟨hp, g, dr, tk, os⟩ := s1
  have h9 := q1 (hp.objs.size + 1) (I1.hok.fresh (Nat.le_succ _))
  have old : ∀ b o, hp.get? b = some o → ((hp.push (PySem.W.kdv_tup us)).push (PySem.HandSPX.excO C hp.objs.size)).get? b = some o := fun b o z => Heap.get?_push_of_some _ (Heap.get?_push_of_some _ z)
  have new : ((hp.push (PySem.W.kdv_tup us)).push (PySem.HandSPX.excO C hp.objs.size)).get? (hp.objs.size + 1) = some (PySem.HandSPX.excO C hp.objs.size) := by heap_get
  have J := I1.laid (t' := tk) (a := hp.objs.size + 1) (o := exo (hp.objs.size + 1) C none) old (Nat.le_succ _) (exo_ok new)
  have rr : Vals (V.ref (hp.objs.size + 1) :: as) (Value.ref (hp.objs.size + 1) :: us) := .cons rfl r1
  have ll : (Value.ref (hp.objs.size + 1) :: us).length = ps.length := rr.length.symm.trans (F1.len _ _ _ _ h9)
  have bb := hb ⟨(hp.push (PySem.W.kdv_tup us)).push (PySem.HandSPX.excO C hp.objs.size), g, dr, tk, os⟩ (Value.ref (hp.objs.size + 1) :: us) J.kIn (by rw [List.append_nil]; exact ll)
  rw [List.append_nil] at bb
  have us9 : us.length ≤ sizeLine := by
    rw [← Paired.length r1, sizeLine_eq]
    omega
  have run := F1.run (X.A.under (.builtin "type.__call__" ⟨.ref C :: us, []⟩)) X.stack _ _ ⟨Value.ref (hp.objs.size + 1) :: us, []⟩ _ _ _ E0 (hr.make C us []) (J.env0.make C us []) bb rr h9
  refine wpAny_call (PySem.HandSPX.call_own F.excBase_ValueError (fun Y => PySem.HandSPX.refsVE_contains Y bm hbm) (I1.kIn _ _ hC) (PySem.W.looks_findIn I1.kIn iC) (fun self => PySem.W.bind_fn I1.kIn self tI) us9 (codeAny_mono run fun r s' hs => ?_))
  match r, hs with
  | .error _, hs => exact (show False from hs).elim
  | .ok .next, hs => exact (show False from hs).elim
  | .ok .brk, hs => exact (show False from hs).elim
  | .ok .cont, hs => exact (show False from hs).elim
  | .ok (.ret u), hs =>
    obtain ⟨v, H2, J2, rv, ev, q2⟩ := J.after hs
    rw [ev] at rv
    exact ⟨rv, ⟨.ref (hp.objs.size + 1), H2, J2, rfl, q2⟩⟩
/-- C(), without an __init__ of its own -/
theorem pe_oex0 {C : Addr} {bmB : List Value} {B newId initId : String} (F : ExcBaseFacts B newId initId bmB) (q : PySem.W.excIn X.K C bmB newId = true) (kC : PySem.W.keepIn X.K (.ref C) = true) (hg : Gl X x) (hm : X.mg x = some (.ref C))
    (hdb : (x == ("__debug__" : Str)) = false := by decide) : PE X (.Call (.Name x p) [] [] pos) (fun _ H Q => ∀ a, H a = none → Q (.ref a) (upd H a (exo a C none))) := by
  refine ⟨fun pins s σ H Q I h => wpAny_Call_Name_kw (ld_glob I hg hm (PySem.W.callWith_K0 I.kIn kC ?_) hdb)⟩
  obtain ⟨bm, N, nm, qn, bs, hdct, sn, sub, ab, col, dd, k0, k1, k2, k3, k5, mN, hC, hN, hni, T⟩ := exc_obj I.kIn q
  refine wpAny_call_exc_subT (rest := []) F T hC hN hni (fun h' a hm => ?_) (Nat.zero_le _)
  have hn : H a = none := I.hok.gone hm.new
  obtain ⟨t, ht, _⟩ := hm.there
  exact ⟨.ref a, upd H a (exo a C none), I.laidN hm.keeps hm.new hn (exo_ok ht), rfl, h a hn⟩
/-- e.f of an exception -/
def tExF (K : PySem.W.Frag) (f : Str) (te : TE) : TE := fun σ H Q => te σ H fun x H1 => ∃ a C fs v, x = .ref a ∧ ExAt H1 a C fs ∧ XfC K C ∧ PySem.W.findIn K (.ref C) f = some none ∧ fs.lookup f = some v ∧ Q v H1
theorem pe_exF {f : Str} (he : PE X e te) (hb : attributeBase e f X.env (eval e X.env) = eval e X.env := by rfl) : PE X (.Attribute e f pos) (tExF X.K f te) := by
  refine ⟨fun pins s σ H Q I h => attr_of hb (thn (he.run pins s σ H _ I h) fun u s1 hh => ?_)⟩
  obtain ⟨x, H1, I1, rx, a, C, fs, v, rfl, hA, T, hno, hl, q⟩ := hh
  cases (show u = Value.ref a from rx)
  rcases hA with ⟨rfl, _⟩ | ⟨d, ea, ed⟩
  · cases hl
  · obtain ⟨t1, ho⟩ := exo_at I1.hok ea
    obtain ⟨mA, hns, hr⟩ := exd_at I1.hok ed
    obtain ⟨od, hod, look⟩ := lookIn_ns hns
    have rv := hr f
    rw [hl] at rv
    obtain ⟨u, hu, ru⟩ := RelO.some_of rv
    have J : PySem.W.InstAt s1.heap a _ C (some od) := ⟨ho, rfl, rfl, hod⟩
    exact HandSPX.exc_get I1.kIn J T.ga T.gg T.exC (PySem.W.findObj_own T.hdC hno rfl (by rw [look, hu])) (handed_of ru) ⟨v, H1, I1.tok _, ru, q⟩
end
end Ns

/-! NsY: isinstance of an exception that is held as a value. -/
namespace Ns
open PySem PySem.Spec PySem.Calls PyProof.Rows PySem.W
section
variable {prog : Program} {w : World} {A : Around} {E : Value → Shared → Prop} {s : Shared} {K : Frag} {x D : Addr} {ox : Obj} {od : Option Obj}
theorem find_class {C : Addr} {a g : Value} {name : Str} (hc : (clsIn K C).isSome = true) (h1 : findIn K (.ref C) name = some (some a)) (h2 : specialIn K a "__get__" = some (some g)) (h3 : takesIn K a = some true) : findObj K C od name = some (.bind g a) := by
  cases od with
  | none => exact findObj_dataN hc h1 h2 h3
  | some o => exact findObj_data hc h1 h2 h3
/-- x.__class__ of an exception, with or without a dict of its own -/
theorem class_of {Q : Option Value → Shared → Prop} (c : L2.ExcC K D) (kin : K.In s.heap) (J : InstAt s.heap x ox D od) (hq : Q (some (.ref D)) { s with toks := s.toks + 1 }) : wpAny (model prog w) A (getAttr? (.ref x) "__class__") Q E s := by
  have has : (clsIn K D).isSome = true := by
    obtain ⟨cd, e, _⟩ := any_some c.hd
    rw [e]
    rfl
  have fd : findObj K D od "__class__" = some (.bind (.builtin "getset_descriptor.__get__") (.builtin "object.__class__")) := find_class has c.ha c.hn c.ht
  obtain ⟨hp, g, dr, tk, os⟩ := s
  have ty := J.type (M := model prog w)
  have lk := looks_find (M := model prog w) kin J fd
  have ga := looks_findIn (M := model prog w) kin c.hg
  have gt := looks_findIn (M := model prog w) kin c.hk
  have is : Looks (model prog w) hp (isInstance (.ref x) (.type "BaseException")) true := ty.andThen (looks_subIn kin c.hs)
  have b1 : (false && onTheHeap (Value.builtin "BaseException.__getattribute__")) = false := rfl
  have b3 : (Value.builtin "BaseException.__getattribute__" == Value.builtin "object.__getattribute__") = false := by decide +kernel
  have b2 : (onTheHeap (Value.ref D) && Value.builtin "BaseException.__getattribute__" == Value.builtin "object.__getattribute__") = false := (congrArg (onTheHeap (Value.ref D) && ·) b3).trans rfl
  unfold getAttr? getAttrBy? getAttrBy
  refine wpAny_bind (wpAny_mkText (wpAny_bind (wpAny_attempt (wpAny_holding (wpAny_bind (ty.at (wpAny_bind (ga.at ?_))))))))
  show wpAny _ _ (if (onTheHeap (Value.ref D) && Value.builtin "BaseException.__getattribute__" == Value.builtin "object.__getattribute__") = true then _ else _) _ _ ⟨hp, g, dr, tk + 1, os⟩
  rw [if_neg (show ¬ (onTheHeap (Value.ref D) && Value.builtin "BaseException.__getattribute__" == Value.builtin "object.__getattribute__") = true from fun z => by rw [b2] at z; exact Bool.noConfusion z)]
  unfold getAttrByItsOwn hookBefore
  refine wpAny_bind ((if_pos (show onTheHeap (Value.ref D) = true from rfl)).symm ▸ gt.at (wpAny_bind (wpAny_attempt (wpAny_holding ?_))))
  unfold callGetattribute
  rw [if_neg (show ¬ (false && onTheHeap (Value.builtin "BaseException.__getattribute__")) = true from fun z => by rw [b1] at z; exact Bool.noConfusion z)]
  unfold boundAndCalled
  rw [PySem.F.excAttr_ValueError.ga.bind (.ref x)]
  refine wpAny_bind (wpAny_pure (wpAny_call (codeAny_call_builtin PySem.F.excAttr_ValueError.ga.plain PySem.F.entry_bexc_ga
    (@check_slot (model prog w) _ _ ⟨hp, g, dr, tk + 1, os⟩ "BaseException.__getattribute__" "BaseException" "__getattribute__" (.ref x) [.str "__class__" tk] [] _ (by decide +kernel) (by decide +kernel) is (PySem.F.args_bexc_ga (.ref x) (.str "__class__" tk)) ?_))))
  unfold Builtin.«object.__getattribute__»
  refine wpAny_bind (wpAny_of_eq (a := ((Value.ref x : Value), [Value.str "__class__" tk])) (by first | rfl | (simp only [slotArgs]; rfl)) (wpAny_bind (wpAny_pure (wpAny_bind (ty.at (wpAny_bind (lk.at ?_)))))))
  show wpAny _ _ (holding [Value.builtin "object.__class__"] (call (.builtin "getset_descriptor.__get__") [.builtin "object.__class__", .ref x, .ref D]) >>= ret) _ _ ⟨hp, g, dr, tk + 1, os⟩
  refine wpAny_bind (wpAny_holding (wpAny_call (class_get (s := ⟨hp, g, dr, tk + 1, os⟩) (ox := ox) (od := od) kin J c.hm (wpAny_pure ?_))))
  show wpAny _ _ (handedOut (.ref D)) _ _ ⟨hp, g, dr, tk + 1, os⟩
  rw [handedOut_of (v := .ref D) rfl]
  first
    | exact wpAny_pure (wpAny_pure hq)
    | exact wpAny_pure hq
    | exact wpAny_pure (wpAny_bind (wpAny_pure (wpAny_pure hq)))
/-- the class's own object -/
theorem cls_obj (hd : hasDictIn K D = true) : ∃ o cd, K.lookup D = some o ∧ o.data = .cls cd := by
  obtain ⟨cd, e, _⟩ := any_some hd
  unfold clsIn at e
  split at e
  · rename_i c' d' k' s' q
    exact ⟨_, k', q, rfl⟩
  · exact nomatch e
theorem kx_exc (c : L2.ExcC K D) : KitX K (.ref x) (.ref D) (fun h => InstAt h x ox D od) where
  ty _ _ _ J := J.type
  it M h kin _ := by
    obtain ⟨o, cd, q, dq⟩ := cls_obj c.hd
    intro A' Q' E' s' k hq
    unfold isType loadHead
    refine wpAny_bind (wpAny_loadPart (k D o (kin D o q)) (wpAny_pure ?_))
    rw [dq]
    exact hq
  ne h tp dd its n sl kin z := by
    cases e : (Value.ref D == .ref tp) with
    | false => rfl
    | true =>
      obtain ⟨o, cd, q, dq⟩ := cls_obj c.hd
      have e' : D = tp := Value.ref.inj (beq_iff_eq.mp e)
      have y := kin D o q
      rw [e', z] at y
      cases y
      cases dq
  ca kin J q := class_of c kin J q
end
end Ns
namespace Ns
open PySem PySem.Spec PyProof.Rows L2
/-- isinstance(e, c), e an exception that is held -/
def rIsX (K : PySem.W.Frag) : List V → Hp → VK → Prop := fun xs H Q => ∃ (a C : Addr) (fs : List (Str × V)) (c : V) (cv : Value) (b : Bool), xs = [.ref a, c] ∧ ExAt H a C fs ∧ ExcC K C ∧ ClsV c cv ∧ PySem.W.kitOne K (.ref C) cv = some b ∧ Q (.bl b) H
theorem call_isX {X : Cx} : CallR X (.builtin "isinstance") (rIsX X.K) := by
  intro pins s σ H xs us Q I r h
  obtain ⟨a, C, fs, c, cv, b, rfl, hA, T, k, e, q⟩ := h
  obtain ⟨u1, u2, rfl, r1, r2⟩ := vals2 r
  cases (show u1 = Value.ref a from r1)
  have e2 := k.eq r2
  rw [e2]
  obtain ⟨ox, od, J⟩ : ∃ ox od, PySem.W.InstAt s.heap a ox C od := by
    rcases hA with ⟨_, ea⟩ | ⟨d, ea, ed⟩
    · obtain ⟨t1, ho⟩ := exo_at I.hok ea
      exact ⟨_, none, ho, rfl, rfl, trivial⟩
    · obtain ⟨t1, ho⟩ := exo_at I.hok ea
      obtain ⟨mA, ⟨od, es, ep, hod, rr⟩, _⟩ := exd_at I.hok ed
      exact ⟨_, some od, ho, rfl, rfl, hod⟩
  exact PySem.W.kia_one (kx_exc T) I.kIn J e (fun z => nomatch z) fun tk => ⟨.bl b, H, I.kept (t' := tk) fun _ _ z => z, rfl, q⟩
end Ns

/-! NsT: try .. except A: .. except B as e: suite, where what is raised is taken by B. -/
namespace Ns
open PySem PySem.Spec PyProof.Rows L2
def wTwo (K : PySem.W.Frag) (c1 c2 : Value) (i : Nat) (ts : Addr → Value → Option Addr → TS) (D : Ends) : WX := fun cls d σ H => PySem.W.exmOne K cls c1 = some false ∧ PySem.W.exmOne K cls c2 = some true ∧
  ∀ a, H a = none → ts a cls d { nx := fun σ' H' => D.nx (σ'.set i none) H', rt := D.rt, bk := fun σ' H' => D.bk (σ'.set i none) H', ct := fun σ' H' => D.ct (σ'.set i none) H' } (σ.set i (some (.ref a))) H
section
variable {X : Cx} {x1 x2 n : Str} {c1 c2 : Value} {i : Nat} {body suite1 suite : List Stmt} {b1 b2 : Stmt} {p1 p2 p3 p4 pos : Pos} {tb : WX → TS} {ts : Addr → Value → Option Addr → TS}
theorem ps_try_two (hs : X.stack = X.env :: X.outer) (hf : X.env.frame = some X.env.locals) (hN : X.N.Nodup) (hi : X.N[i]? = some n) (hln : X.env.kindOf n = some .local) (hc1 : Names X x1 c1) (hc2 : Names X x2 c2)
    (hb : ∀ (W : WX) (pn : List (Addr × Obj)) (xe : Value → Shared → Prop), Takes (X.tr pn xe) W → PassesOwn (model X.prog X.w) X.A X.env xe → PSs (X.tr pn xe) body (tb W))
    (hsu : ∀ (a : Addr) (oe : Obj) (cls : Value) (d : Option Addr) (pn : List (Addr × Obj)), Zc cls d oe → (∃ vs, oe.data = .fields vs) → PSs (X.suite a ((a, oe) :: pn)) (b2 :: suite) (ts a cls d)) :
    PS X (.Try body [.ExceptHandler (some (.Name x1 p1)) none (b1 :: suite1) p2, .ExceptHandler (some (.Name x2 p3)) (some n) (b2 :: suite) p4] [] [] pos) (fun D σ H => tb (wTwo X.K c1 c2 i ts D) D σ H) := by
  refine ⟨fun pins s σ H D I h => wpAny_Try_except ?_⟩
  have fr : X.A.frames = some (X.env :: X.outer) := hs ▸ I.ok.frames
  have R := hb (wTwo X.K c1 c2 i ts D) (X.pn ++ pins) (fun e s₁ => wpAny (model X.prog X.w) X.A (noteFrame e X.env) (fun _ s₂ => wpAny (model X.prog X.w) X.A (setFlight e none) (fun _ s₃ => wpAny (model X.prog X.w) X.A
    (handleBy e X.env [.ExceptHandler (some (.Name x1 p1)) none (b1 :: suite1) p2, .ExceptHandler (some (.Name x2 p3)) (some n) (b2 :: suite) p4]) (SP X pins D) X.xe s₃) X.xe s₂) X.xe s₁) ?_ PassesOwn.looking
  · refine wpAny_mono (R.run [] s σ H D (I.toTry _) h) (fun f s1 q => ?_) fun e s1 q => q
    match f, q with
    | .next, ⟨σ', H', J, q⟩ => exact wpAny_execs_nil ⟨σ', H', J.ofTry I.ok, q⟩
    | .brk, ⟨σ', H', J, q⟩ => exact ⟨σ', H', J.ofTry I.ok, q⟩
    | .cont, ⟨σ', H', J, q⟩ => exact ⟨σ', H', J.ofTry I.ok, q⟩
    | .ret u, ⟨v, σ', H', J, r, q⟩ => exact ⟨v, σ', H', J.ofTry I.ok, r, q⟩
  · rintro u s' ⟨a, B, sI, pins', σ', H', cls, d, rfl, J', nb, up, sky, na, os, ag, w1, w2, w3⟩
    have J : Inv X pins σ' H' sI := J'.ofTry I.ok
    show wpAny (model X.prog X.w) X.A (noteFrame (.ref a) X.env) _ _ s'
    refine Sky.land Zc.steady fr hf (show Sky B (X.env :: X.outer) a (Zc cls d) X.env.locals s'.heap from hs ▸ sky) fun h3 fl up3 => ?_
    obtain ⟨oe, vs, he, hz, hd⟩ := fl.there
    have out : a ∉ frs (X.env :: X.outer) := fun hm => by
      obtain ⟨_, o2, e2, nf⟩ := fl.2.2.1.mem hm
      cases he.symm.trans e2
      exact nf _ hd
    have nl : a ≠ X.env.locals := fun z => out (List.mem_filterMap.mpr ⟨X.env, .head _, by rw [hf, z]⟩)
    have nf : a ∉ X.fs := fun hm => by
      obtain ⟨ev, h1, h2⟩ := List.mem_filterMap.mp hm
      exact out (List.mem_filterMap.mpr ⟨ev, .tail _ h1, h2⟩)
    have J3 : Inv X pins σ' H' { s' with heap := h3 } := J.landed nb fl.1 (up.trans up3) os ag
    have S3 := J3.suite he hd na nl nf
    have ty : PySem.W.Looks (model X.prog X.w) h3 (typeOf (.ref a)) cls := fun A Q E s k q => wpAny_typeOf_ref (k a oe he) (by rw [hz.1]; exact q)
    have ask : ∀ {x : Str} {c : Value} {np : Pos}, Names X x c → ∀ {Q : Value → Shared → Prop} {E : Value → Shared → Prop}, Q c { s' with heap := h3 } → wpAny (model X.prog X.w) (X.A.mark (some (.ref a))) (eval (.Name x np) X.env) Q E { s' with heap := h3 } := by
      rintro x c np ⟨hg, db, hm | ⟨hm, hv, nn⟩⟩ Q E q
      · exact ld_glob (X := X.suite a ((a, oe) :: (X.pn ++ pins))) S3 hg hm q db
      · exact ld_blt (X := X.suite a ((a, oe) :: (X.pn ++ pins))) S3 hg hm hv q nn db
    -- the first clause declines
    refine wpAny_handleBy_cons (codeAny_handlers_test (ask hc1 ((PySem.W.exm_one (M := model X.prog X.w) J3.kIn ty w1).here ?_))) (fun z => nomatch z)
    show wpAny _ X.A (handleBy (.ref a) X.env [.ExceptHandler (some (.Name x2 p3)) (some n) (b2 :: suite) p4]) _ _ { s' with heap := h3 }
    -- the second one takes it
    refine wpAny_handleBy_cons (codeAny_handlers_test (ask hc2 ((PySem.W.exm_one (M := model X.prog X.w) J3.kIn ty w2).here (codeAny_handlers_suite_as (HandSPX.lands_againZ fl fun h4 fl4 up4 => ?_))))) (fun z => nomatch z)
    obtain ⟨oe4, vs4, he4, hz4, hd4⟩ := fl4.there
    have J4 : Inv X pins σ' H' { s' with heap := h4 } := J.landed nb fl4.1 ((up.trans up3).trans up4) os ag
    have S4 := J4.suite he4 hd4 na nl nf
    refine store_ok (X := X.suite a ((a, oe4) :: (X.pn ++ pins))) (v := .ref a) S4 hN hi (.inl hln) rfl (fun s5 S5 => ?_) (.inr hln)
    refine wpAny_mono ((hsu a oe4 cls d (X.pn ++ pins) hz4 ⟨_, hd4⟩).run [] s5 _ H' _ S5 (w3 a na)) (fun f s6 q => ?_) fun _ _ z => (show False from z).elim
    match f, q with
    | .next, ⟨σ6, H6, S6, q6⟩ => exact gone_ok (S6.unsuite I.ok) hN hi hln fun s7 J7 => ⟨_, _, J7, q6⟩
    | .brk, ⟨σ6, H6, S6, q6⟩ => exact gone_ok (S6.unsuite I.ok) hN hi hln fun s7 J7 => ⟨_, _, J7, q6⟩
    | .cont, ⟨σ6, H6, S6, q6⟩ => exact gone_ok (S6.unsuite I.ok) hN hi hln fun s7 J7 => ⟨_, _, J7, q6⟩
    | .ret u, ⟨v6, σ6, H6, S6, r6, q6⟩ => exact gone_ok (S6.unsuite I.ok) hN hi hln fun s7 J7 => ⟨_, _, _, J7, r6, q6⟩
end
end Ns

/-! OXw: errors' classes, as in OX. -/
namespace Y
open PySem PySem.Spec PyProof.Rows L2 Ns
/-- a class of the program's errors with an __init__ of its own -/
structure ErI (K : PySem.W.Frag) (mg : Str → Option Value) (name qual : Str) (st : Stmt) (ps : List Str) (C fI : Addr) (fd : FuncData) : Prop where
  oex : OexC K C
  xf : XfC K C
  g : mg name = some (.ref C)
  iC : PySem.W.findIn K (.ref C) "__init__" = some (some (.ref fI))
  tI : PySem.W.typeIn K (.ref fI) = some (.type "function")
  F : Fun K "__init__" qual st fI fd
  b : Binds K fd ps []
def spI (C : Addr) (f : Str) : Sp := fun as H Q _ => ∃ (a : Addr) (y : V), as = [.ref a, y] ∧ H a = some (exo a C none) ∧ ∀ dx, H dx = none → dx ≠ a → Q .non (upd (upd H dx (exd dx [(f, y)])) a (exo a C (some dx)))
def spI2 (C : Addr) (f g : Str) : Sp := fun as H Q _ => ∃ (a : Addr) (y z : V), as = [.ref a, y, z] ∧ H a = some (exo a C none) ∧ ∀ dx, H dx = none → dx ≠ a → Q .non (upd (upd (upd H dx (exd dx [(f, y)])) a (exo a C (some dx))) dx (exd dx [(g, z), (f, y)]))
theorem lk1 {f : Str} {y : V} {fs : List (Str × V)} : List.lookup f ((f, y) :: fs) = some y := by rw [lookup_put, if_pos rfl]
theorem lk2 {f g : Str} {y : V} {fs : List (Str × V)} (h : ¬ f = g) : List.lookup f ((g, y) :: fs) = List.lookup f fs := by rw [lookup_put, if_neg h]
theorem same_raise {H H' : Hp} {a d : Addr} {u : HO} (ha : H a = none) (hd : H d = none) (h : ∀ c, c ≠ a → c ≠ d → H' c = H c) : Same H (upd (L2.del H' a) d u) := fun c o e => by
  have n1 := ne_of_none e ha
  have n2 := ne_of_none e hd
  rw [upd_ne n2, del_ne n1, h c n1 n2]
  exact e
theorem free2 {H : Hp} {a d : Addr} {u : HO} (h : upd H a u d = none) (n : d ≠ a) : H d = none := (upd_ne n).symm.trans h
theorem put_new {c : Caps} {k : Str × Str} {v : Int} (h : k ∉ c.map (·.1)) : put c k v = c ++ [(k, v)] := by
  unfold put
  rw [if_neg]
  intro z
  obtain ⟨f, hf, e⟩ := List.any_eq_true.mp z
  exact h (List.mem_map.mpr ⟨f, hf, of_decide_eq_true e⟩)
theorem putR_new {rs : List Car} {r : Car} (h : r.1 ∉ rs.map (·.1)) : putR rs r = rs ++ [r] := by
  unfold putR
  rw [if_neg]
  intro z
  obtain ⟨f, hf, e⟩ := List.any_eq_true.mp z
  exact h (List.mem_map.mpr ⟨f, hf, of_decide_eq_true e⟩)
theorem take_new {α β : Type} {f : α → β} {l : List α} (n : (l.map f).Nodup) {i : Nat} {x : α} (h : l[i]? = some x) : f x ∉ (l.take i).map f := by
  intro z
  obtain ⟨y, hy, e⟩ := List.mem_map.mp z
  obtain ⟨j, hj⟩ := List.getElem?_of_mem hy
  rw [List.getElem?_take] at hj
  split at hj
  · rename_i lt
    have a1 : (l.map f)[j]? = some (f y) := by rw [List.getElem?_map, hj]; rfl
    have a2 : (l.map f)[i]? = some (f x) := by rw [List.getElem?_map, h]; rfl
    rw [e] at a1
    have := (List.getElem?_inj (List.getElem?_eq_some_iff.mp a1).1 n).mp (a1.trans a2.symm)
    omega
  · cases hj
end Y

/-! QD: the yard that a text shows, or the first bad line. -/
namespace Y
open PySem PySem.Spec PyProof.Rows L2 Ns
abbrev sWrong : Stmt := inClass (top 2) 0
abbrev sNoText : Stmt := inClass (top 3) 0
/-- the words of a line ahead of a remark -/
def lineW (z : Str) : List Str := wordsP (Txt.partition z "#").1
def lineP (s : List Cab × List Car) (ws : List Str) : Option (List Cab × List Car) := if ws = [] then some s else match rowP ws with
  | none => none
  | some (.inl c) => if ckey c ∈ s.1.map ckey then none else some (s.1 ++ [c], s.2)
  | some (.inr r) => if r.1 ∈ s.2.map (·.1) then none else some (s.1, s.2 ++ [r])
/-- the lines from the i-th on -/
def readP : List (List Str) → Nat → List Cab × List Car → Except Nat (List Cab × List Car)
  | [], _, s => .ok s
  | ws :: r, i, s => match lineP s ws with
    | none => .error i
    | some s' => readP r (i + 1) s'
theorem readP_bad : ∀ {l : List (List Str)} {i j : Nat} {s s' : List Cab × List Car} {ws : List Str}, readP (l.take i) j s = .ok s' → l[i]? = some ws → lineP s' ws = none → readP l j s = .error (j + i)
  | [], _, _, _, _, _, _, h, _ => by simp at h
  | w :: l, 0, j, s, s', ws, h1, h2, h3 => by
    cases h1
    cases h2
    unfold readP
    rw [h3]
    rfl
  | w :: l, i + 1, j, s, s', ws, h1, h2, h3 => by
    rw [List.take_succ_cons] at h1
    unfold readP at h1 ⊢
    cases e : lineP s w with
    | none => rw [e] at h1; cases h1
    | some t =>
      rw [e] at h1
      have := readP_bad (l := l) (i := i) (j := j + 1) h1 h2 h3
      rw [show j + (i + 1) = j + 1 + i by omega]
      exact this
theorem readP_more : ∀ {l : List (List Str)} {i j : Nat} {s s' s2 : List Cab × List Car} {ws : List Str}, readP (l.take i) j s = .ok s' → l[i]? = some ws → lineP s' ws = some s2 → readP (l.take (i + 1)) j s = .ok s2
  | [], _, _, _, _, _, _, _, h, _ => by simp at h
  | w :: l, 0, j, s, s', s2, ws, h1, h2, h3 => by
    cases h1
    cases h2
    show readP [w] j s = _
    unfold readP
    rw [h3]
    rfl
  | w :: l, i + 1, j, s, s', s2, ws, h1, h2, h3 => by
    rw [List.take_succ_cons] at h1 ⊢
    unfold readP at h1 ⊢
    cases e : lineP s w with
    | none => rw [e] at h1; cases h1
    | some t =>
      rw [e] at h1
      exact readP_more (l := l) (i := i) (j := j + 1) h1 h2 h3
/-- the cables' dict: its rows -/
def bK (l : List (List Key × V)) (cs : List Cab) (K : PySem.W.Frag) (H : Hp) : Prop := Paired (fun p c => p.1 = pK (ckey c) ∧ CabV K H p.2 c) l cs
theorem bK.more {K : PySem.W.Frag} {H H' : Hp} (m : Same H H') {l : List (List Key × V)} {cs : List Cab} (h : bK l cs K H) : bK l cs K H' := paired_imp (fun _ _ z => ⟨z.1, z.2.more m⟩) h
theorem bK_is {K : PySem.W.Frag} {H : Hp} {k : Str × Str} : ∀ {l : List (List Key × V)} {cs : List Cab}, bK l cs K H → (valV l (pK k)).isSome = decide (k ∈ cs.map ckey)
  | _, _, .nil => rfl
  | _, _, .cons (a := p) (b := c) h t => by
    have ih := bK_is (k := k) t
    by_cases e : ckey c = k
    · rw [valV_pos (by rw [h.1, e]), List.map_cons, e]
      exact (decide_eq_true List.mem_cons_self).symm
    · rw [valV_neg (fun z => e (pK_inj (h.1.symm.trans z))), ih, List.map_cons, decide_eq_decide]
      exact ⟨fun z => List.mem_cons_of_mem _ z, fun z => (List.mem_cons.mp z).resolve_left (fun y => e y.symm)⟩
theorem bK_get {K : PySem.W.Frag} {H : Hp} {c : Cab} : ∀ {l : List (List Key × V)} {cs : List Cab}, bK l cs K H → (cs.map ckey).Nodup → c ∈ cs → ∃ x, valV l (pK (ckey c)) = some x ∧ CabV K H x c
  | _, _, .nil, _, h => nomatch h
  | _, _, .cons (a := p) (b := q) h t, n, hm => by
    rw [List.map_cons, List.nodup_cons] at n
    rcases List.mem_cons.mp hm with rfl | hm
    · exact ⟨_, valV_pos h.1, h.2⟩
    · obtain ⟨x, e, g⟩ := bK_get t n.2 hm
      refine ⟨x, ?_, g⟩
      rw [valV_neg]
      · exact e
      · intro z
        exact n.1 (pK_inj (h.1.symm.trans z) ▸ List.mem_map.mpr ⟨c, hm, rfl⟩)
theorem bK_keys {K : PySem.W.Frag} {H : Hp} : ∀ {l : List (List Key × V)} {cs : List Cab}, bK l cs K H → l.map (·.1) = (cs.map ckey).map pK
  | _, _, .nil => rfl
  | _, _, .cons h t => by rw [List.map_cons, List.map_cons, List.map_cons, bK_keys t, h.1]
/-- the rows of a yard, sorted -/
structure Srt (cs : List Cab) (rs : List Car) (cs' : List Cab) (rs' : List Car) : Prop where
  srt : cs'.map ckey = (cs.map ckey).mergeSort (PySem.W.dataLe false pD)
  cab : ∀ x ∈ cs', x ∈ cs
  rise : sortedS (rs'.map (·.1)) = true
  perm : rs'.Perm rs
def ReadQ (ls : List (List Str)) : Prop := ls.length ≤ 60 ∧ ∀ ws ∈ ls, ∀ w ∈ ws, w.length ≤ 600
def Bad (cT cW : Addr) (E : XK) (H : Hp) (at' : Nat) : Prop := ∀ (dx : Addr) (H' : Hp), H' dx = some (.xd [("line", .int at')]) → Same H H' → E (.ref cT) (some dx) H'
def spRead (K : PySem.W.Frag) (cT cW : Addr) : Sp := fun as H Q E => ∃ (x : V) (d : PyData), as = [x] ∧ DatV K H x d ∧
  match d with
  | .str z => z.length ≤ 1000000 ∧ ReadQ ((Txt.split z "\n").map lineW) ∧ (match readP ((Txt.split z "\n").map lineW) 0 ([], []) with
    | .ok (cs, rs) => ∀ (y : V) (cs' : List Cab) (rs' : List Car) (H' : Hp), Srt cs rs cs' rs' → YardV K H' y cs' rs' → Same H H' → Q y H'
    | .error i => Bad cT cW E H i)
  | _ => ∀ (dx : Addr) (H' : Hp), H' dx = some (.xd [("place", .int 0)]) → Same H H' → E (.ref cW) (some dx) H'
section
variable {P : Program} {w : World} {K : PySem.W.Frag} {mg : Str → Option Value} {base : Heap}
theorem scWrong : FnScope ["self", "place"] ["self", "place"] (defScope sWrong) := ⟨rfl, rfl, rfl, by decide +kernel, rfl, by decide +kernel, by decide +kernel⟩
theorem init_Wrong {C fI : Addr} {fd : FuncData} (T : ErI K mg "Wrong" "Wrong.__init__" sWrong ["self", "place"] C fI fd) (no : PySem.W.findIn K (.ref C) "place" = some none) : FnOk P w K mg base CX0 1 fI fd ["self", "place"] (spI C "place") := by
  refine T.F.ok scWrong (fun as H Q E h => ?_) (fun cdv A outer s H as Q E hr h => ?_)
  · obtain ⟨a, y, rfl, _⟩ := h
    rfl
  · obtain ⟨a, y, rfl, ha, k⟩ := h
    exact ⟨_, pss_one (ps_ost (pv 0) (pv 1)), _, rfl, _, rfl, a, C, rfl, T.oex, no, .inl ⟨ha, fun dx h1 h2 => k dx h1 h2⟩⟩
theorem scNoText : FnScope ["self", "line"] ["self", "line"] (defScope sNoText) := ⟨rfl, rfl, rfl, by decide +kernel, rfl, by decide +kernel, by decide +kernel⟩
theorem init_NoText {C fI : Addr} {fd : FuncData} (T : ErI K mg "NoText" "NoText.__init__" sNoText ["self", "line"] C fI fd) (no : PySem.W.findIn K (.ref C) "line" = some none) : FnOk P w K mg base CX0 1 fI fd ["self", "line"] (spI C "line") := by
  refine T.F.ok scNoText (fun as H Q E h => ?_) (fun cdv A outer s H as Q E hr h => ?_)
  · obtain ⟨a, y, rfl, _⟩ := h
    rfl
  · obtain ⟨a, y, rfl, ha, k⟩ := h
    exact ⟨_, pss_one (ps_ost (pv 0) (pv 1)), _, rfl, _, rfl, a, C, rfl, T.oex, no, .inl ⟨ha, fun dx h1 h2 => k dx h1 h2⟩⟩
end
end Y

/-! QE: read_yard. -/
namespace Ns
open PySem PySem.Spec PyProof.Rows L2
/-- xs != [], any list -/
def rNeE0 (K : PySem.W.Frag) : R2 := fun x y H Q => ∃ (a b : Addr) (xs : List V), x = .ref a ∧ y = .ref b ∧ SqL K H a xs ∧ SqL K H b [] ∧ Q (.bl (!decide (xs = []))) H
theorem op_neE0 {X : Cx} (hu : X.A.units + 64 < cLine) : OpR X (compareOp .NotEq) (rNeE0 X.K) := by
  intro pins s σ H x y v u Q I rx ry h
  obtain ⟨a, b, xs, rfl, rfl, ha, hb, q⟩ := h
  cases (show v = Value.ref a from rx)
  cases (show u = Value.ref b from ry)
  obtain ⟨us, r1, p1, _⟩ := I.list ha
  obtain ⟨ws, r2, p2, _⟩ := I.list hb
  have z : ws = [] := by cases r2; rfl
  subst z
  have l1 := r1.length
  cases xs with
  | nil =>
    cases us with
    | nil =>
      refine SeqAt.RcNeAt.lists (e := fun _ => true) p1.isList p2.isList rfl (by omega) (fun j h1 _ => absurd h1 (Nat.not_lt_zero j)) _ _ _ _ ?_
      exact ⟨.bl false, H, I, rfl, q⟩
    | cons _ _ => cases l1
  | cons x xs =>
    cases us with
    | nil => cases l1
    | cons u us =>
      refine SeqAt.RcNeAt.lists_lengths p1.isList p2.isList (by simp) (by omega) _ _ _ _ ?_
      exact ⟨.bl true, H, I, rfl, q⟩
end Ns
namespace Y
open PySem PySem.Spec PyProof.Rows L2 Ns
theorem nodup_map {α β : Type} {f : α → β} : ∀ {l : List α}, (l.map f).Nodup → l.Nodup
  | [], _ => List.nodup_nil
  | x :: l, h => by
    rw [List.map_cons, List.nodup_cons] at h
    exact List.nodup_cons.mpr ⟨fun z => h.1 (List.mem_map.mpr ⟨x, z, rfl⟩), nodup_map h.2⟩
theorem kind1 (a : Str) : ¬ PySem.Builtin.Str.strKind a < PySem.Builtin.Str.strKind "#" := by
  have e : PySem.Builtin.Str.strKind ("#" : Str) = 1 := by decide +kernel
  rw [e]
  unfold PySem.Builtin.Str.strKind
  split
  · omega
  · split <;> omega
theorem part_le (a : Str) : (Txt.partition a "#").1.length ≤ a.length := by
  obtain ⟨r, e⟩ := part_head (kind1 a)
  exact split_each (b := "#") (by rw [e]; exact List.mem_cons_self)
section
variable {P : Program} {w : World} {K : PySem.W.Frag} {mg : Str → Option Value} {base : Heap}
theorem scRd : FnScope ["text", "cables", "cars", "at", "line", "words", "ends", "name"] ["text"] (defScope sReadYard) := ⟨rfl, rfl, rfl, by decide +kernel, rfl, by decide +kernel, by decide +kernel⟩
theorem ok_readYard {f fW fT cT cW wT wW : Addr} {fd dW dT eT eW : FuncData} (F : Fun K "read_yard" "read_yard" sReadYard f fd) (T : Nat0 mg) (hE : mg "enumerate" = none)
    (GW : FnOk P w K mg base CX0 1 fW dW ["line"] spWords) (FW : Fun K "words_of" "words_of" sWordsOf fW dW) (mW : mg "words_of" = some (.ref fW)) (bW : Binds K dW ["line"] [])
    (GT : FnOk P w K mg base CX0 4 fT dT ["cables", "cars", "words"] (spTook K)) (FT : Fun K "_took_line" "_took_line" sTookLine fT dT) (mT : mg "_took_line" = some (.ref fT)) (bT : Binds K dT ["cables", "cars", "words"] [])
    (TW : ErI K mg "Wrong" "Wrong.__init__" sWrong ["self", "place"] cW wW eW) (nW : PySem.W.findIn K (.ref cW) "place" = some none)
    (TT : ErI K mg "NoText" "NoText.__init__" sNoText ["self", "line"] cT wT eT) (nT : PySem.W.findIn K (.ref cT) "line" = some none) :
    FnOk P w K mg base (L2.CX P w) 5 f fd ["text"] (spRead K cT cW) := by
  refine F.okX scRd (fun as H Q E h => ?_) (fun cdv A outer s H as Q E hr h => ?_)
  · obtain ⟨x, d, rfl, _⟩ := h
    rfl
  · obtain ⟨x, d, rfl, D, k⟩ := h
    have hu := hu_of hr
    have hr1 : Room 1 _ := hr.mono (by decide)
    have hr2 : Room 2 _ := hr.mono (by decide)
    refine ⟨_, pss_cons (ps_if (pt_not (pt_val (pe_callB (call_isD kit_S) (by rfl) T.isi (by decide +kernel) (pa_cons (pv 0) (pa_cons (pe_bltn (v := .ty "str") (by rfl) T.str (by decide +kernel) rfl) pa_nil))))) (pss_one (ps_raise rfl (takes_of rfl rfl rfl rfl) (pmk_oex TW.oex TW.iC TW.tI (init_Wrong TW nW) hr2 TW.b .nil pass0 rfl TW.g (pa_cons pe_int pa_nil)))) pss_nil)
      (pss_cons (ps_asg (pe_tup (pa_cons pe_dnewT (pa_cons pe_dnewK pa_nil))) (pg_tup (by rfl) (pgs_cons (pg_name (i := 1) scRd.nd rfl (.inr rfl)) (pgs_cons (pg_name (i := 2) scRd.nd rfl (.inr rfl)) pgs_nil))))
      (pss_cons (ps_for (passes_of rfl) rfl (pi_enum (by rfl) hE (pa_cons (pe_split (pv 0) pe_str) pa_nil)) (pg_tup rfl (pgs_cons (pg_name (i := 3) scRd.nd rfl (.inl rfl)) (pgs_cons (pg_name (i := 4) scRd.nd rfl (.inl rfl)) pgs_nil)))
        (pss_cons (ps_set (i := 5) scRd.nd rfl (.inl rfl) (pe_call GW hr1 rfl mW FW.kp bW .nil pass0 (pa_cons (pe_ix ix_tup (pe_partition (pv 4) pe_str) pe_int (fun _ _ => rfl)) pa_nil)))
        (pss_one (ps_if (PW.pt (pw_and (pt_cmpR (op_neE0 hr.units) (pv 5) (pe_lst pa_nil) (nomark _)) (pw_and1 (pt_not (pt_val (pe_call GT hr rfl mT FT.kp bT .nil pass0 (pa_cons (pv 1) (pa_cons (pv 2) (pa_cons (pv 5) pa_nil)))))))))
          (pss_one (ps_raise rfl (takes_of rfl rfl rfl rfl) (pmk_oex TT.oex TT.iC TT.tI (init_NoText TT nT) hr2 TT.b .nil pass0 rfl TT.g (pa_cons (pv 3) pa_nil)))) pss_nil))))
      (pss_one (ps_ret (pe_tup (pa_cons (pe_callTy call_tuple_of (by rfl) T.tuple (by decide +kernel) (pa_cons (pe_lc (own := [("ends", 6)]) (g := gName 6) (tt := tYes) (te := tDGet (tVar 1) (tVar 6)) rfl scRd.nd (pi_list (pe_callB (cr_sortDT rfl hr.units) (by rfl) T.sorted (by decide +kernel) (pa_cons (pv 1) pa_nil)))
          (blkOk_by (N := ["text", "cables", "cars", "at", "line", "words", "ends", "name"]) (sc := defScope sReadYard) (by decide +kernel)) (fun _ _ _ _ _ => pg_name (i := 6) scRd.nd rfl (Or.inl rfl)) (fun _ _ _ _ _ => pts_nil)
          (fun _ _ _ _ _ => by exact pe_dget hu (pv 1) (pv 6) (fun _ _ => rfl))) pa_nil))
        (pa_cons (pe_callTy call_tuple_of (by rfl) T.tuple (by decide +kernel) (pa_cons (pe_lc (own := [("name", 7)]) (g := gName 7) (tt := tYes) (te := tDGet (tVar 2) (tVar 7)) rfl scRd.nd (pi_list (pe_callB (call_sortedD rfl) (by rfl) T.sorted (by decide +kernel) (pa_cons (pv 2) pa_nil)))
          (blkOk_by (N := ["text", "cables", "cars", "at", "line", "words", "ends", "name"]) (sc := defScope sReadYard) (by decide +kernel)) (fun _ _ _ _ _ => pg_name (i := 7) scRd.nd rfl (Or.inl rfl)) (fun _ _ _ _ _ => pts_nil)
          (fun _ _ _ _ _ => by exact pe_dget hu (pv 2) (pv 7) (fun _ _ => rfl))) pa_nil)) pa_nil))))))), ?_⟩
    refine ⟨_, rfl, x, d, rfl, D, qS d, rfl, ?_⟩
    refine ite2 (fun h => ?_) (fun h => ?_)
    · refine ⟨by show 1 ≤ 1000; decide, fun a ha => ⟨a, _, rfl, upd_same, fun dx hdx nda => ⟨rfl, dx, _, upd_same, by rw [upd_ne nda, upd_same], free2 hdx nda, ?_⟩⟩⟩
      have M := same_raise (u := .xd [("place", .int 0)]) ha (free2 hdx nda) (H' := upd (upd (upd H a (exo a cW none)) dx (exd dx [("place", .int 0)])) a (exo a cW (some dx))) fun c n1 n2 => by rw [upd_ne n1, upd_ne n2, upd_ne n1]
      cases d with
      | str z => cases h
      | _ => exact k dx _ upd_same M
    obtain ⟨z, rfl, rfl⟩ := dat_str D (by simpa using h)
    obtain ⟨zl, ⟨l60, wl⟩, k⟩ := k
    clear D h
    refine fun d hd q hq => ⟨by show 2 ≤ sizeLine; decide, fun t ht => ⟨t, _, rfl, SqT.of upd_same, rfl, _, _, rfl, _, _, rfl, rfl, ?_⟩⟩
    have ndq : d ≠ q := fun e => by rw [← e, upd_same] at hq; cases hq
    have hq0 : H q = none := by rw [upd_ne ndq.symm] at hq; exact hq
    have e1 := s3u (o := .tup [.ref d, .ref q]) ht (s3u (o := .dK []) hq (upd_same (H := H) (a := d) (o := .dT [])))
    have e2 := s3u (o := .tup [.ref d, .ref q]) ht (upd_same (H := upd H d (.dT [])) (a := q) (o := .dK []))
    have m1 := same_new (o := .tup [.ref d, .ref q]) (same_new (o := .dK []) (same_new (o := .dT []) (Same.refl H) hd) hq) ht
    generalize upd (upd (upd H d (.dT [])) q (.dK [])) t (.tup [.ref d, .ref q]) = H1 at e1 e2 m1 ⊢
    clear hq ht
    have sl : z.length + 2 ≤ sizeLine := by rw [sizeLine_eq]; omega
    refine ⟨_, rfl, ⟨z, rfl⟩, z, "\n", rfl, rfl, rfl, sl, fun p hp => ⟨p, _, rfl, SqL.of upd_same, ?_⟩⟩
    have ep := upd_same (H := H1) (a := p) (o := .lst ((Txt.split z "\n").map V.str))
    have e1 := s3u (o := .lst ((Txt.split z "\n").map V.str)) hp e1
    have e2 := s3u (o := .lst ((Txt.split z "\n").map V.str)) hp e2
    have m1 := same_new (o := .lst ((Txt.split z "\n").map V.str)) m1 hp
    generalize upd H1 p (.lst ((Txt.split z "\n").map V.str)) = H2 at ep e1 e2 m1 ⊢
    have npd : p ≠ d := ne_at ep e1 (fun z => by cases z)
    have npq : p ≠ q := ne_at ep e2 (fun z => by cases z)
    have ls60 : (Txt.split z "\n").length ≤ 60 := by rw [List.length_map] at l60; exact l60
    refine for_it (walk_enum (K := K) (a := p) (xs := (Txt.split z "\n").map V.str)) (fun i σ H' => ∃ (w3 w4 w5 : Option V) (cs : List Cab) (rs : List Car) (lD : List (List Key × V)) (l : List (Key × V)), σ = [some (.str z), some (.ref d), some (.ref q), w3, w4, w5, none, none] ∧
      readP (((Txt.split z "\n").map lineW).take i) 0 ([], []) = .ok (cs, rs) ∧ (cs.map ckey).Nodup ∧ (rs.map (·.1)).Nodup ∧ cs.length ≤ i ∧ rs.length ≤ i ∧ H' d = some (.dT lD) ∧ H' q = some (.dK l) ∧ bK lD cs K (w2 H' d q) ∧ cK l rs K (w2 H' d q) ∧ Same H (w2 H' d q) ∧ w2 H' d q p = some (.lst ((Txt.split z "\n").map V.str))) ?_ ?_ ?_ ?_
    · exact ⟨none, none, none, [], [], [], [], rfl, rfl, List.nodup_nil, List.nodup_nil, Nat.le_refl _, Nat.le_refl _, e1, e2, .nil, .nil, w2_new hd hq0 m1, by rw [w2_ne npd npq]; exact ep⟩
    · rintro i σ H' _ ⟨_, _, _, _, _, _, _, _, _, _, _, _, _, _, _, _, _, _, ep'⟩
      exact SqL.of (w2_of ep').2.2
    · clear e1 e2 m1 ep
      rintro i xx σ H' H'' hi ⟨w3, w4, w5, cs, rs, lD, l, rfl, run, nk, nn, lc, lr, e1, e2, bk, ck, mm, ep⟩ ⟨T', x', y', rfl, fT, rfl, hx, hy⟩
      cases (Option.some.inj hx)
      have hy : ((Txt.split z "\n").map V.str)[i]? = some y' := hy
      rw [List.getElem?_map] at hy
      obtain ⟨ln, hln, rfl⟩ := Option.map_eq_some_iff.mp hy
      have il : i < (Txt.split z "\n").length := (List.getElem?_eq_some_iff.mp hln).1
      have lnl : ln.length ≤ 1000000 := Nat.le_trans (split_each (List.mem_of_getElem? hln)) zl
      have hw : ((Txt.split z "\n").map lineW)[i]? = some (lineW ln) := by rw [List.getElem?_map, hln]; rfl
      have wls : ∀ w ∈ lineW ln, w.length ≤ 600 := wl _ (List.mem_of_getElem? hw)
      have M2 := same_new (o := .tup [.int (i : Nat), .str ln]) (Same.refl H') fT
      have et : upd H' T' (.tup [.int (i : Nat), .str ln]) T' = some (.tup [.int (i : Nat), .str ln]) := upd_same
      generalize upd H' T' (.tup [.int (i : Nat), .str ln]) = H3 at M2 et ⊢
      refine ⟨T', _, rfl, SqT.of et, rfl, _, _, rfl, _, _, rfl, rfl, ?_⟩
      refine ⟨_, rfl, ⟨ln, rfl⟩, ln, "#", rfl, rfl, rfl, Nat.le_trans lnl (by rw [sizeLine_eq]; decide), fun pt hpt => ⟨pt, _, 0, _, rfl, rfl, SqT.of upd_same, at0, _, rfl, Nat.le_trans (part_le ln) lnl, fun pw H4 ew npw m4 => ?_⟩⟩
      have M4 := (same_new (o := .tup [.str (Txt.partition ln "#").1, .str (Txt.partition ln "#").2.1, .str (Txt.partition ln "#").2.2]) M2 hpt).trans m4
      have ew : H4 pw = some (.lst (txs (lineW ln))) := ew
      refine ⟨_, rfl, by show 0 ≤ sizeLine; decide, fun e he => ⟨pw, e, txs (lineW ln), rfl, rfl, SqL.of (s3u he ew), SqL.of upd_same, _, rfl, ?_⟩⟩
      have M5 := same_new (o := .lst []) M4 he
      have ew5 := s3u (o := .lst []) he ew
      generalize upd H4 e (.lst []) = H5 at M5 ew5 ⊢
      have d5 := M5 _ _ e1
      have q5 := M5 _ _ e2
      have W5 : Same (w2 H' d q) (w2 H5 d q) := w2_more M5
      refine ite2 (fun hne => ?_) (fun hemp => ?_)
      · have ne : lineW ln ≠ [] := fun e => by rw [e] at hne; cases hne
        have lz : lD.length ≤ 1000000 := by rw [paired_len bk]; omega
        have lz2 : l.length ≤ 1000000 := by rw [paired_len ck]; omega
        refine ⟨_, rfl, _, rfl, _, rfl, d, q, pw, lD, l, lineW ln, rfl, ndq, d5, q5, lz, lz2, ew5, ne, wls, ?_, ?_, ?_⟩
        · intro pr H6 M6
          refine ⟨_, rfl, ?_⟩
          refine ite2 (fun _ => ?_) (fun h => absurd rfl h)
          have hb : lineP (cs, rs) (lineW ln) = none := by
            unfold lineP
            rw [if_neg ne]
            cases er : rowP (lineW ln) with
            | none => rfl
            | some o =>
              rw [er] at pr
              cases o with
              | inl c =>
                have pr : (valV lD (pK (ckey c))).isSome = true := pr
                rw [bK_is bk] at pr
                exact if_pos (of_decide_eq_true pr)
              | inr r =>
                have pr : (valV l (Sum.inr r.1 : Key)).isSome = true := pr
                rw [cK_is ck] at pr
                exact if_pos (of_decide_eq_true pr)
          rw [readP_bad run hw hb] at k
          refine ⟨_, rfl, by show 1 ≤ 1000; decide, fun a ha => ⟨a, _, rfl, upd_same, fun dx hdx nda => ⟨rfl, dx, _, upd_same, by rw [upd_ne nda, upd_same], free2 hdx nda, ?_⟩⟩⟩
          have k : Bad cT cW E H (0 + i) := k
          rw [Nat.zero_add] at k
          exact k dx _ upd_same ((((mm.trans (w2_sub _ _ _)).trans M5).trans M6).trans (same_raise ha (free2 hdx nda) fun c n1 n2 => by rw [upd_ne n1, upd_ne n2, upd_ne n1]))
        · intro c er hn t6 H6 d6 q6 t6e W6
          refine ⟨_, rfl, ?_⟩
          refine ite2 (fun h => by cases h) (fun _ => ?_)
          have nin : ckey c ∉ cs.map ckey := fun z => by
            have := bK_is (k := ckey c) bk
            rw [hn, decide_eq_true z] at this
            cases this
          have hb : lineP (cs, rs) (lineW ln) = some (cs ++ [c], rs) := by
            unfold lineP
            rw [if_neg ne, er]
            exact if_neg nin
          have W := W5.trans W6
          refine ⟨_, _, _, cs ++ [c], rs, _, l, rfl, readP_more run hw hb, ?_, nn, by rw [List.length_append]; show cs.length + 1 ≤ i + 1; omega, by omega, d6, q6, ?_, ck.more W, mm.trans W, W _ _ ep⟩
          · rw [List.map_append, List.nodup_append]
            refine ⟨nk, List.nodup_cons.mpr ⟨(fun z => nomatch z), List.nodup_nil⟩, fun y hy z hz => ?_⟩
            rw [List.mem_singleton.mp hz]
            rintro rfl
            exact nin hy
          · exact paired_snoc ⟨rfl, t6, rfl, sqt_w2 (SqT.of t6e) d6 q6 (fun zs z => by cases z) (fun o w z => by cases z) (fun zs z => by cases z) (fun o w z => by cases z)⟩ (bk.more W)
        · intro r er hn t6 H6 q6 d6 t6e W6
          refine ⟨_, rfl, ?_⟩
          refine ite2 (fun h => by cases h) (fun _ => ?_)
          have nin : r.1 ∉ rs.map (·.1) := fun z => by
            have := cK_is (n := r.1) ck
            rw [hn, decide_eq_true z] at this
            cases this
          have hb : lineP (cs, rs) (lineW ln) = some (cs, rs ++ [r]) := by
            unfold lineP
            rw [if_neg ne, er]
            exact if_neg nin
          have W := W5.trans W6
          refine ⟨_, _, _, cs, rs ++ [r], lD, _, rfl, readP_more run hw hb, nk, ?_, by omega, by rw [List.length_append]; show rs.length + 1 ≤ i + 1; omega, d6, q6, bk.more W, ?_, mm.trans W, W _ _ ep⟩
          · rw [List.map_append, List.nodup_append]
            refine ⟨nn, List.nodup_cons.mpr ⟨(fun z => nomatch z), List.nodup_nil⟩, fun y hy z hz => ?_⟩
            rw [List.mem_singleton.mp hz]
            rintro rfl
            exact nin hy
          · exact paired_snoc ⟨rfl, t6, rfl, sqt_w2 (SqT.of t6e) d6 q6 (fun zs z => by cases z) (fun o w z => by cases z) (fun zs z => by cases z) (fun o w z => by cases z)⟩ (ck.more W)
      · have emp : lineW ln = [] := by
          cases e : lineW ln with
          | nil => rfl
          | cons a r => rw [e] at hemp; exact absurd rfl hemp
        have hb : lineP (cs, rs) (lineW ln) = some (cs, rs) := by
          unfold lineP
          rw [if_pos emp]
        exact ⟨_, _, _, cs, rs, lD, l, rfl, readP_more run hw hb, nk, nn, by omega, by omega, d5, q5, bk.more W5, ck.more W5, mm.trans W5, W5 _ _ ep⟩
    clear e1 e2 m1 ep
    rintro σ H3 ⟨w3, w4, w5, cs, rs, lD, l, rfl, run, nk, nn, lc, lr, g1, g2, bk, ck, mm, _⟩
    have m3 : Same H H3 := mm.trans (w2_sub _ _ _)
    rw [List.length_map] at lc lr
    rw [List.take_of_length_le (by rw [List.length_map, List.length_map]; exact Nat.le_refl _)] at run
    rw [run] at k
    have k : ∀ (y : V) (cs' : List Cab) (rs' : List Car) (H' : Hp), Srt cs rs cs' rs' → YardV K H' y cs' rs' → Same H H' → Q y H' := k
    refine ⟨_, rfl, d, lD, cs.map ckey, rfl, Rd.of g1, bK_keys bk, by rw [List.length_map]; omega, fun p1 qs hp1 pq => ?_⟩
    refine ⟨p1, rfl, ⟨_, .inl (.inl upd_same)⟩, fun D1 hD => ?_⟩
    have npd1 : p1 ≠ D1 := fun e => by rw [← e, upd_same] at hD; cases hD
    have hD' : H3 D1 = none := by rw [upd_ne npd1.symm] at hD; exact hD
    refine lc_list (K := K) (a := p1) (xs := qs.map V.ref) (fun i H' => ∃ (ys : List V) (cs' : List Cab), H' D1 = some (.lst ys) ∧ ys.length = i ∧ cs'.map ckey = ((cs.map ckey).mergeSort (PySem.W.dataLe false pD)).take i ∧ (∀ x ∈ cs', x ∈ cs) ∧ Paired (CabV K (w2 H3 d q)) ys cs' ∧ H' p1 = some (.lst (qs.map V.ref)) ∧ Same H3 H') ?_ ?_ ?_ ?_
    · exact ⟨[], [], upd_same, rfl, by rw [List.take_zero]; rfl, (fun _ z => nomatch z), .nil, by rw [upd_ne npd1, upd_same], same_new (same_new (Same.refl H3) hp1) hD⟩
    · rintro i H' hi ⟨ys, cs', _, _, _, _, _, h, _⟩
      exact .inl (.inl h)
    · rintro i x H' hx ⟨ys, cs', h1, h2, h3, h4, h5, h6, h7⟩
      rw [List.getElem?_map] at hx
      obtain ⟨t', ht', rfl⟩ := Option.map_eq_some_iff.mp hx
      obtain ⟨kx, hkx, hq'⟩ := paired_at pq ht'
      obtain ⟨c, hc, rfl⟩ := List.mem_map.mp ((List.mergeSort_perm _ _).mem_iff.mp (List.mem_of_getElem? hkx))
      obtain ⟨xv, hv, hcv⟩ := bK_get bk nk hc
      have dg := DGet.t (k := pK (ckey c)) (h7 _ _ g1) (h7 _ _ hq')
      rw [hv] at dg
      refine ⟨rfl, _, rfl, _, rfl, d, xv, rfl, dg, ys, h1, by rw [h2]; exact small1000 (by have := (List.getElem?_eq_some_iff.mp hkx).1; rw [List.length_mergeSort, List.length_map] at this; omega), ys ++ [xv], cs' ++ [c], upd_same, by rw [List.length_append, h2]; rfl, ?_, fun x hx => ?_, paired_snoc hcv h5, by rw [upd_ne npd1]; exact h6, same_put h7 hD'⟩
      · rw [List.map_append, h3, List.take_succ, hkx]
        rfl
      · rcases List.mem_append.mp hx with z | z
        · exact h4 x z
        · rw [List.mem_singleton.mp z]
          exact hc
    rintro H4 ⟨ys, cs', h1, h2, h3, h4, h5, h6, h7⟩
    have ea : cs'.map ckey = (cs.map ckey).mergeSort (PySem.W.dataLe false pD) := by
      rw [h3, List.take_of_length_le]
      rw [List.length_map, ← paired_len pq]
      exact Nat.le_refl _
    have cv : Paired (CabV K H4) ys cs' := paired_imp (fun x c h => h.more ((w2_sub _ _ _).trans h7)) h5
    refine ⟨D1, ys, rfl, .inl ⟨SqL.of h1, fun tc htc => ?_⟩⟩
    have m5 : Same H4 (upd H4 tc (.tup ys)) := same_new (Same.refl H4) htc
    have etc : upd H4 tc (.tup ys) tc = some (.tup ys) := upd_same
    have cv5 : Paired (CabV K (upd H4 tc (.tup ys))) ys cs' := paired_imp (fun _ _ h => h.more m5) cv
    generalize upd H4 tc (.tup ys) = H5 at m5 etc cv5 ⊢
    have g5 := m5 _ _ (h7 _ _ g2)
    refine ⟨_, rfl, q, l, rs.map (·.1), rfl, Rd.of g5, by rw [cK_keys ck, List.map_map]; rfl, by rw [List.length_map]; omega, fun ns p2 perm srt hp2 => ⟨p2, rfl, ⟨_, .inl (.inl upd_same)⟩, fun D2 hD2 => ?_⟩⟩
    have npD2 : p2 ≠ D2 := fun e => by rw [← e, upd_same] at hD2; cases hD2
    have hD2' : H5 D2 = none := by rw [upd_ne npD2.symm] at hD2; exact hD2
    have lns : ns.length = rs.length := by rw [perm.length_eq, List.length_map]
    refine lc_list (K := K) (a := p2) (xs := ns.map V.str) (fun i H' => ∃ (zs : List V) (rs' : List Car), H' D2 = some (.lst zs) ∧ zs.length = i ∧ rs'.map (·.1) = ns.take i ∧ (∀ r ∈ rs', r ∈ rs) ∧ Paired (CarV K (w2 H3 d q)) zs rs' ∧ H' p2 = some (.lst (ns.map V.str)) ∧ Same H5 H') ?_ ?_ ?_ ?_
    · exact ⟨[], [], upd_same, rfl, by rw [List.take_zero]; rfl, (fun _ z => nomatch z), .nil, by rw [upd_ne npD2, upd_same], same_new (same_new (Same.refl H5) hp2) hD2⟩
    · rintro i H' hi ⟨zs, rs', _, _, _, _, _, h, _⟩
      exact .inl (.inl h)
    · rintro i x H' hx ⟨zs, rs', j1, j2, j3, j4, j5, j6, j7⟩
      rw [List.getElem?_map] at hx
      obtain ⟨z, hz, rfl⟩ := Option.map_eq_some_iff.mp hx
      obtain ⟨r, hr', rfl⟩ := List.mem_map.mp (perm.mem_iff.mp (List.mem_of_getElem? hz))
      obtain ⟨xv, hv, hcv⟩ := cK_get ck nn hr'
      have dg := DGet.k (k := (Sum.inr r.1 : Key)) (j7 _ _ g5)
      rw [hv] at dg
      refine ⟨rfl, _, rfl, _, rfl, q, xv, rfl, dg, zs, j1, by rw [j2]; exact small1000 (by have := (List.getElem?_eq_some_iff.mp hz).1; omega), zs ++ [xv], rs' ++ [r], upd_same, by rw [List.length_append, j2]; rfl, ?_, fun x hx => ?_, paired_snoc hcv j5, by rw [upd_ne npD2]; exact j6, same_put j7 hD2'⟩
      · rw [List.map_append, j3, List.take_succ, hz]
        rfl
      · rcases List.mem_append.mp hx with y | y
        · exact j4 x y
        · rw [List.mem_singleton.mp y]
          exact hr'
    rintro H6 ⟨zs, rs', j1, j2, j3, j4, j5, j6, j7⟩
    rw [List.length_map, List.take_length] at j3
    refine ⟨D2, zs, rfl, .inl ⟨SqL.of j1, fun tr htr => ?_⟩⟩
    have m7 : Same H6 (upd H6 tr (.tup zs)) := same_new (Same.refl H6) htr
    have etr : upd H6 tr (.tup zs) tr = some (.tup zs) := upd_same
    generalize upd H6 tr (.tup zs) = H7 at m7 etr ⊢
    refine ⟨by show 2 ≤ sizeLine; decide, fun ty hty => ?_⟩
    have m8 : Same H7 (upd H7 ty (.tup [.ref tc, .ref tr])) := same_new (Same.refl H7) hty
    have m58 := j7.trans (m7.trans m8)
    have m38 : Same H3 (upd H7 ty (.tup [.ref tc, .ref tr])) := h7.trans (m5.trans m58)
    have lrs : rs.length = rs'.length := by rw [← lns, ← j3, List.length_map]
    have nrs : (rs'.map (·.1)).Nodup := by rw [j3]; exact perm.nodup_iff.mpr nn
    exact k (.ref ty) cs' rs' _ ⟨ea, h4, by rw [j3]; exact srt, (perm_of (nodup_map nrs) j4 lrs).symm⟩ ⟨ty, tc, tr, ys, zs, rfl, SqT.of upd_same, SqT.of (m58 _ _ etc), SqT.of (m8 _ _ etr), paired_imp (fun _ _ h => h.more m58) cv5, paired_imp (fun _ _ h => h.more ((w2_sub _ _ _).trans m38)) j5⟩ (m3.trans m38)
end
end Y

/-! QF: the law's own numbers. -/
namespace Ns
open PySem PySem.Spec PyProof.Rows L2
/-- a value with what is known of it -/
def tCut (te : TE) : TE := fun σ H Q => ∃ R : VK, te σ H R ∧ ∀ v H', R v H' → Q v H'
theorem pe_cut {X : Cx} {e : Expr} {te : TE} (he : PE X e te) : PE X e (tCut te) := by
  refine ⟨fun pins s σ H Q I h => ?_⟩
  obtain ⟨R, h1, h2⟩ := h
  refine thn (he.run pins s σ H R I h1) fun u s1 hu => ?_
  obtain ⟨v, H1, I1, r, q⟩ := hu
  exact ⟨v, H1, I1, r, h2 _ _ q⟩
end Ns
namespace Y
open PySem PySem.Spec PyProof.Rows L2 Ns
theorem cut_rest (z : Str) : (cutS z (some (1 : Int)) none).cps.toList = z.cps.toList.drop 1 := by
  have h1 : HT.sIx z.length 0 (some (1 : Int)) = min 1 z.length := HT.sIx_nat _ _ 1
  have h2 : HT.sIx z.length z.length none = z.length := rfl
  unfold cutS
  show (z.cps.toList.drop (HT.sIx z.length 0 (some (1 : Int)))).take (HT.sIx z.length z.length none - HT.sIx z.length 0 (some (1 : Int))) = _
  rw [h1, h2, ← len_cps]
  cases z.cps.toList with
  | nil => rfl
  | cons c r =>
    rw [Nat.min_eq_left (by rw [List.length_cons]; omega)]
    exact List.take_of_length_le (by rw [List.length_drop]; exact Nat.le_refl _)
/-- a word without its sign -/
def plainOf (z : Str) : Str := if z.cps.toList.head? = some 45 then cutS z (some (1 : Int)) none else z
/-- the number that a word shows as Python does -/
def numL (z : Str) : Option Int := if plainOf z = "" ∨ allDig (plainOf z) = false then none else if (1 < (plainOf z).length ∧ (plainOf z).cps.toList.head? = some 48) ∨ z = "-0" then none else intText? z
section
variable {P : Program} {w : World} {K : PySem.W.Frag} {mg : Str → Option Value} {base : Heap}
theorem scNu : FnScope ["word", "plain", "sign"] ["word"] (defScope sNumber) := ⟨rfl, rfl, rfl, by decide +kernel, rfl, by decide +kernel, by decide +kernel⟩
theorem ok_number {f : Addr} {fd : FuncData} (F : Fun K "_law_number" "_law_number" sNumber f fd) (T : Nat0 mg) : FnOk P w K mg base CX0 1 f fd ["word"] (spNum numL) := by
  refine F.ok scNu (fun as H Q E h => ?_) (fun cdv A outer s H as Q E hr h => ?_)
  · obtain ⟨z, rfl, _⟩ := h
    rfl
  · obtain ⟨z, rfl, zl, k⟩ := h
    refine ⟨_, pss_cons (ps_set (i := 1) scNu.nd rfl (.inl rfl) (pe_cut (pe_ifExp (pt_cmpR op_eq (pe_slice sl_str (pv 0) po_none (po_some pe_int)) pe_str (nomark _)) (pe_slice sl_str (pv 0) (po_some pe_int) po_none) (pv 0))))
      (pss_cons (ps_if (PW.pt (pw_or (pt_cmpR op_eq (pv 1) pe_str (nomark _)) (pw_or1 (pt_cmpR (op_neE0 hr.units) (pe_lc (own := [("sign", 2)]) (g := gName 2) (tt := tTest (tOp _ (tVar 2) (tC (V.str digits)))) rfl scNu.nd (pi_str (pv 1)) (blkOk_by (N := ["word", "plain", "sign"]) (sc := defScope sNumber) (by decide +kernel))
          (fun _ _ _ _ _ => pg_name (i := 2) scNu.nd rfl (Or.inl rfl)) (fun _ _ _ _ _ => by exact pts_one (pt_cmpR op_notInS (pv 2) pe_str (by rfl))) (fun _ _ _ _ _ => pv 2)) (pe_lst pa_nil) (nomark _))))) (pss_one (ps_ret pe_non)) pss_nil)
      (pss_cons (ps_if (PW.pt (pw_or (PW.pt (pw_and (pt_cmpR op_gt (pe_callB call_len_str (by rfl) T.len PySem.boot_len (pa_cons (pv 1) pa_nil)) pe_int (nomark _)) (pw_and1 (pt_cmpR op_eq (pe_ix ix_str (pv 1) pe_int (fun _ _ => rfl)) pe_str (nomark _))))) (pw_or1 (pt_cmpR op_eq (pv 0) pe_str (nomark _))))) (pss_one (ps_ret pe_non)) pss_nil)
      (pss_one (ps_ret (pe_callTy call_int_str (by rfl) T.int (by decide +kernel) (pa_cons (pv 0) pa_nil)))))), ?_⟩
    have sl : z.length ≤ sizeLine := Nat.le_of_lt (small1000 (by omega))
    have dash : decide (V.str (cutS z none (some 1)) = V.str "-") = decide (z.cps.toList.head? = some 45) := by
      have e1 : (cutS z none (some (1 : Int))).cps.toList = z.cps.toList.take 1 := cut_list z 1
      have e2 : ("-" : Str).cps.toList = [45] := by decide +kernel
      rw [decide_eq_decide]
      constructor
      · intro e
        injection e with e
        rw [e, e2] at e1
        cases h : z.cps.toList with
        | nil => rw [h] at e1; cases e1
        | cons c r =>
          rw [h] at e1
          cases e1
          rfl
      · intro h
        refine congrArg V.str (str_ext ?_)
        rw [e1, e2]
        cases h2 : z.cps.toList with
        | nil => rw [h2] at h; cases h
        | cons c r => rw [h2] at h; cases h; rfl
    refine ⟨fun v H' => v = .str (plainOf z) ∧ H' = H, ?_, ?_⟩
    · refine ⟨_, rfl, _, rfl, z, rfl, sl, rfl, _, rfl, ?_⟩
      rw [dash]
      refine ite2 (fun h => ?_) (fun h => ?_)
      · refine ⟨_, rfl, _, rfl, z, rfl, sl, ?_, rfl⟩
        unfold plainOf
        rw [if_pos (of_decide_eq_true h)]
      · refine ⟨_, rfl, ?_, rfl⟩
        unfold plainOf
        rw [if_neg (fun e => h (decide_eq_true e))]
    rintro v H' ⟨rfl, rfl⟩
    have pl : (plainOf z).length ≤ z.length := by
      unfold plainOf
      split
      · exact cutS_length _ _ _
      · exact Nat.le_refl _
    have spl : (plainOf z).length ≤ sizeLine := Nat.le_trans pl sl
    have non : numL z = none → ∀ G, Same H' G → Q .non G := fun e G M => by
      have := k G M
      rw [e] at this
      exact this
    refine ⟨_, rfl, rfl, _, rfl, ?_⟩
    refine ite2 (fun h => ?_) (fun h => ?_)
    · have e : plainOf z = "" := by
        have := of_decide_eq_true h
        injection this
      exact non (by unfold numL; rw [if_pos (.inl e)]) H' (Same.refl H')
    have ne : plainOf z ≠ "" := fun e => h (by rw [e]; rfl)
    refine ⟨_, rfl, plainOf z, rfl, fun D1 hD1 => ?_⟩
    refine lc_it (walk_str (z := plainOf z)) (fun i G => G D1 = some (.lst ((((plainOf z).cps.toList.take i).filter fun c => !decide (c ∈ digits.cps.toList)).map fun c => V.str ⟨#[c]⟩)) ∧ Same H' G) ?_ ?_ ?_ ?_
    · exact ⟨by rw [List.take_zero, upd_same]; rfl, same_new (Same.refl H') hD1⟩
    · exact fun _ _ _ _ => trivial
    · rintro i u G G' hi ⟨q1, M⟩ ⟨rfl, c', hc, rfl⟩
      have hc' : (plainOf z).cps.toList[i]? = some c' := by rw [Array.getElem?_toList]; exact hc
      have hi' : i < (plainOf z).length := hi
      refine ⟨rfl, _, rfl, c', digits, rfl, rfl, _, rfl, ?_⟩
      refine ite2 (fun g => ?_) (fun g => ?_)
      · refine ⟨_, rfl, _, q1, ?_, ?_, same_put M hD1⟩
        · rw [List.length_map]
          refine Nat.lt_of_le_of_lt (List.length_filter_le _ _) ?_
          rw [List.length_take]
          exact small1000 (by omega)
        · rw [upd_same, List.take_succ, hc']
          show some (HO.lst _) = some (HO.lst ((((plainOf z).cps.toList.take i ++ [c']).filter _).map _))
          rw [List.filter_append, List.map_append, List.filter_cons, if_pos g]
          rfl
      · refine ⟨?_, M⟩
        rw [q1, List.take_succ, hc']
        show some (HO.lst _) = some (HO.lst ((((plainOf z).cps.toList.take i ++ [c']).filter _).map _))
        rw [List.filter_append, List.map_append, List.filter_cons, if_neg g]
        simp
    rintro G ⟨q1, M⟩
    rw [List.take_of_length_le (by rw [Array.length_toList]; exact Nat.le_refl _)] at q1
    refine ⟨by show 0 ≤ sizeLine; decide, fun e he => ⟨D1, e, _, rfl, rfl, SqL.of (s3u he q1), SqL.of upd_same, _, rfl, ?_⟩⟩
    have M2 := same_new (o := .lst []) M he
    generalize upd G e (.lst []) = G2 at M2 ⊢
    have ead : allDig (plainOf z) = decide ((((plainOf z).cps.toList.filter fun c => !decide (c ∈ digits.cps.toList)).map fun c => V.str ⟨#[c]⟩) = []) := by
      unfold allDig
      rw [Bool.eq_iff_iff, decide_eq_true_iff, List.map_eq_nil_iff, List.filter_eq_nil_iff, List.all_eq_true]
      exact ⟨fun h c hc => by simp [of_decide_eq_true (h c hc)], fun h c hc => by simpa using h c hc⟩
    rw [← ead]
    refine ite2 (fun h2 => ?_) (fun h2 => ?_)
    · have h2 : allDig (plainOf z) = false := by simpa using h2
      exact non (by unfold numL; rw [if_pos (.inr h2)]) G2 M2
    have ad : allDig (plainOf z) = true := by simpa using h2
    have n1 : ¬ (plainOf z = "" ∨ allDig (plainOf z) = false) := fun g => g.elim ne fun g => by rw [ad] at g; cases g
    have dz := allDig_iff.mp ad
    obtain ⟨c, r, ec⟩ : ∃ c r, (plainOf z).cps.toList = c :: r := by
      cases e : (plainOf z).cps.toList with
      | nil => exact absurd (str_ext (by rw [e]; rfl)) ne
      | cons c r => exact ⟨c, r, rfl⟩
    obtain ⟨n, it⟩ : ∃ n, intText? z = some n := by
      by_cases hd : z.cps.toList.head? = some 45
      · have ep : (plainOf z).cps.toList = z.cps.toList.drop 1 := by
          unfold plainOf
          rw [if_pos hd, cut_rest]
        cases ez : z.cps.toList with
        | nil => rw [ez] at hd; cases hd
        | cons a b =>
          rw [ez] at hd ep
          cases hd
          have ep : (plainOf z).cps.toList = b := ep
          exact ⟨_, PySem.intText_neg ez (by rw [← ep]; exact dz) (by rw [← ep, ec]; exact fun z => nomatch z) (Nat.le_trans zl (by decide))⟩
      · have ep : plainOf z = z := by
          unfold plainOf
          rw [if_neg hd]
        rw [ep] at dz ec
        exact ⟨_, PySem.intText_digits dz (by rw [ec]; exact fun z => nomatch z) (Nat.le_trans zl (by decide))⟩
    have last : ¬ ((1 < (plainOf z).length ∧ (plainOf z).cps.toList.head? = some 48) ∨ z = "-0") → ∃ a n, [V.str z] = [V.str a] ∧ intText? a = some n ∧ a.length ≤ 640 ∧ Q (.int n) G2 := fun g => by
      refine ⟨z, n, rfl, it, by omega, ?_⟩
      have := k G2 M2
      unfold numL at this
      rw [if_neg n1, if_neg g, it] at this
      exact this
    have bad : ((1 < (plainOf z).length ∧ (plainOf z).cps.toList.head? = some 48) ∨ z = "-0") → Q .non G2 := fun g => non (by unfold numL; rw [if_neg n1, if_pos g]) G2 M2
    have c48 : decide (V.str ⟨#[c]⟩ = V.str "0") = decide (c = 48) := by
      rw [decide_eq_decide]
      constructor
      · intro e
        injection e with e
        have : (⟨#[c]⟩ : Str).cps.toList = ("0" : Str).cps.toList := by rw [e]
        have z0 : ("0" : Str).cps.toList = [48] := by decide +kernel
        rw [z0] at this
        exact (List.cons.inj this).1
      · rintro rfl
        exact congrArg V.str (str_ext (by decide +kernel))
    refine ⟨_, rfl, plainOf z, rfl, spl, _, _, rfl, rfl, _, rfl, ?_⟩
    refine ite2 (fun h3 => ?_) (fun h3 => ?_)
    · have h3 : 1 < (plainOf z).length := by
        have := of_decide_eq_true h3
        omega
      refine ⟨_, rfl, plainOf z, 0, c, rfl, rfl, spl, by rw [ec]; exact at0, rfl, _, rfl, ?_⟩
      rw [c48]
      refine ite2 (fun h4 => ?_) (fun h4 => ?_)
      · exact bad (.inl ⟨h3, by rw [ec, of_decide_eq_true h4]; rfl⟩)
      · refine ⟨_, rfl, rfl, _, rfl, ?_⟩
        refine ite2 (fun h5 => ?_) (fun h5 => ?_)
        · exact bad (.inr (by have := of_decide_eq_true h5; injection this))
        · refine ⟨_, rfl, last fun g => ?_⟩
          rcases g with ⟨_, g⟩ | g
          · rw [ec] at g
            exact h4 (decide_eq_true (Option.some.inj g))
          · exact h5 (by rw [g]; exact decide_eq_true rfl)
    · refine ⟨_, rfl, rfl, _, rfl, ?_⟩
      refine ite2 (fun h5 => ?_) (fun h5 => ?_)
      · exact bad (.inr (by have := of_decide_eq_true h5; injection this))
      · refine ⟨_, rfl, last fun g => ?_⟩
        rcases g with ⟨g, _⟩ | g
        · exact h3 (decide_eq_true (by omega))
        · exact h5 (by rw [g]; exact decide_eq_true rfl)
end
end Y

/-! QG: the law's own rows. -/
namespace Y
open PySem PySem.Spec PyProof.Rows L2 Ns
theorem str_nil {z : Str} (h : z.cps.toList = []) : z = "" := str_ext (by rw [h]; rfl)
theorem num_up {z : Str} {v : Int} (h : numP z = some v) : numL z = some v := by
  unfold numP at h
  split at h
  · cases h
  · rename_i n1
    split at h
    · cases h
    · rename_i n2
      have ad : allDig z = true := by
        cases e : allDig z with
        | true => rfl
        | false => exact (n1 (.inr e)).elim
      have dz := allDig_iff.mp ad
      have n45 : z.cps.toList.head? ≠ some 45 := fun e => by
        cases hz : z.cps.toList with
        | nil => rw [hz] at e; cases e
        | cons c r =>
          rw [hz] at e dz
          cases e
          exact absurd (dz.head).1 (by decide)
      have ep : plainOf z = z := by
        unfold plainOf
        rw [if_neg n45]
      unfold numL
      rw [ep, if_neg n1, if_neg]
      · exact h
      · rintro (⟨g1, g2⟩ | g)
        · refine n2 ⟨g2, fun e => ?_⟩
          rw [e] at g1
          exact absurd g1 (by decide +kernel)
        · rw [g] at n45
          exact n45 (by decide +kernel)
theorem num_down {z : Str} {v : Int} (h : numL z = some v) (h0 : 0 ≤ v) (zl : z.length ≤ 600) : numP z = some v := by
  unfold numL at h
  split at h
  · cases h
  · rename_i n1
    split at h
    · cases h
    · rename_i n2
      have ad : allDig (plainOf z) = true := by
        cases e : allDig (plainOf z) with
        | true => rfl
        | false => exact (n1 (.inr e)).elim
      have dz := allDig_iff.mp ad
      by_cases hd : z.cps.toList.head? = some 45
      · have ep : (plainOf z).cps.toList = z.cps.toList.drop 1 := by
          unfold plainOf
          rw [if_pos hd, cut_rest]
        cases ez : z.cps.toList with
        | nil => rw [ez] at hd; cases hd
        | cons a b =>
          rw [ez] at hd ep
          cases hd
          have ep : (plainOf z).cps.toList = b := ep
          have nb : b ≠ [] := fun e => n1 (.inl (str_nil (ep.trans e)))
          rw [ep] at dz
          rw [PySem.intText_neg ez dz nb (Nat.le_trans zl (by decide))] at h
          cases h
          cases b with
          | nil => exact absurd rfl nb
          | cons c r =>
            have hc := dz.head
            rcases Nat.lt_or_ge 48 c with h48 | h48
            · have := PySem.NumText.digitsVal_pos (cs := r) (show 49 ≤ c by omega)
              omega
            · have e48 : c = 48 := by omega
              subst e48
              cases r with
              | nil =>
                exfalso
                refine n2 (.inr (str_ext ?_))
                rw [ez]
                decide +kernel
              | cons c2 r2 =>
                exfalso
                refine n2 (.inl ⟨?_, by rw [ep]; rfl⟩)
                rw [← len_cps, ep]
                show 1 < r2.length + 1 + 1
                omega
      · have ep : plainOf z = z := by
          unfold plainOf
          rw [if_neg hd]
        rw [ep] at n1 n2 dz
        unfold numP
        rw [if_neg n1, if_neg]
        · exact h
        · rintro ⟨g1, g2⟩
          refine n2 (.inl ⟨?_, g1⟩)
          rw [← len_cps]
          cases hz : z.cps.toList with
          | nil => exact (n1 (.inl (str_nil hz))).elim
          | cons c r =>
            rw [hz] at g1
            cases g1
            cases r with
            | nil => exact (g2 (str_ext (by rw [hz]; decide +kernel))).elim
            | cons c2 r2 =>
              show 1 < r2.length + 1 + 1
              omega
theorem numL_bd {z : Str} (zl : z.length ≤ 600) : Bd 1000 (numD (numL z)) := by
  cases h : numL z with
  | none => simp [numD, Bd]
  | some v =>
    simp only [numD, Bd]
    by_cases h0 : 0 ≤ v
    · exact (num_bd (num_down h h0 zl) zl).2
    · unfold numL at h
      split at h
      · cases h
      · rename_i n1
        split at h
        · cases h
        · have ad : allDig (plainOf z) = true := by
            cases e : allDig (plainOf z) with
            | true => rfl
            | false => exact (n1 (.inr e)).elim
          have dz := allDig_iff.mp ad
          by_cases hd : z.cps.toList.head? = some 45
          · have ep : (plainOf z).cps.toList = z.cps.toList.drop 1 := by
              unfold plainOf
              rw [if_pos hd, cut_rest]
            cases ez : z.cps.toList with
            | nil => rw [ez] at hd; cases hd
            | cons a b =>
              rw [ez] at hd ep
              cases hd
              have ep : (plainOf z).cps.toList = b := ep
              have nb : b ≠ [] := fun e => n1 (.inl (str_nil (ep.trans e)))
              rw [ep] at dz
              rw [PySem.intText_neg ez dz nb (Nat.le_trans zl (by decide))] at h
              cases h
              have bb := dv_lt b 0 dz
              have lb : b.length ≤ 600 := by
                have := len_cps z
                rw [ez, List.length_cons] at this
                omega
              show Int.natAbs (-((PySem.NumText.digitsVal b : Nat) : Int)) < _
              rw [Int.natAbs_neg, Int.natAbs_natCast]
              refine Nat.lt_of_lt_of_le (show PySem.NumText.digitsVal b < 1 * 10 ^ b.length from bb) ?_
              rw [Nat.one_mul]
              exact Nat.pow_le_pow_right (by decide) (by omega)
          · have ep : plainOf z = z := by
              unfold plainOf
              rw [if_neg hd]
            rw [ep] at n1 dz
            rw [PySem.intText_digits dz (fun e => n1 (.inl (str_nil e))) (Nat.le_trans zl (by decide))] at h
            cases h
            exact absurd (Int.natCast_nonneg _) h0
end Y

/-! QH: the law's own rows. -/
namespace Y
open PySem PySem.Spec PyProof.Rows L2 Ns
def spRow (K : PySem.W.Frag) : Sp := fun as H Q _ => ∃ (x : Addr) (ws : List Str), as = [.ref x] ∧ H x = some (.lst (txs ws)) ∧ ws ≠ [] ∧ (∀ s ∈ ws, s.length ≤ 600) ∧
  (rowP ws = none → ∀ H', Same H H' → Q .non H') ∧
  (∀ c, rowP ws = some (.inl c) → ∀ (t : Addr) (H' : Hp), H' t = some (.tup [.str c.1, .str c.2.1, .int c.2.2]) → Same H H' → Q (.ref t) H') ∧
  (∀ r, rowP ws = some (.inr r) → ∀ (t : Addr) (H' : Hp), H' t = some (.tup [.str r.1, .str r.2.1, .int r.2.2.1, .int r.2.2.2]) → Same H H' → Q (.ref t) H')
theorem cab_yes {s e n : Str} (zl : n.length ≤ 600) (h : cableD (.tuple [.str s, .str e, numD (numL n)]) = true) : ∃ v, numL n = some v ∧ rowP ["cable", s, e, n] = some (.inl (s, e, v)) := by
  cases en : numL n with
  | none => rw [en] at h; simp [cableD, isCnt, numD] at h
  | some v =>
    rw [en] at h
    have h' : cableD (.tuple [.str s, .str e, .int v]) = true := h
    have h0 : 0 ≤ v := by
      simp [cableD, isCnt] at h'
      omega
    have ep := num_down en h0 zl
    exact ⟨v, rfl, by simp [rowP, ep, h']⟩
theorem cab_no {s e n : Str} (h : ¬ cableD (.tuple [.str s, .str e, numD (numL n)]) = true) : rowP ["cable", s, e, n] = none := by
  cases ep : numP n with
  | none => simp [rowP, ep]
  | some v =>
    rw [num_up ep] at h
    have h' : ¬ cableD (.tuple [.str s, .str e, .int v]) = true := h
    simp [rowP, ep, h']
theorem car_yes {s e r n : Str} (zr : r.length ≤ 600) (zl : n.length ≤ 600) (h : carT (.tuple [.str s, .str e, numD (numL r), numD (numL n)]) = true) : ∃ u v, numL r = some u ∧ numL n = some v ∧ rowP ["car", s, e, r, n] = some (.inr (s, e, u, v)) := by
  cases er : numL r with
  | none => rw [er] at h; simp [carT, isPos, numD] at h
  | some u =>
    cases en : numL n with
    | none => rw [en] at h; simp [carT, isCnt, numD] at h
    | some v =>
      rw [er, en] at h
      have h' : carT (.tuple [.str s, .str e, .int u, .int v]) = true := h
      have h0 : 0 ≤ u ∧ 0 ≤ v := by
        simp [carT, isCnt, isPos] at h'
        omega
      have ep := num_down er h0.1 zr
      have eq := num_down en h0.2 zl
      exact ⟨u, v, rfl, rfl, by simp [rowP, ep, eq, h']⟩
theorem car_no {s e r n : Str} (h : ¬ carT (.tuple [.str s, .str e, numD (numL r), numD (numL n)]) = true) : rowP ["car", s, e, r, n] = none := by
  cases ep : numP r with
  | none => simp [rowP, ep]
  | some u =>
    cases eq : numP n with
    | none => simp [rowP, ep, eq]
    | some v =>
      rw [num_up ep, num_up eq] at h
      have h' : ¬ carT (.tuple [.str s, .str e, .int u, .int v]) = true := h
      simp [rowP, ep, eq, h']
section
variable {P : Program} {w : World} {K : PySem.W.Frag} {mg : Str → Option Value} {base : Heap}
theorem scRo : FnScope ["words", "row"] ["words"] (defScope sRow) := ⟨rfl, rfl, rfl, by decide +kernel, rfl, by decide +kernel, by decide +kernel⟩
theorem ok_row {f fN fB fR : Addr} {fd dN dB dR : FuncData} (F : Fun K "_law_row" "_law_row" sRow f fd) (T : Nat0 mg)
    (GN : FnOk P w K mg base CX0 1 fN dN ["word"] (spNum numL)) (FN : Fun K "_law_number" "_law_number" sNumber fN dN) (mN : mg "_law_number" = some (.ref fN)) (bN : Binds K dN ["word"] [])
    (GB : FnOk P w K mg base CX0 3 fB dB ["thing"] (spTellS K cableD)) (FB : Fun K "_law_is_cable" "_law_is_cable" sLIsCable fB dB) (mB : mg "_law_is_cable" = some (.ref fB)) (bB : Binds K dB ["thing"] [])
    (GR : FnOk P w K mg base CX0 3 fR dR ["thing"] (spTellS K carT)) (FR : Fun K "_law_is_car" "_law_is_car" sLIsCar fR dR) (mR : mg "_law_is_car" = some (.ref fR)) (bR : Binds K dR ["thing"] []) :
    FnOk P w K mg base CX0 4 f fd ["words"] (spRow K) := by
  refine F.ok scRo (fun as H Q E h => ?_) (fun cdv A outer s H as Q E hr h => ?_)
  · obtain ⟨x, ws, rfl, _⟩ := h
    rfl
  · obtain ⟨x, ws, rfl, hx, ne, wl, k0, k1, k2⟩ := h
    have hr1 : Room 1 _ := hr.mono (by decide)
    refine ⟨_, pss_cons (ps_if (PW.pt (pw_and (pt_cmpR op_eq (pe_ix ix_list (pv 0) pe_int (fun _ _ => rfl)) pe_str (nomark _)) (pw_and1 (pt_cmpR op_eq (pe_callB call_len_seq (by rfl) T.len PySem.boot_len (pa_cons (pv 0) pa_nil)) pe_int (nomark _)))))
        (pss_cons (ps_set (i := 1) scRo.nd rfl (.inl rfl) (pe_tup (pa_cons (pe_ix ix_list (pv 0) pe_int (fun _ _ => rfl)) (pa_cons (pe_ix ix_list (pv 0) pe_int (fun _ _ => rfl)) (pa_cons (pe_call GN hr1 rfl mN FN.kp bN .nil pass0 (pa_cons (pe_ix ix_list (pv 0) pe_int (fun _ _ => rfl)) pa_nil)) pa_nil)))))
        (pss_one (ps_ret (pe_ifExp (pt_val (pe_call GB hr rfl mB FB.kp bB .nil pass0 (pa_cons (pv 1) pa_nil))) (pv 1) pe_non)))) pss_nil)
      (pss_cons (ps_if (PW.pt (pw_and (pt_cmpR op_eq (pe_ix ix_list (pv 0) pe_int (fun _ _ => rfl)) pe_str (nomark _)) (pw_and1 (pt_cmpR op_eq (pe_callB call_len_seq (by rfl) T.len PySem.boot_len (pa_cons (pv 0) pa_nil)) pe_int (nomark _)))))
        (pss_cons (ps_set (i := 1) scRo.nd rfl (.inl rfl) (pe_tup (pa_cons (pe_ix ix_list (pv 0) pe_int (fun _ _ => rfl)) (pa_cons (pe_ix ix_list (pv 0) pe_int (fun _ _ => rfl)) (pa_cons (pe_call GN hr1 rfl mN FN.kp bN .nil pass0 (pa_cons (pe_ix ix_list (pv 0) pe_int (fun _ _ => rfl)) pa_nil)) (pa_cons (pe_call GN hr1 rfl mN FN.kp bN .nil pass0 (pa_cons (pe_ix ix_list (pv 0) pe_int (fun _ _ => rfl)) pa_nil)) pa_nil))))))
        (pss_one (ps_ret (pe_ifExp (pt_val (pe_call GR hr rfl mR FR.kp bR .nil pass0 (pa_cons (pv 1) pa_nil))) (pv 1) pe_non)))) pss_nil)
      (pss_one (ps_ret pe_non))), ?_⟩
    have eqS : ∀ {a b : Str}, decide (V.str a = V.str b) = decide (a = b) := fun {a b} => decide_eq_decide.mpr ⟨fun z => by injection z, fun z => by rw [z]⟩
    obtain ⟨w0, wr, rfl⟩ : ∃ a r, ws = a :: r := by
      cases ws with
      | nil => exact absurd rfl ne
      | cons a r => exact ⟨a, r, rfl⟩
    refine ⟨_, rfl, x, _, 0, .str w0, rfl, rfl, SqL.of hx, at0, rfl, _, rfl, ?_⟩
    rw [eqS]
    have nocar : "cable" ≠ ("car" : Str) := by decide +kernel
    have tl : (txs (w0 :: wr)).length = wr.length + 1 := List.length_map _
    have notcable : (w0 = "cable" → wr.length ≠ 3) → (w0 = "car" → wr.length ≠ 4) → rowP (w0 :: wr) = none := fun h1 h2 => by
      unfold rowP
      split
      · rename_i a s e n q
        cases q
        rw [if_neg (fun z => h1 z rfl)]
      · rename_i a y kn r n q
        cases q
        rw [if_neg (fun z => h2 z rfl)]
      · rfl
    refine ite2 (fun hc => ?_) (fun hc => ?_)
    · have hc : w0 = "cable" := of_decide_eq_true hc
      subst hc
      refine ⟨_, rfl, x, _, rfl, .inl (SqL.of hx), rfl, _, rfl, ?_⟩
      rw [tl]
      refine ite2 (fun h4 => ?_) (fun h4 => ?_)
      · have h4 : wr.length = 3 := by
          have := of_decide_eq_true h4
          injection this with this
          omega
        match wr, h4 with
        | [s1, e1, n1], _ =>
          have z1 := wl s1 (by simp)
          have z2 := wl e1 (by simp)
          have z3 := wl n1 (by simp)
          refine ⟨_, rfl, x, _, 1, _, rfl, rfl, SqL.of hx, at1, _, rfl, x, _, 2, _, rfl, rfl, SqL.of hx, at2, _, rfl, x, _, 3, _, rfl, rfl, SqL.of hx, at3, n1, rfl, z3, fun H1 M1 => ⟨by show 3 ≤ sizeLine; decide, fun t ht => ?_⟩⟩
          have M2 := same_new (o := .tup [.str s1, .str e1, numV (numL n1)]) M1 ht
          have et : upd H1 t (.tup [.str s1, .str e1, numV (numL n1)]) t = some (.tup [.str s1, .str e1, numV (numL n1)]) := upd_same
          generalize upd H1 t (.tup [.str s1, .str e1, numV (numL n1)]) = H2 at M2 et ⊢
          refine ⟨_, rfl, .ref t, .tuple [.str s1, .str e1, numD (numL n1)], rfl, .tup (SqT.of et) (.cons (.str _) (.cons (.str _) (.cons (dat_num _) .nil))), ?_, fun H3 M3 => ?_⟩
          · simp only [Bd]
            exact ⟨by show 3 ≤ 1000; decide, bdA_iff.mpr fun u hu => by
              simp only [List.mem_cons, List.not_mem_nil, or_false] at hu
              rcases hu with rfl | rfl | rfl
              · exact bd_word z1
              · exact bd_word z2
              · exact numL_bd z3⟩
          have M23 := M2.trans M3
          refine ⟨_, rfl, ?_⟩
          refine ite2 (fun h => ?_) (fun h => ?_)
          · obtain ⟨v, en, er⟩ := cab_yes z3 h
            rw [en] at et
            exact ⟨_, rfl, k1 _ er t H3 (M3 _ _ et) M23⟩
          · exact k0 (cab_no h) H3 M23
      · have h4 : wr.length ≠ 3 := fun z => h4 (by rw [z]; rfl)
        refine ⟨_, rfl, x, _, 0, .str "cable", rfl, rfl, SqL.of hx, at0, rfl, _, rfl, ?_⟩
        rw [eqS]
        refine ite2 (fun h => (nocar (of_decide_eq_true h)).elim) (fun _ => ?_)
        exact k0 (notcable (fun _ => h4) (fun z => (nocar z).elim)) H (Same.refl H)
    have hc : w0 ≠ "cable" := fun z => hc (decide_eq_true z)
    refine ⟨_, rfl, x, _, 0, .str w0, rfl, rfl, SqL.of hx, at0, rfl, _, rfl, ?_⟩
    rw [eqS]
    refine ite2 (fun hr => ?_) (fun hr => ?_)
    · have hr : w0 = "car" := of_decide_eq_true hr
      subst hr
      refine ⟨_, rfl, x, _, rfl, .inl (SqL.of hx), rfl, _, rfl, ?_⟩
      rw [tl]
      refine ite2 (fun h5 => ?_) (fun h5 => ?_)
      · have h5 : wr.length = 4 := by
          have := of_decide_eq_true h5
          injection this with this
          omega
        match wr, h5 with
        | [s1, e1, r1, n1], _ =>
          have z1 := wl s1 (by simp)
          have z2 := wl e1 (by simp)
          have z3 := wl r1 (by simp)
          have z4 := wl n1 (by simp)
          refine ⟨_, rfl, x, _, 1, _, rfl, rfl, SqL.of hx, at1, _, rfl, x, _, 2, _, rfl, rfl, SqL.of hx, at2, _, rfl, x, _, 3, _, rfl, rfl, SqL.of hx, at3, r1, rfl, z3, fun H0 M0 => ⟨_, rfl, x, _, 4, _, rfl, rfl, SqL.of (M0 _ _ hx), atI_nat (j := 4) rfl, n1, rfl, z4, fun H1 M1 => ⟨by show 4 ≤ sizeLine; decide, fun t ht => ?_⟩⟩⟩
          have M2 := same_new (o := .tup [.str s1, .str e1, numV (numL r1), numV (numL n1)]) (M0.trans M1) ht
          have et : upd H1 t (.tup [.str s1, .str e1, numV (numL r1), numV (numL n1)]) t = some (.tup [.str s1, .str e1, numV (numL r1), numV (numL n1)]) := upd_same
          generalize upd H1 t (.tup [.str s1, .str e1, numV (numL r1), numV (numL n1)]) = H2 at M2 et ⊢
          refine ⟨_, rfl, .ref t, .tuple [.str s1, .str e1, numD (numL r1), numD (numL n1)], rfl, .tup (SqT.of et) (.cons (.str _) (.cons (.str _) (.cons (dat_num _) (.cons (dat_num _) .nil)))), ?_, fun H3 M3 => ?_⟩
          · simp only [Bd]
            exact ⟨by show 4 ≤ 1000; decide, bdA_iff.mpr fun u hu => by
              simp only [List.mem_cons, List.not_mem_nil, or_false] at hu
              rcases hu with rfl | rfl | rfl | rfl
              · exact bd_word z1
              · exact bd_word z2
              · exact numL_bd z3
              · exact numL_bd z4⟩
          have M23 := M2.trans M3
          refine ⟨_, rfl, ?_⟩
          refine ite2 (fun h => ?_) (fun h => ?_)
          · obtain ⟨u1, v, eu, en, er⟩ := car_yes z3 z4 h
            rw [eu, en] at et
            exact ⟨_, rfl, k2 _ er t H3 (M3 _ _ et) M23⟩
          · exact k0 (car_no h) H3 M23
      · have h5 : wr.length ≠ 4 := fun z => h5 (by rw [z]; rfl)
        exact k0 (notcable (fun z => (hc z).elim) (fun _ => h5)) H (Same.refl H)
    · have hr : w0 ≠ "car" := fun z => hr (decide_eq_true z)
      exact k0 (notcable (fun z => (hc z).elim) (fun z => (hr z).elim)) H (Same.refl H)
end
end Y

/-! QI: the law's own reading. -/
namespace Y
open PySem PySem.Spec PyProof.Rows L2 Ns
theorem rowP_cab {a : Str} {r : List Str} {c : Cab} (h : rowP (a :: r) = some (.inl c)) : a = "cable" := by
  unfold rowP at h
  split at h
  · rename_i b s e n q
    cases q
    by_cases e : a = "cable"
    · exact e
    · rw [if_neg e] at h; cases h
  · rename_i b y kn u n q
    cases q
    by_cases e : a = "car"
    · rw [if_pos e] at h
      split at h
      · split at h <;> cases h
      · cases h
    · rw [if_neg e] at h; cases h
  · cases h
theorem rowP_car {a : Str} {r : List Str} {c : Car} (h : rowP (a :: r) = some (.inr c)) : a = "car" := by
  unfold rowP at h
  split at h
  · rename_i b s e n q
    cases q
    by_cases e : a = "cable"
    · rw [if_pos e] at h
      split at h
      · split at h <;> cases h
      · cases h
    · rw [if_neg e] at h; cases h
  · rename_i b y kn u n q
    cases q
    by_cases e : a = "car"
    · exact e
    · rw [if_neg e] at h; cases h
  · cases h
def spReading (K : PySem.W.Frag) : Sp := fun as H Q _ => ∃ z : Str, as = [.str z] ∧ z.length ≤ 1000000 ∧ ReadQ ((Txt.split z "\n").map lineW) ∧ (match readP ((Txt.split z "\n").map lineW) 0 ([], []) with
    | .ok (cs, rs) => ∀ (y : V) (cs' : List Cab) (rs' : List Car) (t : Addr) (H' : Hp), Srt cs rs cs' rs' → YardV K H' y cs' rs' → H' t = some (.tup [.str "yard", y]) → Same H H' → Q (.ref t) H'
    | .error i => ∀ (t : Addr) (H' : Hp), H' t = some (.tup [.str "bad", .int i]) → Same H H' → Q (.ref t) H')
section
variable {P : Program} {w : World} {K : PySem.W.Frag} {mg : Str → Option Value} {base : Heap}
theorem scRg : FnScope ["text", "cables", "cars", "at", "line", "words", "row", "word", "key", "name"] ["text"] (defScope sReading) := ⟨rfl, rfl, rfl, by decide +kernel, rfl, by decide +kernel, by decide +kernel⟩
theorem ok_reading {f fR : Addr} {fd dR : FuncData} (F : Fun K "_law_reading" "_law_reading" sReading f fd) (T : Nat0 mg) (hE : mg "enumerate" = none)
    (GR : FnOk P w K mg base CX0 4 fR dR ["words"] (spRow K)) (FR : Fun K "_law_row" "_law_row" sRow fR dR) (mR : mg "_law_row" = some (.ref fR)) (bR : Binds K dR ["words"] []) :
    FnOk P w K mg base CX0 5 f fd ["text"] (spReading K) := by
  refine F.ok scRg (fun as H Q E h => ?_) (fun cdv A outer s H as Q E hr h => ?_)
  · obtain ⟨z, rfl, _⟩ := h
    rfl
  · obtain ⟨z, rfl, zl, ⟨l60, wl⟩, k⟩ := h
    have hu := hu_of hr
    refine ⟨_, pss_cons (ps_asg (pe_tup (pa_cons pe_dnewT (pa_cons pe_dnewK pa_nil))) (pg_tup (by rfl) (pgs_cons (pg_name (i := 1) scRg.nd rfl (.inr rfl)) (pgs_cons (pg_name (i := 2) scRg.nd rfl (.inr rfl)) pgs_nil))))
      (pss_cons (ps_for PassesOwn.never rfl (pi_enum (by rfl) hE (pa_cons (pe_split (pv 0) pe_str) pa_nil)) (pg_tup rfl (pgs_cons (pg_name (i := 3) scRg.nd rfl (.inl rfl)) (pgs_cons (pg_name (i := 4) scRg.nd rfl (.inl rfl)) pgs_nil)))
        (pss_cons (ps_setLc (i := 5) (own := [("word", 7)]) (g := gName 7) rfl scRg.nd rfl rfl (sw_true rfl rfl rfl (by decide +kernel)) (pi_list (pe_split (pe_ix ix_list (pe_split (pv 4) pe_str) pe_int (fun _ _ => rfl)) pe_str)) (blkOk_by (N := ["text", "cables", "cars", "at", "line", "words", "row", "word", "key", "name"]) (sc := defScope sReading) (by decide +kernel))
          (fun _ _ _ _ _ => pg_name (i := 7) scRg.nd rfl (Or.inl rfl)) (fun _ _ _ _ _ => pts_one (pt_cmpR op_ne (pv 7) pe_str (nomark _))) (fun _ _ _ _ _ => pv 7))
        (pss_one (ps_if (pt_cmpR (op_neE0 hr.units) (pv 5) (pe_lst pa_nil) (nomark _))
          (pss_cons (ps_set (i := 6) scRg.nd rfl (.inl rfl) (pe_call GR hr rfl mR FR.kp bR .nil pass0 (pa_cons (pv 5) pa_nil)))
          (pss_cons (ps_if (PW.pt (pw_or (pt_cmpR op_isN (pv 6) pe_non (nomark _)) (pw_or (PW.pt (pw_and (pt_cmpR op_eq (pe_ix ix_list (pv 5) pe_int (fun _ _ => rfl)) pe_str (nomark _)) (pw_and1 (pt_cmp (pc_din hu (pe_slice sl_tupA (pv 6) po_none (po_some pe_int)) (pv 1))))))
              (pw_or1 (PW.pt (pw_and (pt_cmpR op_eq (pe_ix ix_list (pv 5) pe_int (fun _ _ => rfl)) pe_str (nomark _)) (pw_and1 (pt_cmp (pc_din hu (pe_ix ix_tup (pv 6) pe_int (fun _ _ => rfl)) (pv 2))))))))))
            (pss_one (ps_ret (pe_tup (pa_cons pe_str (pa_cons (pv 3) pa_nil))))) pss_nil)
          (pss_one (ps_if (pt_cmpR op_eq (pe_ix ix_list (pv 5) pe_int (fun _ _ => rfl)) pe_str (nomark _)) (pss_one (ps_dput hu (pv 1) (pe_slice sl_tupA (pv 6) po_none (po_some pe_int)) (pv 6) rfl)) (pss_one (ps_dput hu (pv 2) (pe_ix ix_tup (pv 6) pe_int (fun _ _ => rfl)) (pv 6) rfl)))))) pss_nil))))
      (pss_one (ps_ret (pe_tup (pa_cons pe_str (pa_cons (pe_tup (pa_cons (pe_callTy call_tuple_of (by rfl) T.tuple (by decide +kernel) (pa_cons (pe_lc (own := [("key", 8)]) (g := gName 8) (tt := tYes) (te := tDGet (tVar 1) (tVar 8)) rfl scRg.nd (pi_list (pe_callB (cr_sortDT rfl hr.units) (by rfl) T.sorted (by decide +kernel) (pa_cons (pv 1) pa_nil)))
          (blkOk_by (N := ["text", "cables", "cars", "at", "line", "words", "row", "word", "key", "name"]) (sc := defScope sReading) (by decide +kernel)) (fun _ _ _ _ _ => pg_name (i := 8) scRg.nd rfl (Or.inl rfl)) (fun _ _ _ _ _ => pts_nil)
          (fun _ _ _ _ _ => by exact pe_dget hu (pv 1) (pv 8) (fun _ _ => rfl))) pa_nil))
        (pa_cons (pe_callTy call_tuple_of (by rfl) T.tuple (by decide +kernel) (pa_cons (pe_lc (own := [("name", 9)]) (g := gName 9) (tt := tYes) (te := tDGet (tVar 2) (tVar 9)) rfl scRg.nd (pi_list (pe_callB (call_sortedD rfl) (by rfl) T.sorted (by decide +kernel) (pa_cons (pv 2) pa_nil)))
          (blkOk_by (N := ["text", "cables", "cars", "at", "line", "words", "row", "word", "key", "name"]) (sc := defScope sReading) (by decide +kernel)) (fun _ _ _ _ _ => pg_name (i := 9) scRg.nd rfl (Or.inl rfl)) (fun _ _ _ _ _ => pts_nil)
          (fun _ _ _ _ _ => by exact pe_dget hu (pv 2) (pv 9) (fun _ _ => rfl))) pa_nil)) pa_nil))) pa_nil)))))), ?_⟩
    refine fun d hd q hq => ⟨by show 2 ≤ sizeLine; decide, fun t ht => ⟨t, _, rfl, SqT.of upd_same, rfl, _, _, rfl, _, _, rfl, rfl, ?_⟩⟩
    have ndq : d ≠ q := fun e => by rw [← e, upd_same] at hq; cases hq
    have hq0 : H q = none := by rw [upd_ne ndq.symm] at hq; exact hq
    have e1 := s3u (o := .tup [.ref d, .ref q]) ht (s3u (o := .dK []) hq (upd_same (H := H) (a := d) (o := .dT [])))
    have e2 := s3u (o := .tup [.ref d, .ref q]) ht (upd_same (H := upd H d (.dT [])) (a := q) (o := .dK []))
    have m1 := same_new (o := .tup [.ref d, .ref q]) (same_new (o := .dK []) (same_new (o := .dT []) (Same.refl H) hd) hq) ht
    generalize upd (upd (upd H d (.dT [])) q (.dK [])) t (.tup [.ref d, .ref q]) = H1 at e1 e2 m1 ⊢
    clear hq ht
    have sl : z.length + 2 ≤ sizeLine := by rw [sizeLine_eq]; omega
    refine ⟨_, rfl, ⟨z, rfl⟩, z, "\n", rfl, rfl, rfl, sl, fun p hp => ⟨p, _, rfl, SqL.of upd_same, ?_⟩⟩
    have ep := upd_same (H := H1) (a := p) (o := .lst ((Txt.split z "\n").map V.str))
    have e1 := s3u (o := .lst ((Txt.split z "\n").map V.str)) hp e1
    have e2 := s3u (o := .lst ((Txt.split z "\n").map V.str)) hp e2
    have m1 := same_new (o := .lst ((Txt.split z "\n").map V.str)) m1 hp
    generalize upd H1 p (.lst ((Txt.split z "\n").map V.str)) = H2 at ep e1 e2 m1 ⊢
    have npd : p ≠ d := ne_at ep e1 (fun z => by cases z)
    have npq : p ≠ q := ne_at ep e2 (fun z => by cases z)
    have ls60 : (Txt.split z "\n").length ≤ 60 := by rw [List.length_map] at l60; exact l60
    refine for_it (walk_enum (K := K) (a := p) (xs := (Txt.split z "\n").map V.str)) (fun i σ H' => ∃ (w3 w4 w5 w6 : Option V) (cs : List Cab) (rs : List Car) (lD : List (List Key × V)) (l : List (Key × V)), σ = [some (.str z), some (.ref d), some (.ref q), w3, w4, w5, w6, none, none, none] ∧
      readP (((Txt.split z "\n").map lineW).take i) 0 ([], []) = .ok (cs, rs) ∧ (cs.map ckey).Nodup ∧ (rs.map (·.1)).Nodup ∧ cs.length ≤ i ∧ rs.length ≤ i ∧ H' d = some (.dT lD) ∧ H' q = some (.dK l) ∧ bK lD cs K (w2 H' d q) ∧ cK l rs K (w2 H' d q) ∧ Same H (w2 H' d q) ∧ w2 H' d q p = some (.lst ((Txt.split z "\n").map V.str))) ?_ ?_ ?_ ?_
    · exact ⟨none, none, none, none, [], [], [], [], rfl, rfl, List.nodup_nil, List.nodup_nil, Nat.le_refl _, Nat.le_refl _, e1, e2, .nil, .nil, w2_new hd hq0 m1, by rw [w2_ne npd npq]; exact ep⟩
    · rintro i σ H' _ ⟨_, _, _, _, _, _, _, _, _, _, _, _, _, _, _, _, _, _, _, ep'⟩
      exact SqL.of (w2_of ep').2.2
    · clear e1 e2 m1 ep
      rintro i xx σ H' H'' hi ⟨w3, w4, w5, w6, cs, rs, lD, l, rfl, run, nk, nn, lc, lr, e1, e2, bk, ck, mm, ep⟩ ⟨T', x', y', rfl, fT, rfl, hx, hy⟩
      cases (Option.some.inj hx)
      have hy : ((Txt.split z "\n").map V.str)[i]? = some y' := hy
      rw [List.getElem?_map] at hy
      obtain ⟨ln, hln, rfl⟩ := Option.map_eq_some_iff.mp hy
      have il : i < (Txt.split z "\n").length := (List.getElem?_eq_some_iff.mp hln).1
      have lnl : ln.length ≤ 1000000 := Nat.le_trans (split_each (List.mem_of_getElem? hln)) zl
      have hw : ((Txt.split z "\n").map lineW)[i]? = some (lineW ln) := by rw [List.getElem?_map, hln]; rfl
      have wls : ∀ w ∈ lineW ln, w.length ≤ 600 := wl _ (List.mem_of_getElem? hw)
      have M2 := same_new (o := .tup [.int (i : Nat), .str ln]) (Same.refl H') fT
      have et : upd H' T' (.tup [.int (i : Nat), .str ln]) T' = some (.tup [.int (i : Nat), .str ln]) := upd_same
      generalize upd H' T' (.tup [.int (i : Nat), .str ln]) = H3 at M2 et ⊢
      refine ⟨T', _, rfl, SqT.of et, rfl, _, _, rfl, _, _, rfl, rfl, ?_⟩
      obtain ⟨rest, eh⟩ := part_head (kind1 ln)
      have hl := part_le ln
      generalize eW : (Txt.partition ln "#").1 = hd' at eh hl
      have eLW : lineW ln = wordsP hd' := by unfold lineW; rw [eW]
      refine ⟨_, rfl, ⟨ln, rfl⟩, ln, "#", rfl, rfl, rfl, by rw [sizeLine_eq]; omega, fun pt hpt => ⟨pt, _, 0, .str hd', rfl, rfl, SqL.of upd_same, by rw [eh]; exact at0, ⟨hd', rfl⟩, hd', " ", rfl, rfl, rfl, by rw [sizeLine_eq]; omega, fun pa hpa => ⟨pa, rfl, ⟨_, SqL.of upd_same⟩, fun D hD => ?_⟩⟩⟩
      have M3 := same_new (o := .lst ((Txt.split ln "#").map V.str)) M2 hpt
      generalize upd H3 pt (.lst ((Txt.split ln "#").map V.str)) = G3 at M3 hpa hD ⊢
      have npD : pa ≠ D := fun e => by rw [← e, upd_same] at hD; cases hD
      have hD' : G3 D = none := by rw [upd_ne npD.symm] at hD; exact hD
      refine lc_list (K := K) (a := pa) (xs := (Txt.split hd' " ").map V.str) (fun j G => G D = some (.lst (txs (((Txt.split hd' " ").take j).filter fun w : Str => decide (w ≠ "")))) ∧ G pa = some (.lst ((Txt.split hd' " ").map V.str)) ∧ Same G3 G) ?_ ?_ ?_ ?_
      · exact ⟨by rw [List.take_zero, upd_same]; rfl, by rw [upd_ne npD, upd_same], same_new (same_new (Same.refl G3) hpa) hD⟩
      · rintro j G _ ⟨_, h, _⟩
        exact SqL.of h
      · rintro j x G hx ⟨h1, h2, h3⟩
        rw [List.getElem?_map] at hx
        obtain ⟨y, hy, rfl⟩ := Option.map_eq_some_iff.mp hx
        refine ⟨rfl, _, rfl, rfl, _, rfl, ?_⟩
        have il : j < (Txt.split hd' " ").length := (List.getElem?_eq_some_iff.mp hy).1
        refine ite2 (fun ne => ?_) (fun e => ?_)
        · have ny : y ≠ "" := fun e => by rw [e] at ne; simp at ne
          refine ⟨_, rfl, _, h1, ?_, ?_, by rw [upd_ne npD]; exact h2, same_put h3 hD'⟩
          · unfold txs
            rw [List.length_map]
            have := List.length_filter_le (fun w : Str => decide (w ≠ "")) ((Txt.split hd' " ").take j)
            rw [List.length_take] at this
            have := wordsP_len hd'
            rw [sizeLine_eq] at *
            omega
          · rw [upd_same, List.take_succ, hy, List.filter_append]
            unfold txs
            rw [List.map_append]
            simp [ny]
        · have ey : y = "" := by simpa using e
          refine ⟨?_, h2, h3⟩
          rw [h1, List.take_succ, hy, List.filter_append, ey]
          simp
      rintro G4 ⟨h1, _, h3⟩
      rw [List.length_map, List.take_length] at h1
      have ew : G4 D = some (.lst (txs (lineW ln))) := by rw [eLW]; exact h1
      have M4 : Same H' G4 := M3.trans h3
      clear h1 h3
      refine ⟨_, rfl, by show 0 ≤ sizeLine; decide, fun e he => ⟨D, e, txs (lineW ln), rfl, rfl, SqL.of (s3u he ew), SqL.of upd_same, _, rfl, ?_⟩⟩
      have M5 := same_new (o := .lst []) M4 he
      have ew5 := s3u (o := .lst []) he ew
      generalize upd G4 e (.lst []) = H5 at M5 ew5 ⊢
      refine ite2 (fun hne => ?_) (fun hemp => ?_)
      · have ne : lineW ln ≠ [] := fun e => by rw [e] at hne; cases hne
        have ew5' := ew5
        generalize eL : lineW ln = ws at *
        obtain ⟨w0, wr, rfl⟩ : ∃ a r, ws = a :: r := by
          cases ws with
          | nil => exact absurd rfl ne
          | cons a r => exact ⟨a, r, rfl⟩
        have d5 := M5 _ _ e1
        have q5 := M5 _ _ e2
        have W5 : Same (w2 H' d q) (w2 H5 d q) := w2_more M5
        have eqS : ∀ {a b : Str}, decide (V.str a = V.str b) = decide (a = b) := fun {a b} => decide_eq_decide.mpr ⟨fun z => by injection z, fun z => by rw [z]⟩
        have nocar : "cable" ≠ ("car" : Str) := by decide +kernel
        have lz : lD.length ≤ 1000000 := by rw [paired_len bk]; omega
        have lz2 : l.length ≤ 1000000 := by rw [paired_len ck]; omega
        have bad : lineP (cs, rs) (w0 :: wr) = none → ∀ H6, Same H' H6 → ∀ t, H6 t = none → Q (.ref t) (upd H6 t (.tup [.str "bad", .int i])) := fun hb H6 M6 t ht => by
          rw [readP_bad run hw hb] at k
          have k : ∀ (t : Addr) (H' : Hp), H' t = some (.tup [.str "bad", .int ((0 + i : Nat) : Int)]) → Same H H' → Q (.ref t) H' := k
          rw [Nat.zero_add] at k
          exact k t _ upd_same (same_new ((mm.trans (w2_sub _ _ _)).trans M6) ht)
        refine ⟨_, rfl, D, w0 :: wr, rfl, ew5, ne, wls, fun er H6 M6 => ?_, fun c er t6 H6 t6e M6 => ?_, fun r er t6 H6 t6e M6 => ?_⟩
        · refine ⟨_, rfl, rfl, _, rfl, ?_⟩
          refine ite2 (fun _ => ?_) (fun h => absurd rfl h)
          exact ⟨_, rfl, by show 2 ≤ sizeLine; decide, fun t ht => bad (by unfold lineP; rw [if_neg ne, er]) H6 (M5.trans M6) t ht⟩
        · have ec := rowP_cab er
          subst ec
          have d6 := M6 _ _ d5
          have q6 := M6 _ _ q5
          have x6 := M6 _ _ ew5
          refine ⟨_, rfl, rfl, _, rfl, ?_⟩
          refine ite2 (fun h => by simp at h) (fun _ => ?_)
          refine ⟨_, rfl, D, _, 0, .str "cable", rfl, rfl, SqL.of x6, at0, rfl, _, rfl, ?_⟩
          rw [eqS]
          refine ite2 (fun _ => ?_) (fun h => absurd (decide_eq_true rfl) h)
          refine ⟨_, rfl, _, rfl, t6, _, rfl, SqT.of t6e, fun e => absurd (show HT.sIx 3 3 (some (2 : Int)) = 3 from e.2) (by decide), fun _ u hu' => ?_⟩
          have et := upd_same (H := H6) (a := u) (o := .tup [.str c.1, .str c.2.1])
          have M7 := same_new (o := .tup [.str c.1, .str c.2.1]) M6 hu'
          have t6e := s3u (o := .tup [.str c.1, .str c.2.1]) hu' t6e
          have d6 := s3u (o := .tup [.str c.1, .str c.2.1]) hu' d6
          have q6 := s3u (o := .tup [.str c.1, .str c.2.1]) hu' q6
          have x6 := s3u (o := .tup [.str c.1, .str c.2.1]) hu' x6
          have ecut : cutV [V.str c.1, .str c.2.1, .int c.2.2] none (some 2) = [.str c.1, .str c.2.1] := rfl
          rw [ecut]
          generalize upd H6 u (.tup [.str c.1, .str c.2.1]) = H7 at M7 et t6e d6 q6 x6 ⊢
          refine ⟨_, rfl, d, valV lD (pK (ckey c)), rfl, DGet.t (k := pK (ckey c)) d6 et, _, rfl, ?_⟩
          refine ite2 (fun hs => ?_) (fun hs => ?_)
          · rw [bK_is bk] at hs
            exact ⟨_, rfl, by show 2 ≤ sizeLine; decide, fun t ht => bad (by unfold lineP; rw [if_neg ne, er]; exact if_pos (of_decide_eq_true hs)) H7 (M5.trans M7) t ht⟩
          · have hn : valV lD (pK (ckey c)) = none := by
              cases e : valV lD (pK (ckey c)) with
              | none => rfl
              | some _ => rw [e] at hs; exact absurd rfl hs
            refine ⟨_, rfl, D, _, 0, .str "cable", rfl, rfl, SqL.of x6, at0, rfl, _, rfl, ?_⟩
            rw [eqS]
            refine ite2 (fun h => (nocar (of_decide_eq_true h)).elim) (fun _ => ?_)
            refine ⟨_, rfl, D, _, 0, .str "cable", rfl, rfl, SqL.of x6, at0, rfl, _, rfl, ?_⟩
            rw [eqS]
            refine ite2 (fun _ => ?_) (fun h => absurd (decide_eq_true rfl) h)
            refine ⟨_, rfl, _, rfl, _, rfl, _, rfl, t6, _, rfl, SqT.of t6e, fun e => absurd (show HT.sIx 3 3 (some (2 : Int)) = 3 from e.2) (by decide), fun _ u2 hu2 => ?_⟩
            have et := upd_same (H := H7) (a := u2) (o := .tup [.str c.1, .str c.2.1])
            have M8 := same_new (o := .tup [.str c.1, .str c.2.1]) M7 hu2
            have t6e := s3u (o := .tup [.str c.1, .str c.2.1]) hu2 t6e
            have d6 := s3u (o := .tup [.str c.1, .str c.2.1]) hu2 d6
            have q6 := s3u (o := .tup [.str c.1, .str c.2.1]) hu2 q6
            rw [ecut]
            generalize upd H7 u2 (.tup [.str c.1, .str c.2.1]) = H8 at M8 et t6e d6 q6 ⊢
            refine ⟨d, _, rfl, DPut.t (k := pK (ckey c)) d6 et (Nat.lt_of_le_of_lt lz (by rw [sizeLine_eq]; decide)), ?_⟩
            rw [putK_new _ hn]
            have ntd : t6 ≠ d := ne_at t6e d6 (fun z => by cases z)
            have nin : ckey c ∉ cs.map ckey := fun z => by
              have := bK_is (k := ckey c) bk
              rw [hn, decide_eq_true z] at this
              cases this
            have hb : lineP (cs, rs) ("cable" :: wr) = some (cs ++ [c], rs) := by
              unfold lineP
              rw [if_neg ne, er]
              exact if_neg nin
            have W := (W5.trans (w2_more M8)).trans (w2_but (d := d) (q := q) (H' := upd H8 d (.dT (lD ++ [(pK (ckey c), .ref t6)]))) (.inl rfl) fun a o n e => by rw [upd_ne n]; exact e)
            have d9 : upd H8 d (.dT (lD ++ [(pK (ckey c), .ref t6)])) d = some (.dT (lD ++ [(pK (ckey c), .ref t6)])) := upd_same
            have q9 : upd H8 d (.dT (lD ++ [(pK (ckey c), .ref t6)])) q = some (.dK l) := by rw [upd_ne ndq.symm]; exact q6
            have t9 : upd H8 d (.dT (lD ++ [(pK (ckey c), .ref t6)])) t6 = some (.tup [.str c.1, .str c.2.1, .int c.2.2]) := by rw [upd_ne ntd]; exact t6e
            refine ⟨_, _, _, _, cs ++ [c], rs, _, l, rfl, readP_more run hw hb, ?_, nn, by rw [List.length_append]; show cs.length + 1 ≤ i + 1; omega, by omega, d9, q9, ?_, ck.more W, mm.trans W, W _ _ ep⟩
            · rw [List.map_append, List.nodup_append]
              refine ⟨nk, List.nodup_cons.mpr ⟨(fun z => nomatch z), List.nodup_nil⟩, fun y hy z hz => ?_⟩
              rw [List.mem_singleton.mp hz]
              rintro rfl
              exact nin hy
            · exact paired_snoc ⟨rfl, t6, rfl, sqt_w2 (SqT.of t9) d9 q9 (fun zs z => by cases z) (fun o w z => by cases z) (fun zs z => by cases z) (fun o w z => by cases z)⟩ (bk.more W)
        · have ec := rowP_car er
          subst ec
          have d6 := M6 _ _ d5
          have q6 := M6 _ _ q5
          have x6 := M6 _ _ ew5
          refine ⟨_, rfl, rfl, _, rfl, ?_⟩
          refine ite2 (fun h => by simp at h) (fun _ => ?_)
          refine ⟨_, rfl, D, _, 0, .str "car", rfl, rfl, SqL.of x6, at0, rfl, _, rfl, ?_⟩
          rw [eqS]
          refine ite2 (fun h => (nocar (of_decide_eq_true h).symm).elim) (fun _ => ?_)
          refine ⟨_, rfl, D, _, 0, .str "car", rfl, rfl, SqL.of x6, at0, rfl, _, rfl, ?_⟩
          rw [eqS]
          refine ite2 (fun _ => ?_) (fun h => absurd (decide_eq_true rfl) h)
          refine ⟨_, rfl, t6, _, 0, .str r.1, rfl, rfl, SqT.of t6e, at0, _, rfl, q, valV l (Sum.inr r.1 : Key), rfl, DGet.k (k := Sum.inr r.1) q6, _, rfl, ?_⟩
          refine ite2 (fun hs => ?_) (fun hs => ?_)
          · rw [cK_is ck] at hs
            exact ⟨_, rfl, by show 2 ≤ sizeLine; decide, fun t ht => bad (by unfold lineP; rw [if_neg ne, er]; exact if_pos (of_decide_eq_true hs)) H6 (M5.trans M6) t ht⟩
          · have hn : valV l (Sum.inr r.1 : Key) = none := by
              cases e : valV l (Sum.inr r.1 : Key) with
              | none => rfl
              | some _ => rw [e] at hs; exact absurd rfl hs
            refine ⟨_, rfl, D, _, 0, .str "car", rfl, rfl, SqL.of x6, at0, rfl, _, rfl, ?_⟩
            rw [eqS]
            refine ite2 (fun h => (nocar (of_decide_eq_true h).symm).elim) (fun _ => ?_)
            refine ⟨_, rfl, _, rfl, _, rfl, t6, _, 0, .str r.1, rfl, rfl, SqT.of t6e, at0, q, _, rfl, DPut.k (k := Sum.inr r.1) q6 (Nat.lt_of_le_of_lt lz2 (by rw [sizeLine_eq]; decide)), ?_⟩
            rw [putK_new _ hn]
            have ntq : t6 ≠ q := ne_at t6e q6 (fun z => by cases z)
            have nin : r.1 ∉ rs.map (·.1) := fun z => by
              have := cK_is (n := r.1) ck
              rw [hn, decide_eq_true z] at this
              cases this
            have hb : lineP (cs, rs) ("car" :: wr) = some (cs, rs ++ [r]) := by
              unfold lineP
              rw [if_neg ne, er]
              exact if_neg nin
            have W := (W5.trans (w2_more M6)).trans (w2_but (d := d) (q := q) (H' := upd H6 q (.dK (l ++ [((Sum.inr r.1 : Key), .ref t6)]))) (.inr rfl) fun a o n e => by rw [upd_ne n]; exact e)
            have q9 : upd H6 q (.dK (l ++ [((Sum.inr r.1 : Key), .ref t6)])) q = some (.dK (l ++ [((Sum.inr r.1 : Key), .ref t6)])) := upd_same
            have d9 : upd H6 q (.dK (l ++ [((Sum.inr r.1 : Key), .ref t6)])) d = some (.dT lD) := by rw [upd_ne ndq]; exact d6
            have t9 : upd H6 q (.dK (l ++ [((Sum.inr r.1 : Key), .ref t6)])) t6 = some (.tup [.str r.1, .str r.2.1, .int r.2.2.1, .int r.2.2.2]) := by rw [upd_ne ntq]; exact t6e
            refine ⟨_, _, _, _, cs, rs ++ [r], lD, _, rfl, readP_more run hw hb, nk, ?_, by omega, by rw [List.length_append]; show rs.length + 1 ≤ i + 1; omega, d9, q9, bk.more W, ?_, mm.trans W, W _ _ ep⟩
            · rw [List.map_append, List.nodup_append]
              refine ⟨nn, List.nodup_cons.mpr ⟨(fun z => nomatch z), List.nodup_nil⟩, fun y hy z hz => ?_⟩
              rw [List.mem_singleton.mp hz]
              rintro rfl
              exact nin hy
            · exact paired_snoc ⟨rfl, t6, rfl, sqt_w2 (SqT.of t9) d9 q9 (fun zs z => by cases z) (fun o w z => by cases z) (fun zs z => by cases z) (fun o w z => by cases z)⟩ (ck.more W)
      · have emp : lineW ln = [] := by
          cases e : lineW ln with
          | nil => rfl
          | cons a r => rw [e] at hemp; exact absurd rfl hemp
        have hb : lineP (cs, rs) (lineW ln) = some (cs, rs) := by
          unfold lineP
          rw [if_pos emp]
        have W5 : Same (w2 H' d q) (w2 H5 d q) := w2_more M5
        exact ⟨_, _, _, _, cs, rs, lD, l, rfl, readP_more run hw hb, nk, nn, by omega, by omega, M5 _ _ e1, M5 _ _ e2, bk.more W5, ck.more W5, mm.trans W5, W5 _ _ ep⟩
    clear e1 e2 m1 ep
    rintro σ H3 ⟨w3, w4, w5, w6, cs, rs, lD, l, rfl, run, nk, nn, lc, lr, g1, g2, bk, ck, mm, _⟩
    have m3 : Same H H3 := mm.trans (w2_sub _ _ _)
    rw [List.length_map] at lc lr
    rw [List.take_of_length_le (by rw [List.length_map, List.length_map]; exact Nat.le_refl _)] at run
    rw [run] at k
    have k : ∀ (y : V) (cs' : List Cab) (rs' : List Car) (t : Addr) (H' : Hp), Srt cs rs cs' rs' → YardV K H' y cs' rs' → H' t = some (.tup [.str "yard", y]) → Same H H' → Q (.ref t) H' := k
    refine ⟨_, rfl, d, lD, cs.map ckey, rfl, Rd.of g1, bK_keys bk, by rw [List.length_map]; omega, fun p1 qs hp1 pq => ?_⟩
    refine ⟨p1, rfl, ⟨_, .inl (.inl upd_same)⟩, fun D1 hD => ?_⟩
    have npd1 : p1 ≠ D1 := fun e => by rw [← e, upd_same] at hD; cases hD
    have hD' : H3 D1 = none := by rw [upd_ne npd1.symm] at hD; exact hD
    refine lc_list (K := K) (a := p1) (xs := qs.map V.ref) (fun i H' => ∃ (ys : List V) (cs' : List Cab), H' D1 = some (.lst ys) ∧ ys.length = i ∧ cs'.map ckey = ((cs.map ckey).mergeSort (PySem.W.dataLe false pD)).take i ∧ (∀ x ∈ cs', x ∈ cs) ∧ Paired (CabV K (w2 H3 d q)) ys cs' ∧ H' p1 = some (.lst (qs.map V.ref)) ∧ Same H3 H') ?_ ?_ ?_ ?_
    · exact ⟨[], [], upd_same, rfl, by rw [List.take_zero]; rfl, (fun _ z => nomatch z), .nil, by rw [upd_ne npd1, upd_same], same_new (same_new (Same.refl H3) hp1) hD⟩
    · rintro i H' hi ⟨ys, cs', _, _, _, _, _, h, _⟩
      exact .inl (.inl h)
    · rintro i x H' hx ⟨ys, cs', h1, h2, h3, h4, h5, h6, h7⟩
      rw [List.getElem?_map] at hx
      obtain ⟨t', ht', rfl⟩ := Option.map_eq_some_iff.mp hx
      obtain ⟨kx, hkx, hq'⟩ := paired_at pq ht'
      obtain ⟨c, hc, rfl⟩ := List.mem_map.mp ((List.mergeSort_perm _ _).mem_iff.mp (List.mem_of_getElem? hkx))
      obtain ⟨xv, hv, hcv⟩ := bK_get bk nk hc
      have dg := DGet.t (k := pK (ckey c)) (h7 _ _ g1) (h7 _ _ hq')
      rw [hv] at dg
      refine ⟨rfl, _, rfl, _, rfl, d, xv, rfl, dg, ys, h1, by rw [h2]; exact small1000 (by have := (List.getElem?_eq_some_iff.mp hkx).1; rw [List.length_mergeSort, List.length_map] at this; omega), ys ++ [xv], cs' ++ [c], upd_same, by rw [List.length_append, h2]; rfl, ?_, fun x hx => ?_, paired_snoc hcv h5, by rw [upd_ne npd1]; exact h6, same_put h7 hD'⟩
      · rw [List.map_append, h3, List.take_succ, hkx]
        rfl
      · rcases List.mem_append.mp hx with z | z
        · exact h4 x z
        · rw [List.mem_singleton.mp z]
          exact hc
    rintro H4 ⟨ys, cs', h1, h2, h3, h4, h5, h6, h7⟩
    have ea : cs'.map ckey = (cs.map ckey).mergeSort (PySem.W.dataLe false pD) := by
      rw [h3, List.take_of_length_le]
      rw [List.length_map, ← paired_len pq]
      exact Nat.le_refl _
    have cv : Paired (CabV K H4) ys cs' := paired_imp (fun x c h => h.more ((w2_sub _ _ _).trans h7)) h5
    refine ⟨D1, ys, rfl, .inl ⟨SqL.of h1, fun tc htc => ?_⟩⟩
    have m5 : Same H4 (upd H4 tc (.tup ys)) := same_new (Same.refl H4) htc
    have etc : upd H4 tc (.tup ys) tc = some (.tup ys) := upd_same
    have cv5 : Paired (CabV K (upd H4 tc (.tup ys))) ys cs' := paired_imp (fun _ _ h => h.more m5) cv
    generalize upd H4 tc (.tup ys) = H5 at m5 etc cv5 ⊢
    have g5 := m5 _ _ (h7 _ _ g2)
    refine ⟨_, rfl, q, l, rs.map (·.1), rfl, Rd.of g5, by rw [cK_keys ck, List.map_map]; rfl, by rw [List.length_map]; omega, fun ns p2 perm srt hp2 => ⟨p2, rfl, ⟨_, .inl (.inl upd_same)⟩, fun D2 hD2 => ?_⟩⟩
    have npD2 : p2 ≠ D2 := fun e => by rw [← e, upd_same] at hD2; cases hD2
    have hD2' : H5 D2 = none := by rw [upd_ne npD2.symm] at hD2; exact hD2
    have lns : ns.length = rs.length := by rw [perm.length_eq, List.length_map]
    refine lc_list (K := K) (a := p2) (xs := ns.map V.str) (fun i H' => ∃ (zs : List V) (rs' : List Car), H' D2 = some (.lst zs) ∧ zs.length = i ∧ rs'.map (·.1) = ns.take i ∧ (∀ r ∈ rs', r ∈ rs) ∧ Paired (CarV K (w2 H3 d q)) zs rs' ∧ H' p2 = some (.lst (ns.map V.str)) ∧ Same H5 H') ?_ ?_ ?_ ?_
    · exact ⟨[], [], upd_same, rfl, by rw [List.take_zero]; rfl, (fun _ z => nomatch z), .nil, by rw [upd_ne npD2, upd_same], same_new (same_new (Same.refl H5) hp2) hD2⟩
    · rintro i H' hi ⟨zs, rs', _, _, _, _, _, h, _⟩
      exact .inl (.inl h)
    · rintro i x H' hx ⟨zs, rs', j1, j2, j3, j4, j5, j6, j7⟩
      rw [List.getElem?_map] at hx
      obtain ⟨z, hz, rfl⟩ := Option.map_eq_some_iff.mp hx
      obtain ⟨r, hr', rfl⟩ := List.mem_map.mp (perm.mem_iff.mp (List.mem_of_getElem? hz))
      obtain ⟨xv, hv, hcv⟩ := cK_get ck nn hr'
      have dg := DGet.k (k := (Sum.inr r.1 : Key)) (j7 _ _ g5)
      rw [hv] at dg
      refine ⟨rfl, _, rfl, _, rfl, q, xv, rfl, dg, zs, j1, by rw [j2]; exact small1000 (by have := (List.getElem?_eq_some_iff.mp hz).1; omega), zs ++ [xv], rs' ++ [r], upd_same, by rw [List.length_append, j2]; rfl, ?_, fun x hx => ?_, paired_snoc hcv j5, by rw [upd_ne npD2]; exact j6, same_put j7 hD2'⟩
      · rw [List.map_append, j3, List.take_succ, hz]
        rfl
      · rcases List.mem_append.mp hx with y | y
        · exact j4 x y
        · rw [List.mem_singleton.mp y]
          exact hr'
    rintro H6 ⟨zs, rs', j1, j2, j3, j4, j5, j6, j7⟩
    rw [List.length_map, List.take_length] at j3
    refine ⟨D2, zs, rfl, .inl ⟨SqL.of j1, fun tr htr => ?_⟩⟩
    have m7 : Same H6 (upd H6 tr (.tup zs)) := same_new (Same.refl H6) htr
    have etr : upd H6 tr (.tup zs) tr = some (.tup zs) := upd_same
    generalize upd H6 tr (.tup zs) = H7 at m7 etr ⊢
    refine ⟨by show 2 ≤ sizeLine; decide, fun ty hty => ?_⟩
    have m8 : Same H7 (upd H7 ty (.tup [.ref tc, .ref tr])) := same_new (Same.refl H7) hty
    have m58 := j7.trans (m7.trans m8)
    have m38 : Same H3 (upd H7 ty (.tup [.ref tc, .ref tr])) := h7.trans (m5.trans m58)
    have lrs : rs.length = rs'.length := by rw [← lns, ← j3, List.length_map]
    have nrs : (rs'.map (·.1)).Nodup := by rw [j3]; exact perm.nodup_iff.mpr nn
    have yv : YardV K (upd H7 ty (.tup [.ref tc, .ref tr])) (.ref ty) cs' rs' := ⟨ty, tc, tr, ys, zs, rfl, SqT.of upd_same, SqT.of (m58 _ _ etc), SqT.of (m8 _ _ etr), paired_imp (fun _ _ h => h.more m58) cv5, paired_imp (fun _ _ h => h.more ((w2_sub _ _ _).trans m38)) j5⟩
    generalize upd H7 ty (.tup [.ref tc, .ref tr]) = H8 at yv m38 ⊢
    exact ⟨by show 2 ≤ sizeLine; decide, fun tf htf => k (.ref ty) cs' rs' tf _ ⟨ea, h4, by rw [j3]; exact srt, (perm_of (nodup_map nrs) j4 lrs).symm⟩ (yv.more (same_new (Same.refl _) htf)) upd_same (same_new (m3.trans m38) htf)⟩
end
end Y

/-! QJ: what the law is told. -/
namespace Ns
open PySem PySem.Spec PyProof.Rows L2
abbrev offs (i : Nat) (D : Ends) : Ends := { nx := fun σ' H' => D.nx (σ'.set i none) H', rt := D.rt, bk := fun σ' H' => D.bk (σ'.set i none) H', ct := fun σ' H' => D.ct (σ'.set i none) H' }
def wAs2 (K : PySem.W.Frag) (c1 c2 : Value) (i : Nat) (t1 t2 : Addr → Value → Option Addr → TS) (D : Ends) : WX := fun cls d σ H => ∃ b, PySem.W.exmOne K cls c1 = some b ∧ (b = true → ∀ a, H a = none → t1 a cls d (offs i D) (σ.set i (some (.ref a))) H) ∧
  (b = false → PySem.W.exmOne K cls c2 = some true ∧ ∀ a, H a = none → t2 a cls d (offs i D) (σ.set i (some (.ref a))) H)
section
variable {X : Cx} {x1 x2 n : Str} {c1 c2 : Value} {i : Nat} {body suite1 suite2 : List Stmt} {b1 b2 : Stmt} {p1 p2 p3 p4 pos : Pos} {tb : WX → TS} {t1 t2 : Addr → Value → Option Addr → TS}
theorem ps_try_as2 (hs : X.stack = X.env :: X.outer) (hf : X.env.frame = some X.env.locals) (hN : X.N.Nodup) (hi : X.N[i]? = some n) (hln : X.env.kindOf n = some .local) (hc1 : Names X x1 c1) (hc2 : Names X x2 c2)
    (hb : ∀ (W : WX) (pn : List (Addr × Obj)) (xe : Value → Shared → Prop), Takes (X.tr pn xe) W → PassesOwn (model X.prog X.w) X.A X.env xe → PSs (X.tr pn xe) body (tb W))
    (h1 : ∀ (a : Addr) (oe : Obj) (cls : Value) (d : Option Addr) (pn : List (Addr × Obj)), Zc cls d oe → (∃ vs, oe.data = .fields vs) → PSs (X.suite a ((a, oe) :: pn)) (b1 :: suite1) (t1 a cls d))
    (h2 : ∀ (a : Addr) (oe : Obj) (cls : Value) (d : Option Addr) (pn : List (Addr × Obj)), Zc cls d oe → (∃ vs, oe.data = .fields vs) → PSs (X.suite a ((a, oe) :: pn)) (b2 :: suite2) (t2 a cls d)) :
    PS X (.Try body [.ExceptHandler (some (.Name x1 p1)) (some n) (b1 :: suite1) p2, .ExceptHandler (some (.Name x2 p3)) (some n) (b2 :: suite2) p4] [] [] pos) (fun D σ H => tb (wAs2 X.K c1 c2 i t1 t2 D) D σ H) := by
  refine ⟨fun pins s σ H D I h => wpAny_Try_except ?_⟩
  have fr : X.A.frames = some (X.env :: X.outer) := hs ▸ I.ok.frames
  have R := hb (wAs2 X.K c1 c2 i t1 t2 D) (X.pn ++ pins) (fun e s₁ => wpAny (model X.prog X.w) X.A (noteFrame e X.env) (fun _ s₂ => wpAny (model X.prog X.w) X.A (setFlight e none) (fun _ s₃ => wpAny (model X.prog X.w) X.A
    (handleBy e X.env [.ExceptHandler (some (.Name x1 p1)) (some n) (b1 :: suite1) p2, .ExceptHandler (some (.Name x2 p3)) (some n) (b2 :: suite2) p4]) (SP X pins D) X.xe s₃) X.xe s₂) X.xe s₁) ?_ PassesOwn.looking
  · refine wpAny_mono (R.run [] s σ H D (I.toTry _) h) (fun f s1 q => ?_) fun e s1 q => q
    match f, q with
    | .next, ⟨σ', H', J, q⟩ => exact wpAny_execs_nil ⟨σ', H', J.ofTry I.ok, q⟩
    | .brk, ⟨σ', H', J, q⟩ => exact ⟨σ', H', J.ofTry I.ok, q⟩
    | .cont, ⟨σ', H', J, q⟩ => exact ⟨σ', H', J.ofTry I.ok, q⟩
    | .ret u, ⟨v, σ', H', J, r, q⟩ => exact ⟨v, σ', H', J.ofTry I.ok, r, q⟩
  · rintro u s' ⟨a, B, sI, pins', σ', H', cls, d, rfl, J', nb, up, sky, na, os, ag, bt, w1, wy, wn⟩
    have J : Inv X pins σ' H' sI := J'.ofTry I.ok
    show wpAny (model X.prog X.w) X.A (noteFrame (.ref a) X.env) _ _ s'
    refine Sky.land Zc.steady fr hf (show Sky B (X.env :: X.outer) a (Zc cls d) X.env.locals s'.heap from hs ▸ sky) fun h3 fl up3 => ?_
    obtain ⟨oe, vs, he, hz, hd⟩ := fl.there
    have out : a ∉ frs (X.env :: X.outer) := fun hm => by
      obtain ⟨_, o2, e2, nf⟩ := fl.2.2.1.mem hm
      cases he.symm.trans e2
      exact nf _ hd
    have nl : a ≠ X.env.locals := fun z => out (List.mem_filterMap.mpr ⟨X.env, .head _, by rw [hf, z]⟩)
    have nf : a ∉ X.fs := fun hm => by
      obtain ⟨ev, g1, g2⟩ := List.mem_filterMap.mp hm
      exact out (List.mem_filterMap.mpr ⟨ev, .tail _ g1, g2⟩)
    have J3 : Inv X pins σ' H' { s' with heap := h3 } := J.landed nb fl.1 (up.trans up3) os ag
    have S3 := J3.suite he hd na nl nf
    have ty : PySem.W.Looks (model X.prog X.w) h3 (typeOf (.ref a)) cls := fun A Q E s k q => wpAny_typeOf_ref (k a oe he) (by rw [hz.1]; exact q)
    have ask : ∀ {x : Str} {c : Value} {np : Pos}, Names X x c → ∀ {Q : Value → Shared → Prop} {E : Value → Shared → Prop}, Q c { s' with heap := h3 } → wpAny (model X.prog X.w) (X.A.mark (some (.ref a))) (eval (.Name x np) X.env) Q E { s' with heap := h3 } := by
      rintro x c np ⟨hg, db, hm | ⟨hm, hv, nn⟩⟩ Q E q
      · exact ld_glob (X := X.suite a ((a, oe) :: (X.pn ++ pins))) S3 hg hm q db
      · exact ld_blt (X := X.suite a ((a, oe) :: (X.pn ++ pins))) S3 hg hm hv q nn db
    refine wpAny_handleBy_cons (codeAny_handlers_test (ask hc1 ((PySem.W.exm_one (M := model X.prog X.w) J3.kIn ty w1).here ?_))) (fun z => nomatch z)
    cases bt with
    | true =>
      refine codeAny_handlers_suite_as (HandSPX.lands_againZ fl fun h4 fl4 up4 => ?_)
      obtain ⟨oe4, vs4, he4, hz4, hd4⟩ := fl4.there
      have J4 : Inv X pins σ' H' { s' with heap := h4 } := J.landed nb fl4.1 ((up.trans up3).trans up4) os ag
      have S4 := J4.suite he4 hd4 na nl nf
      refine store_ok (X := X.suite a ((a, oe4) :: (X.pn ++ pins))) (v := .ref a) S4 hN hi (.inl hln) rfl (fun s5 S5 => ?_) (.inr hln)
      refine wpAny_mono ((h1 a oe4 cls d (X.pn ++ pins) hz4 ⟨_, hd4⟩).run [] s5 _ H' _ S5 (wy rfl a na)) (fun f s6 q => ?_) fun _ _ z => (show False from z).elim
      match f, q with
      | .next, ⟨σ6, H6, S6, q6⟩ => exact gone_ok (S6.unsuite I.ok) hN hi hln fun s7 J7 => ⟨_, _, J7, q6⟩
      | .brk, ⟨σ6, H6, S6, q6⟩ => exact gone_ok (S6.unsuite I.ok) hN hi hln fun s7 J7 => ⟨_, _, J7, q6⟩
      | .cont, ⟨σ6, H6, S6, q6⟩ => exact gone_ok (S6.unsuite I.ok) hN hi hln fun s7 J7 => ⟨_, _, J7, q6⟩
      | .ret u, ⟨v6, σ6, H6, S6, r6, q6⟩ => exact gone_ok (S6.unsuite I.ok) hN hi hln fun s7 J7 => ⟨_, _, _, J7, r6, q6⟩
    | false =>
      obtain ⟨w2, w3⟩ := wn rfl
      show wpAny _ X.A (handleBy (.ref a) X.env [.ExceptHandler (some (.Name x2 p3)) (some n) (b2 :: suite2) p4]) _ _ { s' with heap := h3 }
      refine wpAny_handleBy_cons (codeAny_handlers_test (ask hc2 ((PySem.W.exm_one (M := model X.prog X.w) J3.kIn ty w2).here (codeAny_handlers_suite_as (HandSPX.lands_againZ fl fun h4 fl4 up4 => ?_))))) (fun z => nomatch z)
      obtain ⟨oe4, vs4, he4, hz4, hd4⟩ := fl4.there
      have J4 : Inv X pins σ' H' { s' with heap := h4 } := J.landed nb fl4.1 ((up.trans up3).trans up4) os ag
      have S4 := J4.suite he4 hd4 na nl nf
      refine store_ok (X := X.suite a ((a, oe4) :: (X.pn ++ pins))) (v := .ref a) S4 hN hi (.inl hln) rfl (fun s5 S5 => ?_) (.inr hln)
      refine wpAny_mono ((h2 a oe4 cls d (X.pn ++ pins) hz4 ⟨_, hd4⟩).run [] s5 _ H' _ S5 (w3 a na)) (fun f s6 q => ?_) fun _ _ z => (show False from z).elim
      match f, q with
      | .next, ⟨σ6, H6, S6, q6⟩ => exact gone_ok (S6.unsuite I.ok) hN hi hln fun s7 J7 => ⟨_, _, J7, q6⟩
      | .brk, ⟨σ6, H6, S6, q6⟩ => exact gone_ok (S6.unsuite I.ok) hN hi hln fun s7 J7 => ⟨_, _, J7, q6⟩
      | .cont, ⟨σ6, H6, S6, q6⟩ => exact gone_ok (S6.unsuite I.ok) hN hi hln fun s7 J7 => ⟨_, _, J7, q6⟩
      | .ret u, ⟨v6, σ6, H6, S6, r6, q6⟩ => exact gone_ok (S6.unsuite I.ok) hN hi hln fun s7 J7 => ⟨_, _, _, J7, r6, q6⟩
end
end Ns
namespace Y
open PySem PySem.Spec PyProof.Rows L2 Ns
/-- what the except clauses ask -/
structure ExmR (K : PySem.W.Frag) (cW cT : Addr) : Prop where
  tt : PySem.W.exmOne K (.ref cT) (.ref cT) = some true
  wt : PySem.W.exmOne K (.ref cW) (.ref cT) = some false
  ww : PySem.W.exmOne K (.ref cW) (.ref cW) = some true
def spToldR (K : PySem.W.Frag) : Sp := fun as H Q _ => ∃ (x : V) (d : PyData), as = [x] ∧ DatV K H x d ∧
  match d with
  | .str z => z.length ≤ 1000000 ∧ ReadQ ((Txt.split z "\n").map lineW) ∧ (match readP ((Txt.split z "\n").map lineW) 0 ([], []) with
    | .ok (cs, rs) => ∀ (y : V) (cs' : List Cab) (rs' : List Car) (t : Addr) (H' : Hp), Srt cs rs cs' rs' → YardV K H' y cs' rs' → H' t = some (.tup [.str "yard", y]) → Same H H' → Q (.ref t) H'
    | .error i => ∀ (t : Addr) (H' : Hp), H' t = some (.tup [.str "bad", .int i]) → Same H H' → Q (.ref t) H')
  | _ => ∀ (t : Addr) (H' : Hp), H' t = some (.tup [.str "wrong", .int 0]) → Same H H' → Q (.ref t) H'
section
variable {P : Program} {w : World} {K : PySem.W.Frag} {mg : Str → Option Value} {base : Heap}
theorem scTd : FnScope ["text", "e"] ["text"] (defScope sTold) := ⟨rfl, rfl, rfl, by decide +kernel, rfl, by decide +kernel, by decide +kernel⟩
theorem ok_toldR {f fH cT cW wT wW : Addr} {fd dH eT eW : FuncData} (F : Fun K "_law_told" "_law_told" sTold f fd) (GH : FnOk P w K mg base (L2.CX P w) 5 fH dH ["text"] (spRead K cT cW)) (FH : Fun K "read_yard" "read_yard" sReadYard fH dH) (mH : mg "read_yard" = some (.ref fH)) (bH : Binds K dH ["text"] [])
    (TW : ErI K mg "Wrong" "Wrong.__init__" sWrong ["self", "place"] cW wW eW) (nW : PySem.W.findIn K (.ref cW) "place" = some none)
    (TT : ErI K mg "NoText" "NoText.__init__" sNoText ["self", "line"] cT wT eT) (nT : PySem.W.findIn K (.ref cT) "line" = some none) (M : ExmR K cW cT) :
    FnOk P w K mg base CX0 6 f fd ["text"] (spToldR K) := by
  refine F.ok scTd (fun as H Q E h => ?_) (fun cdv A outer s H as Q E hr h => ?_)
  · obtain ⟨x, d, rfl, _⟩ := h
    rfl
  · obtain ⟨x, d, rfl, D, k⟩ := h
    refine ⟨_, pss_one (ps_try_as2 (i := 1) (t1 := fun a cls d => tRet (tTup (tCons (tC (V.str "bad")) (tCons (tXf a cls d cT "line" (tVar 1)) tNil))))
        (t2 := fun a cls d => tRet (tTup (tCons (tC (V.str "wrong")) (tCons (tXf a cls d cW "place" (tVar 1)) tNil)))) rfl rfl scTd.nd rfl rfl ⟨rfl, by decide, .inl TT.g⟩ ⟨rfl, by decide, .inl TW.g⟩
        (fun W pn xe tk _ => pss_one (by exact ps_ret (by exact pe_tup (pa_cons pe_str (pa_cons (pe_call (E := fun cls d H' => ∀ σ : L2.St, σ.length = 2 → W cls d σ H') GH hr rfl mH FH.kp bH .nil (fun pins σ H s e s' I c => tk e s' (XE.of_call I (fun cls d H' h => h σ I.len) c)) (pa_cons (pv 0) pa_nil)) pa_nil)))))
        (fun a oe cls d pn hz hf => pss_one (by exact ps_ret (by exact pe_tup (pa_cons pe_str (pa_cons (pe_xf TT.xf nT hz hf (pv 1)) pa_nil)))))
        (fun a oe cls d pn hz hf => pss_one (by exact ps_ret (by exact pe_tup (pa_cons pe_str (pa_cons (pe_xf TW.xf nW hz hf (pv 1)) pa_nil)))))), ?_⟩
    refine ⟨_, rfl, x, d, rfl, D, ?_⟩
    cases d with
    | str z =>
      obtain ⟨zl, zq, k⟩ := k
      refine ⟨zl, zq, ?_⟩
      cases er : readP ((Txt.split z "\n").map lineW) 0 ([], []) with
      | ok p =>
        obtain ⟨cs, rs⟩ := p
        rw [er] at k
        intro y cs' rs' H' S V m'
        exact ⟨by show 2 ≤ sizeLine; decide, fun t ht => k y cs' rs' t _ S (V.more (same_new (Same.refl H') ht)) upd_same (same_new m' ht)⟩
      | error i =>
        rw [er] at k
        intro dx H' hdx m' σ hσ
        match σ, hσ with
        | [x0, x1], _ =>
          refine ⟨true, M.tt, fun _ a0 ha0 => ?_, fun z => nomatch z⟩
          exact ⟨_, rfl, rfl, rfl, dx, _, .int i, rfl, hdx, lk1, by show 2 ≤ sizeLine; decide, fun t ht => k t _ upd_same (same_new m' ht)⟩
    | _ =>
      intro dx H' hdx m' σ hσ
      match σ, hσ with
      | [x0, x1], _ =>
        refine ⟨false, M.wt, (fun z => nomatch z), fun _ => ⟨M.ww, fun a0 ha0 => ?_⟩⟩
        exact ⟨_, rfl, rfl, rfl, dx, _, .int 0, rfl, hdx, lk1, by show 2 ≤ sizeLine; decide, fun t ht => k t _ upd_same (same_new m' ht)⟩
end
end Y

/-! QK: what a text shows, as data; one yard only. -/
namespace Y
open PySem PySem.Spec PyProof.Rows L2 Ns
theorem keys_in {cs : List Cab} (n : (cs.map ckey).Nodup) : ∀ {x y : Cab}, x ∈ cs → y ∈ cs → ckey x = ckey y → x = y := by
  induction cs with
  | nil => intro x y h; cases h
  | cons r rs ih =>
    rw [List.map_cons, List.nodup_cons] at n
    intro x y hx hy e
    rcases List.mem_cons.mp hx with ex | gx
    · rcases List.mem_cons.mp hy with ey | gy
      · rw [ex, ey]
      · exact (n.1 (by rw [← ex, e]; exact List.mem_map.mpr ⟨y, gy, rfl⟩)).elim
    · rcases List.mem_cons.mp hy with ey | gy
      · exact (n.1 (by rw [← ey, ← e]; exact List.mem_map.mpr ⟨x, gx, rfl⟩)).elim
      · exact ih n.2 gx gy e
theorem Srt.uniq {cs cs1 cs2 : List Cab} {rs rs1 rs2 : List Car} (nk : (cs.map ckey).Nodup) (nn : (rs.map (·.1)).Nodup) (a : Srt cs rs cs1 rs1) (b : Srt cs rs cs2 rs2) : cs1 = cs2 ∧ rs1 = rs2 := by
  refine ⟨same_keys (fun x hx y hy e => ?_) (a.srt.trans b.srt.symm), same_names (fun x hx y hy e => names_in nn (a.perm.mem_iff.mp hx) (b.perm.mem_iff.mp hy) e) (sorted_one a.rise b.rise ((a.perm.trans b.perm.symm).map _))⟩
  exact keys_in nk (a.cab x hx) (b.cab y hy) e
/-- what reading keeps -/
structure ReadS (n : Nat) (ls : List (List Str)) (s : List Cab × List Car) : Prop where
  lc : s.1.length ≤ n
  lr : s.2.length ≤ n
  keys : (s.1.map ckey).Nodup
  names : (s.2.map (·.1)).Nodup
  cab : ∀ c ∈ s.1, ∃ ws ∈ ls, rowP ws = some (.inl c)
  car : ∀ r ∈ s.2, ∃ ws ∈ ls, rowP ws = some (.inr r)
theorem lineP_ok {n : Nat} {ls : List (List Str)} {s s' : List Cab × List Car} {ws : List Str} (h : ReadS n ls s) (hm : ws ∈ ls) (e : lineP s ws = some s') : ReadS (n + 1) ls s' := by
  obtain ⟨h1, h2, h3, h4, h5, h6⟩ := h
  unfold lineP at e
  split at e
  · cases e
    exact ⟨by omega, by omega, h3, h4, h5, h6⟩
  · split at e
    · cases e
    · rename_i c hc
      split at e
      · cases e
      · rename_i nin
        cases e
        refine ⟨by rw [List.length_append]; show s.1.length + 1 ≤ n + 1; omega, by show s.2.length ≤ n + 1; omega, ?_, h4, fun x hx => ?_, h6⟩
        · rw [List.map_append, List.nodup_append]
          refine ⟨h3, List.nodup_cons.mpr ⟨(fun z => nomatch z), List.nodup_nil⟩, fun y hy z hz => ?_⟩
          rw [List.mem_singleton.mp hz]
          rintro rfl
          exact nin hy
        · rcases List.mem_append.mp hx with z | z
          · exact h5 x z
          · rw [List.mem_singleton.mp z]
            exact ⟨ws, hm, hc⟩
    · rename_i r hr
      split at e
      · cases e
      · rename_i nin
        cases e
        refine ⟨by show s.1.length ≤ n + 1; omega, by rw [List.length_append]; show s.2.length + 1 ≤ n + 1; omega, h3, ?_, h5, fun x hx => ?_⟩
        · rw [List.map_append, List.nodup_append]
          refine ⟨h4, List.nodup_cons.mpr ⟨(fun z => nomatch z), List.nodup_nil⟩, fun y hy z hz => ?_⟩
          rw [List.mem_singleton.mp hz]
          rintro rfl
          exact nin hy
        · rcases List.mem_append.mp hx with z | z
          · exact h6 x z
          · rw [List.mem_singleton.mp z]
            exact ⟨ws, hm, hr⟩
theorem readP_keep {ls : List (List Str)} : ∀ {l : List (List Str)} {i n : Nat} {s s' : List Cab × List Car}, (∀ ws ∈ l, ws ∈ ls) → ReadS n ls s → readP l i s = .ok s' → ReadS (n + l.length) ls s'
  | [], _, _, _, _, _, h, e => by cases e; exact h
  | ws :: l, i, n, s, s', hm, h, e => by
    unfold readP at e
    split at e
    · cases e
    · rename_i s1 e1
      have := readP_keep (l := l) (fun w hw => hm w (List.mem_cons_of_mem _ hw)) (lineP_ok h (hm ws List.mem_cons_self) e1) e
      rw [List.length_cons, show n + (l.length + 1) = n + 1 + l.length by omega]
      exact this
theorem readP_ok {ls : List (List Str)} {i : Nat} {s' : List Cab × List Car} (e : readP ls i ([], []) = .ok s') : ReadS ls.length ls s' := by
  have := readP_keep (ls := ls) (l := ls) (s := ([], [])) (n := 0) (fun _ h => h) ⟨Nat.le_refl _, Nat.le_refl _, List.nodup_nil, List.nodup_nil, (fun _ z => nomatch z), (fun _ z => nomatch z)⟩ e
  rw [Nat.zero_add] at this
  exact this
theorem readP_lt : ∀ {l : List (List Str)} {i j : Nat} {s : List Cab × List Car}, readP l i s = .error j → j < i + l.length
  | [], _, _, _, e => by cases e
  | ws :: l, i, j, s, e => by
    unfold readP at e
    split at e
    · cases e
      rw [List.length_cons]
      omega
    · have := readP_lt e
      rw [List.length_cons]
      omega
inductive RT where
  | yard (cs : List Cab) (rs : List Car)
  | bad (i : Nat)
  | wrong
def rtD : RT → PyData
  | .yard cs rs => .tuple [.str "yard", yardD cs rs]
  | .bad i => .tuple [.str "bad", .int i]
  | .wrong => .tuple [.str "wrong", .int 0]
section
variable {K : PySem.W.Frag} {H : Hp}
/-- the same datum twice: equal -/
theorem datA_eq {E : V → V → Prop} : ∀ {xs ys : List V} {ds : List PyData}, DatA K H xs ds → DatA K H ys ds → (∀ d ∈ ds, ∀ x y, DatV K H x d → DatV K H y d → E x y) → Paired E xs ys
  | _, _, _, .nil, .nil, _ => .nil
  | _, _, _, .cons h t, .cons h' t', k => .cons (k _ List.mem_cons_self _ _ h h') (datA_eq t t' fun d hd => k d (List.mem_cons_of_mem _ hd))
def flatD : PyData → Bool
  | .int _ => true
  | .str _ => true
  | .none => true
  | .bool _ => true
  | _ => false
theorem eq_flat {n : Nat} {d : PyData} (f : flatD d = true) {x y : V} (h : DatV K H x d) (g : DatV K H y d) : EqT K H (n + 1) x y := by
  cases d with
  | int i => cases h; cases g; exact .inl ⟨rfl, rfl⟩
  | str i => cases h; cases g; exact .inl ⟨rfl, rfl⟩
  | none => cases h; cases g; exact .inl ⟨rfl, rfl⟩
  | bool i => cases h; cases g; exact .inl ⟨rfl, rfl⟩
  | _ => cases f
theorem eq_tupU {n : Nat} {ds : List PyData} (k : ∀ d ∈ ds, ∀ x y, DatV K H x d → DatV K H y d → EqT K H n x y) {x y : V} (h : DatV K H x (.tuple ds)) (g : DatV K H y (.tuple ds)) : EqU K H (EqT K H n) x y := by
  cases h with
  | tup h1 h2 =>
    cases g with
    | tup g1 g2 => exact ⟨_, _, _, _, rfl, rfl, h1, g1, datA_eq h2 g2 k⟩
theorem eq_tup {n : Nat} {ds : List PyData} (k : ∀ d ∈ ds, ∀ x y, DatV K H x d → DatV K H y d → EqT K H n x y) {x y : V} (h : DatV K H x (.tuple ds)) (g : DatV K H y (.tuple ds)) : EqT K H (n + 1) x y := .inr (.inr (.inr (eq_tupU k h g)))
theorem eq_row {n : Nat} {ds : List PyData} (f : ∀ d ∈ ds, flatD d = true) {x y : V} (h : DatV K H x (.tuple ds)) (g : DatV K H y (.tuple ds)) : EqT K H (n + 2) x y := eq_tup (fun d hd x y hx hy => eq_flat (f d hd) hx hy) h g
theorem eq_yard {cs : List Cab} {rs : List Car} {x y : V} (h : DatV K H x (yardD cs rs)) (g : DatV K H y (yardD cs rs)) : EqT K H 4 x y := by
  refine eq_tup (fun d hd x y hx hy => ?_) h g
  simp only [List.mem_cons, List.not_mem_nil, or_false] at hd
  rcases hd with rfl | rfl
  · refine eq_tup (fun d hd x y hx hy => ?_) hx hy
    obtain ⟨c, _, rfl⟩ := List.mem_map.mp hd
    refine eq_row (fun d hd => ?_) hx hy
    simp only [List.mem_cons, List.not_mem_nil, or_false] at hd
    rcases hd with rfl | rfl | rfl <;> rfl
  · refine eq_tup (fun d hd x y hx hy => ?_) hx hy
    obtain ⟨c, _, rfl⟩ := List.mem_map.mp hd
    refine eq_row (fun d hd => ?_) hx hy
    simp only [List.mem_cons, List.not_mem_nil, or_false] at hd
    rcases hd with rfl | rfl | rfl | rfl <;> rfl
theorem eqs_rt {o : RT} {x y : V} (h : DatV K H x (rtD o)) (g : DatV K H y (rtD o)) : EqS K H 4 x y := by
  match o, h, g with
  | .yard cs rs, h, g =>
    refine .inr (eq_tupU (fun d hd x y hx hy => ?_) h g)
    simp only [List.mem_cons, List.not_mem_nil, or_false] at hd
    rcases hd with rfl | rfl
    · exact eq_flat rfl hx hy
    · exact eq_yard hx hy
  | .bad i, h, g =>
    refine .inr (eq_tupU (fun d hd x y hx hy => ?_) h g)
    simp only [List.mem_cons, List.not_mem_nil, or_false] at hd
    rcases hd with rfl | rfl <;> exact eq_flat rfl hx hy
  | .wrong, h, g =>
    refine .inr (eq_tupU (fun d hd x y hx hy => ?_) h g)
    simp only [List.mem_cons, List.not_mem_nil, or_false] at hd
    rcases hd with rfl | rfl <;> exact eq_flat rfl hx hy
end
end Y

/-! QL: what is told is shown in few signs. -/
namespace Y
open PySem PySem.Spec PyProof.Rows L2 Ns
theorem rowP_inl {ws : List Str} {c : Cab} (h : rowP ws = some (.inl c)) : (∃ n ∈ ws, numP n = some c.2.2) ∧ cableD (.tuple [.str c.1, .str c.2.1, .int c.2.2]) = true := by
  unfold rowP at h
  split at h
  · rename_i a s e n
    split at h
    · cases en : numP n with
      | none => rw [en] at h; cases h
      | some v =>
        rw [en] at h
        have h : (if cableD (.tuple [.str s, .str e, .int v]) = true then some (Sum.inl (s, e, v)) else none) = some (Sum.inl c : Cab ⊕ Car) := h
        split at h
        · rename_i hc
          cases h
          exact ⟨⟨n, by simp, en⟩, hc⟩
        · cases h
    · cases h
  · rename_i a x kn r n
    split at h
    · split at h
      · split at h <;> cases h
      · cases h
    · cases h
  · cases h
theorem rowP_inr {ws : List Str} {r : Car} (h : rowP ws = some (.inr r)) : (∃ n ∈ ws, numP n = some r.2.2.1) ∧ (∃ n ∈ ws, numP n = some r.2.2.2) ∧ carT (.tuple [.str r.1, .str r.2.1, .int r.2.2.1, .int r.2.2.2]) = true := by
  unfold rowP at h
  split at h
  · rename_i a s e n
    split at h
    · split at h
      · split at h <;> cases h
      · cases h
    · cases h
  · rename_i a x kn u n
    split at h
    · split at h
      · rename_i v1 v2 e1 e2
        split at h
        · rename_i hc
          cases h
          exact ⟨⟨u, by simp, e1⟩, ⟨n, by simp, e2⟩, hc⟩
        · cases h
      · cases h
    · cases h
  · cases h
theorem fit_numW {z : Str} {n : Int} (h : numP z = some n) (hl : z.length ≤ 400) : Fit 410 0 (.int n) := by
  refine (fit_int (n := 400) (by decide) ?_ (by decide)).mono (by decide) (Nat.le_refl _)
  unfold numP at h
  split at h
  · cases h
  · rename_i n1
    split at h
    · cases h
    · have ad : allDig z = true := by
        cases e : allDig z with
        | true => rfl
        | false => exact (n1 (.inr e)).elim
      have ne : z.cps.toList ≠ [] := fun e => n1 (.inl (str_ext (by rw [e]; rfl)))
      have dz := allDig_iff.mp ad
      rw [PySem.intText_digits dz ne (Nat.le_trans hl (by decide))] at h
      cases h
      have b := dv_lt z.cps.toList 0 dz
      rw [len_cps] at b
      show Int.natAbs ((PySem.NumText.digitsVal z.cps.toList : Nat) : Int) < _
      rw [Int.natAbs_natCast]
      refine Nat.lt_of_lt_of_le (show PySem.NumText.digitsVal z.cps.toList < 1 * 10 ^ z.length from b) ?_
      rw [Nat.one_mul]
      exact Nat.pow_le_pow_right (by decide) (by omega)
theorem nmB_nm {z : Str} (h : nmB z = true) : Nm z := by
  unfold nmB at h
  split at h
  · cases h
  · rename_i c r e
    rw [Bool.and_eq_true, Bool.and_eq_true, decide_eq_true_iff, decide_eq_true_iff, List.all_eq_true] at h
    obtain ⟨h1, h2, h3⟩ := h
    refine ⟨c, r, e, letters_ok _ h2, fun d hd => signs_ok _ (of_decide_eq_true (h3 d (List.mem_cons_of_mem _ hd))), ?_⟩
    have := len_cps z
    rw [e, List.length_cons] at this
    omega
theorem fit_nmB {z : Str} (h : nmB z = true) : Fit 410 0 (.str z) := (fit_name (.inl (nmB_nm h))).mono (by decide) (Nat.le_refl _)
theorem fit_cabW {ws : List Str} {c : Cab} (h : rowP ws = some (.inl c)) (hl : ∀ w ∈ ws, w.length ≤ 400) : Fit 1700 1 (cabD c) := by
  obtain ⟨⟨n, hn, en⟩, hc⟩ := rowP_inl h
  have hc : (nmB c.1 && (nmB c.2.1 && (!decide (c.1 = c.2.1) && (!decide (c.2.1 = feed) && isCnt (.int c.2.2))))) = true := hc
  rw [Bool.and_eq_true, Bool.and_eq_true] at hc
  refine (fit_tuple (m := 410) (k := 0) fun d hd => ?_).mono (show 3 * (410 + 2) + 3 ≤ 1700 by decide) (by decide)
  simp only [List.mem_cons, List.not_mem_nil, or_false] at hd
  rcases hd with rfl | rfl | rfl
  · exact fit_nmB hc.1
  · exact fit_nmB hc.2.1
  · exact fit_numW en (hl n hn)
theorem fit_carW {ws : List Str} {r : Car} (h : rowP ws = some (.inr r)) (hl : ∀ w ∈ ws, w.length ≤ 400) : Fit 1700 1 (carD r) := by
  obtain ⟨⟨n, hn, en⟩, ⟨n2, hn2, en2⟩, hc⟩ := rowP_inr h
  have hc : (nmB r.1 && (nmB r.2.1 && (isPos (.int r.2.2.1) && isCnt (.int r.2.2.2)))) = true := hc
  rw [Bool.and_eq_true, Bool.and_eq_true] at hc
  refine (fit_tuple (m := 410) (k := 0) fun d hd => ?_).mono (show 4 * (410 + 2) + 3 ≤ 1700 by decide) (by decide)
  simp only [List.mem_cons, List.not_mem_nil, or_false] at hd
  rcases hd with rfl | rfl | rfl | rfl
  · exact fit_nmB hc.1
  · exact fit_nmB hc.2.1
  · exact fit_numW en (hl n hn)
  · exact fit_numW en2 (hl n2 hn2)
theorem fit_wd {z : Str} (h : ∀ c ∈ z.cps.toList, c < 200) (hl : z.length ≤ 20) : Fit 300 0 (.str z) := by
  refine ⟨by simp [PyData.showable], ?_, by simp [PyData.depth]⟩
  rw [PyData.shown_str]
  have := PySem.StrLaws.reprText_len z fun c hc => Nat.lt_trans (h c hc) (by decide)
  omega
theorem fit_yardW {ls : List (List Str)} {cs cs' : List Cab} {rs rs' : List Car} (R : ReadS ls.length ls (cs, rs)) (S : Srt cs rs cs' rs') (l60 : ls.length ≤ 60) (hl : ∀ ws ∈ ls, ∀ w ∈ ws, w.length ≤ 400) : Fit 210000 3 (yardD cs' rs') := by
  have l1 : cs'.length ≤ 60 := by
    have := congrArg List.length S.srt
    rw [List.length_map, List.length_mergeSort, List.length_map] at this
    have : cs.length ≤ ls.length := R.lc
    show cs'.length ≤ 60
    omega
  have l2 : rs'.length ≤ 60 := by
    have := S.perm.length_eq
    have : rs.length ≤ ls.length := R.lr
    omega
  have f1 : Fit 103000 2 (.tuple (cs'.map cabD)) := by
    refine (fit_tuple (m := 1700) (k := 1) fun d hd => ?_).mono ?_ (by decide)
    · obtain ⟨c, hc, rfl⟩ := List.mem_map.mp hd
      obtain ⟨ws, hw, e⟩ := R.cab c (S.cab c hc)
      exact fit_cabW e (hl ws hw)
    · rw [List.length_map]
      omega
  have f2 : Fit 103000 2 (.tuple (rs'.map carD)) := by
    refine (fit_tuple (m := 1700) (k := 1) fun d hd => ?_).mono ?_ (by decide)
    · obtain ⟨c, hc, rfl⟩ := List.mem_map.mp hd
      obtain ⟨ws, hw, e⟩ := R.car c (S.perm.mem_iff.mp hc)
      exact fit_carW e (hl ws hw)
    · rw [List.length_map]
      omega
  refine (fit_tuple (m := 103000) (k := 2) fun d hd => ?_).mono (show 2 * (103000 + 2) + 3 ≤ 210000 by decide) (by decide)
  simp only [List.mem_cons, List.not_mem_nil, or_false] at hd
  rcases hd with rfl | rfl
  · exact f1
  · exact f2
theorem fit_rt {o : RT} (h1 : ∀ cs rs, o = .yard cs rs → Fit 210000 3 (yardD cs rs)) (h2 : ∀ i, o = .bad i → i ≤ 1000) : Fit 430000 4 (rtD o) := by
  cases o with
  | yard cs rs =>
    refine (fit_tuple (m := 210000) (k := 3) fun d hd => ?_).mono (show 2 * (210000 + 2) + 3 ≤ 430000 by decide) (by decide)
    simp only [List.mem_cons, List.not_mem_nil, or_false] at hd
    rcases hd with rfl | rfl
    · exact (fit_wd (by decide +kernel) (by decide +kernel)).mono (by decide) (by decide)
    · exact h1 _ _ rfl
  | bad i =>
    have := h2 i rfl
    refine (fit_tuple (m := 300) (k := 0) fun d hd => ?_).mono (show 2 * (300 + 2) + 3 ≤ 430000 by decide) (by decide)
    simp only [List.mem_cons, List.not_mem_nil, or_false] at hd
    rcases hd with rfl | rfl
    · exact fit_wd (by decide +kernel) (by decide +kernel)
    · exact fit_num (by omega) (by omega)
  | wrong =>
    refine (fit_tuple (m := 300) (k := 0) fun d hd => ?_).mono (show 2 * (300 + 2) + 3 ≤ 430000 by decide) (by decide)
    simp only [List.mem_cons, List.not_mem_nil, or_false] at hd
    rcases hd with rfl | rfl
    · exact fit_wd (by decide +kernel) (by decide +kernel)
    · exact fit_num (by decide) (by decide)
end Y

/-! QM: runs of signs without a blank and a newline. -/
namespace Y
open PySem PySem.Spec PyProof.Rows L2 Ns
def isW (c : Nat) : Prop := c ≠ 32 ∧ c ≠ 10
/-- no run of signs of a word is longer than n -/
def Rl (n : Nat) (l : List Nat) : Prop := ∀ a b c, l = a ++ (b ++ c) → (∀ x ∈ b, isW x) → b.length ≤ n
theorem Rl.len {n : Nat} {l : List Nat} (h : l.length ≤ n) : Rl n l := fun a b c e _ => by
  rw [e, List.length_append, List.length_append] at h
  omega
theorem Rl.mono {n m : Nat} {l : List Nat} (h : Rl n l) (hm : n ≤ m) : Rl m l := fun a b c e hb => Nat.le_trans (h a b c e hb) hm
theorem Rl.sub {n : Nat} {l p q r : List Nat} (h : Rl n l) (e : l = p ++ (q ++ r)) : Rl n q := fun a b c eq hb => h (p ++ a) b (c ++ r) (by rw [e, eq]; simp only [List.append_assoc]) hb
theorem Rl.left {n : Nat} {l r : List Nat} (h : Rl n (l ++ r)) : Rl n l := h.sub (p := []) (r := r) rfl
theorem Rl.right {n : Nat} {l r : List Nat} (h : Rl n (l ++ r)) : Rl n r := h.sub (p := l) (r := []) (by rw [List.append_nil])
theorem Rl.take {n k : Nat} {l : List Nat} (h : Rl n l) : Rl n (l.take k) := Rl.left (r := l.drop k) (by rw [List.take_append_drop]; exact h)
theorem Rl.drop {n k : Nat} {l : List Nat} (h : Rl n l) : Rl n (l.drop k) := Rl.right (l := l.take k) (by rw [List.take_append_drop]; exact h)
theorem Rl.all {n : Nat} {l : List Nat} (h : Rl n l) (hw : ∀ x ∈ l, isW x) : l.length ≤ n := h [] l [] (by simp) hw
/-- a segment of two parts is a segment of the one and one of the other -/
theorem seg_two {l r a b c : List Nat} (e : l ++ r = a ++ (b ++ c)) : ∃ b1 b2, b = b1 ++ b2 ∧ (∃ a1 c1, l = a1 ++ (b1 ++ c1)) ∧ (∃ a2 c2, r = a2 ++ (b2 ++ c2)) ∧ (b1 ≠ [] → b2 ≠ [] → (∃ a1, l = a1 ++ b1) ∧ ∃ c2, r = b2 ++ c2) := by
  rcases List.append_eq_append_iff.mp e with ⟨d, h1, h2⟩ | ⟨d, h1, h2⟩
  · exact ⟨[], b, rfl, ⟨l, [], by simp⟩, ⟨d, c, h2⟩, fun h => absurd rfl h⟩
  · rcases List.append_eq_append_iff.mp h2.symm with ⟨f, g1, g2⟩ | ⟨f, g1, g2⟩
    · exact ⟨d, f, g1, ⟨a, [], by rw [h1, List.append_nil]⟩, ⟨[], c, g2⟩, fun _ _ => ⟨⟨a, h1⟩, c, g2⟩⟩
    · exact ⟨b, [], (List.append_nil b).symm, ⟨a, f, by rw [h1, g1]⟩, ⟨r, [], by simp⟩, fun _ h => absurd rfl h⟩
theorem Rl.app {n m : Nat} {l r : List Nat} (h : Rl n l) (g : Rl m r) : Rl (n + m) (l ++ r) := fun a b c e hb => by
  obtain ⟨b1, b2, rfl, ⟨a1, c1, e1⟩, ⟨a2, c2, e2⟩, _⟩ := seg_two e
  have := h a1 b1 c1 e1 fun x hx => hb x (List.mem_append_left _ hx)
  have := g a2 b2 c2 e2 fun x hx => hb x (List.mem_append_right _ hx)
  rw [List.length_append]
  omega
/-- parts with a blank or a newline between them -/
theorem Rl.sep {n : Nat} {l r : List Nat} {x : Nat} (h : Rl n l) (g : Rl n r) (hx : ¬ isW x) : Rl n (l ++ (x :: r)) := fun a b c e hb => by
  have cons : Rl n (x :: r) := fun a b c e hb => by
    cases a with
    | nil =>
      cases b with
      | nil => exact Nat.zero_le _
      | cons y b =>
        cases e
        exact absurd (hb _ List.mem_cons_self) hx
    | cons y a =>
      injection e with _ e
      exact g a b c e hb
  obtain ⟨b1, b2, rfl, ⟨a1, c1, e1⟩, ⟨a2, c2, e2⟩, k⟩ := seg_two e
  cases b1 with
  | nil => exact cons a2 b2 c2 e2 fun y hy => hb y (List.mem_append_right _ hy)
  | cons y b1 =>
    cases b2 with
    | nil =>
      rw [List.append_nil] at hb ⊢
      exact h a1 _ c1 e1 hb
    | cons z b2 =>
      obtain ⟨_, c3, e3⟩ := k (fun z => nomatch z) (fun z => nomatch z)
      cases e3
      exact absurd (hb _ (List.mem_append_right _ List.mem_cons_self)) hx
/-- what a bent word may be -/
theorem Rl.bent {n : Nat} {l g : List Nat} (i j : Nat) (h : Rl n l) (hg : g.length ≤ 1) : Rl (2 * n + 1) (l.take i ++ g ++ l.drop j) := ((h.take.app (Rl.len hg)).app h.drop).mono (by omega)
theorem Rl.twice {n : Nat} {l : List Nat} (h : Rl n l) : Rl (2 * n + 1) (l ++ l) := (h.app h).mono (by omega)
end Y

/-! QN: no word of a text is longer than its longest run. -/
namespace Y
open PySem PySem.Spec PyProof.Rows L2 Ns
open PySem.Builtin.Str
theorem sub_seg (x : Str) (i j : Nat) : ∃ u v, x.cps.toList = u ++ ((strSub x i j).cps.toList ++ v) := by
  refine ⟨x.cps.toList.take i, (x.cps.toList.drop i).drop (j - i), ?_⟩
  rw [StrLaws.strSub_toList, List.take_append_drop, List.take_append_drop]
theorem partsFrom_seg (x : Str) (w : Nat) : ∀ (cuts : List Nat) (a : Nat), ∀ p ∈ StrLaws.partsFrom x w a cuts, ∃ u v, x.cps.toList = u ++ (p.cps.toList ++ v)
  | [], a, p, h => by
    rw [List.mem_singleton.mp h]
    exact sub_seg _ _ _
  | c :: r, a, p, h => by
    rcases List.mem_cons.mp h with e | e
    · rw [e]; exact sub_seg _ _ _
    · exact partsFrom_seg x w r _ p e
theorem split_seg {a b p : Str} (h : p ∈ Txt.split a b) : ∃ u v, a.cps.toList = u ++ (p.cps.toList ++ v) := by
  have self : ∃ u v, a.cps.toList = u ++ (a.cps.toList ++ v) := ⟨[], [], by simp⟩
  unfold Txt.split at h
  split at h
  · rw [List.mem_singleton.mp h]; exact self
  · split at h
    · rw [List.mem_singleton.mp h]; exact self
    · rw [StrLaws.partsBetween_eq] at h
      exact partsFrom_seg _ _ _ _ p h
theorem words_run {z : Str} {n : Nat} (h : Rl n z.cps.toList) : ∀ ws ∈ (Txt.split z "\n").map lineW, ∀ w ∈ ws, w.length ≤ n := by
  intro ws hws w hw
  obtain ⟨ln, hln, rfl⟩ := List.mem_map.mp hws
  obtain ⟨r, er⟩ := part_head (kind1 ln)
  have hp : (Txt.partition ln "#").1 ∈ Txt.split ln "#" := by rw [er]; exact List.mem_cons_self
  have hw' : w ∈ Txt.split (Txt.partition ln "#").1 " " := (List.mem_filter.mp hw).1
  obtain ⟨u1, v1, e1⟩ := split_seg hln
  obtain ⟨u2, v2, e2⟩ := split_seg hp
  obtain ⟨u3, v3, e3⟩ := split_seg hw'
  have f1 : 10 ∉ ln.cps.toList := StrLaws.split_free z 10 ln hln
  have f3 : 32 ∉ w.cps.toList := StrLaws.split_free _ 32 w hw'
  have R := ((h.sub e1).sub e2).sub e3
  have up : ∀ x ∈ w.cps.toList, x ∈ ln.cps.toList := fun x hx => by
    rw [e2, e3]
    exact List.mem_append_right _ (List.mem_append_left _ (List.mem_append_right _ (List.mem_append_left _ hx)))
  have l := R.all fun x hx => ⟨fun e => f3 (e ▸ hx), fun e => f1 (e ▸ up x hx)⟩
  rw [len_cps] at l
  exact l
end Y

/-! QO: _law_bent_word, what becomes of runs. -/
namespace Y
open PySem PySem.Spec PyProof.Rows L2 Ns
abbrev nls (z : Str) : Nat := z.cps.toList.count 10
structure BentR (z y : Str) : Prop where
  len : y.length ≤ 2 * z.length + 4
  run : ∀ n, 2 ≤ n → Rl n z.cps.toList → Rl (2 * n + 1) y.cps.toList
  nl : nls y ≤ 2 * nls z + 1
theorem cutS_from9 (z : Str) (k : Nat) : (cutS z (some (k : Int)) none).cps.toList = z.cps.toList.drop k := by
  have h1 : HT.sIx z.length 0 (some (k : Int)) = min k z.length := HT.sIx_nat _ _ k
  have h2 : HT.sIx z.length z.length none = z.length := rfl
  unfold cutS
  show (z.cps.toList.drop (HT.sIx z.length 0 (some (k : Int)))).take (HT.sIx z.length z.length none - HT.sIx z.length 0 (some (k : Int))) = _
  rw [h1, h2, ← len_cps, List.take_of_length_le (by rw [List.length_drop]; exact Nat.le_refl _)]
  rcases Nat.le_total k z.cps.toList.length with h | h
  · rw [Nat.min_eq_left h]
  · rw [Nat.min_eq_right h, List.drop_of_length_le (Nat.le_refl _), List.drop_of_length_le h]
theorem app_codes (a b : Str) : (a ++ b).cps.toList = a.cps.toList ++ b.cps.toList := by
  show (a.cps ++ b.cps).toList = _
  exact Array.toList_append
def spBWR : Sp := fun as H Q _ => ∃ (b : Addr) (z : Str), as = [.ref b, .str z] ∧ Bag H b ∧ z.length ≤ 400 ∧ ∀ (y : Str) (H' : Hp), BentR z y → Bag H' b → Sb b H H' → Q (.str y) H'
theorem strs_p {xs : List Str} {p : Str → Prop} (h : ∀ z ∈ xs, p z) {x : V} (hx : x ∈ xs.map V.str) : ∃ z, x = .str z ∧ p z := by
  obtain ⟨z, hz, rfl⟩ := List.mem_map.mp hx
  exact ⟨z, rfl, h z hz⟩
theorem cnt_take (l : List Nat) (k : Nat) : (l.take k).count 10 ≤ l.count 10 := (List.take_sublist k l).count_le 10
theorem cnt_drop (l : List Nat) (k : Nat) : (l.drop k).count 10 ≤ l.count 10 := (List.drop_sublist k l).count_le 10
section
variable {P : Program} {w : World} {K : PySem.W.Frag} {mg : Str → Option Value} {base : Heap}
theorem scBR : FnScope ["bag", "word", "at", "sign", "some"] ["bag", "word"] (defScope sBentWord) := ⟨rfl, rfl, rfl, by decide +kernel, rfl, by decide +kernel, by decide +kernel⟩
theorem ok_bentR {f fT fS : Addr} {fd dT dS : FuncData} (F : Fun K "_law_bent_word" "_law_bent_word" sBentWord f fd) (T : Nat0 mg) (FT : Fun K "_law_take" "_law_take" sTake fT dT) (mT : mg "_law_take" = some (.ref fT)) (bT : Binds K dT ["bag", "many"] [])
    (FS : Fun K "_law_some" "_law_some" sSome fS dS) (mS : mg "_law_some" = some (.ref fS)) (bS : Binds K dS ["bag", "things"] []) : FnOk P w K mg base CX0 3 f fd ["bag", "word"] spBWR := by
  have GT : FnOk P w K mg base CX0 1 fT dT ["bag", "many"] spTake := ok_take FT T
  have GS : FnOk P w K mg base CX0 2 fS dS ["bag", "things"] (spSome K) := ok_some FS T FT mT bT
  refine F.ok scBR (fun as H Q E h => ?_) (fun cdv A outer s H as Q E hr h => ?_)
  · obtain ⟨b, z, rfl, _⟩ := h
    rfl
  · obtain ⟨b, z, rfl, hB, hz, k⟩ := h
    have hr1 : Room 1 _ := hr.mono (by decide)
    refine ⟨_, pss_cons (ps_par (i := 2) (j := 3) rfl scBR.nd rfl rfl (by decide) rfl rfl (pa_cons (pe_call GT hr1 rfl mT FT.kp bT .nil pass0 (pa_cons (pv 0) (pa_cons (pe_op op_add (pe_callB call_len_str (by rfl) T.len PySem.boot_len (pa_cons (pv 1) pa_nil)) pe_int) pa_nil)))
        (pa_cons (pe_call GS hr rfl mS FS.kp bS .nil pass0 (pa_cons (pv 0) (pa_cons (pe_lst (pa_cons pe_str (pa_cons pe_str (pa_cons pe_str (pa_cons pe_str (pa_cons pe_str (pa_cons pe_str (pa_cons pe_str (pa_cons pe_str pa_nil))))))))) pa_nil))) pa_nil)) (by rfl))
      (pss_cons (ps_set (i := 4) scBR.nd rfl (.inl rfl) (pe_lst (pa_cons (pe_op op_add_str (pe_op op_add_str (pe_slice sl_str (pv 1) po_none (po_some (pv 2))) (pv 3)) (pe_slice sl_str (pv 1) (po_some (pv 2)) po_none))
        (pa_cons (pe_op op_add_str (pe_slice sl_str (pv 1) po_none (po_some (pv 2))) (pe_slice sl_str (pv 1) (po_some (pe_op op_add (pv 2) pe_int)) po_none))
        (pa_cons (pe_op op_add_str (pe_op op_add_str (pe_slice sl_str (pv 1) po_none (po_some (pv 2))) (pv 3)) (pe_slice sl_str (pv 1) (po_some (pe_op op_add (pv 2) pe_int)) po_none)) pa_nil)))))
      (pss_one (ps_ret (pe_call GS hr rfl mS FS.kp bS .nil pass0 (pa_cons (pv 0) (pa_cons (pe_op op_cat (pv 4) (pe_lst (pa_cons pe_str (pa_cons (pe_op op_add_str (pv 1) (pv 1)) pa_nil)))) pa_nil)))))), ?_⟩
    have zl : z.length ≤ sizeLine := Nat.le_of_lt (small1000 (by omega))
    refine ⟨_, rfl, _, rfl, z, rfl, zl, _, 1, rfl, rfl, b, _, rfl, hB, by omega, Nat.lt_of_le_of_lt (show ((z.length : Int) + 1).natAbs ≤ 1000 by omega) (by decide), fun v H1 v0 v1 B1 s1 => ?_⟩
    refine ⟨_, rfl, by show 8 ≤ sizeLine; decide, fun q hq => ⟨b, q, _, rfl, B1.new hq, sql_new upd_same (B1.ne hq), (fun z => nomatch z), by show 8 ≤ 1000000; decide, fun x H2 hx B2 s2 => ?_⟩⟩
    obtain ⟨g, rfl, gl⟩ := strs_in (xs := ["z", "0", "A", " ", "_", "9", "-", "\n"]) (n := 1) (by decide) hx
    have s12 : Sb b H H2 := (s1.new hq).trans s2
    clear s1 s2 hx
    refine ⟨_, _, rfl, ?_⟩
    have c1 := cutS_length z none (some v)
    have c2 := cutS_length z (some v) none
    have c3 := cutS_length z (some (v + 1)) none
    have l1 : (cutS z none (some v) ++ g).length + (cutS z (some v) none).length ≤ sizeLine := by rw [strLen_append]; exact Nat.le_of_lt (small1000 (by omega))
    have l2 : (cutS z none (some v)).length + (cutS z (some (v + 1)) none).length ≤ sizeLine := Nat.le_of_lt (small1000 (by omega))
    have l3 : (cutS z none (some v) ++ g).length + (cutS z (some (v + 1)) none).length ≤ sizeLine := by rw [strLen_append]; exact Nat.le_of_lt (small1000 (by omega))
    have l0 : (cutS z none (some v)).length + g.length ≤ sizeLine := Nat.le_of_lt (small1000 (by omega))
    refine ⟨_, rfl, _, rfl, _, rfl, _, rfl, zl, _, rfl, _, _, rfl, rfl, l0, _, rfl, _, rfl, _, rfl, _, rfl, zl, _, _, rfl, rfl, l1, ?_⟩
    refine ⟨_, rfl, _, rfl, _, rfl, _, rfl, zl, _, rfl, _, rfl, _, _, rfl, rfl, _, rfl, _, rfl, zl, _, _, rfl, rfl, l2, ?_⟩
    refine ⟨_, rfl, _, rfl, _, rfl, _, rfl, zl, _, rfl, _, _, rfl, rfl, l0, _, rfl, _, rfl, _, _, rfl, rfl, _, rfl, _, rfl, zl, _, _, rfl, rfl, l3, ?_⟩
    refine ⟨by show 3 ≤ sizeLine; decide, fun q2 hq2 => ?_⟩
    have ll : z.length + z.length ≤ sizeLine := Nat.le_of_lt (small1000 (by omega))
    refine ⟨_, rfl, _, rfl, _, rfl, _, rfl, _, _, rfl, rfl, ll, by show 2 ≤ sizeLine; decide, fun q3 hq3 => ⟨q2, q3, _, _, rfl, rfl, s3u hq3 upd_same, upd_same, by show 3 + 2 ≤ sizeLine; decide, fun q4 hq4 => ?_⟩⟩
    refine ⟨b, q4, _, rfl, ((B2.new hq2).new hq3).new hq4, sql_new upd_same (((B2.new hq2).new hq3).ne hq4), (fun z => nomatch z), by show 5 ≤ 1000000; decide, fun x H3 hx B3 s3 => ?_⟩
    have gl : g.cps.toList.length ≤ 1 := by rw [len_cps]; exact gl
    have gc : g.cps.toList.count 10 ≤ 1 := Nat.le_trans List.count_le_length gl
    have c1 : (cutS z none (some v)).cps.toList = z.cps.toList.take v.toNat := by rw [show v = ((v.toNat : Nat) : Int) by omega, cut_list]; rfl
    have c2 : (cutS z (some v) none).cps.toList = z.cps.toList.drop v.toNat := by rw [show v = ((v.toNat : Nat) : Int) by omega, cutS_from9]; rfl
    have c3 : (cutS z (some (v + 1)) none).cps.toList = z.cps.toList.drop (v.toNat + 1) := by rw [show v + 1 = ((v.toNat + 1 : Nat) : Int) by omega, cutS_from9]
    have t1 := cnt_take z.cps.toList v.toNat
    have t2 := cnt_drop z.cps.toList v.toNat
    have t3 := cnt_drop z.cps.toList (v.toNat + 1)
    have cut : (z.cps.toList.take v.toNat).count 10 + (z.cps.toList.drop v.toNat).count 10 = z.cps.toList.count 10 := by rw [← List.count_append, List.take_append_drop]
    obtain ⟨y, rfl, yl⟩ := strs_p (xs := [cutS z none (some v) ++ g ++ cutS z (some v) none, cutS z none (some v) ++ cutS z (some (v + 1)) none, cutS z none (some v) ++ g ++ cutS z (some (v + 1)) none, "feed", z ++ z]) (p := BentR z) (fun u hu => by
      have m1 := cutS_length z none (some v)
      have m2 := cutS_length z (some v) none
      have m3 := cutS_length z (some (v + 1)) none
      have gl2 : g.length ≤ 1 := by rw [← len_cps]; exact gl
      simp only [List.mem_cons, List.not_mem_nil, or_false] at hu
      rcases hu with rfl | rfl | rfl | rfl | rfl
      · refine ⟨by rw [strLen_append, strLen_append]; omega, fun n _ h => ?_, ?_⟩
        · rw [app_codes, app_codes, c1, c2]; exact Rl.bent _ _ h gl
        · unfold nls; rw [app_codes, app_codes, c1, c2, List.count_append, List.count_append]; omega
      · refine ⟨by rw [strLen_append]; omega, fun n _ h => ?_, ?_⟩
        · rw [app_codes, c1, c3]; exact (h.take.app h.drop).mono (by omega)
        · unfold nls; rw [app_codes, c1, c3, List.count_append]; omega
      · refine ⟨by rw [strLen_append, strLen_append]; omega, fun n _ h => ?_, ?_⟩
        · rw [app_codes, app_codes, c1, c3]; exact Rl.bent _ _ h gl
        · unfold nls; rw [app_codes, app_codes, c1, c3, List.count_append, List.count_append]; omega
      · refine ⟨by show 4 ≤ _; omega, fun n hn _ => (Rl.len (n := 4) (by decide +kernel)).mono (by omega), ?_⟩
        have : nls "feed" = 0 := by decide +kernel
        rw [this]; exact Nat.zero_le _
      · refine ⟨by rw [strLen_append]; omega, fun n _ h => ?_, ?_⟩
        · rw [app_codes]; exact h.twice
        · unfold nls; rw [app_codes, List.count_append]; omega) hx
    exact k y H3 yl B3 ((((s12.new hq2).new hq3).new hq4).trans s3)
end
end Y

/-! QP: how many lines a text has. -/
namespace Y
open PySem PySem.Spec PyProof.Rows L2 Ns
open PySem.Builtin.Str
theorem nls_app (a b : Str) : nls (a ++ b) = nls a + nls b := by unfold nls; rw [app_codes, List.count_append]
theorem nls_join : ∀ (p : Str) (r : List Str), nls (Str.join "\n" (p :: r)) = nls p + (r.map fun x => nls x + 1).sum
  | p, [] => by simp [Str.join]
  | p, q :: r => by
    have e : Str.join "\n" (p :: q :: r) = p ++ "\n" ++ Str.join "\n" (q :: r) := rfl
    have n1 : nls "\n" = 1 := by decide +kernel
    rw [e, nls_app, nls_app, nls_join q r, n1, List.map_cons, List.sum_cons]
    omega
theorem lines_count (z : Str) : (Txt.split z "\n").length = nls z + 1 := by
  have e := StrLaws.join_split z "\n"
  have f := StrLaws.split_free z 10
  have f : ∀ p ∈ Txt.split z "\n", 10 ∉ p.cps.toList := f
  cases h : Txt.split z "\n" with
  | nil =>
    exfalso
    obtain ⟨r, er⟩ := part_head (a := z) (b := "\n") (by
      have e : PySem.Builtin.Str.strKind ("\n" : Str) = 1 := by decide +kernel
      rw [e]
      unfold PySem.Builtin.Str.strKind
      split
      · omega
      · split <;> omega)
    rw [h] at er
    cases er
  | cons p r =>
    rw [h] at e f
    have z0 : ∀ x ∈ p :: r, nls x = 0 := fun x hx => List.count_eq_zero.mpr (f x hx)
    have := nls_join p r
    rw [e, z0 p List.mem_cons_self] at this
    have s : (r.map fun x => nls x + 1).sum = r.length := by
      clear h e f this
      have zr : ∀ x ∈ r, nls x = 0 := fun x hx => z0 x (List.mem_cons_of_mem _ hx)
      clear z0
      induction r with
      | nil => rfl
      | cons x r ih =>
        rw [List.map_cons, List.sum_cons, ih fun y hy => zr y (List.mem_cons_of_mem _ hy), zr x List.mem_cons_self, List.length_cons]
        omega
    rw [List.length_cons]
    omega
end Y

/-! QR: runs of joined texts. -/
namespace Y
open PySem PySem.Spec PyProof.Rows L2 Ns
open PySem.Builtin.Str
theorem rl_join {n c : Nat} (hc : ¬ isW c) : ∀ {ls : List Str}, (∀ z ∈ ls, Rl n z.cps.toList) → Rl n (Str.join ⟨#[c]⟩ ls).cps.toList
  | [], _ => Rl.len (by show ("" : Str).cps.toList.length ≤ n; have : ("" : Str).cps.toList.length = 0 := by decide +kernel
                        omega)
  | [p], h => h p List.mem_cons_self
  | p :: q :: r, h => by
    have e : (Str.join ⟨#[c]⟩ (p :: q :: r)).cps.toList = p.cps.toList ++ (c :: (Str.join ⟨#[c]⟩ (q :: r)).cps.toList) := by
      show (p ++ (⟨#[c]⟩ : Str) ++ Str.join ⟨#[c]⟩ (q :: r)).cps.toList = _
      rw [app_codes, app_codes, List.append_assoc]
      rfl
    rw [e]
    exact (h p List.mem_cons_self).sep (rl_join hc fun z hz => h z (List.mem_cons_of_mem _ hz)) hc
theorem rl_lines {n : Nat} {ls : List Str} (h : ∀ z ∈ ls, Rl n z.cps.toList) : Rl n (Str.join "\n" ls).cps.toList := rl_join (c := 10) (fun z => z.2 rfl) h
theorem rl_words {n : Nat} {ls : List Str} (h : ∀ z ∈ ls, Rl n z.cps.toList) : Rl n (Str.join " " ls).cps.toList := rl_join (c := 32) (fun z => z.1 rfl) h
/-- the words of a line keep its bound -/
theorem rl_part {n : Nat} {z w : Str} (h : Rl n z.cps.toList) (hw : w ∈ wordsP z) : Rl n w.cps.toList := by
  obtain ⟨u, v, e⟩ := split_seg (List.mem_filter.mp hw).1
  exact h.sub e
end Y

/-! QS: what is known of a list of lines, and of the words of one. -/
namespace Y
open PySem PySem.Spec PyProof.Rows L2 Ns
open PySem.Builtin.Str
def mu (ws : List Str) : Nat := (ws.map fun w => w.length + 1).sum
def nu (ws : List Str) : Nat := (ws.map nls).sum
theorem mu_cons (w : Str) (ws : List Str) : mu (w :: ws) = w.length + 1 + mu ws := by simp [mu]
theorem nu_cons (w : Str) (ws : List Str) : nu (w :: ws) = nls w + nu ws := by simp [nu]
theorem mu_app (a b : List Str) : mu (a ++ b) = mu a + mu b := by simp [mu]
theorem nu_app (a b : List Str) : nu (a ++ b) = nu a + nu b := by simp [nu]
theorem mu_cut (ws : List Str) (i : Nat) : mu (ws.take i) + mu (ws.drop i) = mu ws := by rw [← mu_app, List.take_append_drop]
theorem nu_cut (ws : List Str) (i : Nat) : nu (ws.take i) + nu (ws.drop i) = nu ws := by rw [← nu_app, List.take_append_drop]
theorem mu_at : ∀ {ws : List Str} {i : Nat} {w : Str}, ws[i]? = some w → mu (ws.take i) + (w.length + 1) + mu (ws.drop (i + 1)) = mu ws
  | [], _, _, h => by cases h
  | x :: ws, 0, w, h => by cases h; rw [mu_cons]; simp [mu]
  | x :: ws, i + 1, w, h => by
    have := mu_at (ws := ws) (i := i) h
    rw [List.take_succ_cons, List.drop_succ_cons, mu_cons, mu_cons]
    omega
theorem nu_at : ∀ {ws : List Str} {i : Nat} {w : Str}, ws[i]? = some w → nu (ws.take i) + nls w + nu (ws.drop (i + 1)) = nu ws
  | [], _, _, h => by cases h
  | x :: ws, 0, w, h => by cases h; rw [nu_cons]; simp [nu]
  | x :: ws, i + 1, w, h => by
    have := nu_at (ws := ws) (i := i) h
    rw [List.take_succ_cons, List.drop_succ_cons, nu_cons, nu_cons]
    omega
theorem nu_le {ws : List Str} {w : Str} (h : w ∈ ws) : nls w ≤ nu ws := by
  obtain ⟨i, hi⟩ := List.getElem?_of_mem h
  have := nu_at hi
  omega
theorem mu_le {ws : List Str} {w : Str} (h : w ∈ ws) : w.length + 1 ≤ mu ws := by
  obtain ⟨i, hi⟩ := List.getElem?_of_mem h
  have := mu_at hi
  omega
theorem mu_join : ∀ ws : List Str, (Str.join " " ws).length ≤ mu ws
  | [] => by show ("" : Str).length ≤ _; exact Nat.zero_le _
  | [p] => by rw [mu_cons]; show p.length ≤ _; omega
  | p :: q :: r => by
    have e : Str.join " " (p :: q :: r) = p ++ " " ++ Str.join " " (q :: r) := rfl
    have l : (" " : Str).length = 1 := by decide +kernel
    have := mu_join (q :: r)
    rw [e, strLen_append, strLen_append, l, mu_cons]
    omega
theorem join_mu : ∀ ws : List Str, mu ws ≤ (Str.join " " ws).length + 1
  | [] => Nat.zero_le _
  | [p] => by rw [mu_cons]; show p.length + 1 + 0 ≤ p.length + 1; omega
  | p :: q :: r => by
    have e : Str.join " " (p :: q :: r) = p ++ " " ++ Str.join " " (q :: r) := rfl
    have l : (" " : Str).length = 1 := by decide +kernel
    have := join_mu (q :: r)
    rw [e, strLen_append, strLen_append, l, mu_cons]
    omega
theorem nu_join : ∀ ws : List Str, nls (Str.join " " ws) = nu ws
  | [] => by show nls "" = 0; decide +kernel
  | [p] => by rw [nu_cons]; show nls p = nls p + 0; omega
  | p :: q :: r => by
    have e : Str.join " " (p :: q :: r) = p ++ " " ++ Str.join " " (q :: r) := rfl
    have l : nls (" " : Str) = 0 := by decide +kernel
    have := nu_join (q :: r)
    rw [e, nls_app, nls_app, l, this, nu_cons p]
    omega
theorem mu_filter (p : Str → Bool) : ∀ ws : List Str, mu (ws.filter p) ≤ mu ws
  | [] => Nat.le_refl _
  | x :: ws => by
    have := mu_filter p ws
    rw [List.filter_cons]
    split
    · rw [mu_cons, mu_cons]; omega
    · rw [mu_cons]; omega
theorem nu_filter (p : Str → Bool) : ∀ ws : List Str, nu (ws.filter p) ≤ nu ws
  | [] => Nat.le_refl _
  | x :: ws => by
    have := nu_filter p ws
    rw [List.filter_cons]
    split
    · rw [nu_cons, nu_cons]; omega
    · rw [nu_cons]; omega
/-- of the words of a line, which are parted by blanks alone -/
theorem wordsP_mu (z : Str) : mu (wordsP z) ≤ z.length + 1 := by
  have h := join_mu (Txt.split z " ")
  rw [StrLaws.join_split z " "] at h
  exact Nat.le_trans (mu_filter _ _) h
theorem wordsP_nu (z : Str) : nu (wordsP z) ≤ nls z := by
  have h := nu_join (Txt.split z " ")
  rw [StrLaws.join_split z " "] at h
  rw [h]
  exact nu_filter _ _
theorem wordsP_le {z w : Str} (h : w ∈ wordsP z) : w.length ≤ z.length := by
  have := mu_le h
  have := wordsP_mu z
  omega
/-- what is known of lines -/
structure HQ (n L N T : Nat) (ls : List Str) : Prop where
  run : ∀ z ∈ ls, Rl n z.cps.toList
  len : ∀ z ∈ ls, z.length ≤ L
  many : ls.length ≤ N
  nl : nu ls ≤ T
/-- what is known of a line's words, behind the hurt -/
structure WQ (n L T : Nat) (ws : List Str) : Prop where
  run : ∀ w ∈ ws, Rl n w.cps.toList
  len : mu ws ≤ L
  nl : nu ws ≤ T
/-- a line more -/
theorem HQ.put {n L N T : Nat} {ls : List Str} {y : Str} (h : HQ n L N T ls) (i : Nat) (hn : 20 ≤ n) (hL : 20 ≤ L) (hy : y ∈ ls ∨ (y.length ≤ 20 ∧ nls y = 0)) : HQ (2 * n + 1) (2 * L + 5) (N + 1) (2 * T + 1) (ls.take i ++ [y] ++ ls.drop i) := by
  have all : ∀ z ∈ ls.take i ++ [y] ++ ls.drop i, z ∈ ls ∨ z = y := fun z hz => by
    rcases List.mem_append.mp hz with g | g
    · rcases List.mem_append.mp g with g | g
      · exact .inl (List.mem_of_mem_take g)
      · exact .inr (List.mem_singleton.mp g)
    · exact .inl (List.mem_of_mem_drop g)
  have hyL : y.length ≤ L := by
    rcases hy with g | g
    · exact h.len y g
    · omega
  have hyR : Rl n y.cps.toList := by
    rcases hy with g | g
    · exact h.run y g
    · exact Rl.len (by rw [len_cps]; omega)
  have hyN : nls y ≤ T := by
    rcases hy with g | g
    · exact Nat.le_trans (nu_le g) h.nl
    · rw [g.2]; exact Nat.zero_le _
  refine ⟨fun z hz => ?_, fun z hz => ?_, ?_, ?_⟩
  · rcases all z hz with g | g
    · exact (h.run z g).mono (by omega)
    · rw [g]; exact hyR.mono (by omega)
  · rcases all z hz with g | g
    · have := h.len z g; omega
    · rw [g]; omega
  · have := h.many
    rw [List.length_append, List.length_append, List.length_take, List.length_drop]
    show min i ls.length + 1 + (ls.length - i) ≤ N + 1
    omega
  · rw [nu_app, nu_app, nu_cons]
    have := nu_cut ls i
    have := h.nl
    show nu (ls.take i) + (nls y + 0) + nu (ls.drop i) ≤ _
    omega
/-- a line hurt -/
theorem HQ.hurt {n L N T : Nat} {ls ws : List Str} {z : Str} {i : Nat} (h : HQ n L N T ls) (hz : ls[i]? = some z) (w : WQ (2 * n + 1) (2 * L + 5) (2 * nls z + 1) ws) : HQ (2 * n + 1) (2 * L + 5) (N + 1) (2 * T + 1) (ls.take i ++ [Str.join " " ws] ++ ls.drop (i + 1)) := by
  have all : ∀ y ∈ ls.take i ++ [Str.join " " ws] ++ ls.drop (i + 1), y ∈ ls ∨ y = Str.join " " ws := fun y hy => by
    rcases List.mem_append.mp hy with g | g
    · rcases List.mem_append.mp g with g | g
      · exact .inl (List.mem_of_mem_take g)
      · exact .inr (List.mem_singleton.mp g)
    · exact .inl (List.mem_of_mem_drop g)
  refine ⟨fun y hy => ?_, fun y hy => ?_, ?_, ?_⟩
  · rcases all y hy with g | g
    · exact (h.run y g).mono (by omega)
    · rw [g]; exact rl_words w.run
  · rcases all y hy with g | g
    · have := h.len y g; omega
    · rw [g]; exact Nat.le_trans (mu_join ws) w.len
  · have := h.many
    rw [List.length_append, List.length_append, List.length_take, List.length_drop]
    show min i ls.length + 1 + (ls.length - (i + 1)) ≤ N + 1
    have : i < ls.length := (List.getElem?_eq_some_iff.mp hz).1
    omega
  · rw [nu_app, nu_app, nu_cons, nu_join]
    have h1 := nu_at hz
    have h2 := h.nl
    have h3 := w.nl
    show nu (ls.take i) + (nu ws + 0) + nu (ls.drop (i + 1)) ≤ _
    omega
/-- a word otherwise -/
theorem WQ.set {n L : Nat} {z w y : Str} {i : Nat} (hr : Rl n z.cps.toList) (hl : z.length ≤ L) (hn : 20 ≤ n) (hL : 40 ≤ L) (hw : (wordsP z)[i]? = some w) (hy : BentR w y ∨ (y.length ≤ 40 ∧ nls y = 0)) : WQ (2 * n + 1) (2 * L + 5) (2 * nls z + 1) ((wordsP z).set i y) := by
  have hm : w ∈ wordsP z := List.mem_of_getElem? hw
  have il : i < (wordsP z).length := (List.getElem?_eq_some_iff.mp hw).1
  have e : (wordsP z).set i y = (wordsP z).take i ++ [y] ++ (wordsP z).drop (i + 1) := by
    rw [List.set_eq_take_append_cons_drop, if_pos il]
    simp
  have m1 := mu_at hw
  have m2 := wordsP_mu z
  have m3 := wordsP_le hm
  have n1 := nu_at hw
  have n2 := wordsP_nu z
  have rw0 : Rl n w.cps.toList := rl_part hr hm
  refine ⟨fun x hx => ?_, ?_, ?_⟩
  · rw [e] at hx
    rcases List.mem_append.mp hx with g | g
    · rcases List.mem_append.mp g with g | g
      · exact (rl_part hr (List.mem_of_mem_take g)).mono (by omega)
      · rw [List.mem_singleton.mp g]
        rcases hy with g | g
        · exact g.run n (by omega) rw0
        · exact Rl.len (by rw [len_cps]; omega)
    · exact (rl_part hr (List.mem_of_mem_drop g)).mono (by omega)
  · rw [e, mu_app, mu_app, mu_cons]
    show mu ((wordsP z).take i) + (y.length + 1 + 0) + mu ((wordsP z).drop (i + 1)) ≤ _
    rcases hy with g | g
    · have := g.len; omega
    · omega
  · rw [e, nu_app, nu_app, nu_cons]
    show nu ((wordsP z).take i) + (nls y + 0) + nu ((wordsP z).drop (i + 1)) ≤ _
    rcases hy with g | g
    · have := g.nl; omega
    · omega
/-- words more or fewer -/
theorem WQ.cut {n L : Nat} {z : Str} {i j : Nat} {ys : List Str} (hr : Rl n z.cps.toList) (hl : z.length ≤ L) (hn : 20 ≤ n) (hL : 40 ≤ L) (hy : ys.length ≤ 1) (hz : ∀ y ∈ ys, y.length ≤ 40 ∧ nls y = 0) (hij : i ≤ j) : WQ (2 * n + 1) (2 * L + 5) (2 * nls z + 1) ((wordsP z).take i ++ ys ++ (wordsP z).drop j) := by
  have m0 : mu ys ≤ 41 ∧ nu ys = 0 := by
    match ys, hy with
    | [], _ => exact ⟨Nat.zero_le _, rfl⟩
    | [y], _ =>
      obtain ⟨h1, h2⟩ := hz y List.mem_cons_self
      exact ⟨by rw [mu_cons]; show y.length + 1 + 0 ≤ 41; omega, by rw [nu_cons, h2]; rfl⟩
  have m1 := mu_cut (wordsP z) i
  have n1 := nu_cut (wordsP z) i
  have m2 := wordsP_mu z
  have n2 := wordsP_nu z
  have ej : (wordsP z).drop j = ((wordsP z).drop i).drop (j - i) := by rw [List.drop_drop]; congr 1; omega
  have m3 := mu_cut ((wordsP z).drop i) (j - i)
  have n3 := nu_cut ((wordsP z).drop i) (j - i)
  refine ⟨fun x hx => ?_, ?_, ?_⟩
  · rcases List.mem_append.mp hx with g | g
    · rcases List.mem_append.mp g with g | g
      · exact (rl_part hr (List.mem_of_mem_take g)).mono (by omega)
      · have := (hz x g).1
        exact Rl.len (by rw [len_cps]; omega)
    · exact (rl_part hr (List.mem_of_mem_drop g)).mono (by omega)
  · rw [mu_app, mu_app, ej]
    omega
  · rw [nu_app, nu_app, ej]
    omega
end Y

/-! QT: _law_hurt. -/
namespace Y
open PySem PySem.Spec PyProof.Rows L2 Ns
open C8 (pss_cut)
open PySem.Builtin.Str
theorem cutV_from9 (xs : List V) (k : Nat) : cutV xs (some (k : Int)) none = xs.drop k := by
  have h1 : HT.sIx xs.length 0 (some (k : Int)) = min k xs.length := HT.sIx_nat _ _ k
  have h2 : HT.sIx xs.length xs.length none = xs.length := rfl
  unfold cutV
  rw [h1, h2, List.take_of_length_le (by rw [List.length_drop]; exact Nat.le_refl _)]
  rcases Nat.le_total k xs.length with h | h
  · rw [Nat.min_eq_left h]
  · rw [Nat.min_eq_right h, List.drop_of_length_le (Nat.le_refl _), List.drop_of_length_le h]
def tCutB (t : TT) : TT := fun σ H Q => ∃ R : Bool → Hp → Prop, t σ H R ∧ ∀ c H', R c H' → Q c H'
theorem pt_cutB {X : Cx} {e : Expr} {t : TT} (h : PT X e t) : PT X e (tCutB t) := by
  refine ⟨fun pins s σ H Q I h0 => ?_⟩
  obtain ⟨R, h1, h2⟩ := h0
  refine thn (h.run pins s σ H R I h1) fun u s1 hu => ?_
  obtain ⟨H1, I1, q⟩ := hu
  exact ⟨H1, I1, h2 _ _ q⟩
theorem ixN_at {n j : Nat} (h : j < n) : ixN n (j : Int) = some j := by
  unfold ixN
  rw [if_pos (by omega), if_pos (by omega)]
  simp
def spHurt : Sp := fun as H Q _ => ∃ (b a : Addr) (ls : List Str) (n L N T : Nat), as = [.ref b, .ref a] ∧ Bag H b ∧ H a = some (.lst (txs ls)) ∧ a ≠ b ∧ HQ n L N T ls ∧ 20 ≤ n ∧ 40 ≤ L ∧ L ≤ 400 ∧ N ≤ 100 ∧
  ∀ (p : Addr) (ls' : List Str) (H' : Hp), HQ (2 * n + 1) (2 * L + 5) (N + 1) (2 * T + 1) ls' → H' p = some (.lst (txs ls')) → p ≠ b → Bag H' b → Sb b H H' → Q (.ref p) H'
theorem put_lines : ∀ z ∈ (["cable feed a 1", "cable a feed 1", "car a a 1", "car a feed 0 1", "cable a a 1", "cables a b 1", "", "#"] : List Str), z.length ≤ 20 ∧ nls z = 0 := by decide +kernel
abbrev nine40 : Str := ⟨(List.replicate 40 ("9" : Str).cps).foldl (· ++ ·) #[]⟩
abbrev a21 : Str := ⟨(List.replicate 21 ("a" : Str).cps).foldl (· ++ ·) #[]⟩
theorem put_words : ∀ z ∈ (["0", "00", "+1", "-1", "-0", "1_0", "01", "a", "feed", "A", "1.0", nine40, "cable", "car", a21, "#"] : List Str), z.length ≤ 40 ∧ nls z = 0 := by decide +kernel
section
variable {P : Program} {w : World} {K : PySem.W.Frag} {mg : Str → Option Value} {base : Heap}
theorem scHu : FnScope ["bag", "lines", "at", "way", "some", "words", "spot", "word"] ["bag", "lines"] (defScope sHurt) := ⟨rfl, rfl, rfl, by decide +kernel, rfl, by decide +kernel, by decide +kernel⟩
theorem ok_hurt {f fT fS fBW : Addr} {fd dT dS dBW : FuncData} (F : Fun K "_law_hurt" "_law_hurt" sHurt f fd) (T : Nat0 mg) (FT : Fun K "_law_take" "_law_take" sTake fT dT) (mT : mg "_law_take" = some (.ref fT)) (bT : Binds K dT ["bag", "many"] [])
    (FS : Fun K "_law_some" "_law_some" sSome fS dS) (mS : mg "_law_some" = some (.ref fS)) (bS : Binds K dS ["bag", "things"] [])
    (FBW : Fun K "_law_bent_word" "_law_bent_word" sBentWord fBW dBW) (mBW : mg "_law_bent_word" = some (.ref fBW)) (bBW : Binds K dBW ["bag", "word"] []) : FnOk P w K mg base CX0 4 f fd ["bag", "lines"] spHurt := by
  have GT : FnOk P w K mg base CX0 1 fT dT ["bag", "many"] spTake := ok_take FT T
  have GS : FnOk P w K mg base CX0 2 fS dS ["bag", "things"] (spSome K) := ok_some FS T FT mT bT
  have GBW : FnOk P w K mg base CX0 3 fBW dBW ["bag", "word"] spBWR := ok_bentR FBW T FT mT bT FS mS bS
  refine F.ok scHu (fun as H Q E h => ?_) (fun cdv A outer s H as Q E hr h => ?_)
  · obtain ⟨b, a, ls, n, L, N, T, rfl, _⟩ := h
    rfl
  · obtain ⟨b, a, ls, n, L, N, TT, rfl, hB, hA, nab, hq, hn, hL, hL4, hN, k⟩ := h
    have hr1 : Room 1 _ := hr.mono (by decide)
    have hr2 : Room 2 _ := hr.mono (by decide)
    refine ⟨_, pss_cons (ps_par (i := 2) (j := 3) rfl scHu.nd rfl rfl (by decide) rfl rfl (pa_cons (pe_call GT hr1 rfl mT FT.kp bT .nil pass0 (pa_cons (pv 0) (pa_cons (pe_op op_add (pe_callB call_len_seq (by rfl) T.len PySem.boot_len (pa_cons (pv 1) pa_nil)) pe_int) pa_nil)))
        (pa_cons (pe_call GT hr1 rfl mT FT.kp bT .nil pass0 (pa_cons (pv 0) (pa_cons pe_int pa_nil))) pa_nil)) (by rfl))
      (pss_cons (ps_if (pt_cutB <| PW.pt (pw_or (pt_cmpR op_eq (pv 3) pe_int (nomark _)) (pw_or1 (pt_cmpR op_eq (pv 2) (pe_callB call_len_seq (by rfl) T.len PySem.boot_len (pa_cons (pv 1) pa_nil)) (nomark _)))))
        (pss_cons (ps_set (i := 4) scHu.nd rfl (.inl rfl) (pe_lst (pa_cons pe_str (pa_cons pe_str (pa_cons pe_str (pa_cons pe_str (pa_cons pe_str (pa_cons pe_str (pa_cons pe_str pa_nil)))))))))
        (pss_one (ps_ret (pe_op op_cat (pe_op op_cat (pe_slice sl_list (pv 1) po_none (po_some (pv 2))) (pe_lst (pa_cons (pe_call GS hr2 rfl mS FS.kp bS .nil pass0 (pa_cons (pv 0) (pa_cons (pe_op op_cat (pe_op op_cat (pv 4) (pe_lst (pa_cons pe_str pa_nil))) (pv 1)) pa_nil))) pa_nil))) (pe_slice sl_list (pv 1) (po_some (pv 2)) po_none))))) pss_nil)
      (pss_cons (ps_setLc (i := 5) (own := [("word", 7)]) (g := gName 7) rfl scHu.nd rfl rfl (sw_true rfl rfl rfl (by decide +kernel)) (pi_list (pe_split (pe_ix ix_list (pv 1) (pv 2) (fun _ _ => rfl)) pe_str)) (blkOk_by (N := ["bag", "lines", "at", "way", "some", "words", "spot", "word"]) (sc := defScope sHurt) (by decide +kernel))
          (fun _ _ _ _ _ => pg_name (i := 7) scHu.nd rfl (Or.inl rfl)) (fun _ _ _ _ _ => pts_one (pt_cmpR op_ne (pv 7) pe_str (nomark _))) (fun _ _ _ _ _ => pv 7))
      (pss_cons (ps_set (i := 6) scHu.nd rfl (.inl rfl) (pe_call GT hr1 rfl mT FT.kp bT .nil pass0 (pa_cons (pv 0) (pa_cons (pe_op op_add (pe_callB call_len_seq (by rfl) T.len PySem.boot_len (pa_cons (pv 5) pa_nil)) pe_int) pa_nil))))
      (pss_cons (ps_set (i := 4) scHu.nd rfl (.inl rfl) (pe_lst (pa_cons pe_str (pa_cons pe_str (pa_cons pe_str (pa_cons pe_str (pa_cons pe_str (pa_cons pe_str (pa_cons pe_str (pa_cons pe_str (pa_cons pe_str (pa_cons pe_str (pa_cons pe_str (pa_cons (pe_op op_mulStr pe_str pe_int) (pa_cons pe_str (pa_cons pe_str (pa_cons (pe_op op_mulStr pe_str pe_int) (pa_cons pe_str pa_nil))))))))))))))))))
      (pss_cut (ps_if (pt_cutB <| PW.pt (pw_and (pt_cmpR op_lt (pv 6) (pe_callB call_len_seq (by rfl) T.len PySem.boot_len (pa_cons (pv 5) pa_nil)) (nomark _)) (pw_and1 (pt_cmpR op_gt (pv 3) pe_int (nomark _)))))
        (pss_one (ps_asg (pe_call GS hr2 rfl mS FS.kp bS .nil pass0 (pa_cons (pv 0) (pa_cons (pe_op op_cat (pv 4) (pe_lst (pa_cons (pe_call GBW hr rfl mBW FBW.kp bBW .nil pass0 (pa_cons (pv 0) (pa_cons (pe_ix ix_list (pv 5) (pv 6) (fun _ _ => rfl)) pa_nil))) pa_nil))) pa_nil))) (pg_sub (pv 5) (pv 6) set_list)))
        (pss_one (ps_set (i := 5) scHu.nd rfl (.inl rfl) (pe_op op_cat (pe_op op_cat (pe_slice sl_list (pv 5) po_none (po_some (pv 6))) (pe_op op_rep (pe_lst (pa_cons (pe_call GS hr2 rfl mS FS.kp bS .nil pass0 (pa_cons (pv 0) (pa_cons (pv 4) pa_nil))) pa_nil))
            (pe_callTy call_int1 (by rfl) T.int (by decide +kernel) (pa_cons (pe_cmpR op_gt (pv 3) pe_int (nomark _)) pa_nil))))
          (pe_slice sl_list (pv 5) (po_some (pe_op op_add (pv 6) (pe_call GT hr1 rfl mT FT.kp bT .nil pass0 (pa_cons (pv 0) (pa_cons pe_int pa_nil))))) po_none)))))
      (pss_one (ps_ret (pe_op op_cat (pe_op op_cat (pe_slice sl_list (pv 1) po_none (po_some (pv 2))) (pe_lst (pa_cons (pe_join pe_str (pv 5)) pa_nil))) (pe_slice sl_list (pv 1) (po_some (pe_op op_add (pv 2) pe_int)) po_none))))))))), ?_⟩
    have ll : (txs ls).length ≤ 100 := by unfold txs; rw [List.length_map]; exact Nat.le_trans hq.many hN
    have ell : (txs ls).length = ls.length := by unfold txs; rw [List.length_map]
    refine ⟨_, rfl, _, rfl, a, _, rfl, .inl (SqL.of hA), (txs ls).length, 1, rfl, rfl, b, _, rfl, hB, by omega, Nat.lt_of_le_of_lt (show (((txs ls).length : Int) + 1).natAbs ≤ 2000 by omega) (by decide), fun at' H1 a0 a1 B1 s1 => ?_⟩
    refine ⟨_, rfl, b, 5, rfl, B1, by decide, by decide, fun way H2 w0 w1 B2 s2 => ?_⟩
    have s02 := s1.trans s2
    have hA2 := s02.get hA nab
    refine ⟨_, _, rfl, ?_⟩
    obtain ⟨i, rfl⟩ : ∃ i : Nat, at' = i := ⟨at'.toNat, by omega⟩
    refine ⟨fun c H' => H' = H2 ∧ (c = false → i < ls.length ∧ 0 < way), ?_, ?_⟩
    · refine ⟨_, rfl, rfl, _, rfl, ?_⟩
      refine ite2 (fun h => ⟨rfl, fun z => nomatch z⟩) (fun h => ?_)
      refine ⟨_, rfl, _, rfl, a, _, rfl, .inl (SqL.of hA2), rfl, _, rfl, rfl, fun e => ?_⟩
      have h : ¬ (V.int way = V.int 0) := fun z => h (decide_eq_true z)
      have e := of_decide_eq_false e
      exact ⟨by
        have : ¬ i = ls.length := fun z => e (by rw [z, ell])
        omega, by
        have : ¬ way = 0 := fun z => h (by rw [z])
        omega⟩
    rintro c H' ⟨rfl, hc⟩
    refine ite2 (fun ec => ?_) (fun ec => ?_)
    · clear hc
      refine ⟨by show 7 ≤ sizeLine; decide, fun q1 hq1 => ?_⟩
      have g1 := upd_same (H := H') (a := q1) (o := .lst ([V.str "cable feed a 1", V.str "cable a feed 1", V.str "car a a 1", V.str "car a feed 0 1", V.str "cable a a 1", V.str "cables a b 1", V.str ""]))
      have gA := s3u (o := .lst ([V.str "cable feed a 1", V.str "cable a feed 1", V.str "car a a 1", V.str "car a feed 0 1", V.str "cable a a 1", V.str "cables a b 1", V.str ""])) hq1 hA2
      have B3 := B2.new (o := .lst ([V.str "cable feed a 1", V.str "cable a feed 1", V.str "car a a 1", V.str "car a feed 0 1", V.str "cable a a 1", V.str "cables a b 1", V.str ""])) hq1
      have S3 := s02.new (o := .lst ([V.str "cable feed a 1", V.str "cable a feed 1", V.str "car a a 1", V.str "car a feed 0 1", V.str "cable a a 1", V.str "cables a b 1", V.str ""])) hq1
      generalize upd H' q1 (.lst ([V.str "cable feed a 1", V.str "cable a feed 1", V.str "car a a 1", V.str "car a feed 0 1", V.str "cable a a 1", V.str "cables a b 1", V.str ""])) = H3 at g1 gA B3 S3 ⊢
      refine ⟨_, rfl, _, rfl, _, rfl, a, _, rfl, SqL.of gA, fun p1 hp1 => ?_⟩
      rw [cut_upto]
      have g2 := upd_same (H := H3) (a := p1) (o := .lst ((txs ls).take i))
      have g1 := s3u (o := .lst ((txs ls).take i)) hp1 g1
      have gA := s3u (o := .lst ((txs ls).take i)) hp1 gA
      have n1 : p1 ≠ b := B3.ne hp1
      have B4 := B3.new (o := .lst ((txs ls).take i)) hp1
      have S4 := S3.new (o := .lst ((txs ls).take i)) hp1
      generalize upd H3 p1 (.lst ((txs ls).take i)) = H4 at g1 g2 gA B4 S4 ⊢
      refine ⟨_, rfl, _, rfl, by show 1 ≤ sizeLine; decide, fun q2 hq2 => ⟨q1, q2, _, _, rfl, rfl, s3u hq2 g1, upd_same, by show 7 + 1 ≤ sizeLine; decide, fun q3 hq3 => ⟨_, rfl, q3, a, _, _, rfl, rfl, upd_same, s3u hq3 (s3u hq2 gA), by show 8 + (txs ls).length ≤ sizeLine; exact Nat.le_of_lt (small1000 (by omega)), fun q4 hq4 => ?_⟩⟩⟩
      refine ⟨b, q4, _, rfl, ((B4.new hq2).new hq3).new hq4, sql_new upd_same (((B4.new hq2).new hq3).ne hq4), (fun z => nomatch z), by rw [List.length_append]; show 8 + (txs ls).length ≤ 1000000; omega, fun x H5 hx B5 s5 => ?_⟩
      have gA5 := s5.get (s3u hq4 (s3u hq3 (s3u hq2 gA))) nab
      have g5 := s5.get (s3u hq4 (s3u hq3 (s3u hq2 g2))) n1
      have S5 := (((S4.new hq2).new hq3).new hq4).trans s5
      clear s5 S4 B4 g1 g2 gA hq2 hq3 hq4
      have hx : x ∈ txs ((["cable feed a 1", "cable a feed 1", "car a a 1", "car a feed 0 1", "cable a a 1", "cables a b 1", "", "#"] : List Str) ++ ls) := hx
      obtain ⟨y, rfl, hy⟩ := strs_p (p := fun y => y ∈ ls ∨ (y.length ≤ 20 ∧ nls y = 0)) (fun z hz => by
        rcases List.mem_append.mp hz with g | g
        · exact .inr (put_lines z g)
        · exact .inl g) hx
      refine ⟨by show 1 ≤ sizeLine; decide, fun q5 hq5 => ⟨p1, q5, _, _, rfl, rfl, s3u hq5 g5, upd_same, by rw [List.length_take]; exact Nat.le_of_lt (small1000 (show min i (txs ls).length + 1 ≤ 1000 by omega)), fun q6 hq6 => ⟨_, rfl, _, rfl, _, rfl, a, _, rfl, SqL.of (s3u hq6 (s3u hq5 gA5)), fun q7 hq7 => ?_⟩⟩⟩
      rw [cutV_from9]
      refine ⟨q6, q7, _, _, rfl, rfl, s3u hq7 upd_same, upd_same, by rw [List.length_append, List.length_take, List.length_drop]; exact Nat.le_of_lt (small1000 (show min i (txs ls).length + 1 + ((txs ls).length - i) ≤ 1000 by omega)), fun q8 hq8 => ?_⟩
      refine k q8 (ls.take i ++ [y] ++ ls.drop i) _ (hq.put i hn (by omega) hy) ?_ ((((B5.new hq5).new hq6).new hq7).ne hq8) ((((B5.new hq5).new hq6).new hq7).new hq8) ((((S5.new hq5).new hq6).new hq7).new hq8)
      rw [upd_same]
      unfold txs
      rw [List.map_append, List.map_append, List.map_take, List.map_drop]
      rfl
    obtain ⟨il, wp⟩ := hc (by simpa using ec)
    clear hc ec
    obtain ⟨z, hz⟩ : ∃ z, ls[i]? = some z := ⟨_, List.getElem?_eq_getElem il⟩
    have zm : z ∈ ls := List.mem_of_getElem? hz
    have zL : z.length ≤ L := hq.len z zm
    have zR := hq.run z zm
    have sl : z.length + 2 ≤ sizeLine := by rw [sizeLine_eq]; omega
    refine ⟨_, rfl, _, rfl, a, _, _, _, rfl, rfl, SqL.of hA2, atI_nat (v := .str z) (by unfold txs; rw [List.getElem?_map, hz]; rfl), ⟨z, rfl⟩, z, " ", rfl, rfl, rfl, sl, fun p hp => ⟨p, rfl, ⟨_, SqL.of upd_same⟩, fun D hD => ?_⟩⟩
    have npD : p ≠ D := fun e => by rw [← e, upd_same] at hD; cases hD
    have hD' : H' D = none := by rw [upd_ne npD.symm] at hD; exact hD
    refine lc_list (K := K) (a := p) (xs := (Txt.split z " ").map V.str) (fun j G => G D = some (.lst (txs (((Txt.split z " ").take j).filter fun w : Str => decide (w ≠ "")))) ∧ G p = some (.lst ((Txt.split z " ").map V.str)) ∧ Same H' G) ?_ ?_ ?_ ?_
    · exact ⟨by rw [List.take_zero, upd_same]; rfl, by rw [upd_ne npD, upd_same], same_new (same_new (Same.refl H') hp) hD⟩
    · rintro j G _ ⟨_, h, _⟩
      exact SqL.of h
    · rintro j x G hx ⟨h1, h2, h3⟩
      rw [List.getElem?_map] at hx
      obtain ⟨y, hy, rfl⟩ := Option.map_eq_some_iff.mp hx
      refine ⟨rfl, _, rfl, rfl, _, rfl, ?_⟩
      have il : j < (Txt.split z " ").length := (List.getElem?_eq_some_iff.mp hy).1
      refine ite2 (fun ne => ?_) (fun e => ?_)
      · have ny : y ≠ "" := fun e => by rw [e] at ne; simp at ne
        refine ⟨_, rfl, _, h1, ?_, ?_, by rw [upd_ne npD]; exact h2, same_put h3 hD'⟩
        · unfold txs
          rw [List.length_map]
          have := List.length_filter_le (fun w : Str => decide (w ≠ "")) ((Txt.split z " ").take j)
          rw [List.length_take] at this
          have := wordsP_len z
          rw [sizeLine_eq] at *
          omega
        · rw [upd_same, List.take_succ, hy, List.filter_append]
          unfold txs
          rw [List.map_append]
          simp [ny]
      · have ey : y = "" := by simpa using e
        refine ⟨?_, h2, h3⟩
        rw [h1, List.take_succ, hy, List.filter_append, ey]
        simp
    rintro G4 ⟨h1, _, h3⟩
    rw [List.length_map, List.take_length] at h1
    have eW : G4 D = some (.lst (txs (wordsP z))) := h1
    have nDb : D ≠ b := B2.ne hD'
    have B4 := B2.keep h3
    have S4 := s02.same h3
    have gA := h3 _ _ hA2
    clear h1 h3 hp hD
    have lW : (txs (wordsP z)).length ≤ 600 := by
      have := wordsP_len z
      have f : (wordsP z).length ≤ (Txt.split z " ").length := List.length_filter_le _ _
      unfold txs
      rw [List.length_map]
      omega
    have elW : (txs (wordsP z)).length = (wordsP z).length := by unfold txs; rw [List.length_map]
    refine ⟨_, rfl, _, rfl, D, _, rfl, .inl (SqL.of eW), (txs (wordsP z)).length, 1, rfl, rfl, b, _, rfl, B4, by omega, Nat.lt_of_le_of_lt (show (((txs (wordsP z)).length : Int) + 1).natAbs ≤ 2000 by omega) (by decide), fun sp G5 sp0 sp1 B5 s5 => ?_⟩
    obtain ⟨m, rfl⟩ : ∃ m : Nat, sp = m := ⟨sp.toNat, by omega⟩
    have gA := s5.get gA nab
    have eW := s5.get eW nDb
    have S5 := S4.trans s5
    clear S4 s5 B4
    refine ⟨_, 40, rfl, rfl, by decide, by decide, by decide, by decide, _, 21, rfl, rfl, by decide, by decide, by decide, by decide, by show 16 ≤ sizeLine; decide, fun q4 hq4 => ?_⟩
    have e4 := upd_same (H := G5) (a := q4) (o := .lst [V.str "0", V.str "00", V.str "+1", V.str "-1", V.str "-0", V.str "1_0", V.str "01", V.str "a", V.str "feed", V.str "A", V.str "1.0", V.str nine40, V.str "cable", V.str "car", V.str a21, V.str "#"])
    have gA := s3u (o := .lst [V.str "0", V.str "00", V.str "+1", V.str "-1", V.str "-0", V.str "1_0", V.str "01", V.str "a", V.str "feed", V.str "A", V.str "1.0", V.str nine40, V.str "cable", V.str "car", V.str a21, V.str "#"]) hq4 gA
    have eW := s3u (o := .lst [V.str "0", V.str "00", V.str "+1", V.str "-1", V.str "-0", V.str "1_0", V.str "01", V.str "a", V.str "feed", V.str "A", V.str "1.0", V.str nine40, V.str "cable", V.str "car", V.str a21, V.str "#"]) hq4 eW
    have n4 : q4 ≠ b := B5.ne hq4
    have fD : H' D = none := hD'
    have B6 := B5.new (o := .lst [V.str "0", V.str "00", V.str "+1", V.str "-1", V.str "-0", V.str "1_0", V.str "01", V.str "a", V.str "feed", V.str "A", V.str "1.0", V.str nine40, V.str "cable", V.str "car", V.str a21, V.str "#"]) hq4
    have S6 := S5.new (o := .lst [V.str "0", V.str "00", V.str "+1", V.str "-1", V.str "-0", V.str "1_0", V.str "01", V.str "a", V.str "feed", V.str "A", V.str "1.0", V.str nine40, V.str "cable", V.str "car", V.str a21, V.str "#"]) hq4
    generalize upd G5 q4 (.lst [V.str "0", V.str "00", V.str "+1", V.str "-1", V.str "-0", V.str "1_0", V.str "01", V.str "a", V.str "feed", V.str "A", V.str "1.0", V.str nine40, V.str "cable", V.str "car", V.str a21, V.str "#"]) = G6 at e4 gA eW B6 S6 ⊢
    clear S5 B5 hq4
    have hD0 : H D = none := s02.free hD' nDb
    refine ⟨fun σ G => ∃ (v4 : Option V) (W : Addr) (ws : List Str), σ = [some (.ref b), some (.ref a), some (.int (i : Nat)), some (.int way), v4, some (.ref W), some (.int (m : Nat)), none] ∧ G W = some (.lst (txs ws)) ∧ WQ (2 * n + 1) (2 * L + 5) (2 * nls z + 1) ws ∧ ws.length ≤ 1000 ∧ G a = some (.lst (txs ls)) ∧ Bag G b ∧ Sb b H G, ?_, ?_⟩
    · refine ⟨fun c G => G = G6 ∧ (c = true → m < (wordsP z).length), ?_, ?_⟩
      · refine ⟨_, rfl, _, rfl, D, _, rfl, .inl (SqL.of eW), _, _, rfl, rfl, _, rfl, ?_⟩
        refine ite2 (fun h => ?_) (fun h => ⟨rfl, fun z => nomatch z⟩)
        refine ⟨_, rfl, _, _, rfl, rfl, _, rfl, rfl, fun _ => ?_⟩
        have := of_decide_eq_true h
        omega
      rintro c G ⟨rfl, hc⟩
      refine ite2 (fun ec => ?_) (fun ec => ?_)
      · have ml := hc ec
        obtain ⟨wd, hw⟩ : ∃ y, (wordsP z)[m]? = some y := ⟨_, List.getElem?_eq_getElem ml⟩
        have wl : wd.length ≤ 400 := Nat.le_trans (wordsP_le (List.mem_of_getElem? hw)) (Nat.le_trans zL hL4)
        refine ⟨_, rfl, _, rfl, _, rfl, _, rfl, _, rfl, D, _, _, _, rfl, rfl, SqL.of eW, atI_nat (v := .str wd) (by unfold txs; rw [List.getElem?_map, hw]; rfl), b, wd, rfl, B6, wl, fun y G7 hy B7 s7 => ⟨by show 1 ≤ sizeLine; decide, fun q5 hq5 => ?_⟩⟩
        have e4' := s7.get e4 n4
        refine ⟨q4, q5, _, _, rfl, rfl, s3u hq5 e4', upd_same, by show 16 + 1 ≤ sizeLine; decide, fun q6 hq6 => ⟨b, q6, _, rfl, (B7.new hq5).new hq6, sql_new upd_same ((B7.new hq5).ne hq6), (fun z => nomatch z), by show 16 + 1 ≤ 1000000; decide, fun x G8 hx B8 s8 => ?_⟩⟩
        have eW' := s8.get (s3u hq6 (s3u hq5 (s7.get eW nDb))) nDb
        have gA' := s8.get (s3u hq6 (s3u hq5 (s7.get gA nab))) nab
        have S8 := (((S6.trans s7).new hq5).new hq6).trans s8
        have hx : x ∈ txs ((["0", "00", "+1", "-1", "-0", "1_0", "01", "a", "feed", "A", "1.0", nine40, "cable", "car", a21, "#"] : List Str) ++ [y]) := hx
        obtain ⟨u, rfl, hu⟩ := strs_p (p := fun u => BentR wd u ∨ (u.length ≤ 40 ∧ nls u = 0)) (fun t ht => by
          rcases List.mem_append.mp ht with g | g
          · exact .inr (put_words t g)
          · rw [List.mem_singleton.mp g]; exact .inl hy) hx
        refine ⟨_, rfl, _, rfl, D, _, _, m, rfl, rfl, eW', ixN_at (by omega), some (.ref q4), D, (wordsP z).set m u, rfl, ?_, WQ.set zR zL hn hL hw hu, by rw [List.length_set]; omega, ?_, ?_, ?_⟩
        · rw [upd_same]
          unfold txs
          rw [List.map_set]
        · rw [upd_ne (fun e => by rw [← e, hA2] at hD'; cases hD')]
          exact gA'
        · exact hB.wr hD0 S8 B8
        · exact S8.wr hD0
      · refine ⟨_, rfl, _, rfl, _, rfl, D, _, rfl, SqL.of eW, fun p1 hp1 => ?_⟩
        rw [cut_upto]
        have g2 := upd_same (H := G) (a := p1) (o := .lst ((txs (wordsP z)).take m))
        have eW := s3u (o := .lst ((txs (wordsP z)).take m)) hp1 eW
        have gA := s3u (o := .lst ((txs (wordsP z)).take m)) hp1 gA
        have e4 := s3u (o := .lst ((txs (wordsP z)).take m)) hp1 e4
        have n1 : p1 ≠ b := B6.ne hp1
        have B7 := B6.new (o := .lst ((txs (wordsP z)).take m)) hp1
        have S7 := S6.new (o := .lst ((txs (wordsP z)).take m)) hp1
        generalize upd G p1 (.lst ((txs (wordsP z)).take m)) = G7 at g2 eW gA e4 B7 S7 ⊢
        refine ⟨_, rfl, _, rfl, b, q4, _, rfl, B7, sql_new e4 n4, (fun z => nomatch z), by show 16 ≤ 1000000; decide, fun x G8 hx B8 s8 => ⟨by show 1 ≤ sizeLine; decide, fun q5 hq5 => ?_⟩⟩
        have hx : x ∈ txs (["0", "00", "+1", "-1", "-0", "1_0", "01", "a", "feed", "A", "1.0", nine40, "cable", "car", a21, "#"] : List Str) := hx
        obtain ⟨u, rfl, hu⟩ := strs_p (p := fun u => u.length ≤ 40 ∧ nls u = 0) (fun t ht => put_words t ht) hx
        have eW := s3u (o := .lst [V.str u]) hq5 (s8.get eW nDb)
        have gA := s3u (o := .lst [V.str u]) hq5 (s8.get gA nab)
        have g2 := s3u (o := .lst [V.str u]) hq5 (s8.get g2 n1)
        have g5 := upd_same (H := G8) (a := q5) (o := .lst [V.str u])
        have B9 := B8.new (o := .lst [V.str u]) hq5
        have S9 := (S7.trans s8).new (o := .lst [V.str u]) hq5
        generalize upd G8 q5 (.lst [V.str u]) = G9 at eW gA g2 g5 B9 S9 ⊢
        refine ⟨_, rfl, _, _, rfl, rfl, .inr ⟨_, rfl, q5, _, [V.str u], rfl, rfl, g5, ?_⟩⟩
        rw [decide_eq_true wp]
        refine ⟨by decide, by decide, by show 1 ≤ sizeLine; decide, fun r hr => ?_⟩
        have ef : (List.replicate ((if true = true then (1 : Int) else 0)).toNat [V.str u]).flatten = [V.str u] := by simp
        rw [ef] at *
        refine ⟨p1, r, _, _, rfl, rfl, s3u hr g2, upd_same, by rw [List.length_take]; exact Nat.le_of_lt (small1000 (show min m (txs (wordsP z)).length + 1 ≤ 1000 by omega)), fun t ht => ?_⟩
        have gt := upd_same (H := upd G9 r (.lst [V.str u])) (a := t) (o := .lst ((txs (wordsP z)).take m ++ [V.str u]))
        have eW := s3u (o := .lst ((txs (wordsP z)).take m ++ [V.str u])) ht (s3u (o := .lst [V.str u]) hr eW)
        have gA := s3u (o := .lst ((txs (wordsP z)).take m ++ [V.str u])) ht (s3u (o := .lst [V.str u]) hr gA)
        have nt : t ≠ b := (B9.new (o := .lst [V.str u]) hr).ne ht
        have BA := (B9.new (o := .lst [V.str u]) hr).new (o := .lst ((txs (wordsP z)).take m ++ [V.str u])) ht
        have SA := (S9.new (o := .lst [V.str u]) hr).new (o := .lst ((txs (wordsP z)).take m ++ [V.str u])) ht
        generalize upd (upd G9 r (.lst [V.str u])) t (.lst ((txs (wordsP z)).take m ++ [V.str u])) = GA at gt eW gA BA SA ⊢
        refine ⟨_, rfl, _, rfl, _, rfl, b, 2, rfl, BA, by decide, by decide, fun v GB v0 v1 BB sB => ⟨m, v, rfl, rfl, _, rfl, D, _, rfl, SqL.of (sB.get eW nDb), fun uu huu => ?_⟩⟩
        rw [show ((m : Int) + v) = ((m + v.toNat : Nat) : Int) by omega, cutV_from9]
        refine ⟨t, uu, _, _, rfl, rfl, s3u huu (sB.get gt nt), upd_same, by rw [List.length_append, List.length_take, List.length_drop]; exact Nat.le_of_lt (small1000 (show min m (txs (wordsP z)).length + 1 + ((txs (wordsP z)).length - (m + v.toNat)) ≤ 1000 by omega)), fun f hf => ?_⟩
        refine ⟨_, f, (wordsP z).take m ++ [u] ++ (wordsP z).drop (m + v.toNat), rfl, ?_, WQ.cut zR zL hn hL (Nat.le_refl 1) (fun y hy => by rw [List.mem_singleton.mp hy]; exact hu) (by omega), ?_, s3u hf (s3u huu (sB.get gA nab)), (BB.new huu).new hf, ((SA.trans sB).new huu).new hf⟩
        · rw [upd_same]
          unfold txs
          rw [List.map_append, List.map_append, List.map_take, List.map_drop]
          rfl
        · rw [List.length_append, List.length_append, List.length_take, List.length_drop]
          show min m (wordsP z).length + 1 + ((wordsP z).length - (m + v.toNat)) ≤ 1000
          omega
    · rintro σ G ⟨v4, W, ws, rfl, gW, wq, lws, gA, BG, SG⟩
      refine ⟨_, rfl, _, rfl, _, rfl, a, _, rfl, SqL.of gA, fun p1 hp1 => ?_⟩
      rw [cut_upto]
      have nlw : (txs ws).length ≤ 1000 := by unfold txs; rw [List.length_map]; exact lws
      have sz : (ws.map (·.length)).sum + ws.length * (" " : Str).length ≤ 16777216 := by
        have l : (" " : Str).length = 1 := by decide +kernel
        have := wq.len
        have e : mu ws = (ws.map (·.length)).sum + ws.length := by
          clear gW wq lws nlw this
          induction ws with
          | nil => rfl
          | cons x ws ih => rw [mu_cons, ih, List.map_cons, List.sum_cons, List.length_cons]; omega
        rw [l]
        omega
      refine ⟨⟨" ", rfl⟩, _, rfl, " ", W, ws, rfl, rfl, .inl (SqL.of (s3u hp1 gW)), sz, ?_⟩
      rw [TL.join_eq]
      have g1 := upd_same (H := G) (a := p1) (o := .lst ((txs ls).take i))
      have gA := s3u (o := .lst ((txs ls).take i)) hp1 gA
      have BG := BG.new (o := .lst ((txs ls).take i)) hp1
      have SG := SG.new (o := .lst ((txs ls).take i)) hp1
      generalize upd G p1 (.lst ((txs ls).take i)) = G1 at g1 gA BG SG ⊢
      refine ⟨by show 1 ≤ sizeLine; decide, fun q1 hq1 => ⟨p1, q1, _, _, rfl, rfl, s3u hq1 g1, upd_same, by rw [List.length_take]; exact Nat.le_of_lt (small1000 (show min i (txs ls).length + 1 ≤ 1000 by omega)), fun q2 hq2 => ⟨_, rfl, _, rfl, i, 1, rfl, rfl, _, rfl, a, _, rfl, SqL.of (s3u hq2 (s3u hq1 gA)), fun q3 hq3 => ?_⟩⟩⟩
      rw [show ((i : Int) + 1) = ((i + 1 : Nat) : Int) by omega, cutV_from9]
      refine ⟨q2, q3, _, _, rfl, rfl, s3u hq3 upd_same, upd_same, by rw [List.length_append, List.length_take, List.length_drop]; exact Nat.le_of_lt (small1000 (show min i (txs ls).length + 1 + ((txs ls).length - (i + 1)) ≤ 1000 by omega)), fun q4 hq4 => ?_⟩
      refine k q4 (ls.take i ++ [Str.join " " ws] ++ ls.drop (i + 1)) _ (hq.hurt hz wq) ?_ (((BG.new hq1).new hq2).new hq3 |>.ne hq4) ((((BG.new hq1).new hq2).new hq3).new hq4) ((((SG.new hq1).new hq2).new hq3).new hq4)
      rw [upd_same]
      unfold txs
      rw [List.map_append, List.map_append, List.map_take, List.map_drop]
      rfl
end
end Y

/-! QU: the drawn yard's lines. -/
namespace Y
open PySem PySem.Spec PyProof.Rows L2 Ns
open PySem.Builtin.Str
/-- what is known of a drawn line -/
structure LQ (n : Nat) (z : Str) : Prop where
  run : Rl 20 z.cps.toList
  len : z.length ≤ n
  nl : nls z = 0
theorem LQ.mono {n m : Nat} {z : Str} (h : LQ n z) (hm : n ≤ m) : LQ m z := ⟨h.run, Nat.le_trans h.len hm, h.nl⟩
theorem LQ.sp {n m : Nat} {a c : Str} (h : LQ n a) (g : LQ m c) : LQ (n + m + 1) (a ++ " " ++ c) := by
  have l : (" " : Str).length = 1 := by decide +kernel
  have nl : nls (" " : Str) = 0 := by decide +kernel
  refine ⟨?_, ?_, ?_⟩
  · rw [app_codes, app_codes, List.append_assoc]
    exact h.run.sep g.run (fun z => z.1 rfl)
  · have := h.len
    have := g.len
    rw [strLen_append, strLen_append, l]
    omega
  · rw [nls_app, nls_app, h.nl, g.nl, nl]
theorem lq_nf {x : Str} (h : Nf x) : LQ 20 x := by
  obtain ⟨_, h2⟩ := nm_codes h
  refine ⟨Rl.len (by rw [len_cps]; exact h2), h2, ?_⟩
  refine List.count_eq_zero.mpr fun hm => ?_
  rcases h with h | h
  · obtain ⟨c, r, e, h1, h3, _⟩ := h
    rw [e] at hm
    rcases List.mem_cons.mp hm with g | g
    · rw [← g] at h1; exact absurd h1 (by decide)
    · exact absurd (h3 _ g) (by decide)
  · rw [h] at hm
    revert hm
    decide +kernel
theorem lq_int {v : Int} (h0 : 0 ≤ v) (h : v ≤ 10 ^ 12) : LQ 13 (Str.ofString (toString v)) := by
  have l : (Str.ofString (toString v)).length ≤ 13 := toString_length_le h0 (by decide) (by omega)
  exact ⟨Rl.len (by rw [len_cps]; omega), l, List.count_eq_zero.mpr (int_text_free' 10 ⟨by decide, by decide⟩ v)⟩
theorem lq_word (x : Str) (h : x.length ≤ 20 ∧ nls x = 0) : LQ x.length x := ⟨Rl.len (by rw [len_cps]; exact h.1), Nat.le_refl _, h.2⟩
def lineC (c : Cab) : Str := "cable " ++ c.1 ++ " " ++ c.2.1 ++ " " ++ Str.ofString (toString c.2.2)
def lineR (r : Car) : Str := "car " ++ r.1 ++ " " ++ r.2.1 ++ " " ++ Str.ofString (toString r.2.2.1) ++ " " ++ Str.ofString (toString r.2.2.2)
theorem lq_cab {c : Cab} (h1 : Nf c.1) (h2 : Nf c.2.1) (h3 : 0 ≤ c.2.2) (h4 : c.2.2 ≤ 10 ^ 12) : LQ 73 (lineC c) := by
  have e : ("cable " : Str) = "cable" ++ " " := by decide +kernel
  unfold lineC
  rw [e]
  exact ((((lq_word "cable" (by decide +kernel)).sp (lq_nf h1)).sp (lq_nf h2)).sp (lq_int h3 h4)).mono (by show 5 + 20 + 1 + 20 + 1 + 13 + 1 ≤ 73; decide)
theorem lq_car {r : Car} (h1 : Nm r.1) (h2 : Nf r.2.1) (h3 : 0 ≤ r.2.2.1) (h4 : r.2.2.1 ≤ 10 ^ 12) (h5 : 0 ≤ r.2.2.2) (h6 : r.2.2.2 ≤ 10 ^ 12) : LQ 73 (lineR r) := by
  have e : ("car " : Str) = "car" ++ " " := by decide +kernel
  unfold lineR
  rw [e]
  exact (((((lq_word "car" (by decide +kernel)).sp (lq_nf (.inl h1))).sp (lq_nf h2)).sp (lq_int h3 h4)).sp (lq_int h5 h6)).mono (by show 3 + 20 + 1 + 20 + 1 + 13 + 1 + 13 + 1 ≤ 73; decide)
theorem hq_lq {ls : List Str} (h : ∀ z ∈ ls, LQ 73 z) (hl : ls.length ≤ 16) : HQ 20 73 16 0 ls := by
  refine ⟨fun z hz => (h z hz).run, fun z hz => (h z hz).len, hl, ?_⟩
  have : nu ls = 0 := by
    clear hl
    induction ls with
    | nil => rfl
    | cons z ls ih => rw [nu_cons, (h z List.mem_cons_self).nl, ih fun y hy => h y (List.mem_cons_of_mem _ hy)]
  omega
theorem lq_empty : LQ 73 "" := by
  refine ⟨Rl.len (by rw [len_cps]; decide +kernel), by decide +kernel, by decide +kernel⟩
/-- the text of lines that were hurt -/
theorem hq_text {n L N T : Nat} {ls : List Str} (h : HQ n L N T ls) (hN : N ≤ 20) (hT : T ≤ 15) (hL : L ≤ 2000) : (Txt.split (Str.join "\n" ls) "\n").length ≤ 60 ∧ (∀ ws ∈ (Txt.split (Str.join "\n" ls) "\n").map lineW, ∀ w ∈ ws, w.length ≤ n) ∧ (Str.join "\n" ls).length ≤ 1000000 := by
  have many := h.many
  have nl := h.nl
  have e : nls (Str.join "\n" ls) ≤ nu ls + ls.length := by
    cases ls with
    | nil => show nls "" ≤ _; decide +kernel
    | cons p r =>
      rw [nls_join, nu_cons]
      have : (r.map fun x => nls x + 1).sum = nu r + r.length := by
        clear h many nl
        induction r with
        | nil => rfl
        | cons x r ih => rw [List.map_cons, List.sum_cons, ih, nu_cons, List.length_cons]; omega
      rw [this, List.length_cons]
      omega
  refine ⟨by rw [lines_count]; omega, words_run (rl_lines h.run), ?_⟩
  have len : ∀ {ls : List Str}, (∀ z ∈ ls, z.length ≤ L) → (Str.join "\n" ls).length ≤ ls.length * (L + 1) := by
    intro ls
    induction ls with
    | nil => intro _; show ("" : Str).length ≤ _; exact Nat.zero_le _
    | cons p r ih =>
      intro hp
      cases r with
      | nil =>
        have := hp p List.mem_cons_self
        show p.length ≤ 1 * (L + 1)
        omega
      | cons q r =>
        have e : Str.join "\n" (p :: q :: r) = p ++ "\n" ++ Str.join "\n" (q :: r) := rfl
        have l : ("\n" : Str).length = 1 := by decide +kernel
        have i := ih fun z hz => hp z (List.mem_cons_of_mem _ hz)
        have := hp p List.mem_cons_self
        rw [e, strLen_append, strLen_append, l, List.length_cons, Nat.succ_mul]
        omega
  refine Nat.le_trans (len h.len) ?_
  have : ls.length * (L + 1) ≤ 20 * 2001 := Nat.mul_le_mul (by omega) (by omega)
  omega
end Y

/-! QW: the small yard again, with how many cables and cars. -/
namespace Y
open PySem PySem.Spec PyProof.Rows L2 Ns
open C8 (pss_cut)
def spYardOf2 (K : PySem.W.Frag) : Sp := fun as H Q _ => ∃ (b : Addr) (cars knots cables : Nat) (most : Int), as = [.ref b, .int cars, .int knots, .int cables, .int most] ∧ Bag H b ∧ 2 ≤ cars ∧ cars ≤ 24 ∧ knots ≤ 8 ∧ cables ≤ 40 ∧ 2 ≤ most ∧ most < 10 ^ 12 ∧
  ∀ (y : V) (cs : List Cab) (rs : List Car) (H' : Hp), YardF most cs rs → cs.length ≤ cables → rs.length ≤ cars → YardV K (wo H' b) y cs rs → Bag H' b → Sb b H H' → Q y H'
def spYardS (K : PySem.W.Frag) : Sp := fun as H Q _ => ∃ (b : Addr), as = [.ref b] ∧ Bag H b ∧ ∀ (y : V) (cs : List Cab) (rs : List Car) (H' : Hp), YardF 7 cs rs → cs.length ≤ 6 → rs.length ≤ 5 → YardV K (wo H' b) y cs rs → Bag H' b → Sb b H H' → Q y H'
section
variable {P : Program} {w : World} {K : PySem.W.Frag} {mg : Str → Option Value} {base : Heap} {fT fS fN fNs fC fR : Addr} {dT dS dN dNs dC dR : FuncData}
theorem ok_yardOf2 {f : Addr} {fd : FuncData} (F : Fun K "_law_yard_of" "_law_yard_of" sYardOf f fd) (T : Nat0 mg) (G : Gen P w K mg base fT fS fN fNs fC fR dT dS dN dNs dC dR) : FnOk P w K mg base CX0 6 f fd ["bag", "cars", "knots", "cables", "most"] (spYardOf2 K) := by
  have GT : FnOk P w K mg base CX0 1 fT dT ["bag", "many"] spTake := ok_take G.T T
  have GS : FnOk P w K mg base CX0 2 fS dS ["bag", "things"] (spSome K) := ok_some G.S T G.T G.mT G.bT
  refine F.ok scY (fun as H Q E h => ?_) (fun cdv A outer s H as Q E hr h => ?_)
  · obtain ⟨b, cars, knots, cables, most, rfl, _⟩ := h
    rfl
  · obtain ⟨b, cars, knots, cables, most, rfl, hB, hc1, hc2, hk, hb, hmo, hmo2, k⟩ := h
    have hr1 : Room 1 _ := hr.mono (by decide)
    have hr2 : Room 2 _ := hr.mono (by decide)
    have hr4 : Room 4 _ := hr.mono (by decide)
    have hr5 : Room 5 _ := hr
    refine ⟨_, pss_cons (ps_set (i := 5) scY.nd rfl (.inl rfl) (pe_call GS hr2 rfl G.mS G.S.kp G.bS .nil pass0 (pa_cons (pv 0) (pa_cons (pe_lst (pa_cons (pv 1) (pa_cons (pe_op op_add pe_int (pe_call GT hr1 rfl G.mT G.T.kp G.bT .nil pass0 (pa_cons (pv 0) (pa_cons (pv 1) pa_nil)))) (pa_cons (pv 1)
        (pa_cons (pe_callB (call_max2 rfl) (by rfl) T.max (by decide +kernel) (pa_cons pe_int (pa_cons (pe_op op_sub (pv 1) pe_int) pa_nil))) (pa_cons (pe_call GT hr1 rfl G.mT G.T.kp G.bT .nil pass0 (pa_cons (pv 0) (pa_cons (pe_op op_add (pv 1) pe_int) pa_nil))) pa_nil)))))) pa_nil))))
      (pss_cons (ps_set (i := 6) scY.nd rfl (.inl rfl) (pe_call G.gN hr4 rfl G.mN G.N.kp G.bN .nil pass0 (pa_cons (pv 0) (pa_cons (pe_call GT hr1 rfl G.mT G.T.kp G.bT .nil pass0 (pa_cons (pv 0) (pa_cons (pe_op op_add (pv 2) pe_int) pa_nil))) (pa_cons (pe_lst pa_nil) pa_nil)))))
      (pss_one (ps_ret (pe_tup (pa_cons (pe_call G.gC hr5 rfl G.mC G.C.kp G.bC .nil pass0 (pa_cons (pv 0) (pa_cons (pv 6) (pa_cons (pv 3) (pa_cons (pv 4) pa_nil)))))
        (pa_cons (pe_call G.gR hr5 rfl G.mR G.R.kp G.bR .nil pass0 (pa_cons (pv 0) (pa_cons (pe_call G.gN hr4 rfl G.mN G.N.kp G.bN .nil pass0 (pa_cons (pv 0) (pa_cons (pv 5) (pa_cons (pe_lst pa_nil) pa_nil)))) (pa_cons (pv 6) (pa_cons (pv 4) pa_nil))))) pa_nil)))))), ?_⟩
    have big : (2000 : Nat) < 2 ^ 200 := by decide +kernel
    refine ⟨_, rfl, _, rfl, _, rfl, _, rfl, b, cars, rfl, hB, by omega, by omega, fun v H1 v0 v1 hB1 s1 => ⟨1, v, rfl, rfl, _, rfl, _, rfl, cars, 1, rfl, rfl, 1, _, rfl, _, rfl, _, rfl, cars, 1, rfl, rfl, b, _, rfl, hB1, by omega, by omega, fun u H2 u0 u1 hB2 s2 => ?_⟩⟩
    refine ⟨by show 5 ≤ sizeLine; decide, fun q hq => ⟨b, q, _, rfl, hB2.new hq, sql_new upd_same (hB2.ne hq), (fun z => nomatch z), by show 5 ≤ 1000000; decide, fun x H3 hx hB3 s3 => ?_⟩⟩
    obtain ⟨m, rfl, hm⟩ : ∃ m : Nat, x = .int m ∧ m ≤ cars := by
      have key : ∀ i : Int, 0 ≤ i → i ≤ cars → ∃ m : Nat, V.int i = .int m ∧ m ≤ cars := fun i h0 h1 => ⟨i.toNat, by rw [Int.toNat_of_nonneg h0], by omega⟩
      simp only [List.mem_cons, List.not_mem_nil, or_false] at hx
      rcases hx with rfl | rfl | rfl | rfl | rfl
      · exact key _ (by omega) (by omega)
      · exact key _ (by omega) (by omega)
      · exact key _ (by omega) (by omega)
      · exact key _ (by split <;> omega) (by split <;> omega)
      · exact key _ (by omega) (by omega)
    have s03 := ((s1.trans s2).new (o := .lst [.int cars, .int (1 + v), .int cars, .int (if (cars : Int) - 1 > 1 then (cars : Int) - 1 else 1), .int u]) hq).trans s3
    refine ⟨_, rfl, _, rfl, _, rfl, knots, 1, rfl, rfl, b, _, rfl, hB3, by omega, by omega, fun kn H4 k0 k1 hB4 s4 => ⟨by show 0 ≤ sizeLine; decide, fun q2 hq2 => ?_⟩⟩
    obtain ⟨kn', rfl⟩ : ∃ n : Nat, kn = n := ⟨kn.toNat, by omega⟩
    refine ⟨b, q2, kn', [], rfl, hB4.new hq2, sql_new upd_same (hB4.ne hq2), by show 0 + kn' ≤ 100; omega, (fun _ z => nomatch z), fun p ns H5 hns N5 e5 f5 hB5 s5 => ?_⟩
    have s05 := ((s03.trans s4).new (o := .lst []) hq2).trans s5
    have npb : p ≠ b := (hB4.new (o := .lst []) hq2).ne f5
    refine ⟨_, rfl, _, rfl, _, rfl, _, rfl, b, p, ns, cables, most, rfl, hB5, e5, N5, by omega, by omega, hmo, by omega, fun pc xs cs H6 C6 e6 p6 f6 n6 hB6 s6 => ?_⟩
    refine ⟨_, rfl, _, rfl, _, rfl, by show 0 ≤ sizeLine; decide, fun q3 hq3 => ⟨b, q3, m, [], rfl, hB6.new hq3, sql_new upd_same (hB6.ne hq3), by show 0 + m ≤ 100; omega, (fun _ z => nomatch z), fun pn nm H7 hnm N7 e7 f7 hB7 s7 => ?_⟩⟩
    have npn : pn ≠ b := (hB6.new (o := .lst []) hq3).ne f7
    have s67 := ((Sb.refl b H6).new (o := .lst []) hq3).trans s7
    refine ⟨_, rfl, _, rfl, b, pn, p, nm, ns, most, rfl, hB7, sql_new e7 npn, s67.get (s6.get e5 npb) npb, npb, by omega, by omega, hmo, hmo2, fun pr zs rs H8 R8 e8 p8 f8 n8 hB8 s8 => ?_⟩
    have s68 := s67.trans s8
    refine ⟨by show 2 ≤ sizeLine; decide, fun t ht => ?_⟩
    have sT : Same (wo H8 b) (wo (upd H8 t (.tup [.ref pc, .ref pr])) b) := wo_same (same_new (Same.refl H8) ht)
    refine k (.ref t) cs rs _ ⟨ns, nm, N5, by omega, N7, by omega, C6.mono (Int.le_refl _) hb, R8⟩ C6.len (by have := R8.perm.length_eq; rw [List.length_map] at this; omega) ⟨t, pc, pr, xs, zs, rfl, sqt_new upd_same (hB8.ne ht), ?_, ?_, ?_, ?_⟩ (hB8.new ht) (((s05.trans s6).trans s68).new ht)
    · exact sqt_new (s3u ht (s68.get e6 n6)) n6
    · exact sqt_new (s3u ht e8) n8
    · exact paired_imp (fun _ _ h => (h.more s68.1).more sT) p6
    · exact paired_imp (fun _ _ h => h.more sT) p8
theorem scSm2 : FnScope ["bag"] ["bag"] (defScope sSmall) := ⟨rfl, rfl, rfl, by decide +kernel, rfl, by decide +kernel, by decide +kernel⟩
theorem ok_small2 {f fY : Addr} {fd dY : FuncData} (F : Fun K "_law_small_yard" "_law_small_yard" sSmall f fd) (T : Nat0 mg) (G : Gen P w K mg base fT fS fN fNs fC fR dT dS dN dNs dC dR)
    (FY : Fun K "_law_yard_of" "_law_yard_of" sYardOf fY dY) (mY : mg "_law_yard_of" = some (.ref fY)) (bY : Binds K dY ["bag", "cars", "knots", "cables", "most"] []) : FnOk P w K mg base CX0 7 f fd ["bag"] (spYardS K) := by
  have GS : FnOk P w K mg base CX0 2 fS dS ["bag", "things"] (spSome K) := ok_some G.S T G.T G.mT G.bT
  have GY : FnOk P w K mg base CX0 6 fY dY ["bag", "cars", "knots", "cables", "most"] (spYardOf2 K) := ok_yardOf2 FY T G
  refine F.ok scSm2 (fun as H Q E h => ?_) (fun cdv A outer s H as Q E hr h => ?_)
  · obtain ⟨b, rfl, _⟩ := h
    rfl
  · obtain ⟨b, rfl, hB, k⟩ := h
    have hr2 : Room 2 _ := hr.mono (by decide)
    refine ⟨_, pss_one (ps_ret (pe_call GY hr rfl mY FY.kp bY .nil pass0 (pa_cons (pv 0) (pa_cons (pe_call GS hr2 rfl G.mS G.S.kp G.bS .nil pass0 (pa_cons (pv 0) (pa_cons (pe_lst (pa_cons pe_int (pa_cons pe_int (pa_cons pe_int (pa_cons pe_int pa_nil))))) pa_nil)))
      (pa_cons pe_int (pa_cons (pe_call GS hr2 rfl G.mS G.S.kp G.bS .nil pass0 (pa_cons (pv 0) (pa_cons (pe_lst (pa_cons pe_int (pa_cons pe_int (pa_cons pe_int pa_nil)))) pa_nil)))
      (pa_cons (pe_call GS hr2 rfl G.mS G.S.kp G.bS .nil pass0 (pa_cons (pv 0) (pa_cons (pe_lst (pa_cons pe_int (pa_cons pe_int (pa_cons pe_int pa_nil)))) pa_nil))) pa_nil))))))), ?_⟩
    refine ⟨_, rfl, _, rfl, by show 4 ≤ sizeLine; decide, fun q1 hq1 => ⟨b, q1, _, rfl, hB.new hq1, sql_new upd_same (hB.ne hq1), (fun z => nomatch z), by show 4 ≤ 1000000; decide, fun x H1 hx hB1 s1 => ?_⟩⟩
    obtain ⟨m1, rfl, a1, a2⟩ : ∃ m : Nat, x = .int m ∧ 2 ≤ m ∧ m ≤ 5 := by
      simp only [List.mem_cons, List.not_mem_nil, or_false] at hx
      rcases hx with rfl | rfl | rfl | rfl
      · exact ⟨3, rfl, by decide, by decide⟩
      · exact ⟨4, rfl, by decide, by decide⟩
      · exact ⟨5, rfl, by decide, by decide⟩
      · exact ⟨2, rfl, by decide, by decide⟩
    refine ⟨_, rfl, by show 3 ≤ sizeLine; decide, fun q2 hq2 => ⟨b, q2, _, rfl, hB1.new hq2, sql_new upd_same (hB1.ne hq2), (fun z => nomatch z), by show 3 ≤ 1000000; decide, fun x H2 hx hB2 s2 => ?_⟩⟩
    obtain ⟨m2, rfl, a3⟩ : ∃ m : Nat, x = .int m ∧ m ≤ 6 := by
      simp only [List.mem_cons, List.not_mem_nil, or_false] at hx
      rcases hx with rfl | rfl | rfl
      · exact ⟨4, rfl, by decide⟩
      · exact ⟨6, rfl, by decide⟩
      · exact ⟨3, rfl, by decide⟩
    refine ⟨_, rfl, by show 3 ≤ sizeLine; decide, fun q3 hq3 => ⟨b, q3, _, rfl, hB2.new hq3, sql_new upd_same (hB2.ne hq3), (fun z => nomatch z), by show 3 ≤ 1000000; decide, fun x H3 hx hB3 s3 => ?_⟩⟩
    obtain ⟨m3, rfl, a4, a5⟩ : ∃ m : Int, x = .int m ∧ 2 ≤ m ∧ m ≤ 7 := by
      simp only [List.mem_cons, List.not_mem_nil, or_false] at hx
      rcases hx with rfl | rfl | rfl
      · exact ⟨3, rfl, by decide, by decide⟩
      · exact ⟨7, rfl, by decide, by decide⟩
      · exact ⟨2, rfl, by decide, by decide⟩
    have s03 := ((((((Sb.refl b H).new (o := .lst [.int 3, .int 4, .int 5, .int 2]) hq1).trans s1).new (o := .lst [.int 4, .int 6, .int 3]) hq2).trans s2).new (o := .lst [.int 3, .int 7, .int 2]) hq3).trans s3
    exact ⟨b, m1, 4, m2, m3, rfl, hB3, a1, by omega, by decide, by omega, a4, by omega, fun y cs rs H' hY l1 l2 hV hB' s' => k y cs rs H' (hY.mono a5) (by omega) (by omega) hV hB' (s03.trans s')⟩
end
end Y

/-! QV: the law. -/
namespace Y
open PySem PySem.Spec PyProof.Rows L2 Ns
open C8 (pss_cut)
open PySem.Builtin.Str
theorem w2_sb {b e : Addr} {H H' : Hp} (s : Sb b H H') : Same (w2 H b e) (w2 H' b e) := w2_but (.inl rfl) fun c o n g => s.get g n
theorem txs_of {ls : List Str} : ∀ {ys : List V}, (∀ y ∈ ys, ∃ z ∈ ls, y = .str z) → ∃ l2 : List Str, ys = txs l2 ∧ ∀ z ∈ l2, z ∈ ls
  | [], _ => ⟨[], rfl, (fun _ z => nomatch z)⟩
  | y :: ys, h => by
    obtain ⟨l2, e, g⟩ := txs_of (ys := ys) fun x hx => h x (List.mem_cons_of_mem _ hx)
    obtain ⟨z, hz, rfl⟩ := h y List.mem_cons_self
    refine ⟨z :: l2, by rw [e]; rfl, fun x hx => ?_⟩
    rcases List.mem_cons.mp hx with q | q
    · rw [q]; exact hz
    · exact g x q
theorem wo_w2 {H : Hp} {b e : Addr} {o : HO} (he : H e = none) : Same (wo H b) (w2 (upd H e o) b e) := fun c u h => by
  obtain ⟨h1, h2⟩ := wo_of h
  have ne := ne_of_none h2 he
  rw [w2_ne h1 ne, upd_ne ne]
  exact h2
section
variable {P : Program} {w : World} {K : PySem.W.Frag} {mg : Str → Option Value} {base : Heap} {fB fT fSm fM fHu fTd fRg fO fA : Addr} {dB dT dSm dM dHu dTd dRg dO dA : FuncData}
structure D09 (P : Program) (w : World) (K : PySem.W.Frag) (mg : Str → Option Value) (base : Heap) (fB fT fSm fM fHu fTd fRg fO fA : Addr) (dB dT dSm dM dHu dTd dRg dO dA : FuncData) : Prop where
  B : Fun K "_law_bag" "_law_bag" sBag fB dB
  mB : mg "_law_bag" = some (.ref fB)
  bB : Binds K dB ["script"] []
  gB : FnOk P w K mg base CX0 1 fB dB ["script"] (spBag K)
  T : Fun K "_law_take" "_law_take" sTake fT dT
  mT : mg "_law_take" = some (.ref fT)
  bT : Binds K dT ["bag", "many"] []
  gT : FnOk P w K mg base CX0 1 fT dT ["bag", "many"] spTake
  Sm : Fun K "_law_small_yard" "_law_small_yard" sSmall fSm dSm
  mSm : mg "_law_small_yard" = some (.ref fSm)
  bSm : Binds K dSm ["bag"] []
  gSm : FnOk P w K mg base CX0 7 fSm dSm ["bag"] (spYardS K)
  M : Fun K "_law_mixed" "_law_mixed" sMixed fM dM
  mM : mg "_law_mixed" = some (.ref fM)
  bM : Binds K dM ["bag", "things"] []
  gM : FnOk P w K mg base CX0 2 fM dM ["bag", "things"] (spMixed K)
  Hu : Fun K "_law_hurt" "_law_hurt" sHurt fHu dHu
  mHu : mg "_law_hurt" = some (.ref fHu)
  bHu : Binds K dHu ["bag", "lines"] []
  gHu : FnOk P w K mg base CX0 4 fHu dHu ["bag", "lines"] spHurt
  Td : Fun K "_law_told" "_law_told" sTold fTd dTd
  mTd : mg "_law_told" = some (.ref fTd)
  bTd : Binds K dTd ["text"] []
  gTd : FnOk P w K mg base CX0 6 fTd dTd ["text"] (spToldR K)
  Rg : Fun K "_law_reading" "_law_reading" sReading fRg dRg
  mRg : mg "_law_reading" = some (.ref fRg)
  bRg : Binds K dRg ["text"] []
  gRg : FnOk P w K mg base CX0 5 fRg dRg ["text"] (spReading K)
  O : Fun K "_law_odd" "_law_odd" sOdd fO dO
  mO : mg "_law_odd" = some (.ref fO)
  bO : Binds K dO ["bag"] []
  gO : FnOk P w K mg base CX0 3 fO dO ["bag"] (spOdd K)
  A : Fun K "_law_alike" "_law_alike" sAlike fA dA
  mA : mg "_law_alike" = some (.ref fA)
  bA : Binds K dA ["found", "due"] []
  gA : GnOk P w K mg base 1 fA dA ["found", "due"] (spAlike K)
theorem scL : FnScope ["script", "bag", "turn", "yard", "lines", "one", "other", "cap", "name", "knot", "rate", "need", "k", "text", "odd"] ["script"] (defScope sLaw) := ⟨rfl, rfl, rfl, by decide +kernel, rfl, by decide +kernel, by decide +kernel⟩
theorem ok_law {f : Addr} {fd : FuncData} (F : Fun K "law" "law" sLaw f fd) (T : Nat0 mg) (D : D09 P w K mg base fB fT fSm fM fHu fTd fRg fO fA dB dT dSm dM dHu dTd dRg dO dA) : GnOk P w K mg base 8 f fd ["script"] (spTop K) := by
  refine Fun.okG F scL (fun as H Q E h => ?_) (fun cdv A outer s H as Q E hr hgd h => ?_)
  · obtain ⟨a, ns, rfl, _⟩ := h
    rfl
  · obtain ⟨a, ns, rfl, hS, hl, k⟩ := h
    have hr1 : Room 1 _ := hr.mono (by decide)
    have hr2 : Room 2 _ := hr.mono (by decide)
    have hr3 : Room 3 _ := hr.mono (by decide)
    have hr4 : Room 4 _ := hr.mono (by decide)
    have hr5 : Room 5 _ := hr.mono (by decide)
    have hr6 : Room 6 _ := hr.mono (by decide)
    refine ⟨_, pss_cons (ps_set (i := 1) scL.nd rfl (.inl rfl) (pe_call D.gB hr1 rfl D.mB D.B.kp D.bB .nil pass0 (pa_cons (pv 0) pa_nil)))
      (pss_cons (ps_for PassesOwn.never rfl (pi_range1 (by rfl) T.range (pa_cons pe_int pa_nil)) (pg_name (i := 2) scL.nd rfl (.inl rfl))
        (pss_cons (ps_par (i := 3) (j := 4) rfl scL.nd rfl rfl (by decide) rfl rfl (pa_cons (pe_call D.gSm hr rfl D.mSm D.Sm.kp D.bSm .nil pass0 (pa_cons (pv 1) pa_nil)) (pa_cons (pe_lst pa_nil) pa_nil)) (by rfl))
        (pss_cons (ps_for PassesOwn.never rfl (pi_tup (pe_ix ix_tup (pv 3) pe_int (fun _ _ => rfl))) (pg_tup rfl (pgs_cons (pg_name (i := 5) scL.nd rfl (.inl rfl)) (pgs_cons (pg_name (i := 6) scL.nd rfl (.inl rfl)) (pgs_cons (pg_name (i := 7) scL.nd rfl (.inl rfl)) pgs_nil))))
          (pss_one (ps_expr (pe_bm PySem.F.plainAttrs_list PySem.F.slot_list_append PySem.F.type_list_append mt_append (pv 4) (pa_cons
            (pe_op op_add_str (pe_op op_add_str (pe_op op_add_str (pe_op op_add_str (pe_op op_add_str pe_str (pv 5)) pe_str) (pv 6)) pe_str) (pe_callTy call_str_int (by rfl) T.str (by decide +kernel) (pa_cons (pv 7) pa_nil))) pa_nil)))))
        (pss_cons (ps_for PassesOwn.never rfl (pi_tup (pe_ix ix_tup (pv 3) pe_int (fun _ _ => rfl))) (pg_tup rfl (pgs_cons (pg_name (i := 8) scL.nd rfl (.inl rfl)) (pgs_cons (pg_name (i := 9) scL.nd rfl (.inl rfl)) (pgs_cons (pg_name (i := 10) scL.nd rfl (.inl rfl)) (pgs_cons (pg_name (i := 11) scL.nd rfl (.inl rfl)) pgs_nil)))))
          (pss_one (ps_expr (pe_bm PySem.F.plainAttrs_list PySem.F.slot_list_extend PySem.F.type_list_extend mt_extend (pv 4) (pa_cons
            (pe_op op_cat (pe_lst (pa_cons (pe_op op_add_str (pe_op op_add_str (pe_op op_add_str (pe_op op_add_str (pe_op op_add_str (pe_op op_add_str (pe_op op_add_str pe_str (pv 8)) pe_str) (pv 9)) pe_str) (pe_callTy call_str_int (by rfl) T.str (by decide +kernel) (pa_cons (pv 10) pa_nil))) pe_str) (pe_callTy call_str_int (by rfl) T.str (by decide +kernel) (pa_cons (pv 11) pa_nil))) pa_nil))
              (pe_op op_rep (pe_lst (pa_cons pe_str pa_nil)) (pe_call D.gT hr1 rfl D.mT D.T.kp D.bT .nil pass0 (pa_cons (pv 1) (pa_cons pe_int pa_nil))))) pa_nil)))))
        (pss_cons (ps_set (i := 4) scL.nd rfl (.inl rfl) (pe_call D.gM hr2 rfl D.mM D.M.kp D.bM .nil pass0 (pa_cons (pv 1) (pa_cons (pv 4) pa_nil))))
        (pss_cons (ps_for PassesOwn.never rfl (pi_range1 (by rfl) T.range (pa_cons (pe_op op_add pe_int (pe_call D.gT hr1 rfl D.mT D.T.kp D.bT .nil pass0 (pa_cons (pv 1) (pa_cons pe_int pa_nil)))) pa_nil)) (pg_name (i := 12) scL.nd rfl (.inl rfl))
          (pss_one (ps_set (i := 4) scL.nd rfl (.inl rfl) (pe_call D.gHu hr4 rfl D.mHu D.Hu.kp D.bHu .nil pass0 (pa_cons (pv 1) (pa_cons (pv 4) pa_nil))))))
        (pss_cons (ps_set (i := 13) scL.nd rfl (.inl rfl) (pe_join pe_str (pv 4)))
        (pss_one (ps_if (pt_not (pt_val (pe_callG D.gA hr1 hgd rfl D.mA D.A.kp D.bA (pa_cons (pe_call D.gTd hr6 rfl D.mTd D.Td.kp D.bTd .nil pass0 (pa_cons (pv 13) pa_nil)) (pa_cons (pe_call D.gRg hr5 rfl D.mRg D.Rg.kp D.bRg .nil pass0 (pa_cons (pv 13) pa_nil)) pa_nil))))) (pss_one (ps_ret pe_bl)) pss_nil)))))))))
      (pss_cons (ps_set (i := 14) scL.nd rfl (.inl rfl) (pe_call D.gO hr3 rfl D.mO D.O.kp D.bO .nil pass0 (pa_cons (pv 1) pa_nil)))
      (pss_one (ps_ret (pe_or (pe_callB (call_isD kit_S) (by rfl) T.isi (by decide +kernel) (pa_cons (pv 14) (pa_cons (pe_bltn (v := .ty "str") (by rfl) T.str (by decide +kernel) rfl) pa_nil)))
        (pe_one (pe_callG D.gA hr1 hgd rfl D.mA D.A.kp D.bA (pa_cons (pe_call D.gTd hr6 rfl D.mTd D.Td.kp D.bTd .nil pass0 (pa_cons (pv 14) pa_nil)) (pa_cons (pe_tup (pa_cons pe_str (pa_cons pe_int pa_nil))) pa_nil))))))))), ?_⟩
    refine ⟨_, rfl, a, ns, rfl, hS, hl, fun b H1 hB1 _ _ => ?_⟩
    refine ⟨6, rfl, by decide, by decide, for_range (n := 6) (fun i σ H' => ∃ v2 v3 v4 v5 v6 v7 v8 v9 v10 v11 v12 v13 v14 : Option V, σ = [some (.ref a), some (.ref b), v2, v3, v4, v5, v6, v7, v8, v9, v10, v11, v12, v13, v14] ∧ Bag H' b) ?_ ?_ ?_⟩
    · exact ⟨none, none, none, none, none, none, none, none, none, none, none, none, none, rfl, hB1⟩
    · clear hB1
      rintro i σ H0 hi ⟨v2, v3, v4, v5, v6, v7, v8, v9, v10, v11, v12, v13, v14, rfl, hB⟩
      refine ⟨_, rfl, b, rfl, hB, fun y cs rs H2 F lc lr VY B2 s2 => ⟨by show 0 ≤ sizeLine; decide, fun e he => ?_⟩⟩
      have YP := F.plain (by decide)
      have neb : e ≠ b := B2.ne he
      have V3 : YardV K (w2 (upd H2 e (.lst [])) b e) y cs rs := VY.more (wo_w2 he)
      have e3 : upd H2 e (.lst []) e = some (.lst (txs [])) := upd_same
      have B3 := B2.new (o := .lst []) he
      have S3 := (Sb.refl b H2).new (o := .lst []) he
      generalize upd H2 e (.lst []) = H3 at V3 e3 B3 S3 ⊢
      obtain ⟨ty, ya, yb, xs, zs, rfl, w1, w2', w3, w4, w5⟩ := V3
      refine ⟨_, _, rfl, ?_⟩
      have t1 : ∀ {G : Hp}, Same (w2 H3 b e) (w2 G b e) → SqT K G ty [.ref ya, .ref yb] := fun {G} m => sqt_more (w2_sub G b e) (sqt_more m w1)
      have t2 : ∀ {G : Hp}, Same (w2 H3 b e) (w2 G b e) → SqT K G ya xs := fun {G} m => sqt_more (w2_sub G b e) (sqt_more m w2')
      have t3 : ∀ {G : Hp}, Same (w2 H3 b e) (w2 G b e) → SqT K G yb zs := fun {G} m => sqt_more (w2_sub G b e) (sqt_more m w3)
      have lxs : xs.length = cs.length := paired_len w4
      have lzs : zs.length = rs.length := paired_len w5
      have L1 : ("cable " : Str).length = 6 := by decide +kernel
      have L2' : (" " : Str).length = 1 := by decide +kernel
      have L3 : ("car " : Str).length = 4 := by decide +kernel
      have M0 : Same (w2 H3 b e) (w2 H3 b e) := Same.refl _
      refine ⟨_, rfl, ty, _, 0, .ref ya, rfl, rfl, t1 M0, at0, ya, rfl, ⟨_, t2 M0⟩, ?_⟩
      refine for_tup (K := K) (a := ya) (xs := xs) (fun j σ G => ∃ (v5 v6 v7 : Option V) (ls : List Str), σ = [some (.ref a), some (.ref b), some (.int (0 + (i : Int))), some (.ref ty), some (.ref e), v5, v6, v7, v8, v9, v10, v11, v12, v13, v14] ∧ G e = some (.lst (txs ls)) ∧ ls.length = j ∧ (∀ z ∈ ls, LQ 73 z) ∧ Bag G b ∧ Sb b H2 G ∧ Same (w2 H3 b e) (w2 G b e)) ?_ ?_ ?_ ?_
      · exact ⟨_, _, _, [], rfl, e3, rfl, (fun _ z => nomatch z), B3, S3, M0⟩
      · rintro j σ G _ ⟨_, _, _, _, _, _, _, _, _, _, m⟩
        exact t2 m
      · rintro j x σ G hx ⟨v5, v6, v7, ls, rfl, gE, ll, lq, BG, SG, MG⟩
        obtain ⟨c, hc, tx, rfl, hT⟩ := paired_at w4 hx
        have jl : j < xs.length := (List.getElem?_eq_some_iff.mp hx).1
        obtain ⟨p1, p2, p3, p4⟩ := YP.cab c (List.mem_of_getElem? hc)
        have q1 := (nm_codes p1).2
        have q2 := (nm_codes p2).2
        have q3 := (lq_int p3 p4).len
        have lg : c.2.2.natAbs.log2 < 1920 := log2_small (Nat.lt_of_le_of_lt (show c.2.2.natAbs ≤ 10 ^ 12 by omega) (by decide +kernel))
        refine ⟨tx, _, rfl, sqt_more (w2_sub G b e) (sqt_more MG hT), rfl, _, _, rfl, _, _, rfl, _, _, rfl, rfl, ?_⟩
        refine ⟨_, rfl, .inl ⟨rfl, _, SqL.of gE⟩, _, rfl, _, _, rfl, rfl, by rw [sizeLine_eq]; omega, _, _, rfl, rfl, by rw [strLen_append, sizeLine_eq]; omega, _, rfl, _, _, rfl, rfl, by rw [strLen_append, strLen_append, sizeLine_eq]; omega, _, _, rfl, rfl, by rw [strLen_append, strLen_append, strLen_append, sizeLine_eq]; omega, ?_⟩
        refine ⟨_, rfl, c.2.2, rfl, lg, _, _, rfl, rfl, by rw [strLen_append, strLen_append, strLen_append, strLen_append, sizeLine_eq]; omega, e, txs ls, _, rfl, rfl, gE, small1000 (by unfold txs; rw [List.length_map]; omega), ?_⟩
        refine ⟨_, _, _, ls ++ [lineC c], rfl, by rw [upd_same]; unfold txs; rw [List.map_append]; rfl, by rw [List.length_append, ll]; rfl, fun z hz => ?_, B2.wr he SG BG, SG.wr he, MG.trans (w2_but (.inr rfl) fun c o n g => by rw [upd_ne n]; exact g)⟩
        rcases List.mem_append.mp hz with g | g
        · exact lq z g
        · rw [List.mem_singleton.mp g]
          exact lq_cab p1 p2 p3 p4
      rintro σ G ⟨v5, v6, v7, ls, rfl, gE, ll, lq, BG, SG, MG⟩
      clear e3 B3 S3
      refine ⟨_, rfl, ty, _, 1, .ref yb, rfl, rfl, t1 MG, at1, yb, rfl, ⟨_, t3 MG⟩, ?_⟩
      refine for_tup (K := K) (a := yb) (xs := zs) (fun j σ G => ∃ (v8 v9 v10 v11 : Option V) (ls : List Str), σ = [some (.ref a), some (.ref b), some (.int (0 + (i : Int))), some (.ref ty), some (.ref e), v5, v6, v7, v8, v9, v10, v11, v12, v13, v14] ∧ G e = some (.lst (txs ls)) ∧ ls.length ≤ xs.length + 2 * j ∧ (∀ z ∈ ls, LQ 73 z) ∧ Bag G b ∧ Sb b H2 G ∧ Same (w2 H3 b e) (w2 G b e)) ?_ ?_ ?_ ?_
      · exact ⟨_, _, _, _, ls, rfl, gE, by omega, lq, BG, SG, MG⟩
      · rintro j σ G _ ⟨_, _, _, _, _, _, _, _, _, _, _, m⟩
        exact t3 m
      · clear gE ll lq BG SG MG
        rintro j x σ G hx ⟨v8, v9, v10, v11, ls, rfl, gE, ll, lq, BG, SG, MG⟩
        obtain ⟨r, hc, tx, rfl, hT⟩ := paired_at w5 hx
        have jl : j < zs.length := (List.getElem?_eq_some_iff.mp hx).1
        obtain ⟨p1, p2, p3, p4, p5, p6⟩ := YP.car r (List.mem_of_getElem? hc)
        have q1 := p1.len.2
        have q2 := (nm_codes p2).2
        have p3' : 0 ≤ r.2.2.1 := by omega
        have q3 := (lq_int p3' p4).len
        have q4 := (lq_int p5 p6).len
        have lg1 : r.2.2.1.natAbs.log2 < 1920 := log2_small (Nat.lt_of_le_of_lt (show r.2.2.1.natAbs ≤ 10 ^ 12 by omega) (by decide +kernel))
        have lg2 : r.2.2.2.natAbs.log2 < 1920 := log2_small (Nat.lt_of_le_of_lt (show r.2.2.2.natAbs ≤ 10 ^ 12 by omega) (by decide +kernel))
        refine ⟨tx, _, rfl, sqt_more (w2_sub G b e) (sqt_more MG hT), rfl, _, _, rfl, _, _, rfl, _, _, rfl, _, _, rfl, rfl, ?_⟩
        refine ⟨_, rfl, .inl ⟨rfl, _, SqL.of gE⟩, _, rfl, _, _, rfl, rfl, by rw [sizeLine_eq]; omega, _, _, rfl, rfl, by rw [strLen_append, sizeLine_eq]; omega, _, rfl, _, _, rfl, rfl, by rw [strLen_append, strLen_append, sizeLine_eq]; omega, _, _, rfl, rfl, by rw [strLen_append, strLen_append, strLen_append, sizeLine_eq]; omega,
          _, rfl, r.2.2.1, rfl, lg1, _, _, rfl, rfl, by rw [strLen_append, strLen_append, strLen_append, strLen_append, sizeLine_eq]; omega, _, _, rfl, rfl, by rw [strLen_append, strLen_append, strLen_append, strLen_append, strLen_append, sizeLine_eq]; omega,
          _, rfl, r.2.2.2, rfl, lg2, _, _, rfl, rfl, by rw [strLen_append, strLen_append, strLen_append, strLen_append, strLen_append, strLen_append, sizeLine_eq]; omega, by show 1 ≤ sizeLine; decide, fun f1 hf1 => ⟨by show 1 ≤ sizeLine; decide, fun f2 hf2 => ?_⟩⟩
        have g1 := s3u (o := .lst [.str ""]) hf2 (upd_same (H := G) (a := f1) (o := .lst [.str (lineR r)]))
        have g2 := upd_same (H := upd G f1 (.lst [.str (lineR r)])) (a := f2) (o := .lst [.str ""])
        have gE := s3u (o := .lst [.str ""]) hf2 (s3u (o := .lst [.str (lineR r)]) hf1 gE)
        have n1 : f1 ≠ b := BG.ne hf1
        have n2 : f2 ≠ b := (BG.new (o := .lst [.str (lineR r)]) hf1).ne hf2
        have BG := (BG.new (o := .lst [.str (lineR r)]) hf1).new (o := .lst [.str ""]) hf2
        have SG := (SG.new (o := .lst [.str (lineR r)]) hf1).new (o := .lst [.str ""]) hf2
        have MG := MG.trans (w2_more (d := b) (q := e) (same_new (o := .lst [.str ""]) (same_new (o := .lst [.str (lineR r)]) (Same.refl G) hf1) hf2))
        unfold lineR at g1 g2 gE BG SG MG
        generalize upd (upd G f1 (.lst [.str ("car " ++ r.1 ++ " " ++ r.2.1 ++ " " ++ Str.ofString (toString r.2.2.1) ++ " " ++ Str.ofString (toString r.2.2.2))])) f2 (.lst [.str ""]) = G1 at g1 g2 gE BG SG MG ⊢
        refine ⟨_, rfl, b, 2, rfl, BG, by decide, by decide, fun v G2 v0 v1 BG2 s2' => ?_⟩
        obtain ⟨bl, ebl, lbl, abl⟩ : ∃ bl : List Str, (List.replicate v.toNat [V.str ""]).flatten = txs bl ∧ bl.length ≤ 1 ∧ ∀ z ∈ bl, LQ 73 z := by
          have : v = 0 ∨ v = 1 := by omega
          rcases this with rfl | rfl
          · exact ⟨[], rfl, Nat.zero_le _, (fun _ z => nomatch z)⟩
          · exact ⟨[""], rfl, Nat.le_refl _, fun z hz => by rw [List.mem_singleton.mp hz]; exact lq_empty⟩
        have gE := s2'.get gE neb
        have g1 := s2'.get g1 n1
        have g2 := s2'.get g2 n2
        have MG := MG.trans (w2_sb (e := e) s2')
        have SG := SG.trans s2'
        refine ⟨f2, v, [.str ""], rfl, rfl, g2, by omega, by omega, by show 1 * v.toNat ≤ sizeLine; rw [sizeLine_eq]; omega, fun f3 hf3 => ?_⟩
        rw [ebl]
        have g3 := upd_same (H := G2) (a := f3) (o := .lst (txs bl))
        have lb2 : (txs bl).length ≤ 1 := by unfold txs; rw [List.length_map]; exact lbl
        refine ⟨f1, f3, _, _, rfl, rfl, s3u hf3 g1, g3, by show 1 + (txs bl).length ≤ sizeLine; rw [sizeLine_eq]; omega, fun f4 hf4 => ?_⟩
        have g4 := upd_same (H := upd G2 f3 (.lst (txs bl))) (a := f4) (o := .lst ([.str ("car " ++ r.1 ++ " " ++ r.2.1 ++ " " ++ Str.ofString (toString r.2.2.1) ++ " " ++ Str.ofString (toString r.2.2.2))] ++ txs bl))
        have gE := s3u (o := .lst ([.str ("car " ++ r.1 ++ " " ++ r.2.1 ++ " " ++ Str.ofString (toString r.2.2.1) ++ " " ++ Str.ofString (toString r.2.2.2))] ++ txs bl)) hf4 (s3u (o := .lst (txs bl)) hf3 gE)
        have BG3 := (BG2.new (o := .lst (txs bl)) hf3).new (o := .lst ([.str ("car " ++ r.1 ++ " " ++ r.2.1 ++ " " ++ Str.ofString (toString r.2.2.1) ++ " " ++ Str.ofString (toString r.2.2.2))] ++ txs bl)) hf4
        have SG3 := (SG.new (o := .lst (txs bl)) hf3).new (o := .lst ([.str ("car " ++ r.1 ++ " " ++ r.2.1 ++ " " ++ Str.ofString (toString r.2.2.1) ++ " " ++ Str.ofString (toString r.2.2.2))] ++ txs bl)) hf4
        have MG3 := MG.trans (w2_more (d := b) (q := e) (same_new (o := .lst ([.str ("car " ++ r.1 ++ " " ++ r.2.1 ++ " " ++ Str.ofString (toString r.2.2.1) ++ " " ++ Str.ofString (toString r.2.2.2))] ++ txs bl)) (same_new (o := .lst (txs bl)) (Same.refl G2) hf3) hf4))
        generalize upd (upd G2 f3 (.lst (txs bl))) f4 (.lst ([.str ("car " ++ r.1 ++ " " ++ r.2.1 ++ " " ++ Str.ofString (toString r.2.2.1) ++ " " ++ Str.ofString (toString r.2.2.2))] ++ txs bl)) = G3 at g4 gE BG3 SG3 MG3 ⊢
        have l4 : (txs ls).length ≤ 100 := by unfold txs; rw [List.length_map]; omega
        refine ⟨e, f4, txs ls, _, rfl, rfl, gE, g4, by rw [sizeLine_eq, List.length_append]; show (txs ls).length + (1 + (txs bl).length) ≤ _; omega, ?_⟩
        refine ⟨_, _, _, _, ls ++ (lineR r :: bl), rfl, by rw [upd_same]; unfold txs; rw [List.map_append]; rfl, by rw [List.length_append, List.length_cons]; omega, fun z hz => ?_, B2.wr he SG3 BG3, SG3.wr he, MG3.trans (w2_but (.inr rfl) fun c o n g => by rw [upd_ne n]; exact g)⟩
        rcases List.mem_append.mp hz with g | g
        · exact lq z g
        · rcases List.mem_cons.mp g with g | g
          · rw [g]
            exact lq_car p1 p2 p3' p4 p5 p6
          · exact abl z g
      rintro σ G ⟨v8, v9, v10, v11, ls, rfl, gE, ll, lq, BG, SG, MG⟩
      have l16 : ls.length ≤ 16 := by omega
      clear MG SG
      refine ⟨_, rfl, _, rfl, b, e, txs ls, rfl, BG, sql_new gE neb, by unfold txs; rw [List.length_map]; omega, fun p ys G2 perm gp fp npb BG2 s2' => ?_⟩
      obtain ⟨l2, rfl, m2⟩ : ∃ l2 : List Str, ys = txs l2 ∧ ∀ z ∈ l2, z ∈ ls := txs_of fun y hy => by
        obtain ⟨z, hz, rfl⟩ := List.mem_map.mp (perm.mem_iff.mp hy)
        exact ⟨z, hz, rfl⟩
      have ll2 : l2.length ≤ 16 := by
        have := perm.length_eq
        unfold txs at this
        rw [List.length_map, List.length_map] at this
        omega
      have h0 := hq_lq (fun z hz => lq z (m2 z hz)) ll2
      clear perm m2 ll2 lq ll l16 fp s2' BG gE
      refine ⟨_, rfl, b, 3, rfl, BG2, by decide, by decide, fun v G3 v0 v1 BG3 s3 => ⟨1, v, rfl, rfl, _, rfl, by omega, by omega, for_range (n := (1 + v).toNat) (fun j σ G => ∃ (v12 : Option V) (p : Addr) (ls : List Str) (n L N TT : Nat), σ = [some (.ref a), some (.ref b), some (.int (0 + (i : Int))), some (.ref ty), some (.ref p), v5, v6, v7, v8, v9, v10, v11, v12, v13, v14] ∧ G p = some (.lst (txs ls)) ∧ p ≠ b ∧
        HQ n L N TT ls ∧ n + 1 = 21 * 2 ^ j ∧ L + 5 = 78 * 2 ^ j ∧ N = 16 + j ∧ TT + 1 = 2 ^ j ∧ Bag G b) ?_ ?_ ?_⟩⟩
      · exact ⟨_, p, l2, 20, 73, 16, 0, rfl, s3.get gp npb, npb, h0, rfl, rfl, rfl, rfl, BG3⟩
      · clear BG2 s3 BG3 h0 gp npb
        rintro j σ G hj ⟨v12, p, ls, n, L, N, TT, rfl, gp, npb, hq, e1, e2, e3', e4, BG⟩
        have pj : 1 ≤ 2 ^ j ∧ 2 ^ j ≤ 4 ∧ j ≤ 2 := by
          have : j = 0 ∨ j = 1 ∨ j = 2 := by omega
          rcases this with rfl | rfl | rfl <;> decide
        refine ⟨_, rfl, _, rfl, b, p, ls, n, L, N, TT, rfl, BG, gp, npb, hq, by omega, by omega, by omega, by omega, fun p' ls' G' hq' gp' np' BG' s' => ?_⟩
        exact ⟨_, p', ls', _, _, _, _, rfl, gp', np', hq', by rw [Nat.pow_succ]; omega, by rw [Nat.pow_succ]; omega, by omega, by rw [Nat.pow_succ]; omega, BG'⟩
      clear BG2 s3 BG3 h0 gp npb
      rintro σ G ⟨v12, p', ls', n, L, N, TT, rfl, gp, npb, hq, e1, e2, e3', e4, BG⟩
      have pj : 2 ^ (1 + v).toNat ≤ 8 ∧ (1 + v).toNat ≤ 3 := by
        have : (1 + v).toNat = 1 ∨ (1 + v).toNat = 2 ∨ (1 + v).toNat = 3 := by omega
        rcases this with h | h | h <;> rw [h] <;> decide
      obtain ⟨l60, wl, zl⟩ := hq_text hq (by omega) (by omega) (by omega)
      have sz : (ls'.map (·.length)).sum + ls'.length * ("\n" : Str).length ≤ 16777216 := by
        have l : ("\n" : Str).length = 1 := by decide +kernel
        have key : ∀ l2 : List Str, (∀ z ∈ l2, z.length ≤ L) → (l2.map (·.length)).sum ≤ l2.length * L := by
          intro l2
          induction l2 with
          | nil => intro _; exact Nat.zero_le _
          | cons x l2 ih =>
            intro h
            have := ih fun z hz => h z (List.mem_cons_of_mem _ hz)
            have := h x List.mem_cons_self
            rw [List.map_cons, List.sum_cons, List.length_cons, Nat.succ_mul]
            omega
        have h1 := key ls' hq.len
        have h2 := hq.many
        have h3 : ls'.length * L ≤ 20 * 1000 := Nat.mul_le_mul (by omega) (by omega)
        rw [l]
        omega
      refine ⟨⟨"\n", rfl⟩, _, rfl, "\n", p', ls', rfl, rfl, .inl (SqL.of gp), sz, ?_⟩
      rw [TL.join_eq]
      generalize Str.join "\n" ls' = z at l60 wl zl ⊢
      have wl' : ∀ ws ∈ (Txt.split z "\n").map lineW, ∀ w ∈ ws, w.length ≤ 400 := fun ws h w hw => Nat.le_trans (wl ws h w hw) (by omega)
      have l60' : ((Txt.split z "\n").map lineW).length ≤ 60 := by rw [List.length_map]; exact l60
      have rq : ReadQ ((Txt.split z "\n").map lineW) := ⟨l60', fun ws h w hw => Nat.le_trans (wl' ws h w hw) (by decide)⟩
      refine ⟨_, rfl, .str z, .str z, rfl, .str _, zl, rq, ?_⟩
      cases er : readP ((Txt.split z "\n").map lineW) 0 ([], []) with
      | ok q =>
        obtain ⟨cs', rs'⟩ := q
        intro y1 c1 r1 t1 G1 S1 V1 e1 m1
        refine ⟨_, rfl, z, rfl, zl, rq, ?_⟩
        rw [er]
        intro y2 c2 r2 t2 G2 S2 V2 e2 m2
        have R := readP_ok er
        obtain ⟨ec, er'⟩ := Srt.uniq R.keys R.names S1 S2
        subst ec er'
        have D1 : DatV K G2 (.ref t1) (rtD (.yard c1 r1)) := (DatV.tup (SqT.of e1) (.cons (.str _) (.cons (dat_yard V1) .nil))).more m2
        have D2 : DatV K G2 (.ref t2) (rtD (.yard c1 r1)) := .tup (SqT.of e2) (.cons (.str _) (.cons (dat_yard V2) .nil))
        obtain ⟨f1, f2, f3⟩ := fit_rt (o := .yard c1 r1) (fun cs rs eo => by cases eo; exact fit_yardW R S1 l60' wl') (fun i eo => by cases eo)
        refine ⟨.ref t1, .ref t2, rtD (.yard c1 r1), rfl, .inr ⟨4, by decide, eqs_rt D1 D2⟩, D1, D2, f1, Nat.le_trans f2 (by rw [sizeLine_eq]; decide), Nat.le_trans f3 (by decide), ?_⟩
        refine ⟨_, rfl, ?_⟩
        refine ite2 (fun h => by cases h) (fun _ => ?_)
        exact ⟨_, _, _, _, _, _, _, _, _, _, _, _, _, rfl, (BG.keep m1).keep m2⟩
      | error q =>
        intro t1 G1 e1 m1
        refine ⟨_, rfl, z, rfl, zl, rq, ?_⟩
        rw [er]
        intro t2 G2 e2 m2
        have lq := readP_lt er
        have D1 : DatV K G2 (.ref t1) (rtD (.bad q)) := (DatV.tup (SqT.of e1) (.cons (.str _) (.cons (.int _) .nil))).more m2
        have D2 : DatV K G2 (.ref t2) (rtD (.bad q)) := .tup (SqT.of e2) (.cons (.str _) (.cons (.int _) .nil))
        obtain ⟨f1, f2, f3⟩ := fit_rt (o := .bad q) (fun cs rs eo => by cases eo) (fun i eo => by cases eo; omega)
        refine ⟨.ref t1, .ref t2, rtD (.bad q), rfl, .inr ⟨4, by decide, eqs_rt D1 D2⟩, D1, D2, f1, Nat.le_trans f2 (by rw [sizeLine_eq]; decide), Nat.le_trans f3 (by decide), ?_⟩
        refine ⟨_, rfl, ?_⟩
        refine ite2 (fun h => by cases h) (fun _ => ?_)
        exact ⟨_, _, _, _, _, _, _, _, _, _, _, _, _, rfl, (BG.keep m1).keep m2⟩
    · rintro σ H2 ⟨v2, v3, v4, v5, v6, v7, v8, v9, v10, v11, v12, v13, v14, rfl, B2⟩
      refine ⟨_, rfl, b, rfl, B2, fun x d H3 D3 bd B3 s3 => ?_⟩
      have DX := D3.more (wo_sub H3 b)
      refine ⟨_, rfl, x, d, rfl, DX, _, rfl, ?_⟩
      refine ite2 (fun _ => k _) (fun nq => ?_)
      have last : ∀ (t : Addr) (H' : Hp), H' t = some (.tup [.str "wrong", .int 0]) → Same H3 H' → ∀ t2, H' t2 = none → spAlike K [.ref t, .ref t2] (upd H' t2 (.tup [.str "wrong", .int 0])) (fun v H4 => Q v H4) (fun _ _ _ => False) := fun t H' e1 m1 t2 h2 => by
        have D1 : DatV K (upd H' t2 (.tup [.str "wrong", .int 0])) (.ref t) (rtD .wrong) := .tup (SqT.of (s3u h2 e1)) (.cons (.str _) (.cons (.int _) .nil))
        have D2 : DatV K (upd H' t2 (.tup [.str "wrong", .int 0])) (.ref t2) (rtD .wrong) := .tup (SqT.of upd_same) (.cons (.str _) (.cons (.int _) .nil))
        obtain ⟨f1, f2, f3⟩ := fit_rt (o := .wrong) (fun cs rs eo => by cases eo) (fun i eo => by cases eo)
        exact ⟨.ref t, .ref t2, rtD .wrong, rfl, .inr ⟨4, by decide, eqs_rt D1 D2⟩, D1, D2, f1, Nat.le_trans f2 (by rw [sizeLine_eq]; decide), Nat.le_trans f3 (by decide), k _⟩
      refine ⟨_, rfl, x, d, rfl, DX, ?_⟩
      cases d with
      | str z => exact absurd rfl nq
      | _ => exact fun t H' e1 m1 => ⟨by show 2 ≤ sizeLine; decide, fun t2 h2 => last t H' e1 m1 t2 h2⟩
end
end Y

/-! EXw: what an error class and a constant of the text must say, asked at once. -/
namespace Y
open PySem PySem.Spec PyProof.Rows L2 Ns
def exB (K : PySem.W.Frag) (C : Addr) : Bool :=
  decide (PySem.W.findIn K (.ref C) "__setattr__" = some (some (.builtin "object.__setattr__"))) && (decide (PySem.W.subIn K (.ref C) (.type "BaseException") = some true) && (decide (PySem.W.typeIn K (.ref C) = some (.type "type")) && (PySem.W.keepIn K (.ref C) &&
  (decide (PySem.W.findIn K (.ref C) "__getattribute__" = some (some (.builtin "BaseException.__getattribute__"))) && (decide (PySem.W.findIn K (.ref C) "__getattr__" = some none) && (PySem.W.hasDictIn K C &&
  (decide (PySem.W.findIn K (.ref C) "__class__" = some (some (.builtin "object.__class__"))) && (decide (PySem.W.specialIn K (.builtin "object.__class__") "__get__" = some (some (.builtin "getset_descriptor.__get__"))) &&
  (decide (PySem.W.takesIn K (.builtin "object.__class__") = some true) && decide (PySem.W.mroIn K C (.type "object") = some true))))))))))
structure ExB (K : PySem.W.Frag) (C : Addr) : Prop where
  sa : PySem.W.findIn K (.ref C) "__setattr__" = some (some (.builtin "object.__setattr__"))
  ty : PySem.W.typeIn K (.ref C) = some (.type "type")
  kp : PySem.W.keepIn K (.ref C) = true
  ex : ExcC K C
theorem exB_ok {K : PySem.W.Frag} {C : Addr} (h : exB K C = true) : ExB K C := by
  unfold exB at h
  simp only [Bool.and_eq_true, decide_eq_true_eq] at h
  obtain ⟨h1, h2, h3, h4, h5, h6, h7, h8, h9, h10, h11⟩ := h
  exact ⟨h1, h3, h4, ⟨h5, h6, h2, h7, h8, h9, h10, h11⟩⟩
theorem ExB.xf {K : PySem.W.Frag} {C : Addr} (h : ExB K C) : XfC K C := ⟨h.ex.hg, h.ex.hk, h.ex.hs, h.ex.hd⟩
def exmR (K : PySem.W.Frag) (cW cT : Addr) : Bool :=
  decide (PySem.W.exmOne K (.ref cT) (.ref cT) = some true) && (decide (PySem.W.exmOne K (.ref cW) (.ref cT) = some false) && decide (PySem.W.exmOne K (.ref cW) (.ref cW) = some true))
theorem exmR_ok {K : PySem.W.Frag} {cW cT : Addr} (h : exmR K cW cT = true) : ExmR K cW cT := by
  unfold exmR at h
  simp only [Bool.and_eq_true, decide_eq_true_eq] at h
  obtain ⟨h1, h2, h3⟩ := h
  exact ⟨h1, h2, h3⟩
/-- a global name holds a text -/
def strIn (K : PySem.W.Frag) (x z : Str) : Bool := match PySem.W.nsIn K mainGlobals x with
  | some (some (.str y _)) => decide (y = z)
  | _ => false
theorem strIn_ok {K : PySem.W.Frag} {x z : Str} {h : Heap} {mg : Str → Option Value} (X : K.In h) (G : h.Ns mainGlobals mg) (e : strIn K x z = true) : ∃ u, mg x = some u ∧ RelV (.str z) u := by
  unfold strIn at e
  split at e
  · rename_i y t q
    rw [← of_decide_eq_true e]
    exact ⟨_, PySem.W.mg_of X G q, t, rfl⟩
  · cases e
end Y

namespace Y
open PySem PySem.Spec PyProof.Rows L2 Ns
/-- the def's data -/
def fdOf {K : PySem.W.Frag} {x q : Str} {st : Stmt} {f : Addr} {fd : FuncData} (_ : Fun K x q st f fd) : FuncData := fd
set_option maxHeartbeats 4000000 in
theorem all_mk {l : PySem.W.OpenLaw} {w : World} {K : PySem.W.Frag} {h : Heap} {mg : Str → Option Value} {fa : Addr} (X : K.In h) (G : h.Ns mainGlobals mg) (hfa : mg "law" = some (.ref fa))
    {fII fIC fIP fIN fIT fICb fICr fWO fCI fRY fTL fPN fB fT fS fM fA fN fNN fZ fC fR fY fSm fWh fO fBW fLN fLC fLB fLR fNu fRw fRg fTd fHu fL cXW cXT wXW wXT : Addr}
    {nmXW qXW : Str} {NXW : Addr} {bsXW bmXW : List Value} {snXW : List Str} {subXW : List Value} {abXW : Bool} {colXW : Option Bool} {ddXW : Option Addr} {m0XW m1XW m2XW m3XW m5XW : Option Value}
    {odiXW aniXW : Option Addr} {sliXW : Array (Option Value)} {ociXW kViXW dciXW pmiXW cdiXW ctiXW : Value}
    {nmXT qXT : Str} {NXT : Addr} {bsXT bmXT : List Value} {snXT : List Str} {subXT : List Value} {abXT : Bool} {colXT : Option Bool} {ddXT : Option Addr} {m0XT m1XT m2XT m3XT m5XT : Option Value}
    {odiXT aniXT : Option Addr} {sliXT : Array (Option Value)} {ociXT kViXT dciXT pmiXT cdiXT ctiXT : Value}
    {oddII andII : Option Addr} {sldII : Array (Option Value)} {ocdII kVdII dcdII pmdII cddII ctdII : Value}
    {oddIC andIC : Option Addr} {sldIC : Array (Option Value)} {ocdIC kVdIC dcdIC pmdIC cddIC ctdIC : Value}
    {oddIP andIP : Option Addr} {sldIP : Array (Option Value)} {ocdIP kVdIP dcdIP pmdIP cddIP ctdIP : Value}
    {oddIN andIN : Option Addr} {sldIN : Array (Option Value)} {ocdIN kVdIN dcdIN pmdIN cddIN ctdIN : Value}
    {oddIT andIT : Option Addr} {sldIT : Array (Option Value)} {ocdIT kVdIT dcdIT pmdIT cddIT ctdIT : Value}
    {oddICb andICb : Option Addr} {sldICb : Array (Option Value)} {ocdICb kVdICb dcdICb pmdICb cddICb ctdICb : Value}
    {oddICr andICr : Option Addr} {sldICr : Array (Option Value)} {ocdICr kVdICr dcdICr pmdICr cddICr ctdICr : Value}
    {oddWO andWO : Option Addr} {sldWO : Array (Option Value)} {ocdWO kVdWO dcdWO pmdWO cddWO ctdWO : Value}
    {oddCI andCI : Option Addr} {sldCI : Array (Option Value)} {ocdCI kVdCI dcdCI pmdCI cddCI ctdCI : Value}
    {oddRY andRY : Option Addr} {sldRY : Array (Option Value)} {ocdRY kVdRY dcdRY pmdRY cddRY ctdRY : Value}
    {oddTL andTL : Option Addr} {sldTL : Array (Option Value)} {ocdTL kVdTL dcdTL pmdTL cddTL ctdTL : Value}
    {oddPN andPN : Option Addr} {sldPN : Array (Option Value)} {ocdPN kVdPN dcdPN pmdPN cddPN ctdPN : Value}
    {oddB andB : Option Addr} {sldB : Array (Option Value)} {ocdB kVdB dcdB pmdB cddB ctdB : Value}
    {oddT andT : Option Addr} {sldT : Array (Option Value)} {ocdT kVdT dcdT pmdT cddT ctdT : Value}
    {oddS andS : Option Addr} {sldS : Array (Option Value)} {ocdS kVdS dcdS pmdS cddS ctdS : Value}
    {oddM andM : Option Addr} {sldM : Array (Option Value)} {ocdM kVdM dcdM pmdM cddM ctdM : Value}
    {oddA andA : Option Addr} {sldA : Array (Option Value)} {ocdA kVdA dcdA pmdA cddA ctdA : Value}
    {oddN andN : Option Addr} {sldN : Array (Option Value)} {ocdN kVdN dcdN pmdN cddN ctdN : Value}
    {oddNN andNN : Option Addr} {sldNN : Array (Option Value)} {ocdNN kVdNN dcdNN pmdNN cddNN ctdNN : Value}
    {oddZ andZ : Option Addr} {sldZ : Array (Option Value)} {ocdZ kVdZ dcdZ pmdZ cddZ ctdZ : Value}
    {oddC andC : Option Addr} {sldC : Array (Option Value)} {ocdC kVdC dcdC pmdC cddC ctdC : Value}
    {oddR andR : Option Addr} {sldR : Array (Option Value)} {ocdR kVdR dcdR pmdR cddR ctdR : Value}
    {oddY andY : Option Addr} {sldY : Array (Option Value)} {ocdY kVdY dcdY pmdY cddY ctdY : Value}
    {oddSm andSm : Option Addr} {sldSm : Array (Option Value)} {ocdSm kVdSm dcdSm pmdSm cddSm ctdSm : Value}
    {oddWh andWh : Option Addr} {sldWh : Array (Option Value)} {ocdWh kVdWh dcdWh pmdWh cddWh ctdWh : Value}
    {oddO andO : Option Addr} {sldO : Array (Option Value)} {ocdO kVdO dcdO pmdO cddO ctdO : Value}
    {oddBW andBW : Option Addr} {sldBW : Array (Option Value)} {ocdBW kVdBW dcdBW pmdBW cddBW ctdBW : Value}
    {oddLN andLN : Option Addr} {sldLN : Array (Option Value)} {ocdLN kVdLN dcdLN pmdLN cddLN ctdLN : Value}
    {oddLC andLC : Option Addr} {sldLC : Array (Option Value)} {ocdLC kVdLC dcdLC pmdLC cddLC ctdLC : Value}
    {oddLB andLB : Option Addr} {sldLB : Array (Option Value)} {ocdLB kVdLB dcdLB pmdLB cddLB ctdLB : Value}
    {oddLR andLR : Option Addr} {sldLR : Array (Option Value)} {ocdLR kVdLR dcdLR pmdLR cddLR ctdLR : Value}
    {oddNu andNu : Option Addr} {sldNu : Array (Option Value)} {ocdNu kVdNu dcdNu pmdNu cddNu ctdNu : Value}
    {oddRw andRw : Option Addr} {sldRw : Array (Option Value)} {ocdRw kVdRw dcdRw pmdRw cddRw ctdRw : Value}
    {oddRg andRg : Option Addr} {sldRg : Array (Option Value)} {ocdRg kVdRg dcdRg pmdRg cddRg ctdRg : Value}
    {oddTd andTd : Option Addr} {sldTd : Array (Option Value)} {ocdTd kVdTd dcdTd pmdTd cddTd ctdTd : Value}
    {oddHu andHu : Option Addr} {sldHu : Array (Option Value)} {ocdHu kVdHu dcdHu pmdHu cddHu ctdHu : Value}
    {oddL andL : Option Addr} {sldL : Array (Option Value)} {ocdL kVdL dcdL pmdL cddL ctdL : Value}
    (adII : PySem.W.nsIn K mainGlobals "is_integer" = some (some (.ref fII)))
    (ldII : K.lookup fII = some ⟨ocdII, oddII, .func (PySem.W.fnOf "is_integer" "is_integer" (defArgs sIsInteger) (defBody sIsInteger) (defScope sIsInteger) .none kVdII dcdII pmdII andII cddII ctdII), sldII⟩)
    (cdII : PySem.W.codeIn K cddII "is_integer" = true)
    (kdII : PySem.W.keepIn K (.ref fII) = true)
    (adIC : PySem.W.nsIn K mainGlobals "is_count" = some (some (.ref fIC)))
    (ldIC : K.lookup fIC = some ⟨ocdIC, oddIC, .func (PySem.W.fnOf "is_count" "is_count" (defArgs sIsCount) (defBody sIsCount) (defScope sIsCount) .none kVdIC dcdIC pmdIC andIC cddIC ctdIC), sldIC⟩)
    (cdIC : PySem.W.codeIn K cddIC "is_count" = true)
    (kdIC : PySem.W.keepIn K (.ref fIC) = true)
    (adIP : PySem.W.nsIn K mainGlobals "is_positive" = some (some (.ref fIP)))
    (ldIP : K.lookup fIP = some ⟨ocdIP, oddIP, .func (PySem.W.fnOf "is_positive" "is_positive" (defArgs sIsPositive) (defBody sIsPositive) (defScope sIsPositive) .none kVdIP dcdIP pmdIP andIP cddIP ctdIP), sldIP⟩)
    (cdIP : PySem.W.codeIn K cddIP "is_positive" = true)
    (kdIP : PySem.W.keepIn K (.ref fIP) = true)
    (adIN : PySem.W.nsIn K mainGlobals "is_name" = some (some (.ref fIN)))
    (ldIN : K.lookup fIN = some ⟨ocdIN, oddIN, .func (PySem.W.fnOf "is_name" "is_name" (defArgs sIsName) (defBody sIsName) (defScope sIsName) .none kVdIN dcdIN pmdIN andIN cddIN ctdIN), sldIN⟩)
    (cdIN : PySem.W.codeIn K cddIN "is_name" = true)
    (kdIN : PySem.W.keepIn K (.ref fIN) = true)
    (adIT : PySem.W.nsIn K mainGlobals "is_tuple_of" = some (some (.ref fIT)))
    (ldIT : K.lookup fIT = some ⟨ocdIT, oddIT, .func (PySem.W.fnOf "is_tuple_of" "is_tuple_of" (defArgs sIsTupleOf) (defBody sIsTupleOf) (defScope sIsTupleOf) .none kVdIT dcdIT pmdIT andIT cddIT ctdIT), sldIT⟩)
    (cdIT : PySem.W.codeIn K cddIT "is_tuple_of" = true)
    (kdIT : PySem.W.keepIn K (.ref fIT) = true)
    (adICb : PySem.W.nsIn K mainGlobals "is_cable" = some (some (.ref fICb)))
    (ldICb : K.lookup fICb = some ⟨ocdICb, oddICb, .func (PySem.W.fnOf "is_cable" "is_cable" (defArgs sIsCable) (defBody sIsCable) (defScope sIsCable) .none kVdICb dcdICb pmdICb andICb cddICb ctdICb), sldICb⟩)
    (cdICb : PySem.W.codeIn K cddICb "is_cable" = true)
    (kdICb : PySem.W.keepIn K (.ref fICb) = true)
    (adICr : PySem.W.nsIn K mainGlobals "is_car" = some (some (.ref fICr)))
    (ldICr : K.lookup fICr = some ⟨ocdICr, oddICr, .func (PySem.W.fnOf "is_car" "is_car" (defArgs sIsCar) (defBody sIsCar) (defScope sIsCar) .none kVdICr dcdICr pmdICr andICr cddICr ctdICr), sldICr⟩)
    (cdICr : PySem.W.codeIn K cddICr "is_car" = true)
    (kdICr : PySem.W.keepIn K (.ref fICr) = true)
    (adWO : PySem.W.nsIn K mainGlobals "words_of" = some (some (.ref fWO)))
    (ldWO : K.lookup fWO = some ⟨ocdWO, oddWO, .func (PySem.W.fnOf "words_of" "words_of" (defArgs sWordsOf) (defBody sWordsOf) (defScope sWordsOf) .none kVdWO dcdWO pmdWO andWO cddWO ctdWO), sldWO⟩)
    (cdWO : PySem.W.codeIn K cddWO "words_of" = true)
    (kdWO : PySem.W.keepIn K (.ref fWO) = true)
    (adCI : PySem.W.nsIn K mainGlobals "count_in" = some (some (.ref fCI)))
    (ldCI : K.lookup fCI = some ⟨ocdCI, oddCI, .func (PySem.W.fnOf "count_in" "count_in" (defArgs sCountIn) (defBody sCountIn) (defScope sCountIn) .none kVdCI dcdCI pmdCI andCI cddCI ctdCI), sldCI⟩)
    (cdCI : PySem.W.codeIn K cddCI "count_in" = true)
    (kdCI : PySem.W.keepIn K (.ref fCI) = true)
    (adRY : PySem.W.nsIn K mainGlobals "read_yard" = some (some (.ref fRY)))
    (ldRY : K.lookup fRY = some ⟨ocdRY, oddRY, .func (PySem.W.fnOf "read_yard" "read_yard" (defArgs sReadYard) (defBody sReadYard) (defScope sReadYard) .none kVdRY dcdRY pmdRY andRY cddRY ctdRY), sldRY⟩)
    (cdRY : PySem.W.codeIn K cddRY "read_yard" = true)
    (kdRY : PySem.W.keepIn K (.ref fRY) = true)
    (adTL : PySem.W.nsIn K mainGlobals "_took_line" = some (some (.ref fTL)))
    (ldTL : K.lookup fTL = some ⟨ocdTL, oddTL, .func (PySem.W.fnOf "_took_line" "_took_line" (defArgs sTookLine) (defBody sTookLine) (defScope sTookLine) .none kVdTL dcdTL pmdTL andTL cddTL ctdTL), sldTL⟩)
    (cdTL : PySem.W.codeIn K cddTL "_took_line" = true)
    (kdTL : PySem.W.keepIn K (.ref fTL) = true)
    (adPN : PySem.W.nsIn K mainGlobals "_put_new" = some (some (.ref fPN)))
    (ldPN : K.lookup fPN = some ⟨ocdPN, oddPN, .func (PySem.W.fnOf "_put_new" "_put_new" (defArgs sPutNew) (defBody sPutNew) (defScope sPutNew) .none kVdPN dcdPN pmdPN andPN cddPN ctdPN), sldPN⟩)
    (cdPN : PySem.W.codeIn K cddPN "_put_new" = true)
    (kdPN : PySem.W.keepIn K (.ref fPN) = true)
    (adB : PySem.W.nsIn K mainGlobals "_law_bag" = some (some (.ref fB)))
    (ldB : K.lookup fB = some ⟨ocdB, oddB, .func (PySem.W.fnOf "_law_bag" "_law_bag" (defArgs sBag) (defBody sBag) (defScope sBag) .none kVdB dcdB pmdB andB cddB ctdB), sldB⟩)
    (cdB : PySem.W.codeIn K cddB "_law_bag" = true)
    (kdB : PySem.W.keepIn K (.ref fB) = true)
    (adT : PySem.W.nsIn K mainGlobals "_law_take" = some (some (.ref fT)))
    (ldT : K.lookup fT = some ⟨ocdT, oddT, .func (PySem.W.fnOf "_law_take" "_law_take" (defArgs sTake) (defBody sTake) (defScope sTake) .none kVdT dcdT pmdT andT cddT ctdT), sldT⟩)
    (cdT : PySem.W.codeIn K cddT "_law_take" = true)
    (kdT : PySem.W.keepIn K (.ref fT) = true)
    (adS : PySem.W.nsIn K mainGlobals "_law_some" = some (some (.ref fS)))
    (ldS : K.lookup fS = some ⟨ocdS, oddS, .func (PySem.W.fnOf "_law_some" "_law_some" (defArgs sSome) (defBody sSome) (defScope sSome) .none kVdS dcdS pmdS andS cddS ctdS), sldS⟩)
    (cdS : PySem.W.codeIn K cddS "_law_some" = true)
    (kdS : PySem.W.keepIn K (.ref fS) = true)
    (adM : PySem.W.nsIn K mainGlobals "_law_mixed" = some (some (.ref fM)))
    (ldM : K.lookup fM = some ⟨ocdM, oddM, .func (PySem.W.fnOf "_law_mixed" "_law_mixed" (defArgs sMixed) (defBody sMixed) (defScope sMixed) .none kVdM dcdM pmdM andM cddM ctdM), sldM⟩)
    (cdM : PySem.W.codeIn K cddM "_law_mixed" = true)
    (kdM : PySem.W.keepIn K (.ref fM) = true)
    (adA : PySem.W.nsIn K mainGlobals "_law_alike" = some (some (.ref fA)))
    (ldA : K.lookup fA = some ⟨ocdA, oddA, .func (PySem.W.fnOf "_law_alike" "_law_alike" (defArgs sAlike) (defBody sAlike) (defScope sAlike) .none kVdA dcdA pmdA andA cddA ctdA), sldA⟩)
    (cdA : PySem.W.codeIn K cddA "_law_alike" = true)
    (kdA : PySem.W.keepIn K (.ref fA) = true)
    (adN : PySem.W.nsIn K mainGlobals "_law_name" = some (some (.ref fN)))
    (ldN : K.lookup fN = some ⟨ocdN, oddN, .func (PySem.W.fnOf "_law_name" "_law_name" (defArgs sName) (defBody sName) (defScope sName) .none kVdN dcdN pmdN andN cddN ctdN), sldN⟩)
    (cdN : PySem.W.codeIn K cddN "_law_name" = true)
    (kdN : PySem.W.keepIn K (.ref fN) = true)
    (adNN : PySem.W.nsIn K mainGlobals "_law_names" = some (some (.ref fNN)))
    (ldNN : K.lookup fNN = some ⟨ocdNN, oddNN, .func (PySem.W.fnOf "_law_names" "_law_names" (defArgs sNames) (defBody sNames) (defScope sNames) .none kVdNN dcdNN pmdNN andNN cddNN ctdNN), sldNN⟩)
    (cdNN : PySem.W.codeIn K cddNN "_law_names" = true)
    (kdNN : PySem.W.keepIn K (.ref fNN) = true)
    (adZ : PySem.W.nsIn K mainGlobals "_law_size" = some (some (.ref fZ)))
    (ldZ : K.lookup fZ = some ⟨ocdZ, oddZ, .func (PySem.W.fnOf "_law_size" "_law_size" (defArgs sSize) (defBody sSize) (defScope sSize) .none kVdZ dcdZ pmdZ andZ cddZ ctdZ), sldZ⟩)
    (cdZ : PySem.W.codeIn K cddZ "_law_size" = true)
    (kdZ : PySem.W.keepIn K (.ref fZ) = true)
    (adC : PySem.W.nsIn K mainGlobals "_law_cables" = some (some (.ref fC)))
    (ldC : K.lookup fC = some ⟨ocdC, oddC, .func (PySem.W.fnOf "_law_cables" "_law_cables" (defArgs sCables) (defBody sCables) (defScope sCables) .none kVdC dcdC pmdC andC cddC ctdC), sldC⟩)
    (cdC : PySem.W.codeIn K cddC "_law_cables" = true)
    (kdC : PySem.W.keepIn K (.ref fC) = true)
    (adR : PySem.W.nsIn K mainGlobals "_law_cars" = some (some (.ref fR)))
    (ldR : K.lookup fR = some ⟨ocdR, oddR, .func (PySem.W.fnOf "_law_cars" "_law_cars" (defArgs sCars) (defBody sCars) (defScope sCars) .none kVdR dcdR pmdR andR cddR ctdR), sldR⟩)
    (cdR : PySem.W.codeIn K cddR "_law_cars" = true)
    (kdR : PySem.W.keepIn K (.ref fR) = true)
    (adY : PySem.W.nsIn K mainGlobals "_law_yard_of" = some (some (.ref fY)))
    (ldY : K.lookup fY = some ⟨ocdY, oddY, .func (PySem.W.fnOf "_law_yard_of" "_law_yard_of" (defArgs sYardOf) (defBody sYardOf) (defScope sYardOf) .none kVdY dcdY pmdY andY cddY ctdY), sldY⟩)
    (cdY : PySem.W.codeIn K cddY "_law_yard_of" = true)
    (kdY : PySem.W.keepIn K (.ref fY) = true)
    (adSm : PySem.W.nsIn K mainGlobals "_law_small_yard" = some (some (.ref fSm)))
    (ldSm : K.lookup fSm = some ⟨ocdSm, oddSm, .func (PySem.W.fnOf "_law_small_yard" "_law_small_yard" (defArgs sSmall) (defBody sSmall) (defScope sSmall) .none kVdSm dcdSm pmdSm andSm cddSm ctdSm), sldSm⟩)
    (cdSm : PySem.W.codeIn K cddSm "_law_small_yard" = true)
    (kdSm : PySem.W.keepIn K (.ref fSm) = true)
    (adWh : PySem.W.nsIn K mainGlobals "_law_whole" = some (some (.ref fWh)))
    (ldWh : K.lookup fWh = some ⟨ocdWh, oddWh, .func (PySem.W.fnOf "_law_whole" "_law_whole" (defArgs sWhole) (defBody sWhole) (defScope sWhole) .none kVdWh dcdWh pmdWh andWh cddWh ctdWh), sldWh⟩)
    (cdWh : PySem.W.codeIn K cddWh "_law_whole" = true)
    (kdWh : PySem.W.keepIn K (.ref fWh) = true)
    (adO : PySem.W.nsIn K mainGlobals "_law_odd" = some (some (.ref fO)))
    (ldO : K.lookup fO = some ⟨ocdO, oddO, .func (PySem.W.fnOf "_law_odd" "_law_odd" (defArgs sOdd) (defBody sOdd) (defScope sOdd) .none kVdO dcdO pmdO andO cddO ctdO), sldO⟩)
    (cdO : PySem.W.codeIn K cddO "_law_odd" = true)
    (kdO : PySem.W.keepIn K (.ref fO) = true)
    (adBW : PySem.W.nsIn K mainGlobals "_law_bent_word" = some (some (.ref fBW)))
    (ldBW : K.lookup fBW = some ⟨ocdBW, oddBW, .func (PySem.W.fnOf "_law_bent_word" "_law_bent_word" (defArgs sBentWord) (defBody sBentWord) (defScope sBentWord) .none kVdBW dcdBW pmdBW andBW cddBW ctdBW), sldBW⟩)
    (cdBW : PySem.W.codeIn K cddBW "_law_bent_word" = true)
    (kdBW : PySem.W.keepIn K (.ref fBW) = true)
    (adLN : PySem.W.nsIn K mainGlobals "_law_is_name" = some (some (.ref fLN)))
    (ldLN : K.lookup fLN = some ⟨ocdLN, oddLN, .func (PySem.W.fnOf "_law_is_name" "_law_is_name" (defArgs sLIsName) (defBody sLIsName) (defScope sLIsName) .none kVdLN dcdLN pmdLN andLN cddLN ctdLN), sldLN⟩)
    (cdLN : PySem.W.codeIn K cddLN "_law_is_name" = true)
    (kdLN : PySem.W.keepIn K (.ref fLN) = true)
    (adLC : PySem.W.nsIn K mainGlobals "_law_is_count" = some (some (.ref fLC)))
    (ldLC : K.lookup fLC = some ⟨ocdLC, oddLC, .func (PySem.W.fnOf "_law_is_count" "_law_is_count" (defArgs sLIsCount) (defBody sLIsCount) (defScope sLIsCount) .none kVdLC dcdLC pmdLC andLC cddLC ctdLC), sldLC⟩)
    (cdLC : PySem.W.codeIn K cddLC "_law_is_count" = true)
    (kdLC : PySem.W.keepIn K (.ref fLC) = true)
    (adLB : PySem.W.nsIn K mainGlobals "_law_is_cable" = some (some (.ref fLB)))
    (ldLB : K.lookup fLB = some ⟨ocdLB, oddLB, .func (PySem.W.fnOf "_law_is_cable" "_law_is_cable" (defArgs sLIsCable) (defBody sLIsCable) (defScope sLIsCable) .none kVdLB dcdLB pmdLB andLB cddLB ctdLB), sldLB⟩)
    (cdLB : PySem.W.codeIn K cddLB "_law_is_cable" = true)
    (kdLB : PySem.W.keepIn K (.ref fLB) = true)
    (adLR : PySem.W.nsIn K mainGlobals "_law_is_car" = some (some (.ref fLR)))
    (ldLR : K.lookup fLR = some ⟨ocdLR, oddLR, .func (PySem.W.fnOf "_law_is_car" "_law_is_car" (defArgs sLIsCar) (defBody sLIsCar) (defScope sLIsCar) .none kVdLR dcdLR pmdLR andLR cddLR ctdLR), sldLR⟩)
    (cdLR : PySem.W.codeIn K cddLR "_law_is_car" = true)
    (kdLR : PySem.W.keepIn K (.ref fLR) = true)
    (adNu : PySem.W.nsIn K mainGlobals "_law_number" = some (some (.ref fNu)))
    (ldNu : K.lookup fNu = some ⟨ocdNu, oddNu, .func (PySem.W.fnOf "_law_number" "_law_number" (defArgs sNumber) (defBody sNumber) (defScope sNumber) .none kVdNu dcdNu pmdNu andNu cddNu ctdNu), sldNu⟩)
    (cdNu : PySem.W.codeIn K cddNu "_law_number" = true)
    (kdNu : PySem.W.keepIn K (.ref fNu) = true)
    (adRw : PySem.W.nsIn K mainGlobals "_law_row" = some (some (.ref fRw)))
    (ldRw : K.lookup fRw = some ⟨ocdRw, oddRw, .func (PySem.W.fnOf "_law_row" "_law_row" (defArgs sRow) (defBody sRow) (defScope sRow) .none kVdRw dcdRw pmdRw andRw cddRw ctdRw), sldRw⟩)
    (cdRw : PySem.W.codeIn K cddRw "_law_row" = true)
    (kdRw : PySem.W.keepIn K (.ref fRw) = true)
    (adRg : PySem.W.nsIn K mainGlobals "_law_reading" = some (some (.ref fRg)))
    (ldRg : K.lookup fRg = some ⟨ocdRg, oddRg, .func (PySem.W.fnOf "_law_reading" "_law_reading" (defArgs sReading) (defBody sReading) (defScope sReading) .none kVdRg dcdRg pmdRg andRg cddRg ctdRg), sldRg⟩)
    (cdRg : PySem.W.codeIn K cddRg "_law_reading" = true)
    (kdRg : PySem.W.keepIn K (.ref fRg) = true)
    (adTd : PySem.W.nsIn K mainGlobals "_law_told" = some (some (.ref fTd)))
    (ldTd : K.lookup fTd = some ⟨ocdTd, oddTd, .func (PySem.W.fnOf "_law_told" "_law_told" (defArgs sTold) (defBody sTold) (defScope sTold) .none kVdTd dcdTd pmdTd andTd cddTd ctdTd), sldTd⟩)
    (cdTd : PySem.W.codeIn K cddTd "_law_told" = true)
    (kdTd : PySem.W.keepIn K (.ref fTd) = true)
    (adHu : PySem.W.nsIn K mainGlobals "_law_hurt" = some (some (.ref fHu)))
    (ldHu : K.lookup fHu = some ⟨ocdHu, oddHu, .func (PySem.W.fnOf "_law_hurt" "_law_hurt" (defArgs sHurt) (defBody sHurt) (defScope sHurt) .none kVdHu dcdHu pmdHu andHu cddHu ctdHu), sldHu⟩)
    (cdHu : PySem.W.codeIn K cddHu "_law_hurt" = true)
    (kdHu : PySem.W.keepIn K (.ref fHu) = true)
    (adL : PySem.W.nsIn K mainGlobals "law" = some (some (.ref fL)))
    (ldL : K.lookup fL = some ⟨ocdL, oddL, .func (PySem.W.fnOf "law" "law" (defArgs sLaw) (defBody sLaw) (defScope sLaw) .none kVdL dcdL pmdL andL cddL ctdL), sldL⟩)
    (cdL : PySem.W.codeIn K cddL "law" = true)
    (kdL : PySem.W.keepIn K (.ref fL) = true)
    (eaXW : PySem.W.nsIn K mainGlobals "Wrong" = some (some (.ref cXW)))
    (exXW : K.lookup cXW = some (excClassObj nmXW qXW cXW NXW bsXW bmXW true snXW subXW abXW colXW ddXW m0XW m1XW m2XW m3XW m5XW "ValueError.__new__"))
    (erXW : PySem.HandSPX.refsVE bmXW = true)
    (eiXW : PySem.W.findIn K (.ref cXW) "__init__" = some (some (.ref wXW)))
    (etXW : PySem.W.typeIn K (.ref wXW) = some (.type "function"))
    (elXW : K.lookup wXW = some ⟨ociXW, odiXW, .func (PySem.W.fnOf "__init__" "Wrong.__init__" (defArgs sWrong) (defBody sWrong) (defScope sWrong) .none kViXW dciXW pmiXW aniXW cdiXW ctiXW), sliXW⟩)
    (ecXW : PySem.W.codeIn K cdiXW "Wrong.__init__" = true)
    (ekXW : PySem.W.keepIn K (.ref wXW) = true)
    (enXW_place : PySem.W.findIn K (.ref cXW) "place" = some none)
    (ebXW : exB K cXW = true)
    (eaXT : PySem.W.nsIn K mainGlobals "NoText" = some (some (.ref cXT)))
    (exXT : K.lookup cXT = some (excClassObj nmXT qXT cXT NXT bsXT bmXT true snXT subXT abXT colXT ddXT m0XT m1XT m2XT m3XT m5XT "ValueError.__new__"))
    (erXT : PySem.HandSPX.refsVE bmXT = true)
    (eiXT : PySem.W.findIn K (.ref cXT) "__init__" = some (some (.ref wXT)))
    (etXT : PySem.W.typeIn K (.ref wXT) = some (.type "function"))
    (elXT : K.lookup wXT = some ⟨ociXT, odiXT, .func (PySem.W.fnOf "__init__" "NoText.__init__" (defArgs sNoText) (defBody sNoText) (defScope sNoText) .none kViXT dciXT pmiXT aniXT cdiXT ctiXT), sliXT⟩)
    (ecXT : PySem.W.codeIn K cdiXT "NoText.__init__" = true)
    (ekXT : PySem.W.keepIn K (.ref wXT) = true)
    (enXT_line : PySem.W.findIn K (.ref cXT) "line" = some none)
    (ebXT : exB K cXT = true)
    (kccL : strIn K "_LETTERS" letters = true)
    (kccS : strIn K "_SIGNS" signs = true)
    (asxm : exmR K cXW cXT = true)
    (zabs : PySem.W.nsIn K mainGlobals "abs" = some none)
    (zint : PySem.W.nsIn K mainGlobals "int" = some none)
    (zlen : PySem.W.nsIn K mainGlobals "len" = some none)
    (zrepr : PySem.W.nsIn K mainGlobals "repr" = some none)
    (zisinstance : PySem.W.nsIn K mainGlobals "isinstance" = some none)
    (zrange : PySem.W.nsIn K mainGlobals "range" = some none)
    (zsorted : PySem.W.nsIn K mainGlobals "sorted" = some none)
    (ztuple : PySem.W.nsIn K mainGlobals "tuple" = some none)
    (zlist : PySem.W.nsIn K mainGlobals "list" = some none)
    (zdict : PySem.W.nsIn K mainGlobals "dict" = some none)
    (zset : PySem.W.nsIn K mainGlobals "set" = some none)
    (zsum : PySem.W.nsIn K mainGlobals "sum" = some none)
    (zmax : PySem.W.nsIn K mainGlobals "max" = some none)
    (zmin : PySem.W.nsIn K mainGlobals "min" = some none)
    (zstr : PySem.W.nsIn K mainGlobals "str" = some none)
    (zall : PySem.W.nsIn K mainGlobals "all" = some none)
    (zany : PySem.W.nsIn K mainGlobals "any" = some none)
    (zzip : PySem.W.nsIn K mainGlobals "zip" = some none)
    (zbool : PySem.W.nsIn K mainGlobals "bool" = some none)
    (zenumerate : PySem.W.nsIn K mainGlobals "enumerate" = some none) :
    ∃ fd : FuncData, (∀ (s : Shared) (v : Value), BindsTo s fd ⟨[v], []⟩ [("script", v)]) ∧ ∀ base : Heap, K.In base → base.Ns mainGlobals mg → GnOk l.prog w K mg base 8 fa fd ["script"] (spTop K) := by
  have e := hfa.symm.trans (PySem.W.mg_of X G adL)
  cases e
  have T : Nat0 mg := ⟨PySem.W.mg_none_of X G zabs, PySem.W.mg_none_of X G zint, PySem.W.mg_none_of X G zlen, PySem.W.mg_none_of X G zrepr, PySem.W.mg_none_of X G zisinstance, PySem.W.mg_none_of X G zrange, PySem.W.mg_none_of X G zsorted, PySem.W.mg_none_of X G ztuple, PySem.W.mg_none_of X G zlist, PySem.W.mg_none_of X G zdict, PySem.W.mg_none_of X G zset, PySem.W.mg_none_of X G zsum, PySem.W.mg_none_of X G zmax, PySem.W.mg_none_of X G zmin, PySem.W.mg_none_of X G zstr, PySem.W.mg_none_of X G zall, PySem.W.mg_none_of X G zany, PySem.W.mg_none_of X G zzip⟩
  have h_bool : mg "bool" = none := PySem.W.mg_none_of X G zbool
  have h_enumerate : mg "enumerate" = none := PySem.W.mg_none_of X G zenumerate
  have FII := fun_mk (st := sIsInteger) ldII cdII kdII
  have bII := FII.binds (ps := ["thing"]) fun _ _ _ _ _ _ us hl => match us, hl with | [_], _ => rfl
  have mII := PySem.W.mg_of X G adII
  have FIC := fun_mk (st := sIsCount) ldIC cdIC kdIC
  have bIC := FIC.binds (ps := ["thing"]) fun _ _ _ _ _ _ us hl => match us, hl with | [_], _ => rfl
  have mIC := PySem.W.mg_of X G adIC
  have FIP := fun_mk (st := sIsPositive) ldIP cdIP kdIP
  have bIP := FIP.binds (ps := ["thing"]) fun _ _ _ _ _ _ us hl => match us, hl with | [_], _ => rfl
  have mIP := PySem.W.mg_of X G adIP
  have FIN := fun_mk (st := sIsName) ldIN cdIN kdIN
  have bIN := FIN.binds (ps := ["thing"]) fun _ _ _ _ _ _ us hl => match us, hl with | [_], _ => rfl
  have mIN := PySem.W.mg_of X G adIN
  have FIT := fun_mk (st := sIsTupleOf) ldIT cdIT kdIT
  have bIT := FIT.binds (ps := ["many", "thing"]) fun _ _ _ _ _ _ us hl => match us, hl with | [_, _], _ => rfl
  have mIT := PySem.W.mg_of X G adIT
  have FICb := fun_mk (st := sIsCable) ldICb cdICb kdICb
  have bICb := FICb.binds (ps := ["thing"]) fun _ _ _ _ _ _ us hl => match us, hl with | [_], _ => rfl
  have mICb := PySem.W.mg_of X G adICb
  have FICr := fun_mk (st := sIsCar) ldICr cdICr kdICr
  have bICr := FICr.binds (ps := ["thing"]) fun _ _ _ _ _ _ us hl => match us, hl with | [_], _ => rfl
  have mICr := PySem.W.mg_of X G adICr
  have FWO := fun_mk (st := sWordsOf) ldWO cdWO kdWO
  have bWO := FWO.binds (ps := ["line"]) fun _ _ _ _ _ _ us hl => match us, hl with | [_], _ => rfl
  have mWO := PySem.W.mg_of X G adWO
  have FCI := fun_mk (st := sCountIn) ldCI cdCI kdCI
  have bCI := FCI.binds (ps := ["word"]) fun _ _ _ _ _ _ us hl => match us, hl with | [_], _ => rfl
  have mCI := PySem.W.mg_of X G adCI
  have FRY := fun_mk (st := sReadYard) ldRY cdRY kdRY
  have bRY := FRY.binds (ps := ["text"]) fun _ _ _ _ _ _ us hl => match us, hl with | [_], _ => rfl
  have mRY := PySem.W.mg_of X G adRY
  have FTL := fun_mk (st := sTookLine) ldTL cdTL kdTL
  have bTL := FTL.binds (ps := ["cables", "cars", "words"]) fun _ _ _ _ _ _ us hl => match us, hl with | [_, _, _], _ => rfl
  have mTL := PySem.W.mg_of X G adTL
  have FPN := fun_mk (st := sPutNew) ldPN cdPN kdPN
  have bPN := FPN.binds (ps := ["rows", "key", "row"]) fun _ _ _ _ _ _ us hl => match us, hl with | [_, _, _], _ => rfl
  have mPN := PySem.W.mg_of X G adPN
  have FB := fun_mk (st := sBag) ldB cdB kdB
  have bB := FB.binds (ps := ["script"]) fun _ _ _ _ _ _ us hl => match us, hl with | [_], _ => rfl
  have mB := PySem.W.mg_of X G adB
  have FT := fun_mk (st := sTake) ldT cdT kdT
  have bT := FT.binds (ps := ["bag", "many"]) fun _ _ _ _ _ _ us hl => match us, hl with | [_, _], _ => rfl
  have mT := PySem.W.mg_of X G adT
  have FS := fun_mk (st := sSome) ldS cdS kdS
  have bS := FS.binds (ps := ["bag", "things"]) fun _ _ _ _ _ _ us hl => match us, hl with | [_, _], _ => rfl
  have mS := PySem.W.mg_of X G adS
  have FM := fun_mk (st := sMixed) ldM cdM kdM
  have bM := FM.binds (ps := ["bag", "things"]) fun _ _ _ _ _ _ us hl => match us, hl with | [_, _], _ => rfl
  have mM := PySem.W.mg_of X G adM
  have FA := fun_mk (st := sAlike) ldA cdA kdA
  have bA := FA.binds (ps := ["found", "due"]) fun _ _ _ _ _ _ us hl => match us, hl with | [_, _], _ => rfl
  have mA := PySem.W.mg_of X G adA
  have FN := fun_mk (st := sName) ldN cdN kdN
  have bN := FN.binds (ps := ["bag", "taken"]) fun _ _ _ _ _ _ us hl => match us, hl with | [_, _], _ => rfl
  have mN := PySem.W.mg_of X G adN
  have FNN := fun_mk (st := sNames) ldNN cdNN kdNN
  have bNN := FNN.binds (ps := ["bag", "many", "taken"]) fun _ _ _ _ _ _ us hl => match us, hl with | [_, _, _], _ => rfl
  have mNN := PySem.W.mg_of X G adNN
  have FZ := fun_mk (st := sSize) ldZ cdZ kdZ
  have bZ := FZ.binds (ps := ["bag", "most"]) fun _ _ _ _ _ _ us hl => match us, hl with | [_, _], _ => rfl
  have mZ := PySem.W.mg_of X G adZ
  have FC := fun_mk (st := sCables) ldC cdC kdC
  have bC := FC.binds (ps := ["bag", "knots", "many", "most"]) fun _ _ _ _ _ _ us hl => match us, hl with | [_, _, _, _], _ => rfl
  have mC := PySem.W.mg_of X G adC
  have FR := fun_mk (st := sCars) ldR cdR kdR
  have bR := FR.binds (ps := ["bag", "names", "knots", "most"]) fun _ _ _ _ _ _ us hl => match us, hl with | [_, _, _, _], _ => rfl
  have mR := PySem.W.mg_of X G adR
  have FY := fun_mk (st := sYardOf) ldY cdY kdY
  have bY := FY.binds (ps := ["bag", "cars", "knots", "cables", "most"]) fun _ _ _ _ _ _ us hl => match us, hl with | [_, _, _, _, _], _ => rfl
  have mY := PySem.W.mg_of X G adY
  have FSm := fun_mk (st := sSmall) ldSm cdSm kdSm
  have bSm := FSm.binds (ps := ["bag"]) fun _ _ _ _ _ _ us hl => match us, hl with | [_], _ => rfl
  have mSm := PySem.W.mg_of X G adSm
  have FWh := fun_mk (st := sWhole) ldWh cdWh kdWh
  have bWh := FWh.binds (ps := ["thing"]) fun _ _ _ _ _ _ us hl => match us, hl with | [_], _ => rfl
  have mWh := PySem.W.mg_of X G adWh
  have FO := fun_mk (st := sOdd) ldO cdO kdO
  have bO := FO.binds (ps := ["bag"]) fun _ _ _ _ _ _ us hl => match us, hl with | [_], _ => rfl
  have mO := PySem.W.mg_of X G adO
  have FBW := fun_mk (st := sBentWord) ldBW cdBW kdBW
  have bBW := FBW.binds (ps := ["bag", "word"]) fun _ _ _ _ _ _ us hl => match us, hl with | [_, _], _ => rfl
  have mBW := PySem.W.mg_of X G adBW
  have FLN := fun_mk (st := sLIsName) ldLN cdLN kdLN
  have bLN := FLN.binds (ps := ["thing"]) fun _ _ _ _ _ _ us hl => match us, hl with | [_], _ => rfl
  have mLN := PySem.W.mg_of X G adLN
  have FLC := fun_mk (st := sLIsCount) ldLC cdLC kdLC
  have bLC := FLC.binds (ps := ["thing"]) fun _ _ _ _ _ _ us hl => match us, hl with | [_], _ => rfl
  have mLC := PySem.W.mg_of X G adLC
  have FLB := fun_mk (st := sLIsCable) ldLB cdLB kdLB
  have bLB := FLB.binds (ps := ["thing"]) fun _ _ _ _ _ _ us hl => match us, hl with | [_], _ => rfl
  have mLB := PySem.W.mg_of X G adLB
  have FLR := fun_mk (st := sLIsCar) ldLR cdLR kdLR
  have bLR := FLR.binds (ps := ["thing"]) fun _ _ _ _ _ _ us hl => match us, hl with | [_], _ => rfl
  have mLR := PySem.W.mg_of X G adLR
  have FNu := fun_mk (st := sNumber) ldNu cdNu kdNu
  have bNu := FNu.binds (ps := ["word"]) fun _ _ _ _ _ _ us hl => match us, hl with | [_], _ => rfl
  have mNu := PySem.W.mg_of X G adNu
  have FRw := fun_mk (st := sRow) ldRw cdRw kdRw
  have bRw := FRw.binds (ps := ["words"]) fun _ _ _ _ _ _ us hl => match us, hl with | [_], _ => rfl
  have mRw := PySem.W.mg_of X G adRw
  have FRg := fun_mk (st := sReading) ldRg cdRg kdRg
  have bRg := FRg.binds (ps := ["text"]) fun _ _ _ _ _ _ us hl => match us, hl with | [_], _ => rfl
  have mRg := PySem.W.mg_of X G adRg
  have FTd := fun_mk (st := sTold) ldTd cdTd kdTd
  have bTd := FTd.binds (ps := ["text"]) fun _ _ _ _ _ _ us hl => match us, hl with | [_], _ => rfl
  have mTd := PySem.W.mg_of X G adTd
  have FHu := fun_mk (st := sHurt) ldHu cdHu kdHu
  have bHu := FHu.binds (ps := ["bag", "lines"]) fun _ _ _ _ _ _ us hl => match us, hl with | [_, _], _ => rfl
  have mHu := PySem.W.mg_of X G adHu
  have FL := fun_mk (st := sLaw) ldL cdL kdL
  have FXW := fun_mk (st := sWrong) elXW ecXW ekXW
  have yXW := exB_ok ebXW
  have EXW : ErI K mg "Wrong" "Wrong.__init__" sWrong ["self", "place"] cXW wXW _ := { oex := ⟨⟨nmXW, qXW, NXW, bsXW, bmXW, snXW, subXW, abXW, colXW, ddXW, m0XW, m1XW, m2XW, m3XW, m5XW, exXW, erXW⟩, yXW.sa, yXW.ex.hs, yXW.ty, yXW.kp⟩, xf := yXW.xf, g := PySem.W.mg_of X G eaXW, iC := eiXW, tI := etXW, F := FXW, b := FXW.binds (ps := ["self", "place"]) fun _ _ _ _ _ _ us hl => match us, hl with | [_, _], _ => rfl }
  have FXT := fun_mk (st := sNoText) elXT ecXT ekXT
  have yXT := exB_ok ebXT
  have EXT : ErI K mg "NoText" "NoText.__init__" sNoText ["self", "line"] cXT wXT _ := { oex := ⟨⟨nmXT, qXT, NXT, bsXT, bmXT, snXT, subXT, abXT, colXT, ddXT, m0XT, m1XT, m2XT, m3XT, m5XT, exXT, erXT⟩, yXT.sa, yXT.ex.hs, yXT.ty, yXT.kp⟩, xf := yXT.xf, g := PySem.W.mg_of X G eaXT, iC := eiXT, tI := etXT, F := FXT, b := FXT.binds (ps := ["self", "line"]) fun _ _ _ _ _ _ us hl => match us, hl with | [_, _], _ => rfl }
  have gcL := strIn_ok X G kccL
  have gcS := strIn_ok X G kccS
  exact ⟨_, fun s v => .of_eq rfl, fun base _ _ =>
    have gII : FnOk l.prog w K mg base CX0 1 fII _ ["thing"] (spTells K isInt) := ok_isInteger FII T h_bool
    have gIC : FnOk l.prog w K mg base CX0 2 fIC _ ["thing"] (spTells K isCnt) := ok_isCount FIC gII FII mII bII
    have gIP : FnOk l.prog w K mg base CX0 2 fIP _ ["thing"] (spTells K isPos) := ok_isPositive FIP gII FII mII bII
    have gIN : FnOk l.prog w K mg base CX0 1 fIN _ ["thing"] (spTellS K nameD) := ok_isName FIN T gcL gcS
    have gIT : FnOk l.prog w K mg base CX0 1 fIT _ ["many", "thing"] (spTup K) := ok_isTupleOf FIT T
    have gICb : FnOk l.prog w K mg base CX0 3 fICb _ ["thing"] (spTellS K cableD) := ok_isCable FICb gIT FIT mIT bIT gIN FIN mIN bIN gIC FIC mIC bIC
    have gICr : FnOk l.prog w K mg base CX0 3 fICr _ ["thing"] (spTellS K carT) := ok_isCar FICr gIT FIT mIT bIT gIN FIN mIN bIN gIC FIC mIC bIC gIP FIP mIP bIP
    have gWO : FnOk l.prog w K mg base CX0 1 fWO _ ["line"] spWords := ok_wordsOf FWO
    have gCI : FnOk l.prog w K mg base CX0 1 fCI _ ["word"] (spNum numP) := ok_countIn FCI T
    have gPN : FnOk l.prog w K mg base CX0 1 fPN _ ["rows", "key", "row"] spPut := ok_putNew FPN
    have gTL : FnOk l.prog w K mg base CX0 4 fTL _ ["cables", "cars", "words"] (spTook K) := ok_took FTL T gCI FCI mCI bCI gICb FICb mICb bICb gICr FICr mICr bICr gPN FPN mPN bPN
    have gRY : FnOk l.prog w K mg base (L2.CX l.prog w) 5 fRY _ ["text"] (spRead K cXT cXW) := ok_readYard FRY T h_enumerate gWO FWO mWO bWO gTL FTL mTL bTL EXW enXW_place EXT enXT_line
    have gS : FnOk l.prog w K mg base CX0 2 fS _ ["bag", "things"] (spSome K) := ok_some FS T FT mT bT
    have gN : FnOk l.prog w K mg base CX0 3 fN _ ["bag", "taken"] (spName K) := ok_name FN T FT mT bT FS mS bS
    have gNN : FnOk l.prog w K mg base CX0 4 fNN _ ["bag", "many", "taken"] (spNames K) := ok_names FNN T gN FN mN bN
    have gZ : FnOk l.prog w K mg base CX0 3 fZ _ ["bag", "most"] spSize := ok_size FZ T FT mT bT FS mS bS
    have gC : FnOk l.prog w K mg base CX0 4 fC _ ["bag", "knots", "many", "most"] (spCables K) := ok_cables FC T FT mT bT FS mS bS gZ FZ mZ bZ
    have gR : FnOk l.prog w K mg base CX0 4 fR _ ["bag", "names", "knots", "most"] (spCars K) := ok_cars FR T FT mT bT FS mS bS gZ FZ mZ bZ
    have Gg : Gen l.prog w K mg base fT fS fN fNN fC fR _ _ (fdOf FN) _ _ _ := { T := FT, mT := mT, bT := bT, S := FS, mS := mS, bS := bS, N := FNN, mN := mNN, bN := bNN, gN := gNN, C := FC, mC := mC, bC := bC, gC := gC.mono (by decide), R := FR, mR := mR, bR := bR, gR := gR.mono (by decide) }
    have gSm : FnOk l.prog w K mg base CX0 7 fSm _ ["bag"] (spYardS K) := ok_small2 FSm T Gg FY mY bY
    have gWh : FnOk l.prog w K mg base CX0 1 fWh _ ["thing"] (spTells K isInt) := ok_whole FWh T h_bool
    have gLN : FnOk l.prog w K mg base CX0 1 fLN _ ["thing"] (spTellS K nameD) := ok_lName FLN T
    have gLC : FnOk l.prog w K mg base CX0 2 fLC _ ["thing"] (spTells K isCnt) := ok_lCount FLC gWh FWh mWh bWh
    have gLB : FnOk l.prog w K mg base CX0 3 fLB _ ["thing"] (spTellS K cableD) := ok_lCable FLB T gLN FLN mLN bLN gLC FLC mLC bLC
    have gLR : FnOk l.prog w K mg base CX0 3 fLR _ ["thing"] (spTellS K carT) := ok_lCar FLR T gLN FLN mLN bLN gLC FLC mLC bLC
    have gNu : FnOk l.prog w K mg base CX0 1 fNu _ ["word"] (spNum numL) := ok_number FNu T
    have gRw : FnOk l.prog w K mg base CX0 4 fRw _ ["words"] (spRow K) := ok_row FRw T gNu FNu mNu bNu gLB FLB mLB bLB gLR FLR mLR bLR
    have gRg : FnOk l.prog w K mg base CX0 5 fRg _ ["text"] (spReading K) := ok_reading FRg T h_enumerate gRw FRw mRw bRw
    have gTd : FnOk l.prog w K mg base CX0 6 fTd _ ["text"] (spToldR K) := ok_toldR FTd gRY FRY mRY bRY EXW enXW_place EXT enXT_line (exmR_ok asxm)
    have gHu : FnOk l.prog w K mg base CX0 4 fHu _ ["bag", "lines"] spHurt := ok_hurt FHu T FT mT bT FS mS bS FBW mBW bBW
    have D : D09 l.prog w K mg base fB fT fSm fM fHu fTd fRg fO fA _ _ _ _ _ _ _ _ _ := { B := FB, mB := mB, bB := bB, gB := ok_bag FB T, T := FT, mT := mT, bT := bT, gT := ok_take FT T, Sm := FSm, mSm := mSm, bSm := bSm, gSm := gSm, M := FM, mM := mM, bM := bM, gM := ok_mixed FM T FT mT bT, Hu := FHu, mHu := mHu, bHu := bHu, gHu := gHu, Td := FTd, mTd := mTd, bTd := bTd, gTd := gTd, Rg := FRg, mRg := mRg, bRg := bRg, gRg := gRg, O := FO, mO := mO, bO := bO, gO := ok_odd FO FS mS bS gS, A := FA, mA := mA, bA := bA, gA := ok_alike FA T }
    ok_law FL T D⟩
end Y
open PySem PySem.W PyProof.Rows in
set_option maxRecDepth 100000 in
set_option maxHeartbeats 0 in
theorem PySem.Challenge.cw_nightstairs_k09_first_bad_line_holds : PySem.Challenge.rw_nightstairs_k09_first_bad_line.Holds := by
  w_on; o_law; k_head; (case hw => w_witness2)
  k_fill
  refine Ns.walk_ofG (l := PySem.Challenge.rw_nightstairs_k09_first_bad_line) (k := 8) rfl rfl ⟨rfl, by decide, by decide⟩ (fun w h Y => PySem.W.kIn_of Y) ?F
  case F =>
    intro w mg fa h KX G hmg
    refine' Y.all_mk KX G hmg ?adII ?ldII ?cdII ?kdII ?adIC ?ldIC ?cdIC ?kdIC ?adIP ?ldIP ?cdIP ?kdIP ?adIN ?ldIN ?cdIN ?kdIN ?adIT ?ldIT ?cdIT ?kdIT ?adICb ?ldICb ?cdICb ?kdICb ?adICr ?ldICr ?cdICr ?kdICr ?adWO ?ldWO ?cdWO ?kdWO ?adCI ?ldCI ?cdCI ?kdCI ?adRY ?ldRY ?cdRY ?kdRY ?adTL ?ldTL ?cdTL ?kdTL ?adPN ?ldPN ?cdPN ?kdPN ?adB ?ldB ?cdB ?kdB ?adT ?ldT ?cdT ?kdT ?adS ?ldS ?cdS ?kdS ?adM ?ldM ?cdM ?kdM ?adA ?ldA ?cdA ?kdA ?adN ?ldN ?cdN ?kdN ?adNN ?ldNN ?cdNN ?kdNN ?adZ ?ldZ ?cdZ ?kdZ ?adC ?ldC ?cdC ?kdC ?adR ?ldR ?cdR ?kdR ?adY ?ldY ?cdY ?kdY ?adSm ?ldSm ?cdSm ?kdSm ?adWh ?ldWh ?cdWh ?kdWh ?adO ?ldO ?cdO ?kdO ?adBW ?ldBW ?cdBW ?kdBW ?adLN ?ldLN ?cdLN ?kdLN ?adLC ?ldLC ?cdLC ?kdLC ?adLB ?ldLB ?cdLB ?kdLB ?adLR ?ldLR ?cdLR ?kdLR ?adNu ?ldNu ?cdNu ?kdNu ?adRw ?ldRw ?cdRw ?kdRw ?adRg ?ldRg ?cdRg ?kdRg ?adTd ?ldTd ?cdTd ?kdTd ?adHu ?ldHu ?cdHu ?kdHu ?adL ?ldL ?cdL ?kdL ?eaXW ?exXW ?erXW ?eiXW ?etXW ?elXW ?ecXW ?ekXW ?enXW_place ?ebXW ?eaXT ?exXT ?erXT ?eiXT ?etXT ?elXT ?ecXT ?ekXT ?enXT_line ?ebXT ?kccL ?kccS ?asxm ?zabs ?zint ?zlen ?zrepr ?zisinstance ?zrange ?zsorted ?ztuple ?zlist ?zdict ?zset ?zsum ?zmax ?zmin ?zstr ?zall ?zany ?zzip ?zbool ?zenumerate
    (case adII => k_is)
    (case ldII => k_is)
    (case cdII => k_is)
    (case kdII => k_is)
    (case adIC => k_is)
    (case ldIC => k_is)
    (case cdIC => k_is)
    (case kdIC => k_is)
    (case adIP => k_is)
    (case ldIP => k_is)
    (case cdIP => k_is)
    (case kdIP => k_is)
    (case adIN => k_is)
    (case ldIN => k_is)
    (case cdIN => k_is)
    (case kdIN => k_is)
    (case adIT => k_is)
    (case ldIT => k_is)
    (case cdIT => k_is)
    (case kdIT => k_is)
    (case adICb => k_is)
    (case ldICb => k_is)
    (case cdICb => k_is)
    (case kdICb => k_is)
    (case adICr => k_is)
    (case ldICr => k_is)
    (case cdICr => k_is)
    (case kdICr => k_is)
    (case adWO => k_is)
    (case ldWO => k_is)
    (case cdWO => k_is)
    (case kdWO => k_is)
    (case adCI => k_is)
    (case ldCI => k_is)
    (case cdCI => k_is)
    (case kdCI => k_is)
    (case adRY => k_is)
    (case ldRY => k_is)
    (case cdRY => k_is)
    (case kdRY => k_is)
    (case adTL => k_is)
    (case ldTL => k_is)
    (case cdTL => k_is)
    (case kdTL => k_is)
    (case adPN => k_is)
    (case ldPN => k_is)
    (case cdPN => k_is)
    (case kdPN => k_is)
    (case adB => k_is)
    (case ldB => k_is)
    (case cdB => k_is)
    (case kdB => k_is)
    (case adT => k_is)
    (case ldT => k_is)
    (case cdT => k_is)
    (case kdT => k_is)
    (case adS => k_is)
    (case ldS => k_is)
    (case cdS => k_is)
    (case kdS => k_is)
    (case adM => k_is)
    (case ldM => k_is)
    (case cdM => k_is)
    (case kdM => k_is)
    (case adA => k_is)
    (case ldA => k_is)
    (case cdA => k_is)
    (case kdA => k_is)
    (case adN => k_is)
    (case ldN => k_is)
    (case cdN => k_is)
    (case kdN => k_is)
    (case adNN => k_is)
    (case ldNN => k_is)
    (case cdNN => k_is)
    (case kdNN => k_is)
    (case adZ => k_is)
    (case ldZ => k_is)
    (case cdZ => k_is)
    (case kdZ => k_is)
    (case adC => k_is)
    (case ldC => k_is)
    (case cdC => k_is)
    (case kdC => k_is)
    (case adR => k_is)
    (case ldR => k_is)
    (case cdR => k_is)
    (case kdR => k_is)
    (case adY => k_is)
    (case ldY => k_is)
    (case cdY => k_is)
    (case kdY => k_is)
    (case adSm => k_is)
    (case ldSm => k_is)
    (case cdSm => k_is)
    (case kdSm => k_is)
    (case adWh => k_is)
    (case ldWh => k_is)
    (case cdWh => k_is)
    (case kdWh => k_is)
    (case adO => k_is)
    (case ldO => k_is)
    (case cdO => k_is)
    (case kdO => k_is)
    (case adBW => k_is)
    (case ldBW => k_is)
    (case cdBW => k_is)
    (case kdBW => k_is)
    (case adLN => k_is)
    (case ldLN => k_is)
    (case cdLN => k_is)
    (case kdLN => k_is)
    (case adLC => k_is)
    (case ldLC => k_is)
    (case cdLC => k_is)
    (case kdLC => k_is)
    (case adLB => k_is)
    (case ldLB => k_is)
    (case cdLB => k_is)
    (case kdLB => k_is)
    (case adLR => k_is)
    (case ldLR => k_is)
    (case cdLR => k_is)
    (case kdLR => k_is)
    (case adNu => k_is)
    (case ldNu => k_is)
    (case cdNu => k_is)
    (case kdNu => k_is)
    (case adRw => k_is)
    (case ldRw => k_is)
    (case cdRw => k_is)
    (case kdRw => k_is)
    (case adRg => k_is)
    (case ldRg => k_is)
    (case cdRg => k_is)
    (case kdRg => k_is)
    (case adTd => k_is)
    (case ldTd => k_is)
    (case cdTd => k_is)
    (case kdTd => k_is)
    (case adHu => k_is)
    (case ldHu => k_is)
    (case cdHu => k_is)
    (case kdHu => k_is)
    (case adL => k_is)
    (case ldL => k_is)
    (case cdL => k_is)
    (case kdL => k_is)
    (case eaXW => k_is)
    (case exXW => k_is)
    (case erXW => kernel_rfl)
    (case eiXW => k_is)
    (case etXW => k_is)
    (case elXW => k_is)
    (case ecXW => k_is)
    (case ekXW => k_is)
    (case enXW_place => k_is)
    (case ebXW => kernel_rfl)
    (case eaXT => k_is)
    (case exXT => k_is)
    (case erXT => kernel_rfl)
    (case eiXT => k_is)
    (case etXT => k_is)
    (case elXT => k_is)
    (case ecXT => k_is)
    (case ekXT => k_is)
    (case enXT_line => k_is)
    (case ebXT => kernel_rfl)
    (case kccL => kernel_rfl)
    (case kccS => kernel_rfl)
    (case asxm => kernel_rfl)
    (case zabs => k_is)
    (case zint => k_is)
    (case zlen => k_is)
    (case zrepr => k_is)
    (case zisinstance => k_is)
    (case zrange => k_is)
    (case zsorted => k_is)
    (case ztuple => k_is)
    (case zlist => k_is)
    (case zdict => k_is)
    (case zset => k_is)
    (case zsum => k_is)
    (case zmax => k_is)
    (case zmin => k_is)
    (case zstr => k_is)
    (case zall => k_is)
    (case zany => k_is)
    (case zzip => k_is)
    (case zbool => k_is)
    (case zenumerate => k_is)

