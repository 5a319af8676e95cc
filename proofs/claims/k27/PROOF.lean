import PyProof.Rows.All
import Wide.All
import OpenK.AllK
import Wide.FinOn
import PyProof.ReprRoads
import HandS.ForMost
import HandS.DeepEq
import HandS.Ends
import HandS.Wide
import HandS.Codes
import KE.KEqNest
import HandS.Conv
import KE.SortData
import HandS.DictTup
import PyProof.DictUpdate
import KE.KItemsList
import KE.KDictSum
import HandS.Strs
import HandS.SetFor
import HandS.Style
import HandS.SortInts
import HandS.Lambda
import KE.KNest
import HandS.TupAny
import KE.KNestM
import HandS.EndBits
import HandS.SortKw
import KE.KSortKey
import HandS.Zip
import HandS.Walk
import KE.GoesMore
import KE.GoesEnum
import HandS.Iter
import KE.GoesNew
import HandS.Sort
import PyProof.SumWalkG
import HandS.TupMul
import PySem.Challenge.RW_nightstairs_k27_rows_put_together
set_option Elab.async false
set_option linter.all false
set_option maxRecDepth 100000
set_option pp.maxSteps 150
set_option pp.deepTerms false
set_option maxHeartbeats 8000000
/-! NsA: data as a whole over the abstract heap; its repr; its ==. -/
namespace Ns
open PySem PySem.Spec PyProof.Rows L2

/-- a key as data -/
def kD : Key → PyData
  | .inl i => .int i
  | .inr x => .str x

mutual
/-- the value x is the datum d -/
inductive DatV (K : PySem.W.Frag) (H : Hp) : V → PyData → Prop
  | non : DatV K H .non .none
  | bl (b : Bool) : DatV K H (.bl b) (.bool b)
  | int (i : Int) : DatV K H (.int i) (.int i)
  | str (x : Str) : DatV K H (.str x) (.str x)
  | lst {a : Addr} {xs : List V} {ds : List PyData} : SqL K H a xs → DatA K H xs ds → DatV K H (.ref a) (.list ds)
  | tup {a : Addr} {xs : List V} {ds : List PyData} : SqT K H a xs → DatA K H xs ds → DatV K H (.ref a) (.tuple ds)
  | dic {a : Addr} {kvs : List (Key × V)} {ds : List PyData} : H a = some (.dK kvs) → DatA K H (kvs.map (·.2)) ds → DatV K H (.ref a) (.dict ((kvs.map fun p => kD p.1).zip ds))
inductive DatA (K : PySem.W.Frag) (H : Hp) : List V → List PyData → Prop
  | nil : DatA K H [] []
  | cons {x : V} {d : PyData} {xs : List V} {ds : List PyData} : DatV K H x d → DatA K H xs ds → DatA K H (x :: xs) (d :: ds)
end

theorem DatA.len {K : PySem.W.Frag} {H : Hp} : ∀ {xs : List V} {ds : List PyData}, DatA K H xs ds → xs.length = ds.length
  | _, _, .nil => rfl
  | _, _, .cons _ t => by rw [List.length_cons, List.length_cons, t.len]

mutual
/-- what stood stands: the datum too -/
theorem DatV.more {K : PySem.W.Frag} {H H' : Hp} (m : Same H H') : ∀ {x : V} {d : PyData}, DatV K H x d → DatV K H' x d
  | _, _, .non => .non
  | _, _, .bl b => .bl b
  | _, _, .int i => .int i
  | _, _, .str x => .str x
  | _, _, .lst h t => .lst (m.seq h) (t.more m)
  | _, _, .tup h t => .tup (h.elim (fun z => .inl (z.elim (fun z => .inl (m _ _ z)) fun ⟨o, z⟩ => .inr ⟨o, m _ _ z⟩)) .inr) (t.more m)
  | _, _, .dic h t => .dic (m _ _ h) (t.more m)
theorem DatA.more {K : PySem.W.Frag} {H H' : Hp} (m : Same H H') : ∀ {xs : List V} {ds : List PyData}, DatA K H xs ds → DatA K H' xs ds
  | _, _, .nil => .nil
  | _, _, .cons h t => .cons (h.more m) (t.more m)
end

theorem map_fst_zip {α β : Type} : ∀ {as : List α} {bs : List β}, as.length = bs.length → (as.zip bs).map (·.1) = as
  | [], [], _ => rfl
  | a :: as, b :: bs, h => by
    have h' : as.length = bs.length := by simpa using h
    simp [map_fst_zip h']
theorem map_snd_zip {α β : Type} : ∀ {as : List α} {bs : List β}, as.length = bs.length → (as.zip bs).map (·.2) = bs
  | [], [], _ => rfl
  | a :: as, b :: bs, h => by
    have h' : as.length = bs.length := by simpa using h
    simp [map_snd_zip h']

section
variable {X : Cx} {pins : List (Addr × Obj)} {σ : L2.St} {H : Hp} {s : Shared}

/-- the keys of a dict's entries are read -/
theorem keys_read {h : Heap} {P : Program} {w : World} : ∀ {es : List DictEntry} {vs : List (Key × Value)}, Pairs (mixKind P w) es vs → ReadsAll h (es.map (·.key)) (vs.map fun p => kD p.1) []
  | _, _, .nil => .nil
  | e :: es, kv :: vs, .cons h1 _ t => by
    have q : Reads h e.key (kD kv.1) [] := by
      rcases keyIs_shape (show keyIs kv.1 e.key = true from h1) with ⟨i, t, ek, ev⟩ | ⟨x, t, ek, ev⟩
      · rw [ek, ev]; exact .int i t
      · rw [ek, ev]; exact .str x t
    exact ReadsAll.cons (as := []) (bs := []) q (keys_read t)
theorem pairs_vals {P : Program} {w : World} : ∀ {es : List DictEntry} {vs : List (Key × Value)}, Pairs (mixKind P w) es vs → es.map (·.val) = vs.map (·.2)
  | _, _, .nil => rfl
  | e :: es, kv :: vs, .cons _ h2 t => by
    rw [List.map_cons, List.map_cons, h2, pairs_vals t]
theorem kv_fst : ∀ {ks : List (Key × V)} {vs : List (Key × Value)}, KV ks vs → vs.map (fun p => kD p.1) = ks.map fun p => kD p.1
  | _, _, .nil => rfl
  | _, _, .cons h t => by rw [List.map_cons, List.map_cons, h.1, kv_fst t]
theorem kv_vals : ∀ {ks : List (Key × V)} {vs : List (Key × Value)}, KV ks vs → Vals (ks.map (·.2)) (vs.map (·.2))
  | _, _, .nil => .nil
  | _, _, .cons h t => .cons h.2 (kv_vals t)

mutual
/-- what the heap reads of it -/
theorem reads_of (I : Inv X pins σ H s) : ∀ {x : V} {d : PyData}, DatV X.K H x d → ∀ {v : Value}, RelV x v → ∃ as, Reads s.heap v d as
  | _, _, .non, v, r => by cases (show v = Value.none from r); exact ⟨_, .none⟩
  | _, _, .bl b, v, r => by cases (show v = Value.bool b from r); exact ⟨_, .bool b⟩
  | _, _, .int i, v, r => by obtain ⟨t, rfl⟩ := (show ∃ t, v = Value.int i t from r); exact ⟨_, .int i t⟩
  | _, _, .str x, v, r => by obtain ⟨t, rfl⟩ := (show ∃ t, v = Value.str x t from r); exact ⟨_, .str x t⟩
  | _, _, .lst (a := a) h t, v, r => by
    cases (show v = Value.ref a from r)
    obtain ⟨its, rv, ⟨o, n, h1, h2, h3, h4⟩, _⟩ := I.list h
    obtain ⟨as, q⟩ := readsA_of I t rv
    exact ⟨_, .list h1 h2 (by first | exact h3 | exact h4) (by simpa using q)⟩
  | _, _, .tup (a := a) h t, v, r => by
    cases (show v = Value.ref a from r)
    obtain ⟨its, rv, ⟨o, h1, h2, n, h3⟩, _⟩ := I.tuple h
    obtain ⟨as, q⟩ := readsA_of I t rv
    exact ⟨_, .tuple h1 h2 h3 (by simpa using q)⟩
  | _, _, .dic (a := a) (kvs := kvs) (ds := ds) h t, v, r => by
    cases (show v = Value.ref a from r)
    obtain ⟨_, _, vs, rv, o, es, ep, h1, h2, h3, _, h5, _⟩ := (show ObjOk X.prog X.w H s.heap a (.dK kvs) from I.hok a _ h)
    obtain ⟨as, q⟩ := readsA_of I t (kv_vals rv)
    have hl : (kvs.map fun p => kD p.1).length = ds.length := by
      have z := t.len
      rw [List.length_map] at z ⊢
      exact z
    refine ⟨_, Reads.dict (as := []) (bs := as) h1 h2.1 h3 ?_ ?_⟩
    · rw [map_fst_zip hl, ← kv_fst rv]
      exact keys_read h5
    · rw [map_snd_zip hl, pairs_vals h5]
      exact q
theorem readsA_of (I : Inv X pins σ H s) : ∀ {xs : List V} {ds : List PyData}, DatA X.K H xs ds → ∀ {us : List Value}, Vals xs us → ∃ as, ReadsAll s.heap us ds as
  | _, _, .nil, us, r => by cases r; exact ⟨_, .nil⟩
  | _, _, .cons h t, us, r => by
    cases r with
    | cons r1 r2 =>
      obtain ⟨as, q⟩ := reads_of I h r1
      obtain ⟨bs, q2⟩ := readsA_of I t r2
      exact ⟨_, .cons q q2⟩
end
end
end Ns

/-! NsB: repr of data. -/
namespace Ns
open PySem PySem.Spec PyProof.Rows L2
section
variable {X : Cx} {pins : List (Addr × Obj)} {σ : L2.St} {H : Hp} {s : Shared}

theorem zip_kv : ∀ {as : List Key} {ds : List PyData}, as.length = ds.length → ((as.map kD).zip ds).map (·.1) = as.map kD := fun {as ds} h => map_fst_zip (by rw [List.length_map]; exact h)

theorem kv_of_zip {α : Type} {f : α → PyData} {l : List α} {ds : List PyData} (h : l.length = ds.length) : (((l.map f).zip ds).map (·.1) = l.map f) ∧ (((l.map f).zip ds).map (·.2) = ds) :=
  ⟨map_fst_zip (by rw [List.length_map]; exact h), map_snd_zip (by rw [List.length_map]; exact h)⟩

/-- keys show themselves, whatever stands -/
theorem keys_shown {P : Program} {w : World} {h : Heap} {n : Nat} : ∀ {es : List DictEntry} {vs : List (Key × Value)}, Pairs (mixKind P w) es vs → (∀ p ∈ vs, (kD p.1).showable = true ∧ (kD p.1).shown.length ≤ sizeLine) →
    ReprAllK P w [] h n (es.map (·.key)) (PyData.shownAll (vs.map fun p => kD p.1))
  | _, _, .nil, _ => by simp only [List.map_nil, PyData.shownAll]; exact .nil
  | e :: es, kv :: vs, .cons h1 _ t, hz => by
    rw [List.map_cons, List.map_cons, PyData.shownAll_cons]
    obtain ⟨z1, z2⟩ := hz kv List.mem_cons_self
    refine .cons (ReprK.of_is ?_ _ _ _) (keys_shown t fun p hp => hz p (List.mem_cons_of_mem _ hp))
    rcases keyIs_shape (show keyIs kv.1 e.key = true from h1) with ⟨i, tk, ek, ev⟩ | ⟨x, tk, ek, ev⟩
    · rw [ek] at z1 ⊢
      rw [ev]
      show ReprIs P w _ (PyData.int i).shown
      rw [PyData.shown_int]
      exact ReprIs.int tk (of_decide_eq_true (by simpa [kD, PyData.showable] using z1))
    · rw [ek] at z2 ⊢
      rw [ev]
      show ReprIs P w _ (PyData.str x).shown
      have z2' : (PyData.str x).shown.length ≤ sizeLine := z2
      rw [PyData.shown_str] at z2' ⊢
      exact ReprIs.str x tk z2'

theorem all_of : ∀ {l : List PyData}, PyData.showableAll l = true → ∀ d ∈ l, d.showable = true
  | [], _, _, hd => nomatch hd
  | x :: l, h, d, hd => by
    have h' : x.showable = true ∧ PyData.showableAll l = true := by simpa [PyData.showableAll] using h
    rcases List.mem_cons.mp hd with e | e
    · rw [e]; exact h'.1
    · exact all_of h'.2 d e
theorem shown_mem : ∀ {l : List PyData} {d : PyData}, d ∈ l → d.shown ∈ PyData.shownAll l
  | [], _, h => nomatch h
  | x :: l, d, h => by
    rw [PyData.shownAll_cons]
    rcases List.mem_cons.mp h with e | e
    · rw [e]; exact List.mem_cons_self
    · exact List.mem_cons_of_mem _ (shown_mem e)

mutual
theorem reprK_of (I : Inv X pins σ H s) : ∀ {x : V} {d : PyData}, DatV X.K H x d → ∀ {v : Value}, RelV x v → d.showable = true → d.shown.length ≤ sizeLine →
    ∃ bs, ReadAtMost s.heap d.depth bs ∧ ReprK X.prog X.w bs s.heap d.depth v d.shown
  | _, _, .non, v, r, _, _ => by
    cases (show v = Value.none from r)
    exact ⟨[], (fun _ z => nomatch z), by rw [PyData.shown_none]; exact .of_is ReprIs.none _ _ _⟩
  | _, _, .bl b, v, r, _, _ => by
    cases (show v = Value.bool b from r)
    refine ⟨[], (fun _ z => nomatch z), ?_⟩
    simp only [PyData.shown]
    exact .of_is (ReprIs.bool b) _ _ _
  | _, _, .int i, v, r, hs, _ => by
    obtain ⟨t, rfl⟩ := (show ∃ t, v = Value.int i t from r)
    refine ⟨[], (fun _ z => nomatch z), ?_⟩
    rw [PyData.shown_int]
    exact .of_is (ReprIs.int t (by simpa [PyData.showable] using hs)) _ _ _
  | _, _, .str x, v, r, _, hz => by
    obtain ⟨t, rfl⟩ := (show ∃ t, v = Value.str x t from r)
    refine ⟨[], (fun _ z => nomatch z), ?_⟩
    rw [PyData.shown_str] at hz ⊢
    exact .of_is (ReprIs.str x t hz) _ _ _
  | _, _, .lst (a := a) (ds := ds) h t, v, r, hs, hz => by
    cases (show v = Value.ref a from r)
    have hz1 : (listText (PyData.shownAll ds)).length ≤ sizeLine := by simpa only [PyData.shown] using hz
    have hs1 : PyData.showableAll ds = true := by simpa [PyData.showable] using hs
    obtain ⟨as, rd⟩ := reads_of I (.lst h t) (v := .ref a) rfl
    obtain ⟨its, rv, ⟨o, n, h1, h2, h3, h4⟩, _⟩ := I.list h
    have h5 : o.data = .seq its.toArray n := by first | exact h3 | exact h4
    obtain ⟨bs, hb, hk⟩ := reprA_of I t rv hs1 fun u hu => Nat.le_trans (listText_mem_le hu) hz1
    have dp : (PyData.list ds).depth = PyData.depthAll ds + 1 := by simp only [PyData.depth] <;> omega
    have hna : a ∉ bs := not_mem_of_deeper rd (by rw [dp]; omega) hb
    refine ⟨a :: bs, ReadAtMost.cons rd (by rw [dp]; omega) hb, ?_⟩
    rw [dp]
    simp only [PyData.shown]
    cases its with
    | nil =>
      have e0 : PyData.shownAll ds = [] := List.length_eq_zero_iff.mp (by simpa using hk.length_eq)
      rw [e0, listText_nil]
      exact ReprK.listEmpty h1 h2 h5
    | cons y l => exact ReprK.list h1 h2 h5 hna (by simpa using hk.length_eq) fun i u e => hk.item i u (by simpa using e)
  | _, _, .tup (a := a) (ds := ds) h t, v, r, hs, hz => by
    cases (show v = Value.ref a from r)
    have hz1 : (tupleText (PyData.shownAll ds)).length ≤ sizeLine := by simpa only [PyData.shown] using hz
    have hs1 : PyData.showableAll ds = true := by simpa [PyData.showable] using hs
    obtain ⟨as, rd⟩ := reads_of I (.tup h t) (v := .ref a) rfl
    obtain ⟨its, rv, ⟨o, h1, h2, n, h3⟩, _⟩ := I.tuple h
    obtain ⟨bs, hb, hk⟩ := reprA_of I t rv hs1 fun u hu => Nat.le_trans (tupleText_mem_le hu) hz1
    have dp : (PyData.tuple ds).depth = PyData.depthAll ds + 1 := by simp only [PyData.depth] <;> omega
    have hna : a ∉ bs := not_mem_of_deeper rd (by rw [dp]; omega) hb
    refine ⟨a :: bs, ReadAtMost.cons rd (by rw [dp]; omega) hb, ?_⟩
    rw [dp]
    simp only [PyData.shown]
    exact ReprK.tuple h1 h2 h3 hna (by simpa using hk)
  | _, _, .dic (a := a) (kvs := kvs) (ds := ds) h t, v, r, hs, hz => by
    cases (show v = Value.ref a from r)
    have hl : kvs.length = ds.length := by
      have z := t.len
      rw [List.length_map] at z
      exact z
    obtain ⟨e1, e2⟩ := kv_of_zip (f := fun p : Key × V => kD p.1) (l := kvs) hl
    have hz1 : (dictText (PyData.shownKv ((kvs.map fun p => kD p.1).zip ds))).length ≤ sizeLine := by simpa only [PyData.shown] using hz
    have hs1 : PyData.showableKv ((kvs.map fun p => kD p.1).zip ds) = true := by simpa [PyData.showable] using hs
    obtain ⟨s1, s2⟩ := PyData.showableKv_split _ hs1
    rw [e1] at s1
    rw [e2] at s2
    obtain ⟨as, rd⟩ := reads_of I (.dic h t) (v := .ref a) rfl
    obtain ⟨_, hsy, vs, rv, o, es, ep, h1, h2, h3, _, h5, _⟩ := (show ObjOk X.prog X.w H s.heap a (.dK kvs) from I.hok a _ h)
    have vl : ∀ u ∈ PyData.shownAll ds, u.length ≤ sizeLine := fun u hu => by
      obtain ⟨p, hp, hq⟩ := PyData.shownKv_val_le _ u (by rw [e2]; exact hu)
      exact Nat.le_trans hq (Nat.le_trans (dictText_mem_le hp) hz1)
    have kl : ∀ u ∈ PyData.shownAll (kvs.map fun p => kD p.1), u.length ≤ sizeLine := fun u hu => by
      obtain ⟨p, hp, hq⟩ := PyData.shownKv_key_le _ u (by rw [e1]; exact hu)
      exact Nat.le_trans hq (Nat.le_trans (dictText_mem_le hp) hz1)
    obtain ⟨bs, hb, hk⟩ := reprA_of I t (kv_vals rv) s2 vl
    have kk : ReprAllK X.prog X.w [] s.heap (PyData.depthKv ((kvs.map fun p => kD p.1).zip ds)) (es.toList.map (·.key)) (PyData.shownAll (kvs.map fun p => kD p.1)) := by
      rw [← kv_fst rv]
      refine keys_shown h5 fun p hp => ?_
      have hm : kD p.1 ∈ kvs.map fun p => kD p.1 := by
        rw [← kv_fst rv]
        exact List.mem_map.mpr ⟨p, hp, rfl⟩
      exact ⟨all_of s1 _ hm, kl _ (shown_mem hm)⟩
    have dv : PyData.depthAll ds ≤ PyData.depthKv ((kvs.map fun p => kD p.1).zip ds) := by
      have z := PyData.depthAll_vals_le ((kvs.map fun p => kD p.1).zip ds)
      rw [e2] at z
      exact z
    have hb2 : ReadAtMost s.heap (PyData.depthKv ((kvs.map fun p => kD p.1).zip ds)) bs := hb.mono dv
    have dp : (PyData.dict ((kvs.map fun p => kD p.1).zip ds)).depth = PyData.depthKv ((kvs.map fun p => kD p.1).zip ds) + 1 := by simp only [PyData.depth] <;> omega
    have hna : a ∉ bs := not_mem_of_deeper rd (by rw [dp]; omega) hb2
    refine ⟨a :: bs, ReadAtMost.cons rd (by rw [dp]; omega) hb2, ?_⟩
    rw [dp]
    simp only [PyData.shown, PyData.shownKv_eq]
    rw [e1, e2]
    refine ReprK.dict h1 h2.1 h3 hsy hna (ReprEntriesK.of_two es.toList _ _ (kk.more_le (fun b z => absurd z List.not_mem_nil) (Nat.le_refl _)) ?_)
    rw [pairs_vals h5]
    exact hk.more_le (fun b z => z) dv
theorem reprA_of (I : Inv X pins σ H s) : ∀ {xs : List V} {ds : List PyData}, DatA X.K H xs ds → ∀ {us : List Value}, Vals xs us → PyData.showableAll ds = true → (∀ t ∈ PyData.shownAll ds, t.length ≤ sizeLine) →
    ∃ bs, ReadAtMost s.heap (PyData.depthAll ds) bs ∧ ReprAllK X.prog X.w bs s.heap (PyData.depthAll ds) us (PyData.shownAll ds)
  | _, _, .nil, us, r, _, _ => by
    cases r
    exact ⟨[], (fun _ z => nomatch z), by simp only [PyData.shownAll]; exact .nil⟩
  | _, _, .cons (d := d) (ds := ds) h t, us, r, hs, hz => by
    cases r with
    | cons r1 r2 =>
      have hs1 : d.showable = true ∧ PyData.showableAll ds = true := by simpa [PyData.showableAll] using hs
      rw [PyData.shownAll_cons] at hz ⊢
      obtain ⟨b1, g1, k1⟩ := reprK_of I h r1 hs1.1 (hz _ List.mem_cons_self)
      obtain ⟨b2, g2, k2⟩ := reprA_of I t r2 hs1.2 fun u hu => hz u (List.mem_cons_of_mem _ hu)
      have dp : PyData.depthAll (d :: ds) = max d.depth (PyData.depthAll ds) := by simp only [PyData.depthAll]
      refine ⟨b1 ++ b2, ?_, ?_⟩
      · rw [dp]
        exact (g1.mono (Nat.le_max_left _ _)).append (g2.mono (Nat.le_max_right _ _))
      · rw [dp]
        exact .cons ((k1.more fun b z => List.mem_append_left _ z).level_le (Nat.le_max_left _ _)) (k2.more_le (fun b z => List.mem_append_right _ z) (Nat.le_max_right _ _))
end
theorem dict_entries (I : Inv X pins σ H s) {a : Addr} {kvs : List (Key × V)} {ds : List PyData} {vs : List (Key × Value)} {o : Obj} {es : Array DictEntry} {ep : Nat} (h : H a = some (.dK kvs)) (t : DatA X.K H (kvs.map (·.2)) ds)
    (hs : (PyData.dict ((kvs.map fun p => kD p.1).zip ds)).showable = true) (hz : (PyData.dict ((kvs.map fun p => kD p.1).zip ds)).shown.length ≤ sizeLine) (h1 : s.heap.get? a = some o) (h3 : o.data = .dict es ep)
    (h5 : Pairs (mixKind X.prog X.w) es.toList vs) (rv : KV kvs vs) :
    ∃ n bs, a ∉ bs ∧ ReprEntriesK X.prog X.w bs s.heap n es.toList (PyData.shownKv ((kvs.map fun p => kD p.1).zip ds)) ∧ n + 1 ≤ (PyData.dict ((kvs.map fun p => kD p.1).zip ds)).depth := by
  have hl : kvs.length = ds.length := by
    have z := t.len
    rw [List.length_map] at z
    exact z
  obtain ⟨e1, e2⟩ := kv_of_zip (f := fun p : Key × V => kD p.1) (l := kvs) hl
  have hz1 : (dictText (PyData.shownKv ((kvs.map fun p => kD p.1).zip ds))).length ≤ sizeLine := by simpa only [PyData.shown] using hz
  have hs1 : PyData.showableKv ((kvs.map fun p => kD p.1).zip ds) = true := by simpa [PyData.showable] using hs
  obtain ⟨s1, s2⟩ := PyData.showableKv_split _ hs1
  rw [e1] at s1
  rw [e2] at s2
  obtain ⟨as, rd⟩ := reads_of I (.dic h t) (v := .ref a) rfl
  obtain ⟨bs, hb, hk⟩ := reprA_of I t (kv_vals rv) s2 fun u hu => by
    obtain ⟨p, hp, hq⟩ := PyData.shownKv_val_le _ u (by rw [e2]; exact hu)
    exact Nat.le_trans hq (Nat.le_trans (dictText_mem_le hp) hz1)
  have kk : ReprAllK X.prog X.w [] s.heap (PyData.depthKv ((kvs.map fun p => kD p.1).zip ds)) (es.toList.map (·.key)) (PyData.shownAll (kvs.map fun p => kD p.1)) := by
    rw [← kv_fst rv]
    refine keys_shown h5 fun p hp => ?_
    have hm : kD p.1 ∈ kvs.map fun p => kD p.1 := by
      rw [← kv_fst rv]
      exact List.mem_map.mpr ⟨p, hp, rfl⟩
    obtain ⟨y, hy, hq⟩ := PyData.shownKv_key_le _ _ (by rw [e1]; exact shown_mem hm)
    exact ⟨all_of s1 _ hm, Nat.le_trans hq (Nat.le_trans (dictText_mem_le hy) hz1)⟩
  have dv : PyData.depthAll ds ≤ PyData.depthKv ((kvs.map fun p => kD p.1).zip ds) := by
    have z := PyData.depthAll_vals_le ((kvs.map fun p => kD p.1).zip ds)
    rw [e2] at z
    exact z
  have dp : (PyData.dict ((kvs.map fun p => kD p.1).zip ds)).depth = PyData.depthKv ((kvs.map fun p => kD p.1).zip ds) + 1 := by simp only [PyData.depth] <;> omega
  have hna : a ∉ bs := not_mem_of_deeper rd (by rw [dp]; omega) (hb.mono dv)
  refine ⟨_, bs, hna, ?_, Nat.le_of_eq dp.symm⟩
  rw [PyData.shownKv_eq, e1, e2]
  refine ReprEntriesK.of_two es.toList _ _ (kk.more_le (fun b z => absurd z List.not_mem_nil) (Nat.le_refl _)) ?_
  rw [pairs_vals h5]
  exact hk.more_le (fun b z => z) dv
end
end Ns

/-! NsC: the call of repr; == of equal data. -/
namespace Ns
open PySem PySem.Spec PyProof.Rows L2
section
variable {X : Cx} {pins : List (Addr × Obj)} {σ : L2.St} {H : Hp} {s : Shared}

theorem repr_run (I : Inv X pins σ H s) {A : Around} (hg : A.guards = some []) {x : V} {d : PyData} (D : DatV X.K H x d) {v : Value} (r : RelV x v) (hs : d.showable = true) (hz : d.shown.length ≤ sizeLine) (hu : A.units + (d.depth + 2) < cLine)
    {E Q : Value → Shared → Prop} (q : ∀ h' u tk, (∀ b o, s.heap.get? b = some o → h'.get? b = some o) → Q (.str d.shown u) { s with heap := h', toks := tk }) :
    wpAny (model X.prog X.w) A (call (.builtin "repr") [v]) Q E s := by
  cases D with
  | non =>
    cases (show v = Value.none from r)
    rw [PyData.shown_none] at q
    exact PySem.P.repr_of_none (q s.heap _ _ fun _ _ e => e)
  | bl b =>
    cases (show v = Value.bool b from r)
    rw [PyData.shown_bool] at q
    exact PySem.P.repr_of_bool (q s.heap _ _ fun _ _ e => e)
  | int i =>
    obtain ⟨t, rfl⟩ := (show ∃ t, v = Value.int i t from r)
    rw [PyData.shown_int] at q
    exact PySem.P.repr_of_int (of_decide_eq_true (by simpa [PyData.showable] using hs)) (q s.heap _ _ fun _ _ e => e)
  | str y =>
    obtain ⟨t, rfl⟩ := (show ∃ t, v = Value.str y t from r)
    rw [PyData.shown_str] at q hz
    exact PySem.P.repr_of_str (q s.heap _ _ fun _ _ e => e) hz
  | @lst a xs ds h t =>
    cases (show v = Value.ref a from r)
    have hz1 : (listText (PyData.shownAll ds)).length ≤ sizeLine := by simpa only [PyData.shown] using hz
    have hs1 : PyData.showableAll ds = true := by simpa [PyData.showable] using hs
    obtain ⟨as, rd⟩ := reads_of I (.lst h t) (v := .ref a) rfl
    obtain ⟨its, rv, ⟨o, n, h1, h2, h3, h4⟩, _⟩ := I.list h
    have h5 : o.data = .seq its.toArray n := by first | exact h3 | exact h4
    obtain ⟨bs, hb, hk⟩ := reprA_of I t rv hs1 fun u hu => Nat.le_trans (listText_mem_le hu) hz1
    have dp : (PyData.list ds).depth = PyData.depthAll ds + 1 := by simp only [PyData.depth] <;> omega
    have hna : a ∉ bs := not_mem_of_deeper rd (by rw [dp]; omega) hb
    simp only [PyData.shown] at q
    rw [dp] at hu
    refine call_repr_slot (by omega) ⟨o, h1, h2⟩ F.slot_list_repr.toG ?_
    cases its with
    | nil =>
      have e0 : PyData.shownAll ds = [] := List.length_eq_zero_iff.mp (by simpa using hk.length_eq)
      rw [e0, listText_nil] at q
      exact call_list_repr_empty ⟨o, h1, h2⟩ h1 h5 ⟨_, _, rfl, q s.heap _ _ fun _ _ e => e⟩
    | cons y l =>
      exact call_list_reprK (A := A.in1) (g := []) h1 h2 h5 hna (by simpa using hk.length_eq) (fun i u e => hk.item i u (by simpa using e)) hg (fun b _ => Clear.nil b) (by show A.units + 1 + _ < _; omega) (fun _ _ e => e)
        (fun h' u tk k => ⟨_, _, rfl, q h' u tk k⟩) hz1
  | @tup a xs ds h t =>
    cases (show v = Value.ref a from r)
    have hz1 : (tupleText (PyData.shownAll ds)).length ≤ sizeLine := by simpa only [PyData.shown] using hz
    have hs1 : PyData.showableAll ds = true := by simpa [PyData.showable] using hs
    obtain ⟨as, rd⟩ := reads_of I (.tup h t) (v := .ref a) rfl
    obtain ⟨its, rv, ⟨o, h1, h2, n, h3⟩, _⟩ := I.tuple h
    obtain ⟨bs, hb, hk⟩ := reprA_of I t rv hs1 fun u hu => Nat.le_trans (tupleText_mem_le hu) hz1
    have dp : (PyData.tuple ds).depth = PyData.depthAll ds + 1 := by simp only [PyData.depth] <;> omega
    have hna : a ∉ bs := not_mem_of_deeper rd (by rw [dp]; omega) hb
    simp only [PyData.shown] at q
    rw [dp] at hu
    refine call_repr_slot (by omega) ⟨o, h1, h2⟩ F.slot_tuple_repr ?_
    exact call_tuple_reprK (A := A.in1) (g := []) h1 h2 h3 hna (by simpa using hk) hg (fun b _ => Clear.nil b) (by show A.units + 1 + _ < _; omega) (fun _ _ e => e)
      (fun h' u tk k => ⟨_, _, rfl, q h' u tk k⟩) hz1
  | @dic a kvs ds h t =>
    cases (show v = Value.ref a from r)
    obtain ⟨_, hsy, vs, rv, o, es, ep, h1, h2, h3, _, h5, _⟩ := (show ObjOk X.prog X.w H s.heap a (.dK kvs) from I.hok a _ h)
    obtain ⟨n, bs, hna, hE, hd⟩ := dict_entries I h t hs hz h1 h3 h5 rv
    simp only [PyData.shown] at q hz
    refine call_repr_slot (by omega) ⟨o, h1, h2.1⟩ F.slot_dict_repr ?_
    exact call_dict_reprK (A := A.in1) (g := []) h1 h2.1 h3 hsy hna hE hg (fun b _ => Clear.nil b) (by show A.units + 1 + _ < _; omega) (fun _ _ e => e)
      (fun h' u tk k => ⟨_, _, rfl, q h' u tk k⟩) hz

/-- repr(x), x data -/
def rRep (K : PySem.W.Frag) : List V → Hp → VK → Prop := fun xs H Q => ∃ x d, xs = [x] ∧ DatV K H x d ∧ d.showable = true ∧ d.shown.length ≤ sizeLine ∧ d.depth ≤ 60 ∧ Q (.str d.shown) H
theorem call_reprD (hg : X.A.guards = some []) (hu : X.A.units + 64 < cLine) : CallR X (.builtin "repr") (rRep X.K) := by
  intro pins s σ H xs us Q I r h
  obtain ⟨x, d, rfl, D, hs, hz, hd, q⟩ := h
  obtain ⟨u, rfl, r1⟩ := vals1 r
  exact repr_run I hg D r1 hs hz (by omega) fun h' u tk k => ⟨.str d.shown, H, I.kept (t' := tk) k, ⟨u, rfl⟩, q⟩
end
end Ns

/-! NsG: defs that are called where no repr is under way (the guards are known to be none); xs[i] op= e of a list; the end of a law over such a def. -/
namespace Ns
open PySem PySem.Spec PyProof.Rows L2

/-- as FnOk, for calls with no guard around -/
structure GnOk (P : Program) (w : World) (K : PySem.W.Frag) (mg : Str → Option Value) (base : Heap) (k : Nat) (f : Addr) (fd : FuncData) (ps : List Str) (sp : Sp) : Prop where
  glen : ∀ as H Q E, sp as H Q E → as.length = ps.length
  grun : ∀ (A : Around) (outer : List Env) (s : Shared) (H : Hp) (args : Args) (us : List Value) (as : List V) (Q : VK) (E : XK), Room k A → A.guards = some [] → Env0 P w K mg base A outer s H →
    BindsTo s fd args (ps.zip us) → Vals as us → sp as H Q E → codeAny (model P w) A (.call (.ref f) args) (CR CX0 outer P w H s Q E) s
theorem FnOk.guarded {P : Program} {w : World} {K : PySem.W.Frag} {mg : Str → Option Value} {base : Heap} {k : Nat} {f : Addr} {fd : FuncData} {ps : List Str} {sp : Sp} (F : FnOk P w K mg base CX0 k f fd ps sp) : GnOk P w K mg base k f fd ps sp :=
  ⟨F.len, fun A outer s H args us as Q E hr _ e b v h => F.run A outer s H args us as Q E hr e b v h⟩

section
variable {X : Cx} {k : Nat} {f : Addr} {fd : FuncData} {ps : List Str} {sp : Sp} {x : Str} {p pos : Pos} {e : Expr} {es : List Expr} {t : TA}
theorem run_g {pins : List (Addr × Obj)} {σ : L2.St} {H : Hp} {s : Shared} {Q : VK} {us : List Value} {as : List V} (F : GnOk X.prog X.w X.K X.mg X.base k f fd ps sp) (hr : Room k X.A) (hgd : X.A.guards = some []) (hb : Binds X.K fd ps [])
    (I : Inv X pins σ H s) (r : Vals as us) (h : sp as H Q E0) : wpAny (model X.prog X.w) X.A (call (.ref f) us) (EP X pins σ Q) X.xe s := by
  have hl : us.length = ps.length := r.length.symm.trans (F.glen _ _ _ _ h)
  have bb := hb s us I.kIn (by rw [List.append_nil]; exact hl)
  rw [List.append_nil] at bb
  refine wpAny_call (codeAny_mono (F.grun X.A X.stack s H ⟨us, []⟩ us as Q E0 hr hgd I.env0 bb r h) fun z s' hz => ?_)
  match z, hz with
  | .error _, hz => exact (show False from hz).elim
  | .ok (.ret u), hz => exact I.after hz
  | .ok .next, hz => exact (show False from hz).elim
  | .ok .brk, hz => exact (show False from hz).elim
  | .ok .cont, hz => exact (show False from hz).elim
theorem pe_callG (F : GnOk X.prog X.w X.K X.mg X.base k f fd ps sp) (hr : Room k X.A) (hgd : X.A.guards = some []) (hg : Gl X x) (hm : X.mg x = some (.ref f)) (hk : PySem.W.keepIn X.K (.ref f) = true) (hb : Binds X.K fd ps [])
    (ha : PA X (e :: es) t) (hdb : (x == ("__debug__" : Str)) = false := by decide) (he : starEach (e :: es) X.env = (false, eval e X.env) :: starEach es X.env := by rfl) (hpl : (backTo pos (starEach es X.env)).any (·.1) = false := by rfl) :
    PE X (.Call (.Name x p) (e :: es) [] pos) (tCall sp [] E0 t) :=
  ⟨fun pins s σ H Q I h => wpAny_Call_Name_kw (ld_glob I hg hm (PySem.W.callWith_K (h₀ := X.base) I.ok.mod.kin hk (thn (ha.run pos pins s σ H _ I h) fun us s1 ⟨as, H1, I1, r, q⟩ => ⟨I1.kIn, run_g F hr hgd hb I1 r (by have q' : sp (as ++ []) H1 Q E0 := q; rw [List.append_nil] at q'; exact q')⟩) he hpl) hdb)⟩
end

/-- the def by its body: the guards are known within -/
theorem Fun.okG {P : Program} {w : World} {K : PySem.W.Frag} {mg : Str → Option Value} {base : Heap} {x qual : Str} {st : Stmt} {f : Addr} {fd : FuncData} {N ps : List Str} {k : Nat} {sp : Sp} (F : Fun K x qual st f fd) (S : FnScope N ps (defScope st))
    (len : ∀ as H Q E, sp as H Q E → as.length = ps.length)
    (body : ∀ (cdv : Value) (A : Around) (outer : List Env) (s : Shared) (H : Hp) (as : List V) (Q : VK) (E : XK), Room k (A.deeper (envOfC qual (defScope st) s.heap.objs.size f cdv)) → (A.deeper (envOfC qual (defScope st) s.heap.objs.size f cdv)).guards = some [] → sp as H Q E →
      ∃ t, PSs (cxOf CX0 P w K mg base N qual (defScope st) f cdv A outer s H E).nox (defBody st) t ∧ t { nx := fun _ H' => Q .non H', rt := Q } (start N as) H) : GnOk P w K mg base (k + 1) f fd ps sp := by
  obtain ⟨oc, od, kV, doc, pm, an, cdv, ct, osl, rfl, lk, hcd⟩ := F.ex
  refine ⟨len, fun A outer s H args us as Q E hr hgd e0 hb r hsp => ?_⟩
  have old : ∀ b o, base.get? b = some o → s.heap.get? b = some o := fun b o z => (e0.bs b o z).1
  have kin : K.In s.heap := e0.mod.kin.keeps old
  refine codeAny_call_function hr.depth (kin _ _ lk) rfl S.co S.gen rfl (PySem.W.codeRec_of kin hcd) (hb _ _ _ _ (wpAny_newFunctionEnv_cells S.kind (fun y hy => ?_) fun env he s1 x => ?_))
  · have hm := (List.of_mem_zip (show (y.1, y.2) ∈ ps.zip us from hy)).1
    exact (S.par y.1 hm).imp (fun z => z) fun z => ⟨z, PySem.W.cellsFrom_some _ _ _ (.inl z)⟩
  · cases he
    refine ⟨(e0.mod.nolimit.keeps old).keeps x.toInCall.keep, codeAny_func ?_⟩
    obtain ⟨t, ht, hq⟩ := body cdv A outer s H as Q E (hr.deeper _) hgd hsp
    have J := inv_start (CX := CX0) (E := E) S hr.hd e0 (len _ _ _ _ hsp) r x
    refine wpAny_mono (ht.nox.run [] s1 (start N as) H _ J hq) (fun fl s' hs => ?_) fun e s' hs => hs
    match fl, hs with
    | .ret u, ⟨v, _, H', J', rv, q⟩ => exact ⟨v, H', J'.os, J'.bare, J'.base, J'.hok, rv, q⟩
    | .next, ⟨_, H', J', q⟩ => exact ⟨V.non, H', J'.os, J'.bare, J'.base, J'.hok, rfl, q⟩
    | .brk, ⟨_, _, _, q⟩ => exact (show False from q).elim
    | .cont, ⟨_, _, _, q⟩ => exact (show False from q).elim
end Ns

/-! NsH: the end of a law over a guarded def; xs[i] op= e. -/
namespace Ns
open PySem PySem.Spec PyProof.Rows L2

/-- what a law's def promises: of a list of ints, True -/
def spTop (K : PySem.W.Frag) : Sp := fun as H Q _ => ∃ (a : Addr) (ns : List Int), as = [.ref a] ∧ SqL K H a (ns.map V.int) ∧ ns.length ≤ 63 ∧ ∀ H', Q (.bl true) H'

/-- the abstract heap at the entry: the script at a alone, unless it is a written object -/
theorem entry_core {P : Program} {w : World} {K : PySem.W.Frag} {mg mb : Str → Option Value} {k : Nat} {fa a : Addr} {fd : FuncData} {s : Shared} {vs : List Value} {ns : List Int} (kin : K.In s.heap) (gl : s.heap.Ns mainGlobals mg)
    (bl : s.heap.Ns builtinsNs mb) (bb : ∀ x : Str, x ≠ "__name__" → mb x = bootBuiltins x) (nl : s.heap.NoLimit) (ge : s.gens = #[]) (sc : s.heap.get? a = some { cls := .type "list", data := .seq vs.toArray }) (l63 : ns.length ≤ 63)
    (hr : Room k callerA) (F : ∀ base : Heap, K.In base → base.Ns mainGlobals mg → GnOk P w K mg base k fa fd ["script"] (spTop K)) (bd : ∀ (z : Shared) (u : Value), BindsTo z fd ⟨[u], []⟩ [("script", u)])
    (H : Hp) (only : ∀ b o, H b = some o → b = a ∧ ∃ ob xs, o = .frz ob (.lst xs)) (free : H a ≠ none → K.lookup a = none) (hok : HOk P w H s.heap) (sq : SqL K H a (ns.map V.int)) :
    codeAny (model P w) callerA (.call (.ref fa) ⟨[.ref a], []⟩) (fun r s' => r = .ok (.ret (.bool true)) ∧ OldK s.heap s'.heap ∧ s'.os = s.os ∧ AllBare s'.gens) s := by
  have noD : ∀ {b : Addr} {o : Obj} {es : Array DictEntry} {n : Nat}, s.heap.get? b = some o → o.data = .dict es n → H b = none := by
    intro b o es n e d
    cases q : H b with
    | none => rfl
    | some u =>
      obtain ⟨rfl, _⟩ := only b u q
      rw [sc] at e
      cases e
      cases d
  have ns' : ∀ {b : Addr} {m : Str → Option Value}, s.heap.Ns b m → (hidT s.heap H).Ns b m := by
    rintro b m ⟨o, es, n, e, d, r⟩
    exact ⟨o, es, n, hidT_get e (noD e d), d, r⟩
  have kin' : K.In (hidT s.heap H) := by
    intro b o e
    refine hidT_get (kin b o e) ?_
    cases q : H b with
    | none => rfl
    | some u =>
      obtain ⟨rfl, _⟩ := only b u q
      rw [free (by rw [q]; exact fun z => nomatch z)] at e
      cases e
  have md : Mod K mg (hidT s.heap H) := by
    obtain ⟨mc, n1, n2⟩ := nl
    exact { kin := kin', glob := ns' gl, blt := ⟨mb, ns' bl, bb⟩, nolimit := ⟨mc, ns' n1, n2⟩ }
  have e0 : Env0 P w K mg (hidT s.heap H) callerA [] s H :=
    { frames := rfl, mod := md, bs := fun b o e => of_hidT e, bsz := Nat.le_of_eq (hidT_size _ _), funs := trivial, frf := fun b hb => (List.not_mem_nil hb).elim, hok := hok, bare := .of_eq ge }
  have run := (F _ kin' (ns' gl)).grun callerA [] s H ⟨[.ref a], []⟩ [.ref a] [.ref a] (fun v _ => v = .bl true) E0 hr rfl e0 (bd s (.ref a)) (.cons rfl .nil) ⟨a, ns, rfl, sq, l63, fun _ => rfl⟩
  refine codeAny_mono run fun r s' h => ?_
  match r, h with
  | .error _, h => exact (show False from h).elim
  | .ok .next, h => exact (show False from h).elim
  | .ok .brk, h => exact (show False from h).elim
  | .ok .cont, h => exact (show False from h).elim
  | .ok (.ret u), ⟨v, H', o', bare, un, hok', rv, q⟩ =>
    have q' : v = .bl true := q
    rw [q'] at rv
    have eu : u = Value.bool true := rv
    rw [eu]
    refine ⟨rfl, OldK.of_keep fun b o e => ?_, o', bare⟩
    cases z : H b with
    | none => exact un.keep b o e z (fun y => List.not_mem_nil y) List.not_mem_nil
    | some u' =>
      obtain ⟨_, ob, xs, rfl⟩ := only b u' z
      have h1 : s.heap.get? b = some ob := (hok b _ z).1
      have h2 : s'.heap.get? b = some ob := (hok' b _ (un.frzs b ob _ z)).1
      rw [e] at h1
      cases h1
      exact h2

theorem walk_ofG {l : PySem.W.OpenLaw} {k : Nat} {q : Program} {loose : List Str} {XP : (Str → Option Value) → Heap → Prop} {YP : World → Heap → Prop} {d : DefRec} {K : Params → PySem.W.Frag} (hn : l.most = some 63) (hdf : d.params.defaults = []) (hr : Room k callerA)
    (hY : ∀ (w : World) (h : Heap), YP w h → (K w.params).In h)
    (F : ∀ (w : World) (mg : Str → Option Value) (fa : Addr) (h : Heap), (K w.params).In h → h.Ns mainGlobals mg → mg d.name = some (.ref fa) →
      ∃ fd : FuncData, (∀ (z : Shared) (u : Value), BindsTo z fd ⟨[u], []⟩ [("script", u)]) ∧ ∀ base : Heap, (K w.params).In base → base.Ns mainGlobals mg → GnOk l.prog w (K w.params) mg base k fa fd ["script"] (spTop (K w.params))) :
    PySem.W.WalkO q loose XP YP l.row.toRowW d [] (fun f vs => PySem.call f vs) := by
  refine Att.attach_call hn hdf ?_
  intro w s0 s mg mb fa o pm cd doc a vs ns G Y ho hd hcd hmg hobj hints hlen hg
  obtain ⟨fd, bd, hF⟩ := F w mg fa _ (hY w _ Y) G.T.g hmg
  have rv := vals_ints hints
  have hz : (ns.map V.int).length ≤ sizeLine := by
    rw [List.length_map]
    exact Nat.le_trans hlen (by decide)
  have go := entry_core (P := l.prog) (w := w) (a := a) (ns := ns) (hY w _ Y) G.T.g G.T.b G.T.builtins G.T.nolimit hg hobj hlen hr hF bd
  cases hk : (K w.params).lookup a with
  | some ok =>
    have e := hY w _ Y a ok hk
    rw [hobj] at e
    cases e
    refine go (fun _ => none) (fun b o z => nomatch z) (fun z => absurd rfl z) (fun b u z => nomatch z) (.inr ⟨_, vs.toArray, _, hk, rfl, rfl, rfl, ?_, by simpa using rv⟩)
    rw [List.size_toArray, ← rv.length]
    exact hz
  | none =>
    have at_a : (fun b => if b = a then some (HO.frz { cls := .type "list", data := .seq vs.toArray } (.lst (ns.map V.int))) else none) a = some (HO.frz { cls := .type "list", data := .seq vs.toArray } (.lst (ns.map V.int))) := if_pos rfl
    have un_a : ∀ (b : Addr) (u : HO), (if b = a then some (HO.frz { cls := .type "list", data := .seq vs.toArray } (.lst (ns.map V.int))) else none) = some u → b = a ∧ u = HO.frz { cls := .type "list", data := .seq vs.toArray } (.lst (ns.map V.int)) := by
      intro b u z
      by_cases hb : b = a
      · rw [if_pos hb] at z
        exact ⟨hb, (Option.some.inj z).symm⟩
      · rw [if_neg hb] at z
        cases z
    refine go (fun b => if b = a then some (HO.frz { cls := .type "list", data := .seq vs.toArray } (.lst (ns.map V.int))) else none) (fun b u z => ?_) (fun _ => hk) (fun b u z => ?_) (.inl (.inr ⟨_, at_a⟩))
    · obtain ⟨e1, e2⟩ := un_a b u z
      exact ⟨e1, _, _, e2⟩
    · obtain ⟨e1, e2⟩ := un_a b u z
      subst e1
      subst e2
      exact ⟨hobj, hz, vs, _, rv, hobj⟩

/-- o[i] of a list, by values -/
theorem get_list {X : Cx} : PGet X (rIxL X.K) := by
  intro pins s σ H o i ov iv Q I ro ri h
  obtain ⟨p, xs, j, v, rfl, rfl, hS, hat, q⟩ := h
  cases (show ov = Value.ref p from ro)
  obtain ⟨t, rfl⟩ := (show ∃ t, iv = Value.int j t from ri)
  obtain ⟨its, rv, pl, hz⟩ := I.list hS
  obtain ⟨n, h1, h2, h3, h4, h5⟩ := atI_get hat
  obtain ⟨u, eu, ru⟩ := rv.get h2
  have ln := rv.length
  have l63 := line63
  have done : EP X pins σ Q u s := ⟨v, H, I, ru, q⟩
  rcases Int.lt_or_le j 0 with c | c
  · refine wpAny_getItem_list_neg pl.isList (by omega) (by rw [List.size_toArray]; omega) (by omega) ?_ done
    have e : (j + (its.toArray.size : Int)).toNat = n := by
      rw [seqIndex_neg (by omega) h4] at h1
      rw [List.size_toArray, ← ln]
      exact Option.some.inj h1
    rw [e]
    simpa using eu
  · refine wpAny_getItem_list pl.isList c (by omega) ?_ done
    have e : j.toNat = n := by
      rw [seqIndex_of c h5] at h1
      exact Option.some.inj h1
    rw [e]
    simpa using eu
end Ns

/-! the tops of the text -/
namespace Y
open PySem PySem.Spec PyProof.Rows L2 Ns
def top (i : Nat) : Stmt := PySem.Challenge.pw_nightstairs_k27_rows_put_together.main.body.getD i (.Pass ⟨0, 0, 0, 0⟩)
abbrev sPutRun : Stmt := top 1
abbrev sWholeOf : Stmt := top 3
abbrev sEndsOf : Stmt := top 4
abbrev sAdded : Stmt := top 5
abbrev sFalls : Stmt := top 6
abbrev sCapped : Stmt := top 7
abbrev sFirstUnlike : Stmt := top 8
abbrev sBag : Stmt := top 10
abbrev sTake : Stmt := top 11
abbrev sSome : Stmt := top 12
abbrev sAlike : Stmt := top 13
abbrev sRun : Stmt := top 14
abbrev sRowReach : Stmt := top 15
abbrev sStepsMany : Stmt := top 16
abbrev sRowOf : Stmt := top 17
abbrev sLAdded : Stmt := top 18
abbrev sLCapped : Stmt := top 19
abbrev sSomeRow : Stmt := top 20
abbrev sLaid : Stmt := top 21
abbrev sRunUp : Stmt := top 22
abbrev sFirstApart : Stmt := top 23
abbrev sLaw : Stmt := top 24
end Y

/-! the bag over the heap -/
namespace Y
open PySem PySem.Spec PyProof.Rows L2 Ns
/-- the heap but for b -/
def wo (H : Hp) (b : Addr) : Hp := fun c => if c = b then none else H c
theorem wo_ne {H : Hp} {b c : Addr} (h : c ≠ b) : wo H b c = H c := if_neg h
theorem wo_at {H : Hp} {b : Addr} : wo H b b = none := if_pos rfl
theorem wo_of {H : Hp} {b c : Addr} {o : HO} (h : wo H b c = some o) : c ≠ b ∧ H c = some o := by
  by_cases e : c = b
  · rw [e, wo_at] at h
    cases h
  · exact ⟨e, (wo_ne e).symm.trans h⟩
theorem wo_sub (H : Hp) (b : Addr) : Same (wo H b) H := fun _ _ h => (wo_of h).2
/-- all but b stands; b keeps its row of numbers -/
def Sb (b : Addr) (H H' : Hp) : Prop := Same (wo H b) (wo H' b) ∧ ∀ (n0 n1 n2 : Int) (l : Addr), H b = some (.lst [.int n0, .int n1, .int n2, .ref l]) → ∃ m0 m1 m2 : Int, H' b = some (.lst [.int m0, .int m1, .int m2, .ref l])
theorem Sb.refl (b : Addr) (H : Hp) : Sb b H H := ⟨Same.refl _, fun n0 n1 n2 _ h => ⟨n0, n1, n2, h⟩⟩
theorem Sb.trans {b : Addr} {H H1 H2 : Hp} (h : Sb b H H1) (g : Sb b H1 H2) : Sb b H H2 := ⟨Same.trans h.1 g.1, fun n0 n1 n2 l e => by
  obtain ⟨m0, m1, m2, e1⟩ := h.2 n0 n1 n2 l e
  exact g.2 _ _ _ _ e1⟩
theorem Sb.get {b c : Addr} {H H' : Hp} {o : HO} (h : Sb b H H') (e : H c = some o) (n : c ≠ b) : H' c = some o := (wo_of (h.1 c o ((wo_ne n).trans e))).2
theorem Sb.new {b p : Addr} {H H' : Hp} {o : HO} (h : Sb b H H') (n : H' p = none) : Sb b H (upd H' p o) := ⟨fun c u e => by
  have q := h.1 c u e
  obtain ⟨q1, q2⟩ := wo_of q
  rw [wo_ne q1, upd_ne (ne_of_none q2 n)]
  exact q2, fun n0 n1 n2 l e => by
  obtain ⟨m0, m1, m2, e1⟩ := h.2 n0 n1 n2 l e
  exact ⟨m0, m1, m2, by rw [upd_ne (ne_of_none e1 n)]; exact e1⟩⟩
theorem Sb.put {b l : Addr} {H H' : Hp} {n0 n1 n2 m0 m1 m2 : Int} (h : Sb b H H') (e0 : H' b = some (.lst [.int n0, .int n1, .int n2, .ref l])) : Sb b H (upd H' b (.lst [.int m0, .int m1, .int m2, .ref l])) := ⟨fun c u e => by
  obtain ⟨q1, q2⟩ := wo_of (h.1 c u e)
  rw [wo_ne q1, upd_ne q1]
  exact q2, fun k0 k1 k2 l' e => by
  obtain ⟨j0, j1, j2, e1⟩ := h.2 _ _ _ _ e
  rw [e0] at e1
  cases e1
  exact ⟨m0, m1, m2, upd_same⟩⟩
theorem Sb.same {b : Addr} {H H' H2 : Hp} (h : Sb b H H') (m : Same H' H2) : Sb b H H2 := ⟨fun c u e => by
  obtain ⟨q1, q2⟩ := wo_of (h.1 c u e)
  rw [wo_ne q1]
  exact m _ _ q2, fun n0 n1 n2 l e => by
  obtain ⟨m0, m1, m2, e1⟩ := h.2 n0 n1 n2 l e
  exact ⟨m0, m1, m2, m _ _ e1⟩⟩
/-- the bag at b -/
def Bag (H : Hp) (b : Addr) : Prop := ∃ (n0 n1 n2 : Int) (l : Addr) (ns : List Int), H b = some (.lst [.int n0, .int n1, .int n2, .ref l]) ∧ H l = some (.lst (ns.map V.int)) ∧ l ≠ b ∧ 0 ≤ n0 ∧ 0 ≤ n1 ∧ n1 < 2147483647 ∧ 0 ≤ n2 ∧ (∀ n ∈ ns, 0 ≤ n) ∧ ns.length ≤ 63
theorem Bag.new {H : Hp} {b p : Addr} {o : HO} (h : Bag H b) (n : H p = none) : Bag (upd H p o) b := by
  obtain ⟨n0, n1, n2, l, ns, h1, h2, r⟩ := h
  exact ⟨n0, n1, n2, l, ns, by rw [upd_ne (ne_of_none h1 n)]; exact h1, by rw [upd_ne (ne_of_none h2 n)]; exact h2, r⟩
theorem Bag.keep {H H' : Hp} {b : Addr} (h : Bag H b) (m : Same H H') : Bag H' b := by
  obtain ⟨n0, n1, n2, l, ns, h1, h2, r⟩ := h
  exact ⟨n0, n1, n2, l, ns, m _ _ h1, m _ _ h2, r⟩
theorem Bag.ne {H : Hp} {b p : Addr} (h : Bag H b) (n : H p = none) : p ≠ b := fun e => by
  obtain ⟨_, _, _, _, _, h1, _⟩ := h
  rw [e, h1] at n
  cases n
/-- a place that was free at first is written: the bag stands -/
theorem Bag.wr {H H' : Hp} {b p : Addr} {o : HO} (h : Bag H b) (n : H p = none) (s : Sb b H H') (g : Bag H' b) : Bag (upd H' p o) b := by
  obtain ⟨n0, n1, n2, l, ns, h1, h2, h3, _⟩ := id h
  obtain ⟨k0, k1, k2, l', ns', g1, g2, r⟩ := g
  obtain ⟨m0, m1, m2, e⟩ := s.2 _ _ _ _ h1
  rw [g1] at e
  cases e
  exact ⟨_, _, _, _, ns', by rw [upd_ne (h.ne n).symm]; exact g1, by rw [upd_ne (ne_of_none h2 n)]; exact g2, r⟩
theorem Sb.wr {b p : Addr} {H H' : Hp} {o : HO} (s : Sb b H H') (n : H p = none) : Sb b H (upd H' p o) := ⟨fun c u e => by
  obtain ⟨q1, q2⟩ := wo_of (s.1 c u e)
  rw [wo_ne q1, upd_ne (ne_of_none (wo_of e).2 n)]
  exact q2, fun n0 n1 n2 l e => by
  obtain ⟨m0, m1, m2, e1⟩ := s.2 n0 n1 n2 l e
  exact ⟨m0, m1, m2, by rw [upd_ne (ne_of_none e n)]; exact e1⟩⟩
theorem Sb.free {b p : Addr} {H H' : Hp} (h : Sb b H H') (hp : H' p = none) (n : p ≠ b) : H p = none := by
  cases e : H p with
  | none => rfl
  | some o => rw [h.get e n] at hp; cases hp
/-- what stood but for the bag: lists, tuples -/
theorem Sb.sl {K : PySem.W.Frag} {b a : Addr} {H H' : Hp} {xs : List V} (s : Sb b H H') (h : SqL K (wo H b) a xs) : SqL K (wo H' b) a xs := Same.seq s.1 h
theorem wo_same {H H' : Hp} {b : Addr} (m : Same H H') : Same (wo H b) (wo H' b) := fun c o e => by
  obtain ⟨q1, q2⟩ := wo_of e
  rw [wo_ne q1]
  exact m _ _ q2
theorem ints_at {ns : List Int} {i : Nat} {v : V} (h : (ns.map V.int)[i]? = some v) : ∃ z, ns[i]? = some z ∧ v = .int z := by
  rw [List.getElem?_map] at h
  obtain ⟨z, e, q⟩ := Option.map_eq_some_iff.mp h
  exact ⟨z, e, q.symm⟩
theorem cut_ints (ns : List Int) (lo hi : Option Int) : ∃ ms : List Int, cutV (ns.map V.int) lo hi = ms.map V.int ∧ (∀ n ∈ ms, n ∈ ns) ∧ ms.length ≤ ns.length := by
  refine ⟨(ns.drop (HT.sIx (ns.map V.int).length 0 lo)).take (HT.sIx (ns.map V.int).length (ns.map V.int).length hi - HT.sIx (ns.map V.int).length 0 lo), ?_, fun n h => List.mem_of_mem_drop (List.mem_of_mem_take h), ?_⟩
  · unfold cutV
    rw [List.map_take, List.map_drop]
  · rw [List.length_take, List.length_drop]
    omega
theorem same_new {H H' : Hp} {p : Addr} {o : HO} (h : Same H H') (n : H' p = none) : Same H (upd H' p o) := fun c u e => by
  rw [upd_ne (ne_of_none (h c u e) n)]
  exact h c u e
theorem same_put {H H' : Hp} {p : Addr} {o : HO} (h : Same H H') (n : H p = none) : Same H (upd H' p o) := fun c u e => by
  rw [upd_ne (ne_of_none e n)]
  exact h c u e
/-- a thing put amid is among -/
theorem put_perm {α : Type} {xs ys : List α} {x : α} {i j : Nat} (h : ys.Perm (xs.take i)) (hx : xs[i]? = some x) : (ys.take j ++ [x] ++ ys.drop j).Perm (xs.take (i + 1)) := by
  have e : xs.take (i + 1) = xs.take i ++ [x] := by rw [List.take_succ, hx]; rfl
  rw [e]
  have p1 : (ys.take j ++ [x] ++ ys.drop j).Perm (x :: ys) := by
    rw [List.append_assoc, List.singleton_append]
    refine List.perm_middle.trans ?_
    rw [List.take_append_drop]
  exact p1.trans ((h.cons x).trans (List.perm_append_singleton x (xs.take i)).symm)
/-- what the top has left of the built-in names -/
structure Nat0 (mg : Str → Option Value) : Prop where
  abs : mg "abs" = none
  int : mg "int" = none
  len : mg "len" = none
  repr : mg "repr" = none
  isi : mg "isinstance" = none
  range : mg "range" = none
  sorted : mg "sorted" = none
  tuple : mg "tuple" = none
  list_ : mg "list" = none
  dict : mg "dict" = none
  set_ : mg "set" = none
  sum : mg "sum" = none
  max : mg "max" = none
  min : mg "min" = none
  str : mg "str" = none
  all : mg "all" = none
  any : mg "any" = none
  zip : mg "zip" = none
end Y

namespace Y
open PySem PySem.Spec PyProof.Rows L2 Ns
open C8 (pss_cut)
def spBag (K : PySem.W.Frag) : Sp := fun as H Q _ => ∃ (a : Addr) (ns : List Int), as = [.ref a] ∧ SqL K H a (ns.map V.int) ∧ ns.length ≤ 63 ∧ ∀ (b : Addr) (H' : Hp), Bag H' b → H b = none → Same H H' → Q (.ref b) H'
def spTake : Sp := fun as H Q _ => ∃ (b : Addr) (m : Int), as = [.ref b, .int m] ∧ Bag H b ∧ 0 < m ∧ m.natAbs < 2 ^ 200 ∧ ∀ (v : Int) (H' : Hp), 0 ≤ v → v < m → Bag H' b → Sb b H H' → Q (.int v) H'
section
variable {P : Program} {w : World} {K : PySem.W.Frag} {mg : Str → Option Value} {base : Heap}
theorem scB : FnScope ["script", "cell"] ["script"] (defScope sBag) := ⟨rfl, rfl, rfl, by decide +kernel, rfl, by decide +kernel, by decide +kernel⟩
theorem ok_bag {f : Addr} {fd : FuncData} (F : Fun K "_law_bag" "_law_bag" sBag f fd) (T : Nat0 mg) : FnOk P w K mg base CX0 1 f fd ["script"] (spBag K) := by
  refine F.ok scB (fun as H Q E h => ?_) (fun cdv A outer s H as Q E hr h => ?_)
  · obtain ⟨a, ns, rfl, _⟩ := h
    rfl
  · obtain ⟨a, ns, rfl, hS, hl, k⟩ := h
    refine ⟨_, pss_one (ps_ret (pe_lst (pa_cons pe_int (pa_cons pe_int (pa_cons pe_int (pa_cons
      (pe_lc (own := [("cell", 1)]) (g := gName 1) (tt := tYes) rfl scB.nd (pi_list (pe_slice sl_list (pv 0) po_none (po_some pe_int))) (blkOk_by (N := ["script", "cell"]) (sc := defScope sBag) (by decide +kernel)) (fun _ _ _ _ _ => pg_name (i := 1) scB.nd rfl (Or.inl rfl)) (fun _ _ _ _ _ => pts_nil)
        (fun _ _ _ _ _ => pe_callB call_abs (by rfl) T.abs (by decide +kernel) (pa_cons (pv 1) pa_nil))) pa_nil)))))), ?_⟩
    obtain ⟨ms, ec, hin, hlm⟩ := cut_ints ns none (some 63)
    refine ⟨_, rfl, _, rfl, a, _, rfl, hS, fun p hp => ?_⟩
    rw [ec]
    have lm : ms.length ≤ 63 := Nat.le_trans hlm hl
    refine ⟨p, rfl, ⟨_, .inl (.inl upd_same)⟩, fun D hD => ?_⟩
    refine lc_list (K := K) (a := p) (xs := ms.map V.int) (fun i H' => ∃ ks : List Int, H' D = some (.lst (ks.map V.int)) ∧ ks.length = i ∧ (∀ n ∈ ks, 0 ≤ n) ∧ H' p = some (.lst (ms.map V.int)) ∧ Same H H') ?_ ?_ ?_ ?_
    · have npd : p ≠ D := fun e => by rw [← e, upd_same] at hD; cases hD
      refine ⟨[], upd_same, rfl, (fun _ z => nomatch z), by rw [upd_ne npd, upd_same], fun c o e => ?_⟩
      have hD' : H D = none := by rw [upd_ne npd.symm] at hD; exact hD
      rw [upd_ne (ne_of_none e hD'), upd_ne (ne_of_none e hp)]
      exact e
    · rintro i H' hi ⟨ks, _, _, _, h, _⟩
      exact .inl (.inl h)
    · rintro i x H' hx ⟨ks, h1, h2, h3, h4, h5⟩
      obtain ⟨z, hz, rfl⟩ := ints_at hx
      have hi : i < ms.length := (List.getElem?_eq_some_iff.mp hz).1
      refine ⟨rfl, _, rfl, z, rfl, ks.map V.int, h1, by rw [List.length_map, h2]; exact small1000 (by omega), ks ++ [if z < 0 then -z else z], ?_, ?_, ?_, ?_, ?_⟩
      · rw [upd_same, List.map_append]
        rfl
      · rw [List.length_append, h2]
        rfl
      · intro n hn
        rcases List.mem_append.mp hn with q | q
        · exact h3 n q
        · rw [List.mem_singleton] at q
          subst q
          split <;> omega
      · have npd : p ≠ D := fun e => by rw [← e, upd_same] at hD; cases hD
        rw [upd_ne npd]
        exact h4
      · intro c o e
        have hD' : H D = none := by
          have npd : p ≠ D := fun e => by rw [← e, upd_same] at hD; cases hD
          rw [upd_ne npd.symm] at hD
          exact hD
        rw [upd_ne (ne_of_none e hD')]
        exact h5 c o e
    · rintro H' ⟨ks, h1, h2, h3, h4, h5⟩
      rw [List.length_map] at h2
      refine ⟨by show 4 ≤ sizeLine; decide, fun b hb => ?_⟩
      refine k b _ ⟨0, 1234567891, 0, D, ks, upd_same, by rw [upd_ne (ne_of_none h1 hb)]; exact h1, ne_of_none h1 hb, by decide, by decide, by decide, by decide, h3, by omega⟩ (h5.free hb) fun c o e => ?_
      rw [upd_ne (ne_of_none (h5 c o e) hb)]
      exact h5 c o e
end
section
variable {P : Program} {w : World} {K : PySem.W.Frag} {mg : Str → Option Value} {base : Heap}
theorem scT : FnScope ["bag", "many", "cell", "stirred", "value", "begin", "second"] ["bag", "many"] (defScope sTake) := ⟨rfl, rfl, rfl, by decide +kernel, rfl, by decide +kernel, by decide +kernel⟩
theorem at0 {α : Type} {x : α} {xs : List α} : atI (x :: xs) (0 : Int) = some x := atI_nat (j := 0) rfl
theorem at1 {α : Type} {x y : α} {xs : List α} : atI (x :: y :: xs) (1 : Int) = some y := atI_nat (j := 1) rfl
theorem at2 {α : Type} {x y z : α} {xs : List α} : atI (x :: y :: z :: xs) (2 : Int) = some z := atI_nat (j := 2) rfl
theorem at3 {α : Type} {x y z u : α} {xs : List α} : atI (x :: y :: z :: u :: xs) (3 : Int) = some u := atI_nat (j := 3) rfl
theorem fm {x m : Int} (h : 0 < m) : 0 ≤ x.fmod m ∧ x.fmod m < m := by
  rw [Int.fmod_eq_emod_of_nonneg x (by omega)]
  exact ⟨Int.emod_nonneg _ (by omega), Int.emod_lt_of_pos _ h⟩
theorem head_int {ms : List Int} (h : ∀ n ∈ ms, 0 ≤ n) : ∃ z : Int, 0 ≤ z ∧ atI (ms.map V.int ++ [V.int 0]) (0 : Int) = some (.int z) := by
  cases ms with
  | nil => exact ⟨0, by decide, at0⟩
  | cons n ms => exact ⟨n, h n List.mem_cons_self, at0⟩
theorem ok_take {f : Addr} {fd : FuncData} (F : Fun K "_law_take" "_law_take" sTake f fd) (T : Nat0 mg) : FnOk P w K mg base CX0 1 f fd ["bag", "many"] spTake := by
  refine F.ok scT (fun as H Q E h => ?_) (fun cdv A outer s H as Q E hr h => ?_)
  · obtain ⟨b, m, rfl, _⟩ := h
    rfl
  · obtain ⟨b, m, rfl, hB, hm, hmz, k⟩ := h
    refine ⟨_, pss_cut (ps_if (pt_cmpR op_eq (pe_ix ix_list (pv 0) pe_int (fun _ _ => rfl)) pe_int (nomark _))
        (pss_cons (ps_set (i := 2) scT.nd rfl (.inl rfl) (pe_ix ix_list (pe_op op_cat (pe_slice sl_list (pe_ix ix_list (pv 0) pe_int (fun _ _ => rfl)) (po_some (pe_ix ix_list (pv 0) pe_int (fun _ _ => rfl))) po_none) (pe_lst (pa_cons pe_int pa_nil))) pe_int (fun _ _ => rfl)))
        (pss_cons (ps_augS (pv 0) pe_int get_list pe_int ip_add set_list)
        (pss_cut (ps_if (pt_cmpR op_ge (pv 2) (pe_op op_pow pe_int pe_int) (nomark _)) (pss_one (ps_asg (pv 2) (pg_sub (pv 0) pe_int set_list))) pss_nil)
        (pss_cons (ps_set (i := 3) scT.nd rfl (.inl rfl) (pe_op op_add (pe_op op_add (pe_op op_mul (pe_ix ix_list (pv 0) pe_int (fun _ _ => rfl)) pe_int)
            (pe_op op_modN (pe_callTy call_int1 (by rfl) T.int (by decide +kernel) (pa_cons (pv 2) pa_nil)) pe_int)) (pe_op op_mul pe_int (pe_ix ix_list (pv 0) pe_int (fun _ _ => rfl)))))
        (pss_one (ps_asg (pe_op op_modN (pe_callTy call_int1 (by rfl) T.int (by decide +kernel) (pa_cons (pv 3) pa_nil)) pe_int) (pg_sub (pv 0) pe_int set_list))))))) pss_nil)
      (pss_cons (ps_if (pt_cmpR op_gt (pe_ix ix_list (pv 0) pe_int (fun _ _ => rfl)) pe_int (nomark _))
        (pss_cons (ps_set (i := 4) scT.nd rfl (.inl rfl) (pe_op op_modN (pe_callTy call_int1 (by rfl) T.int (by decide +kernel) (pa_cons (pe_ix ix_list (pv 0) pe_int (fun _ _ => rfl)) pa_nil)) (pv 1)))
        (pss_cons (ps_asg (pe_op op_fdivW (pe_callTy call_int1 (by rfl) T.int (by decide +kernel) (pa_cons (pe_ix ix_list (pv 0) pe_int (fun _ _ => rfl)) pa_nil)) (pv 1)) (pg_sub (pv 0) pe_int set_list))
        (pss_one (ps_ret (pv 4))))) pss_nil)
      (pss_cons (ps_set (i := 5) scT.nd rfl (.inl rfl) (pe_op op_modN (pe_callTy call_int1 (by rfl) T.int (by decide +kernel) (pa_cons (pe_op op_mul (pe_op op_add (pe_ix ix_list (pv 0) pe_int (fun _ _ => rfl)) pe_int) pe_int) pa_nil)) pe_int))
      (pss_cons (ps_set (i := 6) scT.nd rfl (.inl rfl) (pe_op op_modN (pe_callTy call_int1 (by rfl) T.int (by decide +kernel) (pa_cons (pe_op op_mul (pe_op op_modN (pe_callTy call_int1 (by rfl) T.int (by decide +kernel) (pa_cons (pe_op op_mul (pv 5) (pv 5)) pa_nil)) pe_int) pe_int) pa_nil)) pe_int))
      (pss_one (ps_ret (pe_op op_modN (pe_callTy call_int1 (by rfl) T.int (by decide +kernel) (pa_cons (pe_op op_fdivN (pv 6) pe_int) pa_nil)) (pv 1))))))), ?_⟩
    refine ⟨fun σ' H' => ∃ c s : Option V, σ' = [some (.ref b), some (.int m), c, s, none, none, none] ∧ Bag H' b ∧ Sb b H H', ?_, ?_⟩
    · obtain ⟨n0, n1, n2, l, ns, h1, h2, hlb, z0, z1, z1', z2, hn, hlen⟩ := id hB
      refine ⟨_, rfl, b, _, _, _, rfl, rfl, SqL.of h1, at0, rfl, _, rfl, ?_⟩
      refine ite2 (fun c => ?_) (fun c => ⟨none, none, rfl, hB, Sb.refl _ _⟩)
      obtain ⟨ms, ec, hin, hlm⟩ := cut_ints ns (some n2) none
      refine ⟨_, rfl, b, _, _, _, rfl, rfl, SqL.of h1, at3, _, rfl, b, _, _, _, rfl, rfl, SqL.of h1, at2, n2, rfl, l, _, rfl, SqL.of h2, fun p hp => ?_⟩
      rw [ec]
      refine ⟨by show 1 ≤ sizeLine; decide, fun q hq => ?_⟩
      have npq : p ≠ q := fun e => by rw [← e, upd_same] at hq; cases hq
      have lmz : (ms.map V.int).length + [V.int 0].length ≤ sizeLine := by
        rw [List.length_map]
        exact Nat.le_of_lt (small1000 (show ms.length + 1 ≤ 1000 by omega))
      refine ⟨p, q, _, _, rfl, rfl, by rw [upd_ne npq, upd_same], upd_same, lmz, fun r hr => ?_⟩
      obtain ⟨z, hz, hat⟩ := head_int (ms := ms) fun n h => hn n (hin n h)
      refine ⟨r, _, _, _, rfl, rfl, SqL.of upd_same, hat, ?_⟩
      have hb3 : upd (upd (upd H p (.lst (ms.map V.int))) q (.lst [V.int 0])) r (.lst (ms.map V.int ++ [V.int 0])) b = some (.lst [.int n0, .int n1, .int n2, .ref l]) := by
        have e1 : upd H p (.lst (ms.map V.int)) b = some (.lst [.int n0, .int n1, .int n2, .ref l]) := by rw [upd_ne (ne_of_none h1 hp)]; exact h1
        have e2 : upd (upd H p (.lst (ms.map V.int))) q (.lst [V.int 0]) b = some (.lst [.int n0, .int n1, .int n2, .ref l]) := by rw [upd_ne (ne_of_none e1 hq)]; exact e1
        rw [upd_ne (ne_of_none e2 hr)]
        exact e2
      have hl3 : upd (upd (upd H p (.lst (ms.map V.int))) q (.lst [V.int 0])) r (.lst (ms.map V.int ++ [V.int 0])) l = some (.lst (ns.map V.int)) := by
        have e1 : upd H p (.lst (ms.map V.int)) l = some (.lst (ns.map V.int)) := by rw [upd_ne (ne_of_none h2 hp)]; exact h2
        have e2 : upd (upd H p (.lst (ms.map V.int))) q (.lst [V.int 0]) l = some (.lst (ns.map V.int)) := by rw [upd_ne (ne_of_none e1 hq)]; exact e1
        rw [upd_ne (ne_of_none e2 hr)]
        exact e2
      have sb3 : Sb b H (upd (upd (upd H p (.lst (ms.map V.int))) q (.lst [V.int 0])) r (.lst (ms.map V.int ++ [V.int 0]))) := (((Sb.refl b H).new hp).new hq).new hr
      generalize upd (upd (upd H p (.lst (ms.map V.int))) q (.lst [V.int 0])) r (.lst (ms.map V.int ++ [V.int 0])) = H3 at hb3 hl3 sb3 ⊢
      refine ⟨_, rfl, b, _, _, _, rfl, rfl, SqL.of hb3, at2, n2, 1, rfl, rfl, b, _, _, 2, rfl, rfl, hb3, rfl, ?_⟩
      refine ⟨fun σ' H' => ∃ n0' : Int, σ' = [some (.ref b), some (.int m), some (.int z), none, none, none, none] ∧ H' b = some (.lst [.int n0', .int n1, .int (n2 + 1), .ref l]) ∧ H' l = some (.lst (ns.map V.int)) ∧ 0 ≤ n0' ∧ Sb b H H', ?_, ?_⟩
      · have hb4 : upd H3 b (.lst (([.int n0, .int n1, .int n2, .ref l] : List V).set 2 (.int (n2 + 1)))) b = some (.lst [.int n0, .int n1, .int (n2 + 1), .ref l]) := upd_same
        have hl4 : upd H3 b (.lst (([.int n0, .int n1, .int n2, .ref l] : List V).set 2 (.int (n2 + 1)))) l = some (.lst (ns.map V.int)) := by rw [upd_ne hlb]; exact hl3
        have sb4 : Sb b H (upd H3 b (.lst (([.int n0, .int n1, .int n2, .ref l] : List V).set 2 (.int (n2 + 1))))) := sb3.put hb3
        generalize upd H3 b (.lst (([.int n0, .int n1, .int n2, .ref l] : List V).set 2 (.int (n2 + 1)))) = H4 at hb4 hl4 sb4 ⊢
        refine ⟨_, rfl, 10, 18, rfl, rfl, ⟨by decide, by decide, by decide⟩, z, _, rfl, rfl, _, rfl, ?_⟩
        refine ite2 (fun _ => ?_) (fun _ => ⟨n0, rfl, hb4, hl4, z0, sb4⟩)
        exact ⟨_, rfl, _, rfl, b, _, _, 0, rfl, rfl, hb4, rfl, z, rfl, upd_same, by rw [upd_ne hlb]; exact hl4, hz, sb4.put hb4⟩
      · rintro σ' H' ⟨n0', rfl, hb5, hl5, z0', sb5⟩
        refine ⟨_, rfl, b, _, _, _, rfl, rfl, SqL.of hb5, at1, n1, _, rfl, rfl, .inl ⟨by omega, by omega⟩, _, rfl, .inl ⟨z, rfl, z, _, rfl, rfl, (show (2147483647 : Int) ≠ 0 by decide), _, _, rfl, rfl, _, rfl, b, _, _, _, rfl, rfl, SqL.of hb5, at2, 7919, _, rfl, rfl, .inl ⟨by decide, by decide⟩, _, _, rfl, rfl, ?_⟩⟩
        refine ⟨_, rfl, .inl ⟨_, rfl, _, _, rfl, rfl, (show (2147483647 : Int) ≠ 0 by decide), _, rfl, b, _, _, 1, rfl, rfl, hb5, rfl, ?_⟩⟩
        exact ⟨_, _, rfl, ⟨n0', _, n2 + 1, l, ns, upd_same, by rw [upd_ne hlb]; exact hl5, hlb, z0', (fm (by decide)).1, (fm (by decide)).2, by omega, hn, hlen⟩, sb5.put hb5⟩
    · rintro σ' H' ⟨c, s', rfl, hB', sb⟩
      obtain ⟨n0, n1, n2, l, ns, h1, h2, hlb, z0, z1, z1', z2, hn, hlen⟩ := id hB'
      refine ⟨_, rfl, b, _, _, _, rfl, rfl, SqL.of h1, at0, _, _, rfl, rfl, _, rfl, ?_⟩
      refine ite2 (fun _ => ?_) (fun _ => ?_)
      · refine ⟨_, rfl, b, _, _, _, rfl, rfl, SqL.of h1, at0, .inl ⟨n0, rfl, _, rfl, n0, m, rfl, rfl, by omega, ?_⟩⟩
        refine ⟨_, rfl, b, _, _, _, rfl, rfl, SqL.of h1, at0, .inl ⟨n0, rfl, _, rfl, n0, m, rfl, rfl, wide_div hm hmz (by decide) (by decide), _, rfl, b, _, _, 0, rfl, rfl, h1, rfl, ?_⟩⟩
        refine ⟨_, rfl, k _ _ (fm hm).1 (fm hm).2 ⟨n0 / m, n1, n2, l, ns, upd_same, by rw [upd_ne hlb]; exact h2, hlb, Int.ediv_nonneg z0 (by omega), z1, z1', z2, hn, hlen⟩ (sb.put h1)⟩
      · have b1 := fm (x := (n1 + 1) * 39373) (m := 1000000007) (by decide)
        refine ⟨_, rfl, b, _, _, _, rfl, rfl, SqL.of h1, at1, n1, 1, rfl, rfl, n1 + 1, _, rfl, rfl, .inl ⟨by omega, by omega⟩, .inl ⟨_, rfl, _, _, rfl, rfl, (show (1000000007 : Int) ≠ 0 by decide), ?_⟩⟩
        have b2 := fm (x := ((n1 + 1) * 39373).fmod 1000000007 * ((n1 + 1) * 39373).fmod 1000000007) (m := 998244353) (by decide)
        refine ⟨_, rfl, _, rfl, _, _, rfl, rfl, .inl ⟨by omega, by omega⟩, .inl ⟨_, rfl, _, _, rfl, rfl, (show (998244353 : Int) ≠ 0 by decide), _, _, rfl, rfl, .inl ⟨by omega, by omega⟩, .inl ⟨_, rfl, _, _, rfl, rfl, (show (998244353 : Int) ≠ 0 by decide), ?_⟩⟩⟩
        exact ⟨_, rfl, _, _, rfl, rfl, ⟨by decide, by decide⟩, .inl ⟨_, rfl, _, rfl, _, m, rfl, rfl, by omega, k _ _ (fm hm).1 (fm hm).2 hB' sb⟩⟩
end
end Y

namespace Y
open PySem PySem.Spec PyProof.Rows L2 Ns
open C8 (pss_cut)
def spSome (K : PySem.W.Frag) : Sp := fun as H Q _ => ∃ (b a : Addr) (xs : List V), as = [.ref b, .ref a] ∧ Bag H b ∧ SqL K (wo H b) a xs ∧ xs ≠ [] ∧ xs.length ≤ 1000000 ∧ ∀ (x : V) (H' : Hp), x ∈ xs → Bag H' b → Sb b H H' → Q x H'
section
variable {P : Program} {w : World} {K : PySem.W.Frag} {mg : Str → Option Value} {base : Heap}
theorem scS : FnScope ["bag", "things"] ["bag", "things"] (defScope sSome) := ⟨rfl, rfl, rfl, by decide +kernel, rfl, by decide +kernel, by decide +kernel⟩
theorem ok_some {f fT : Addr} {fd fdT : FuncData} (F : Fun K "_law_some" "_law_some" sSome f fd) (T : Nat0 mg) (FT : Fun K "_law_take" "_law_take" sTake fT fdT) (mT : mg "_law_take" = some (.ref fT)) (bT : Binds K fdT ["bag", "many"] []) :
    FnOk P w K mg base CX0 2 f fd ["bag", "things"] (spSome K) := by
  have GT : FnOk P w K mg base CX0 1 fT fdT ["bag", "many"] spTake := ok_take FT T
  refine F.ok scS (fun as H Q E h => ?_) (fun cdv A outer s H as Q E hr h => ?_)
  · obtain ⟨b, a, xs, rfl, _⟩ := h
    rfl
  · obtain ⟨b, a, xs, rfl, hB, hS, hne, hl, k⟩ := h
    have pos : 0 < xs.length := List.length_pos_iff.mpr hne
    refine ⟨_, pss_one (ps_ret (pe_ix ix_list (pv 1) (pe_call GT hr rfl mT FT.kp bT .nil pass0 (pa_cons (pv 0) (pa_cons (pe_callB call_len_seq (by rfl) T.len PySem.boot_len (pa_cons (pv 1) pa_nil)) pa_nil))) (fun _ _ => rfl))), ?_⟩
    refine ⟨_, rfl, _, rfl, _, rfl, a, _, rfl, .inl ((wo_sub H b).seq hS), b, _, rfl, hB, by omega, ?_, fun v H' h0 h1 hB' sb => ?_⟩
    · exact Nat.lt_of_le_of_lt (show ((xs.length : Int)).natAbs ≤ 1000000 by omega) (by decide)
    · have hi : v.toNat < xs.length := by omega
      have e : v = ((v.toNat : Nat) : Int) := by omega
      have hx : xs[v.toNat]? = some xs[v.toNat] := List.getElem?_eq_getElem hi
      obtain ⟨x, ex⟩ : ∃ x, xs[v.toNat]? = some x := ⟨_, hx⟩
      exact ⟨a, xs, v, x, rfl, rfl, (wo_sub H' b).seq (sb.sl hS), by rw [e]; exact atI_nat ex, k _ _ (List.mem_of_getElem? ex) hB' sb⟩
end
end Y

/-! NsD: how long the text of data is. -/
namespace Ns
open PySem PySem.Spec PyProof.Rows L2
/-- shown in at most m signs, nested at most k deep -/
def Fit (m k : Nat) (d : PyData) : Prop := d.showable = true ∧ d.shown.length ≤ m ∧ d.depth ≤ k
theorem Fit.mono {m m' k k' : Nat} {d : PyData} (h : Fit m k d) (hm : m ≤ m') (hk : k ≤ k') : Fit m' k' d := ⟨h.1, Nat.le_trans h.2.1 hm, Nat.le_trans h.2.2 hk⟩
theorem sum_le {m : Nat} : ∀ {l : List Nat}, (∀ n ∈ l, n ≤ m) → l.sum ≤ l.length * m
  | [], _ => Nat.zero_le _
  | n :: l, h => by
    have h1 := h n List.mem_cons_self
    have h2 := sum_le (l := l) fun k hk => h k (List.mem_cons_of_mem _ hk)
    rw [List.sum_cons, List.length_cons, Nat.succ_mul]
    omega
theorem depthAll_le {k : Nat} : ∀ {ds : List PyData}, (∀ d ∈ ds, d.depth ≤ k) → PyData.depthAll ds ≤ k
  | [], _ => by simp [PyData.depthAll]
  | d :: ds, h => by
    simp only [PyData.depthAll]
    exact Nat.max_le.mpr ⟨h d List.mem_cons_self, depthAll_le fun e he => h e (List.mem_cons_of_mem _ he)⟩
theorem mem_shown : ∀ {ds : List PyData} {t : Str}, t ∈ PyData.shownAll ds → ∃ d ∈ ds, t = d.shown
  | [], t, h => by rw [PyData.shownAll_nil] at h; exact nomatch h
  | d :: ds, t, h => by
    rw [PyData.shownAll_cons] at h
    rcases List.mem_cons.mp h with e | e
    · exact ⟨d, List.mem_cons_self, e⟩
    · obtain ⟨d', h1, h2⟩ := mem_shown e
      exact ⟨d', List.mem_cons_of_mem _ h1, h2⟩
theorem lens_le {m k : Nat} {ds : List PyData} (h : ∀ d ∈ ds, Fit m k d) : ((PyData.shownAll ds).map (·.length)).sum ≤ ds.length * m := by
  have e : ((PyData.shownAll ds).map (·.length)).length = ds.length := by rw [List.length_map, PyData.shownAll_length]
  have z := sum_le (l := (PyData.shownAll ds).map (·.length)) (m := m) fun n hn => by
    obtain ⟨t, ht, rfl⟩ := List.mem_map.mp hn
    obtain ⟨d, hd, rfl⟩ := mem_shown ht
    exact (h d hd).2.1
  rw [e] at z
  exact z
theorem fit_list {m k : Nat} {ds : List PyData} (h : ∀ d ∈ ds, Fit m k d) : Fit (ds.length * (m + 2) + 3) (k + 1) (.list ds) := by
  refine ⟨?_, ?_, ?_⟩
  · simp only [PyData.showable]
    exact showableAll_of fun d hd => (h d hd).1
  · simp only [PyData.shown]
    have z1 := listText_len_le (PyData.shownAll ds)
    have z2 := lens_le h
    rw [PyData.shownAll_length] at z1
    rw [Nat.mul_add]
    omega
  · have e : (PyData.list ds).depth = PyData.depthAll ds + 1 := by simp only [PyData.depth] <;> omega
    rw [e]
    exact Nat.succ_le_succ (depthAll_le fun d hd => (h d hd).2.2)
theorem fit_tuple {m k : Nat} {ds : List PyData} (h : ∀ d ∈ ds, Fit m k d) : Fit (ds.length * (m + 2) + 3) (k + 1) (.tuple ds) := by
  refine ⟨?_, ?_, ?_⟩
  · simp only [PyData.showable]
    exact showableAll_of fun d hd => (h d hd).1
  · simp only [PyData.shown]
    have z1 := tupleText_len_le (PyData.shownAll ds)
    have z2 := lens_le h
    rw [PyData.shownAll_length] at z1
    rw [Nat.mul_add]
    omega
  · have e : (PyData.tuple ds).depth = PyData.depthAll ds + 1 := by simp only [PyData.depth] <;> omega
    rw [e]
    exact Nat.succ_le_succ (depthAll_le fun d hd => (h d hd).2.2)
theorem kvs_le {m k : Nat} : ∀ {kvs : List (PyData × PyData)}, (∀ p ∈ kvs, Fit m k p.1 ∧ Fit m k p.2) → ((PyData.shownKv kvs).map (·.length)).sum ≤ kvs.length * (2 * m + 2) ∧ PyData.depthKv kvs ≤ k
  | [], _ => by simp [PyData.shownKv, PyData.depthKv]
  | (a, b) :: r, h => by
    obtain ⟨h1, h2⟩ := h (a, b) List.mem_cons_self
    obtain ⟨z1, z2⟩ := kvs_le (kvs := r) fun p hp => h p (List.mem_cons_of_mem _ hp)
    have e : (a.shown ++ ": " ++ b.shown).length = a.shown.length + 2 + b.shown.length := by
      rw [strLen_append, strLen_append]
      rfl
    have y1 := h1.2.1
    have y2 := h2.2.1
    refine ⟨?_, ?_⟩
    · rw [PyData.shownKv_cons, List.map_cons, List.sum_cons, List.length_cons, Nat.succ_mul, e]
      have y1' : a.shown.length ≤ m := y1
      have y2' : b.shown.length ≤ m := y2
      omega
    · have y3 : a.depth ≤ k := h1.2.2
      have y4 : b.depth ≤ k := h2.2.2
      simp only [PyData.depthKv]
      omega
theorem fit_dict {m k : Nat} {kvs : List (PyData × PyData)} (h : ∀ p ∈ kvs, Fit m k p.1 ∧ Fit m k p.2) : Fit (kvs.length * (2 * m + 4) + 3) (k + 1) (.dict kvs) := by
  obtain ⟨z1, z2⟩ := kvs_le h
  refine ⟨?_, ?_, ?_⟩
  · simp only [PyData.showable]
    exact showableKv_of fun p hp => ⟨(h p hp).1.1, (h p hp).2.1⟩
  · simp only [PyData.shown]
    have y := dictText_len_le (PyData.shownKv kvs)
    rw [PyData.shownKv_length] at y
    have e : kvs.length * (2 * m + 4) = kvs.length * (2 * m + 2) + 2 * kvs.length := by
      rw [Nat.mul_add, Nat.mul_add]
      omega
    omega
  · have e : (PyData.dict kvs).depth = PyData.depthKv kvs + 1 := by simp only [PyData.depth] <;> omega
    omega
theorem fit_int {i : Int} {n : Nat} (h0 : 0 < n) (h : i.natAbs < 10 ^ n) (hn : n ≤ 500) : Fit (n + 1) 0 (.int i) := by
  have z : (10 : Nat) ^ n < 2 ^ 1920 := Nat.lt_of_le_of_lt (Nat.pow_le_pow_right (by decide) hn) (by decide +kernel)
  refine ⟨decide_eq_true (log2_small (Nat.lt_trans h z)), ?_, by simp [PyData.depth]⟩
  rw [PyData.shown_int, PySem.ofString_length]
  exact int_text_length_le10 h0 h
/-- a datum is equal to itself -/
theorem eqv_self {K : PySem.W.Frag} {H : Hp} {x : V} {d : PyData} (D : DatV K H x d) (n : Nat) : EqV K H (n + 1) x x := by
  cases D with
  | non => exact .inl ⟨rfl, rfl⟩
  | bl b => exact .inl ⟨rfl, rfl⟩
  | int i => exact .inl ⟨rfl, rfl⟩
  | str y => exact .inl ⟨rfl, rfl⟩
  | lst _ _ => exact .inr (.inl ⟨_, rfl, rfl⟩)
  | tup _ _ => exact .inr (.inl ⟨_, rfl, rfl⟩)
  | dic _ _ => exact .inr (.inl ⟨_, rfl, rfl⟩)
theorem paired_rep {α β : Type} {F : α → β → Prop} {a : α} {b : β} (h : F a b) : ∀ n : Nat, Paired F (List.replicate n a) (List.replicate n b)
  | 0 => .nil
  | n + 1 => .cons h (paired_rep h n)
theorem datA_rep {K : PySem.W.Frag} {H : Hp} {x : V} {d : PyData} (D : DatV K H x d) : ∀ n : Nat, DatA K H (List.replicate n x) (List.replicate n d)
  | 0 => .nil
  | n + 1 => .cons D (datA_rep D n)
end Ns

/-! NsE: == of equal nested lists, tuples and dicts. -/
namespace Ns
open PySem PySem.Spec PyProof.Rows L2
/-- two tuples of equal items -/
def EqU (K : PySem.W.Frag) (H : Hp) (E : V → V → Prop) (x y : V) : Prop := ∃ a b xs ys, x = .ref a ∧ y = .ref b ∧ SqT K H a xs ∧ SqT K H b ys ∧ Paired E xs ys
/-- equal, of nesting below n, tuples too -/
def EqT (K : PySem.W.Frag) (H : Hp) : Nat → V → V → Prop
  | 0 => fun _ _ => False
  | n + 1 => fun x y => (x = y ∧ flatB x = true) ∨ (∃ a, x = .ref a ∧ y = .ref a) ∨ EqR K H (EqT K H n) x y ∨ EqU K H (EqT K H n) x y
section
variable {X : Cx} {pins : List (Addr × Obj)} {σ : L2.St} {H : Hp} {s : Shared}
theorem eqU_run (I : Inv X pins σ H s) {A : Around} {F : V → V → Prop} (hu : A.units < cLine) (ih : ∀ x y v u, F x y → RelV x v → RelV y u → SeqAt.EqP X.prog X.w A.in1 s v u true) {x y : V} {v u : Value} (h : EqU X.K H F x y) (rx : RelV x v) (ry : RelV y u)
    (E Q : Value → Shared → Prop) (q : Q (.bool true) s) : wpAny (model X.prog X.w) A (richCompare .Eq v u) Q E s := by
  obtain ⟨a, b, xs, ys, rfl, rfl, ha, hb, hp⟩ := h
  cases (show v = Value.ref a from rx)
  cases (show u = Value.ref b from ry)
  obtain ⟨us, r1, ⟨o1, h1, h2, n1, h3⟩, _⟩ := I.tuple ha
  obtain ⟨ws, r2, ⟨o2, g1, g2, n2, g3⟩, _⟩ := I.tuple hb
  have hsz : us.toArray.size = ws.toArray.size := by
    rw [List.size_toArray, List.size_toArray, ← r1.length, ← r2.length]
    exact Paired.length hp
  refine SeqAt.rcIn_tuples (e := fun _ => true) ⟨o1, h1, h2, n1, h3⟩ ⟨o2, g1, g2, n2, g3⟩ hu (fun j h1 h2 => ?_) ?_
  · have k := items_run ih hp r1 r2 j (by simpa using h1) (by simpa using h2)
    simp only [List.getElem_toArray]
    exact fun E Q q => k E Q q
  · rw [hsz, show ((List.range (min ws.toArray.size ws.toArray.size)).all fun _ => true) = true from List.all_eq_true.mpr fun _ _ => rfl]
    simpa using q
theorem eqT_run (I : Inv X pins σ H s) : ∀ (n : Nat) (A : Around), A.units + n < cLine → ∀ (x y : V) (v u : Value), EqT X.K H n x y → RelV x v → RelV y u → SeqAt.EqP X.prog X.w A s v u true
  | 0, _, _, _, _, _, _, h, _, _ => (show False from h).elim
  | n + 1, A, hu, x, y, v, u, h, rx, ry => by
    have ih := eqT_run I n A.in1 (by show A.units + 1 + n < cLine; omega)
    rcases h with ⟨rfl, f⟩ | ⟨a, rfl, rfl⟩ | h | h
    · exact (eqAt_same rx ry f).eqP
    · cases (show v = Value.ref a from rx)
      cases (show u = Value.ref a from ry)
      exact (SeqAt.EqAt.same _).eqP
    · have step := eqR_run I (A := A) (by omega) ih h rx ry
      obtain ⟨a, b, rfl, rfl⟩ : ∃ a b, x = .ref a ∧ y = .ref b := by
        rcases h with ⟨a, b, _, _, e1, e2, _⟩ | ⟨a, b, _, _, e1, e2, _⟩
        · exact ⟨a, b, e1, e2⟩
        · exact ⟨a, b, e1, e2⟩
      cases (show v = Value.ref a from rx)
      cases (show u = Value.ref b from ry)
      by_cases e : a = b
      · subst e
        exact (SeqAt.EqAt.same _).eqP
      · exact SeqAt.eqP_refs e step
    · have step := eqU_run I (A := A) (by omega) ih h rx ry
      obtain ⟨a, b, _, _, rfl, rfl, _⟩ := h
      cases (show v = Value.ref a from rx)
      cases (show u = Value.ref b from ry)
      by_cases e : a = b
      · subst e
        exact (SeqAt.EqAt.same _).eqP
      · exact SeqAt.eqP_refs e step
end
/-- flat, or a list, a tuple, a dict, the two of them equal -/
def EqS (K : PySem.W.Frag) (H : Hp) (n : Nat) (x y : V) : Prop := EqR K H (EqT K H n) x y ∨ EqU K H (EqT K H n) x y
section
variable {X : Cx}
/-- a == b, equal: flat ones, or lists, tuples, dicts -/
def rEqT (K : PySem.W.Frag) : R2 := fun x y H Q => ((x = y ∧ ((∃ i, x = .int i) ∨ (∃ z, x = .str z) ∨ x = .non ∨ ∃ b, x = .bl b)) ∨ ∃ n, n ≤ 60 ∧ EqS K H n x y) ∧ Q (.bl true) H
theorem op_eqT (hu : X.A.units + 64 < cLine) : OpR X (compareOp .Eq) (rEqT X.K) := by
  intro pins s σ H x y v u Q I rx ry h
  obtain ⟨h, q⟩ := h
  have qq : EP X pins σ Q (Value.bool true) s := ⟨.bl true, H, I, rfl, q⟩
  rcases h with ⟨rfl, ⟨i, rfl⟩ | ⟨z, rfl⟩ | rfl | ⟨b, rfl⟩⟩ | ⟨n, hn, h | h⟩
  · obtain ⟨t, rfl⟩ := (show ∃ t, v = Value.int i t from rx)
    obtain ⟨t', rfl⟩ := (show ∃ t, u = Value.int i t from ry)
    exact SeqAt.RcAt.int_int i t i t' _ _ _ _ (by rw [beq_self_eq_true]; exact qq)
  · obtain ⟨t, rfl⟩ := (show ∃ t, v = Value.str z t from rx)
    obtain ⟨t', rfl⟩ := (show ∃ t, u = Value.str z t from ry)
    exact SeqAt.RcAt.str_str z t z t' _ _ _ _ (by rw [beq_self_eq_true]; exact qq)
  · cases (show v = Value.none from rx)
    cases (show u = Value.none from ry)
    exact SeqAt.RcAt.none_none _ _ _ _ qq
  · cases (show v = Value.bool b from rx)
    cases (show u = Value.bool b from ry)
    exact SeqAt.RcAt.bool_bool b b _ _ _ _ (by rw [beq_self_eq_true]; exact qq)
  · exact eqR_run I (A := X.A) (by omega) (eqT_run I n X.A.in1 (by show X.A.units + 1 + n < cLine; omega)) h rx ry _ _ qq
  · exact eqU_run I (A := X.A) (by omega) (eqT_run I n X.A.in1 (by show X.A.units + 1 + n < cLine; omega)) h rx ry _ _ qq
end
end Ns

namespace Y
open PySem PySem.Spec PyProof.Rows L2 Ns
/-- equal data: True -/
def spAlike (K : PySem.W.Frag) : Sp := fun as H Q _ => ∃ (x y : V) (d : PyData), as = [x, y] ∧ ((x = y ∧ ((∃ i, x = .int i) ∨ (∃ z, x = .str z) ∨ x = .non ∨ ∃ b, x = .bl b)) ∨ ∃ n, n ≤ 60 ∧ EqS K H n x y) ∧ DatV K H x d ∧ DatV K H y d ∧ d.showable = true ∧ d.shown.length ≤ sizeLine ∧ d.depth ≤ 60 ∧ Q (.bl true) H
section
variable {P : Program} {w : World} {K : PySem.W.Frag} {mg : Str → Option Value} {base : Heap}
theorem scA : FnScope ["found", "due"] ["found", "due"] (defScope sAlike) := ⟨rfl, rfl, rfl, by decide +kernel, rfl, by decide +kernel, by decide +kernel⟩
theorem ok_alike {f : Addr} {fd : FuncData} (F : Fun K "_law_alike" "_law_alike" sAlike f fd) (T : Nat0 mg) : GnOk P w K mg base 1 f fd ["found", "due"] (spAlike K) := by
  refine Fun.okG F scA (fun as H Q E h => ?_) (fun cdv A outer s H as Q E hr hgd h => ?_)
  · obtain ⟨x, y, d, rfl, _⟩ := h
    rfl
  · obtain ⟨x, y, d, rfl, he, dx, dy, hs, hz, hd, k⟩ := h
    have hu : (A.deeper (envOfC "_law_alike" (defScope sAlike) s.heap.objs.size f cdv)).units + 64 < cLine := hr.units
    refine ⟨_, pss_one (ps_ret (pe_and (pe_cmpR (op_eqT hu) (pv 0) (pv 1) (nomark _)) (pe_one (pe_cmpR op_eq
      (pe_callB (call_reprD hgd hu) (by rfl) T.repr (by decide +kernel) (pa_cons (pv 0) pa_nil)) (pe_callB (call_reprD hgd hu) (by rfl) T.repr (by decide +kernel) (pa_cons (pv 1) pa_nil)) (nomark _))))), ?_⟩
    refine ⟨_, rfl, _, rfl, he, true, rfl, ?_⟩
    refine iteT ?_
    refine ⟨_, rfl, x, d, rfl, dx, hs, hz, hd, _, rfl, y, d, rfl, dy, hs, hz, hd, rfl, ?_⟩
    rw [decide_eq_true rfl]
    exact k
end
end Y

/-! NsS: sorted(xs) of data that are alike; sorted(d), d with pairs of texts as keys. -/
namespace Ns
open PySem PySem.Spec PyProof.Rows L2
open PySem.W (dataLe AllAlike Sortable EachIs)
section
variable {X : Cx}
theorem each_vals {bs : List (V × PyData)} : ∀ {out : List Value}, EachIs (fun v (b : V × PyData) => RelV b.1 v) out bs → Vals (bs.map (·.1)) out
  | _, .nil => .nil
  | _, .cons h t => .cons h (each_vals t)
theorem vals_each {bs : List (V × PyData)} : ∀ {us : List Value}, Vals (bs.map (·.1)) us → EachIs (fun v (b : V × PyData) => RelV b.1 v) us bs := by
  induction bs with
  | nil => intro us r; cases r; exact .nil
  | cons b bs ih => intro us r; cases r with
    | cons h t => exact .cons h (ih t)
theorem each_and {α β : Type} {R S : α → β → Prop} : ∀ {as : List α} {bs : List β}, EachIs R as bs → (∀ b ∈ bs, ∀ a, R a b → S a b) → EachIs S as bs
  | _, _, .nil, _ => .nil
  | _, _, .cons h t, k => .cons (k _ List.mem_cons_self _ h) (each_and t fun b hb => k b (List.mem_cons_of_mem _ hb))
/-- sorted(xs): alike data in Python's order -/
def rSortG (K : PySem.W.Frag) : List V → Hp → VK → Prop := fun vs H Q => ∃ (a : Addr) (bs : List (V × PyData)), vs = [V.ref a] ∧ SqL K H a (bs.map (·.1)) ∧ (∀ p ∈ bs, DatV K H p.1 p.2 ∧ p.2.depth ≤ 60) ∧ AllAlike (bs.map (·.2)) ∧ Sortable (bs.map (·.2)) ∧ bs.length ≤ sizeLine ∧
  ∀ p, H p = none → Q (.ref p) (upd H p (.lst ((bs.mergeSort (dataLe false (·.2))).map (·.1))))
theorem cr_sortG (hu : X.A.units + 64 < cLine) : CallR X (.builtin "sorted") (rSortG X.K) := by
  intro pins s σ H vs us Q I r h
  obtain ⟨a, bs, rfl, hs, hD, ha, hk, hz, q⟩ := h
  obtain ⟨its, rv, hl, _⟩ := I.list hs
  rw [Vals.ref1 r]
  have e := vals_each rv
  refine PySem.W.sorted_data (enc := fun b : V × PyData => b.2) hl.isList e (each_and e fun b hb v rb => reads_of I (hD b hb).1 rb) ha hk hz (fun b hb => by have := (hD b hb).2; omega) fun out hlo ho => ?_
  obtain ⟨ep, he'⟩ := PyProof.Rows.sortedAll_at s.heap its out.toArray
  have hlen : ((bs.mergeSort (dataLe false (·.2))).map (·.1)).length ≤ sizeLine := by rw [List.length_map, List.length_mergeSort]; exact hz
  exact ⟨.ref _, upd H (s.heap.objs.size + 1) (.lst ((bs.mergeSort (dataLe false (·.2))).map (·.1))), I.laid (t' := s.toks) (fun _ _ => PyProof.Rows.sortedAll_old) (Nat.le_succ _) ⟨hlen, out, ep, each_vals ho, by simpa using he'⟩, rfl, q _ (I.hok.fresh (Nat.le_succ _))⟩
/-- two rows of one length that agree at each place -/
theorem rows_same {α β : Type} {f : α → β} : ∀ {xs : List β} {ks : List α}, xs.length = ks.length → (∀ (j : Nat) (v : β) (b : α), xs[j]? = some v → ks[j]? = some b → v = f b) → xs = ks.map f
  | [], [], _, _ => rfl
  | v :: xs, b :: ks, hl, h => by
    rw [List.map_cons, h 0 v b rfl rfl, rows_same (Nat.succ.inj hl) fun j u c h1 h2 => h (j + 1) u c h1 h2]
/-- a pair of texts as data -/
def pD (k : Str × Str) : PyData := .tuple [.str k.1, .str k.2]
def pK (k : Str × Str) : List Key := [.inr k.1, .inr k.2]
/-- sorted(d), d with pairs of texts as keys: the keys' own tuples -/
def rSortDT : List V → Hp → VK → Prop := fun vs H Q => ∃ (a : Addr) (kvs : List (List Key × V)) (ks : List (Str × Str)), vs = [V.ref a] ∧ Rd H a (.dT kvs) ∧ kvs.map (·.1) = ks.map pK ∧ ks.length ≤ 1000 ∧
  ∀ (p : Addr) (qs : List Addr), H p = none → Paired (fun (q : Addr) (k : Str × Str) => H q = some (.tup [.str k.1, .str k.2])) qs (ks.mergeSort (dataLe false pD)) → Q (.ref p) (upd H p (.lst (qs.map V.ref)))
theorem isKeys_pairs {H : Hp} : ∀ {kvs : List (List Key × V)} {bs : List Addr} {ks : List (Str × Str)}, IsKeys H kvs bs → kvs.map (·.1) = ks.map pK → Paired (fun (q : Addr) (k : Str × Str) => H q = some (.tup [.str k.1, .str k.2])) bs ks
  | [], _, [], .nil, _ => .nil
  | [], _, _ :: _, _, e => by cases e
  | _ :: _, _, [], _, e => by cases e
  | kv :: kvs, _, k :: ks, .cons h t, e => by
    injection e with e1 e2
    refine .cons ?_ (isKeys_pairs t e2)
    rw [show kv.1 = pK k from e1] at h
    exact h
theorem pair_each {R : Addr → Str × Str → Prop} : ∀ {qs : List Addr} {ks : List (Str × Str)}, Paired R qs ks → EachIs (fun v k => ∃ q, v = Value.ref q ∧ R q k) (qs.map Value.ref) ks
  | _, _, .nil => .nil
  | _, _, .cons h t => .cons ⟨_, rfl, h⟩ (pair_each t)
theorem each_pair {R : Addr → Str × Str → Prop} : ∀ {out : List Value} {ks : List (Str × Str)}, EachIs (fun v k => ∃ q, v = Value.ref q ∧ R q k) out ks → ∃ qs : List Addr, out = qs.map Value.ref ∧ Paired R qs ks
  | _, _, .nil => ⟨[], rfl, .nil⟩
  | _, _, .cons ⟨q, e, h⟩ t => by
    obtain ⟨qs, e2, p⟩ := each_pair t
    exact ⟨q :: qs, by rw [e, e2]; rfl, .cons h p⟩
theorem alike_pD (ks : List (Str × Str)) : AllAlike (ks.map pD) := AllAlike.of fun _ _ => by simp [PySem.W.alike, PySem.W.alikeAll, pD]
theorem sortable_pD (ks : List (Str × Str)) : Sortable (ks.map pD) := Sortable.tuples fun _ => ⟨_, _, rfl⟩
theorem cr_sortDT (hc : X.calm = true) (hu : X.A.units + 64 < cLine) : CallR X (.builtin "sorted") rSortDT := by
  intro pins s σ H xs us Q I r h
  obtain ⟨d, kvs, kk, rfl, hd, hkk, h1000, q⟩ := h
  obtain ⟨u, rfl, rx⟩ := r.one
  cases rx
  obtain ⟨z, hs, ks, pr, o, es, ep, ho, hx, hdt, he, hn⟩ := (show ObjOk X.prog X.w H s.heap d (.dT kvs) from hd.ok I.hok)
  have l1 : es.size = ks.length := size_of_entries he
  have l2 : kvs.length = ks.length := Paired.length pr
  have l3 : kvs.length = kk.length := by
    have := congrArg List.length hkk
    rw [List.length_map, List.length_map] at this
    exact this
  have z16 : sizeLine = 16777216 := sizeLine_eq
  refine Calls.call_function_entry PyProof.Rows.kind_sorted PyProof.Rows.plain_sorted PyProof.Rows.entry_sorted (PyProof.Rows.args_sorted1 _) ?_
  unfold Builtin.«sorted»
  refine wpAny_bind (m := checkCount "sorted" 1 1 _) (wpAny_pure ?_)
  refine wpAny_bind (PySem.W.kdu_collect (A := X.A.in1) (kdl_raw hs hx hdt) (I.ok.hd hc) ho (by omega) fun h' tk acc hk it => ?_)
  have hsz : acc.toList.length = ks.length := (Array.length_toList).trans (it.1.trans l1)
  have ea : acc.toList = ks.map fun x => Value.ref x.2.1 := by
    refine rows_same hsz fun j v b hv hb => ?_
    obtain ⟨en, hen, rfl⟩ := it.2 j v ((Array.getElem?_toList).symm.trans hv)
    have q := (entry_at he j).symm.trans hen
    rw [hb] at q
    cases q
    rfl
  have eb : acc.toList = (ks.map fun x => x.2.1).map Value.ref := by rw [ea, List.map_map]; all_goals rfl
  have hP := isKeys_pairs (isKeys_of pr) hkk
  have hal : acc.toList.length = kk.length := by rw [Array.length_toList, it.1, l1, ← l2, l3]
  have I1 : Inv X pins σ H { s with heap := h', toks := tk } := I.kept hk
  refine wpAny_bind (wpAny_newList ?_ (by rw [hal]; omega))
  have hoL : (h'.push (seqObj "list" acc.toList.toArray 0)).get? h'.objs.size = some (seqObj "list" acc.toList.toArray 0) := Heap.get?_push_size _ rfl
  show wpAny _ _ _ _ _ { s with heap := h'.push (seqObj "list" acc.toList.toArray 0), toks := tk }
  have e0 : EachIs (fun v (k : Str × Str) => ∃ q, v = Value.ref q ∧ H q = some (.tup [.str k.1, .str k.2])) acc.toList kk := by
    rw [eb]
    exact pair_each hP
  refine wpAny_bind (wpAny_holding (PySem.W.list_sort_data (enc := pD) (s := { s with heap := h'.push (seqObj "list" acc.toList.toArray 0), toks := tk }) hoL e0 (each_and e0 fun k _ v rv => ?_) (alike_pD kk) (sortable_pD kk) (by omega) (fun k _ => ?_) fun out hlo hO => ?_))
  · obtain ⟨q, rfl, hq⟩ := rv
    obtain ⟨_, its, rv2, ot, hot, hct, nt, hdtt⟩ := (show ObjOk X.prog X.w H h' q (.tup [.str k.1, .str k.2]) from I1.hok q _ hq)
    obtain ⟨u1, u2, rfl, r1, r2⟩ := rv2.two
    obtain ⟨t1, rfl⟩ := r1
    obtain ⟨t2, rfl⟩ := r2
    refine ⟨[], Reads.tuple (Heap.get?_push_of_some _ hot) hct hdtt ?_, fun z => nomatch z⟩
    exact ReadsAll.cons (as := []) (bs := []) (.str _ _) (ReadsAll.cons (as := []) (bs := []) (.str _ _) .nil)
  · have : (pD k).depth = 1 := by simp [pD, PyData.depth, PyData.depthAll]
    show X.A.units + 1 + 1 + _ < _
    omega
  · obtain ⟨qs, eo, pq⟩ := each_pair hO
    obtain ⟨e', he'⟩ := PyProof.Rows.sortedHeap_at (vs := acc.toList) (out := out.toArray) hoL
    have hlen : (qs.map V.ref).length ≤ sizeLine := by
      have : out.length = qs.length := by rw [eo, List.length_map]
      rw [List.length_map]
      omega
    refine wpAny_pure ⟨_, rfl, .ref h'.objs.size, upd H h'.objs.size (.lst (qs.map V.ref)), I1.laid (t' := tk) (fun b u e => ?_) (Nat.le_refl _)
      (show ObjOk X.prog X.w _ _ _ (.lst (qs.map V.ref)) from ⟨hlen, out, e', by rw [eo]; exact vals_refs qs, by simpa using he'⟩), rfl, q _ qs (I1.hok.fresh (Nat.le_refl _)) pq⟩
    have hb : b < h'.objs.size := Heap.lt_size e
    rw [PyProof.Rows.sortedHeap_old (Nat.ne_of_lt hb) (by rw [size_push']; exact Nat.lt_succ_of_lt hb)]
    exact Heap.get?_push_of_some _ e
end
end Ns

/-! NsU: d.update(e), two dicts; the values and the items of a dict. -/
namespace Ns
open PySem PySem.Spec PyProof.Rows L2
open L2.DX (itemsO itemsO_ok takeT)
theorem mergeK_len : ∀ (more kvs : List (Key × V)), (mergeK kvs more).length ≤ kvs.length + more.length
  | [], kvs => Nat.le_refl _
  | p :: more, kvs => by
    have h1 := mergeK_len more (putK kvs p.1 p.2)
    have h2 := length_putK kvs p.1 p.2
    show (mergeK (putK kvs p.1 p.2) more).length ≤ _
    rw [List.length_cons]
    omega
section
variable {X : Cx}
def rDUpd : V → List V → Hp → VK → Prop := fun x xs H Q => ∃ (a b : Addr) (kvs more : List (Key × V)), x = .ref a ∧ xs = [.ref b] ∧ a ≠ b ∧ H a = some (.dK kvs) ∧ H b = some (.dK more) ∧ kvs.length + more.length ≤ sizeLine ∧ Q .non (upd H a (.dK (mergeK kvs more)))
theorem mt_dupd : MtR X "dict.update" rDUpd := by
  intro pins s σ H x xs v us Q I rx rxs h
  obtain ⟨a, b, kvs, more, rfl, rfl, hab, ha, hb, hz, q⟩ := h
  cases rx
  obtain ⟨u, rfl, ru⟩ := vals1 rxs
  cases ru
  obtain ⟨_, da, va, ka, oa⟩ := dk_of I.hok ha
  obtain ⟨_, db, vb, kb, ob⟩ := dk_of I.hok hb
  have lens : va.length + vb.length ≤ sizeLine := by rw [← ka.length, ← kb.length]; exact hz
  refine call_meetsIn PySem.F.slot_dict_update oa.typeIs PySem.F.entry_dict_update (PySem.F.args_dict_update_2 _ _) (meets_dict_update (mixKind X.prog X.w) a b hab db) ⟨va, vb, oa, ob, lens, fun h' m1 _ sb => ?_⟩
  have there : ∃ q, h'.get? a = some q := by
    obtain ⟨q, _, _, hq, _⟩ := m1
    exact ⟨q, hq⟩
  exact ⟨.non, _, d_write (t' := s.toks) I (by rw [ha]; trivial) sb there (dk_new (Nat.le_trans (mergeK_len more kvs) hz) da (KV.merge kb ka) m1), rfl, q⟩
/-- the view d.values() at p -/
def valsO (p d : Addr) : HO := .ext fun h => h.IsValuesView p d
theorem valsO_ok {P : Program} {w : World} {H : Hp} {h : Heap} {p d : Addr} (e : h.get? p = some { cls := .type "dict_values", data := .fields #[.ref d] }) : ObjOk P w H h p (valsO p d) :=
  ⟨⟨_, e, rfl, rfl⟩, ⟨_, e⟩, fun h1 h2 x k => by
    obtain ⟨o, ho, r⟩ := x
    exact ⟨o, k o ho, r⟩⟩
def rItemsK : V → List V → Hp → VK → Prop := fun x xs H Q => ∃ (a : Addr) (kvs : List (Key × V)), x = .ref a ∧ xs = [] ∧ H a = some (.dK kvs) ∧ ∀ p, H p = none → Q (.ref p) (upd H p (itemsO p a))
def rValsK : V → List V → Hp → VK → Prop := fun x xs H Q => ∃ (a : Addr) (kvs : List (Key × V)), x = .ref a ∧ xs = [] ∧ H a = some (.dK kvs) ∧ ∀ p, H p = none → Q (.ref p) (upd H p (valsO p a))
theorem mt_itemsK : MtR X "dict.items" rItemsK := by
  intro pins s σ H x xs v us Q I rx rxs h
  obtain ⟨a, kvs, rfl, rfl, ha, q⟩ := h
  cases rx
  cases rxs
  obtain ⟨_, da, va, ka, oa⟩ := dk_of I.hok ha
  refine call_meetsIn PySem.F.slot_dict_items oa.typeIs PySem.F.entry_dict_items (PySem.F.args_dict_items_1 _) (meets_dict_items (mixKind X.prog X.w) a da) ⟨⟨va, oa⟩, ?_⟩
  exact ⟨.ref s.heap.objs.size, upd H s.heap.objs.size (itemsO s.heap.objs.size a), I.laid (t' := s.toks) (fun b u e => Heap.get?_push_of_some _ e) (Nat.le_refl _) (itemsO_ok (Heap.get?_push_size _ rfl)), rfl, q _ (I.hok.fresh (Nat.le_refl _))⟩
theorem mt_valsK : MtR X "dict.values" rValsK := by
  intro pins s σ H x xs v us Q I rx rxs h
  obtain ⟨a, kvs, rfl, rfl, ha, q⟩ := h
  cases rx
  cases rxs
  obtain ⟨_, da, va, ka, oa⟩ := dk_of I.hok ha
  refine call_meetsIn PySem.F.slot_dict_values oa.typeIs PySem.F.entry_dict_values (PySem.F.args_dict_values_1 _) (meets_dict_values (mixKind X.prog X.w) a da) ⟨⟨va, oa⟩, ?_⟩
  exact ⟨.ref s.heap.objs.size, upd H s.heap.objs.size (valsO s.heap.objs.size a), I.laid (t' := s.toks) (fun b u e => Heap.get?_push_of_some _ e) (Nat.le_refl _) (valsO_ok (Heap.get?_push_size _ rfl)), rfl, q _ (I.hok.fresh (Nat.le_refl _))⟩
/-- sum(d.values()), whole numbers -/
def rSumVals : List V → Hp → VK → Prop := fun xs H Q => ∃ (p a : Addr) (kvs : List (Key × V)) (ns : List Int), xs = [.ref p] ∧ H p = some (valsO p a) ∧ H a = some (.dK kvs) ∧ kvs.map (·.2) = ns.map V.int ∧ Q (.int ns.sum) H
theorem preSum_eq : ∀ ns : List Int, preSum (fun i => ns.getD i 0) ns.length = ns.sum
  | [] => rfl
  | n :: ns => by
    rw [List.length_cons, PySem.W.kdu_shift]
    have ih := preSum_eq ns
    show n + preSum (fun i => ns.getD i 0) ns.length = _
    rw [ih, List.sum_cons]
theorem vals_num {ns : List Int} : ∀ {us : List Value}, Vals (ns.map V.int) us → ∀ (j : Nat) (u : Value), us[j]? = some u → ∃ t, u = .int (ns.getD j 0) t := by
  induction ns with
  | nil => intro us r j u h; cases r; cases h
  | cons n ns ih =>
    intro us r j u h
    cases r with
    | cons a b =>
      cases j with
      | zero =>
        cases h
        exact a
      | succ j => exact ih b j u h
theorem call_sumVals (hc : X.calm = true) : CallR X (.builtin "sum") rSumVals := by
  intro pins s σ H xs us Q I r h
  obtain ⟨p, a, kvs, ns, rfl, hp, ha, hn, q⟩ := h
  obtain rfl := Vals.ref1 r
  have view : s.heap.IsValuesView p a := (show ObjOk X.prog X.w H s.heap p (valsO p a) from I.hok p _ hp).1
  obtain ⟨_, da, va, ka, oa⟩ := dk_of I.hok ha
  obtain ⟨ep, hat⟩ := oa.dictAt
  have src := PySem.W.kdl_values (prog := X.prog) (w := X.w) (knd := mixKind X.prog X.w) (kvs := va) (ep := ep) (r := p) (d := a)
  have ok : s.heap.IsValuesView p a ∧ s.heap.DictAt (mixKind X.prog X.w) a va ep := ⟨view, hat⟩
  have nums := kv_vals ka
  rw [hn] at nums
  have ln : va.length = ns.length := by
    have := nums.length
    rw [List.length_map, List.length_map] at this
    exact this.symm
  refine call_sum_walkAnyS ?_
  obtain ⟨ob, St, step, W, st⟩ := src.iter X.A.in1 s (I.ok.hd hc) ok
  refine step _ _ ⟨s.heap.objs.size, _, _, _, va.length, _, _, fun i => ns.getD i 0, rfl, W.toS, st, fun b hb => ?_, fun i v hv => ?_, fun s' t' hm => ?_⟩
  · have there := src.there _ ok
    have up : s.heap.objs.size < (s.heap.push ob).objs.size := by rw [size_push']; omega
    rcases List.mem_cons.mp hb with e | e
    · rw [e]; exact up
    · rw [List.mem_singleton.mp e]
      exact Nat.lt_trans there.2 up
  · obtain ⟨k, hk⟩ := hv
    exact vals_num nums i v (by rw [List.getElem?_map, hk]; rfl)
  · have kept : ∀ b o, s.heap.get? b = some o → s'.heap.get? b = some o := fun b o e => by
      refine hm.heap b o (fun z => ?_) (Heap.get?_push_of_some _ e)
      have := Heap.lt_size e
      rw [List.mem_singleton.mp z] at this
      exact Nat.lt_irrefl _ this
    rw [Moved.eq_with hm, ln, preSum_eq]
    exact ⟨.int ns.sum, H, I.kept kept, ⟨_, rfl⟩, q⟩
/-- list(d.items()): new pairs -/
def rListItems : List V → Hp → VK → Prop := fun xs H Q => ∃ (p a : Addr) (kvs : List (Key × V)), xs = [.ref p] ∧ H p = some (itemsO p a) ∧ H a = some (.dK kvs) ∧
  ∀ (l : Addr) (ts : List Addr) (H' : Hp), H l = none → Same H H' → H' l = some (.lst (ts.map V.ref)) → Paired (fun (t : Addr) (kv : Key × V) => H' t = some (.tup [kV kv.1, kv.2]) ∧ H t = none) ts kvs → Q (.ref l) H'
theorem key_rel {P : Program} {w : World} {k : Key} {u : Value} (h : (mixKind P w).is k u = true) : RelV (kV k) u := by
  rcases keyIs_shape (show keyIs k u = true from h) with ⟨i, t, rfl, rfl⟩ | ⟨x, t, rfl, rfl⟩
  · exact ⟨t, rfl⟩
  · exact ⟨t, rfl⟩
theorem kv_at : ∀ {ks : List (Key × V)} {vs : List (Key × Value)}, KV ks vs → ∀ {j : Nat} {k : Key} {x : Value}, vs[j]? = some (k, x) → ∃ v, ks[j]? = some (k, v) ∧ RelV v x
  | _, _, .cons (a := a) h t, 0, k, x, e => by
    cases e
    obtain ⟨h1, h2⟩ := h
    have h1' : a.1 = k := h1
    exact ⟨a.2, by rw [← h1']; rfl, h2⟩
  | _, _, .cons h t, j + 1, k, x, e => kv_at t e
theorem pair_rows {R : Addr → Key × V → Prop} : ∀ {ts : List Addr} {kvs : List (Key × V)}, ts.length = kvs.length → (∀ (j : Nat) (t : Addr) (kv : Key × V), ts[j]? = some t → kvs[j]? = some kv → R t kv) → Paired R ts kvs
  | [], [], _, _ => .nil
  | t :: ts, kv :: kvs, hl, h => .cons (h 0 t kv rfl rfl) (pair_rows (Nat.succ.inj hl) fun j a b h1 h2 => h (j + 1) a b h1 h2)
theorem call_listItems (hc : X.calm = true) : CallR X (.type "list") rListItems := by
  intro pins s σ H xs us Q I r h
  obtain ⟨p, a, kvs, rfl, hp, ha, q⟩ := h
  obtain rfl := Vals.ref1 r
  have view : s.heap.IsItemsView p a := (show ObjOk X.prog X.w H s.heap p (itemsO p a) from I.hok p _ hp).1
  obtain ⟨hz, da, va, ka, oa⟩ := dk_of I.hok ha
  obtain ⟨ep, hat⟩ := oa.dictAt
  have lv : kvs.length = va.length := ka.length
  refine PySem.W.kdx_call (I.ok.hd hc) view hat (by rw [← lv]; exact hz) fun h' tk acc c ts kept hS hl hG hacc => ?_
  have nd : ts.Nodup := List.Pairwise.imp (fun h => Nat.ne_of_lt h) hG.rise
  have fr : H s.heap.objs.size = none := I.hok.fresh (Nat.le_refl _)
  have lz : (ts.map V.ref).length ≤ sizeLine := by rw [List.length_map, hl, ← lv]; exact hz
  have I1 : Inv X pins σ (upd H s.heap.objs.size (.lst (ts.map V.ref))) { s with heap := h', toks := tk } :=
    I.laid (t' := tk) kept (Nat.le_refl _) ⟨lz, acc.toList, c, by rw [hacc]; exact vals_refs ts, by rw [Array.toArray_toList]; exact hS⟩
  have made : ∀ (j : Nat) (t : Addr), ts[j]? = some t → ∃ (k : Key) (v : V), kvs[j]? = some (k, v) ∧ ∀ H2, ObjOk X.prog X.w H2 h' t (.tup [kV k, v]) := fun j t ht => by
    obtain ⟨key, k, x, e1, e2, e3⟩ := hG.pairs j t ht
    obtain ⟨v, e4, rv⟩ := kv_at ka e1
    exact ⟨k, v, e4, fun H2 => ⟨(by rw [sizeLine_eq]; show 2 ≤ 16777216; omega), [key, x], .cons (key_rel e2) (.cons rv .nil), ⟨_, e3, rfl, 0, rfl⟩⟩⟩
  obtain ⟨H2, I3, g, qt⟩ := takeT (P := fun t vs => ∃ (j : Nat) (k : Key) (v : V), ts[j]? = some t ∧ kvs[j]? = some (k, v) ∧ vs = [kV k, v]) I ts _ I1 nd fun t ht => by
    obtain ⟨j, hj⟩ := List.mem_iff_getElem?.mp ht
    obtain ⟨k, v, e1, e2⟩ := made j t hj
    have above := hG.above t ht
    exact ⟨Nat.le_of_lt above, by rw [upd_ne (Nat.ne_of_gt above)]; exact I.hok.fresh (Nat.le_of_lt above), [kV k, v], ⟨j, k, v, hj, e1, rfl⟩, e2⟩
  refine ⟨.ref s.heap.objs.size, H2, I3, rfl, q _ ts H2 fr (fun b o e => g b o (by rw [upd_ne (ne_of_none e fr)]; exact e)) (g _ _ upd_same) (pair_rows (by rw [hl, lv]) fun j t kv h1 h2 => ?_)⟩
  obtain ⟨vs, ⟨i, k, v, e1, e2, rfl⟩, e3⟩ := qt t (List.mem_of_getElem? h1)
  have ij : i = j := (List.getElem?_inj (List.getElem?_eq_some_iff.mp e1).1 nd).mp (e1.trans h1.symm)
  rw [ij, h2] at e2
  cases e2
  exact ⟨e3, I.hok.fresh (Nat.le_of_lt (hG.above t (List.mem_of_getElem? h1)))⟩
end
end Ns

/-! NsI: set(xs) of whole numbers, xs a list. -/
namespace Ns
open PySem PySem.Spec PyProof.Rows L2
/-- a set as it is made -/
abbrev setN (w : World) : Obj := { cls := .type "set", dict := none, data := .set #[] 0 (.fresh 0 0 (!w.params.followText "set-order")) }
section
variable {P : Program} {w : World} {A : Around} {E : Value → Shared → Prop} {s : Shared}
set_option maxHeartbeats 3200000 in
theorem set_ofI {l : Addr} {items : Array Value} (ns : List Int) {Q : Value → Shared → Prop} (hh : A.handled = none) (hl : s.heap.IsList l items) (rel : IntsAre items.toList ns) (room : ns.length + 1 < scanBound)
    (q : ∀ (h' : Heap) (tk c : Nat), (∀ b o, s.heap.get? b = some o → h'.get? b = some o) → SetR w h' s.heap.objs.size (fun j => decide (j ∈ ns)) c → c ≤ ns.length → Q (.ref s.heap.objs.size) { s with heap := h', toks := tk }) :
    wpAny (model P w) A (call (.type "set") [.ref l]) Q E s := by
  have sz : items.size = ns.length := by
    have e := IntsAre.length rel
    rw [Array.length_toList] at e
    exact e
  obtain ⟨c, tl, hmro⟩ := F.called_set.mro
  have f1 := F.called_set.made
  have f2 := F.called_set.sub
  have f3 := F.called_set.notType
  have f4 := F.called_set.canCreate
  have f5 := F.typeCall_set_1 (.ref l)
  refine wpAny_call (codeAny_of_tree ?_)
  show wpAny _ _ (callAny (.type "set") _) _ _ _
  refine wpAny_pure ⟨Code.quiet_builtin _ (by decide +kernel), codeAny_builtin F.entry_type_call ?_⟩
  rw [Around.under_plain (weight_type_call_type "set" [.ref l] []) rfl]
  repeat (any_goals (first | assumption | wp_step))
  refine codeAny_mono (code_set_led1 (.ref l) (E := E) (Q₁ := fun obj s₁ => obj = .ref s.heap.objs.size ∧ s₁ = { s with heap := s.heap.push (setN w) }) ⟨rfl, rfl⟩) fun r s₁ hr => ?_
  rcases r with e | fl
  · exact hr
  cases fl with
  | ret obj =>
    obtain ⟨rfl, rfl⟩ := hr
    have at0 : (s.heap.push (setN w)).get? s.heap.objs.size = some (setN w) := Heap.get?_push_size _ rfl
    have ty0 : Shared.TypeIs { s with heap := s.heap.push (setN w) } (.ref s.heap.objs.size) "set" := ⟨_, at0, rfl⟩
    have f6 := F.called_set.init.lookup
    have f7 := F.called_set.init.bind (.ref s.heap.objs.size)
    repeat (any_goals (first | assumption | wp_step))
    refine codeAny_mono (codeAny_call_builtin (R := wants (fun r s₂ => r = .none ∧ ∃ h' tk c, s₂ = { s with heap := h', toks := tk } ∧ (∀ c o, s.heap.get? c = some o → h'.get? c = some o) ∧ SetR w h' s.heap.objs.size (fun j => decide (j ∈ ns)) c ∧ c ≤ ns.length) E)
      F.called_set.init.plain F.entry_set_init (check_set_init_1 ty0 ?_)) fun r₂ s₂ hr₂ => ?_
    · obtain ⟨⟨ocls, odict, odata, oslots⟩, hol, hcl, nl, hdl⟩ := hl
      simp only at hcl hdl
      subst hcl; subst hdl
      have lS : l < s.heap.objs.size := Heap.lt_size hol
      have hol' : (s.heap.push (setN w)).get? l = some { cls := .type "list", dict := odict, data := .seq items nl, slots := oslots } := Heap.get?_push_of_some _ hol
      have g1 := F.sub_list_set
      have g2 := F.sub_list_frozenset
      have g3 : (Value.type "list" == Value.type "dict") = false := by decide
      have isl : (s.heap.push (setN w)).IsList l items := ⟨_, hol', rfl, nl, rfl⟩
      unfold Builtin.«set.__init__» noKeywords Builtin.Frozenset.updateFrom
      generalize keep : pyIter = PI
      wp_walk
      subst keep
      refine wpAny_pyIter_list isl (wpAny_bind (wpAny_runValue ?_))
      have up : (s.heap.push (setN w)).objs.size = s.heap.objs.size + 1 := size_push' _ _
      have nI : l ≠ (s.heap.push (setN w)).objs.size := by rw [up]; exact Nat.ne_of_lt (Nat.lt_succ_of_lt lS)
      have nS : s.heap.objs.size ∉ [(s.heap.push (setN w)).objs.size, l] := fun z => by
        rw [up] at z
        rcases List.mem_cons.mp z with e | e
        · exact Nat.ne_of_lt (Nat.lt_succ_self _) e
        · exact Nat.ne_of_gt lS (List.mem_singleton.mp e)
      have hval : ∀ (i : Nat) (v : Value), items[i]? = some v → ∃ k t, ns[i]? = some k ∧ v = .int k t := fun i v hv => by
        have hi : i < ns.length := by rw [← sz]; exact (Array.getElem?_eq_some_iff.mp hv).1
        obtain ⟨t, e⟩ := IntsAre.int_at rel i v (by rw [Array.getElem?_toList]; exact hv)
        refine ⟨ns[i], t, List.getElem?_eq_getElem hi, ?_⟩
        rw [e, List.getD_eq_getElem?_getD, List.getElem?_eq_getElem hi]
        all_goals rfl
      refine set_update_ints ((Walks.list (by simp [hh]) _ l nI items).toS) s.heap.objs.size nS ns sz room hval items.size 0 _ (Nat.sub_zero _) (Nat.zero_le _) ⟨⟨_, Heap.get?_push_size _ rfl, rfl, rfl⟩, isl.push _⟩
        ⟨0, Nat.le_refl 0, setR_new_at (Heap.get?_push_of_some _ at0)⟩ fun s' c' hm hc hS => ?_
      obtain ⟨h', g', d', tk', os'⟩ := s'
      have e1 : g' = s.gens := hm.gens
      have e2 : d' = s.drawn := hm.drawn
      have e3 : os' = s.os := hm.os
      subst e1
      subst e2
      subst e3
      refine wpAny_pure (wpAny_pure ⟨rfl, h', tk', c', rfl, fun b o e => ?_, hS, by rw [← sz]; exact hc⟩)
      have cl : b < s.heap.objs.size := Heap.lt_size e
      refine hm.heap b o (fun z => ?_) (Heap.get?_push_of_some _ (Heap.get?_push_of_some _ e))
      rcases List.mem_cons.mp z with e | e
      · exact Nat.ne_of_lt cl e
      · rw [List.mem_singleton, up] at e
        exact Nat.ne_of_lt (Nat.lt_succ_of_lt cl) e
    · rcases r₂ with e | fl₂
      · exact hr₂
      cases fl₂ with
      | ret r =>
        obtain ⟨rfl, h', tk, c', rfl, kp, X, m⟩ := hr₂
        repeat (any_goals (first | assumption | wp_step))
        exact q h' tk c' kp X m
      | _ => exact hr₂.elim
  | _ => exact hr.elim
end
section
variable {X : Cx}
/-- set(xs): whole numbers -/
def rSetI (K : PySem.W.Frag) (w : World) : List V → Hp → VK → Prop := fun xs H Q => ∃ (a : Addr) (ns : List Int), xs = [.ref a] ∧ SqL K H a (ns.map V.int) ∧ ns.length ≤ 1000 ∧ ∀ (p : Addr) (c : Nat), c ≤ ns.length → H p = none → Q (.ref p) (upd H p (SetO w p (fun j => decide (j ∈ ns)) c))
theorem vals_ints {ns : List Int} : ∀ {us : List Value}, Vals (ns.map V.int) us → IntsAre us ns := by
  induction ns with
  | nil => intro us r; cases r; exact .nil
  | cons n ns ih => intro us r; cases r with
    | cons h t =>
      obtain ⟨tk, rfl⟩ := h
      exact .cons n tk (ih t)
theorem call_setI (hc : X.calm = true) : CallR X (.type "set") (rSetI X.K X.w) := by
  intro pins s σ H xs us Q I r h
  obtain ⟨a, ns, rfl, hs, hz, q⟩ := h
  obtain ⟨its, rv, hl, _⟩ := I.list hs
  rw [Vals.ref1 r]
  refine set_ofI ns (I.ok.hd hc) hl.isList (by simpa using vals_ints rv) (Nat.lt_of_le_of_lt (show ns.length + 1 ≤ 1001 by omega) (by decide)) fun h' tk c kp R hcl => ?_
  exact ⟨.ref s.heap.objs.size, upd H s.heap.objs.size (SetO X.w s.heap.objs.size (fun j => decide (j ∈ ns)) c), I.laid (t' := tk) kp (Nat.le_refl _) (setO_new R), rfl, q _ c hcl (I.hok.fresh (Nat.le_refl _))⟩
end
end Ns

/-! rows of runs: the numbers alone -/
namespace Y
abbrev Run := Int × Int
/-- the lesser one, as Python's min tells it -/
def mn (i j : Int) : Int := if j < i then j else i
theorem mn_le {i j : Int} (h : i ≤ j) : mn i j = i := by unfold mn; split <;> omega
theorem mn_ge {i j : Int} (h : j ≤ i) : mn i j = j := by unfold mn; split <;> omega
/-- the greater one of 0 and a number -/
def pz (j : Int) : Int := if j > 0 then j else 0
theorem pz_pos {j : Int} (h : 0 ≤ j) : pz j = j := by unfold pz; split <;> omega
theorem pz_neg {j : Int} (h : j ≤ 0) : pz j = 0 := by unfold pz; split <;> omega
/-- the reach, as the program adds it up -/
def rch : List Run → Int → Int
  | [], _ => 0
  | r :: R, h => r.1 * mn r.2 h + rch R (h - mn r.2 h)
/-- the reach, as the law adds it up -/
def lrch : List Run → Int → Int
  | [], _ => 0
  | r :: R, h => r.1 * mn r.2 (pz h) + lrch R (h - r.2)
def stp : List Run → Int → Int
  | [], _ => 0
  | r :: R, h => if h ≤ r.2 then r.1 else stp R (h - r.2)
theorem rch_zero : ∀ {R : List Run}, (∀ r ∈ R, 0 ≤ r.2) → rch R 0 = 0
  | [], _ => rfl
  | r :: R, h => by
    have e : mn r.2 0 = 0 := mn_ge (h r List.mem_cons_self)
    show r.1 * mn r.2 0 + rch R (0 - mn r.2 0) = 0
    rw [e, Int.mul_zero, Int.sub_zero, rch_zero fun q hq => h q (List.mem_cons_of_mem _ hq)]
    rfl
theorem lrch_neg : ∀ {R : List Run} {h : Int}, (∀ r ∈ R, 0 ≤ r.2) → h ≤ 0 → lrch R h = 0
  | [], _, _, _ => rfl
  | r :: R, h, hr, h0 => by
    have h1 := hr r List.mem_cons_self
    show r.1 * mn r.2 (pz h) + lrch R (h - r.2) = 0
    rw [pz_neg h0, mn_ge h1, Int.mul_zero, lrch_neg (fun q hq => hr q (List.mem_cons_of_mem _ hq)) (by omega)]
    rfl
theorem rch_eq : ∀ {R : List Run} {h : Int}, (∀ r ∈ R, 0 ≤ r.2) → 0 ≤ h → lrch R h = rch R h
  | [], _, _, _ => rfl
  | r :: R, h, hr, h0 => by
    have h1 := hr r List.mem_cons_self
    have tl : ∀ q ∈ R, 0 ≤ q.2 := fun q hq => hr q (List.mem_cons_of_mem _ hq)
    show r.1 * mn r.2 (pz h) + lrch R (h - r.2) = r.1 * mn r.2 h + rch R (h - mn r.2 h)
    rw [pz_pos h0]
    by_cases c : h ≤ r.2
    · rw [mn_ge c, Int.sub_self, rch_zero tl, lrch_neg tl (by omega)]
    · rw [mn_le (by omega), rch_eq tl (by omega)]
theorem stp_eq : ∀ {R : List Run} {h : Int}, (∀ r ∈ R, 0 ≤ r.2) → 0 ≤ h → lrch R (h + 1) - lrch R h = stp R (h + 1)
  | [], _, _, _ => rfl
  | r :: R, h, hr, h0 => by
    have h1 := hr r List.mem_cons_self
    have tl : ∀ q ∈ R, 0 ≤ q.2 := fun q hq => hr q (List.mem_cons_of_mem _ hq)
    show r.1 * mn r.2 (pz (h + 1)) + lrch R (h + 1 - r.2) - (r.1 * mn r.2 (pz h) + lrch R (h - r.2)) = if h + 1 ≤ r.2 then r.1 else stp R (h + 1 - r.2)
    rw [pz_pos h0, pz_pos (show 0 ≤ h + 1 by omega)]
    by_cases c : h + 1 ≤ r.2
    · rw [if_pos c, mn_ge c, mn_ge (show h ≤ r.2 by omega), lrch_neg tl (show h + 1 - r.2 ≤ 0 by omega), lrch_neg tl (show h - r.2 ≤ 0 by omega), Int.mul_add, Int.mul_one]
      omega
    · rw [if_neg c, mn_le (show r.2 ≤ h + 1 by omega), mn_le (show r.2 ≤ h by omega)]
      have ih := stp_eq (h := h - r.2) tl (by omega)
      have e1 : h - r.2 + 1 = h + 1 - r.2 := by omega
      rw [e1] at ih
      omega
/-- the whole, the hours, the ends -/
def whl (R : List Run) : Int := (R.map fun r => r.1 * r.2).sum
def hrs (R : List Run) : Int := (R.map (·.2)).sum
def ends : List Run → Int → List Int
  | [], _ => []
  | r :: R, a => (a + r.2) :: ends R (a + r.2)
theorem ends_len : ∀ (R : List Run) (a : Int), (ends R a).length = R.length
  | [], _ => rfl
  | r :: R, a => by
    show (ends R (a + r.2)).length + 1 = R.length + 1
    rw [ends_len]
/-- where the runs so far end -/
theorem hrs_take {R : List Run} {i : Nat} {r : Run} (h : R[i]? = some r) : hrs (R.take (i + 1)) = hrs (R.take i) + r.2 := by
  unfold hrs
  rw [List.take_succ, h]
  simp
theorem ends_take : ∀ {R : List Run} {i : Nat} {r : Run} {a : Int}, R[i]? = some r → ends (R.take (i + 1)) a = ends (R.take i) a ++ [a + hrs (R.take (i + 1))]
  | [], _, _, _, h => by cases h
  | q :: R, 0, r, a, h => by
    show (a + q.2) :: ends (R.take 0) (a + q.2) = [] ++ [a + hrs (q :: R.take 0)]
    rw [List.take_zero]
    simp [ends, hrs]
  | q :: R, i + 1, r, a, h => by
    show (a + q.2) :: ends (R.take (i + 1)) (a + q.2) = ((a + q.2) :: ends (R.take i) (a + q.2)) ++ [a + hrs (q :: R.take (i + 1))]
    rw [ends_take (a := a + q.2) (show R[i]? = some r from h), List.cons_append]
    have e : a + q.2 + hrs (R.take (i + 1)) = a + hrs (q :: R.take (i + 1)) := by
      unfold hrs
      rw [List.map_cons, List.sum_cons]
      omega
    rw [e]
theorem ends_last {R : List Run} {a : Int} (h : R ≠ []) : (ends R a).getLast? = some (a + hrs R) := by
  have pos : 0 < R.length := List.length_pos_iff.mpr h
  obtain ⟨i, hi⟩ : ∃ i, R.length = i + 1 := ⟨R.length - 1, by omega⟩
  obtain ⟨r, hr⟩ : ∃ r, R[i]? = some r := ⟨_, List.getElem?_eq_getElem (by omega)⟩
  have e := ends_take (a := a) hr
  rw [← hi, List.take_length] at e
  rw [e, List.getLast?_append]
  simp
/-- the sums' bounds -/
def Runs (R : List Run) : Prop := R.length ≤ 4 ∧ ∀ r ∈ R, 1 ≤ r.1 ∧ r.1 ≤ 10 ^ 12 ∧ 1 ≤ r.2 ∧ r.2 ≤ 10 ^ 14
theorem Runs.nn {R : List Run} (h : Runs R) : ∀ r ∈ R, 0 ≤ r.2 := fun r hr => by have := (h.2 r hr).2.2.1; omega
theorem Runs.take {R : List Run} (h : Runs R) (i : Nat) : Runs (R.take i) := ⟨by rw [List.length_take]; have := h.1; omega, fun r hr => h.2 r (List.mem_of_mem_take hr)⟩
theorem sum_le {m : Int} (hm : 0 ≤ m) : ∀ {l : List Int}, (∀ i ∈ l, 0 ≤ i ∧ i ≤ m) → 0 ≤ l.sum ∧ l.sum ≤ l.length * m
  | [], _ => by simp
  | i :: l, h => by
    obtain ⟨h1, h2⟩ := sum_le hm (l := l) fun j hj => h j (List.mem_cons_of_mem _ hj)
    obtain ⟨h3, h4⟩ := h i List.mem_cons_self
    rw [List.sum_cons, List.length_cons]
    refine ⟨by omega, ?_⟩
    have e : ((l.length + 1 : Nat) : Int) * m = l.length * m + m := by
      rw [show ((l.length + 1 : Nat) : Int) = (l.length : Int) + 1 by omega, Int.add_mul, Int.one_mul]
    rw [e]
    omega
theorem hrs_bd {R : List Run} (h : Runs R) : 0 ≤ hrs R ∧ hrs R ≤ 4 * 10 ^ 14 := by
  obtain ⟨h1, h2⟩ := sum_le (m := 10 ^ 14) (by decide) (l := R.map (·.2)) fun i hi => by
    obtain ⟨r, hr, rfl⟩ := List.mem_map.mp hi
    obtain ⟨_, _, h3, h4⟩ := h.2 r hr
    omega
  refine ⟨h1, Int.le_trans h2 (Int.mul_le_mul_of_nonneg_right ?_ (by decide))⟩
  rw [List.length_map]
  have := h.1
  omega
theorem mul_bd {a b m n : Int} (h1 : 0 ≤ a) (h2 : a ≤ m) (h3 : 0 ≤ b) (h4 : b ≤ n) (hn : 0 ≤ m) : 0 ≤ a * b ∧ a * b ≤ m * n :=
  ⟨Int.mul_nonneg h1 h3, Int.mul_le_mul h2 h4 h3 hn⟩
theorem whl_bd {R : List Run} (h : Runs R) : 0 ≤ whl R ∧ whl R ≤ 4 * 10 ^ 26 := by
  obtain ⟨h1, h2⟩ := sum_le (m := 10 ^ 26) (by decide) (l := R.map fun r => r.1 * r.2) fun i hi => by
    obtain ⟨r, hr, rfl⟩ := List.mem_map.mp hi
    obtain ⟨h5, h6, h3, h4⟩ := h.2 r hr
    have := mul_bd (m := 10 ^ 12) (n := 10 ^ 14) (show 0 ≤ r.1 by omega) h6 (show 0 ≤ r.2 by omega) h4 (by decide)
    exact ⟨this.1, Int.le_trans this.2 (by decide)⟩
  refine ⟨h1, Int.le_trans h2 (Int.mul_le_mul_of_nonneg_right ?_ (by decide))⟩
  rw [List.length_map]
  have := h.1
  omega
theorem rch_bd : ∀ {R : List Run} {h : Int}, (∀ r ∈ R, 1 ≤ r.1 ∧ r.1 ≤ 10 ^ 12 ∧ 1 ≤ r.2 ∧ r.2 ≤ 10 ^ 14) → 0 ≤ h → 0 ≤ rch R h ∧ rch R h ≤ R.length * 10 ^ 26
  | [], _, _, _ => by simp [rch]
  | r :: R, h, hr, h0 => by
    obtain ⟨h5, h6, h3, h4⟩ := hr r List.mem_cons_self
    have m1 : 0 ≤ mn r.2 h ∧ mn r.2 h ≤ 10 ^ 14 ∧ mn r.2 h ≤ h := by unfold mn; split <;> omega
    have b := mul_bd (m := 10 ^ 12) (n := 10 ^ 14) (show 0 ≤ r.1 by omega) h6 m1.1 m1.2.1 (by decide)
    obtain ⟨i1, i2⟩ := rch_bd (R := R) (h := h - mn r.2 h) (fun q hq => hr q (List.mem_cons_of_mem _ hq)) (by omega)
    show 0 ≤ r.1 * mn r.2 h + rch R (h - mn r.2 h) ∧ r.1 * mn r.2 h + rch R (h - mn r.2 h) ≤ _
    rw [List.length_cons]
    have e : ((R.length + 1 : Nat) : Int) * 10 ^ 26 = R.length * 10 ^ 26 + 10 ^ 26 := by omega
    omega
theorem stp_bd : ∀ {R : List Run} {h : Int}, (∀ r ∈ R, 1 ≤ r.1 ∧ r.1 ≤ 10 ^ 12 ∧ 1 ≤ r.2 ∧ r.2 ≤ 10 ^ 14) → 0 ≤ stp R h ∧ stp R h ≤ 10 ^ 12
  | [], _, _ => by simp [stp]
  | r :: R, h, hr => by
    have := hr r List.mem_cons_self
    have ih := stp_bd (R := R) (h := h - r.2) fun q hq => hr q (List.mem_cons_of_mem _ hq)
    unfold stp
    split <;> omega
/-- the steps laid out -/
def lay (R : List Run) : List Int := R.flatMap fun r => List.replicate r.2.toNat r.1
theorem lay_len {R : List Run} (h : ∀ r ∈ R, 0 ≤ r.2) : ((lay R).length : Int) = hrs R := by
  induction R with
  | nil => rfl
  | cons r R ih =>
    have h1 := h r List.mem_cons_self
    have := ih fun q hq => h q (List.mem_cons_of_mem _ hq)
    unfold lay hrs at this ⊢
    rw [List.flatMap_cons, List.length_append, List.length_replicate, List.map_cons, List.sum_cons]
    omega
theorem lay_sum : ∀ {R : List Run} {n : Nat}, (∀ r ∈ R, 0 ≤ r.2) → ((lay R).take n).sum = rch R n
  | [], n, _ => by simp [lay, rch]
  | r :: R, n, h => by
    have h1 := h r List.mem_cons_self
    have tl : ∀ q ∈ R, 0 ≤ q.2 := fun q hq => h q (List.mem_cons_of_mem _ hq)
    have e : lay (r :: R) = List.replicate r.2.toNat r.1 ++ lay R := by unfold lay; rw [List.flatMap_cons]
    show _ = r.1 * mn r.2 n + rch R (n - mn r.2 n)
    rw [e, List.take_append, List.sum_append, List.take_replicate, List.length_replicate, lay_sum (n := n - r.2.toNat) tl]
    have sr : ∀ (k : Nat) (x : Int), (List.replicate k x).sum = x * k := fun k x => by
      induction k with
      | zero => simp
      | succ k ih =>
        rw [List.replicate_succ, List.sum_cons, ih, show ((k + 1 : Nat) : Int) = (k : Int) + 1 by omega, Int.mul_add, Int.mul_one]
        omega
    rw [sr]
    by_cases c : (n : Int) ≤ r.2
    · rw [mn_ge c, Int.sub_self, rch_zero tl]
      have e1 : n - r.2.toNat = 0 := by omega
      have e2 : min n r.2.toNat = n := by omega
      rw [e1, e2]
      rw [show ((0 : Nat) : Int) = 0 from rfl, rch_zero tl]
    · rw [mn_le (by omega)]
      have e2 : min n r.2.toNat = r.2.toNat := by omega
      rw [e2, show ((n - r.2.toNat : Nat) : Int) = (n : Int) - r.2 by omega, show ((r.2.toNat : Nat) : Int) = r.2 by omega]
theorem lay_at : ∀ {R : List Run} {n : Nat}, (∀ r ∈ R, 0 ≤ r.2) → ((lay R)[n]?).getD 0 = stp R ((n : Int) + 1)
  | [], n, _ => by simp [lay, stp]
  | r :: R, n, h => by
    have h1 := h r List.mem_cons_self
    have tl : ∀ q ∈ R, 0 ≤ q.2 := fun q hq => h q (List.mem_cons_of_mem _ hq)
    have e : lay (r :: R) = List.replicate r.2.toNat r.1 ++ lay R := by unfold lay; rw [List.flatMap_cons]
    show _ = if (n : Int) + 1 ≤ r.2 then r.1 else stp R ((n : Int) + 1 - r.2)
    rw [e]
    by_cases c : (n : Int) + 1 ≤ r.2
    · rw [if_pos c, List.getElem?_append_left (by rw [List.length_replicate]; omega), List.getElem?_replicate, if_pos (by omega)]
      rfl
    · rw [if_neg c, List.getElem?_append_right (by rw [List.length_replicate]; omega), List.length_replicate, lay_at (n := n - r.2.toNat) tl]
      have e2 : ((n - r.2.toNat : Nat) : Int) + 1 = (n : Int) + 1 - r.2 := by omega
      rw [e2]
/-- the law's own laying out -/
def laid (R : List Run) : List Int := R.flatMap fun r => List.replicate (mn r.2 200).toNat r.1
theorem laid_eq {R : List Run} (h : ∀ r ∈ R, 0 ≤ r.2) (hs : hrs R ≤ 200) : laid R = lay R := by
  induction R with
  | nil => rfl
  | cons r R ih =>
    have h1 := h r List.mem_cons_self
    have tl : ∀ q ∈ R, 0 ≤ q.2 := fun q hq => h q (List.mem_cons_of_mem _ hq)
    have p : 0 ≤ hrs R := by rw [← lay_len tl]; omega
    have e : hrs (r :: R) = r.2 + hrs R := by unfold hrs; rw [List.map_cons, List.sum_cons]
    have := ih tl (by omega)
    unfold laid lay at this ⊢
    rw [List.flatMap_cons, List.flatMap_cons, this, mn_le (show r.2 ≤ 200 by omega)]
theorem laid_len {R : List Run} (h : R.length ≤ 4) : (laid R).length ≤ 800 := by
  have : ∀ R : List Run, (laid R).length ≤ R.length * 200 := fun R => by
    induction R with
    | nil => simp [laid]
    | cons r R ih =>
      unfold laid at ih ⊢
      rw [List.flatMap_cons, List.length_append, List.length_replicate, List.length_cons]
      have : (mn r.2 200).toNat ≤ 200 := by unfold mn; split <;> omega
      omega
  have := this R
  omega
end Y

/-! rows of runs as values; what the program and the law read of them -/
namespace Y
open PySem PySem.Spec PyProof.Rows L2 Ns
open C8 (pss_cut)
theorem s3u {H : Hp} {a q : Addr} {o u : HO} (hq : H q = none) (h : H a = some u) : upd H q o a = some u := by rw [upd_ne (ne_of_none h hq)]; exact h
theorem sqt_more {K : PySem.W.Frag} {H H' : Hp} (m : Same H H') {a : Addr} {xs : List V} (h : SqT K H a xs) : SqT K H' a xs := h.elim (fun z => .inl (z.elim (fun z => .inl (m _ _ z)) fun ⟨o, z⟩ => .inr ⟨o, m _ _ z⟩)) .inr
theorem paired_imp {α β : Type} {R S : α → β → Prop} (k : ∀ a b, R a b → S a b) : ∀ {as : List α} {bs : List β}, Paired R as bs → Paired S as bs
  | _, _, .nil => .nil
  | _, _, .cons h t => .cons (k _ _ h) (paired_imp k t)
theorem paired_snoc {α β : Type} {R : α → β → Prop} {a : α} {b : β} (h : R a b) : ∀ {as : List α} {bs : List β}, Paired R as bs → Paired R (as ++ [a]) (bs ++ [b])
  | _, _, .nil => .cons h .nil
  | _, _, .cons x t => .cons x (paired_snoc h t)
theorem paired_len {α β : Type} {R : α → β → Prop} : ∀ {as : List α} {bs : List β}, Paired R as bs → as.length = bs.length
  | _, _, .nil => rfl
  | _, _, .cons _ t => congrArg (· + 1) (paired_len t)
theorem paired_at {α β : Type} {R : α → β → Prop} : ∀ {as : List α} {bs : List β}, Paired R as bs → ∀ {i : Nat} {a : α}, as[i]? = some a → ∃ b, bs[i]? = some b ∧ R a b
  | _, _, .cons h _, 0, _, e => by cases e; exact ⟨_, rfl, h⟩
  | _, _, .cons _ t, i + 1, _, e => paired_at t e
/-- a tuple of two whole numbers -/
def RunV (K : PySem.W.Frag) (H : Hp) (x : V) (r : Run) : Prop := ∃ a, x = .ref a ∧ SqT K H a [.int r.1, .int r.2]
/-- a tuple of such -/
def RowV (K : PySem.W.Frag) (H : Hp) (v : V) (R : List Run) : Prop := ∃ t xs, v = .ref t ∧ SqT K H t xs ∧ Paired (RunV K H) xs R
theorem RowV.more {K : PySem.W.Frag} {H H' : Hp} {v : V} {R : List Run} (h : RowV K H v R) (m : Same H H') : RowV K H' v R := by
  obtain ⟨t, xs, e, h1, h2⟩ := h
  exact ⟨t, xs, e, sqt_more m h1, paired_imp (fun x r ⟨a, e1, q⟩ => ⟨a, e1, sqt_more m q⟩) h2⟩
theorem int_row {l : List Int} {x : Int} : (l.map V.int ++ [V.int x]) = (l ++ [x]).map V.int := by rw [List.map_append]; rfl
theorem cut_upto (xs : List V) (k : Nat) : cutV xs none (some (k : Int)) = xs.take k := by
  unfold cutV
  rw [HT.sIx_nat, HT.sIx_none, List.drop_zero, Nat.sub_zero]
  rw [List.take_eq_take_iff]
  omega
/-- a list of whole numbers of a sort -/
def IntL (K : PySem.W.Frag) (H : Hp) (v : V) (p : Int → Prop) : Prop := ∃ a ns, v = .ref a ∧ SqL K H a (ns.map V.int) ∧ ns ≠ [] ∧ ns.length ≤ 1000 ∧ ∀ n ∈ ns, p n
theorem IntL.more {K : PySem.W.Frag} {H H' : Hp} {v : V} {p : Int → Prop} (h : IntL K H v p) (m : Same H H') : IntL K H' v p := by
  obtain ⟨a, ns, e, h1, r⟩ := h
  exact ⟨a, ns, e, m.seq h1, r⟩
theorem rg_ints (a b : Int) : rgV a b = ((List.range (b - a).toNat).map fun i => a + ((i : Nat) : Int)).map V.int := by
  unfold rgV
  rw [List.map_map]
  rfl
theorem drop_at {α : Type} {l : List α} {i : Nat} {x : α} (h : l[i]? = some x) : l.drop i = x :: l.drop (i + 1) := by
  obtain ⟨hi, e⟩ := List.getElem?_eq_some_iff.mp h
  rw [List.drop_eq_getElem_cons hi, e]
/-- a number of a row and a number -/
def spRI (K : PySem.W.Frag) (f : List Run → Int → Int) : Sp := fun as H Q _ => ∃ (y : V) (h : Int) (R : List Run), as = [y, .int h] ∧ RowV K H y R ∧ (∀ r ∈ R, -(2 ^ 64) < r.1 ∧ r.1 < 2 ^ 64) ∧ Q (.int (f R h)) H
/-- a number of a row -/
def spR1 (K : PySem.W.Frag) (f : List Run → Int) : Sp := fun as H Q _ => ∃ (y : V) (R : List Run), as = [y] ∧ RowV K H y R ∧ (∀ r ∈ R, -(2 ^ 64) < r.1 ∧ r.1 < 2 ^ 64) ∧ R.length ≤ 1000 ∧ ∀ H', Same H H' → Q (.int (f R)) H'
/-- the ends: a new tuple -/
def spEnds (K : PySem.W.Frag) : Sp := fun as H Q _ => ∃ (y : V) (R : List Run), as = [y] ∧ RowV K H y R ∧ R.length ≤ 1000 ∧ ∀ (p : Addr) (H' : Hp), H' p = some (.tup ((ends R 0).map V.int)) → H p = none → Same H H' → Q (.ref p) H'
/-- the steps laid out: a new list -/
def spLaid (K : PySem.W.Frag) : Sp := fun as H Q _ => ∃ (y : V) (R : List Run), as = [y] ∧ RowV K H y R ∧ Runs R ∧ ∀ (p : Addr) (H' : Hp), H' p = some (.lst (((laid R).take 200).map V.int)) → H p = none → Same H H' → Q (.ref p) H'
section
variable {P : Program} {w : World} {K : PySem.W.Frag} {mg : Str → Option Value} {base : Heap}
theorem scLR : FnScope ["row", "hours", "total", "step", "many"] ["row", "hours"] (defScope sRowReach) := ⟨rfl, rfl, rfl, by decide +kernel, rfl, by decide +kernel, by decide +kernel⟩
theorem ok_rowReach {f : Addr} {fd : FuncData} (F : Fun K "_law_row_reach" "_law_row_reach" sRowReach f fd) (T : Nat0 mg) : FnOk P w K mg base CX0 1 f fd ["row", "hours"] (spRI K lrch) := by
  refine F.ok scLR (fun as H Q E h => ?_) (fun cdv A outer s H as Q E hr h => ?_)
  · obtain ⟨y, h, R, rfl, _⟩ := h
    rfl
  · obtain ⟨y, h, R, rfl, hV, hb, k⟩ := h
    refine ⟨_, pss_cons (ps_set (i := 2) scLR.nd rfl (.inl rfl) pe_int)
      (pss_cons (ps_for PassesOwn.never rfl (pi_tup (pv 0)) (pg_tup rfl (pgs_cons (pg_name (i := 3) scLR.nd rfl (.inl rfl)) (pgs_cons (pg_name (i := 4) scLR.nd rfl (.inl rfl)) pgs_nil)))
        (pss_cons (ps_aug (i := 2) scLR.nd rfl (.inl rfl) (pe_op op_mul (pv 3) (pe_callB (call_min2 rfl) (by rfl) T.min (by decide +kernel) (pa_cons (pv 4) (pa_cons (pe_callB (call_max2 rfl) (by rfl) T.max (by decide +kernel) (pa_cons pe_int (pa_cons (pv 1) pa_nil))) pa_nil)))) ip_add)
        (pss_one (ps_aug (i := 1) scLR.nd rfl (.inl rfl) (pv 4) ip_sub))))
      (pss_one (ps_ret (pv 2)))), ?_⟩
    obtain ⟨t, xs, rfl, h1, h2⟩ := hV
    have lx := paired_len h2
    refine ⟨_, rfl, t, rfl, ⟨_, h1⟩, ?_⟩
    refine for_tup (K := K) (a := t) (xs := xs) (fun i σ H' => ∃ (h' a : Int) (v3 v4 : Option V), σ = [some (.ref t), some (.int h'), some (.int a), v3, v4] ∧ H' = H ∧ a + lrch (R.drop i) h' = lrch R h) ?_ ?_ ?_ ?_
    · exact ⟨h, 0, none, none, rfl, rfl, by rw [List.drop_zero]; omega⟩
    · rintro i σ H' _ ⟨_, _, _, _, _, rfl, _⟩
      exact h1
    · rintro i z σ H' hz ⟨h', a, v3, v4, rfl, rfl, e⟩
      obtain ⟨r, hr, q, rfl, hq⟩ := paired_at h2 hz
      refine ⟨q, _, rfl, hq, rfl, _, _, rfl, _, _, rfl, rfl, ?_⟩
      refine ⟨_, rfl, _, rfl, _, rfl, _, rfl, 0, h', rfl, r.2, pz h', rfl, r.1, mn r.2 (pz h'), rfl, rfl, .inl (hb r (List.mem_of_getElem? hr)), a, _, rfl, rfl, ?_⟩
      refine ⟨_, rfl, _, rfl, h', r.2, rfl, rfl, _, _, _, _, rfl, rfl, ?_⟩
      rw [drop_at hr] at e
      have e' : a + (r.1 * mn r.2 (pz h') + lrch (R.drop (i + 1)) (h' - r.2)) = lrch R h := e
      show a + r.1 * mn r.2 (pz h') + lrch (R.drop (i + 1)) (h' - r.2) = lrch R h
      omega
    · rintro σ H' ⟨h', a, v3, v4, rfl, rfl, e⟩
      rw [lx, List.drop_length] at e
      have e' : a + 0 = lrch R h := e
      refine ⟨_, rfl, ?_⟩
      rw [show a = lrch R h by omega]
      exact k
theorem scWO : FnScope ["stairs", "step", "times"] ["stairs"] (defScope sWholeOf) := ⟨rfl, rfl, rfl, by decide +kernel, rfl, by decide +kernel, by decide +kernel⟩
theorem ok_wholeOf {f : Addr} {fd : FuncData} (F : Fun K "whole_of" "whole_of" sWholeOf f fd) (T : Nat0 mg) : FnOk P w K mg base CX0 1 f fd ["stairs"] (spR1 K whl) := by
  refine F.ok scWO (fun as H Q E h => ?_) (fun cdv A outer s H as Q E hr h => ?_)
  · obtain ⟨y, R, rfl, _⟩ := h
    rfl
  · obtain ⟨y, R, rfl, hV, hb, hl, k⟩ := h
    refine ⟨_, pss_one (ps_ret (pe_callB (cr_sum rfl) (by rfl) T.sum (by decide +kernel) (pa_cons (pe_lc (own := [("step", 1), ("times", 2)]) (g := gTup K 2 (gCons (gName 1) (gCons (gName 2) gNil))) (tt := tYes) rfl scWO.nd (pi_tup (pv 0))
      (blkOk_by (N := ["stairs", "step", "times"]) (sc := defScope sWholeOf) (by decide +kernel)) (fun _ _ _ _ _ => pg_tup rfl (pgs_cons (pg_name (i := 1) scWO.nd rfl (Or.inl rfl)) (pgs_cons (pg_name (i := 2) scWO.nd rfl (Or.inl rfl)) pgs_nil)))
      (fun _ _ _ _ _ => pts_nil) (fun _ _ _ _ _ => pe_op op_mul (pv 1) (pv 2))) pa_nil))), ?_⟩
    obtain ⟨t, xs, rfl, h1, h2⟩ := hV
    have lx := paired_len h2
    refine ⟨_, rfl, t, rfl, ⟨_, h1⟩, fun D hD => ?_⟩
    refine lc_tup (K := K) (a := t) (xs := xs) (fun i H' => H' D = some (.lst (((R.take i).map fun r => r.1 * r.2).map V.int)) ∧ Same H H') ?_ ?_ ?_ ?_
    · exact ⟨by rw [List.take_zero, upd_same]; rfl, fun c u e => by rw [upd_ne (ne_of_none e hD)]; exact e⟩
    · rintro i H' _ ⟨_, m⟩
      exact sqt_more m h1
    · rintro i z H' hz ⟨q1, q2⟩
      obtain ⟨r, hr, q, rfl, hq⟩ := paired_at h2 hz
      refine ⟨q, _, rfl, sqt_more q2 hq, rfl, _, _, rfl, _, _, rfl, rfl, ?_⟩
      refine ⟨rfl, _, rfl, _, rfl, r.1, r.2, rfl, rfl, .inl (hb r (List.mem_of_getElem? hr)), _, q1, ?_, ?_, same_put q2 hD⟩
      · rw [List.length_map, List.length_map, List.length_take]
        exact small1000 (by omega)
      · rw [upd_same, List.take_succ, hr]
        simp
    · rintro H' ⟨q1, q2⟩
      rw [lx, List.take_length] at q1
      exact ⟨D, _, rfl, SqL.of q1, k H' q2⟩
theorem scSM : FnScope ["row", "step", "many"] ["row"] (defScope sStepsMany) := ⟨rfl, rfl, rfl, by decide +kernel, rfl, by decide +kernel, by decide +kernel⟩
theorem ok_stepsMany {f : Addr} {fd : FuncData} (F : Fun K "_law_steps_many" "_law_steps_many" sStepsMany f fd) (T : Nat0 mg) : FnOk P w K mg base CX0 1 f fd ["row"] (spR1 K hrs) := by
  refine F.ok scSM (fun as H Q E h => ?_) (fun cdv A outer s H as Q E hr h => ?_)
  · obtain ⟨y, R, rfl, _⟩ := h
    rfl
  · obtain ⟨y, R, rfl, hV, hb, hl, k⟩ := h
    refine ⟨_, pss_one (ps_ret (pe_callB (cr_sum rfl) (by rfl) T.sum (by decide +kernel) (pa_cons (pe_lc (own := [("step", 1), ("many", 2)]) (g := gTup K 2 (gCons (gName 1) (gCons (gName 2) gNil))) (tt := tYes) rfl scSM.nd (pi_tup (pv 0))
      (blkOk_by (N := ["row", "step", "many"]) (sc := defScope sStepsMany) (by decide +kernel)) (fun _ _ _ _ _ => pg_tup rfl (pgs_cons (pg_name (i := 1) scSM.nd rfl (Or.inl rfl)) (pgs_cons (pg_name (i := 2) scSM.nd rfl (Or.inl rfl)) pgs_nil)))
      (fun _ _ _ _ _ => pts_nil) (fun _ _ _ _ _ => pv 2)) pa_nil))), ?_⟩
    obtain ⟨t, xs, rfl, h1, h2⟩ := hV
    have lx := paired_len h2
    refine ⟨_, rfl, t, rfl, ⟨_, h1⟩, fun D hD => ?_⟩
    refine lc_tup (K := K) (a := t) (xs := xs) (fun i H' => H' D = some (.lst (((R.take i).map (·.2)).map V.int)) ∧ Same H H') ?_ ?_ ?_ ?_
    · exact ⟨by rw [List.take_zero, upd_same]; rfl, fun c u e => by rw [upd_ne (ne_of_none e hD)]; exact e⟩
    · rintro i H' _ ⟨_, m⟩
      exact sqt_more m h1
    · rintro i z H' hz ⟨q1, q2⟩
      obtain ⟨r, hr, q, rfl, hq⟩ := paired_at h2 hz
      refine ⟨q, _, rfl, sqt_more q2 hq, rfl, _, _, rfl, _, _, rfl, rfl, ?_⟩
      refine ⟨rfl, _, rfl, _, q1, ?_, ?_, same_put q2 hD⟩
      · rw [List.length_map, List.length_map, List.length_take]
        exact small1000 (by omega)
      · rw [upd_same, List.take_succ, hr]
        simp
    · rintro H' ⟨q1, q2⟩
      rw [lx, List.take_length] at q1
      exact ⟨D, _, rfl, SqL.of q1, k H' q2⟩
theorem scEO : FnScope ["stairs", "ends", "hour", "step", "times"] ["stairs"] (defScope sEndsOf) := ⟨rfl, rfl, rfl, by decide +kernel, rfl, by decide +kernel, by decide +kernel⟩
theorem ok_endsOf {f : Addr} {fd : FuncData} (F : Fun K "ends_of" "ends_of" sEndsOf f fd) (T : Nat0 mg) : FnOk P w K mg base CX0 1 f fd ["stairs"] (spEnds K) := by
  refine F.ok scEO (fun as H Q E h => ?_) (fun cdv A outer s H as Q E hr h => ?_)
  · obtain ⟨y, R, rfl, _⟩ := h
    rfl
  · obtain ⟨y, R, rfl, hV, hl, k⟩ := h
    refine ⟨_, pss_cons (ps_set (i := 1) scEO.nd rfl (.inl rfl) (pe_lst pa_nil)) (pss_cons (ps_set (i := 2) scEO.nd rfl (.inl rfl) pe_int)
      (pss_cons (ps_for PassesOwn.never rfl (pi_tup (pv 0)) (pg_tup rfl (pgs_cons (pg_name (i := 3) scEO.nd rfl (.inl rfl)) (pgs_cons (pg_name (i := 4) scEO.nd rfl (.inl rfl)) pgs_nil)))
        (pss_cons (ps_aug (i := 2) scEO.nd rfl (.inl rfl) (pv 4) ip_add)
        (pss_one (ps_expr (pe_bm PySem.F.plainAttrs_list PySem.F.slot_list_append PySem.F.type_list_append mt_append (pv 1) (pa_cons (pv 2) pa_nil))))))
      (pss_one (ps_ret (pe_callTy call_tuple_of (by rfl) T.tuple (by decide +kernel) (pa_cons (pv 1) pa_nil)))))), ?_⟩
    obtain ⟨t, xs, rfl, h1, h2⟩ := hV
    have lx := paired_len h2
    refine ⟨by show 0 ≤ sizeLine; decide, fun D hD => ?_⟩
    have m0 : Same H (upd H D (.lst [])) := same_new (Same.refl H) hD
    refine ⟨_, rfl, t, rfl, ⟨_, sqt_more m0 h1⟩, ?_⟩
    refine for_tup (K := K) (a := t) (xs := xs) (fun i σ H' => ∃ v3 v4 : Option V, σ = [some (.ref t), some (.ref D), some (.int (hrs (R.take i))), v3, v4] ∧ H' D = some (.lst ((ends (R.take i) 0).map V.int)) ∧ Same H H') ?_ ?_ ?_ ?_
    · exact ⟨none, none, rfl, by rw [List.take_zero, upd_same]; rfl, m0⟩
    · rintro i σ H' _ ⟨_, _, _, _, m⟩
      exact sqt_more m h1
    · rintro i z σ H' hz ⟨v3, v4, rfl, q1, q2⟩
      obtain ⟨r, hr, q, rfl, hq⟩ := paired_at h2 hz
      refine ⟨q, _, rfl, sqt_more q2 hq, rfl, _, _, rfl, _, _, rfl, rfl, ?_⟩
      refine ⟨_, rfl, _, rfl, _, r.2, rfl, rfl, ?_⟩
      have e1 := hrs_take hr
      have e2 := ends_take (a := 0) hr
      rw [Int.zero_add] at e2
      refine ⟨_, rfl, .inl ⟨rfl, _, SqL.of q1⟩, _, rfl, D, _, _, rfl, rfl, q1, ?_, _, _, by show _ = [_, _, some (V.int (hrs (R.take (i + 1)))), _, _]; rw [e1]; rfl, ?_, same_put q2 hD⟩
      · rw [List.length_map, ends_len, List.length_take]
        exact small1000 (by omega)
      · rw [upd_same, e2, e1, ← int_row]
    · rintro σ H' ⟨v3, v4, rfl, q1, q2⟩
      rw [lx, List.take_length] at q1
      refine ⟨_, rfl, D, _, rfl, .inl ⟨SqL.of q1, fun p hp => ?_⟩⟩
      refine k p _ upd_same ?_ (same_new q2 hp)
      cases e : H p with
      | none => rfl
      | some o => rw [q2 _ _ e] at hp; cases hp
theorem scLD : FnScope ["row", "found", "step", "many"] ["row"] (defScope sLaid) := ⟨rfl, rfl, rfl, by decide +kernel, rfl, by decide +kernel, by decide +kernel⟩
theorem laid_take {R : List Run} {i : Nat} {r : Run} (h : R[i]? = some r) : laid (R.take (i + 1)) = laid (R.take i) ++ List.replicate (mn r.2 200).toNat r.1 := by
  unfold laid
  rw [List.take_succ, h, List.flatMap_append]
  simp
theorem rep_one (x : V) : ∀ n : Nat, (List.replicate n [x]).flatten = List.replicate n x
  | 0 => rfl
  | n + 1 => by rw [List.replicate_succ, List.replicate_succ, List.flatten_cons, rep_one x n]; rfl
end
end Y

namespace Y
open PySem PySem.Spec PyProof.Rows L2 Ns
open C8 (pss_cut)
theorem paired_ref {β : Type} {R : V → β → Prop} {S : Addr → β → Prop} (k : ∀ t r, S t r → R (.ref t) r) : ∀ {ts : List Addr} {bs : List β}, Paired S ts bs → Paired R (ts.map V.ref) bs
  | _, _, .nil => .nil
  | _, _, .cons h t => .cons (k _ _ h) (paired_ref k t)
/-- a row, drawn -/
def spRow (K : PySem.W.Frag) : Sp := fun as H Q _ => ∃ b : Addr, as = [.ref b] ∧ Bag H b ∧ ∀ (t : Addr) (R : List Run) (H' : Hp), Runs R → R.Pairwise (fun x y => y.1 < x.1) → RowV K (wo H' b) (.ref t) R → Bag H' b → Sb b H H' → Q (.ref t) H'
section
variable {P : Program} {w : World} {K : PySem.W.Frag} {mg : Str → Option Value} {base : Heap}
theorem ok_laid {f : Addr} {fd : FuncData} (F : Fun K "_law_laid" "_law_laid" sLaid f fd) (T : Nat0 mg) : FnOk P w K mg base CX0 1 f fd ["row"] (spLaid K) := by
  refine F.ok scLD (fun as H Q E h => ?_) (fun cdv A outer s H as Q E hr h => ?_)
  · obtain ⟨y, R, rfl, _⟩ := h
    rfl
  · obtain ⟨y, R, rfl, hV, hl, k⟩ := h
    refine ⟨_, pss_cons (ps_set (i := 1) scLD.nd rfl (.inl rfl) (pe_lst pa_nil))
      (pss_cons (ps_for PassesOwn.never rfl (pi_tup (pv 0)) (pg_tup rfl (pgs_cons (pg_name (i := 2) scLD.nd rfl (.inl rfl)) (pgs_cons (pg_name (i := 3) scLD.nd rfl (.inl rfl)) pgs_nil)))
        (pss_one (ps_expr (pe_bm PySem.F.plainAttrs_list PySem.F.slot_list_extend PySem.F.type_list_extend mt_extend (pv 1) (pa_cons (pe_op op_rep (pe_lst (pa_cons (pv 2) pa_nil))
          (pe_callB (call_min2 rfl) (by rfl) T.min (by decide +kernel) (pa_cons (pv 3) (pa_cons pe_int pa_nil)))) pa_nil)))))
      (pss_one (ps_ret (pe_slice sl_list (pv 1) po_none (po_some pe_int))))), ?_⟩
    obtain ⟨t, xs, rfl, h1, h2⟩ := hV
    have lx := paired_len h2
    refine ⟨by show 0 ≤ sizeLine; decide, fun D hD => ?_⟩
    have m0 : Same H (upd H D (.lst [])) := same_new (Same.refl H) hD
    refine ⟨_, rfl, t, rfl, ⟨_, sqt_more m0 h1⟩, ?_⟩
    refine for_tup (K := K) (a := t) (xs := xs) (fun i σ H' => ∃ v2 v3 : Option V, σ = [some (.ref t), some (.ref D), v2, v3] ∧ H' D = some (.lst ((laid (R.take i)).map V.int)) ∧ Same H H') ?_ ?_ ?_ ?_
    · exact ⟨none, none, rfl, by rw [List.take_zero, upd_same]; rfl, m0⟩
    · rintro i σ H' _ ⟨_, _, _, _, m⟩
      exact sqt_more m h1
    · rintro i z σ H' hz ⟨v2, v3, rfl, q1, q2⟩
      obtain ⟨r, hr, q, rfl, hq⟩ := paired_at h2 hz
      refine ⟨q, _, rfl, sqt_more q2 hq, rfl, _, _, rfl, _, _, rfl, rfl, ?_⟩
      have hm : mn r.2 200 ≤ 200 := by unfold mn; split <;> omega
      have ll : (laid (R.take i)).length ≤ 800 := laid_len (by rw [List.length_take]; have := hl.1; omega)
      have le : (mn r.2 200).toNat ≤ 200 := by omega
      refine ⟨_, rfl, .inl ⟨rfl, _, SqL.of q1⟩, _, rfl, by show 1 ≤ sizeLine; decide, fun p hp => ⟨_, rfl, r.2, 200, rfl, ?_⟩⟩
      have D1 := s3u (o := .lst [.int r.1]) hp q1
      have m1 := same_new (o := .lst [.int r.1]) q2 hp
      have k0 : 0 ≤ mn r.2 200 ∨ mn r.2 200 < 0 := by omega
      have e1 : (List.replicate (mn r.2 200).toNat [V.int r.1]).flatten = (List.replicate (mn r.2 200).toNat r.1).map V.int := by rw [rep_one, List.map_replicate]
      refine ⟨p, mn r.2 200, [.int r.1], rfl, rfl, upd_same, ?_, by omega, by rw [List.length_singleton]; exact Nat.le_of_lt (small1000 (by omega)), fun u hu => ?_⟩
      · have := (hl.2 r (List.mem_of_getElem? hr)).2.2.1
        unfold mn
        split <;> omega
      have D2 := s3u (o := .lst ((List.replicate (mn r.2 200).toNat r.1).map V.int)) hu D1
      have m2 := same_new (o := .lst ((List.replicate (mn r.2 200).toNat r.1).map V.int)) m1 hu
      rw [e1]
      refine ⟨D, u, _, _, rfl, rfl, D2, upd_same, ?_, _, _, rfl, ?_, same_put m2 hD⟩
      · rw [List.length_map, List.length_map, List.length_replicate]
        exact Nat.le_of_lt (small1000 (by omega))
      · rw [upd_same, laid_take hr, List.map_append]
    · rintro σ H' ⟨v2, v3, rfl, q1, q2⟩
      rw [lx, List.take_length] at q1
      refine ⟨_, rfl, _, rfl, D, _, rfl, SqL.of q1, fun p hp => ?_⟩
      have ec : cutV ((laid R).map V.int) none (some (200 : Int)) = ((laid R).take 200).map V.int := by
        rw [show (200 : Int) = ((200 : Nat) : Int) from rfl, cut_upto, List.map_take]
      rw [ec]
      refine k p _ upd_same ?_ (same_new q2 hp)
      cases e : H p with
      | none => rfl
      | some o => rw [q2 _ _ e] at hp; cases hp
theorem scSR : FnScope ["bag", "times", "steps", "chosen", "turn", "step"] ["bag"] (defScope sSomeRow) := ⟨rfl, rfl, rfl, by decide +kernel, rfl, by decide +kernel, by decide +kernel⟩
theorem ok_someRow {f fT fS : Addr} {fd dT dS : FuncData} (F : Fun K "_law_some_row" "_law_some_row" sSomeRow f fd) (T : Nat0 mg) (FT : Fun K "_law_take" "_law_take" sTake fT dT) (mT : mg "_law_take" = some (.ref fT)) (bT : Binds K dT ["bag", "many"] [])
    (FS : Fun K "_law_some" "_law_some" sSome fS dS) (mS : mg "_law_some" = some (.ref fS)) (bS : Binds K dS ["bag", "things"] []) : FnOk P w K mg base CX0 3 f fd ["bag"] (spRow K) := by
  have GT : FnOk P w K mg base CX0 1 fT dT ["bag", "many"] spTake := ok_take FT T
  have GS : FnOk P w K mg base CX0 2 fS dS ["bag", "things"] (spSome K) := ok_some FS T FT mT bT
  refine F.ok scSR (fun as H Q E h => ?_) (fun cdv A outer s H as Q E hr h => ?_)
  · obtain ⟨b, rfl, _⟩ := h
    rfl
  · obtain ⟨b, rfl, hB, k⟩ := h
    have hr1 : Room 1 _ := hr.mono (by decide)
    refine ⟨_, pss_cons (ps_set (i := 1) scSR.nd rfl (.inr rfl) (pe_call GS hr rfl mS FS.kp bS .nil pass0 (pa_cons (pv 0) (pa_cons (pe_lst (pa_cons (pe_lst (pa_cons pe_int (pa_cons pe_int (pa_cons pe_int pa_nil))))
        (pa_cons (pe_lst (pa_cons pe_int (pa_cons pe_int (pa_cons pe_int pa_nil)))) (pa_cons (pe_lst (pa_cons pe_int (pa_cons (pe_op op_pow pe_int pe_int) (pa_cons (pe_op op_pow pe_int pe_int) (pa_cons pe_int pa_nil))))) pa_nil)))) pa_nil))))
      (pss_cons (ps_set (i := 2) scSR.nd rfl (.inr rfl) (pe_call GS hr rfl mS FS.kp bS .nil pass0 (pa_cons (pv 0) (pa_cons (pe_lst (pa_cons (pe_listRg rfl (by rfl) T.list_ (prg_2 (by rfl) T.range pe_int pe_int))
        (pa_cons (pe_listRg rfl (by rfl) T.list_ (prg_2 (by rfl) T.range pe_int pe_int))
        (pa_cons (pe_lst (pa_cons pe_int (pa_cons pe_int (pa_cons (pe_op op_pow pe_int pe_int) (pa_cons (pe_op op_sub (pe_op op_pow pe_int pe_int) pe_int) (pa_cons (pe_op op_pow pe_int pe_int) (pa_cons pe_int (pa_cons pe_int pa_nil)))))))) pa_nil)))) pa_nil))))
      (pss_cons (ps_set (i := 3) scSR.nd rfl (.inl rfl) (pe_callB (cr_sortedSet rfl) (by rfl) T.sorted (by decide +kernel) (pa_cons (pe_callTy (call_setI rfl) (by rfl) T.set_ (by decide +kernel)
        (pa_cons (pe_lc (own := [("turn", 4)]) (g := gName 4) (tt := tYes) rfl scSR.nd (pi_range1 (by rfl) T.range (pa_cons (pe_call GT hr1 rfl mT FT.kp bT .nil pass0 (pa_cons (pv 0) (pa_cons pe_int pa_nil))) pa_nil))
          (blkOk_by (N := ["bag", "times", "steps", "chosen", "turn", "step"]) (sc := defScope sSomeRow) (by decide +kernel)) (fun _ _ _ _ _ => pg_name (i := 4) scSR.nd rfl (Or.inl rfl)) (fun _ _ _ _ _ => pts_nil)
          (fun _ _ _ _ _ => pe_call GS hr rfl mS FS.kp bS .nil pass0 (pa_cons (pv 0) (pa_cons (pv 2) pa_nil)))) pa_nil)) pa_nil)))
      (pss_one (ps_ret (pe_callTy call_tuple_of (by rfl) T.tuple (by decide +kernel) (pa_cons (pe_lc (own := [("step", 5)]) (g := gName 5) (tt := tYes) rfl scSR.nd (pi_list (pe_revL (pv 3)))
          (blkOk_by (N := ["bag", "times", "steps", "chosen", "turn", "step"]) (sc := defScope sSomeRow) (by decide +kernel)) (fun _ _ _ _ _ => pg_name (i := 5) scSR.nd rfl (Or.inl rfl)) (fun _ _ _ _ _ => pts_nil)
          (fun _ _ _ _ _ => pe_tup (pa_cons (pv 5) (pa_cons (pe_call GS hr rfl mS FS.kp bS .nil pass0 (pa_cons (pv 0) (pa_cons (pv 1) pa_nil))) pa_nil)))) pa_nil)))))), ?_⟩
    -- the times
    refine ⟨_, rfl, by show 3 ≤ sizeLine; decide, fun a1 h1 => ⟨by show 3 ≤ sizeLine; decide, fun a2 h2 => ⟨10, 6, rfl, rfl, ⟨by decide, by decide, by decide⟩, 10, 14, rfl, rfl, ⟨by decide, by decide, by decide⟩, by show 4 ≤ sizeLine; decide, fun a3 h3 => ⟨by show 3 ≤ sizeLine; decide, fun a4 h4 => ?_⟩⟩⟩⟩
    have c1 := hB.new (o := .lst [.int 1, .int 2, .int 3]) h1
    have c2 := c1.new (o := .lst [.int 1, .int 1, .int 2]) h2
    have c3 := c2.new (o := .lst [.int 1, .int (10 ^ (6 : Int).toNat), .int (10 ^ (14 : Int).toNat), .int 3]) h3
    have c4 := c3.new (o := .lst [.ref a1, .ref a2, .ref a3]) h4
    have s4 := ((((Sb.refl b H).new (o := .lst [.int 1, .int 2, .int 3]) h1).new (o := .lst [.int 1, .int 1, .int 2]) h2).new (o := .lst [.int 1, .int (10 ^ (6 : Int).toNat), .int (10 ^ (14 : Int).toNat), .int 3]) h3).new (o := .lst [.ref a1, .ref a2, .ref a3]) h4
    have g1 := s3u (o := .lst [.ref a1, .ref a2, .ref a3]) h4 (s3u (o := .lst [.int 1, .int (10 ^ (6 : Int).toNat), .int (10 ^ (14 : Int).toNat), .int 3]) h3 (s3u (o := .lst [.int 1, .int 1, .int 2]) h2 (upd_same (H := H) (a := a1) (o := .lst [.int 1, .int 2, .int 3]))))
    have g2 := s3u (o := .lst [.ref a1, .ref a2, .ref a3]) h4 (s3u (o := .lst [.int 1, .int (10 ^ (6 : Int).toNat), .int (10 ^ (14 : Int).toNat), .int 3]) h3 (upd_same (H := upd H a1 (.lst [.int 1, .int 2, .int 3])) (a := a2) (o := .lst [.int 1, .int 1, .int 2])))
    have g3 := s3u (o := .lst [.ref a1, .ref a2, .ref a3]) h4 (upd_same (H := upd (upd H a1 (.lst [.int 1, .int 2, .int 3])) a2 (.lst [.int 1, .int 1, .int 2])) (a := a3) (o := .lst [.int 1, .int (10 ^ (6 : Int).toNat), .int (10 ^ (14 : Int).toNat), .int 3]))
    have n1 := hB.ne h1
    have n2 := c1.ne h2
    have n3 := c2.ne h3
    refine ⟨b, a4, [.ref a1, .ref a2, .ref a3], rfl, c4, SqL.of ((wo_ne (c3.ne h4)).trans upd_same), (fun z => nomatch z), by show 3 ≤ 1000000; decide, fun vt H5 ht c5 s5 => ?_⟩
    have It : IntL K (wo H5 b) vt (fun n => 1 ≤ n ∧ n ≤ 10 ^ 14) := by
      simp only [List.mem_cons, List.not_mem_nil, or_false] at ht
      rcases ht with rfl | rfl | rfl
      · exact ⟨a1, [1, 2, 3], rfl, SqL.of ((wo_ne n1).trans (s5.get g1 n1)), by decide, by decide, by decide⟩
      · exact ⟨a2, [1, 1, 2], rfl, SqL.of ((wo_ne n2).trans (s5.get g2 n2)), by decide, by decide, by decide⟩
      · exact ⟨a3, [1, 10 ^ (6 : Int).toNat, 10 ^ (14 : Int).toNat, 3], rfl, SqL.of ((wo_ne n3).trans (s5.get g3 n3)), by decide, by decide, by decide⟩
    have s05 := s4.trans s5
    clear g1 g2 g3 n1 n2 n3 c1 c2 c3 c4 s4 s5 h1 h2 h3 h4 ht
    -- the steps
    refine ⟨_, rfl, 1, 9, rfl, rfl, RgOk.of_le (by decide) (by decide) (by decide) (by decide), fun a1 h1 => ⟨1, 30, rfl, rfl, RgOk.of_le (by decide) (by decide) (by decide) (by decide), fun a2 h2 => ?_⟩⟩
    refine ⟨10, 6, rfl, rfl, ⟨by decide, by decide, by decide⟩, 10, 12, rfl, rfl, ⟨by decide, by decide, by decide⟩, _, _, rfl, rfl, 10, 11, rfl, rfl, ⟨by decide, by decide, by decide⟩, by show 7 ≤ sizeLine; decide, fun a3 h3 => ⟨by show 3 ≤ sizeLine; decide, fun a4 h4 => ?_⟩⟩
    have c6 := c5.new (o := .lst (rgV 1 9)) h1
    have c7 := c6.new (o := .lst (rgV 1 30)) h2
    have c8 := c7.new (o := .lst [.int 1, .int 2, .int (10 ^ (6 : Int).toNat), .int (10 ^ (12 : Int).toNat - 1), .int (10 ^ (11 : Int).toNat), .int 7, .int 8]) h3
    have c9 := c8.new (o := .lst [.ref a1, .ref a2, .ref a3]) h4
    have s9 := ((((Sb.refl b H5).new (o := .lst (rgV 1 9)) h1).new (o := .lst (rgV 1 30)) h2).new (o := .lst [.int 1, .int 2, .int (10 ^ (6 : Int).toNat), .int (10 ^ (12 : Int).toNat - 1), .int (10 ^ (11 : Int).toNat), .int 7, .int 8]) h3).new (o := .lst [.ref a1, .ref a2, .ref a3]) h4
    have g1 := s3u (o := .lst [.ref a1, .ref a2, .ref a3]) h4 (s3u (o := .lst [.int 1, .int 2, .int (10 ^ (6 : Int).toNat), .int (10 ^ (12 : Int).toNat - 1), .int (10 ^ (11 : Int).toNat), .int 7, .int 8]) h3 (s3u (o := .lst (rgV 1 30)) h2 (upd_same (H := H5) (a := a1) (o := .lst (rgV 1 9)))))
    have g2 := s3u (o := .lst [.ref a1, .ref a2, .ref a3]) h4 (s3u (o := .lst [.int 1, .int 2, .int (10 ^ (6 : Int).toNat), .int (10 ^ (12 : Int).toNat - 1), .int (10 ^ (11 : Int).toNat), .int 7, .int 8]) h3 (upd_same (H := upd H5 a1 (.lst (rgV 1 9))) (a := a2) (o := .lst (rgV 1 30))))
    have g3 := s3u (o := .lst [.ref a1, .ref a2, .ref a3]) h4 (upd_same (H := upd (upd H5 a1 (.lst (rgV 1 9))) a2 (.lst (rgV 1 30))) (a := a3) (o := .lst [.int 1, .int 2, .int (10 ^ (6 : Int).toNat), .int (10 ^ (12 : Int).toNat - 1), .int (10 ^ (11 : Int).toNat), .int 7, .int 8]))
    have n1 := c5.ne h1
    have n2 := c6.ne h2
    have n3 := c7.ne h3
    refine ⟨b, a4, [.ref a1, .ref a2, .ref a3], rfl, c9, SqL.of ((wo_ne (c8.ne h4)).trans upd_same), (fun z => nomatch z), by show 3 ≤ 1000000; decide, fun vs H6 ht c10 s10 => ?_⟩
    have Is : IntL K (wo H6 b) vs (fun n => 1 ≤ n ∧ n ≤ 10 ^ 12) := by
      simp only [List.mem_cons, List.not_mem_nil, or_false] at ht
      rcases ht with rfl | rfl | rfl
      · exact ⟨a1, _, rfl, by rw [← rg_ints]; exact SqL.of ((wo_ne n1).trans (s10.get g1 n1)), by decide, by decide, by decide⟩
      · exact ⟨a2, _, rfl, by rw [← rg_ints]; exact SqL.of ((wo_ne n2).trans (s10.get g2 n2)), by decide, by decide, by decide⟩
      · exact ⟨a3, [1, 2, 10 ^ (6 : Int).toNat, 10 ^ (12 : Int).toNat - 1, 10 ^ (11 : Int).toNat, 7, 8], rfl, SqL.of ((wo_ne n3).trans (s10.get g3 n3)), by decide, by decide, by decide⟩
    have s06 := (s05.trans s9).trans s10
    have It6 : IntL K (wo H6 b) vt (fun n => 1 ≤ n ∧ n ≤ 10 ^ 14) := (It.more s9.1).more s10.1
    clear g1 g2 g3 n1 n2 n3 c6 c7 c8 c9 s9 s10 h1 h2 h3 h4 ht s05 It c5
    obtain ⟨as, ss, rfl, is1, is2, is3, is4⟩ := Is
    obtain ⟨at', st, rfl, it1, it2, it3, it4⟩ := It6
    -- chosen
    refine ⟨_, rfl, b, 5, rfl, c10, by decide, by decide, fun v H7 v0 v1 c11 s11 => ⟨v, rfl, by omega, by omega, fun D hD => ?_⟩⟩
    have nD := c11.ne hD
    refine lc_range (lo := 0) (n := v.toNat) (fun i H' => ∃ ns : List Int, H' D = some (.lst (ns.map V.int)) ∧ ns.length = i ∧ (∀ n ∈ ns, 1 ≤ n ∧ n ≤ 10 ^ 12) ∧ Bag H' b ∧ Sb b H7 H') ?_ ?_ ?_
    · exact ⟨[], upd_same, rfl, (fun _ z => nomatch z), c11.new hD, (Sb.refl b H7).new hD⟩
    · rintro i H' hi ⟨ns, q1, q2, q3, q4, q5⟩
      refine ⟨rfl, _, rfl, _, rfl, b, as, _, rfl, q4, Same.seq q5.1 (Same.seq s11.1 is1), by simpa using is2, by rw [List.length_map]; omega, fun x H'' hx c12 s12 => ?_⟩
      obtain ⟨z, hz, rfl⟩ := List.mem_map.mp hx
      refine ⟨ns.map V.int, s12.get q1 nD, by rw [List.length_map, q2]; exact small1000 (by omega), ns ++ [z], by rw [upd_same, List.map_append]; rfl, by rw [List.length_append, q2]; rfl, fun n hn => ?_, c11.wr hD (q5.trans s12) c12, (q5.trans s12).wr hD⟩
      rcases List.mem_append.mp hn with h | h
      · exact q3 n h
      · rw [List.mem_singleton.mp h]
        exact is4 z hz
    rintro H8 ⟨ns, q1, q2, q3, q4, q5⟩
    refine ⟨D, ns, rfl, SqL.of q1, by omega, fun p c hc hp => ⟨p, _, c, rfl, upd_same, by omega, fun ms q hpw hmem hlen hq => ?_⟩⟩
    have B9 := (q4.new (o := SetO w p (fun j => decide (j ∈ ns)) c) hp).new (o := .lst (ms.map V.int)) hq
    have S9 := ((s11.trans q5).new (o := SetO w p (fun j => decide (j ∈ ns)) c) hp).new (o := .lst (ms.map V.int)) hq
    have nq : q ≠ b := (q4.new (o := SetO w p (fun j => decide (j ∈ ns)) c) hp).ne hq
    have g9 : upd (upd H8 p (SetO w p (fun j => decide (j ∈ ns)) c)) q (.lst (ms.map V.int)) q = some (.lst (ms.map V.int)) := upd_same
    have ml : ms.length ≤ 4 := by omega
    have mp : ∀ n ∈ ms, 1 ≤ n ∧ n ≤ 10 ^ 12 := fun n hn => q3 n (by simpa using (hmem n).mp hn)
    rw [show (cxOf CX0 P w K mg base ["bag", "times", "steps", "chosen", "turn", "step"] "_law_some_row" (defScope sSomeRow) f cdv A outer s H E).nox.w = w from rfl]
    generalize upd (upd H8 p (SetO w p (fun j => decide (j ∈ ns)) c)) q (.lst (ms.map V.int)) = H9 at B9 S9 g9 ⊢
    refine ⟨_, rfl, q, _, rfl, SqL.of g9, fun u hu => ⟨u, rfl, ⟨_, SqL.of upd_same⟩, fun D2 hD2 => ?_⟩⟩
    have B10 := B9.new (o := .lst (ms.map V.int).reverse) hu
    have S10 := S9.new (o := .lst (ms.map V.int).reverse) hu
    have nu := B9.ne hu
    have g10 : upd H9 u (.lst (ms.map V.int).reverse) u = some (.lst (ms.map V.int).reverse) := upd_same
    generalize upd H9 u (.lst (ms.map V.int).reverse) = H10 at B10 S10 g10 hD2 ⊢
    have nD2 := B10.ne hD2
    refine lc_list (K := K) (a := u) (xs := (ms.map V.int).reverse) (fun i H' => ∃ (ts : List Addr) (R : List Run), H' D2 = some (.lst (ts.map V.ref)) ∧ Paired (fun t (r : Run) => H' t = some (.tup [.int r.1, .int r.2]) ∧ t ≠ b ∧ t ≠ D2) ts R ∧ R.map (·.1) = ms.reverse.take i ∧ (∀ r ∈ R, 1 ≤ r.2 ∧ r.2 ≤ 10 ^ 14) ∧ Bag H' b ∧ Sb b H10 H') ?_ ?_ ?_ ?_
    · exact ⟨[], [], upd_same, .nil, by rw [List.take_zero]; rfl, (fun _ z => nomatch z), B10.new hD2, (Sb.refl b H10).new hD2⟩
    · rintro i H' _ ⟨_, _, _, _, _, _, _, sb⟩
      exact SqL.of (sb.get g10 nu)
    · rintro i x H' hx ⟨ts, R, p1, p2, p3, p4, p5, p6⟩
      obtain ⟨z, hz, rfl⟩ : ∃ z, ms.reverse[i]? = some z ∧ x = .int z := by
        rw [← List.map_reverse, List.getElem?_map] at hx
        obtain ⟨z, e1, e2⟩ := Option.map_eq_some_iff.mp hx
        exact ⟨z, e1, e2.symm⟩
      refine ⟨rfl, _, rfl, _, rfl, _, rfl, b, at', _, rfl, p5, Same.seq p6.1 (Same.seq S10.1 it1), by simpa using it2, by rw [List.length_map]; omega, fun y H'' hy b2 s2 => ⟨by show 2 ≤ sizeLine; decide, fun t ht => ?_⟩⟩
      obtain ⟨y', hy', rfl⟩ := List.mem_map.mp hy
      have nt : t ≠ D2 := fun e => by rw [e, s2.get p1 nD2] at ht; cases ht
      have nb := b2.ne ht
      have rl : R.length ≤ 4 := by
        have := congrArg List.length p3
        rw [List.length_map, List.length_take, List.length_reverse] at this
        omega
      have tl := paired_len p2
      refine ⟨ts.map V.ref, s3u ht (s2.get p1 nD2), by rw [List.length_map]; exact small1000 (by omega), ts ++ [t], R ++ [(z, y')], by rw [upd_same, List.map_append]; rfl, ?_, ?_, ?_, B10.wr hD2 ((p6.trans s2).new ht) (b2.new ht), ((p6.trans s2).new ht).wr hD2⟩
      · refine paired_snoc ⟨by rw [upd_ne nt, upd_same], nb, nt⟩ (paired_imp (fun t0 r h => ⟨?_, h.2⟩) p2)
        rw [upd_ne h.2.2]
        exact s3u ht (s2.get h.1 h.2.1)
      · rw [List.map_append, p3, List.take_succ, hz]
        rfl
      · intro r hr
        rcases List.mem_append.mp hr with h | h
        · exact p4 r h
        · rw [List.mem_singleton.mp h]
          exact it4 y' hy'
    · rintro H11 ⟨ts, R, p1, p2, p3, p4, p5, p6⟩
      have p3' : R.map (·.1) = ms.reverse := by
        rw [p3]
        exact List.take_of_length_le (by rw [List.length_reverse, List.length_reverse, List.length_map]; omega)
      refine ⟨D2, _, rfl, .inl ⟨SqL.of p1, fun l hl => ?_⟩⟩
      have nl := p5.ne hl
      refine k l R _ ⟨?_, fun r hr => ?_⟩ ?_ ⟨l, ts.map V.ref, rfl, SqT.of ((wo_ne nl).trans upd_same), ?_⟩ (p5.new hl) ((s06.trans (S10.trans p6)).new hl)
      · have := congrArg List.length p3'
        rw [List.length_map, List.length_reverse] at this
        omega
      · have hm : r.1 ∈ ms := by
          have : r.1 ∈ ms.reverse := by rw [← p3']; exact List.mem_map.mpr ⟨r, hr, rfl⟩
          exact List.mem_reverse.mp this
        have h1 := mp _ hm
        have h2 := p4 r hr
        exact ⟨h1.1, h1.2, h2.1, h2.2⟩
      · have : (R.map (·.1)).Pairwise (fun x y => y < x) := by
          rw [p3', List.pairwise_reverse]
          exact hpw
        exact List.pairwise_map.mp this
      · exact paired_ref (fun t r h => ⟨t, rfl, SqT.of ((wo_ne h.2.1).trans (s3u hl h.1))⟩) p2
end
end Y

/-! NsJ: sorted(t) of a tuple of ints. -/
namespace Ns
open PySem PySem.Spec PyProof.Rows L2
section
variable {prog : Program} {w : World} {A : Around} {E : Value → Shared → Prop} {s : Shared}
/-- the heap behind the gathering of a tuple's items -/
abbrev gath (h : Heap) (vs : List Value) : Heap := (h.push (seqObj "list" #[] 0)).update h.objs.size (Obj.mapSeq (· ++ vs.toArray))
theorem gather_tup {l : Addr} {vs : List Value} {Q : List Value → Shared → Prop} (hl : IsTup s.heap l vs.toArray) (hz : vs.length ≤ sizeLine) (h : Q vs { s with heap := gath s.heap vs }) : wpAny (model prog w) A (collect (.ref l)) Q E s := by
  obtain ⟨o, e, cl, n, d⟩ := hl
  have e1 : (s.heap.push (seqObj "list" #[] 0)).get? l = some o := Heap.get?_push_of_some _ e
  have e2 : (s.heap.push (seqObj "list" #[] 0)).get? s.heap.objs.size = some (seqObj "list" #[] 0) := Heap.get?_push_size _ rfl
  have t0 : (Value.type "tuple" == Value.type "tuple") = true := rfl
  unfold collect
  refine wpAny_bind (wpAny_runValue (codeAny_builtin entry_proto_collect' ?_)); show wpAny _ _ (do again (.builtin "list.__iadd__" ⟨[← newList [], .ref l], []⟩)) _ _ s
  refine wpAny_bind (wpAny_newList (wpAny_pure ⟨Code.quiet_builtin _ (by decide +kernel), codeAny_builtin entry_list_iadd' ?_⟩)); show wpAny _ _ (Builtin.List.listExtendWith (.ref s.heap.objs.size) (.ref l) (.ref s.heap.objs.size)) _ _ { s with heap := s.heap.push (seqObj "list" #[] 0) }
  unfold Builtin.List.listExtendWith
  refine wpAny_bind (wpAny_typeOf (T := "tuple") ⟨o, e1, cl⟩ ?_)
  rw [if_pos (by rw [t0, Bool.or_true])]
  refine wpAny_bind (listItems_at e1 d (wpAny_bind (listItems_at (xs := #[]) (n := 0) e2 rfl ?_)))
  rw [if_neg (by simp)]
  refine wpAny_bind (listUpdate_at (xs := #[]) (n := 0) e2 rfl (wpAny_pure ?_) (Nat.zero_le _) (by rw [Array.empty_append, List.size_toArray]; omega))
  show wpAny (model prog w) A (do let q ← load s.heap.objs.size; match q.data with | .seq xs _ => pure xs.toList | _ => unsupported "internal:collect") Q E { s with heap := gath s.heap vs }
  refine wpAny_bind (wpAny_load (get?_update_seq e2 _) ?_)
  show wpAny _ _ (pure ((#[] : Array Value) ++ vs.toArray).toList) Q E _
  have ev : ((#[] : Array Value) ++ vs.toArray).toList = vs := by simp
  rw [ev]
  exact wpAny_pure h
theorem sorted_tupI {l : Addr} {vs : List Value} {ns : List Int} {Q : Value → Shared → Prop} (hl : IsTup s.heap l vs.toArray) (hi : IntsAre vs ns) (hz : vs.length ≤ sizeLine)
    (h : ∀ out : List Value, SrtO.Srtd SrtO.ltIv out → SrtO.Stb SrtO.ltIv out vs → Q (.ref (s.heap.objs.size + 1)) { s with heap := PyProof.Rows.sortedAll s.heap vs out.toArray }) : wpAny (model prog w) A (call (.builtin "sorted") [.ref l]) Q E s := by
  have sz : (gath s.heap vs).objs.size = s.heap.objs.size + 1 := by rw [Heap.size_update, size_push']
  have at1 : ((gath s.heap vs).push (seqObj "list" vs.toArray 0)).get? (s.heap.objs.size + 1) = some (seqObj "list" vs.toArray 0) := by rw [← sz]; exact Heap.get?_push_size _ rfl
  refine Calls.call_function_entry kind_sorted plain_sorted entry_sorted (args_sorted1 _) ?_; unfold Builtin.«sorted»
  refine wpAny_bind (m := checkCount "sorted" 1 1 _) (wpAny_pure (wpAny_bind (gather_tup hl hz (wpAny_bind (wpAny_newList ?_ hz)))))
  show wpAny _ _ _ _ _ { s with heap := (gath s.heap vs).push (seqObj "list" vs.toArray 0) }
  rw [sz]
  have srt := @SrtO.list_sort_ord prog w
  refine wpAny_bind (wpAny_holding (wpAny_call_entry slot_list_sort ⟨_, at1, rfl⟩ entry_list_sort (srt (s := { s with heap := (gath s.heap vs).push (seqObj "list" vs.toArray 0) }) SrtO.swo_int at1 hz (fun two => SrtO.ints_sortable hi two) fun o a b => ⟨_, rfl, ?_⟩) (args_list_sort _)))
  exact wpAny_pure ⟨_, rfl, h o a b⟩
end
/-- sorted(t), a tuple of ints -/
def rSortedTI (K : PySem.W.Frag) : List V → Hp → VK → Prop := fun vs H Q => ∃ (a : Addr) (ns : List Int), vs = [.ref a] ∧ SqT K H a (ns.map V.int) ∧ ∀ (ms : List Int) (p : Addr), ms.Perm ns → ms.Pairwise (· ≤ ·) → H p = none → Q (.ref p) (upd H p (.lst (ms.map V.int)))
theorem cr_sortedTI {X : Cx} : CallR X (.builtin "sorted") (rSortedTI X.K) := by
  intro pins s σ H vs us Q I r h
  obtain ⟨a, ns, rfl, hs, q⟩ := h
  obtain ⟨its, rv, hl, hz⟩ := I.tuple hs
  have hi := rv.ints
  rw [Vals.ref1 r]
  refine sorted_tupI hl hi (by rw [← rv.length]; exact hz) fun out h1 h2 => ?_
  obtain ⟨k1, k2, k3⟩ := SrtO.ints_out hi h1 h2
  obtain ⟨ep, he⟩ := PyProof.Rows.sortedAll_at s.heap its out.toArray
  have len : ((out.map SrtO.iv).map V.int).length ≤ sizeLine := by
    rw [List.length_map, k2.length_eq, ← List.length_map (f := V.int)]
    exact hz
  refine ⟨.ref _, upd H (s.heap.objs.size + 1) (.lst ((out.map SrtO.iv).map V.int)), I.laid (t' := s.toks) (fun _ _ => PyProof.Rows.sortedAll_old) (Nat.le_succ _) ⟨len, out, ep, vals_of_ints k1, he⟩, rfl, ?_⟩
  exact q _ _ k2 k3 (I.hok.fresh (Nat.le_succ _))
end Ns

/-! LamP: a lambda with one parameter. -/
namespace LamP
open PySem PySem.Spec PyProof.Rows L2 LamX
/-- the parameter x; all other names are captured or global -/
structure LamS1 (sc scope : Scope) (x : Str) : Prop where
  kind : scope.kind = .function
  co : scope.isCoroutine = false
  gen : scope.isGenerator = false
  par : scope.names.lookup x = some .local
  noCell : ∀ y ∈ scope.names, y.2 ≠ .cell
  only : ∀ y, scope.names.lookup y = some .local → y = x
  up : ∀ y ∈ scope.names, y.2 = .free → sc.names.lookup y.1 = some .cell ∨ sc.names.lookup y.1 = some .free
/-- the context of such a body -/
def cx1 (X : Cx) (x : Str) (A : Around) (outer : List Env) (s : Shared) (H : Hp) (E : XK) (scope : Scope) (f c' : Addr) : Cx := { lamCx X A outer s H E scope f c' with N := X.N ++ [x] }
section
variable {X : Cx} {pins : List (Addr × Obj)} {σ : L2.St} {H HZ : Hp} {s s1 : Shared} {x : Str} {scope : Scope}
theorem LamS1.has (L : LamS1 X.env.scope scope x) (ok : X.Ok) (y : Str × NameKind) (hy : y ∈ scope.names) (e : y.2 = .free) : ∃ c, X.env.cells.lookup y.1 = some c :=
  (L.up y hy e).elim (fun k => ok.has _ (.inl k)) (fun k => ok.has _ (.inr k))
/-- what is captured is the maker's cell -/
theorem LamS1.cell (L : LamS1 X.env.scope scope x) (ok : X.Ok) {y : Str} {c : Addr} (e : (cloFrom X.env.cells scope.names []).lookup y = some c) : X.env.cells.lookup y = some c := by
  rcases cloFrom_mem (PySem.mem_of_lookup e) with hm | ⟨h1, h2⟩
  · cases hm
  · obtain ⟨d, hd⟩ := L.has ok _ h1 rfl
    have hd : X.env.cells.lookup y = some d := hd
    rw [hd, h2, hd]
    rfl
theorem LamS1.look (L : LamS1 X.env.scope scope x) (ok : X.Ok) {y : Str} (hl : scope.names.lookup y = some .free) : ∃ c, (cloFrom X.env.cells scope.names []).lookup y = some c ∧ X.env.cells.lookup y = some c := by
  obtain ⟨c, hc⟩ := mem_lookup (cloFrom_has (cells := X.env.cells) (acc := []) (PySem.mem_of_lookup hl))
  exact ⟨c, hc, L.cell ok hc⟩
theorem start1 {A : Around} {outer : List Env} {E : XK} {f c' : Addr} {h₁ : Heap} {tk : Nat} {v : V} {u : Value} (I : Inv X pins σ H s) (L : LamS1 X.env.scope scope x) (hx : x ∉ X.N) (rv : L2.RelV v u)
    (e0 : Env0 X.prog X.w X.K X.mg X.base A outer s1 HZ) (hd : A.handled = none) (un : Un (frs X.stack) [] H HZ s.heap s1.heap)
    (hns : h₁.Ns s1.heap.objs.size fun y => ([(x, u)] : List (Str × Value)).reverse.lookup y) (kp : ∀ b o, s1.heap.get? b = some o → h₁.get? b = some o) :
    Inv (cx1 X x A outer s1 HZ E scope f c') [] (σ ++ [some v]) HZ { s1 with heap := h₁, toks := tk } := by
  have keepC : ∀ {c : Addr} {z : Option Value}, H c = none → s.heap.IsCell c z → h₁.IsCell c z := fun {c z} n ⟨o, ho, hd⟩ => by
    obtain ⟨sl, q⟩ := un.any ho n (by simp)
    exact ⟨_, kp _ _ q, hd⟩
  have okC : (cx1 X x A outer s1 HZ E scope f c').Ok := {
    mod := e0.mod, kind := L.kind, glob := rfl, blt := rfl, above := Nat.le_refl _
    inj := fun y z c e1 e2 => I.ok.inj y z c (L.cell I.ok e1) (L.cell I.ok e2)
    has := fun y hy => by
      have hy : scope.names.lookup y = some .cell ∨ scope.names.lookup y = some .free := hy
      rcases hy with k | k
      · exact absurd rfl (L.noCell _ (PySem.mem_of_lookup k))
      · obtain ⟨c, hc, _⟩ := L.look I.ok k
        exact ⟨c, hc⟩
    cab := fun y c z _ => nomatch (show false = true from z)
    hd := fun _ => hd, frames := Around.frames_deeper e0.frames, stk := .inr ⟨rfl, rfl⟩
    exf := fun b z => nomatch (show b ∈ ([] : List Addr) from z)
    bs := e0.bs, bsz := e0.bsz
    noex := fun b _ _ z => nomatch (show b ∈ ([] : List Addr) from z)
    exfs := fun b z => nomatch (show b ∈ ([] : List Addr) from z)
    funs := e0.funs, frf := e0.frf }
  refine { ok := okC, os := rfl, bare := e0.bare, base := Un.kept kp, loc := ⟨_, hns, fun i y w e1 e2 e3 => ?_⟩, cell := fun y c e => ?_, free := e0.hok.fresh (Nat.le_refl _), freeC := fun y c e => ?_, pin := fun q hq => (nomatch (show q ∈ ([] : List (Addr × Obj)) ++ [] from hq)), hok := e0.hok.kept kp, len := ?_ }
  · have e1 : (X.N ++ [x])[i]? = some y := e1
    have e3 : Vis scope y := e3
    by_cases hi : i < X.N.length
    · rw [List.getElem?_append_left hi] at e1
      rw [List.getElem?_append_left (by rw [I.len]; exact hi)] at e2
      have nx : y ≠ x := fun z => hx (by rw [← z]; exact List.mem_of_getElem? e1)
      have k : scope.names.lookup y = some .free := by
        rcases e3 with k | k | k
        · exact absurd (L.only y k) nx
        · exact absurd rfl (L.noCell _ (PySem.mem_of_lookup k))
        · exact k
      obtain ⟨m, _, hl⟩ := I.loc
      have vis : Vis X.env.scope y := .inr (L.up _ (PySem.mem_of_lookup k) rfl)
      obtain ⟨w', r, q⟩ := hl i y w e1 e2 vis
      obtain ⟨c, hc, hm⟩ := L.look I.ok k
      refine ⟨w', r, .inr ⟨.inr k, c, hc, ?_⟩⟩
      rcases q with ⟨k', _⟩ | ⟨_, c3, e', z⟩
      · have k' : X.env.scope.names.lookup y = some .local := k'
        rcases L.up _ (PySem.mem_of_lookup k) rfl with k2 | k2 <;> rw [show X.env.scope.names.lookup y = _ from k2] at k' <;> cases k'
      · rw [hm] at e'
        cases e'
        exact keepC (I.freeC y _ hm) z
    · have hi2 : i = X.N.length := by
        have := (List.getElem?_eq_some_iff.mp e1).1
        rw [List.length_append] at this
        have : i < X.N.length + 1 := this
        omega
      subst hi2
      rw [List.getElem?_append_right (Nat.le_refl _), Nat.sub_self] at e1
      have ey : x = y := Option.some.inj e1
      subst ey
      rw [← I.len, List.getElem?_append_right (Nat.le_refl _), Nat.sub_self] at e2
      have ew : v = w := Option.some.inj (Option.some.inj e2)
      subst ew
      refine ⟨u, rv, .inl ⟨L.par, ?_⟩⟩
      show List.lookup x [(x, u)] = some u
      simp [List.lookup]
  · obtain ⟨w', z⟩ := I.cell y c (L.cell I.ok e)
    exact ⟨w', keepC (I.freeC y c (L.cell I.ok e)) z⟩
  · obtain ⟨w', o, ho, hd⟩ := I.cell y c (L.cell I.ok e)
    exact un.free c o ho (I.freeC y c (L.cell I.ok e)) (by simp)
  · show (σ ++ [some v]).length = (X.N ++ [x]).length
    rw [List.length_append, List.length_append, I.len]
    rfl
end
end LamP

/-! LamP2: a lambda with one parameter is called; it is handed to a def with one more argument. -/
namespace LamP
open PySem PySem.Spec PyProof.Rows L2 LamX
/-- the def's context that got the lambda -/
abbrev gcx (X : Cx) (Ng : List Str) (qg : Str) (sg : Scope) (g : Addr) (cdg : Value) (s : Shared) (H : Hp) : Cx := (cxOf C8.CX0 X.prog X.w X.K X.mg X.base Ng qg sg g cdg X.A X.stack s H C8.E0).nox
section
variable {X : Cx} {pins : List (Addr × Obj)} {σ : L2.St} {H : Hp} {s : Shared} {x : Str} {scope : Scope}
/-- r(e) -/
theorem pe_act1 {Ng : List Str} {qg : Str} {sg : Scope} {g f c' : Addr} {cdg pm ctv : Value} {params : Arguments} {body e : Expr} {k i : Nat} {a : Str} {tb : TE} {ta : TA} {p1 p2 : Pos} (I : Inv X pins σ H s) (L : LamS1 X.env.scope scope x) (hx : x ∉ X.N)
    (hf : s.heap.get? f = some (PySem.W.kla_obj "<lambda>" (X.env.qual ++ "<lambda>") params body scope (cloFrom X.env.cells scope.names []) pm c' ctv)) (hfn : H f = none) (hfr : f ∉ frs X.stack)
    (hbind : ∀ u : Value, bindArgs (PySem.W.kla_fn "<lambda>" (X.env.qual ++ "<lambda>") params body scope (cloFrom X.env.cells scope.names []) pm (.ref c') ctv) ⟨[u], []⟩ = pure [(x, u)])
    (hr : Room (k + 1) (X.A.deeper (envOfC qg sg s.heap.objs.size g cdg)))
    (hbody : ∀ (A : Around) (outer : List Env) (s : Shared) (H : Hp), Room k (A.deeper (lamEnv X scope s.heap.objs.size f c')) → PE (cx1 X x A outer s H C8.E0 scope f c').nox body tb)
    (hN : Ng[i]? = some a) (hv : Vis sg a) (ha : PA (gcx X Ng qg sg g cdg s H) [e] ta) (hst : ∀ env : Env, starEach [e] env = (false, eval e env) :: starEach [] env)
    (hd : (a == ("__debug__" : Str)) = false) (hcd : (a == ("__classdict__" : Str)) = false) :
    PE (gcx X Ng qg sg g cdg s H) (.Call (.Name a p1) [e] [] p2)
      (fun σZ HZ Q => σZ[i]? = some (some (.ref f)) ∧ ta σZ HZ fun vs H1 => ∃ v, vs = [v] ∧ H1 c' = some (CodeO c' (X.env.qual ++ "<lambda>")) ∧ tb (σ ++ [some v]) H1 Q) := by
  refine ⟨fun pinsZ sZ σZ HZ Q IZ h => ?_⟩
  obtain ⟨hs, h⟩ := h
  refine wpAny_Call_Name_kw (thn ((pe_var (pos := p1) (i := i) hN hv hd hcd).run pinsZ sZ σZ HZ (fun v H1 => v = .ref f ∧ H1 = HZ) IZ ⟨.ref f, hs, rfl, rfl⟩) fun u0 s1 ⟨v0, H1, I1, r1, q1⟩ => ?_)
  obtain ⟨ev, eH⟩ := q1
  subst ev eH
  obtain rfl : u0 = Value.ref f := r1
  have at_ : ∀ {s2 : Shared} {H2 : Hp} {ps : List (Addr × Obj)} {σ2 : L2.St}, Inv (gcx X Ng qg sg g cdg s H) ps σ2 H2 s2 → s2.heap.get? f = some (PySem.W.kla_obj "<lambda>" (X.env.qual ++ "<lambda>") params body scope (cloFrom X.env.cells scope.names []) pm c' ctv) :=
    fun J => J.base.keep f _ hf hfn hfr (fun z => nomatch (show f ∈ ([] : List Addr) from z))
  refine PySem.W.callWith_F ⟨_, _, _, _, at_ I1⟩ (thn (ha.run p2 pinsZ s1 σZ H1 _ I1 h) fun us s2 ⟨as, H2, I2, r, q⟩ => ⟨⟨_, _, _, _, at_ I2⟩, ?_⟩) (hst _) (by rfl)
  obtain ⟨v, rfl, hc, ht⟩ := q
  obtain ⟨u, rfl, rv⟩ : ∃ u, us = [u] ∧ L2.RelV v u := by
    cases r with
    | cons h t =>
      cases t with
      | nil => exact ⟨_, rfl, h⟩
  have of2 := at_ I2
  obtain ⟨⟨oc, fs, tk, hoc, hdc, hvc⟩, _, _⟩ := I2.hok c' _ hc
  have rc : codeAny (model X.prog X.w) (X.A.deeper (envOfC qg sg s.heap.objs.size g cdg)) (.call (.ref f) ⟨[u], []⟩) (CR C8.CX0 (envOfC qg sg s.heap.objs.size g cdg :: X.stack) X.prog X.w H2 s2 Q C8.E0) s2 := by
    refine PySem.W.kla_callFunE hr.depth of2 rfl L.co L.gen rfl ⟨c', oc, fs, tk, rfl, hoc, hdc, hvc⟩ ?_
    rw [hbind]
    refine wpAny_pure (wpAny_newFunctionEnv L.noCell (fun y hy => ?_) (fun h₁ hns hsb => ⟨I2.nolimit.fresh _ hsb, ?_⟩) L.kind)
    · rw [List.mem_singleton.mp hy]
      exact L.par
    · have kp : ∀ b o, s2.heap.get? b = some o → h₁.get? b = some o := fun b o z => hsb.extBut b o (Nat.ne_of_lt (Heap.lt_size z)) (Heap.get?_push_of_some _ z)
      have J : Inv (cx1 X x (X.A.deeper (envOfC qg sg s.heap.objs.size g cdg)) (envOfC qg sg s.heap.objs.size g cdg :: X.stack) s2 H2 C8.E0 scope f c') [] (σ ++ [some v]) H2 { s2 with heap := h₁, toks := s2.toks + ([(x, u)] : List (Str × Value)).length } :=
        start1 I L hx rv I2.env0 hr.hd I2.base hns kp
      refine PySem.W.kla_codeExpr (wpAny_mono ((hbody _ _ s2 H2 (hr.deeper _)).run [] _ _ H2 Q (J.wish _) ht) (fun u' s' hq => ?_) fun e s' hq => False.elim hq)
      obtain ⟨w', H', J', rv', q'⟩ := hq
      exact ⟨w', H', J'.os, J'.bare, J'.base, J'.hok, rv', q'⟩
  refine wpAny_call (codeAny_mono rc fun r s' hq => ?_)
  match r, hq with
  | .error _, hq => exact False.elim hq
  | .ok (.ret u), hq => exact I2.after hq
  | .ok .next, hq => exact False.elim hq
  | .ok .brk, hq => exact False.elim hq
  | .ok .cont, hq => exact False.elim hq
end
end LamP

namespace LamP
open PySem PySem.Spec PyProof.Rows L2 LamX
/-- the def that calls what it got first: TT, what it makes of the lambda's reading and of its other argument -/
def Gives1 (X : Cx) (Ng : List Str) (qg : Str) (sg : Scope) (g : Addr) (cdg : Value) (bg : List Stmt) (a : Str) (i : Nat) (q : Str) (TT : V → (V → Hp → VK → Prop) → Hp → VK → Prop) : Prop :=
  ∀ (f c' : Addr) (s : Shared) (H : Hp) (Q : VK) (v2 : V) (tl : V → Hp → VK → Prop),
    (∀ (e : Expr) (ta : TA) (p1 p2 : Pos), PA (gcx X Ng qg sg g cdg s H) [e] ta → (∀ env : Env, starEach [e] env = (false, eval e env) :: starEach [] env) →
      PE (gcx X Ng qg sg g cdg s H) (.Call (.Name a p1) [e] [] p2) (fun σZ HZ Q => σZ[i]? = some (some (.ref f)) ∧ ta σZ HZ fun vs H1 => ∃ v, vs = [v] ∧ H1 c' = some (CodeO c' q) ∧ tl v H1 Q)) →
    H c' = some (CodeO c' q) → TT v2 tl H Q →
    ∃ t, PSs (gcx X Ng qg sg g cdg s H) bg t ∧ t { nx := fun _ H' => Q .non H', rt := Q } (L2.start Ng [.ref f, v2]) H
def tLam1 (T : List (Addr × Str)) (q : Str) (ta : TA) (TT : V → (V → Hp → VK → Prop) → Hp → VK → Prop) (t : TE) : TE := fun σ H Q => Tabs T H ∧ ∀ (H1 : Hp) (c' : Addr), ExtN H H1 → Tabs T H1 → H1 c' = some (CodeO c' q) →
  ta σ H1 fun vs H2 => ∃ v2, vs = [v2] ∧ H2 c' = some (CodeO c' q) ∧ TT v2 (fun v H' Q' => t (σ ++ [some v]) H' Q') H2 Q
section
variable {X : Cx} {x : Str} {scope : Scope}
/-- g(lambda x: body, e) -/
theorem pe_lamcall1 {T : List (Addr × Str)} {TT : V → (V → Hp → VK → Prop) → Hp → VK → Prop} {y a b2 : Str} {g c P : Addr} {k i : Nat} {pg : Arguments} {bg : List Stmt} {sg : Scope} {dV kV doc pm cdv ct oc : Value} {an od : Option Addr} {osl : Array (Option Value)} {Ng : List Str}
    {params : Arguments} {body e : Expr} {t : TE} {ta : TA} {p lpos pos : Pos} (hg : Gl X y) (hm : X.mg y = some (.ref g)) (hk : PySem.W.keepIn X.K (.ref g) = true)
    (lk : X.K.lookup g = some ⟨oc, od, .func (PySem.W.fnOf y y pg bg sg dV kV doc pm an cdv ct), osl⟩) (hcg : PySem.W.codeIn X.K cdv y = true) (hb : L2.Binds X.K (PySem.W.fnOf y y pg bg sg dV kV doc pm an cdv ct) [a, b2] []) (Sg : FnScope Ng [a, b2] sg) (hNg : Ng[i]? = some a) (hva : Vis sg a)
    (hG : Gives1 X Ng y sg g cdv bg a i (X.env.qual ++ "<lambda>") TT)
    (TB : TabB X.base X.mg c P) (hcode : X.env.code = .ref c) (hmT : (P, X.env.qual ++ "<lambda>") ∈ T) (hu : ∀ p ∈ T, p.1 = P → p.2 = X.env.qual ++ "<lambda>") (hr : Room (k + 2) X.A) (L : LamS1 X.env.scope scope x) (hx : x ∉ X.N) (hdef : defaultsOf params X.env = ([], []))
    (hbind : ∀ (q : Str) (cl : List (Str × Addr)) (pm cv ctv u : Value), bindArgs (PySem.W.kla_fn "<lambda>" q params body scope cl pm cv ctv) ⟨[u], []⟩ = pure [(x, u)])
    (hbody : ∀ (A : Around) (outer : List Env) (s : Shared) (H : Hp) (f c' : Addr), Room k (A.deeper (lamEnv X scope s.heap.objs.size f c')) → PE (cx1 X x A outer s H C8.E0 scope f c').nox body t)
    (ha : PA X [e] ta) (hst : ∀ env : Env, starEach [.Lambda params body scope lpos, e] env = (false, eval (.Lambda params body scope lpos) env) :: starEach [e] env := by intro env; rfl) (hpl : (backTo pos (starEach [e] X.env)).any (·.1) = false := by rfl)
    (hdb : (y == ("__debug__" : Str)) = false := by decide) (hd : (a == ("__debug__" : Str)) = false := by decide) (hcd : (a == ("__classdict__" : Str)) = false := by decide) :
    PE X (.Call (.Name y p) [.Lambda params body scope lpos, e] [] pos) (tLam1 T (X.env.qual ++ "<lambda>") ta TT t) := by
  refine ⟨fun pins s σ H Q I h => ?_⟩
  obtain ⟨hT, h⟩ := h
  refine wpAny_Call_Name_kw (ld_glob I hg hm ?_ hdb)
  refine PySem.W.callWith_K (h₀ := X.base) I.ok.mod.kin hk ?_ (hst _) hpl
  rw [hst]
  show wpAny _ _ (spliced ((false, eval (.Lambda params body scope lpos) X.env) :: backTo pos (starEach [e] X.env))) _ _ s
  refine Calls.spliced_cons (lam_make2 I TB hcode hmT hu hT hdef (fun z hz hzf => L.has I.ok z hz hzf) fun f c' pm' ctv H1 s' I1 eN T1 hf hfn hfr hco => ?_)
  have nloc : f ≠ X.env.locals := fun z => by
    obtain ⟨m, ⟨o, es, ep, eo, ed, _⟩, _⟩ := I1.loc
    rw [← z, hf] at eo
    cases eo
    cases ed
  have nfs : f ∉ X.fs := fun z => by
    refine hfr ?_
    rcases I1.ok.stk with w | ⟨w, w2⟩
    · rw [w]; exact z
    · rw [w]
      unfold frs
      rw [List.filterMap_cons]
      split
      · exact z
      · exact List.mem_cons_of_mem _ z
  let ob : Obj := PySem.W.kla_obj "<lambda>" (X.env.qual ++ "<lambda>") params body scope (cloFrom X.env.cells scope.names []) pm' c' ctv
  have I1' : Inv X ((f, ob) :: pins) σ H1 s' := ⟨I1.ok, I1.os, I1.bare, I1.base, I1.loc, I1.cell, I1.free, I1.freeC, fun q hq => by
    rcases List.mem_append.mp hq with z | z
    · exact I1.pin q (List.mem_append_left _ z)
    · rcases List.mem_cons.mp z with z | z
      · rw [z]
        exact ⟨hf, hfn, nloc, nfs, fun v w => nomatch w⟩
      · exact I1.pin q (List.mem_append_right _ z), I1.hok, I1.len⟩
  refine thn (ha.run pos ((f, ob) :: pins) s' σ H1 _ I1' (h H1 c' eN T1 hco)) fun us s2 ⟨as, H2, I2, r, q⟩ => ?_
  obtain ⟨v2, rfl, hco2, ht⟩ := q
  obtain ⟨u2, rfl, rv⟩ : ∃ u, us = [u] ∧ L2.RelV v2 u := by
    cases r with
    | cons h t =>
      cases t with
      | nil => exact ⟨_, rfl, h⟩
  refine ⟨I2.kIn, ?_⟩
  have pf := I2.pin (f, ob) (List.mem_append_right _ List.mem_cons_self)
  have rc : codeAny (model X.prog X.w) X.A (.call (.ref g) ⟨[.ref f, u2], []⟩) (CR C8.CX0 X.stack X.prog X.w H2 s2 Q C8.E0) s2 := by
    refine run_ofS (N := Ng) (ps := [a, b2]) (us := [.ref f, u2]) (vs := [.ref f, v2]) lk hcg Sg hr I2.env0 (hb s2 [.ref f, u2] I2.kIn rfl) (.cons rfl (.cons rv .nil)) rfl fun hr' => ?_
    obtain ⟨t', ht', hq'⟩ := hG f c' s2 H2 Q v2 (fun v H' Q' => t (σ ++ [some v]) H' Q') (fun e' ta' p1 p2 ha' hst' => pe_act1 I2 L hx pf.1 pf.2.1 hfr (fun u => hbind _ _ _ _ _ u) hr' (fun A outer s H hr2 => hbody A outer s H f c' hr2) hNg hva ha' hst' hd hcd) hco2 ht
    exact ⟨t', ht'.nox, hq'⟩
  refine wpAny_call (codeAny_mono rc fun r s' hq => ?_)
  have I3 : Inv X pins σ H2 s2 := ⟨I2.ok, I2.os, I2.bare, I2.base, I2.loc, I2.cell, I2.free, I2.freeC, fun q hq => I2.pin q (by
    rcases List.mem_append.mp hq with z | z
    · exact List.mem_append_left _ z
    · exact List.mem_append_right _ (List.mem_cons_of_mem _ z)), I2.hok, I2.len⟩
  match r, hq with
  | .error _, hq => exact False.elim hq
  | .ok (.ret u), hq => exact I3.after hq
  | .ok .next, hq => exact False.elim hq
  | .ok .brk, hq => exact False.elim hq
  | .ok .cont, hq => exact False.elim hq
end
end LamP

/-! stairs as lists of runs: their reach; rows with the same reach are one -/
namespace RM
abbrev Run := Int × Int
/-- what the first h steps are together -/
def rch : List Run → Int → Int
  | [], _ => 0
  | q :: r, h => q.1 * min q.2 h + rch r (h - min q.2 h)
/-- falling steps from 1 on, below m, each at least once -/
def Vd : Int → List Run → Prop
  | _, [] => True
  | m, q :: r => 1 ≤ q.1 ∧ q.1 < m ∧ 1 ≤ q.2 ∧ Vd q.1 r
theorem Vd.mono : ∀ {r : List Run} {m n : Int}, Vd m r → m ≤ n → Vd n r
  | [], _, _, _, _ => trivial
  | q :: r, m, n, h, e => ⟨h.1, by have := h.2.1; omega, h.2.2.1, h.2.2.2⟩
theorem rch_zero : ∀ {r : List Run} {m : Int}, Vd m r → rch r 0 = 0
  | [], _, _ => rfl
  | q :: r, m, h => by
    show q.1 * min q.2 0 + rch r (0 - min q.2 0) = 0
    have : min q.2 0 = 0 := by have := h.2.2.1; omega
    rw [this, Int.mul_zero, Int.zero_add, show (0 : Int) - 0 = 0 from rfl]
    exact rch_zero h.2.2.2
theorem rch_lo {q : Run} {r : List Run} {m h : Int} (v : Vd m (q :: r)) (h0 : 0 ≤ h) (h1 : h ≤ q.2) : rch (q :: r) h = q.1 * h := by
  show q.1 * min q.2 h + rch r (h - min q.2 h) = _
  have : min q.2 h = h := by omega
  rw [this, Int.sub_self, rch_zero v.2.2.2, Int.add_zero]
theorem rch_hi {q : Run} {r : List Run} {h : Int} (h1 : q.2 ≤ h) : rch (q :: r) h = q.1 * q.2 + rch r (h - q.2) := by
  show q.1 * min q.2 h + rch r (h - min q.2 h) = _
  have : min q.2 h = q.2 := by omega
  rw [this]
/-- the first step, 0 if there is none -/
def top (r : List Run) : Int := match r with | [] => 0 | q :: _ => q.1
theorem rch_one {r : List Run} {m : Int} (v : Vd m r) : rch r 1 = top r := by
  cases r with
  | nil => rfl
  | cons q r =>
    rw [rch_lo v (by decide) v.2.2.1, Int.mul_one]
    rfl
theorem top_lt {r : List Run} {m : Int} (v : Vd m r) (hm : 1 ≤ m) : 0 ≤ top r ∧ top r < m := by
  cases r with
  | nil => exact ⟨Int.le_refl _, by show (0 : Int) < m; omega⟩
  | cons q r => exact ⟨by show 0 ≤ q.1; have := v.1; omega, v.2.1⟩
/-- one hour more: between nothing and the first step -/
theorem rch_step : ∀ {r : List Run} {m h : Int}, Vd m r → 0 ≤ h → rch r h ≤ rch r (h + 1) ∧ rch r (h + 1) ≤ rch r h + top r
  | [], _, _, _, _ => ⟨Int.le_refl _, by show (0 : Int) ≤ 0 + 0; decide⟩
  | q :: r, m, h, v, h0 => by
    have k1 := v.1
    have k2 := v.2.2.1
    by_cases e : h + 1 ≤ q.2
    · rw [rch_lo v (by omega) e, rch_lo v h0 (by omega), Int.mul_add, Int.mul_one]
      exact ⟨by omega, Int.le_refl _⟩
    · rw [rch_hi (q := q) (r := r) (h := h + 1) (by omega), rch_hi (q := q) (r := r) (h := h) (by omega)]
      obtain ⟨a, b⟩ := rch_step (h := h - q.2) v.2.2.2 (by omega)
      rw [show h + 1 - q.2 = h - q.2 + 1 by omega]
      have c := (top_lt v.2.2.2 k1).2
      exact ⟨by omega, by show _ ≤ _ + q.1; omega⟩
/-- rows with the same reach are one -/
theorem rch_inj : ∀ {r r' : List Run} {m m' : Int}, Vd m r → Vd m' r' → (∀ h, 0 ≤ h → rch r h = rch r' h) → r = r'
  | [], [], _, _, _, _, _ => rfl
  | [], q :: r', _, _, _, v', e => by
    have := e 1 (by decide)
    rw [rch_one v'] at this
    have k : (0 : Int) = q.1 := this
    have := v'.1
    omega
  | q :: r, [], _, _, v, _, e => by
    have := e 1 (by decide)
    rw [rch_one v] at this
    have k : q.1 = (0 : Int) := this
    have := v.1
    omega
  | q :: r, q' :: r', m, m', v, v', e => by
    have e1 := e 1 (by decide)
    rw [rch_one v, rch_one v'] at e1
    have e1 : q.1 = q'.1 := e1
    have k1 := v.1
    have k2 := v.2.2.1
    have k2' := v'.2.2.1
    have no : ∀ {a b : Run} {s t : List Run} {n n' : Int}, Vd n (a :: s) → Vd n' (b :: t) → a.1 = b.1 → a.2 < b.2 → rch (a :: s) (a.2 + 1) ≠ rch (b :: t) (a.2 + 1) := fun {a b s t n n'} w w' ea lt z => by
      have j1 := w.1
      have j2 := w.2.2.1
      rw [rch_hi (q := a) (r := s) (by omega), rch_lo w' (by omega) (by omega), show a.2 + 1 - a.2 = 1 by omega, rch_one w.2.2.2, ← ea, Int.mul_add, Int.mul_one] at z
      have := (top_lt w.2.2.2 j1).2
      omega
    have e2 : q.2 = q'.2 := by
      rcases Int.lt_trichotomy q.2 q'.2 with z | z | z
      · exact absurd (e _ (by omega)) (no v v' e1 z)
      · exact z
      · exact absurd (e _ (by omega)).symm (no v' v e1.symm z)
    have e3 : r = r' := rch_inj v.2.2.2 v'.2.2.2 fun h h0 => by
      have := e (q.2 + h) (by omega)
      rw [rch_hi (q := q) (r := r) (by omega), rch_hi (q := q') (r := r') (by omega), ← e1, ← e2, show q.2 + h - q.2 = h by omega] at this
      omega
    rw [e3, show q = q' from Prod.ext e1 e2]
end RM

/-! what a full hour takes of a row: its row behind -/
namespace RM
/-- a run, none if it has no step -/
def one (s t : Int) : List Run := if t = 0 then [] else [(s, t)]
/-- the row behind a sum x, from 1 to the first step -/
def tkc (x : Int) : List Run → List Run
  | [] => []
  | [q] => one q.1 (q.2 - 1) ++ (if q.1 = x then [] else [(q.1 - x, 1)])
  | q :: p :: B => if x ≤ p.1 then q :: tkc x (p :: B) else one q.1 (q.2 - 1) ++ (if q.1 = x then p :: B else (q.1 + p.1 - x, 1) :: (one p.1 (p.2 - 1) ++ B))
theorem vd_one {s t m : Int} {C : List Run} (h1 : 1 ≤ s) (h2 : s < m) (h3 : 0 ≤ t) (v : Vd s C) : Vd m (one s t ++ C) := by
  unfold one
  split
  · exact v.mono (by omega)
  · exact ⟨h1, h2, by show 1 ≤ t; omega, v⟩
theorem rch_oneC {s t m h : Int} {C : List Run} (h0 : 0 ≤ h) (h3 : 0 ≤ t) (v : Vd m C) : rch (one s t ++ C) h = if h ≤ t then s * h else s * t + rch C (h - t) := by
  unfold one
  by_cases e : t = 0
  · rw [if_pos e, List.nil_append]
    by_cases e2 : h ≤ t
    · rw [if_pos e2, show h = 0 by omega, Int.mul_zero, rch_zero v]
    · rw [if_neg e2, e, Int.mul_zero, Int.zero_add, Int.sub_zero]
  · rw [if_neg e]
    show rch ((s, t) :: C) h = _
    by_cases e2 : h ≤ t
    · rw [if_pos e2]
      show s * min t h + rch C (h - min t h) = _
      rw [show min t h = h by omega, Int.sub_self, rch_zero v, Int.add_zero]
    · rw [if_neg e2, rch_hi (q := (s, t)) (by show t ≤ h; omega)]
/-- the two of them that are put together -/
def joint (q p : Run) (B : List Run) (x : Int) : List Run := if q.1 = x then p :: B else (q.1 + p.1 - x, 1) :: (one p.1 (p.2 - 1) ++ B)
theorem vd_joint {q p : Run} {B : List Run} {x : Int} (v : Vd q.1 (p :: B)) (h1 : p.1 < x) (h2 : x ≤ q.1) : Vd q.1 (joint q p B x) := by
  unfold joint
  have k1 := v.1
  have k2 := v.2.2.1
  split
  · exact v
  · exact ⟨by show 1 ≤ q.1 + p.1 - x; omega, by show q.1 + p.1 - x < q.1; omega, Int.le_refl 1, vd_one k1 (by show p.1 < q.1 + p.1 - x; omega) (by omega) v.2.2.2⟩
theorem rch_less {p : Run} {B : List Run} {m k : Int} (v : Vd m (p :: B)) (hk : 1 ≤ k) : rch (p :: B) k = p.1 + rch (one p.1 (p.2 - 1) ++ B) (k - 1) := by
  have k2 := v.2.2.1
  rw [rch_oneC (by omega) (by omega) v.2.2.2]
  by_cases e : k ≤ p.2
  · rw [rch_lo v (by omega) e, if_pos (by omega), Int.mul_sub, Int.mul_one]
    omega
  · rw [rch_hi (q := p) (by omega), if_neg (by omega), Int.mul_sub, Int.mul_one, show k - 1 - (p.2 - 1) = k - p.2 by omega]
    omega
theorem rch_joint {q p : Run} {B : List Run} {x k : Int} (v : Vd q.1 (p :: B)) (h1 : p.1 < x) (h2 : x ≤ q.1) (hk : 1 ≤ k) : rch (joint q p B x) k = q.1 - x + rch (p :: B) k := by
  unfold joint
  split
  · next e => omega
  · rw [rch_less v hk, rch_hi (q := (q.1 + p.1 - x, 1)) (by show 1 ≤ k; exact hk)]
    show (q.1 + p.1 - x) * 1 + rch _ (k - 1) = _
    rw [Int.mul_one]
    omega
theorem tkc_vd : ∀ {r : List Run} {m x : Int}, Vd m r → 1 ≤ x → x ≤ top r → Vd m (tkc x r)
  | [], _, _, v, _, _ => v
  | [q], m, x, v, h1, h2 => by
    have h2 : x ≤ q.1 := h2
    have k1 := v.1
    have k2 := v.2.2.1
    refine vd_one k1 v.2.1 (by omega) ?_
    split
    · trivial
    · exact ⟨by show 1 ≤ q.1 - x; omega, by show q.1 - x < q.1; omega, Int.le_refl 1, trivial⟩
  | q :: p :: B, m, x, v, h1, h2 => by
    have h2 : x ≤ q.1 := h2
    have k1 := v.1
    have k2 := v.2.2.1
    unfold tkc
    split
    · next e => exact ⟨v.1, v.2.1, v.2.2.1, tkc_vd v.2.2.2 h1 e⟩
    · next e => exact vd_one k1 v.2.1 (by omega) (vd_joint v.2.2.2 (by omega) h2)
/-- the reach behind: what is least of waiting and of one hour more -/
theorem tkc_rch : ∀ {r : List Run} {m x h : Int}, Vd m r → 1 ≤ x → x ≤ top r → 0 ≤ h → rch (tkc x r) h = min (rch r h) (rch r (h + 1) - x)
  | [], _, _, _, _, h1, h2, _ => by
    have : _ ≤ (0 : Int) := h2
    omega
  | [q], m, x, h, v, h1, h2, h0 => by
    have h2 : x ≤ q.1 := h2
    have k1 := v.1
    have k2 := v.2.2.1
    have vE : Vd q.1 (if q.1 = x then [] else [(q.1 - x, 1)]) := by
      split
      · trivial
      · exact ⟨by show 1 ≤ q.1 - x; omega, by show q.1 - x < q.1; omega, Int.le_refl 1, trivial⟩
    have eE : ∀ k, 1 ≤ k → rch (if q.1 = x then [] else [(q.1 - x, 1)]) k = q.1 - x := fun k hk => by
      split
      · next e =>
        show (0 : Int) = _
        omega
      · rw [rch_hi (q := (q.1 - x, 1)) (by show 1 ≤ k; exact hk)]
        show (q.1 - x) * 1 + 0 = _
        omega
    show rch (one q.1 (q.2 - 1) ++ (if q.1 = x then [] else [(q.1 - x, 1)])) h = _
    rw [rch_oneC h0 (by omega) vE]
    by_cases e : h ≤ q.2 - 1
    · rw [if_pos e, rch_lo v h0 (by omega), rch_lo v (by omega) (by omega), Int.mul_add, Int.mul_one]
      omega
    · rw [if_neg e, eE _ (by omega), rch_hi (q := q) (r := []) (h := h) (by omega), rch_hi (q := q) (r := []) (h := h + 1) (by omega), Int.mul_sub, Int.mul_one]
      show _ = min (q.1 * q.2 + 0) (q.1 * q.2 + 0 - x)
      omega
  | q :: p :: B, m, x, h, v, h1, h2, h0 => by
    have h2 : x ≤ q.1 := h2
    have k1 := v.1
    have k2 := v.2.2.1
    unfold tkc
    by_cases e : x ≤ p.1
    · rw [if_pos e]
      have vT := tkc_vd v.2.2.2 h1 e
      by_cases e2 : h ≤ q.2
      · rw [rch_lo (q := q) (r := tkc x (p :: B)) ⟨v.1, v.2.1, v.2.2.1, vT⟩ h0 e2, rch_lo v h0 e2]
        by_cases e3 : h + 1 ≤ q.2
        · rw [rch_lo v (by omega) e3, Int.mul_add, Int.mul_one]
          omega
        · rw [rch_hi (q := q) (r := p :: B) (h := h + 1) (by omega), show h = q.2 by omega, show q.2 + 1 - q.2 = 1 by omega, rch_one v.2.2.2]
          show _ = min _ (q.1 * q.2 + p.1 - x)
          omega
      · rw [rch_hi (q := q) (r := tkc x (p :: B)) (by omega), rch_hi (q := q) (r := p :: B) (h := h) (by omega), rch_hi (q := q) (r := p :: B) (h := h + 1) (by omega), tkc_rch v.2.2.2 h1 e (by omega), show h + 1 - q.2 = h - q.2 + 1 by omega]
        omega
    · rw [if_neg e]
      show rch (one q.1 (q.2 - 1) ++ joint q p B x) h = _
      rw [rch_oneC h0 (by omega) (vd_joint v.2.2.2 (by omega) h2)]
      by_cases e2 : h ≤ q.2 - 1
      · rw [if_pos e2, rch_lo v h0 (by omega), rch_lo v (by omega) (by omega), Int.mul_add, Int.mul_one]
        omega
      · rw [if_neg e2, rch_joint v.2.2.2 (by omega) h2 (by omega), rch_hi (q := q) (r := p :: B) (h := h) (by omega), rch_hi (q := q) (r := p :: B) (h := h + 1) (by omega), Int.mul_sub, Int.mul_one, show h - (q.2 - 1) = h - q.2 + 1 by omega, show h + 1 - q.2 = h - q.2 + 1 by omega]
        obtain ⟨a, b⟩ := rch_step (h := h - q.2) v.2.2.2 (by omega)
        have b : rch (p :: B) (h - q.2 + 1) ≤ rch (p :: B) (h - q.2) + p.1 := b
        omega
/-- the whole -/
def whole (r : List Run) : Int := (r.map fun q => q.1 * q.2).sum
theorem tkc_whole : ∀ {r : List Run} {m x : Int}, Vd m r → 1 ≤ x → x ≤ top r → whole (tkc x r) + x = whole r
  | [], _, _, _, h1, h2 => by
    have : _ ≤ (0 : Int) := h2
    omega
  | [q], m, x, v, h1, h2 => by
    have k2 := v.2.2.1
    unfold tkc one whole
    by_cases e : q.2 - 1 = 0 <;> by_cases e2 : q.1 = x <;> simp [e, e2, Int.mul_sub] <;> try omega
    all_goals (have e3 : q.2 = 1 := by omega); simp [e3] <;> omega
  | q :: p :: B, m, x, v, h1, h2 => by
    have k2 := v.2.2.1
    have k3 := v.2.2.2.2.2.1
    unfold tkc
    by_cases e : x ≤ p.1
    · rw [if_pos e]
      have := tkc_whole v.2.2.2 h1 e
      have a : whole (q :: tkc x (p :: B)) = q.1 * q.2 + whole (tkc x (p :: B)) := by unfold whole; rw [List.map_cons, List.sum_cons]
      have b : whole (q :: p :: B) = q.1 * q.2 + whole (p :: B) := by unfold whole; rw [List.map_cons, List.sum_cons]
      omega
    · rw [if_neg e]
      have w1 : ∀ s t C, whole (one s t ++ C) = s * t + whole C := fun s t C => by
        unfold one whole
        split
        · next z => rw [z, Int.mul_zero, List.nil_append]; omega
        · rfl
      have b : whole (q :: p :: B) = q.1 * q.2 + (p.1 * p.2 + whole B) := by unfold whole; rw [List.map_cons, List.sum_cons, List.map_cons, List.sum_cons]
      rw [w1, b, Int.mul_sub, Int.mul_one]
      split
      · next z =>
        have c : whole (p :: B) = p.1 * p.2 + whole B := by unfold whole; rw [List.map_cons, List.sum_cons]
        omega
      · have c : whole ((q.1 + p.1 - x, 1) :: (one p.1 (p.2 - 1) ++ B)) = (q.1 + p.1 - x) * 1 + whole (one p.1 (p.2 - 1) ++ B) := by unfold whole; rw [List.map_cons, List.sum_cons]
        rw [c, w1, Int.mul_sub, Int.mul_one, Int.mul_one]
        omega
end RM

/-! nights: the order of hours is nothing, COULD by its formula -/
namespace RM
/-- the row behind an hour -/
def bh (r : List Run) (s : Int) : List Run := if min s (top r) = 0 then r else tkc (min s (top r)) r
theorem bh_vd {r : List Run} {m s : Int} (v : Vd m r) (hm : 1 ≤ m) (hs : 0 ≤ s) : Vd m (bh r s) := by
  have := top_lt v hm
  unfold bh
  split
  · exact v
  · exact tkc_vd v (by omega) (by omega)
theorem bh_rch {r : List Run} {m s h : Int} (v : Vd m r) (hm : 1 ≤ m) (hs : 0 ≤ s) (h0 : 0 ≤ h) : min s (top r) + rch (bh r s) h = min (rch r h + s) (rch r (h + 1)) := by
  have k := top_lt v hm
  obtain ⟨a, b⟩ := rch_step v h0
  unfold bh
  split
  · omega
  · rw [tkc_rch v (by omega) (by omega) h0]
    omega
theorem bh_whole {r : List Run} {m s : Int} (v : Vd m r) (hm : 1 ≤ m) (hs : 0 ≤ s) : whole (bh r s) + min s (top r) = whole r := by
  have k := top_lt v hm
  unfold bh
  split
  · omega
  · exact tkc_whole v (by omega) (by omega)
/-- the row behind a night, and the sum of it -/
def bhN (r : List Run) (n : List Int) : List Run := n.foldl bh r
def tot : List Run → List Int → Int
  | _, [] => 0
  | r, s :: n => min s (top r) + tot (bh r s) n
/-- an hour upon a reach -/
def T (s : Int) (G : Nat → Int) : Nat → Int := fun h => min (G h + s) (G (h + 1))
def Tn (n : List Int) (G : Nat → Int) : Nat → Int := n.foldl (fun G s => T s G) G
theorem T_comm (s t : Int) (G : Nat → Int) : T s (T t G) = T t (T s G) := by
  funext h
  unfold T
  omega
theorem Tn_perm {n n' : List Int} (p : n.Perm n') : ∀ G, Tn n G = Tn n' G := by
  induction p with
  | nil => exact fun _ => rfl
  | cons x _ ih => exact fun G => ih (T x G)
  | swap x y l =>
    intro G
    show Tn l (T x (T y G)) = Tn l (T y (T x G))
    rw [T_comm]
  | trans _ _ h1 h2 => exact fun G => (h1 G).trans (h2 G)
theorem T_add (s c : Int) (G : Nat → Int) : T s (fun h => c + G h) = fun h => c + T s G h := by
  funext h
  show min (c + G h + s) (c + G (h + 1)) = c + min (G h + s) (G (h + 1))
  omega
theorem Tn_add (c : Int) : ∀ (n : List Int) (G : Nat → Int), Tn n (fun h => c + G h) = fun h => c + Tn n G h
  | [], _ => rfl
  | s :: n, G => by
    show Tn n (T s (fun h => c + G h)) = _
    rw [T_add, Tn_add c n]
    rfl
def rN (r : List Run) : Nat → Int := fun h => rch r (h : Int)
theorem bhN_vd : ∀ {n : List Int} {r : List Run} {m : Int}, Vd m r → 1 ≤ m → (∀ s ∈ n, 0 ≤ s) → Vd m (bhN r n)
  | [], _, _, v, _, _ => v
  | s :: n, r, m, v, hm, h => by
    show Vd m (bhN (bh r s) n)
    exact bhN_vd (bh_vd v hm (h s List.mem_cons_self)) hm fun t ht => h t (List.mem_cons_of_mem _ ht)
theorem tot_Tn : ∀ {n : List Int} {r : List Run} {m : Int}, Vd m r → 1 ≤ m → (∀ s ∈ n, 0 ≤ s) → (fun h => tot r n + rN (bhN r n) h) = Tn n (rN r)
  | [], r, _, _, _, _ => by
    funext h
    show 0 + rN r h = rN r h
    omega
  | s :: n, r, m, v, hm, h => by
    have hs := h s List.mem_cons_self
    have e : T s (rN r) = fun k => min s (top r) + rN (bh r s) k := by
      funext k
      have := bh_rch (h := (k : Int)) v hm hs (by omega)
      unfold T rN
      rw [this]
      rfl
    show _ = Tn n (T s (rN r))
    rw [e, Tn_add, ← tot_Tn (bh_vd v hm hs) hm fun t ht => h t (List.mem_cons_of_mem _ ht)]
    funext k
    show min s (top r) + tot (bh r s) n + rN (bhN (bh r s) n) k = min s (top r) + (tot (bh r s) n + rN (bhN (bh r s) n) k)
    omega
theorem rN_zero {r : List Run} {m : Int} (v : Vd m r) : rN r 0 = 0 := rch_zero v
theorem tot_is {n : List Int} {r : List Run} {m : Int} (v : Vd m r) (hm : 1 ≤ m) (hn : ∀ s ∈ n, 0 ≤ s) : tot r n = Tn n (rN r) 0 := by
  have := congrFun (tot_Tn v hm hn) 0
  have e := rN_zero (bhN_vd v hm hn)
  have this : tot r n + rN (bhN r n) 0 = Tn n (rN r) 0 := this
  omega
/-- hours in another order -/
theorem night_perm {n n' : List Int} {r : List Run} {m : Int} (v : Vd m r) (hm : 1 ≤ m) (hn : ∀ s ∈ n, 0 ≤ s) (p : n'.Perm n) : bhN r n' = bhN r n ∧ tot r n' = tot r n := by
  have hn' : ∀ s ∈ n', 0 ≤ s := fun s hs => hn s (p.mem_iff.mp hs)
  have e1 : tot r n' = tot r n := by rw [tot_is v hm hn, tot_is v hm hn', Tn_perm p]
  refine ⟨rch_inj (bhN_vd v hm hn') (bhN_vd v hm hn) fun h h0 => ?_, e1⟩
  have a := congrFun (tot_Tn v hm hn) h.toNat
  have b := congrFun (tot_Tn v hm hn') h.toNat
  rw [Tn_perm p, ← a] at b
  have b : tot r n' + rch (bhN r n') (h.toNat : Int) = tot r n + rch (bhN r n) (h.toNat : Int) := b
  rw [show (h.toNat : Int) = h by omega] at b
  omega
theorem tot_whole : ∀ {n : List Int} {r : List Run} {m : Int}, Vd m r → 1 ≤ m → (∀ s ∈ n, 0 ≤ s) → tot r n + whole (bhN r n) = whole r
  | [], r, _, _, _, _ => by
    show 0 + whole r = whole r
    omega
  | s :: n, r, m, v, hm, h => by
    have hs := h s List.mem_cons_self
    have a := bh_whole v hm hs
    have b := tot_whole (bh_vd v hm hs) hm fun t ht => h t (List.mem_cons_of_mem _ ht)
    show min s (top r) + tot (bh r s) n + whole (bhN (bh r s) n) = _
    omega
theorem bhN_app (r : List Run) (a b : List Int) : bhN r (a ++ b) = bhN (bhN r a) b := List.foldl_append
theorem tot_app : ∀ (a : List Int) (r : List Run) (b : List Int), tot r (a ++ b) = tot r a + tot (bhN r a) b
  | [], r, b => by
    show tot r b = 0 + tot r b
    omega
  | s :: a, r, b => by
    show min s (top r) + tot (bh r s) (a ++ b) = min s (top r) + tot (bh r s) a + tot (bhN (bh r s) a) b
    rw [tot_app]
    omega
/-- the least of some -/
def LeastOf (v : Int) (m : Nat) (f : Nat → Int) : Prop := (∃ h, h ≤ m ∧ v = f h) ∧ ∀ h, h ≤ m → v ≤ f h
/-- COULD by its formula, the hours ascending -/
theorem Tn_least (G : Nat → Int) : ∀ (k : Nat) (n : List Int), n.length = k → n.Pairwise (· ≤ ·) → ∀ j, LeastOf (Tn n G j) k fun h => G (j + h) + (n.take (k - h)).sum
  | 0, n, e, _, j => by
    have : n = [] := List.length_eq_zero_iff.mp e
    subst this
    refine ⟨⟨0, Nat.le_refl _, ?_⟩, fun h hh => ?_⟩
    · show G j = G (j + 0) + 0
      simp
    · have : h = 0 := Nat.le_zero.mp hh
      subst this
      show G j ≤ G (j + 0) + 0
      simp
  | k + 1, n, e, p, j => by
    obtain ⟨l, s, rfl⟩ : ∃ l s, n = l ++ [s] := ⟨n.dropLast, n.getLast (fun z => by rw [z] at e; cases e), (List.dropLast_concat_getLast _).symm⟩
    have el : l.length = k := by
      rw [List.length_append] at e
      exact Nat.succ.inj e
    obtain ⟨p1, _, p2⟩ := List.pairwise_append.mp p
    have ih := Tn_least G k l el p1
    have eT : Tn (l ++ [s]) G j = min (Tn l G j + s) (Tn l G (j + 1)) := by
      unfold Tn
      rw [List.foldl_append]
      rfl
    rw [eT]
    have tk : ∀ h, h ≤ k → (l ++ [s]).take (k + 1 - (h + 1)) = l.take (k - h) := fun h hh => by
      rw [show k + 1 - (h + 1) = k - h by omega, List.take_append_of_le_length (by omega)]
    have full : ((l ++ [s]).take (k + 1 - 0)).sum = l.sum + s := by
      rw [Nat.sub_zero, List.take_of_length_le (by rw [List.length_append, el]; exact Nat.le_refl _), List.sum_append]
      simp
    obtain ⟨⟨h1, b1, e1⟩, f1⟩ := ih j
    obtain ⟨⟨h2, b2, e2⟩, f2⟩ := ih (j + 1)
    have more : ∀ h, 1 ≤ h → h ≤ k → (l.take (k + 1 - h)).sum ≤ (l.take (k - h)).sum + s := fun h q1 q2 => by
      have q3 : k - h < l.length := by omega
      rw [show k + 1 - h = k - h + 1 by omega, List.take_succ, List.getElem?_eq_getElem q3, List.sum_append]
      have := p2 _ (List.getElem_mem q3) s List.mem_cons_self
      simp
      omega
    have z0 : Tn l G j ≤ G j + l.sum := by
      have := f1 0 (Nat.zero_le _)
      have this : Tn l G j ≤ G (j + 0) + (l.take (k - 0)).sum := this
      rw [Nat.sub_zero, List.take_of_length_le (by omega)] at this
      exact this
    have lower : ∀ h, h ≤ k + 1 → min (Tn l G j + s) (Tn l G (j + 1)) ≤ G (j + h) + ((l ++ [s]).take (k + 1 - h)).sum := fun h hh => by
      cases h with
      | zero =>
        rw [full]
        show _ ≤ G j + (l.sum + s)
        omega
      | succ h =>
        rw [tk h (by omega)]
        have := f2 h (by omega)
        have this : Tn l G (j + 1) ≤ G (j + 1 + h) + (l.take (k - h)).sum := this
        rw [show j + (h + 1) = j + 1 + h by omega]
        omega
    refine ⟨?_, lower⟩
    by_cases c : Tn l G (j + 1) ≤ Tn l G j + s
    · refine ⟨h2 + 1, by omega, ?_⟩
      show _ = G (j + (h2 + 1)) + ((l ++ [s]).take (k + 1 - (h2 + 1))).sum
      rw [tk h2 b2, show j + (h2 + 1) = j + 1 + h2 by omega]
      have e2 : Tn l G (j + 1) = G (j + 1 + h2) + (l.take (k - h2)).sum := e2
      omega
    · cases h1 with
      | zero =>
        refine ⟨0, by omega, ?_⟩
        show _ = G (j + 0) + ((l ++ [s]).take (k + 1 - 0)).sum
        rw [full]
        have e1 : Tn l G j = G (j + 0) + (l.take (k - 0)).sum := e1
        rw [Nat.sub_zero, List.take_of_length_le (by omega)] at e1
        show _ = G j + (l.sum + s)
        have e1 : Tn l G j = G j + l.sum := e1
        omega
      | succ h1 =>
        refine ⟨h1 + 1, by omega, ?_⟩
        have lo := lower (h1 + 1) (by omega)
        show _ = G (j + (h1 + 1)) + ((l ++ [s]).take (k + 1 - (h1 + 1))).sum
        have e1 : Tn l G j = G (j + (h1 + 1)) + (l.take (k - (h1 + 1))).sum := e1
        have m1 := more (h1 + 1) (by omega) b1
        have t1 := tk h1 (by omega)
        rw [show k + 1 - (h1 + 1) = k - h1 by omega] at m1 lo t1 ⊢
        rw [t1] at lo ⊢
        omega
end RM

/-! more never charges less, hours of plenty, and runs put one by one -/
namespace RM
theorem T_mono {s t : Int} {G F : Nat → Int} (e : s ≤ t) (h : ∀ k, G k ≤ F k) : ∀ k, T s G k ≤ T t F k := fun k => by
  have a := h k
  have b := h (k + 1)
  unfold T
  omega
/-- hour by hour at least as much -/
def LeN : List Int → List Int → Prop
  | [], [] => True
  | s :: n, t :: m => s ≤ t ∧ LeN n m
  | _, _ => False
theorem LeN.refl : ∀ n : List Int, LeN n n
  | [] => trivial
  | _ :: n => ⟨Int.le_refl _, LeN.refl n⟩
theorem LeN.app : ∀ {a b c d : List Int}, LeN a b → LeN c d → LeN (a ++ c) (b ++ d)
  | [], [], _, _, _, h => h
  | _ :: _, _ :: _, _, _, g, h => ⟨g.1, LeN.app g.2 h⟩
  | [], _ :: _, _, _, g, _ => g.elim
  | _ :: _, [], _, _, g, _ => g.elim
theorem LeN.take : ∀ {a b : List Int}, LeN a b → ∀ k, LeN (a.take k) (b.take k)
  | [], [], _, k => by rw [List.take_nil]; trivial
  | _ :: _, _ :: _, _, 0 => trivial
  | _ :: _, _ :: _, g, k + 1 => ⟨g.1, LeN.take g.2 k⟩
  | [], _ :: _, g, _ => g.elim
  | _ :: _, [], g, _ => g.elim
theorem Tn_mono : ∀ {n m : List Int} {G F : Nat → Int}, LeN n m → (∀ k, G k ≤ F k) → ∀ k, Tn n G k ≤ Tn m F k
  | [], [], _, _, _, h, k => h k
  | _ :: n, _ :: m, _, _, g, h, k => by
    show Tn n _ k ≤ Tn m _ k
    exact Tn_mono (n := n) (m := m) g.2 (T_mono g.1 h) k
  | [], _ :: _, _, _, g, _, _ => g.elim
  | _ :: _, [], _, _, g, _, _ => g.elim
theorem tot_mono {n n' : List Int} {r : List Run} {m : Int} (v : Vd m r) (hm : 1 ≤ m) (hn : ∀ s ∈ n, 0 ≤ s) (hn' : ∀ s ∈ n', 0 ≤ s) (g : LeN n n') : tot r n ≤ tot r n' := by
  rw [tot_is v hm hn, tot_is v hm hn']
  exact Tn_mono g (fun _ => Int.le_refl _) 0
/-- hours of plenty -/
theorem Tn_plenty {s : Int} : ∀ (k : Nat) {G : Nat → Int}, (∀ h, G (h + 1) ≤ G h + s) → ∀ j, Tn (List.replicate k s) G j = G (j + k)
  | 0, _, _, _ => rfl
  | k + 1, G, g, j => by
    show Tn (List.replicate k s) (T s G) j = _
    have e : T s G = fun h => G (h + 1) := by
      funext h
      have := g h
      unfold T
      omega
    rw [e, Tn_plenty k (G := fun h => G (h + 1)) (fun h => g (h + 1)) j]
    show G (j + k + 1) = G (j + (k + 1))
    rw [Nat.add_assoc]
theorem Vd.top {r : List Run} {m : Int} (v : Vd m r) : Vd (top r + 1) r := by
  cases r with
  | nil => trivial
  | cons q r => exact ⟨v.1, by show q.1 < q.1 + 1; omega, v.2.2⟩
theorem tot_plenty {r : List Run} {m s : Int} (v : Vd m r) (hm : 1 ≤ m) (hs : top r ≤ s) (k : Nat) : tot r (List.replicate k s) = rch r (k : Int) := by
  have t0 := (top_lt v hm).1
  rw [tot_is v hm (fun z hz => by rw [List.eq_of_mem_replicate hz]; omega), Tn_plenty k (fun h => ?_) 0, Nat.zero_add]
  · rfl
  · have := (rch_step (h := (h : Int)) v (by omega)).2
    show rch r ((h + 1 : Nat) : Int) ≤ rch r (h : Int) + s
    rw [show ((h + 1 : Nat) : Int) = (h : Int) + 1 by omega]
    omega
theorem top_bhN {r : List Run} {m : Int} {n : List Int} (v : Vd m r) (hm : 1 ≤ m) (hn : ∀ s ∈ n, 0 ≤ s) : top (bhN r n) ≤ top r := by
  have t0 := (top_lt v hm).1
  have := (top_lt (bhN_vd v.top (by omega) hn) (by omega)).2
  omega
/-- a run put behind the others -/
def put (r : List Run) (s t : Int) : List Run := if s = 0 ∨ t = 0 then r else match r.getLast? with
  | some q => if q.1 = s then r.dropLast ++ [(s, t + q.2)] else r ++ [(s, t)]
  | none => r ++ [(s, t)]
theorem put_cons {q : Run} {A : List Run} {s t : Int} (h : q.1 ≠ s) : put (q :: A) s t = q :: put A s t := by
  unfold put
  by_cases e : s = 0 ∨ t = 0
  · rw [if_pos e, if_pos e]
  · rw [if_neg e, if_neg e]
    cases A with
    | nil =>
      show (if q.1 = s then _ else _) = _
      rw [if_neg h]
      rfl
    | cons a A =>
      rw [List.getLast?_cons_cons]
      cases e2 : (a :: A).getLast? with
      | none => rw [List.getLast?_eq_none_iff] at e2; cases e2
      | some z =>
        show (if z.1 = s then _ else _) = _ :: (if z.1 = s then _ else _)
        split
        · rfl
        · rfl
theorem put_nil {s t : Int} (h : s ≠ 0) : put [] s t = one s t := by
  unfold put one
  by_cases e : t = 0
  · rw [if_pos (.inr e), if_pos e]
  · rw [if_neg (fun z => z.elim h e), if_neg e]
    rfl
/-- so many runs are at least x -/
def cnt (x : Int) (r : List Run) : Nat := (r.filter fun q => decide (x ≤ q.1)).length
theorem cnt_zero : ∀ {r : List Run} {m x : Int}, Vd m r → m ≤ x → cnt x r = 0
  | [], _, _, _, _ => rfl
  | q :: r, m, x, v, h => by
    have k := v.2.1
    unfold cnt
    rw [List.filter_cons_of_neg (by simp; omega)]
    exact cnt_zero v.2.2.2 (by omega)
theorem cnt_cons {q : Run} {r : List Run} {x : Int} (h : x ≤ q.1) : cnt x (q :: r) = cnt x r + 1 := by
  unfold cnt
  rw [List.filter_cons_of_pos (by simpa using h)]
  rfl
/-- the row behind a sum, run by run -/
def tkp (x : Int) (r : List Run) : List Run :=
  let n := cnt x r
  let q := (r[n - 1]?).getD (0, 0)
  let p := (r[n]?).getD (0, 1)
  put (put (put (r.take (n - 1)) q.1 (q.2 - 1)) (q.1 + p.1 - x) 1) p.1 (p.2 - 1) ++ r.drop (n + 1)
theorem tkp_is : ∀ {r : List Run} {m x : Int}, Vd m r → 1 ≤ x → x ≤ top r → tkp x r = tkc x r
  | [], _, _, _, h1, h2 => by
    have : _ ≤ (0 : Int) := h2
    omega
  | [q], m, x, v, h1, h2 => by
    have h2 : x ≤ q.1 := h2
    have k1 := v.1
    have c : cnt x [q] = 1 := cnt_cons h2
    unfold tkp tkc
    rw [c]
    show put (put (put [] q.1 (q.2 - 1)) (q.1 + 0 - x) 1) 0 (1 - 1) ++ [] = _
    rw [put_nil (by omega), List.append_nil, show q.1 + 0 - x = q.1 - x by omega]
    have z : ∀ r, put r 0 (1 - 1) = r := fun r => if_pos (.inl rfl)
    rw [z]
    by_cases e : q.1 = x
    · rw [if_pos e, List.append_nil]
      exact if_pos (.inl (by omega))
    · rw [if_neg e]
      unfold one
      by_cases e2 : q.2 - 1 = 0
      · rw [if_pos e2]
        show put [] (q.1 - x) 1 = [(q.1 - x, 1)]
        rw [put_nil (by omega)]
        rfl
      · rw [if_neg e2]
        show put [(q.1, q.2 - 1)] (q.1 - x) 1 = [(q.1, q.2 - 1), (q.1 - x, 1)]
        rw [put_cons (by show q.1 ≠ q.1 - x; omega), put_nil (by omega)]
        rfl
  | q :: p :: B, m, x, v, h1, h2 => by
    have h2 : x ≤ q.1 := h2
    have k1 := v.1
    have k2 := v.2.2.1
    have k3 := v.2.2.2.1
    have k4 := v.2.2.2.2.1
    have k5 := v.2.2.2.2.2.1
    by_cases e : x ≤ p.1
    · have ih := tkp_is v.2.2.2 h1 e
      have c1 : cnt x (q :: p :: B) = cnt x (p :: B) + 1 := cnt_cons h2
      have c2 : cnt x (p :: B) = cnt x B + 1 := cnt_cons e
      unfold tkc
      rw [if_pos e, ← ih]
      unfold tkp
      rw [c1, c2]
      show put (put (put (q :: (p :: B).take (cnt x B)) _ _) _ 1) _ _ ++ _ = _
      -- the runs that are looked up
      have y1 : (q :: p :: B)[cnt x B + 1 + 1 - 1]? = (p :: B)[cnt x B]? := rfl
      have y2 : (q :: p :: B)[cnt x B + 1 + 1]? = (p :: B)[cnt x B + 1]? := rfl
      have y3 : (p :: B)[cnt x B + 1 - 1]? = (p :: B)[cnt x B]? := rfl
      rw [y1, y2]
      show _ = q :: (put (put (put ((p :: B).take (cnt x B)) (((p :: B)[cnt x B]?).getD (0, 0)).1 _) _ 1) _ _ ++ _)
      -- all of them are below q
      have low : ∀ {r : List Run} {m' : Int}, Vd m' r → ∀ a ∈ r, a.1 < m' := fun {r} => by
        induction r with
        | nil => intro _ _ a ha; cases ha
        | cons b r ih =>
          intro m' w a ha
          rcases List.mem_cons.mp ha with rfl | ha
          · exact w.2.1
          · have := ih w.2.2.2 a ha
            have := w.2.1
            omega
      have lowx : ∀ {r : List Run} {m' : Int} {i : Nat}, Vd m' r → cnt x r = i → ∀ a, r[i]? = some a → a.1 < x := fun {r} => by
        induction r with
        | nil => intro _ _ _ _ a ha; cases ha
        | cons b r ih =>
          intro m' i w hi a ha
          by_cases g : x ≤ b.1
          · rw [cnt_cons g] at hi
            subst hi
            exact ih w.2.2.2 rfl a ha
          · have : cnt x (b :: r) = 0 := by
              unfold cnt
              rw [List.filter_cons_of_neg (by simpa using g)]
              exact cnt_zero w.2.2.2 (by omega)
            rw [this] at hi
            subst hi
            cases ha
            omega
      have geA : ∀ {r : List Run} {m' : Int} {i : Nat}, Vd m' r → cnt x r = i + 1 → ∃ a, r[i]? = some a ∧ x ≤ a.1 := fun {r} => by
        induction r with
        | nil => intro _ _ _ hi; cases hi
        | cons b r ih =>
          intro m' i w hi
          by_cases g : x ≤ b.1
          · rw [cnt_cons g] at hi
            cases i with
            | zero => exact ⟨b, rfl, g⟩
            | succ i =>
              obtain ⟨a, ha, hx⟩ := ih (i := i) w.2.2.2 (by omega)
              exact ⟨a, ha, hx⟩
          · have : cnt x (b :: r) = 0 := by
              unfold cnt
              rw [List.filter_cons_of_neg (by simpa using g)]
              exact cnt_zero w.2.2.2 (by omega)
            rw [this] at hi
            cases hi
      obtain ⟨a, ha, hxa⟩ := geA v.2.2.2 c2
      have ha' : (p :: B)[cnt x B + 1 - 1]? = some a := ha
      rw [ha, ha']
      have la := low v.2.2.2 a (List.mem_of_getElem? ha)
      cases hb : (p :: B)[cnt x B + 1]? with
      | none =>
        show put (put (put (q :: (p :: B).take (cnt x B)) a.1 (a.2 - 1)) (a.1 + 0 - x) 1) 0 (1 - 1) ++ _ = q :: (put (put (put ((p :: B).take (cnt x B)) a.1 (a.2 - 1)) (a.1 + 0 - x) 1) 0 (1 - 1) ++ _)
        rw [put_cons (by omega), put_cons (by omega), put_cons (by omega)]
        rfl
      | some b =>
        have lb := lowx v.2.2.2 c2 b hb
        have lb2 := low v.2.2.2 b (List.mem_of_getElem? hb)
        show put (put (put (q :: (p :: B).take (cnt x B)) a.1 (a.2 - 1)) (a.1 + b.1 - x) 1) b.1 (b.2 - 1) ++ _ = q :: (put (put (put ((p :: B).take (cnt x B)) a.1 (a.2 - 1)) (a.1 + b.1 - x) 1) b.1 (b.2 - 1) ++ _)
        rw [put_cons (by omega), put_cons (by omega), put_cons (by omega)]
        rfl
    · have c : cnt x (q :: p :: B) = 1 := by
        rw [cnt_cons h2]
        have : cnt x (p :: B) = 0 := by
          unfold cnt
          rw [List.filter_cons_of_neg (by simpa using e)]
          exact cnt_zero v.2.2.2.2.2.2 (by omega)
        rw [this]
      unfold tkp tkc
      rw [c, if_neg e]
      show put (put (put [] q.1 (q.2 - 1)) (q.1 + p.1 - x) 1) p.1 (p.2 - 1) ++ B = _
      rw [put_nil (by omega)]
      have mid : put (one q.1 (q.2 - 1)) (q.1 + p.1 - x) 1 = one q.1 (q.2 - 1) ++ [(q.1 + p.1 - x, 1)] := by
        unfold one
        split
        · rw [put_nil (by omega)]
          rfl
        · rw [put_cons (by show q.1 ≠ q.1 + p.1 - x; omega), put_nil (by omega)]
          rfl
      have pc : ∀ (z : Run) (s t : Int), put (one q.1 (q.2 - 1) ++ [z]) s t = one q.1 (q.2 - 1) ++ put [z] s t ∨ q.1 = s := fun z s t => by
        unfold one
        split
        · exact .inl rfl
        · by_cases g : q.1 = s
          · exact .inr g
          · exact .inl (put_cons g)
      rw [mid]
      rcases pc (q.1 + p.1 - x, 1) p.1 (p.2 - 1) with g | g
      · rw [g, List.append_assoc]
        congr 1
        by_cases e2 : q.1 = x
        · rw [if_pos e2]
          by_cases e3 : p.2 - 1 = 0
          · rw [show put [(q.1 + p.1 - x, 1)] p.1 (p.2 - 1) = [(q.1 + p.1 - x, 1)] from if_pos (.inr e3)]
            show (q.1 + p.1 - x, (1 : Int)) :: B = p :: B
            rw [show q.1 + p.1 - x = p.1 by omega, show (1 : Int) = p.2 by omega]
          · unfold put
            rw [if_neg (by omega)]
            show (if q.1 + p.1 - x = p.1 then [] ++ [(p.1, p.2 - 1 + 1)] else _) ++ B = _
            rw [if_pos (by omega), show p.2 - 1 + 1 = p.2 by omega]
            rfl
        · rw [if_neg e2, put_cons (by show q.1 + p.1 - x ≠ p.1; omega), put_nil (by omega)]
          rfl
      · omega
end RM

/-! COULD by a rule of hours -/
namespace Y
open PySem PySem.Spec PyProof.Rows L2 Ns
section
variable {X : Cx}
/-- t[lo:hi]: a tuple with these items -/
def rSlU (K : PySem.W.Frag) : V → Option Int → Option Int → Hp → VK → Prop := fun x lo hi H Q => ∃ a xs, x = .ref a ∧ SqT K H a xs ∧ ∀ (p : Addr) (H' : Hp), Same H H' → SqT K H' p (cutV xs lo hi) → Q (.ref p) H'
theorem sl_tupU : SlR X (rSlU X.K) := by
  intro pins s σ H x v vl vu lo hi sl Q I rx hs pl pu h
  obtain ⟨a, xs, rfl, hx, q⟩ := h
  refine sl_tupA pins s σ H _ v vl vu lo hi sl Q I rx hs pl pu ⟨a, xs, rfl, hx, fun hw => ?_, fun _ p hp => q p _ (fun b o e => by rw [upd_ne (ne_of_none e hp)]; exact e) (SqT.of upd_same)⟩
  refine q a H (Same.refl H) ?_
  have e : cutV xs lo hi = xs := by
    unfold cutV
    rw [hw.1, hw.2, List.drop_zero, Nat.sub_zero, List.take_length]
  rw [e]
  exact hx
end
/-- the least so far -/
def bst (f : Nat → Int) : Nat → Int
  | 0 => f 0
  | k + 1 => mn (bst f k) (f (k + 1))
theorem bst_least (f : Nat → Int) : ∀ m, RM.LeastOf (bst f m) m f
  | 0 => ⟨⟨0, Nat.le_refl _, rfl⟩, fun h hh => by rw [Nat.le_zero.mp hh]; exact Int.le_refl _⟩
  | m + 1 => by
    obtain ⟨⟨h, h1, h2⟩, h3⟩ := bst_least f m
    show RM.LeastOf (mn (bst f m) (f (m + 1))) (m + 1) f
    unfold mn
    split
    · refine ⟨⟨m + 1, Nat.le_refl _, rfl⟩, fun k hk => ?_⟩
      rcases Nat.lt_or_ge k (m + 1) with z | z
      · have := h3 k (by omega)
        omega
      · rw [show k = m + 1 by omega]
        exact Int.le_refl _
    · refine ⟨⟨h, by omega, h2⟩, fun k hk => ?_⟩
      rcases Nat.lt_or_ge k (m + 1) with z | z
      · exact h3 k (by omega)
      · rw [show k = m + 1 by omega]
        omega
theorem least_one {a b : Int} {m : Nat} {f : Nat → Int} (h : RM.LeastOf a m f) (g : RM.LeastOf b m f) : a = b := by
  obtain ⟨⟨i, i1, i2⟩, i3⟩ := h
  obtain ⟨⟨j, j1, j2⟩, j3⟩ := g
  have := i3 j j1
  have := j3 i i1
  omega
/-- COULD of a rule and the first m hours -/
def cdv (fR : Nat → Int) (ns : List Int) (m : Nat) : Int := RM.Tn (ns.take m) fR 0
theorem cdv_is {fR : Nat → Int} {ns ms : List Int} {m : Nat} (hm : m ≤ ns.length) (p : ms.Perm (ns.take m)) (s : ms.Pairwise (· ≤ ·)) : bst (fun h => fR h + (ms.take (m - h)).sum) m = cdv fR ns m := by
  have l : ms.length = m := by rw [p.length_eq, List.length_take]; omega
  have t := RM.Tn_least fR m ms l s 0
  have e : (fun h => fR (0 + h) + (ms.take (m - h)).sum) = fun h => fR h + (ms.take (m - h)).sum := by
    funext h
    rw [Nat.zero_add]
  rw [e] at t
  unfold cdv
  rw [← RM.Tn_perm p]
  exact least_one (bst_least _ m) t
def cds (fR : Nat → Int) (ns : List Int) : List Int := (List.range (ns.length + 1)).map (cdv fR ns)
section
variable {X : Cx}
/-- what the def makes of a rule -/
def TCB (K : PySem.W.Frag) : V → (V → Hp → VK → Prop) → Hp → VK → Prop := fun v2 tl H Q => ∃ (nt : Addr) (ns : List Int) (fR : Nat → Int), v2 = .ref nt ∧ SqT K H nt (ns.map V.int) ∧ ns.length ≤ 100 ∧ (∀ (h : Nat) (H' : Hp) (Q' : VK), Same H H' → Q' (.int (fR h)) H' → tl (.int h) H' Q') ∧
  ∀ (p : Addr) (H' : Hp), H' p = some (.lst ((cds fR ns).map V.int)) → H p = none → Same H H' → Q (.ref p) H'
end
end Y

/-! NsL: the end of a law over a guarded def, some of whose helpers make lambdas. -/
namespace Ns
open PySem PySem.Spec PyProof.Rows L2 LamX
/-- what such a law promises: the helpers' tables are empty at its entry -/
def spTopT (K : PySem.W.Frag) (cs : List (Addr × Addr)) : Sp := fun as H Q _ => ∃ (a : Addr) (ns : List Int), as = [.ref a] ∧ SqL K H a (ns.map V.int) ∧ ns.length ≤ 63 ∧ (∀ p ∈ cs, H p.2 = some (.tbl #[])) ∧ ∀ H', Q (.bl true) H'
/-- the code objects of helpers, their tables outside of what is read -/
structure Makers (K : PySem.W.Frag) (h : Heap) (cs : List (Addr × Addr)) : Prop where
  hd : ∀ p ∈ cs, PySem.W.codeHdIn K p.1 p.2 = true
  out : ∀ p ∈ cs, K.lookup p.2 = none
  mt : ∀ p ∈ cs, h.get? p.2 = some { cls := .none, data := .fields #[] }
theorem entry_tabs {P : Program} {w : World} {K : PySem.W.Frag} {mg mb : Str → Option Value} {k : Nat} {fa a : Addr} {fd : FuncData} {s : Shared} {vs : List Value} {ns : List Int} {cs : List (Addr × Addr)} (M : Makers K s.heap cs) (kin : K.In s.heap) (gl : s.heap.Ns mainGlobals mg)
    (bl : s.heap.Ns builtinsNs mb) (bb : ∀ x : Str, x ≠ "__name__" → mb x = bootBuiltins x) (nl : s.heap.NoLimit) (ge : s.gens = #[]) (sc : s.heap.get? a = some { cls := .type "list", data := .seq vs.toArray }) (l63 : ns.length ≤ 63)
    (bm : ∃ (m : Addr) (ob : Obj), mg "__builtins__" = some (.ref m) ∧ m ≠ builtinsNs ∧ s.heap.get? m = some ob ∧ ob.cls = .type "module" ∧ ob.dict = some builtinsNs ∧ ob.data = .plain)
    (hr : Room k callerA) (F : ∀ base : Heap, K.In base → base.Ns mainGlobals mg → (∀ p ∈ cs, TabB base mg p.1 p.2) → GnOk P w K mg base k fa fd ["script"] (spTopT K cs)) (bd : ∀ (z : Shared) (u : Value), BindsTo z fd ⟨[u], []⟩ [("script", u)])
    (H : Hp) (only : ∀ b o, H b = some o → (b = a ∧ ∃ ob xs, o = .frz ob (.lst xs)) ∨ (b ∈ cs.map (·.2) ∧ o = .tbl #[])) (tabs : ∀ p ∈ cs, H p.2 = some (.tbl #[])) (free : H a ≠ none → K.lookup a = none) (hok : HOk P w H s.heap) (sq : SqL K H a (ns.map V.int)) :
    codeAny (model P w) callerA (.call (.ref fa) ⟨[.ref a], []⟩) (fun r s' => r = .ok (.ret (.bool true)) ∧ OldK s.heap s'.heap ∧ s'.os = s.os ∧ AllBare s'.gens) s := by
  have tabAt : ∀ {b : Addr}, b ∈ cs.map (·.2) → ∃ p ∈ cs, p.2 = b ∧ s.heap.get? b = some { cls := .none, data := .fields #[] } := by
    intro b hb
    obtain ⟨p, hp, rfl⟩ := List.mem_map.mp hb
    exact ⟨p, hp, rfl, M.mt p hp⟩
  -- an object that is neither the script nor a table is not told of
  have un0 : ∀ {b : Addr} {o : Obj}, s.heap.get? b = some o → (∀ us n, o.data ≠ .seq us n) → o.data ≠ .fields #[] → H b = none := by
    intro b o e n1 n2
    cases q : H b with
    | none => rfl
    | some u =>
      rcases only b u q with ⟨rfl, _⟩ | ⟨hb, _⟩
      · rw [sc] at e
        cases e
        exact absurd rfl (n1 _ _)
      · obtain ⟨_, _, _, e2⟩ := tabAt hb
        rw [e2] at e
        cases e
        exact absurd rfl n2
  have ns' : ∀ {b : Addr} {m : Str → Option Value}, s.heap.Ns b m → (hidT s.heap H).Ns b m := by
    rintro b m ⟨o, es, n, e, d, r⟩
    exact ⟨o, es, n, hidT_get e (un0 e (fun us n z => by rw [d] at z; cases z) (fun z => by rw [d] at z; cases z)), d, r⟩
  have kin' : K.In (hidT s.heap H) := by
    intro b o e
    refine hidT_get (kin b o e) ?_
    cases q : H b with
    | none => rfl
    | some u =>
      rcases only b u q with ⟨rfl, _⟩ | ⟨hb, _⟩
      · rw [free (by rw [q]; exact fun z => nomatch z)] at e
        cases e
      · obtain ⟨p, hp, rfl, _⟩ := tabAt hb
        rw [M.out p hp] at e
        cases e
  have md : Mod K mg (hidT s.heap H) := by
    obtain ⟨mc, n1, n2⟩ := nl
    exact { kin := kin', glob := ns' gl, blt := ⟨mb, ns' bl, bb⟩, nolimit := ⟨mc, ns' n1, n2⟩ }
  have tb : ∀ p ∈ cs, TabB (hidT s.heap H) mg p.1 p.2 := fun p hp => by
    obtain ⟨m, ob, b1, b2, b3, b4, b5, b6⟩ := bm
    obtain ⟨og, es, n, eg, dg, _⟩ := gl
    have pt := M.mt p hp
    have q1 : m ≠ mainGlobals := fun z => by
      rw [z, eg] at b3
      cases b3
      rw [dg] at b6
      cases b6
    have q2 : m ≠ p.2 := fun z => by
      rw [z, pt] at b3
      cases b3
      cases b6
    have q3 : mainGlobals ≠ p.2 := fun z => by
      rw [z, pt] at eg
      cases eg
      cases dg
    exact { code := PySem.W.codeHd_of_K kin' (M.hd p hp), gP := q3
            bm := ⟨m, ob, b1, b2, q1, q2, hidT_get b3 (un0 b3 (fun us n z => by rw [b6] at z; cases z) (fun z => by rw [b6] at z; cases z)), b4, b5, b6⟩ }
  have e0 : Env0 P w K mg (hidT s.heap H) callerA [] s H :=
    { frames := rfl, mod := md, bs := fun b o e => of_hidT e, bsz := Nat.le_of_eq (hidT_size _ _), funs := trivial, frf := fun b hb => (List.not_mem_nil hb).elim, hok := hok, bare := .of_eq ge }
  have run := (F _ kin' (ns' gl) tb).grun callerA [] s H ⟨[.ref a], []⟩ [.ref a] [.ref a] (fun v _ => v = .bl true) E0 hr rfl e0 (bd s (.ref a)) (.cons rfl .nil) ⟨a, ns, rfl, sq, l63, tabs, fun _ => rfl⟩
  refine codeAny_mono run fun r s' h => ?_
  match r, h with
  | .error _, h => exact (show False from h).elim
  | .ok .next, h => exact (show False from h).elim
  | .ok .brk, h => exact (show False from h).elim
  | .ok .cont, h => exact (show False from h).elim
  | .ok (.ret u), ⟨v, H', o', bare, un, hok', rv, q⟩ =>
    have q' : v = .bl true := q
    rw [q'] at rv
    have eu : u = Value.bool true := rv
    rw [eu]
    have stays : ∀ b o, s.heap.get? b = some o → s'.heap.get? b = some o ∨ ∃ p ∈ cs, p.2 = b ∧ o = { cls := .none, data := .fields #[] } ∧ ∃ more : Array Value, s'.heap.get? b = some { cls := .none, data := .fields more } := by
      intro b o e
      cases z : H b with
      | none => exact .inl (un.keep b o e z (fun y => List.not_mem_nil y) List.not_mem_nil)
      | some u' =>
        rcases only b u' z with ⟨_, ob, xs, rfl⟩ | ⟨hb, rfl⟩
        · refine .inl ?_
          have h1 : s.heap.get? b = some ob := (hok b _ z).1
          have h2 : s'.heap.get? b = some ob := (hok' b _ (un.frzs b ob _ z)).1
          rw [e] at h1
          cases h1
          exact h2
        · obtain ⟨p, hp, ep, e2⟩ := tabAt hb
          rw [e] at e2
          cases e2
          obtain ⟨more, g⟩ := un.tbls b #[] z
          exact .inr ⟨p, hp, ep, rfl, _, hok' b _ g⟩
    refine ⟨rfl, ⟨fun b o e => ?_, fun b o e => ?_⟩, o', bare⟩
    · rcases stays b o e with g | ⟨p, hp, rfl, rfl, more, g⟩
      · exact .inl g
      · have ct := (PySem.W.codeHd_of_K kin (M.hd p hp)).tab (M.mt p hp)
        exact .inr (.inl ⟨ct.isCodeTable, rfl, #[], more, rfl, by rw [Array.empty_append]; exact g⟩)
    · rcases stays b o e with g | ⟨_, _, _, _, more, g⟩
      · exact ⟨_, g⟩
      · exact ⟨_, g⟩
end Ns

namespace Ns
open PySem PySem.Spec PyProof.Rows L2 LamX
/-- the helper's code and table, by its name -/
def MakerOf (q : Program) (K : PySem.W.Frag) (p : Addr × Addr) : Prop := ∃ (x : Str) (d : DefRec), (recsOf q).find? (fun e => e.name == x) = some d ∧ PySem.W.tabIn K x = some p ∧ PySem.W.codeHdIn K p.1 p.2 = true ∧ K.lookup p.2 = none
theorem walk_ofGT {l : PySem.W.OpenLaw} {k : Nat} {q : Program} {loose : List Str} {XP : (Str → Option Value) → Heap → Prop} {YP : World → Heap → Prop} {d : DefRec} {K : Params → PySem.W.Frag} (hn : l.most = some 63) (hdf : d.params.defaults = []) (hr : Room k callerA)
    (hY : ∀ (w : World) (h : Heap), YP w h → (K w.params).In h)
    (F : ∀ (w : World) (mg : Str → Option Value) (fa : Addr) (h : Heap), (K w.params).In h → h.Ns mainGlobals mg → mg d.name = some (.ref fa) →
      ∃ (fd : FuncData) (cs : List (Addr × Addr)), (∀ p ∈ cs, MakerOf q (K w.params) p) ∧ (∀ (z : Shared) (u : Value), BindsTo z fd ⟨[u], []⟩ [("script", u)]) ∧
        ∀ base : Heap, (K w.params).In base → base.Ns mainGlobals mg → (∀ p ∈ cs, TabB base mg p.1 p.2) → GnOk l.prog w (K w.params) mg base k fa fd ["script"] (spTopT (K w.params) cs)) :
    PySem.W.WalkO q loose XP YP l.row.toRowW d [] (fun f vs => PySem.call f vs) := by
  refine Att.attach_call hn hdf ?_
  intro w s0 s mg mb fa o pm cd doc a vs ns G Y ho hd hcd hmg hobj hints hlen hg
  have KX := hY w _ Y
  obtain ⟨fd, cs, mk, bd, hF⟩ := F w mg fa _ KX G.T.g hmg
  have M : Makers (K w.params) s.heap cs := {
    hd := fun p hp => by obtain ⟨_, _, _, _, h, _⟩ := mk p hp; exact h
    out := fun p hp => by obtain ⟨_, _, _, _, _, h⟩ := mk p hp; exact h
    mt := fun p hp => by obtain ⟨x, d', h1, h2, _, _⟩ := mk p hp; exact (PySem.W.tab_of G.T KX h1 h2).2 }
  have rv := L2.vals_ints hints
  have hz : (ns.map V.int).length ≤ sizeLine := by
    rw [List.length_map]
    exact Nat.le_trans hlen (by decide)
  have mem : ∀ p ∈ cs, p.2 ∈ cs.map (·.2) := fun p hp => List.mem_map.mpr ⟨p, hp, rfl⟩
  have isT : ∀ b ∈ cs.map (·.2), s.heap.get? b = some { cls := .none, data := .fields #[] } := fun b hb => by
    obtain ⟨p, hp, rfl⟩ := List.mem_map.mp hb
    exact M.mt p hp
  have go := entry_tabs (P := l.prog) (w := w) (a := a) (ns := ns) (cs := cs) M KX G.T.g G.T.b G.T.builtins G.T.nolimit hg hobj hlen G.T.bmain hr hF bd
  cases hk : (K w.params).lookup a with
  | some ok =>
    have e := KX a ok hk
    rw [hobj] at e
    cases e
    refine go (fun b => if b ∈ cs.map (·.2) then some (.tbl #[]) else none) (fun b u z => ?_) (fun p hp => if_pos (mem p hp)) (fun z => ?_) (fun b u z => ?_) (.inr ⟨_, vs.toArray, _, hk, rfl, rfl, rfl, ?_, by simpa using rv⟩)
    · by_cases hb : b ∈ cs.map (·.2)
      · exact .inr ⟨hb, (Option.some.inj ((if_pos hb).symm.trans z)).symm⟩
      · cases (if_neg hb).symm.trans z
    · refine absurd ?_ z
      refine if_neg fun hb => ?_
      have e := isT a hb
      rw [hobj] at e
      cases e
    · by_cases hb : b ∈ cs.map (·.2)
      · cases (if_pos hb).symm.trans z
        exact isT b hb
      · cases (if_neg hb).symm.trans z
    · rw [List.size_toArray, ← rv.length]
      exact hz
  | none =>
    have na : a ∉ cs.map (·.2) := fun hb => by
      have e := isT a hb
      rw [hobj] at e
      cases e
    have key : ∀ (b : Addr) (u : HO), (if b ∈ cs.map (·.2) then some (HO.tbl #[]) else if b = a then some (HO.frz { cls := .type "list", data := .seq vs.toArray } (.lst (ns.map V.int))) else none) = some u → (b = a ∧ u = HO.frz { cls := .type "list", data := .seq vs.toArray } (.lst (ns.map V.int))) ∨ (b ∈ cs.map (·.2) ∧ u = .tbl #[]) := fun b u z => by
      by_cases hb : b ∈ cs.map (·.2)
      · rw [if_pos hb] at z
        exact .inr ⟨hb, (Option.some.inj z).symm⟩
      · rw [if_neg hb] at z
        by_cases hb2 : b = a
        · rw [if_pos hb2] at z
          exact .inl ⟨hb2, (Option.some.inj z).symm⟩
        · rw [if_neg hb2] at z
          cases z
    refine go (fun b => if b ∈ cs.map (·.2) then some (HO.tbl #[]) else if b = a then some (HO.frz { cls := .type "list", data := .seq vs.toArray } (.lst (ns.map V.int))) else none) (fun b u z => ?_) (fun p hp => if_pos (mem p hp)) (fun _ => hk) (fun b u z => ?_) (.inl (.inr ⟨({ cls := .type "list", data := .seq vs.toArray } : Obj), ?_⟩))
    · rcases key b u z with ⟨h1, h2⟩ | h
      · exact .inl ⟨h1, _, _, h2⟩
      · exact .inr h
    · rcases key b u z with ⟨rfl, rfl⟩ | ⟨hb, rfl⟩
      · exact ⟨hobj, hz, vs, _, rv, hobj⟩
      · exact isT b hb
    · show (if a ∈ cs.map (·.2) then _ else if a = a then _ else none) = _
      rw [if_neg na, if_pos rfl]
end Ns

/-! NsL3: a guarded def whose code object is known. -/
namespace Ns
open PySem PySem.Spec PyProof.Rows L2
theorem Fun.okL {P : Program} {w : World} {K : PySem.W.Frag} {mg : Str → Option Value} {base : Heap} {x qual : Str} {st : Stmt} {f c : Addr} {fd : FuncData} {N ps : List Str} {k : Nat} {sp : Sp} (F : Fun K x qual st f fd) (S : FnScope N ps (defScope st))
    (hc : ∀ (oc : Value) (od : Option Addr) (gd : FuncData) (osl : Array (Option Value)), K.lookup f = some ⟨oc, od, .func gd, osl⟩ → gd.code = .ref c) (len : ∀ as H Q E, sp as H Q E → as.length = ps.length)
    (body : ∀ (A : Around) (outer : List Env) (s : Shared) (H : Hp) (as : List V) (Q : VK) (E : XK), Room k (A.deeper (envOfC qual (defScope st) s.heap.objs.size f (.ref c))) → (A.deeper (envOfC qual (defScope st) s.heap.objs.size f (.ref c))).guards = some [] → sp as H Q E →
      ∃ t, PSs (cxOf CX0 P w K mg base N qual (defScope st) f (.ref c) A outer s H E).nox (defBody st) t ∧ t { nx := fun _ H' => Q .non H', rt := Q } (start N as) H) : GnOk P w K mg base (k + 1) f fd ps sp := by
  obtain ⟨oc, od, kV, doc, pm, an, cdv, ct, osl, rfl, lk, hcd⟩ := F.ex
  have ecd : cdv = .ref c := hc _ _ _ _ lk
  subst ecd
  refine ⟨len, fun A outer s H args us as Q E hr hgd e0 hb r hsp => ?_⟩
  have old : ∀ b o, base.get? b = some o → s.heap.get? b = some o := fun b o z => (e0.bs b o z).1
  have kin : K.In s.heap := e0.mod.kin.keeps old
  refine codeAny_call_function hr.depth (kin _ _ lk) rfl S.co S.gen rfl (PySem.W.codeRec_of kin hcd) (hb _ _ _ _ (wpAny_newFunctionEnv_cells S.kind (fun y hy => ?_) fun env he s1 x => ?_))
  · have hm := (List.of_mem_zip (show (y.1, y.2) ∈ ps.zip us from hy)).1
    exact (S.par y.1 hm).imp (fun z => z) fun z => ⟨z, PySem.W.cellsFrom_some _ _ _ (.inl z)⟩
  · cases he
    refine ⟨(e0.mod.nolimit.keeps old).keeps x.toInCall.keep, codeAny_func ?_⟩
    obtain ⟨t, ht, hq⟩ := body A outer s H as Q E (hr.deeper _) hgd hsp
    have J := inv_start (CX := CX0) (E := E) S hr.hd e0 (len _ _ _ _ hsp) r x
    refine wpAny_mono (ht.nox.run [] s1 (start N as) H _ J hq) (fun fl s' hs => ?_) fun e s' hs => hs
    match fl, hs with
    | .ret u, ⟨v, _, H', J', rv, q⟩ => exact ⟨v, H', J'.os, J'.bare, J'.base, J'.hok, rv, q⟩
    | .next, ⟨_, H', J', q⟩ => exact ⟨V.non, H', J'.os, J'.bare, J'.base, J'.hok, rfl, q⟩
    | .brk, ⟨_, _, _, q⟩ => exact (show False from q).elim
    | .cont, ⟨_, _, _, q⟩ => exact (show False from q).elim
end Ns

namespace Ns
open PySem PySem.Spec PyProof.Rows L2
/-- the code object of a def whose table is known -/
theorem code_of {K : PySem.W.Frag} {x : Str} {f c P : Addr} (ad : PySem.W.nsIn K mainGlobals x = some (some (.ref f))) (ht : PySem.W.tabIn K x = some (c, P)) : ∀ (oc : Value) (od : Option Addr) (gd : FuncData) (osl : Array (Option Value)), K.lookup f = some ⟨oc, od, .func gd, osl⟩ → gd.code = .ref c := by
  intro oc od gd osl lk
  unfold PySem.W.tabIn at ht
  rw [ad] at ht
  simp only [lk] at ht
  split at ht
  · next d hd =>
    split at ht
    · split at ht
      · cases ht
        exact hd
      · cases ht
    · cases ht
  · cases ht
end Ns

namespace Ns
open PySem PySem.Spec PyProof.Rows L2 LamX
theorem walk_ofGM {l : PySem.W.OpenLaw} {k : Nat} {q : Program} {loose : List Str} {XP : (Str → Option Value) → Heap → Prop} {YP : World → Heap → Prop} {d : DefRec} {K : Params → PySem.W.Frag} (hn : l.most = some 63) (hdf : d.params.defaults = []) (hr : Room k callerA)
    (hY : ∀ (w : World) (h : Heap), YP w h → (K w.params).In h)
    (F : ∀ (w : World) (mg : Str → Option Value) (fa : Addr) (h : Heap), YP w h → (K w.params).In h → h.Ns mainGlobals mg → mg d.name = some (.ref fa) →
      ∃ (fd : FuncData) (cs : List (Addr × Addr)), Makers (K w.params) h cs ∧ (∀ (z : Shared) (u : Value), BindsTo z fd ⟨[u], []⟩ [("script", u)]) ∧
        ∀ base : Heap, (K w.params).In base → base.Ns mainGlobals mg → (∀ p ∈ cs, TabB base mg p.1 p.2) → GnOk l.prog w (K w.params) mg base k fa fd ["script"] (spTopT (K w.params) cs)) :
    PySem.W.WalkO q loose XP YP l.row.toRowW d [] (fun f vs => PySem.call f vs) := by
  refine Att.attach_call hn hdf ?_
  intro w s0 s mg mb fa o pm cd doc a vs ns G Y ho hd hcd hmg hobj hints hlen hg
  have KX := hY w _ Y
  obtain ⟨fd, cs, M, bd, hF⟩ := F w mg fa _ Y KX G.T.g hmg
  have rv := L2.vals_ints hints
  have hz : (ns.map V.int).length ≤ sizeLine := by
    rw [List.length_map]
    exact Nat.le_trans hlen (by decide)
  have mem : ∀ p ∈ cs, p.2 ∈ cs.map (·.2) := fun p hp => List.mem_map.mpr ⟨p, hp, rfl⟩
  have isT : ∀ b ∈ cs.map (·.2), s.heap.get? b = some { cls := .none, data := .fields #[] } := fun b hb => by
    obtain ⟨p, hp, rfl⟩ := List.mem_map.mp hb
    exact M.mt p hp
  have go := entry_tabs (P := l.prog) (w := w) (a := a) (ns := ns) (cs := cs) M KX G.T.g G.T.b G.T.builtins G.T.nolimit hg hobj hlen G.T.bmain hr hF bd
  cases hk : (K w.params).lookup a with
  | some ok =>
    have e := KX a ok hk
    rw [hobj] at e
    cases e
    refine go (fun b => if b ∈ cs.map (·.2) then some (.tbl #[]) else none) (fun b u z => ?_) (fun p hp => if_pos (mem p hp)) (fun z => ?_) (fun b u z => ?_) (.inr ⟨_, vs.toArray, _, hk, rfl, rfl, rfl, ?_, by simpa using rv⟩)
    · by_cases hb : b ∈ cs.map (·.2)
      · exact .inr ⟨hb, (Option.some.inj ((if_pos hb).symm.trans z)).symm⟩
      · cases (if_neg hb).symm.trans z
    · refine absurd ?_ z
      refine if_neg fun hb => ?_
      have e := isT a hb
      rw [hobj] at e
      cases e
    · by_cases hb : b ∈ cs.map (·.2)
      · cases (if_pos hb).symm.trans z
        exact isT b hb
      · cases (if_neg hb).symm.trans z
    · rw [List.size_toArray, ← rv.length]
      exact hz
  | none =>
    have na : a ∉ cs.map (·.2) := fun hb => by
      have e := isT a hb
      rw [hobj] at e
      cases e
    have key : ∀ (b : Addr) (u : HO), (if b ∈ cs.map (·.2) then some (HO.tbl #[]) else if b = a then some (HO.frz { cls := .type "list", data := .seq vs.toArray } (.lst (ns.map V.int))) else none) = some u → (b = a ∧ u = HO.frz { cls := .type "list", data := .seq vs.toArray } (.lst (ns.map V.int))) ∨ (b ∈ cs.map (·.2) ∧ u = .tbl #[]) := fun b u z => by
      by_cases hb : b ∈ cs.map (·.2)
      · rw [if_pos hb] at z
        exact .inr ⟨hb, (Option.some.inj z).symm⟩
      · rw [if_neg hb] at z
        by_cases hb2 : b = a
        · rw [if_pos hb2] at z
          exact .inl ⟨hb2, (Option.some.inj z).symm⟩
        · rw [if_neg hb2] at z
          cases z
    refine go (fun b => if b ∈ cs.map (·.2) then some (HO.tbl #[]) else if b = a then some (HO.frz { cls := .type "list", data := .seq vs.toArray } (.lst (ns.map V.int))) else none) (fun b u z => ?_) (fun p hp => if_pos (mem p hp)) (fun _ => hk) (fun b u z => ?_) (.inl (.inr ⟨({ cls := .type "list", data := .seq vs.toArray } : Obj), ?_⟩))
    · rcases key b u z with ⟨h1, h2⟩ | h
      · exact .inl ⟨h1, _, _, h2⟩
      · exact .inr h
    · rcases key b u z with ⟨rfl, rfl⟩ | ⟨hb, rfl⟩
      · exact ⟨hobj, hz, vs, _, rv, hobj⟩
      · exact isT b hb
    · show (if a ∈ cs.map (·.2) then _ else if a = a then _ else none) = _
      rw [if_neg na, if_pos rfl]
end Ns

/-! COULD of a row -/
namespace Y
open PySem PySem.Spec PyProof.Rows L2 Ns LamX LamP
def qLam : Str := Str.ofString "_law_could_of.<locals>.<lambda>"
/-- COULD of a row, by the formula -/
def spCouldOf (K : PySem.W.Frag) (P : Addr) : Sp := fun as H Q _ => ∃ (y : V) (nt : Addr) (R : List Run) (ns : List Int), as = [y, .ref nt] ∧ RowV K H y R ∧ (∀ r ∈ R, -(2 ^ 64) < r.1 ∧ r.1 < 2 ^ 64) ∧ SqT K H nt (ns.map V.int) ∧ ns.length ≤ 100 ∧ Tabs [(P, qLam)] H ∧
  ∀ (p : Addr) (H' : Hp), ExtN H H' → Tabs [(P, qLam)] H' → H' p = some (.lst ((cds (fun h => lrch R (h : Int)) ns).map V.int)) → (∀ b o, H b = some o → (∀ ps, o ≠ .tbl ps) → p ≠ b) → Q (.ref p) H'
theorem sqt_ext {K : PySem.W.Frag} {H H' : Hp} (m : ExtN H H') {a : Addr} {xs : List V} (h : SqT K H a xs) : SqT K H' a xs := h.elim (fun z => .inl (z.elim (fun z => .inl (m _ _ z fun _ y => nomatch y)) fun ⟨o, z⟩ => .inr ⟨o, m _ _ z fun _ y => nomatch y⟩)) .inr
theorem RowV.ext {K : PySem.W.Frag} {H H' : Hp} {v : V} {R : List Run} (h : RowV K H v R) (m : ExtN H H') : RowV K H' v R := by
  obtain ⟨t, xs, rfl, h1, h2⟩ := h
  exact ⟨t, xs, rfl, sqt_ext m h1, paired_imp (fun v c ⟨a, e1, q⟩ => ⟨a, e1, sqt_ext m q⟩) h2⟩
theorem lamOnly : ∀ y : Str, ([("hours", .local), ("row", .free), ("_law_row_reach", .globalImplicit)] : List (Str × NameKind)).lookup y = some .local → y = "hours" := fun y h => by
  rw [List.lookup_cons] at h
  split at h
  · next e => exact beq_iff_eq.mp e
  · rw [List.lookup_cons] at h
    split at h
    · cases h
    · rw [List.lookup_cons] at h
      split at h
      · cases h
      · cases h
section
variable {Pr : Program} {w : World} {K : PySem.W.Frag} {mg : Str → Option Value} {base : Heap}
end
end Y

/-! runs put one by one -/
namespace Y
open PySem PySem.Spec PyProof.Rows L2 Ns
open C8 (pss_cut)
def runD (r : Run) : PyData := .tuple [.int r.1, .int r.2]
theorem dp_runs {K : PySem.W.Frag} {H : Hp} : ∀ {ys : List V} {fl : List Run}, Paired (RunV K H) ys fl → DpAll K H ys (fl.map runD)
  | _, _, .nil => .nil
  | _, _, .cons ⟨t, e, h⟩ r => by
    subst e
    exact .cons (.tup h (.cons (.int _) (.cons (.int _) .nil))) (dp_runs r)
theorem lay_runs : ∀ fl : List Run, PyData.canLayAll0 (fl.map runD) = true ∧ PyData.depthAll (fl.map runD) ≤ 1
  | [] => ⟨rfl, by simp [PyData.depthAll]⟩
  | r :: fl => by
    obtain ⟨h1, h2⟩ := lay_runs fl
    refine ⟨by simp [runD, PyData.canLayAll0, PyData.canLay0, h1], ?_⟩
    simp only [List.map_cons, PyData.depthAll, runD, PyData.depth]
    omega
theorem shaped_runs (fl : List Run) : SeqAt.shaped (.list (fl.map runD)) = true := by
  obtain ⟨h1, h2⟩ := lay_runs fl
  unfold SeqAt.shaped
  rw [Bool.and_eq_true]
  refine ⟨by simp [PyData.canLay0, h1], decide_eq_true ?_⟩
  simp only [PyData.depth]
  omega
/-- all but the list at l stands -/
def But (l : Addr) (H H' : Hp) : Prop := ∀ b o, b ≠ l → H b = some o → H' b = some o
theorem But.of {l : Addr} {H H' : Hp} (m : Same H H') : But l H H' := fun b o _ e => m b o e
theorem But.trans {l : Addr} {H H1 H2 : Hp} (a : But l H H1) (b : But l H1 H2) : But l H H2 := fun c o n e => b c o n (a c o n e)
theorem But.put {l : Addr} {H H' : Hp} {o : HO} (h : But l H H') : But l H (upd H' l o) := fun c u n e => by rw [upd_ne n]; exact h c u n e
theorem sqt_but {K : PySem.W.Frag} {H H' : Hp} {l a : Addr} {vs xs : List V} (e : H l = some (.lst vs)) (m : But l H H') (h : SqT K H a xs) : SqT K H' a xs := by
  rcases h with (h | ⟨o, h⟩) | h
  · exact .inl (.inl (m _ _ (fun z => by rw [z, e] at h; cases h) h))
  · exact .inl (.inr ⟨o, m _ _ (fun z => by rw [z, e] at h; cases h) h⟩)
  · exact .inr h
theorem runs_but {K : PySem.W.Frag} {H H' : Hp} {l : Addr} {vs : List V} (e : H l = some (.lst vs)) (m : But l H H') {xs : List V} {R : List Run} (h : Paired (RunV K H) xs R) : Paired (RunV K H') xs R := paired_imp (fun v c ⟨a, e1, q⟩ => ⟨a, e1, sqt_but e m q⟩) h
theorem paired_app {α β : Type} {R : α → β → Prop} : ∀ {as : List α} {bs : List β}, Paired R as bs → ∀ {cs : List α} {ds : List β}, Paired R cs ds → Paired R (as ++ cs) (bs ++ ds)
  | _, _, .nil, _, _, h => h
  | _, _, .cons h t, _, _, g => .cons h (paired_app t g)
theorem paired_split {α β : Type} {R : α → β → Prop} {as : List α} {a : α} : ∀ {bs : List β}, Paired R (as ++ [a]) bs → ∃ ds b, bs = ds ++ [b] ∧ Paired R as ds ∧ R a b := by
  induction as with
  | nil =>
    intro bs h
    cases h with
    | cons h t => cases t; exact ⟨[], _, rfl, .nil, h⟩
  | cons x as ih =>
    intro bs h
    cases h with
    | cons h t =>
      obtain ⟨ds, b, rfl, h1, h2⟩ := ih t
      exact ⟨_ :: ds, b, rfl, .cons h h1, h2⟩
/-- a run put behind the others -/
def spPut (K : PySem.W.Frag) : Sp := fun as H Q _ => ∃ (l : Addr) (s t : Int) (vs : List V) (R : List Run), as = [.ref l, .int s, .int t] ∧ H l = some (.lst vs) ∧ Paired (RunV K H) vs R ∧ R.length ≤ 500 ∧
  ∀ (us : List V) (H' : Hp), H' l = some (.lst us) → Paired (RunV K H') us (RM.put R s t) → But l H H' → Q .non H'
section
variable {P : Program} {w : World} {K : PySem.W.Frag} {mg : Str → Option Value} {base : Heap}
theorem scPR : FnScope ["runs", "step", "times"] ["runs", "step", "times"] (defScope sPutRun) := ⟨rfl, rfl, rfl, by decide +kernel, rfl, by decide +kernel, by decide +kernel⟩
theorem ok_putRun {f : Addr} {fd : FuncData} (F : Fun K "put_run" "put_run" sPutRun f fd) (T : Nat0 mg) : FnOk P w K mg base CX0 1 f fd ["runs", "step", "times"] (spPut K) := by
  refine F.ok scPR (fun as H Q E h => ?_) (fun cdv A outer s H as Q E hr h => ?_)
  · obtain ⟨l, st, t, vs, R, rfl, _⟩ := h
    rfl
  · obtain ⟨l, st, t, vs, R, rfl, hL, hR, l5, k⟩ := h
    refine ⟨_, pss_cons (ps_if (PW.pt (pw_or (pt_cmpR op_eq (pv 1) pe_int (nomark _)) (pw_or1 (pt_cmpR op_eq (pv 2) pe_int (nomark _))))) (pss_one ps_retN) pss_nil)
      (pss_cut (ps_if (PW.pt (pw_and (pt_cmpR (op_neD hr.units) (pv 0) (pe_lst pa_nil) (nomark _)) (pw_and1 (pt_cmpR op_eq (pe_ix ix_tup (pe_ix ix_list (pv 0) (pe_un un_neg pe_int) (fun _ _ => rfl)) pe_int (fun _ _ => rfl)) (pv 1) (nomark _)))))
        (pss_one (ps_aug (i := 2) scPR.nd rfl (.inl rfl) (pe_ix ix_tup (pe_bm0 PySem.F.plainAttrs_list PySem.F.slot_list_pop PySem.F.type_list_pop mt_pop (pv 0)) pe_int (fun _ _ => rfl)) ip_add)) pss_nil)
      (pss_one (ps_expr (pe_bm PySem.F.plainAttrs_list PySem.F.slot_list_append PySem.F.type_list_append mt_append (pv 0) (pa_cons (pe_tup (pa_cons (pv 1) (pa_cons (pv 2) pa_nil))) pa_nil))))), ?_⟩
    refine ⟨_, rfl, rfl, _, rfl, ?_⟩
    have none0 : st = 0 ∨ t = 0 → Paired (RunV K H) vs (RM.put R st t) := fun z => by
      unfold RM.put
      rw [if_pos z]
      exact hR
    refine ite2 (fun c0 => ?_) (fun c0 => ?_)
    · refine ite2 (fun _ => ?_) (fun z => absurd rfl z)
      exact k vs H hL (none0 (.inl (V.int.inj (of_decide_eq_true c0)))) (.of (.refl H))
    have s0 : st ≠ 0 := fun z => c0 (decide_eq_true (congrArg V.int z))
    refine ⟨_, rfl, rfl, _, rfl, ?_⟩
    refine ite2 (fun c1 => ?_) (fun c1 => ?_)
    · exact k vs H hL (none0 (.inr (V.int.inj (of_decide_eq_true c1)))) (.of (.refl H))
    have t0 : t ≠ 0 := fun z => c1 (decide_eq_true (congrArg V.int z))
    clear none0 c0 c1
    have lv := paired_len hR
    refine ⟨fun σ H' => ∃ (t' : Int) (us : List V) (R' : List Run), σ = [some (.ref l), some (.int st), some (.int t')] ∧ H' l = some (.lst us) ∧ Paired (RunV K H') us R' ∧ R'.length ≤ 500 ∧ But l H H' ∧ RM.put R st t = R' ++ [(st, t')], ?_, ?_⟩
    · refine ⟨_, rfl, by show 0 ≤ sizeLine; decide, fun q hq => ⟨.list (R.map runD), .list [], .lst (SqL.of (s3u hq hL)) (dp_runs (paired_imp (fun v c ⟨a, e1, z⟩ => ⟨a, e1, sqt_more (same_new (Same.refl H) hq) z⟩) hR)), .lst (SqL.of upd_same) .nil, shaped_runs R, by decide +kernel, _, rfl, ?_⟩⟩
      have B1 := But.of (l := l) (same_new (o := .lst []) (Same.refl H) hq)
      have L1 : upd H q (.lst []) l = some (.lst vs) := s3u hq hL
      have R1 := runs_but hL B1 hR
      generalize upd H q (.lst []) = H1 at B1 L1 R1 ⊢
      have putN : R = [] ∨ (∃ ds b, R = ds ++ [b] ∧ b.1 ≠ st) → RM.put R st t = R ++ [(st, t)] := fun z => by
        unfold RM.put
        rw [if_neg (fun z => z.elim s0 t0)]
        rcases z with rfl | ⟨ds, b, rfl, hb⟩
        · rfl
        · rw [show (ds ++ [b]).getLast? = some b by simp]
          show (if b.1 = st then _ else _) = _
          rw [if_neg hb]
      rcases List.eq_nil_or_concat R with e | ⟨ds, b, e⟩
      · subst e
        refine ite2 (fun c => absurd c (by decide)) (fun _ => ?_)
        refine ite2 (fun z => absurd z Bool.false_ne_true) (fun _ => ?_)
        exact ⟨t, vs, [], rfl, L1, R1, l5, B1, putN (.inl rfl)⟩
      · have e : R = ds ++ [b] := by rw [e, List.concat_eq_append]
        subst e
        refine ite2 (fun _ => ?_) (fun c => absurd (by cases ds <;> rfl) c)
        obtain ⟨ws, v, ev⟩ : ∃ ws v, vs = ws ++ [v] := by
          rcases List.eq_nil_or_concat vs with e | ⟨ws, v, e⟩
          · rw [e, List.length_append] at lv
            simp at lv
          · exact ⟨ws, v, by rw [e, List.concat_eq_append]⟩
        subst ev
        obtain ⟨ds', b', e, hW, hb'⟩ := paired_split R1
        obtain ⟨e1, e2⟩ := List.append_inj' e rfl
        cases e2
        subst e1
        obtain ⟨a, rfl, ha⟩ := hb'
        refine ⟨_, rfl, 1, rfl, l, _, -1, .ref a, rfl, rfl, SqL.of L1, atI_last _ _, a, _, 0, .int b.1, rfl, rfl, ha, at0, _, rfl, rfl, _, rfl, ?_⟩
        refine ite2 (fun c => ?_) (fun c => ?_)
        · have eb : b.1 = st := V.int.inj (of_decide_eq_true c)
          refine ⟨_, rfl, _, rfl, .inl ⟨rfl, _, SqL.of L1⟩, l, _, .ref a, rfl, rfl, L1, by simp, ?_⟩
          rw [List.dropLast_concat]
          have B2 := But.put (o := .lst ws) B1
          have B12 := But.put (o := .lst ws) (But.of (l := l) (Same.refl H1))
          refine ⟨a, _, 1, .int b.2, rfl, rfl, sqt_but L1 B12 ha, at1, t, b.2, rfl, rfl, ?_⟩
          refine ⟨t + b.2, ws, ds, rfl, upd_same, runs_but L1 B12 hW, by rw [List.length_append] at l5; omega, B2, ?_⟩
          unfold RM.put
          rw [if_neg (fun z => z.elim s0 t0), show (ds ++ [b]).getLast? = some b by simp]
          show (if b.1 = st then _ else _) = _
          rw [if_pos eb, List.dropLast_concat]
        · have eb : b.1 ≠ st := fun z => c (decide_eq_true (congrArg V.int z))
          exact ⟨t, _, _, rfl, L1, R1, l5, B1, putN (.inr ⟨ds, b, rfl, eb⟩)⟩
    rintro σ H' ⟨t', us, R', rfl, L2', R2, l6, B2, ep⟩
    have lu := paired_len R2
    refine ⟨_, rfl, .inl ⟨rfl, _, SqL.of L2'⟩, _, rfl, _, rfl, by show 2 ≤ sizeLine; decide, fun q hq => ?_⟩
    have B3 := But.trans B2 (But.of (l := l) (same_new (o := .tup [.int st, .int t']) (Same.refl H') hq))
    refine ⟨l, us, .ref q, rfl, rfl, s3u hq L2', small1000 (by omega), ?_⟩
    have nql : q ≠ l := fun z => by rw [z, L2'] at hq; cases hq
    refine k (us ++ [.ref q]) _ upd_same ?_ B3.put
    rw [ep]
    refine paired_app (paired_imp (fun v c ⟨a, e1, z⟩ => ⟨a, e1, ?_⟩) R2) (.cons ⟨q, rfl, SqT.of (by rw [upd_ne nql, upd_same])⟩ .nil)
    exact sqt_but L2' (But.put (But.of (same_new (o := .tup [.int st, .int t']) (Same.refl H') hq))) z
end
end Y

/-! the row behind a sum -/
namespace Y
open PySem PySem.Spec PyProof.Rows L2 Ns
open C8 (pss_cut)
section
variable {X : Cx}
/-- t + u: a tuple with these items -/
def rCatU (K : PySem.W.Frag) : R2 := fun x y H Q => ∃ a b xs ys, x = .ref a ∧ y = .ref b ∧ SqT K H a xs ∧ SqT K H b ys ∧ xs.length + ys.length ≤ sizeLine ∧ ∀ (p : Addr) (H' : Hp), Same H H' → SqT K H' p (xs ++ ys) → Q (.ref p) H'
theorem op_catU : OpR X (binaryOp .Add) (rCatU X.K) := by
  intro pins s σ H x y v u Q I rx ry h
  obtain ⟨a, b, xs, ys, rfl, rfl, ha, hb, hz, q⟩ := h
  refine op_catA pins s σ H _ _ v u Q I rx ry ⟨a, b, xs, ys, rfl, rfl, ha, hb, hz, fun e => q b H (Same.refl H) (by rw [e]; exact hb), fun _ e => q a H (Same.refl H) (by rw [e, List.append_nil]; exact ha), fun _ _ p hp => q p _ (same_new (Same.refl H) hp) (SqT.of upd_same)⟩
end
theorem cut_from (xs : List V) (k : Nat) : cutV xs (some (k : Int)) none = xs.drop k := by
  unfold cutV
  rw [HT.sIx_none]
  have e : HT.sIx xs.length 0 (some (k : Int)) = min k xs.length := by
    show (if (k : Int) < 0 then ((k : Int) + (xs.length : Int)).toNat else min (k : Int).toNat xs.length) = _
    rw [if_neg (by omega), Int.toNat_natCast]
  rw [e, List.take_of_length_le (by rw [List.length_drop]; omega)]
  by_cases h : k ≤ xs.length
  · rw [Nat.min_eq_left h]
  · rw [Nat.min_eq_right (by omega), List.drop_eq_nil_of_le (Nat.le_refl _), List.drop_eq_nil_of_le (by omega)]
theorem paired_take {α β : Type} {R : α → β → Prop} : ∀ {as : List α} {bs : List β}, Paired R as bs → ∀ n, Paired R (as.take n) (bs.take n)
  | _, _, .nil, n => by rw [List.take_nil, List.take_nil]; exact .nil
  | _, _, .cons h t, 0 => .nil
  | _, _, .cons h t, n + 1 => .cons h (paired_take t n)
theorem paired_drop {α β : Type} {R : α → β → Prop} : ∀ {as : List α} {bs : List β}, Paired R as bs → ∀ n, Paired R (as.drop n) (bs.drop n)
  | _, _, .nil, n => by rw [List.drop_nil, List.drop_nil]; exact .nil
  | _, _, .cons h t, 0 => .cons h t
  | _, _, .cons h t, n + 1 => paired_drop t n
theorem put_len (R : List Run) (s t : Int) : (RM.put R s t).length ≤ R.length + 1 := by
  unfold RM.put
  split
  · omega
  · split
    · split
      · rw [List.length_append, List.length_dropLast]
        show R.length - 1 + 1 ≤ _
        omega
      · rw [List.length_append]
        exact Nat.le_refl _
    · rw [List.length_append]
      exact Nat.le_refl _
theorem cnt_pos {R : List Run} {x : Int} (h0 : 1 ≤ x) (h : x ≤ RM.top R) : 1 ≤ RM.cnt x R ∧ RM.cnt x R ≤ R.length := by
  refine ⟨?_, List.length_filter_le _ _⟩
  cases R with
  | nil =>
    have : x ≤ (0 : Int) := h
    omega
  | cons q r =>
    rw [RM.cnt_cons (show x ≤ q.1 from h)]
    omega
/-- the row behind a sum -/
def tk (x : Int) (R : List Run) : List Run := if x = 0 then R else RM.tkc x R
def spTaken (K : PySem.W.Frag) : Sp := fun as H Q _ => ∃ (y : V) (x m : Int) (R : List Run), as = [y, .int x] ∧ RowV K H y R ∧ RM.Vd m R ∧ 1 ≤ m ∧ 0 ≤ x ∧ x ≤ RM.top R ∧ R.length ≤ 400 ∧ ∀ (y' : V) (H' : Hp), RowV K H' y' (tk x R) → Same H H' → Q y' H'
theorem same_but {l : Addr} {H H1 H2 : Hp} (m : Same H H1) (n : H l = none) (b : But l H1 H2) : Same H H2 := fun c o e => b c o (fun z => by rw [z, n] at e; cases e) (m c o e)
section
variable {P : Program} {w : World} {K : PySem.W.Frag} {mg : Str → Option Value} {base : Heap}
end
end Y

/-! nights over rows -/
namespace Y
open PySem PySem.Spec PyProof.Rows L2 Ns
open C8 (pss_cut)
theorem stp_top {R : List Run} {m : Int} (v : RM.Vd m R) : stp R 1 = RM.top R := by
  cases R with
  | nil => rfl
  | cons r R =>
    have := v.2.2.1
    show (if 1 ≤ r.2 then r.1 else stp R (1 - r.2)) = r.1
    rw [if_pos this]
theorem mn_min (i j : Int) : mn i j = min i j := by
  unfold mn
  split <;> omega
theorem vd_bd : ∀ {R : List Run} {m : Int}, RM.Vd m R → m ≤ 2 ^ 60 → ∀ r ∈ R, -(2 ^ 64) < r.1 ∧ r.1 < 2 ^ 64
  | [], _, _, _, _, h => by cases h
  | q :: R, m, v, hm, r, h => by
    have k1 := v.1
    have k2 := v.2.1
    rcases List.mem_cons.mp h with rfl | h
    · omega
    · exact vd_bd v.2.2.2 (by omega) r h
theorem one_len (s t : Int) : (RM.one s t).length ≤ 1 := by
  unfold RM.one
  split
  · exact Nat.zero_le _
  · exact Nat.le_refl _
theorem tkc_len : ∀ (x : Int) (R : List Run), (RM.tkc x R).length ≤ R.length + 1
  | _, [] => Nat.zero_le _
  | x, [q] => by
    unfold RM.tkc
    have := one_len q.1 (q.2 - 1)
    rw [List.length_append]
    split
    · show _ + 0 ≤ 2
      omega
    · show _ + 1 ≤ 2
      omega
  | x, q :: p :: B => by
    unfold RM.tkc
    have h1 := one_len q.1 (q.2 - 1)
    have h2 := one_len p.1 (p.2 - 1)
    have c1 : (p :: B).length = B.length + 1 := List.length_cons
    have c2 : (q :: p :: B).length = (p :: B).length + 1 := List.length_cons
    split
    · have h3 := tkc_len x (p :: B)
      have c3 : (q :: RM.tkc x (p :: B)).length = (RM.tkc x (p :: B)).length + 1 := List.length_cons
      omega
    · rw [List.length_append]
      split
      · omega
      · rw [List.length_cons, List.length_append]
        omega
theorem bh_tk (R : List Run) (s : Int) : RM.bh R s = tk (min s (RM.top R)) R := rfl
theorem bh_len (R : List Run) (s : Int) : (RM.bh R s).length ≤ R.length + 1 := by
  unfold RM.bh
  split
  · omega
  · exact tkc_len _ _
def spFT (K : PySem.W.Frag) : Sp := fun as H Q _ => ∃ (y : V) (s m : Int) (R : List Run), as = [y, .int s] ∧ RowV K H y R ∧ RM.Vd m R ∧ 1 ≤ m ∧ m ≤ 2 ^ 60 ∧ Q (.int (min s (RM.top R))) H
def spBehind (K : PySem.W.Frag) : Sp := fun as H Q _ => ∃ (y : V) (nt : Addr) (m : Int) (R : List Run) (ns : List Int), as = [y, .ref nt] ∧ RowV K H y R ∧ RM.Vd m R ∧ 1 ≤ m ∧ m ≤ 2 ^ 60 ∧ SqT K H nt (ns.map V.int) ∧ (∀ s ∈ ns, 0 ≤ s) ∧ R.length + ns.length ≤ 400 ∧
  ∀ (y' : V) (H' : Hp), RowV K H' y' (RM.bhN R ns) → Same H H' → Q y' H'
/-- the sums of what is taken -/
def cin (R : List Run) (ns : List Int) : List Int := (List.range (ns.length + 1)).map fun m => RM.tot R (ns.take m)
def spCould (K : PySem.W.Frag) : Sp := fun as H Q _ => ∃ (y : V) (nt : Addr) (m : Int) (R : List Run) (ns : List Int), as = [y, .ref nt] ∧ RowV K H y R ∧ RM.Vd m R ∧ 1 ≤ m ∧ m ≤ 2 ^ 60 ∧ SqT K H nt (ns.map V.int) ∧ (∀ s ∈ ns, 0 ≤ s) ∧ R.length + ns.length ≤ 400 ∧
  ∀ (p : Addr) (H' : Hp), H' p = some (.lst ((cin R ns).map V.int)) → H p = none → Same H H' → Q (.ref p) H'
theorem bhN_take {R : List Run} {ns : List Int} {i : Nat} {s : Int} (h : ns[i]? = some s) : RM.bhN R (ns.take (i + 1)) = RM.bh (RM.bhN R (ns.take i)) s := by
  rw [List.take_succ, h]
  exact RM.bhN_app R (ns.take i) [s]
theorem tot_take {R : List Run} {ns : List Int} {i : Nat} {s : Int} (h : ns[i]? = some s) : RM.tot R (ns.take (i + 1)) = RM.tot R (ns.take i) + min s (RM.top (RM.bhN R (ns.take i))) := by
  rw [List.take_succ, h]
  show RM.tot R (ns.take i ++ [s]) = _
  rw [RM.tot_app]
  show _ + (min s _ + 0) = _
  omega
theorem bhN_len {R : List Run} : ∀ ns : List Int, (RM.bhN R ns).length ≤ R.length + ns.length := fun ns => by
  induction ns generalizing R with
  | nil => exact Nat.le_refl _
  | cons s ns ih =>
    show (RM.bhN (RM.bh R s) ns).length ≤ _
    have := ih (R := RM.bh R s)
    have := bh_len R s
    rw [List.length_cons]
    omega
theorem ints_of {ns : List Int} {i : Nat} {v : V} (h : (ns.map V.int)[i]? = some v) : ∃ z, ns[i]? = some z ∧ v = .int z := by
  rw [List.getElem?_map] at h
  obtain ⟨x, e1, e2⟩ := Option.map_eq_some_iff.mp h
  exact ⟨x, e1, e2.symm⟩
section
variable {P : Program} {w : World} {K : PySem.W.Frag} {mg : Str → Option Value} {base : Heap}
end
end Y

/-! drawn nights -/
namespace Y
open PySem PySem.Spec PyProof.Rows L2 Ns
open C8 (pss_cut)
def st1 (R : List Run) : List Int := R.map fun r => r.1
theorem sql_new {K : PySem.W.Frag} {H : Hp} {b p : Addr} {xs : List V} (e : H p = some (.lst xs)) (n : p ≠ b) : SqL K (wo H b) p xs := SqL.of ((wo_ne n).trans e)
def spSup (K : PySem.W.Frag) : Sp := fun as H Q _ => ∃ (b : Addr) (y : V) (R : List Run), as = [.ref b, y] ∧ Bag H b ∧ RowV K (wo H b) y R ∧ Runs R ∧ ∀ (v : Int) (H' : Hp), 0 ≤ v → v ≤ 10 ^ 12 - 1 → Bag H' b → Sb b H H' → Q (.int v) H'
def spNight (K : PySem.W.Frag) : Sp := fun as H Q _ => ∃ (b : Addr) (y : V) (most : Nat) (R : List Run), as = [.ref b, y, .int most] ∧ Bag H b ∧ RowV K (wo H b) y R ∧ Runs R ∧ most ≤ 20 ∧
  ∀ (t : Addr) (ns : List Int) (H' : Hp), H' t = some (.tup (ns.map V.int)) → t ≠ b → ns.length ≤ most → (∀ s ∈ ns, 0 ≤ s ∧ s ≤ 10 ^ 12 - 1) → Bag H' b → Sb b H H' → Q (.ref t) H'
section
variable {P : Program} {w : World} {K : PySem.W.Frag} {mg : Str → Option Value} {base : Heap}
end
end Y

/-! what the law of rows' numbers compares -/
namespace Y
open PySem PySem.Spec PyProof.Rows L2 Ns
theorem dp_ints {K : PySem.W.Frag} {H : Hp} : ∀ l : List Int, DpAll K H (l.map V.int) (l.map PyData.int)
  | [] => .nil
  | i :: l => .cons (.int i) (dp_ints l)
theorem lay_ints : ∀ l : List Int, PyData.canLayAll0 (l.map PyData.int) = true ∧ PyData.depthAll (l.map PyData.int) = 0
  | [] => ⟨rfl, by simp [PyData.depthAll]⟩
  | i :: l => by
    obtain ⟨h1, h2⟩ := lay_ints l
    exact ⟨by simp [PyData.canLayAll0, PyData.canLay0, h1], by simp [PyData.depthAll, PyData.depth, h2]⟩
theorem shaped_ints (l : List Int) : SeqAt.shaped (.list (l.map PyData.int)) = true := by
  obtain ⟨h1, h2⟩ := lay_ints l
  unfold SeqAt.shaped
  rw [Bool.and_eq_true]
  refine ⟨by simp [PyData.canLay0, h1], decide_eq_true ?_⟩
  simp only [PyData.depth, h2]
  decide
theorem big_ok {n : Nat} (h : n ≤ 1000000) : n ≤ sizeLine := by rw [sizeLine_eq]; omega
theorem fit_num {i : Int} (h0 : 0 ≤ i) (h : i ≤ 10 ^ 28) : Fit 300 0 (.int i) :=
  (fit_int (n := 29) (by decide) (by omega) (by decide)).mono (by decide) (Nat.le_refl _)
theorem fit_ints {l : List Int} (hl : l.length ≤ 100) (h : ∀ i ∈ l, 0 ≤ i ∧ i ≤ 10 ^ 28) : Fit 40000 1 (.tuple (l.map PyData.int)) := by
  refine (fit_tuple (m := 300) (k := 0) fun d hd => ?_).mono ?_ (by decide)
  · obtain ⟨x, hx, rfl⟩ := List.mem_map.mp hd
    exact fit_num (h x hx).1 (h x hx).2
  · rw [List.length_map]
    omega
section
variable {K : PySem.W.Frag} {H : Hp}
theorem dat_ints : ∀ ls : List Int, DatA K H (ls.map V.int) (ls.map PyData.int)
  | [] => .nil
  | _ :: ls => .cons (.int _) (dat_ints ls)
theorem same_rows {E : V → V → Prop} : ∀ {xs : List V}, (∀ x ∈ xs, E x x) → Paired E xs xs
  | [], _ => .nil
  | x :: xs, h => .cons (h x List.mem_cons_self) (same_rows fun y hy => h y (List.mem_cons_of_mem _ hy))
theorem eqT_flat {x : V} (n : Nat) (h : flatB x = true) : EqT K H (n + 1) x x := .inl ⟨rfl, h⟩
theorem eqT_tup {a b : Addr} {xs : List V} (n : Nat) (ha : SqT K H a xs) (hb : SqT K H b xs) (h : ∀ x ∈ xs, flatB x = true) : EqT K H (n + 2) (.ref a) (.ref b) :=
  .inr (.inr (.inr ⟨a, b, xs, xs, rfl, rfl, ha, hb, same_rows fun x hx => eqT_flat n (h x hx)⟩))
theorem flat_ints {l : List Int} : ∀ x ∈ l.map V.int, flatB x = true := fun x hx => by
  obtain ⟨t, _, rfl⟩ := List.mem_map.mp hx
  rfl
/-- two lists of the same two numbers -/
theorem eq_two {a b : Addr} {i j : Int} (ha : H a = some (.lst [.int i, .int j])) (hb : H b = some (.lst [.int i, .int j])) : EqS K H 3 (.ref a) (.ref b) :=
  .inl (.inl ⟨a, b, _, _, rfl, rfl, SqL.of ha, SqL.of hb, .cons (eqT_flat 2 rfl) (.cons (eqT_flat 2 rfl) .nil)⟩)
theorem dat_two {a : Addr} {i j : Int} (ha : H a = some (.lst [.int i, .int j])) : DatV K H (.ref a) (.list [.int i, .int j]) := .lst (SqL.of ha) (.cons (.int _) (.cons (.int _) .nil))
theorem fit_two {i j : Int} (h1 : 0 ≤ i) (h2 : i ≤ 10 ^ 28) (h3 : 0 ≤ j) (h4 : j ≤ 10 ^ 28) : Fit 1000 1 (.list [.int i, .int j]) := by
  refine (fit_list (m := 300) (k := 0) fun d hd => ?_).mono (show 2 * (300 + 2) + 3 ≤ 1000 by decide) (by decide)
  simp only [List.mem_cons, List.not_mem_nil, or_false] at hd
  rcases hd with rfl | rfl
  · exact fit_num h1 h2
  · exact fit_num h3 h4
/-- two lists of the same two numbers and the same tuple of numbers -/
theorem eq_three {a b p q : Addr} {i j : Int} {l : List Int} (ha : H a = some (.lst [.int i, .int j, .ref p])) (hb : H b = some (.lst [.int i, .int j, .ref q])) (hp : H p = some (.tup (l.map V.int))) (hq : H q = some (.tup (l.map V.int))) : EqS K H 4 (.ref a) (.ref b) :=
  .inl (.inl ⟨a, b, _, _, rfl, rfl, SqL.of ha, SqL.of hb, .cons (eqT_flat 3 rfl) (.cons (eqT_flat 3 rfl) (.cons (eqT_tup 2 (SqT.of hp) (SqT.of hq) flat_ints) .nil))⟩)
theorem dat_three {a p : Addr} {i j : Int} {l : List Int} (ha : H a = some (.lst [.int i, .int j, .ref p])) (hp : H p = some (.tup (l.map V.int))) : DatV K H (.ref a) (.list [.int i, .int j, .tuple (l.map PyData.int)]) :=
  .lst (SqL.of ha) (.cons (.int _) (.cons (.int _) (.cons (.tup (SqT.of hp) (dat_ints l)) .nil)))
theorem fit_three {i j : Int} {l : List Int} (h1 : 0 ≤ i) (h2 : i ≤ 10 ^ 28) (h3 : 0 ≤ j) (h4 : j ≤ 10 ^ 28) (hl : l.length ≤ 100) (h : ∀ i ∈ l, 0 ≤ i ∧ i ≤ 10 ^ 28) : Fit 200000 2 (.list [.int i, .int j, .tuple (l.map PyData.int)]) := by
  refine (fit_list (m := 40000) (k := 1) fun d hd => ?_).mono (show 3 * (40000 + 2) + 3 ≤ 200000 by decide) (by decide)
  simp only [List.mem_cons, List.not_mem_nil, or_false] at hd
  rcases hd with rfl | rfl | rfl
  · exact (fit_num h1 h2).mono (by decide) (by decide)
  · exact (fit_num h3 h4).mono (by decide) (by decide)
  · exact fit_ints hl h
end
/-- the ends lie between -/
theorem ends_bd {R : List Run} (h : Runs R) : ∀ e ∈ ends R 0, 0 ≤ e ∧ e ≤ 4 * 10 ^ 14 := by
  have : ∀ (R : List Run) (a : Int), 0 ≤ a → (∀ r ∈ R, 0 ≤ r.2) → ∀ e ∈ ends R a, 0 ≤ e ∧ e ≤ a + hrs R := by
    intro R
    induction R with
    | nil => intro a _ _ e he; cases he
    | cons r R ih =>
      intro a ha hr e he
      have h1 := hr r List.mem_cons_self
      have tl : ∀ q ∈ R, 0 ≤ q.2 := fun q hq => hr q (List.mem_cons_of_mem _ hq)
      have p : 0 ≤ hrs R := by rw [← lay_len tl]; omega
      have e1 : hrs (r :: R) = r.2 + hrs R := by unfold hrs; rw [List.map_cons, List.sum_cons]
      rcases List.mem_cons.mp he with z | z
      · omega
      · have := ih (a + r.2) (by omega) tl e z
        omega
  intro e he
  have := this R 0 (Int.le_refl _) h.nn e he
  have := (hrs_bd h).2
  omega
theorem laid_at {R : List Run} {hour : Int} (nn : ∀ r ∈ R, 0 ≤ r.2) (hs : hrs R ≤ 200) (h0 : 0 ≤ hour) : (lay R ++ List.replicate 300 0)[(mn hour 250).toNat]? = some (stp R (hour + 1)) := by
  have ll := lay_len nn
  have e1 : ((hour.toNat : Nat) : Int) = hour := by omega
  have e2 := lay_at (n := hour.toNat) nn
  rw [e1] at e2
  rw [← e2]
  by_cases c : hour ≤ 250
  · rw [mn_le c]
    by_cases d : hour.toNat < (lay R).length
    · rw [List.getElem?_append_left d, List.getElem?_eq_getElem d]
      rfl
    · rw [List.getElem?_append_right (by omega), List.getElem?_replicate, if_pos (by omega), List.getElem?_eq_none (by omega)]
      rfl
  · rw [mn_ge (show (250 : Int) ≤ hour by omega), List.getElem?_append_right (by omega), List.getElem?_replicate, if_pos (by omega), List.getElem?_eq_none (by omega)]
    rfl
end Y

/-! rows behind nights: an hour less, the number of steps -/
namespace RM
theorem tot_row {r r' : List Run} {m m' : Int} {n : List Int} (v : Vd m r) (hm : 1 ≤ m) (v' : Vd m' r') (hm' : 1 ≤ m') (hn : ∀ s ∈ n, 0 ≤ s) (h : ∀ k : Nat, rch r' (k : Int) ≤ rch r (k : Int)) : tot r' n ≤ tot r n := by
  rw [tot_is v hm hn, tot_is v' hm' hn]
  exact Tn_mono (LeN.refl n) h 0
theorem bh_le {r : List Run} {m s h : Int} (v : Vd m r) (hm : 1 ≤ m) (hs : 0 ≤ s) (h0 : 0 ≤ h) : rch (bh r s) h ≤ rch r h := by
  have e := bh_rch v hm hs h0
  have st := rch_step v h0
  have t0 := (top_lt v hm).1
  omega
/-- a night without an hour -/
theorem tot_skip {r : List Run} {m s : Int} {a b : List Int} (v : Vd m r) (hm : 1 ≤ m) (hn : ∀ t ∈ a ++ s :: b, 0 ≤ t) : tot r (a ++ b) ≤ tot r (a ++ s :: b) ∧ tot r (a ++ s :: b) ≤ tot r (a ++ b) + min s (top r) := by
  have hs : 0 ≤ s := hn s (by simp)
  have hab : ∀ t ∈ a ++ b, 0 ≤ t := fun t ht => hn t (by
    rcases List.mem_append.mp ht with h | h
    · exact List.mem_append.mpr (.inl h)
    · exact List.mem_append.mpr (.inr (List.mem_cons_of_mem _ h)))
  have p1 : (a ++ s :: b).Perm (s :: (a ++ b)) := List.perm_middle
  have p2 : ((a ++ b) ++ [s]).Perm (a ++ s :: b) := (List.perm_append_comm (l₁ := a ++ b) (l₂ := [s])).trans p1.symm
  constructor
  · rw [← (night_perm v hm hn p2).2, tot_app (a ++ b) r [s]]
    have tb := top_lt (bhN_vd v hm hab) hm
    show _ ≤ _ + (min s (top (bhN r (a ++ b))) + 0)
    omega
  · have e := (night_perm v hm hn p1.symm).2
    rw [← e]
    have k := tot_row v hm (bh_vd v hm hs) hm hab fun k => bh_le v hm hs (show (0 : Int) ≤ (k : Int) by omega)
    show min s (top r) + tot (bh r s) (a ++ b) ≤ _
    omega
/-- the number of steps -/
def hoursN (r : List Run) : Int := (r.map fun q => q.2).sum
theorem hoursN_cons (q : Run) (r : List Run) : hoursN (q :: r) = q.2 + hoursN r := by unfold hoursN; rw [List.map_cons, List.sum_cons]
theorem hoursN_app (a b : List Run) : hoursN (a ++ b) = hoursN a + hoursN b := by unfold hoursN; rw [List.map_append, List.sum_append]
theorem hoursN_nil : hoursN [] = 0 := rfl
theorem hoursN_one (s t : Int) : hoursN (one s t) = t := by
  unfold one
  split
  · next h => rw [h]; rfl
  · show t + 0 = t
    omega
theorem tkc_hours : ∀ (x : Int) (r : List Run), hoursN (tkc x r) ≤ hoursN r
  | _, [] => Int.le_refl _
  | x, [q] => by
    unfold tkc
    rw [hoursN_app, hoursN_one, hoursN_cons, hoursN_nil]
    split
    · rw [hoursN_nil]
      omega
    · rw [hoursN_cons, hoursN_nil]
      show q.2 - 1 + (1 + 0) ≤ _
      omega
  | x, q :: p :: B => by
    unfold tkc
    split
    · have := tkc_hours x (p :: B)
      rw [hoursN_cons, hoursN_cons]
      omega
    · rw [hoursN_app, hoursN_one, hoursN_cons, hoursN_cons]
      split
      · rw [hoursN_cons]
        omega
      · rw [hoursN_cons, hoursN_app, hoursN_one]
        show q.2 - 1 + (1 + (p.2 - 1 + hoursN B)) ≤ _
        omega
theorem bh_hours (r : List Run) (s : Int) : hoursN (bh r s) ≤ hoursN r := by
  unfold bh
  split
  · exact Int.le_refl _
  · exact tkc_hours _ _
theorem bhN_hours : ∀ (n : List Int) (r : List Run), hoursN (bhN r n) ≤ hoursN r
  | [], r => Int.le_refl _
  | s :: n, r => by
    show hoursN (bhN (bh r s) n) ≤ _
    have := bhN_hours n (bh r s)
    have := bh_hours r s
    omega
end RM

/-! the row of a reach that is known at its bends -/
namespace RM
theorem rch_conc : ∀ {r : List Run} {m h : Int}, Vd m r → 0 ≤ h → rch r (h + 2) - rch r (h + 1) ≤ rch r (h + 1) - rch r h
  | [], _, _, _, _ => Int.le_refl _
  | q :: r, m, h, v, h0 => by
    obtain ⟨v1, v2, v3, v4⟩ := id v
    by_cases c1 : h + 2 ≤ q.2
    · rw [rch_lo v (by omega) c1, rch_lo v (by omega) (show h + 1 ≤ q.2 by omega), rch_lo v h0 (show h ≤ q.2 by omega)]
      rw [Int.mul_add, Int.mul_add, Int.mul_one]
      omega
    · by_cases c2 : h + 1 ≤ q.2
      · rw [rch_hi (show q.2 ≤ h + 2 by omega), rch_lo v (by omega) c2, rch_lo v h0 (show h ≤ q.2 by omega)]
        have e : h + 2 - q.2 = 1 := by omega
        have e2 : h = q.2 - 1 := by omega
        have t := rch_one v4
        have tl := (top_lt v4 v1).2
        rw [e, t, e2, show q.2 - 1 + 1 = q.2 by omega, Int.mul_sub, Int.mul_one]
        omega
      · rw [rch_hi (show q.2 ≤ h + 2 by omega), rch_hi (show q.2 ≤ h + 1 by omega), rch_hi (show q.2 ≤ h by omega)]
        have ih := rch_conc (h := h - q.2) v4 (by omega)
        rw [show h + 2 - q.2 = h - q.2 + 2 by omega, show h + 1 - q.2 = h - q.2 + 1 by omega]
        omega
/-- falling runs, a run of 0 at the end being allowed -/
def Vz : Int → List Run → Prop
  | _, [] => True
  | m, q :: r => 0 ≤ q.1 ∧ q.1 < m ∧ 1 ≤ q.2 ∧ Vz q.1 r
/-- the last step -/
def lst : Int → List Run → Int
  | m, [] => m
  | _, q :: r => lst q.1 r
theorem vz_nn : ∀ {r : List Run} {m : Int}, Vz m r → ∀ q ∈ r, 0 ≤ q.2
  | [], _, _, _, h => by cases h
  | p :: r, m, v, q, h => by
    have := v.2.2.1
    rcases List.mem_cons.mp h with rfl | h
    · omega
    · exact vz_nn v.2.2.2 q h
theorem lst_snoc : ∀ (D : List Run) (m : Int) (q : Run), lst m (D ++ [q]) = q.1
  | [], _, _ => rfl
  | p :: D, m, q => lst_snoc D p.1 q
theorem vz_snoc : ∀ {F : List Run} {m s t : Int}, Vz m F → 0 ≤ s → s < lst m F → 1 ≤ t → Vz m (F ++ [(s, t)])
  | [], _, _, _, _, h0, h1, h2 => ⟨h0, h1, h2, trivial⟩
  | q :: F, m, s, t, v, h0, h1, h2 => ⟨v.1, v.2.1, v.2.2.1, vz_snoc v.2.2.2 h0 h1 h2⟩
theorem vz_more : ∀ {D : List Run} {m t : Int} {q : Run}, Vz m (D ++ [q]) → 0 ≤ t → Vz m (D ++ [(q.1, q.2 + t)])
  | [], _, t, q, v, h => ⟨v.1, v.2.1, by have := v.2.2.1; show 1 ≤ q.2 + t; omega, trivial⟩
  | p :: D, m, t, q, v, h => ⟨v.1, v.2.1, v.2.2.1, vz_more v.2.2.2 h⟩
theorem hoursN_nn : ∀ {r : List Run}, (∀ q ∈ r, 0 ≤ q.2) → 0 ≤ hoursN r
  | [], _ => Int.le_refl _
  | q :: r, h => by
    rw [hoursN_cons]
    have := h q List.mem_cons_self
    have := hoursN_nn (r := r) fun p hp => h p (List.mem_cons_of_mem _ hp)
    omega
theorem rch_cons (q : Run) (r : List Run) (h : Int) : rch (q :: r) h = q.1 * min q.2 h + rch r (h - min q.2 h) := rfl
theorem rch_app : ∀ {F : List Run} (B : List Run) {h : Int}, (∀ q ∈ F, 0 ≤ q.2) → 0 ≤ h → rch (F ++ B) h = rch F h + rch B (h - min (hoursN F) h)
  | [], B, h, _, h0 => by
    have e : h - min (hoursN []) h = h := by rw [hoursN_nil]; omega
    rw [e]
    show rch B h = 0 + rch B h
    omega
  | q :: F, B, h, hn, h0 => by
    have hq := hn q List.mem_cons_self
    have hF : ∀ p ∈ F, 0 ≤ p.2 := fun p hp => hn p (List.mem_cons_of_mem _ hp)
    have nF := hoursN_nn hF
    rw [List.cons_append, rch_cons, rch_cons, rch_app B hF (show 0 ≤ h - min q.2 h by omega), hoursN_cons]
    have e : h - min q.2 h - min (hoursN F) (h - min q.2 h) = h - min (q.2 + hoursN F) h := by omega
    rw [e]
    omega
theorem rch_const : ∀ {F : List Run} {h : Int}, (∀ q ∈ F, 0 ≤ q.2) → hoursN F ≤ h → rch F h = rch F (hoursN F)
  | [], _, _, _ => rfl
  | q :: F, h, hn, hh => by
    have hq := hn q List.mem_cons_self
    have hF : ∀ p ∈ F, 0 ≤ p.2 := fun p hp => hn p (List.mem_cons_of_mem _ hp)
    have nF := hoursN_nn hF
    rw [hoursN_cons] at hh ⊢
    rw [rch_cons, rch_cons, show min q.2 h = q.2 by omega, show min q.2 (q.2 + hoursN F) = q.2 by omega, show q.2 + hoursN F - q.2 = hoursN F by omega, rch_const hF (show hoursN F ≤ h - q.2 by omega)]
theorem rch_run (s t h : Int) : rch [(s, t)] h = s * min t h := by
  show s * min t h + 0 = _
  omega
/-- a run more, put together with the last one -/
def run (F : List Run) (s t : Int) : List Run := match F.getLast? with
  | none => F ++ [(s, t)]
  | some q => if q.1 = s then F.dropLast ++ [(s, q.2 + t)] else F ++ [(s, t)]
theorem run_nil (s t : Int) : run [] s t = [(s, t)] := rfl
theorem run_snoc (D : List Run) (q : Run) (s t : Int) : run (D ++ [q]) s t = if q.1 = s then D ++ [(s, q.2 + t)] else (D ++ [q]) ++ [(s, t)] := by
  unfold run
  rw [show (D ++ [q]).getLast? = some q by simp]
  show (if q.1 = s then _ else _) = _
  rw [List.dropLast_concat]
theorem run_len (F : List Run) (s t : Int) : (run F s t).length ≤ F.length + 1 := by
  rcases List.eq_nil_or_concat F with e | ⟨D, q, e⟩
  · rw [e]
    exact Nat.le_refl _
  · rw [e, List.concat_eq_append, run_snoc]
    split
    · rw [List.length_append, List.length_append]
      exact Nat.le_succ _
    · rw [List.length_append (as := D ++ [q])]
      exact Nat.le_refl _
structure RInv (g : Int → Int) (m : Int) (F : List Run) (lo : Int) : Prop where
  vz : Vz m F
  hrs : hoursN F = lo
  rc : ∀ h, 0 ≤ h → h ≤ lo → rch F h = g h
theorem g_line {g : Int → Int} {lo hi s : Int} (h : ∀ k, lo ≤ k → k < hi → g (k + 1) - g k = s) : ∀ (n : Nat), lo + (n : Int) ≤ hi → g (lo + (n : Int)) = g lo + s * (n : Int)
  | 0, _ => by simp
  | n + 1, hn => by
    have ih := g_line h n (by omega)
    have := h (lo + (n : Int)) (by omega) (by omega)
    rw [show lo + ((n + 1 : Nat) : Int) = lo + (n : Int) + 1 by omega, show ((n + 1 : Nat) : Int) = (n : Int) + 1 by omega, Int.mul_add, Int.mul_one]
    omega
theorem g_lin {g : Int → Int} {lo hi s k : Int} (h : ∀ k, lo ≤ k → k < hi → g (k + 1) - g k = s) (h1 : lo ≤ k) (h2 : k ≤ hi) : g k = g lo + s * (k - lo) := by
  have := g_line h (k - lo).toNat (by omega)
  rw [show lo + (((k - lo).toNat : Nat) : Int) = k by omega, show (((k - lo).toNat : Nat) : Int) = k - lo by omega] at this
  exact this
theorem RInv.step {g : Int → Int} {m : Int} {F : List Run} {lo hi s : Int} (I : RInv g m F lo) (h1 : lo < hi) (hs : ∀ k, lo ≤ k → k < hi → g (k + 1) - g k = s) (s0 : 0 ≤ s) (sm : s < m) (sl : 1 ≤ lo → s ≤ g lo - g (lo - 1)) : RInv g m (run F s (hi - lo)) hi := by
  have nn := vz_nn I.vz
  have n0 := hoursN_nn nn
  rw [I.hrs] at n0
  rcases List.eq_nil_or_concat F with e | ⟨D, q, e⟩
  · subst e
    have e0 : lo = 0 := I.hrs.symm
    subst e0
    have g0 : g 0 = 0 := (I.rc 0 (Int.le_refl _) (Int.le_refl _)).symm
    refine ⟨⟨s0, sm, by show 1 ≤ hi - 0; omega, trivial⟩, by rw [run_nil, hoursN_cons, hoursN_nil]; show hi - 0 + 0 = hi; omega, fun h h0 hh => ?_⟩
    rw [run_nil, rch_run, g_lin hs h0 hh, g0, show min (hi - 0) h = h by omega, show h - 0 = h by omega]
    omega
  · rw [List.concat_eq_append] at e
    subst e
    have vD := vz_nn I.vz
    have hD : ∀ p ∈ D, 0 ≤ p.2 := fun p hp => vD p (List.mem_append.mpr (.inl hp))
    have nD := hoursN_nn hD
    have hq1 : 1 ≤ q.2 := by
      have : ∀ (D : List Run) (m : Int), Vz m (D ++ [q]) → 1 ≤ q.2 := fun D => by
        induction D with
        | nil => exact fun _ v => v.2.2.1
        | cons p D ih => exact fun _ v => ih _ v.2.2.2
      exact this D m I.vz
    have eh : hoursN D + q.2 = lo := by
      have := I.hrs
      rw [hoursN_app, hoursN_cons, hoursN_nil] at this
      omega
    have rF : ∀ h, 0 ≤ h → rch (D ++ [q]) h = rch D h + q.1 * min q.2 (h - min (hoursN D) h) := fun h h0 => by rw [rch_app [q] hD h0]; show _ + rch [(q.1, q.2)] _ = _; rw [rch_run]
    have eq1 : q.1 = g lo - g (lo - 1) := by
      rw [← I.rc lo n0 (Int.le_refl _), ← I.rc (lo - 1) (by omega) (by omega), rF lo n0, rF (lo - 1) (by omega), rch_const hD (show hoursN D ≤ lo by omega), rch_const hD (show hoursN D ≤ lo - 1 by omega)]
      rw [show min q.2 (lo - min (hoursN D) lo) = q.2 by omega, show min q.2 (lo - 1 - min (hoursN D) (lo - 1)) = q.2 - 1 by omega, Int.mul_sub, Int.mul_one]
      omega
    have sq : s ≤ q.1 := by
      have := sl (by omega)
      omega
    have glo := I.rc lo n0 (Int.le_refl _)
    have rlo := rF lo n0
    rw [show min q.2 (lo - min (hoursN D) lo) = q.2 by omega, rch_const hD (show hoursN D ≤ lo by omega)] at rlo
    rw [run_snoc]
    split
    · next e =>
      have vm := vz_more (t := hi - lo) I.vz (by omega)
      rw [e] at vm
      refine ⟨vm, ?_, fun h h0 hh => ?_⟩
      · rw [hoursN_app, hoursN_cons, hoursN_nil]
        show hoursN D + (q.2 + (hi - lo) + 0) = hi
        omega
      · rw [rch_app [(s, q.2 + (hi - lo))] hD h0, rch_run]
        by_cases c : h ≤ lo
        · rw [← I.rc h h0 c, rF h h0, e, show min (q.2 + (hi - lo)) (h - min (hoursN D) h) = min q.2 (h - min (hoursN D) h) by omega]
        · rw [g_lin hs (show lo ≤ h by omega) hh, ← glo, rlo, rch_const hD (show hoursN D ≤ h by omega), e, show min (q.2 + (hi - lo)) (h - min (hoursN D) h) = q.2 + (h - lo) by omega, Int.mul_add]
          omega
    · next e =>
      refine ⟨vz_snoc I.vz s0 (by rw [lst_snoc]; omega) (by omega), ?_, fun h h0 hh => ?_⟩
      · rw [hoursN_app, I.hrs, hoursN_cons, hoursN_nil]
        show lo + (hi - lo + 0) = hi
        omega
      · rw [rch_app [(s, hi - lo)] vD h0, rch_run, I.hrs]
        by_cases c : h ≤ lo
        · rw [← I.rc h h0 c, show min (hi - lo) (h - min lo h) = 0 by omega]
          omega
        · rw [g_lin hs (show lo ≤ h by omega) hh, ← glo, rch_const vD (by rw [I.hrs]; omega), I.hrs, show min (hi - lo) (h - min lo h) = h - lo by omega]
/-- the row of a reach, by its marks -/
def rof (g : Int → Int) : List Run → List Int → List Run
  | F, [] => F
  | F, [lo] => run F (g (lo + 1) - g lo) (lo + 1 - lo)
  | F, lo :: hi :: M => rof g (run F (g (lo + 1) - g lo) (hi - lo)) (hi :: M)
theorem vz_pos : ∀ {F : List Run} {m : Int}, Vz m F → Vd m (F.filter fun q => decide (0 < q.1)) ∧ ∀ h, 0 ≤ h → rch (F.filter fun q => decide (0 < q.1)) h = rch F h
  | [], _, _ => ⟨trivial, fun _ _ => rfl⟩
  | q :: F, m, v => by
    obtain ⟨v1, v2, v3, v4⟩ := id v
    obtain ⟨i1, i2⟩ := vz_pos v4
    by_cases c : 0 < q.1
    · rw [List.filter_cons_of_pos (by exact decide_eq_true c)]
      refine ⟨⟨by omega, v2, v3, i1⟩, fun h h0 => ?_⟩
      rw [rch_cons, rch_cons, i2 _ (by omega)]
    · have e : q.1 = 0 := by omega
      rw [List.filter_cons_of_neg (by rw [decide_eq_true_eq]; exact c)]
      cases F with
      | nil =>
        refine ⟨trivial, fun h _ => ?_⟩
        rw [rch_cons, e]
        show (0 : Int) = 0 * _ + 0
        omega
      | cons p F =>
        have := v4.1
        have := v4.2.1
        omega
/-- what is asked of the marks: they rise from lo, and between them g is a line -/
def Mk (g : Int → Int) : List Int → Prop
  | [] => False
  | [lo] => ∀ h, lo ≤ h → g (h + 2) = g (h + 1)
  | lo :: hi :: M => lo < hi ∧ (∀ k, lo ≤ k → k < hi → g (k + 1) - g k = g (lo + 1) - g lo) ∧ Mk g (hi :: M)
theorem rof_inv {g : Int → Int} {m : Int} (gs : ∀ h, 0 ≤ h → 0 ≤ g (h + 1) - g h ∧ g (h + 1) - g h < m) (gc : ∀ h, 0 ≤ h → g (h + 2) - g (h + 1) ≤ g (h + 1) - g h) : ∀ {M : List Int} {F : List Run} {lo : Int}, RInv g m F lo → 0 ≤ lo → (∃ T, M = lo :: T) → Mk g M → ∃ hi, lo < hi ∧ RInv g m (rof g F M) hi ∧ ∀ h, hi ≤ h → g h = g hi
  | [], _, _, _, _, ⟨_, e⟩, _ => nomatch e
  | [l], F, lo, I, h0, ⟨_, e⟩, k => by
    cases e
    have k : ∀ h, l ≤ h → g (h + 2) = g (h + 1) := k
    refine ⟨l + 1, by omega, I.step (by omega) (fun j j1 j2 => by rw [show j = l by omega]) (gs l h0).1 (gs l h0).2 (fun l1 => ?_), fun h hh => ?_⟩
    · have := gc (l - 1) (by omega)
      rw [show l - 1 + 2 = l + 1 by omega, show l - 1 + 1 = l by omega] at this
      exact this
    · have : ∀ n : Nat, g (l + 1 + (n : Int)) = g (l + 1) := fun n => by
        induction n with
        | zero => simp
        | succ n ih =>
          have := k (l + (n : Int)) (by omega)
          rw [← ih, show l + 1 + ((n + 1 : Nat) : Int) = l + (n : Int) + 2 by omega, this, show l + (n : Int) + 1 = l + 1 + (n : Int) by omega]
      have := this (h - (l + 1)).toNat
      rw [show l + 1 + (((h - (l + 1)).toNat : Nat) : Int) = h by omega] at this
      exact this
  | l :: hi :: M, F, lo, I, h0, ⟨_, e⟩, k => by
    cases e
    obtain ⟨k1, k2, k3⟩ := k
    have J := I.step k1 k2 (gs l h0).1 (gs l h0).2 (fun l1 => by
      have := gc (l - 1) (by omega)
      rw [show l - 1 + 2 = l + 1 by omega, show l - 1 + 1 = l by omega] at this
      exact this)
    obtain ⟨e, e1, e2, e3⟩ := rof_inv gs gc J (by omega) ⟨_, rfl⟩ k3
    exact ⟨e, by omega, e2, e3⟩
/-- the row of a reach is found at its bends -/
theorem rof_is {g : Int → Int} {r : List Run} {m : Int} {M : List Int} (v : Vd m r) (hm : 1 ≤ m) (hg : ∀ h, 0 ≤ h → g h = rch r h) (hM : ∃ T, M = 0 :: T) (k : Mk g M) : (rof g [] M).filter (fun q => decide (0 < q.1)) = r := by
  have gs : ∀ h, 0 ≤ h → 0 ≤ g (h + 1) - g h ∧ g (h + 1) - g h < m := fun h h0 => by
    rw [hg _ h0, hg _ (show 0 ≤ h + 1 by omega)]
    have := rch_step v h0
    have := (top_lt v hm).2
    omega
  have gc : ∀ h, 0 ≤ h → g (h + 2) - g (h + 1) ≤ g (h + 1) - g h := fun h h0 => by
    rw [hg _ h0, hg _ (show 0 ≤ h + 1 by omega), hg _ (show 0 ≤ h + 2 by omega)]
    exact rch_conc v h0
  have I0 : RInv g m [] 0 := ⟨trivial, rfl, fun h h0 h1 => by
    rw [show h = 0 by omega, hg 0 (Int.le_refl _), rch_zero v]
    rfl⟩
  obtain ⟨hi, h1, J, h2⟩ := rof_inv gs gc I0 (Int.le_refl _) hM k
  obtain ⟨p1, p2⟩ := vz_pos J.vz
  refine rch_inj p1 v fun h h0 => ?_
  rw [p2 h h0, ← hg h h0]
  by_cases c : h ≤ hi
  · exact J.rc h h0 c
  · rw [h2 h (by omega), ← J.rc hi (by omega) (Int.le_refl _), rch_const (vz_nn J.vz) (by rw [J.hrs]; omega), J.hrs]
end RM

/-! the marks of the row behind a sum -/
namespace RM
theorem mk_of {g : Int → Int} {M0 : List Int} (lin : ∀ h, 0 ≤ h → h + 1 ∉ M0 → g (h + 2) - g (h + 1) = g (h + 1) - g h) (tail : ∀ h, (∀ k ∈ M0, k ≤ h) → g (h + 2) = g (h + 1)) (p : M0.Pairwise (· < ·)) :
    ∀ (M P : List Int) (lo : Int), M0 = P ++ lo :: M → 0 ≤ lo → Mk g (lo :: M)
  | [], P, lo, e, h0 => fun h hh => tail h fun k hk => by
      rw [e] at hk p
      rcases List.mem_append.mp hk with z | z
      · have := (List.pairwise_append.mp p).2.2 k z lo List.mem_cons_self
        omega
      · rw [List.mem_singleton.mp z]
        exact hh
  | hi :: M, P, lo, e, h0 => by
      have pp := p
      rw [e] at pp
      obtain ⟨p1, p2, p3⟩ := List.pairwise_append.mp pp
      obtain ⟨p4, p5⟩ := List.pairwise_cons.mp p2
      have lh := p4 hi List.mem_cons_self
      refine ⟨lh, ?_, mk_of lin tail p M (P ++ [lo]) hi (by rw [e]; simp) (by omega)⟩
      have : ∀ n : Nat, lo + (n : Int) < hi → g (lo + (n : Int) + 1) - g (lo + (n : Int)) = g (lo + 1) - g lo := fun n => by
        induction n with
        | zero => intro _; simp
        | succ n ih =>
          intro hn
          have ih := ih (by omega)
          have l := lin (lo + (n : Int)) (by omega) (fun hm => by
            rw [e] at hm
            rcases List.mem_append.mp hm with z | z
            · have := p3 _ z lo List.mem_cons_self
              omega
            · rcases List.mem_cons.mp z with z | z
              · omega
              · rcases List.mem_cons.mp z with z | z
                · omega
                · have := (List.pairwise_cons.mp p5).1 _ z
                  omega)
          rw [show lo + ((n + 1 : Nat) : Int) + 1 = lo + (n : Int) + 2 by omega, show lo + ((n + 1 : Nat) : Int) = lo + (n : Int) + 1 by omega, l]
          exact ih
      intro k k1 k2
      have := this (k - lo).toNat (by omega)
      rw [show lo + (((k - lo).toNat : Nat) : Int) = k by omega] at this
      exact this
/-- the hours with which runs end -/
def endsI : Int → List Run → List Int
  | _, [] => []
  | a, q :: r => (a + q.2) :: endsI (a + q.2) r
theorem rch_flat : ∀ {r : List Run} {m h a : Int}, Vd m r → 0 ≤ h → a + h + 1 ∉ endsI a r → rch r (h + 2) - rch r (h + 1) = rch r (h + 1) - rch r h
  | [], _, _, _, _, _, _ => rfl
  | q :: r, m, h, a, v, h0, hn => by
    obtain ⟨v1, v2, v3, v4⟩ := id v
    have n1 : a + h + 1 ≠ a + q.2 := fun z => hn (List.mem_cons.mpr (.inl z))
    by_cases c1 : h + 2 ≤ q.2
    · rw [rch_lo v (by omega) c1, rch_lo v (by omega) (show h + 1 ≤ q.2 by omega), rch_lo v h0 (show h ≤ q.2 by omega)]
      rw [Int.mul_add, Int.mul_add, Int.mul_one]
      omega
    · rw [rch_hi (show q.2 ≤ h + 2 by omega), rch_hi (show q.2 ≤ h + 1 by omega), rch_hi (show q.2 ≤ h by omega)]
      have ih := rch_flat (h := h - q.2) (a := a + q.2) v4 (by omega) (fun z => hn (List.mem_cons.mpr (.inr (by rw [show a + h + 1 = a + q.2 + (h - q.2) + 1 by omega]; exact z))))
      rw [show h + 2 - q.2 = h - q.2 + 2 by omega, show h + 1 - q.2 = h - q.2 + 1 by omega]
      omega
/-- the bends of the row behind a sum -/
def bnd : Int → List Run → List Int
  | _, [] => []
  | a, q :: r => (a + q.2 - 1) :: (a + q.2) :: bnd (a + q.2) r
theorem ends_bnd : ∀ {r : List Run} {a s : Int}, s ∈ endsI a r → s ∈ bnd a r ∧ s - 1 ∈ bnd a r
  | [], _, _, h => by cases h
  | q :: r, a, s, h => by
    rcases List.mem_cons.mp h with rfl | h
    · exact ⟨by unfold bnd; simp, by unfold bnd; simp⟩
    · obtain ⟨h1, h2⟩ := ends_bnd h
      unfold bnd
      exact ⟨List.mem_cons_of_mem _ (List.mem_cons_of_mem _ h1), List.mem_cons_of_mem _ (List.mem_cons_of_mem _ h2)⟩
theorem bnd_nn : ∀ {r : List Run} {a : Int}, 0 ≤ a → (∀ q ∈ r, 1 ≤ q.2) → ∀ s ∈ bnd a r, 0 ≤ s
  | [], _, _, _, _, h => by cases h
  | q :: r, a, h0, hq, s, h => by
    have := hq q List.mem_cons_self
    unfold bnd at h
    rcases List.mem_cons.mp h with rfl | h
    · omega
    · rcases List.mem_cons.mp h with rfl | h
      · omega
      · exact bnd_nn (by omega) (fun p hp => hq p (List.mem_cons_of_mem _ hp)) s h
theorem bnd_hours : ∀ {r : List Run} {a h : Int}, (∀ k ∈ bnd a r, k ≤ h) → a ≤ h → a + hoursN r ≤ h
  | [], a, h, _, h0 => by rw [hoursN_nil]; omega
  | q :: r, a, h, hk, h0 => by
    have := bnd_hours (r := r) (a := a + q.2) (h := h) (fun k hk' => hk k (by unfold bnd; exact List.mem_cons_of_mem _ (List.mem_cons_of_mem _ hk'))) (hk _ (by unfold bnd; simp))
    rw [hoursN_cons]
    omega
theorem vd_one2 : ∀ {r : List Run} {m : Int}, Vd m r → ∀ q ∈ r, 1 ≤ q.2
  | [], _, _, _, h => by cases h
  | p :: r, m, v, q, h => by
    rcases List.mem_cons.mp h with rfl | h
    · exact v.2.2.1
    · exact vd_one2 v.2.2.2 q h
def gTk (x : Int) (r : List Run) (h : Int) : Int := min (rch r h) (rch r (h + 1) - x)
theorem taken_is {r : List Run} {m x : Int} {M : List Int} (v : Vd m r) (hm : 1 ≤ m) (x1 : 1 ≤ x) (xt : x ≤ top r) (p : M.Pairwise (· < ·)) (mem : ∀ k, k ∈ M ↔ k ∈ 0 :: bnd 0 r) : (rof (gTk x r) [] M).filter (fun q => decide (0 < q.1)) = tkc x r := by
  have ones := vd_one2 v
  have nn : ∀ q ∈ r, 0 ≤ q.2 := fun q hq => by have := ones q hq; omega
  have h0M : ∀ k ∈ M, 0 ≤ k := fun k hk => by
    rcases List.mem_cons.mp ((mem k).mp hk) with rfl | h
    · exact Int.le_refl _
    · exact bnd_nn (Int.le_refl _) ones k h
  have hM : ∃ T, M = 0 :: T := by
    have z := (mem 0).mpr List.mem_cons_self
    cases M with
    | nil => cases z
    | cons a T =>
      have a0 := h0M a List.mem_cons_self
      rcases List.mem_cons.mp z with e | e
      · exact ⟨T, by rw [← e]⟩
      · have := (List.pairwise_cons.mp p).1 0 e
        omega
  refine rof_is (tkc_vd v x1 xt) hm (fun h h0 => (tkc_rch v x1 xt h0).symm) hM ?_
  obtain ⟨T, e⟩ := hM
  have lin : ∀ h, 0 ≤ h → h + 1 ∉ M → gTk x r (h + 2) - gTk x r (h + 1) = gTk x r (h + 1) - gTk x r h := fun h h0 hn => by
    have n0 : ∀ s ∈ bnd 0 r, h + 1 ≠ s := fun s hs z => hn ((mem _).mpr (by rw [z]; exact List.mem_cons_of_mem _ hs))
    have f1 := rch_flat (h := h) (a := 0) v h0 (fun z => n0 _ (ends_bnd z).1 (by omega))
    have f2 := rch_flat (h := h + 1) (a := 0) v (by omega) (fun z => n0 _ (ends_bnd z).2 (by omega))
    unfold gTk
    rw [show h + 1 + 2 = h + 3 by omega, show h + 1 + 1 = h + 2 by omega] at f2
    rw [show h + 2 + 1 = h + 3 by omega, show h + 1 + 1 = h + 2 by omega]
    omega
  have tail : ∀ h, (∀ k ∈ M, k ≤ h) → gTk x r (h + 2) = gTk x r (h + 1) := fun h hk => by
    have hh := bnd_hours (r := r) (a := 0) (h := h) (fun k hb => hk k ((mem k).mpr (List.mem_cons_of_mem _ hb))) (hk 0 ((mem 0).mpr List.mem_cons_self))
    unfold gTk
    rw [rch_const nn (show hoursN r ≤ h + 2 by omega), rch_const nn (show hoursN r ≤ h + 2 + 1 by omega), rch_const nn (show hoursN r ≤ h + 1 by omega), rch_const nn (show hoursN r ≤ h + 1 + 1 by omega)]
  subst e
  exact mk_of lin tail p T [] 0 rfl (Int.le_refl _)
end RM

/-! LamP4: a lambda with one parameter, handed to a def as its second argument. -/
namespace LamP
open PySem PySem.Spec PyProof.Rows L2 LamX
/-- the def that calls what it got second: TT, what it makes of the lambda's reading and of its other argument -/
def Gives2 (X : Cx) (Ng : List Str) (qg : Str) (sg : Scope) (g : Addr) (cdg : Value) (bg : List Stmt) (a : Str) (i : Nat) (q : Str) (TT : V → (V → Hp → VK → Prop) → Hp → VK → Prop) : Prop :=
  ∀ (f c' : Addr) (s : Shared) (H : Hp) (Q : VK) (v2 : V) (tl : V → Hp → VK → Prop),
    (∀ (e : Expr) (ta : TA) (p1 p2 : Pos), PA (gcx X Ng qg sg g cdg s H) [e] ta → (∀ env : Env, starEach [e] env = (false, eval e env) :: starEach [] env) →
      PE (gcx X Ng qg sg g cdg s H) (.Call (.Name a p1) [e] [] p2) (fun σZ HZ Q => σZ[i]? = some (some (.ref f)) ∧ ta σZ HZ fun vs H1 => ∃ v, vs = [v] ∧ H1 c' = some (CodeO c' q) ∧ tl v H1 Q)) →
    H c' = some (CodeO c' q) → TT v2 tl H Q →
    ∃ t, PSs (gcx X Ng qg sg g cdg s H) bg t ∧ t { nx := fun _ H' => Q .non H', rt := Q } (L2.start Ng [v2, .ref f]) H
def tLam2 (T : List (Addr × Str)) (q : Str) (te : TE) (TT : V → (V → Hp → VK → Prop) → Hp → VK → Prop) (t : TE) : TE := fun σ H Q => te σ H fun v2 H1 => Tabs T H1 ∧ ∀ (H2 : Hp) (c' : Addr), ExtN H1 H2 → Tabs T H2 → H2 c' = some (CodeO c' q) →
  TT v2 (fun v H' Q' => t (σ ++ [some v]) H' Q') H2 Q
section
variable {X : Cx} {x : Str} {scope : Scope}
/-- g(e, lambda x: body) -/
theorem pe_lamcall2 {T : List (Addr × Str)} {TT : V → (V → Hp → VK → Prop) → Hp → VK → Prop} {y a b2 : Str} {g c P : Addr} {k i : Nat} {pg : Arguments} {bg : List Stmt} {sg : Scope} {dV kV doc pm cdv ct oc : Value} {an od : Option Addr} {osl : Array (Option Value)} {Ng : List Str}
    {params : Arguments} {body e : Expr} {t te : TE} {p lpos pos : Pos} (hg : Gl X y) (hm : X.mg y = some (.ref g)) (hk : PySem.W.keepIn X.K (.ref g) = true)
    (lk : X.K.lookup g = some ⟨oc, od, .func (PySem.W.fnOf y y pg bg sg dV kV doc pm an cdv ct), osl⟩) (hcg : PySem.W.codeIn X.K cdv y = true) (hb : L2.Binds X.K (PySem.W.fnOf y y pg bg sg dV kV doc pm an cdv ct) [b2, a] []) (Sg : FnScope Ng [b2, a] sg) (hNg : Ng[i]? = some a) (hva : Vis sg a)
    (hG : Gives2 X Ng y sg g cdv bg a i (X.env.qual ++ "<lambda>") TT)
    (TB : TabB X.base X.mg c P) (hcode : X.env.code = .ref c) (hmT : (P, X.env.qual ++ "<lambda>") ∈ T) (hu : ∀ p ∈ T, p.1 = P → p.2 = X.env.qual ++ "<lambda>") (hr : Room (k + 2) X.A) (L : LamS1 X.env.scope scope x) (hx : x ∉ X.N) (hdef : defaultsOf params X.env = ([], []))
    (hbind : ∀ (q : Str) (cl : List (Str × Addr)) (pm cv ctv u : Value), bindArgs (PySem.W.kla_fn "<lambda>" q params body scope cl pm cv ctv) ⟨[u], []⟩ = pure [(x, u)])
    (hbody : ∀ (A : Around) (outer : List Env) (s : Shared) (H : Hp) (f c' : Addr), Room k (A.deeper (lamEnv X scope s.heap.objs.size f c')) → PE (cx1 X x A outer s H C8.E0 scope f c').nox body t)
    (he : PE X e te) (hst : ∀ env : Env, starEach [e, .Lambda params body scope lpos] env = (false, eval e env) :: starEach [.Lambda params body scope lpos] env) (hpl : (backTo pos (starEach [.Lambda params body scope lpos] X.env)).any (·.1) = false := by rfl)
    (hdb : (y == ("__debug__" : Str)) = false := by decide) (hd : (a == ("__debug__" : Str)) = false := by decide) (hcd : (a == ("__classdict__" : Str)) = false := by decide) :
    PE X (.Call (.Name y p) [e, .Lambda params body scope lpos] [] pos) (tLam2 T (X.env.qual ++ "<lambda>") te TT t) := by
  refine ⟨fun pins s σ H Q I h => ?_⟩
  refine wpAny_Call_Name_kw (ld_glob I hg hm ?_ hdb)
  refine PySem.W.callWith_K (h₀ := X.base) I.ok.mod.kin hk ?_ (hst _) hpl
  rw [hst]
  show wpAny _ _ (spliced ((false, eval e X.env) :: backTo pos (starEach [.Lambda params body scope lpos] X.env))) _ _ s
  refine Calls.spliced_cons (thn (he.run pins s σ H _ I h) fun u2 s1 ⟨v2, H1, I1, rv, q1⟩ => ?_)
  obtain ⟨hT, h⟩ := q1
  show wpAny _ _ (spliced ((false, eval (.Lambda params body scope lpos) X.env) :: backTo pos (starEach [] X.env))) _ _ s1
  refine Calls.spliced_cons (lam_make2 I1 TB hcode hmT hu hT hdef (fun z hz hzf => L.has I1.ok z hz hzf) fun f c' pm' ctv H2 s2 I2 eN T2 hf hfn hfr hco => ?_)
  refine Calls.spliced_nil ⟨I2.kIn, ?_⟩
  have rc : codeAny (model X.prog X.w) X.A (.call (.ref g) ⟨[u2, .ref f], []⟩) (CR C8.CX0 X.stack X.prog X.w H2 s2 Q C8.E0) s2 := by
    refine run_ofS (N := Ng) (ps := [b2, a]) (us := [u2, .ref f]) (vs := [v2, .ref f]) lk hcg Sg hr I2.env0 (hb s2 [u2, .ref f] I2.kIn rfl) (.cons rv (.cons rfl .nil)) rfl fun hr' => ?_
    obtain ⟨t', ht', hq'⟩ := hG f c' s2 H2 Q v2 (fun v H' Q' => t (σ ++ [some v]) H' Q') (fun e' ta' p1 p2 ha' hst' => pe_act1 I2 L hx hf hfn hfr (fun u => hbind _ _ _ _ _ u) hr' (fun A outer s H hr2 => hbody A outer s H f c' hr2) hNg hva ha' hst' hd hcd) hco (h H2 c' eN T2 hco)
    exact ⟨t', ht'.nox, hq'⟩
  refine wpAny_call (codeAny_mono rc fun r s' hq => ?_)
  match r, hq with
  | .error _, hq => exact False.elim hq
  | .ok (.ret u), hq => exact I2.after hq
  | .ok .next, hq => exact False.elim hq
  | .ok .brk, hq => exact False.elim hq
  | .ok .cont, hq => exact False.elim hq
end
end LamP

/-! LamQ: sorted(xs, key=lambda x: e), whole numbers, any number of them. -/
namespace LamP
open PySem PySem.Spec PyProof.Rows L2 LamX SrtO
section
variable {X : Cx} {pins : List (Addr × Obj)} {σ : L2.St} {H : Hp} {s : Shared} {x : Str} {scope : Scope}
/-- an object that stands is tracked from now on -/
theorem adopt {a : Addr} {o : HO} (I : Inv X pins σ H s) (fa : FpOk X pins H a) (new : ObjOk X.prog X.w (upd H a o) s.heap a o) : Inv X pins σ (upd H a o) s := by
  obtain ⟨f0, f1, f2, f3, f4, f5⟩ := fa
  have ne : ∀ b u, H b = some u → b ≠ a := fun b u e z => by rw [z, f0] at e; cases e
  refine ⟨I.ok, I.os, I.bare, ⟨I.base.keep, I.base.slot, fun b u e n hx => ?_, I.base.there, fun b xs e => ?_, fun b u v e => ?_, fun b ps e => ?_⟩, I.loc, I.cell, ?_, fun y c e => ?_, fun p hp => ?_, fun b u e => ?_, I.len⟩
  · have nb : b ≠ a := fun z => by
      rcases f3 with q | q
      · exact hx (by rw [z]; exact q)
      · have := Heap.lt_size e
        rw [z] at this
        exact absurd (Nat.lt_of_lt_of_le this q) (Nat.lt_irrefl _)
    rw [upd_ne nb]
    exact I.base.free b u e n hx
  · have q := I.base.tups b xs e
    rw [upd_ne (ne b _ q)]; exact q
  · have q := I.base.frzs b u v e
    rw [upd_ne (ne b _ q)]; exact q
  · obtain ⟨m, q⟩ := I.base.tbls b ps e
    exact ⟨m, by rw [upd_ne (ne b _ q)]; exact q⟩
  · rw [upd_ne (Ne.symm f1)]; exact I.free
  · rw [upd_ne (f4 y c e)]; exact I.freeC y c e
  · obtain ⟨e, n, r⟩ := I.pin p hp
    exact ⟨e, by rw [upd_ne (f5 p hp)]; exact n, r⟩
  · by_cases hb : b = a
    · subst hb
      rw [upd_same] at e
      cases e
      exact new
    · rw [upd_ne hb] at e
      exact (I.hok b u e).stay (fun c v _ q => q) (fun c q => by rw [upd_ne (ne c _ q)]; exact q) fun c xs q => by rw [upd_ne (ne c _ q)]; exact q
/-- the lambda is called by a built-in -/
theorem lam_call {f c' : Addr} {pm ctv : Value} {params : Arguments} {body : Expr} {k : Nat} {tb : TE} {Q : VK} {v : V} {u : Value} (I : Inv X pins σ H s) (L : LamS1 X.env.scope scope x) (hx : x ∉ X.N)
    (hf : s.heap.get? f = some (PySem.W.kla_obj "<lambda>" (X.env.qual ++ "<lambda>") params body scope (cloFrom X.env.cells scope.names []) pm c' ctv))
    (hbind : ∀ u : Value, bindArgs (PySem.W.kla_fn "<lambda>" (X.env.qual ++ "<lambda>") params body scope (cloFrom X.env.cells scope.names []) pm (.ref c') ctv) ⟨[u], []⟩ = pure [(x, u)])
    (hr : Room (k + 3) X.A)
    (hbody : ∀ (A : Around) (outer : List Env) (s : Shared) (H : Hp), Room k (A.deeper (lamEnv X scope s.heap.objs.size f c')) → PE (cx1 X x A outer s H C8.E0 scope f c').nox body tb)
    (hc : H c' = some (CodeO c' (X.env.qual ++ "<lambda>"))) (rv : L2.RelV v u) (ht : tb (σ ++ [some v]) H Q) :
    wpAny (model X.prog X.w) X.A.in1.in1 (call (.ref f) [u]) (EP X pins σ Q) (fun _ _ => False) s := by
  have e0 : Env0 X.prog X.w X.K X.mg X.base X.A.in1.in1 X.stack s H := I.env0.in1.in1
  have hr1 : Room (k + 1) X.A.in1.in1 := (Room.in1 (k := k + 2) hr).in1
  obtain ⟨⟨oc, fs, tk, hoc, hdc, hvc⟩, _, _⟩ := I.hok c' _ hc
  have rc : codeAny (model X.prog X.w) X.A.in1.in1 (.call (.ref f) ⟨[u], []⟩) (CR C8.CX0 X.stack X.prog X.w H s Q C8.E0) s := by
    refine PySem.W.kla_callFunE hr1.depth hf rfl L.co L.gen rfl ⟨c', oc, fs, tk, rfl, hoc, hdc, hvc⟩ ?_
    rw [hbind]
    refine wpAny_pure (wpAny_newFunctionEnv L.noCell (fun y hy => ?_) (fun h₁ hns hsb => ⟨I.nolimit.fresh _ hsb, ?_⟩) L.kind)
    · rw [List.mem_singleton.mp hy]
      exact L.par
    · have kp : ∀ b o, s.heap.get? b = some o → h₁.get? b = some o := fun b o z => hsb.extBut b o (Nat.ne_of_lt (Heap.lt_size z)) (Heap.get?_push_of_some _ z)
      have J : Inv (cx1 X x X.A.in1.in1 X.stack s H C8.E0 scope f c') [] (σ ++ [some v]) H { s with heap := h₁, toks := s.toks + ([(x, u)] : List (Str × Value)).length } :=
        start1 I L hx rv e0 hr1.hd Un.refl hns kp
      refine PySem.W.kla_codeExpr (wpAny_mono ((hbody _ _ s H (hr1.deeper _)).run [] _ _ H Q (J.wish _) ht) (fun u' s' hq => ?_) fun e s' hq => False.elim hq)
      obtain ⟨w', H', J', rv', q'⟩ := hq
      exact ⟨w', H', J'.os, J'.bare, J'.base, J'.hok, rv', q'⟩
  refine wpAny_call (codeAny_mono rc fun r s' hq => ?_)
  match r, hq with
  | .error _, hq => exact False.elim hq
  | .ok (.ret u), hq => exact I.after hq
  | .ok .next, hq => exact False.elim hq
  | .ok .brk, hq => exact False.elim hq
  | .ok .cont, hq => exact False.elim hq
/-! the sort -/
theorem zip_keys {kf : Int → Int} : ∀ {vs : List Value} {ns : List Int}, IntsAre vs ns → ∀ {ks : List Value}, IntsAre ks (ns.map kf) → ∀ p ∈ ks.zip vs, (∃ i t, p.2 = Value.int i t) ∧ iv p.1 = kf (iv p.2)
  | _, _, .nil, ks, hk, p, h => by
    rw [List.zip_nil_right] at h
    cases h
  | _, _, .cons (ns := ns) n t' r', ks, hk, p, h => by
    have hk : IntsAre ks (kf n :: ns.map kf) := hk
    cases hk with
    | cons _ t r =>
      rcases List.mem_cons.mp h with e | h
      · subst e
        exact ⟨⟨_, _, rfl⟩, rfl⟩
      · exact zip_keys r' r p h
theorem intsAre_len : ∀ {vs : List Value} {ns : List Int}, IntsAre vs ns → vs.length = ns.length
  | _, _, .nil => rfl
  | _, _, .cons _ _ r => congrArg (· + 1) (intsAre_len r)
theorem intsAre_at : ∀ {vs : List Value} {ns : List Int}, IntsAre vs ns → ∀ {j : Nat} {v : Value}, vs[j]? = some v → ∃ i t, v = .int i t ∧ ns[j]? = some i
  | _, _, .nil, _, _, h => by cases h
  | _, _, .cons n t r, 0, v, h => ⟨n, t, (Option.some.inj h).symm, rfl⟩
  | _, _, .cons n t r, j + 1, v, h => intsAre_at r h
def FF (X : Cx) (H : Hp) (f : Addr) (F : Obj) : Prop := H f = none ∧ f ≠ X.env.locals ∧ f ∉ X.fs ∧ ∀ v, F.data ≠ .cell v
theorem list_sort_lam {a f : Addr} {n : Nat} {vs : List Value} {ns : List Int} {kf : Int → Int} {F : Obj} {A : Around} {E : Value → Shared → Prop} {R : PySem.Fin → Shared → Prop} (I : Inv X pins σ H s) (ho : s.heap.get? a = some (seqObj "list" vs.toArray n)) (fa : FpOk X pins H a)
    (hF : s.heap.get? f = some F) (ff : FF X H f F) (hfa : f ≠ a) (hi : IntsAre vs ns) (hz : vs.length ≤ sizeLine)
    (turn : ∀ (pins1 : List (Addr × Obj)) (s1 : Shared), Inv X pins1 σ H s1 → s1.heap.get? f = some F → ∀ (i : Int) (t : Tok), i ∈ ns → wpAny (model X.prog X.w) A (call (.ref f) [.int i t]) (fun v s2 => (∃ t', v = .int (kf i) t') ∧ Inv X pins1 σ H s2) (fun _ _ => False) s1)
    (h : ∀ (s' : Shared) (out : Array Value) (c : Nat) (ms : List Int), Inv X pins σ H s' → s'.heap.get? a = some (seqObj "list" out c) → IntsAre out.toList ms → ms.Perm ns → ms.Pairwise (fun i j => kf i ≤ kf j) → R (.done (.ret .none)) s') :
    wpAny (model X.prog X.w) A (ksk_tree a (.ref f) false) R E s := by
  have ha : a < s.heap.objs.size := Heap.lt_size ho
  obtain ⟨a0, a1, a2, a3, a4, a5⟩ := id fa
  obtain ⟨f0, f1, f2, f3⟩ := id ff
  have sb := Heap.SameBut.update s.heap a (Obj.mapSeq fun _ => (#[] : Array Value))
  obtain ⟨e1, ho1⟩ : ∃ e1, (s.heap.update a (Obj.mapSeq fun _ => (#[] : Array Value))).get? a = some (seqObj "list" #[] e1) := ⟨_, get?_update_seq ho fun _ => #[]⟩
  unfold ksk_tree
  refine wpAny_bind (listItems_at ho rfl ?_)
  refine wpAny_bind (listUpdate_at ho rfl ?_ (by rw [List.size_toArray]; exact hz) (Nat.zero_le _))
  refine wpAny_bind (seqEpoch_at ho1 rfl ?_)
  refine wpAny_bind (wpAny_newTuple ?_ (by show vs.length ≤ _; exact hz))
  refine wpAny_bind (wpAny_newList ?_ (Nat.zero_le _))
  refine wpAny_holding ?_
  have I1 : Inv X pins σ H { s with heap := s.heap.update a (Obj.mapSeq fun _ => (#[] : Array Value)) } := I.turned (t' := s.toks) (fun b o hb q => (sb.2 b hb).trans q) a0 a1 a3 a4 a5
  have hF1 : (s.heap.update a (Obj.mapSeq fun _ => (#[] : Array Value))).get? f = some F := (sb.2 f hfa).trans hF
  generalize s.heap.update a (Obj.mapSeq fun _ => (#[] : Array Value)) = h1 at I1 hF1 ho1 sb ⊢
  have kp : ∀ b o, h1.get? b = some o → ((h1.push (seqObj "tuple" vs.toArray 0)).push (seqObj "list" #[] 0)).get? b = some o := fun b o q => Heap.get?_push_of_some _ (Heap.get?_push_of_some _ q)
  have I2 : Inv X pins σ H { s with heap := (h1.push (seqObj "tuple" vs.toArray 0)).push (seqObj "list" #[] 0) } := I1.kept (t' := s.toks) kp
  have hk0 : ((h1.push (seqObj "tuple" vs.toArray 0)).push (seqObj "list" #[] 0)).get? (h1.push (seqObj "tuple" vs.toArray 0)).objs.size = some (seqObj "list" #[] 0) := Heap.get?_push_size _ rfl
  have hge : h1.objs.size ≤ (h1.push (seqObj "tuple" vs.toArray 0)).objs.size := by rw [size_push']; exact Nat.le_succ _
  have fk : FpOk X pins H (h1.push (seqObj "tuple" vs.toArray 0)).objs.size := I1.fpOk hge (I1.hok.fresh hge)
  have hka : (h1.push (seqObj "tuple" vs.toArray 0)).objs.size ≠ a := Nat.ne_of_gt (Nat.lt_of_lt_of_le (Heap.lt_size ho1) hge)
  have hkf : (h1.push (seqObj "tuple" vs.toArray 0)).objs.size ≠ f := Nat.ne_of_gt (Nat.lt_of_lt_of_le (Heap.lt_size hF1) hge)
  have hF2 := kp _ _ hF1
  have ho2 := kp _ _ ho1
  show wpAny (model X.prog X.w) A (ksk_rest a (.ref f) false vs.toArray e1 (.ref (h1.push (seqObj "tuple" vs.toArray 0)).objs.size)) R E { s with heap := (h1.push (seqObj "tuple" vs.toArray 0)).push (seqObj "list" #[] 0) }
  generalize (h1.push (seqObj "tuple" vs.toArray 0)).objs.size = kS at hk0 fk hka hkf ⊢
  generalize (h1.push (seqObj "tuple" vs.toArray 0)).push (seqObj "list" #[] 0) = h2 at I2 hk0 hF2 ho2 ⊢
  clear kp hge I1 hF1 ho1 sb ho hF I
  obtain ⟨k0, k1, k2, k3, k4, k5⟩ := id fk
  have lv := intsAre_len hi
  unfold ksk_rest
  refine wpAny_bind (wpAny_rule ?_)
  first
    | rw [List.forIn_toArray]
    | (rw [← Array.forIn_toList]; simp only [List.toList_toArray])
    | rw [← Array.forIn_toList]
  refine wpAny_bind (ksk_fold (fun i s' => ∃ (kA : Array Value) (e : Nat), Inv X pins σ H s' ∧ s'.heap.get? f = some F ∧ s'.heap.get? a = some (seqObj "list" #[] e1) ∧ s'.heap.get? kS = some (seqObj "list" kA e) ∧ IntsAre kA.toList ((ns.map kf).take i)) vs 0 _
    ⟨#[], 0, I2, hF2, ho2, hk0, by simpa using IntsAre.nil⟩ ?step ?done)
  case step =>
    rintro j y s' hy ⟨kA, e, J, jf, ja, jk, hk⟩
    simp only [Nat.zero_add] at hk ⊢
    obtain ⟨i, t, rfl, hn⟩ := intsAre_at hi hy
    have hj : j < vs.length := (List.getElem?_eq_some_iff.mp hy).1
    have hzk : kA.size ≤ vs.length := by
      have h1 := intsAre_len hk
      rw [Array.length_toList, List.length_take] at h1
      omega
    have J1 : Inv X ((f, F) :: (a, seqObj "list" #[] e1) :: (kS, seqObj "list" kA e) :: pins) σ H s' := J.pins_of fun p hp => by
      rcases List.mem_cons.mp hp with rfl | hp
      · exact ⟨jf, f0, f1, f2, f3⟩
      · rcases List.mem_cons.mp hp with rfl | hp
        · exact ⟨ja, a0, a1, a2, fun v z => nomatch z⟩
        · rcases List.mem_cons.mp hp with rfl | hp
          · exact ⟨jk, k0, k1, k2, fun v z => nomatch z⟩
          · exact J.pin p (List.mem_append_right _ hp)
    refine wpAny_bind (wpAny_attempt (wpAny_mono (turn _ s' J1 jf i t (List.mem_of_getElem? hn)) (fun v s2 he => ?_) fun _ _ hF => hF.elim))
    obtain ⟨⟨t2, rfl⟩, J2⟩ := he
    have gf := (J2.pin (f, F) (List.mem_append_right _ List.mem_cons_self)).1
    have ga := (J2.pin (a, seqObj "list" #[] e1) (List.mem_append_right _ (List.mem_cons_of_mem _ List.mem_cons_self))).1
    have gk := (J2.pin (kS, seqObj "list" kA e) (List.mem_append_right _ (List.mem_cons_of_mem _ (List.mem_cons_of_mem _ List.mem_cons_self)))).1
    have J3 : Inv X pins σ H s2 := J2.pins_of fun p hp => J2.pin p (List.mem_append_right _ (List.mem_cons_of_mem _ (List.mem_cons_of_mem _ (List.mem_cons_of_mem _ hp))))
    try dsimp only
    have s1 := Heap.SameBut.update s2.heap kS (Obj.mapSeq (·.push (.int (kf i) t2)))
    obtain ⟨c2, hc2⟩ : ∃ c2, (s2.heap.update kS (Obj.mapSeq (·.push (.int (kf i) t2)))).get? kS = some (seqObj "list" (kA.push (.int (kf i) t2)) c2) := ⟨_, get?_update_seq gk (·.push (.int (kf i) t2))⟩
    have ek : (ns.map kf).take (j + 1) = (ns.map kf).take j ++ [kf i] := by rw [List.take_add_one, List.getElem?_map, hn]; simp
    have ea : (kA.push (Value.int (kf i) t2)).toList = kA.toList ++ [Value.int (kf i) t2] := by simp
    refine wpAny_bind (listUpdate_at gk rfl ?_ (by omega) (Nat.le_trans (Nat.le_of_eq (Array.size_push ..)) (by omega)))
    refine wpAny_pure ⟨rfl, kA.push (.int (kf i) t2), c2, J3.turned (t' := s2.toks) (fun b o hb q => (s1.2 b hb).trans q) k0 k1 k3 k4 k5, (s1.2 f (Ne.symm hkf)).trans gf, (s1.2 a (Ne.symm hka)).trans ga, hc2, by rw [ea, ek]; exact ksk_snoc hk⟩
  case done =>
    rintro s' ⟨kA, e, J, jf, ja, jk, hk⟩
    have hk' : IntsAre kA.toList (ns.map kf) := by
      have e3 : (ns.map kf).take (0 + vs.length) = ns.map kf := List.take_of_length_le (by rw [List.length_map]; omega)
      rw [e3] at hk
      exact hk
    try dsimp only
    refine wpAny_bind (listItems_at jk rfl ?_)
    have lk : kA.size = vs.length := by
      have := intsAre_len hk'
      rw [Array.length_toList, List.length_map] at this
      omega
    -- what is found behind the sort
    have tail : ∀ st' : SortSt, Srtd (lt2 ltIv) (arrOf st').toList → (arrOf st').toList.Perm (kA.toList.zip vs) → failedOf st' = none → wpAny (model X.prog X.w) A (ksk_tail a false e1 (.ref kS) st') R E s' := fun st' hs hp hf => by
      unfold ksk_tail
      have sk := Heap.SameBut.update s'.heap kS (Obj.mapSeq fun _ => (#[] : Array Value))
      refine wpAny_bind (listUpdate_at jk rfl ?_ (by omega) (Nat.zero_le _))
      refine wpAny_bind (wpAny_letGo ?_)
      have J4 : Inv X pins σ H { s' with heap := s'.heap.update kS (Obj.mapSeq fun _ => (#[] : Array Value)) } := J.turned (t' := s'.toks) (fun b o hb q => (sk.2 b hb).trans q) k0 k1 k3 k4 k5
      have ja4 : (s'.heap.update kS (Obj.mapSeq fun _ => (#[] : Array Value))).get? a = some (seqObj "list" #[] e1) := (sk.2 a (Ne.symm hka)).trans ja
      refine wpAny_bind (seqEpoch_at ja4 rfl ?_)
      have hout : ((arrOf st').map (·.2)).size ≤ sizeLine + 1 := by
        have hl := hp.length_eq
        rw [Array.length_toList, List.length_zip, Array.length_toList, lk] at hl
        rw [Array.size_map, hl]
        omega
      obtain ⟨c5, hc5⟩ : ∃ c5, ((s'.heap.update kS (Obj.mapSeq fun _ => (#[] : Array Value))).update a (Obj.mapSeq fun _ => (arrOf st').map (·.2))).get? a = some (seqObj "list" ((arrOf st').map (·.2)) c5) := ⟨_, get?_update_seq ja4 fun _ => (arrOf st').map (·.2)⟩
      have s5 := Heap.SameBut.update (s'.heap.update kS (Obj.mapSeq fun _ => (#[] : Array Value))) a (Obj.mapSeq fun _ => (arrOf st').map (·.2))
      refine wpAny_bind (listUpdate_at ja4 rfl ?_ (Nat.zero_le _) hout)
      rw [hf]
      simp only [bne_self_eq_false, Bool.false_eq_true, if_false]
      have zk := zip_keys hi hk'
      have all : ∀ p ∈ (arrOf st').toList, (∃ i t, p.2 = Value.int i t) ∧ iv p.1 = kf (iv p.2) := fun p hm => zk p (hp.mem_iff.mp hm)
      refine wpAny_pure (h _ ((arrOf st').map (·.2)) c5 (((arrOf st').toList.map (·.2)).map iv) (J4.turned (t' := s'.toks) (fun b o hb q => (s5.2 b hb).trans q) a0 a1 a3 a4 a5) hc5 ?_ ?_ ?_)
      · rw [Array.toList_map]
        refine ints_iv fun v hv => ?_
        obtain ⟨p, hm, rfl⟩ := List.mem_map.mp hv
        exact (all p hm).1
      · have q := (hp.map (·.2)).map iv
        rw [List.map_snd_zip (by rw [Array.length_toList]; simp [lk]), iv_ints hi] at q
        exact q
      · rw [List.map_map]
        refine List.pairwise_map.mpr ?_
        refine List.Pairwise.imp_of_mem (fun {p q} hp' hq' hlt => ?_) hs
        have := Int.not_lt.mp (of_decide_eq_false (p := iv q.1 < iv p.1) hlt)
        rw [(all p hp').2, (all q hq').2] at this
        exact this
    unfold ksk_end
    simp only [Bool.false_eq_true, if_false]
    have zl : (kA.zip vs.toArray).toList = kA.toList.zip vs := ksk_zip kA vs
    by_cases h2 : vs.toArray.size < 2
    · rw [if_pos h2, if_pos h2]
      refine wpAny_bind (wpAny_pure ?_)
      rw [StateT.run_pure]
      refine wpAny_bind (wpAny_pure ?_)
      try dsimp only
      refine tail (SortSt.mk' general' (kA.zip vs.toArray) #[] 7 none) ?_ (by show (kA.zip vs.toArray).toList.Perm _; rw [zl]) rfl
      show Srtd (lt2 ltIv) (kA.zip vs.toArray).toList
      rw [zl]
      have hl : (kA.toList.zip vs).length < 2 := by
        rw [List.length_zip]
        rw [List.size_toArray] at h2
        omega
      match kA.toList.zip vs, hl with
      | [], _ => exact List.Pairwise.nil
      | [v], _ => exact List.pairwise_singleton _ _
      | _ :: _ :: l, h => exact absurd h (by rw [List.length_cons, List.length_cons]; omega)
    · rw [if_neg h2, if_neg h2]
      rw [List.size_toArray] at h2
      rw [ksk_kind hk' (by omega)]
      refine wpAny_bind (wpAny_pure ?_)
      refine wpAny_bind (wpAny_mono (wpS_sortO (P := fun p => p.1 ∈ kA.toList) (lt := lt2 ltIv) (st0 := SortSt.mk' oneType' (kA.zip vs.toArray) #[] 7 none)
        (Q := fun _ st' => Srtd (lt2 ltIv) (arrOf st').toList ∧ Stb (lt2 ltIv) (arrOf st').toList (kA.zip vs.toArray).toList ∧ failedOf st' = none) (swo2 swo_int) (int_cmp hk') rfl (fun p hm => ?_) rfl rfl fun st' a1 a2 a3 => ⟨a1, a2, a3⟩) ?_ fun _ _ e => e)
      · have hm : p ∈ (kA.zip vs.toArray).toList := hm
        rw [zl] at hm
        exact (List.of_mem_zip hm).1
      rintro ⟨⟨⟩, st'⟩ s2 ⟨rfl, hp1, hp2, hf⟩
      try dsimp only
      refine tail st' hp1 ?_ hf
      have := hp2.perm
      rw [zl] at this
      exact this
end
end LamP

/-! LamQ2: sorted(xs, key=lambda x: e) as a rule. -/
namespace LamP
open PySem PySem.Spec PyProof.Rows L2 LamX SrtO
section
variable {X : Cx} {pins : List (Addr × Obj)} {σ : L2.St} {H : Hp} {s : Shared} {x : Str} {scope : Scope}
theorem sorted_lam {l f : Addr} {ns : List Int} {kf : Int → Int} {F : Obj} {E : Value → Shared → Prop} {Q : VK} (I : Inv X pins σ H s) (hs : SqL X.K H l (ns.map V.int)) (hF : s.heap.get? f = some F) (ff : FF X H f F)
    (turn : ∀ (pins1 : List (Addr × Obj)) (s1 : Shared), Inv X pins1 σ H s1 → s1.heap.get? f = some F → ∀ (i : Int) (t : Tok), i ∈ ns → wpAny (model X.prog X.w) X.A.in1.in1 (call (.ref f) [.int i t]) (fun v s2 => (∃ t', v = .int (kf i) t') ∧ Inv X pins1 σ H s2) (fun _ _ => False) s1)
    (q : ∀ (ms : List Int) (p : Addr), ms.Perm ns → ms.Pairwise (fun i j => kf i ≤ kf j) → H p = none → Q (.ref p) (upd H p (.lst (ms.map V.int)))) :
    wpAny (model X.prog X.w) X.A (call (.builtin "sorted") [.ref l] [(Str.ofString "key", .ref f)]) (EP X pins σ Q) E s := by
  obtain ⟨its, rv, hl, hz⟩ := I.list hs
  have hi := rv.ints
  have hz : its.length ≤ sizeLine := by rw [← rv.length]; exact hz
  refine call_function_entry_kw kind_sorted plain_sorted entry_sorted (ksk_s1 _ _) ?_
  unfold Builtin.«sorted»
  refine wpAny_bind (m := checkCount "sorted" 1 1 _) (wpAny_pure ?_)
  refine wpAny_bind (collect_list hl.isList ?_ hz)
  refine wpAny_bind (wpAny_newList ?_ hz)
  have hsz : ((s.heap.push (seqObj "list" #[] 0)).update s.heap.objs.size (Obj.mapSeq (· ++ its.toArray))).objs.size = s.heap.objs.size + 1 := by
    rw [Heap.size_update, size_push']
  have hoL : (((s.heap.push (seqObj "list" #[] 0)).update s.heap.objs.size (Obj.mapSeq (· ++ its.toArray))).push (seqObj "list" its.toArray 0)).get? (s.heap.objs.size + 1) = some (seqObj "list" its.toArray 0) := by
    rw [← hsz]; exact Heap.get?_push_size _ rfl
  have keep : ∀ b o, s.heap.get? b = some o → (((s.heap.push (seqObj "list" #[] 0)).update s.heap.objs.size (Obj.mapSeq (· ++ its.toArray))).push (seqObj "list" its.toArray 0)).get? b = some o := fun b o q => by
    have hlt : b < s.heap.objs.size := Heap.lt_size q
    rw [Heap.get?_push_ne _ _ _ (by rw [hsz]; exact Nat.ne_of_lt (Nat.lt_succ_of_lt hlt)), Heap.get?_update_ne _ _ _ _ (Nat.ne_of_lt hlt), Heap.get?_push_ne _ _ _ (Nat.ne_of_lt hlt)]
    exact q
  show wpAny _ _ _ _ _ { s with heap := ((s.heap.push (seqObj "list" #[] 0)).update s.heap.objs.size (Obj.mapSeq (· ++ its.toArray))).push (seqObj "list" its.toArray 0) }
  rw [hsz]
  have I1 : Inv X pins σ H { s with heap := ((s.heap.push (seqObj "list" #[] 0)).update s.heap.objs.size (Obj.mapSeq (· ++ its.toArray))).push (seqObj "list" its.toArray 0) } := I.kept (t' := s.toks) keep
  have hF1 := keep _ _ hF
  have fa : FpOk X pins H (s.heap.objs.size + 1) := I.fpOk (Nat.le_succ _) (I.hok.fresh (Nat.le_succ _))
  have hfa : f ≠ s.heap.objs.size + 1 := Nat.ne_of_lt (Nat.lt_succ_of_lt (Heap.lt_size hF))
  refine wpAny_bind (wpAny_holding (wpAny_call_entry_kw slot_list_sort ⟨_, hoL, rfl⟩ entry_list_sort ?body (ksk_l1 _ _)))
  case body =>
    show wpAny (model X.prog X.w) X.A.in1.in1 (Builtin.«list.sort» ⟨[.ref (s.heap.objs.size + 1)], [(Str.ofString "key", .ref f)]⟩) _ _ _
    rw [ksk_t1]
    refine list_sort_lam I1 hoL fa hF1 ff hfa hi hz turn fun s' out c ms J ja hm pm srt => ⟨_, rfl, wpAny_pure ⟨_, rfl, ?_⟩⟩
    have hlen : (ms.map V.int).length ≤ sizeLine := by
      rw [List.length_map, pm.length_eq, ← intsAre_len hi]
      exact hz
    exact ⟨.ref _, upd H (s.heap.objs.size + 1) (.lst (ms.map V.int)), adopt J fa ⟨hlen, out.toList, c, vals_of_ints hm, by rw [Array.toArray_toList]; exact ja⟩, rfl, q ms _ pm srt fa.1⟩
/-- sorted(e, key=lambda x: body) -/
def tSortL (K : PySem.W.Frag) (T : List (Addr × Str)) (ta : TA) (t : TE) : TE := fun σ H Q => ta σ H fun vs H1 => Tabs T H1 ∧ ∃ (a : Addr) (ns : List Int) (kf : Int → Int), vs = [.ref a] ∧ SqL K H1 a (ns.map V.int) ∧
  ∀ H2, ExtN H1 H2 → Tabs T H2 → (∀ i ∈ ns, ∀ Q' : VK, Q' (.int (kf i)) H2 → t (σ ++ [some (.int i)]) H2 Q') ∧ ∀ (ms : List Int) (p : Addr), ms.Perm ns → ms.Pairwise (fun i j => kf i ≤ kf j) → H2 p = none → Q (.ref p) (upd H2 p (.lst (ms.map V.int)))
theorem sql_ext {K : PySem.W.Frag} {H H' : Hp} (m : ExtN H H') {a : Addr} {xs : List V} (h : SqL K H a xs) : SqL K H' a xs := by
  rcases h with (h | ⟨o, h⟩) | h
  · exact .inl (.inl (m _ _ h fun _ y => nomatch y))
  · exact .inl (.inr ⟨o, m _ _ h fun _ y => nomatch y⟩)
  · exact .inr h
theorem pe_sortedLam {T : List (Addr × Str)} {c P : Addr} {k : Nat} {params : Arguments} {body e : Expr} {t : TE} {ta : TA} {p lpos kpos pos : Pos} (hg : Gl X "sorted") (hm : X.mg "sorted" = none)
    (TB : TabB X.base X.mg c P) (hcode : X.env.code = .ref c) (hmT : (P, X.env.qual ++ "<lambda>") ∈ T) (hu : ∀ p ∈ T, p.1 = P → p.2 = X.env.qual ++ "<lambda>") (hr : Room (k + 3) X.A) (L : LamS1 X.env.scope scope x) (hx : x ∉ X.N) (hdef : defaultsOf params X.env = ([], []))
    (hbind : ∀ (q : Str) (cl : List (Str × Addr)) (pm cv ctv u : Value), bindArgs (PySem.W.kla_fn "<lambda>" q params body scope cl pm cv ctv) ⟨[u], []⟩ = pure [(x, u)])
    (hbody : ∀ (A : Around) (outer : List Env) (s : Shared) (H : Hp) (f c' : Addr), Room k (A.deeper (lamEnv X scope s.heap.objs.size f c')) → PE (cx1 X x A outer s H C8.E0 scope f c').nox body t)
    (ha : PA X [e] ta)
    (he : backTo pos (starEach [e] X.env) = (false, eval e X.env) :: backTo pos (starEach [] X.env) := by rfl) (hpl : (backTo pos (starEach [e] X.env)).any (·.1) = false := by rfl)
    (hall : (backToKw pos (keywordEach [⟨some "key", .Lambda params body scope lpos, kpos⟩] X.env)).all (·.1.isSome) = true := by rfl) (hnone : (backToKw pos (keywordEach [⟨some "key", .Lambda params body scope lpos, kpos⟩] X.env)).any (·.1.isNone) = false := by rfl) :
    PE X (.Call (.Name "sorted" p) [e] [⟨some "key", .Lambda params body scope lpos, kpos⟩] pos) (tSortL X.K T ta t) := by
  refine ⟨fun pins s σ H Q I h => ?_⟩
  have hv : bootBuiltins ("sorted" : Str) = some (.builtin "sorted") := by decide +kernel
  refine wpAny_Call_Name_kw (ld_blt I hg hm hv ?_)
  refine PyProof.Rows.callWith_kw (thn (ha.run pos pins s σ H _ I h) fun us s1 ⟨vs, H1, I1, r1, q1⟩ => ?_) he hpl hall hnone
  obtain ⟨hT, a, ns, kf, ev, hs, q⟩ := q1
  subst ev
  rw [Vals.ref1 r1]
  show wpAny _ _ (evalAll ((do let v ← eval (.Lambda params body scope lpos) X.env; standAt pos; pure v) :: (backToKw pos (keywordEach [] X.env)).map (·.2))) _ _ s1
  refine wpAny_evalAll_cons (wpAny_bind (lam_make2 I1 TB hcode hmT hu hT hdef (fun z hz hzf => L.has I1.ok z hz hzf) fun f c' pm' ctv H2 s2 I2 eN T2 hf hfn hfr hco => wpAny_bind (wpAny_standAt (wpAny_pure ?_))))
  refine wpAny_evalAll_nil ?_
  obtain ⟨q1, q2⟩ := q H2 eN T2
  have nloc : f ≠ X.env.locals := fun z => by
    obtain ⟨m, ⟨o, es, ep, eo, ed, _⟩, _⟩ := I2.loc
    rw [← z, hf] at eo
    cases eo
    cases ed
  have nfs : f ∉ X.fs := fun z => by
    refine hfr ?_
    rcases I2.ok.stk with w | ⟨w, w2⟩
    · rw [w]; exact z
    · rw [w]
      unfold frs
      rw [List.filterMap_cons]
      split
      · exact z
      · exact List.mem_cons_of_mem _ z
  refine sorted_lam (kf := kf) I2 (sql_ext eN hs) hf ⟨hfn, nloc, nfs, fun v w => nomatch w⟩ (fun pins1 s3 J jf i t' him => ?_) q2
  refine wpAny_mono (lam_call (Q := fun v H' => v = .int (kf i) ∧ H' = H2) J L hx jf (fun u => hbind _ _ _ _ _ u) hr (fun A outer s H hr2 => hbody A outer s H f c' hr2) hco (show L2.RelV (.int i) (.int i t') from ⟨_, rfl⟩) (q1 i him _ ⟨rfl, rfl⟩)) (fun v s4 hq => ?_) fun _ _ hq => hq
  obtain ⟨y, H4, J4, ry, ey, eH⟩ := hq
  subst ey eH
  obtain ⟨t4, rfl⟩ := ry
  exact ⟨⟨t4, rfl⟩, J4⟩
end
end LamP

/-! runs put together by the law -/
namespace Y
open PySem PySem.Spec PyProof.Rows L2 Ns LamX
open C8 (pss_cut)
theorem cut_last (ys : List V) (v : V) : cutV (ys ++ [v]) none (some (-1)) = ys := by
  unfold cutV
  rw [HT.sIx_none, List.drop_zero, Nat.sub_zero]
  have e : HT.sIx (ys ++ [v]).length (ys ++ [v]).length (some (-1)) = ys.length := by
    show (if (-1 : Int) < 0 then ((-1 : Int) + ((ys ++ [v]).length : Int)).toNat else min ((-1 : Int)).toNat (ys ++ [v]).length) = _
    rw [if_pos (by decide), List.length_append]
    show ((-1 : Int) + ((ys.length + 1 : Nat) : Int)).toNat = _
    omega
  rw [e]
  exact List.take_left
/-- a run more: a new list -/
def spRun (K : PySem.W.Frag) : Sp := fun as H Q _ => ∃ (l : Addr) (s t : Int) (vs : List V) (R : List Run), as = [.ref l, .int s, .int t] ∧ H l = some (.lst vs) ∧ Paired (RunV K H) vs R ∧ R.length ≤ 500 ∧
  ∀ (p : Addr) (us : List V) (H' : Hp), H' p = some (.lst us) → Paired (RunV K H') us (RM.run R s t) → H p = none → Same H H' → Q (.ref p) H'
section
variable {P : Program} {w : World} {K : PySem.W.Frag} {mg : Str → Option Value} {base : Heap}
theorem scRn : FnScope ["found", "step", "many"] ["found", "step", "many"] (defScope sRun) := ⟨rfl, rfl, rfl, by decide +kernel, rfl, by decide +kernel, by decide +kernel⟩
theorem ok_run {f : Addr} {fd : FuncData} (F : Fun K "_law_run" "_law_run" sRun f fd) : FnOk P w K mg base CX0 1 f fd ["found", "step", "many"] (spRun K) := by
  refine F.ok scRn (fun as H Q E h => ?_) (fun cdv A outer s H as Q E hr h => ?_)
  · obtain ⟨l, st, t, vs, R, rfl, _⟩ := h
    rfl
  · obtain ⟨l, st, t, vs, R, rfl, hL, hR, l5, k⟩ := h
    refine ⟨_, pss_cons (ps_if (PW.pt (pw_and (pt_cmpR (op_neD hr.units) (pv 0) (pe_lst pa_nil) (nomark _)) (pw_and1 (pt_cmpR op_eq (pe_ix ix_tup (pe_ix ix_list (pv 0) (pe_un un_neg pe_int) (fun _ _ => rfl)) pe_int (fun _ _ => rfl)) (pv 1) (nomark _)))))
        (pss_one (ps_ret (pe_op op_cat (pe_slice sl_list (pv 0) po_none (po_some (pe_un un_neg pe_int))) (pe_lst (pa_cons (pe_tup (pa_cons (pv 1) (pa_cons (pe_op op_add (pe_ix ix_tup (pe_ix ix_list (pv 0) (pe_un un_neg pe_int) (fun _ _ => rfl)) pe_int (fun _ _ => rfl)) (pv 2)) pa_nil))) pa_nil))))) pss_nil)
      (pss_one (ps_ret (pe_op op_cat (pv 0) (pe_lst (pa_cons (pe_tup (pa_cons (pv 1) (pa_cons (pv 2) pa_nil))) pa_nil))))), ?_⟩
    have lv := paired_len hR
    refine ⟨_, rfl, by show 0 ≤ sizeLine; decide, fun q hq => ⟨.list (R.map runD), .list [], .lst (SqL.of (s3u hq hL)) (dp_runs (paired_imp (fun v c ⟨a, e1, z⟩ => ⟨a, e1, sqt_more (same_new (Same.refl H) hq) z⟩) hR)), .lst (SqL.of upd_same) .nil, shaped_runs R, by decide +kernel, _, rfl, ?_⟩⟩
    have m1 := same_new (o := .lst []) (Same.refl H) hq
    have L1 : upd H q (.lst []) l = some (.lst vs) := s3u hq hL
    have R1 : Paired (RunV K (upd H q (.lst []))) vs R := paired_imp (fun v c ⟨a, e1, z⟩ => ⟨a, e1, sqt_more m1 z⟩) hR
    generalize upd H q (.lst []) = H1 at m1 L1 R1 ⊢
    have fresh : ∀ {p : Addr} {G : Hp}, Same H G → G p = none → H p = none := fun {p G} sm e => by
      cases z : H p with
      | none => rfl
      | some o => exact absurd (sm _ _ z) (by rw [e]; exact fun z => nomatch z)
    -- as it comes
    have plain : RM.run R st t = R ++ [(st, t)] → (tRet (tOp rCat (tVar 0) (tLst (tCons (tTup (tCons (tVar 1) (tCons (tVar 2) tNil))) tNil)))) { nx := fun x H' => Q V.non H', rt := Q } [some (.ref l), some (.int st), some (.int t)] H1 := fun eR => by
      refine ⟨_, rfl, _, rfl, _, rfl, by show 2 ≤ sizeLine; decide, fun a ha => ?_⟩
      refine ⟨by show 1 ≤ sizeLine; decide, fun b hb => ?_⟩
      have m2 := same_new (o := .lst [.ref a]) (same_new (o := .tup [.int st, .int t]) (Same.refl H1) ha) hb
      refine ⟨l, b, vs, [.ref a], rfl, rfl, m2 _ _ L1, upd_same, ?_, fun p hp => ?_⟩
      · show vs.length + 1 ≤ sizeLine
        exact Nat.le_of_lt (small1000 (by omega))
      · have m3 := same_new (o := .lst (vs ++ [.ref a])) m2 hp
        refine k p (vs ++ [.ref a]) _ upd_same ?_ (fresh (m1.trans m2) hp) (m1.trans m3)
        rw [eR]
        exact paired_snoc ⟨a, rfl, SqT.of (s3u hp (s3u hb upd_same))⟩ (paired_imp (fun v c ⟨x, e1, z⟩ => ⟨x, e1, sqt_more m3 z⟩) R1)
    rcases List.eq_nil_or_concat R with e | ⟨D, q', e⟩
    · subst e
      refine ite2 (fun c => absurd c (by decide)) (fun _ => ?_)
      refine ite2 (fun z => absurd z Bool.false_ne_true) (fun _ => ?_)
      exact plain rfl
    · have e : R = D ++ [q'] := by rw [e, List.concat_eq_append]
      subst e
      refine ite2 (fun _ => ?_) (fun c => absurd (by cases D <;> rfl) c)
      obtain ⟨ws, v, ev⟩ : ∃ ws v, vs = ws ++ [v] := by
        rcases List.eq_nil_or_concat vs with e | ⟨ws, v, e⟩
        · rw [e, List.length_append] at lv
          simp at lv
        · exact ⟨ws, v, by rw [e, List.concat_eq_append]⟩
      subst ev
      obtain ⟨ds', b', e, hW, hb'⟩ := paired_split R1
      obtain ⟨e1, e2⟩ := List.append_inj' e rfl
      cases e2
      subst e1
      obtain ⟨a, rfl, ha⟩ := hb'
      refine ⟨_, rfl, 1, rfl, l, _, -1, .ref a, rfl, rfl, SqL.of L1, atI_last _ _, a, _, 0, .int q'.1, rfl, rfl, ha, at0, _, rfl, rfl, _, rfl, ?_⟩
      refine ite2 (fun c => ?_) (fun c => ?_)
      · have eb : q'.1 = st := V.int.inj (of_decide_eq_true c)
        refine ⟨_, rfl, 1, rfl, _, rfl, l, _, rfl, SqL.of L1, fun p1 hp1 => ?_⟩
        rw [cut_last]
        have m2 := same_new (o := .lst ws) (Same.refl H1) hp1
        have p12 : upd H1 p1 (.lst ws) p1 = some (.lst ws) := upd_same
        generalize upd H1 p1 (.lst ws) = H2 at m2 p12 ⊢
        refine ⟨_, rfl, _, rfl, 1, rfl, l, _, -1, .ref a, rfl, rfl, SqL.of (m2 _ _ L1), atI_last _ _, a, _, 1, .int q'.2, rfl, rfl, sqt_more m2 ha, at1, _, rfl, _, _, rfl, rfl, by show 2 ≤ sizeLine; decide, fun x hx => ⟨by show 1 ≤ sizeLine; decide, fun y hy => ?_⟩⟩
        have m3 := same_new (o := .lst [.ref x]) (same_new (o := .tup [.int st, .int (q'.2 + t)]) m2 hx) hy
        refine ⟨p1, y, ws, [.ref x], rfl, rfl, s3u hy (s3u hx p12), upd_same, ?_, fun p hp => ?_⟩
        · rw [List.length_append] at lv
          show ws.length + 1 ≤ sizeLine
          have : [V.ref a].length = 1 := rfl
          rw [List.length_append] at l5
          have : [q'].length = 1 := rfl
          exact Nat.le_of_lt (small1000 (by rw [List.length_append] at lv; omega))
        · have m4 := same_new (o := .lst (ws ++ [.ref x])) m3 hp
          refine k p (ws ++ [.ref x]) _ upd_same ?_ (fresh (m1.trans m3) hp) (m1.trans m4)
          rw [RM.run_snoc, if_pos eb]
          exact paired_snoc ⟨x, rfl, SqT.of (s3u hp (s3u hy upd_same))⟩ (paired_imp (fun v c ⟨x, e1, z⟩ => ⟨x, e1, sqt_more m4 z⟩) hW)
      · have eb : q'.1 ≠ st := fun z => c (decide_eq_true (congrArg V.int z))
        exact plain (by rw [RM.run_snoc, if_neg eb])
end
end Y

/-! the row of a rule -/
namespace Y
open PySem PySem.Spec PyProof.Rows L2 Ns LamX
open C8 (pss_cut)
def posR (R : List Run) : List Run := R.filter fun q => decide (0 < q.1)
/-- what the def makes of a rule and its bends -/
def TRO (K : PySem.W.Frag) : V → (V → Hp → VK → Prop) → Hp → VK → Prop := fun v2 tl H Q => ∃ (l : Addr) (bs : List Int) (g : Int → Int), v2 = .ref l ∧ SqL K H l (bs.map V.int) ∧ bs.length ≤ 60 ∧ (∀ (i : Int) (H' : Hp) (Q' : VK), 0 ≤ i → Same H H' → (∀ G : Hp, Same H' G → Q' (.int (g i)) G) → tl (.int i) H' Q') ∧
  ∀ (t : Addr) (M : List Int) (H' : Hp), M.Pairwise (· < ·) → (∀ k, k ∈ M ↔ k ∈ 0 :: bs.filter fun k => decide (0 ≤ k)) → RowV K H' (.ref t) (posR (RM.rof g [] M)) → H t = none → Same H H' → Q (.ref t) H'
section
variable {X : Cx}
theorem scRO : FnScope ["bends", "rule", "found", "marks", "hour", "low", "high", "step", "many"] ["bends", "rule"] (defScope sRowOf) := ⟨rfl, rfl, rfl, by decide +kernel, rfl, by decide +kernel, by decide +kernel⟩
theorem gives_rowOf {g fR : Addr} {dR : FuncData} {cdg : Value} {q : Str} (T : Nat0 X.mg) (hr : Room 2 X.A) (GR : FnOk X.prog X.w X.K X.mg X.base CX0 1 fR dR ["found", "step", "many"] (spRun X.K)) (FR : Fun X.K "_law_run" "_law_run" sRun fR dR) (mR : X.mg "_law_run" = some (.ref fR)) (bR : Binds X.K dR ["found", "step", "many"] []) :
    LamP.Gives2 X ["bends", "rule", "found", "marks", "hour", "low", "high", "step", "many"] "_law_row_of" (defScope sRowOf) g cdg (defBody sRowOf) "rule" 1 q (TRO X.K) := by
  intro f c' s H Q v2 tl act hc h
  have hr' : Room 1 (X.A.deeper (envOfC "_law_row_of" (defScope sRowOf) s.heap.objs.size g cdg)) := hr.deeper _
  obtain ⟨prog, w, K, mg, base, A, N0, s0, H0, env, outer, stack, ex, fn, calm, pn, xe⟩ := X
  have T : Nat0 mg := T
  obtain ⟨l, bs, gg, rfl, hB, l3, rule, k⟩ := h
  refine ⟨_, (pss_cons (ps_par (i := 2) (j := 3) rfl scRO.nd rfl rfl (by decide) rfl rfl (pa_cons (pe_lst pa_nil) (pa_cons (pe_callB (cr_sortedSet rfl) (by rfl) T.sorted (by decide +kernel) (pa_cons (pe_callTy (call_setI rfl) (by rfl) T.set_ (by decide +kernel)
        (pa_cons (pe_op op_cat (pe_lst (pa_cons pe_int pa_nil)) (pe_lc (own := [("hour", 4)]) (g := gName 4) (tt := tTest (tOp (rI0 fun i j => .bl (decide (j ≤ i))) (tVar 4) (tC (.int 0)))) rfl scRO.nd (pi_list (pv 0))
          (blkOk_by (N := ["bends", "rule", "found", "marks", "hour", "low", "high", "step", "many"]) (sc := defScope sRowOf) (by decide +kernel)) (fun _ _ _ _ _ => pg_name (i := 4) scRO.nd rfl (Or.inl rfl)) (fun _ _ _ _ _ => by exact pts_one (pt_cmpR op_ge (pv 4) pe_int (nomark _))) (fun _ _ _ _ _ => pv 4))) pa_nil)) pa_nil)) pa_nil)) (by rfl))
      (pss_cons (ps_for PassesOwn.never rfl (RZ.pi_zipA (by rfl) T.zip (pa_cons (pv 3) (pa_cons (pe_op op_cat (pe_slice sl_list (pv 3) (po_some pe_int) po_none) (pe_lst (pa_cons (pe_op op_add (pe_ix ix_list (pv 3) (pe_un un_neg pe_int) (fun _ _ => rfl)) pe_int) pa_nil))) pa_nil)))
          (pg_tup rfl (pgs_cons (pg_name (i := 5) scRO.nd rfl (.inl rfl)) (pgs_cons (pg_name (i := 6) scRO.nd rfl (.inl rfl)) pgs_nil)))
        (pss_cons (ps_set (i := 7) scRO.nd rfl (.inl rfl) (pe_op op_sub (act _ _ _ _ (pa_cons (pe_op op_add (pv 5) pe_int) pa_nil) (fun _ => rfl)) (act _ _ _ _ (pa_cons (pv 5) pa_nil) (fun _ => rfl))))
        (pss_one (ps_set (i := 2) scRO.nd rfl (.inl rfl) (pe_call GR hr' rfl mR FR.kp bR .nil pass0 (pa_cons (pv 2) (pa_cons (pv 7) (pa_cons (pe_op op_sub (pv 6) (pv 5)) pa_nil))))))))
      (pss_one (ps_ret (pe_callTy call_tuple_of (by rfl) T.tuple (by decide +kernel) (pa_cons (pe_lc (own := [("step", 7), ("many", 8)]) (g := gTup K 2 (gCons (gName 7) (gCons (gName 8) gNil))) (tt := tTest (tOp (rI0 fun i j => .bl (decide (j < i))) (tVar 7) (tC (.int 0)))) rfl scRO.nd (pi_list (pv 2))
          (blkOk_by (N := ["bends", "rule", "found", "marks", "hour", "low", "high", "step", "many"]) (sc := defScope sRowOf) (by decide +kernel)) (fun _ _ _ _ _ => pg_tup rfl (pgs_cons (pg_name (i := 7) scRO.nd rfl (Or.inl rfl)) (pgs_cons (pg_name (i := 8) scRO.nd rfl (Or.inl rfl)) pgs_nil)))
          (fun _ _ _ _ _ => by exact pts_one (pt_cmpR op_gt (pv 7) pe_int (nomark _))) (fun _ _ _ _ _ => pe_tup (pa_cons (pv 7) (pa_cons (pv 8) pa_nil)))) pa_nil)))))), ?_⟩
  refine ⟨by show 0 ≤ sizeLine; decide, fun fa hfa => ⟨by show 1 ≤ sizeLine; decide, fun z0 hz0 => ?_⟩⟩
  have m1 := same_new (o := .lst [.int 0]) (same_new (o := .lst []) (Same.refl H) hfa) hz0
  have nf : H fa = none := hfa
  have f1 : upd (upd H fa (.lst [])) z0 (.lst [.int 0]) fa = some (.lst []) := s3u hz0 upd_same
  have z1 : upd (upd H fa (.lst [])) z0 (.lst [.int 0]) z0 = some (.lst [.int 0]) := upd_same
  generalize upd (upd H fa (.lst [])) z0 (.lst [.int 0]) = H1 at m1 f1 z1 ⊢
  refine ⟨_, rfl, l, rfl, ⟨_, m1.seq hB⟩, fun D hD => ?_⟩
  have lb : (bs.map V.int).length = bs.length := List.length_map _
  refine lc_list (K := K) (a := l) (xs := bs.map V.int) (fun i H' => H' D = some (.lst (((bs.take i).filter fun k => decide (0 ≤ k)).map V.int)) ∧ Same H1 H') ?_ ?_ ?_ ?_
  · exact ⟨by rw [List.take_zero, upd_same]; rfl, same_new (Same.refl H1) hD⟩
  · rintro i H' _ ⟨_, sm⟩
    exact (m1.trans sm).seq hB
  · rintro i x H' hx ⟨q1, q2⟩
    obtain ⟨b, hb, rfl⟩ := ints_of hx
    have et : bs.take (i + 1) = bs.take i ++ [b] := by rw [List.take_succ, hb]; rfl
    refine ⟨rfl, _, rfl, _, _, rfl, rfl, _, rfl, ?_⟩
    refine ite2 (fun c => ?_) (fun c => ?_)
    · have c : 0 ≤ b := of_decide_eq_true c
      refine ⟨_, rfl, _, q1, ?_, ?_, same_put q2 hD⟩
      · rw [List.length_map]
        have := List.length_filter_le (fun k : Int => decide (0 ≤ k)) (bs.take i)
        rw [List.length_take] at this
        exact small1000 (by omega)
      · rw [upd_same, et, List.filter_append, List.filter_cons_of_pos (by exact decide_eq_true c), List.map_append]
        rfl
    · have c : ¬ 0 ≤ b := fun z => c (decide_eq_true z)
      refine ⟨?_, q2⟩
      rw [et, List.filter_append, List.filter_cons_of_neg (by rw [decide_eq_true_eq]; exact c), q1]
      simp
  rintro H2 ⟨q1, q2⟩
  rw [lb, List.take_length] at q1
  generalize hbp : bs.filter (fun k => decide (0 ≤ k)) = bp at q1
  have lbp : bp.length ≤ 60 := by
    rw [← hbp]
    exact Nat.le_trans (List.length_filter_le _ _) l3
  refine ⟨z0, D, [.int 0], _, rfl, rfl, q2 _ _ z1, q1, ?_, fun p hp => ?_⟩
  · rw [List.length_map]
    exact Nat.le_of_lt (small1000 (show 1 + bp.length ≤ 1000 by omega))
  have m3 := same_new (o := .lst ([.int 0] ++ bp.map V.int)) q2 hp
  have p3 : upd H2 p (.lst ([.int 0] ++ bp.map V.int)) p = some (.lst ((0 :: bp).map V.int)) := upd_same
  generalize upd H2 p (.lst ([.int 0] ++ bp.map V.int)) = H3 at m3 p3 ⊢
  have lbp1 : (0 :: bp).length ≤ 61 := by rw [List.length_cons]; omega
  refine ⟨p, 0 :: bp, rfl, SqL.of p3, by omega, fun sp c hcn hp => ⟨sp, _, c, rfl, upd_same, by omega, fun ms mk hpw hmem hlen hmk => ?_⟩⟩
  have m4 := same_new (o := .lst (ms.map V.int)) (same_new (o := SetO w sp (fun j => decide (j ∈ 0 :: bp)) c) m3 hp) hmk
  have f4 : upd (upd H3 sp (SetO w sp (fun j => decide (j ∈ 0 :: bp)) c)) mk (.lst (ms.map V.int)) fa = some (.lst []) := s3u (o := .lst (ms.map V.int)) hmk (s3u (o := SetO w sp (fun j => decide (j ∈ 0 :: bp)) c) hp (m3 _ _ f1))
  have k4 : upd (upd H3 sp (SetO w sp (fun j => decide (j ∈ 0 :: bp)) c)) mk (.lst (ms.map V.int)) mk = some (.lst (ms.map V.int)) := upd_same
  rw [show (LamP.gcx ⟨prog, w, K, mg, base, A, N0, s0, H0, env, outer, stack, ex, fn, calm, pn, xe⟩ ["bends", "rule", "found", "marks", "hour", "low", "high", "step", "many"] "_law_row_of" (defScope sRowOf) g cdg s H).w = w from rfl]
  generalize upd (upd H3 sp (SetO w sp (fun j => decide (j ∈ 0 :: bp)) c)) mk (.lst (ms.map V.int)) = H4 at m4 f4 k4 ⊢
  have mem : ∀ k, k ∈ ms ↔ k ∈ 0 :: bp := fun k => by rw [hmem k, decide_eq_true_eq]
  have lms : ms.length ≤ 61 := by omega
  clear hmem hlen hmk hp hcn p3 q1 q2 z1 f1 hD hz0 hfa
  have m04 : Same H H4 := m1.trans m4
  refine ⟨_, _, rfl, ?_⟩
  obtain ⟨M0, la, eM⟩ : ∃ M0 la, ms = M0 ++ [la] := by
    rcases List.eq_nil_or_concat ms with e | ⟨M0, la, e⟩
    · have := (mem 0).mpr List.mem_cons_self
      rw [e] at this
      cases this
    · exact ⟨M0, la, by rw [e, List.concat_eq_append]⟩
  have n0 : ∀ k ∈ ms, 0 ≤ k := fun k hk => by
    rcases List.mem_cons.mp ((mem k).mp hk) with rfl | h
    · exact Int.le_refl _
    · rw [← hbp] at h
      exact of_decide_eq_true (List.mem_filter.mp h).2
  have k4' : H4 mk = some (.lst (M0.map V.int ++ [.int la])) := by rw [k4, eM, List.map_append]; rfl
  refine ⟨_, rfl, _, rfl, 1, rfl, mk, _, rfl, SqL.of k4, fun p5 hp5 => ?_⟩
  have ec : cutV (ms.map V.int) (some (1 : Int)) none = (ms.drop 1).map V.int := by rw [show (1 : Int) = ((1 : Nat) : Int) from rfl, cut_from, List.map_drop]
  rw [ec]
  have m5 := same_new (o := .lst ((ms.drop 1).map V.int)) (Same.refl H4) hp5
  have p55 : upd H4 p5 (.lst ((ms.drop 1).map V.int)) p5 = some (.lst ((ms.drop 1).map V.int)) := upd_same
  generalize upd H4 p5 (.lst ((ms.drop 1).map V.int)) = H5 at m5 p55 ⊢
  refine ⟨_, rfl, 1, rfl, mk, _, -1, .int la, rfl, rfl, SqL.of (m5 _ _ k4'), atI_last _ _, _, _, rfl, rfl, by show 1 ≤ sizeLine; decide, fun q6 hq6 => ?_⟩
  have m6 := same_new (o := .lst [.int (la + 1)]) m5 hq6
  refine ⟨p5, q6, (ms.drop 1).map V.int, [.int (la + 1)], rfl, rfl, s3u hq6 p55, upd_same, ?_, fun b7 hb7 => ?_⟩
  · rw [List.length_map, List.length_drop]
    exact Nat.le_of_lt (small1000 (show ms.length - 1 + 1 ≤ 1000 by omega))
  have eb : (ms.drop 1).map V.int ++ [V.int (la + 1)] = (ms.drop 1 ++ [la + 1]).map V.int := by rw [List.map_append]; rfl
  have hb7 : upd H5 q6 (.lst [.int (la + 1)]) b7 = none := hb7
  rw [eb]
  have m7 := same_new (o := .lst ((ms.drop 1 ++ [la + 1]).map V.int)) m6 hb7
  have b77 : upd (upd H5 q6 (.lst [.int (la + 1)])) b7 (.lst ((ms.drop 1 ++ [la + 1]).map V.int)) b7 = some (.lst ((ms.drop 1 ++ [la + 1]).map V.int)) := upd_same
  generalize upd (upd H5 q6 (.lst [.int (la + 1)])) b7 (.lst ((ms.drop 1 ++ [la + 1]).map V.int)) = H7 at m7 b77 ⊢
  have k7 := m7 _ _ k4
  have m07 := m04.trans m7
  have lpos : 1 ≤ ms.length := by rw [eM, List.length_append]; exact Nat.le_add_left _ _
  have ln2 : (ms.drop 1 ++ [la + 1]).length = ms.length := by
    rw [List.length_append, List.length_drop]
    show ms.length - 1 + 1 = ms.length
    omega
  refine ⟨mk, b7, _, _, rfl, .inl ⟨SqL.of k7, SqL.of b77, ?_⟩⟩
  refine for_it (walk_zip (K := K) (a := mk) (b := b7) (xs := ms.map V.int) (ys := (ms.drop 1 ++ [la + 1]).map V.int) (n := ms.length) (by rw [List.length_map, List.length_map, ln2]; omega)) (fun j σ H' => ∃ (fx : Addr) (us : List V) (F : List Run) (v4 v5 v6 v7 v8 : Option V), σ = [some (.ref l), some (.ref f), some (.ref fx), some (.ref mk), v4, v5, v6, v7, v8] ∧ H' fx = some (.lst us) ∧ Paired (RunV K H') us F ∧ F.length ≤ j ∧ RM.rof gg F (ms.drop j) = RM.rof gg [] ms ∧ Same H7 H') ?_ ?_ ?_ ?_
  · exact ⟨fa, [], [], _, _, _, _, _, rfl, m7 _ _ f4, .nil, Nat.le_refl _, by rw [List.drop_zero], Same.refl H7⟩
  · rintro j σ H' _ ⟨_, _, _, _, _, _, _, _, _, _, _, _, _, sm⟩
    exact ⟨SqL.of (sm _ _ k7), SqL.of (sm _ _ b77)⟩
  · rintro j x σ H' H'' hj ⟨fx, us, F, v4, v5, v6, v7, v8, rfl, e1, e2, e3, e4, sm⟩ ⟨T', x', y', rfl, fT, rfl, hx, hy⟩
    obtain ⟨lo, hlo, rfl⟩ := ints_of hx
    obtain ⟨hi, hhi, rfl⟩ := ints_of hy
    have lo0 := n0 lo (List.mem_of_getElem? hlo)
    have m8 := same_new (o := .tup [.int lo, .int hi]) (Same.refl H') fT
    have e18 := m8 _ _ e1
    have e28 : Paired (RunV K (upd H' T' (.tup [.int lo, .int hi]))) us F := paired_imp (fun v c ⟨a, e1, z⟩ => ⟨a, e1, sqt_more m8 z⟩) e2
    have t8 : upd H' T' (.tup [.int lo, .int hi]) T' = some (.tup [.int lo, .int hi]) := upd_same
    generalize upd H' T' (.tup [.int lo, .int hi]) = H8 at m8 e18 e28 t8 ⊢
    have m08 := m07.trans (sm.trans m8)
    refine ⟨T', _, rfl, SqT.of t8, rfl, _, _, rfl, _, _, rfl, rfl, ?_⟩
    refine ⟨rfl, _, rfl, _, _, rfl, rfl, _, rfl, m08 _ _ hc, rule (lo + 1) _ _ (by omega) m08 fun G1 g1 => ?_⟩
    refine ⟨rfl, _, rfl, _, rfl, (m08.trans g1) _ _ hc, rule lo _ _ lo0 (m08.trans g1) fun G2 g2 => ?_⟩
    have g12 := g1.trans g2
    have e18 := g12 _ _ e18
    have e28 : Paired (RunV K G2) us F := paired_imp (fun v c ⟨a, e1, z⟩ => ⟨a, e1, sqt_more g12 z⟩) e28
    refine ⟨_, _, rfl, rfl, ?_⟩
    refine ⟨_, rfl, _, rfl, _, rfl, _, rfl, _, _, rfl, rfl, fx, gg (lo + 1) - gg lo, hi - lo, us, F, rfl, e18, e28, by omega, fun p us' H9 e9 pr9 fr9 sm9 => ?_⟩
    have rl := RM.run_len F (gg (lo + 1) - gg lo) (hi - lo)
    refine ⟨p, us', _, _, _, _, _, _, rfl, e9, pr9, by omega, ?_, sm.trans (m8.trans (g12.trans sm9))⟩
    rw [← e4, drop_at hlo]
    by_cases c : j + 1 < ms.length
    · have hh : ms[j + 1]? = some hi := by
        have := hhi
        rw [List.getElem?_append_left (by rw [List.length_drop]; omega), List.getElem?_drop] at this
        rw [Nat.add_comm] at this
        exact this
      rw [drop_at hh]
      rfl
    · have ej : j + 1 = ms.length := by omega
      have e5 : ms.drop (j + 1) = [] := List.drop_eq_nil_of_le (by omega)
      have e6 : hi = la + 1 := by
        have := hhi
        rw [List.getElem?_append_right (by rw [List.length_drop]; omega), List.length_drop, show j - (ms.length - 1) = 0 by omega] at this
        exact (Option.some.inj this).symm
      have e7 : lo = la := by
        have := hlo
        rw [eM, List.getElem?_append_right (by rw [eM, List.length_append] at ej; have : [la].length = 1 := rfl; omega)] at this
        rw [show j - M0.length = 0 by rw [eM, List.length_append] at ej; have : [la].length = 1 := rfl; omega] at this
        exact (Option.some.inj this).symm
      rw [e5, e6, e7]
      rfl
  rintro σ H9 ⟨fx, us, F, v4, v5, v6, v7, v8, rfl, e1, e2, e3, e4, sm⟩
  rw [List.drop_length] at e4
  have e4 : F = RM.rof gg [] ms := e4
  have m09 := m07.trans sm
  refine ⟨_, rfl, fx, rfl, ⟨_, SqL.of e1⟩, fun D2 hD2 => ?_⟩
  have lu := paired_len e2
  refine lc_list (K := K) (a := fx) (xs := us) (fun i H' => ∃ ts : List Addr, H' D2 = some (.lst (ts.map V.ref)) ∧ Paired (fun t (r : Run) => H' t = some (.tup [.int r.1, .int r.2]) ∧ t ≠ D2) ts (posR (F.take i)) ∧ Same H9 H') ?_ ?_ ?_ ?_
  · exact ⟨[], upd_same, by rw [List.take_zero]; exact .nil, same_new (Same.refl H9) hD2⟩
  · rintro i H' _ ⟨_, _, _, sm⟩
    exact SqL.of (sm _ _ e1)
  · rintro i x H' hx ⟨ts, p1, p2, p4⟩
    obtain ⟨r, hr2, q, rfl, hq⟩ := paired_at e2 hx
    have et : F.take (i + 1) = F.take i ++ [r] := by rw [List.take_succ, hr2]; rfl
    refine ⟨q, _, rfl, sqt_more p4 hq, rfl, _, _, rfl, _, _, rfl, rfl, ?_⟩
    refine ⟨rfl, _, rfl, _, _, rfl, rfl, _, rfl, ?_⟩
    refine ite2 (fun c => ?_) (fun c => ?_)
    · have c : 0 < r.1 := of_decide_eq_true c
      refine ⟨_, rfl, _, rfl, by show 2 ≤ sizeLine; decide, fun t ht => ?_⟩
      have nt : t ≠ D2 := fun z => by rw [z, p1] at ht; cases ht
      have lt := paired_len p2
      refine ⟨ts.map V.ref, s3u ht p1, ?_, ts ++ [t], by rw [upd_same, List.map_append]; rfl, ?_, same_put (same_new p4 ht) hD2⟩
      · have := List.length_filter_le (fun q : Run => decide (0 < q.1)) (F.take i)
        have l2 : (F.take i).length ≤ F.length := by rw [List.length_take]; exact Nat.min_le_right _ _
        unfold posR at lt
        rw [List.length_map]
        exact small1000 (by omega)
      · unfold posR at p2 ⊢
        rw [et, List.filter_append, List.filter_cons_of_pos (by exact decide_eq_true c)]
        refine paired_snoc ⟨by rw [upd_ne nt, upd_same], nt⟩ (paired_imp (fun t0 r h => ⟨?_, h.2⟩) p2)
        rw [upd_ne h.2]
        exact s3u ht h.1
    · have c : ¬ 0 < r.1 := fun z => c (decide_eq_true z)
      refine ⟨ts, p1, ?_, p4⟩
      unfold posR at p2 ⊢
      rw [et, List.filter_append, List.filter_cons_of_neg (by rw [decide_eq_true_eq]; exact c)]
      simpa using p2
  rintro H10 ⟨ts, p1, p2, p4⟩
  rw [lu, List.take_length] at p2
  refine ⟨D2, _, rfl, .inl ⟨SqL.of p1, fun t0 ht0 => ?_⟩⟩
  have m10 := m09.trans p4
  refine k t0 ms _ hpw (by rw [hbp]; exact mem) ⟨t0, ts.map V.ref, rfl, SqT.of upd_same, ?_⟩ ?_ (same_new m10 ht0)
  · rw [← e4]
    exact paired_ref (fun t r h => ⟨t, rfl, SqT.of (s3u ht0 h.1)⟩) p2
  · cases e : H t0 with
    | none => rfl
    | some o => exact absurd (m10 _ _ e) (by rw [ht0]; exact fun z => nomatch z)
end
end Y

/-! the row behind a sum, by the law -/
namespace Y
open PySem PySem.Spec PyProof.Rows L2 Ns LamX LamP
open C8 (pss_cut)
def qTk : Str := Str.ofString "_law_taken.<locals>.<lambda>"
def spLTk (K : PySem.W.Frag) (TT : List (Addr × Str)) : Sp := fun as H Q _ => ∃ (y : V) (x m : Int) (R : List Run), as = [y, .int x] ∧ RowV K H y R ∧ RM.Vd m R ∧ 1 ≤ m ∧ m ≤ 2 ^ 60 ∧ 0 ≤ x ∧ x ≤ RM.top R ∧ R.length ≤ 25 ∧ Tabs TT H ∧
  ∀ (y' : V) (H' : Hp), ExtN H H' → Tabs TT H' → RowV K H' y' (tk x R) → Q y' H'
def spCouldOfT (K : PySem.W.Frag) (TT : List (Addr × Str)) : Sp := fun as H Q _ => ∃ (y : V) (nt : Addr) (R : List Run) (ns : List Int), as = [y, .ref nt] ∧ RowV K H y R ∧ (∀ r ∈ R, -(2 ^ 64) < r.1 ∧ r.1 < 2 ^ 64) ∧ SqT K H nt (ns.map V.int) ∧ ns.length ≤ 100 ∧ Tabs TT H ∧
  ∀ (p : Addr) (H' : Hp), ExtN H H' → Tabs TT H' → H' p = some (.lst ((cds (fun h => lrch R (h : Int)) ns).map V.int)) → (∀ b o, H b = some o → (∀ ps, o ≠ .tbl ps) → p ≠ b) → Q (.ref p) H'
theorem rch_rm : ∀ (R : List Run) (h : Int), rch R h = RM.rch R h
  | [], _ => rfl
  | r :: R, h => by
    show r.1 * mn r.2 h + rch R (h - mn r.2 h) = r.1 * min r.2 h + RM.rch R (h - min r.2 h)
    rw [rch_rm R, mn_min]
theorem bnd_snoc : ∀ (D : List Run) (a : Int) (q : Run), RM.bnd a (D ++ [q]) = RM.bnd a D ++ [a + RM.hoursN D + q.2 - 1, a + RM.hoursN D + q.2]
  | [], a, q => by
    show [a + q.2 - 1, a + q.2] = [] ++ [a + 0 + q.2 - 1, a + 0 + q.2]
    rw [Int.add_zero]
    rfl
  | p :: D, a, q => by
    show (a + p.2 - 1) :: (a + p.2) :: RM.bnd (a + p.2) (D ++ [q]) = (a + p.2 - 1) :: (a + p.2) :: RM.bnd (a + p.2) D ++ _
    rw [bnd_snoc D (a + p.2) q, RM.hoursN_cons, show a + p.2 + RM.hoursN D = a + (p.2 + RM.hoursN D) by omega]
    rfl
theorem bnd_last (D : List Run) : ∃ pre, 0 :: RM.bnd 0 D = pre ++ [RM.hoursN D] := by
  rcases List.eq_nil_or_concat D with e | ⟨D', q, e⟩
  · subst e
    exact ⟨[], rfl⟩
  · rw [e, List.concat_eq_append, bnd_snoc, RM.hoursN_app, RM.hoursN_cons, RM.hoursN_nil]
    refine ⟨0 :: RM.bnd 0 D' ++ [0 + RM.hoursN D' + q.2 - 1], ?_⟩
    rw [show 0 + RM.hoursN D' + q.2 = RM.hoursN D' + (q.2 + 0) by omega]
    simp
theorem bnd_len : ∀ (D : List Run) (a : Int), (RM.bnd a D).length = 2 * D.length
  | [], _ => rfl
  | p :: D, a => by
    show (RM.bnd (a + p.2) D).length + 1 + 1 = 2 * (D.length + 1)
    rw [bnd_len D]
    omega
theorem tkOnly : ∀ y : Str, ([("hour", .local), ("row", .free), ("x", .free), ("min", .globalImplicit), ("_law_row_reach", .globalImplicit)] : List (Str × NameKind)).lookup y = some .local → y = "hour" := fun y h =>
  (show ∀ p ∈ ([("hour", .local), ("row", .free), ("x", .free), ("min", .globalImplicit), ("_law_row_reach", .globalImplicit)] : List (Str × NameKind)), p.2 = .local → p.1 = "hour" by decide +kernel) (y, .local) (PySem.mem_of_lookup h) rfl
section
variable {Pr : Program} {w : World} {K : PySem.W.Frag} {mg : Str → Option Value} {base : Heap}
end
end Y

/-! a row of its steps, one by one -/
namespace RM
theorem step_mono {r : List Run} {m : Int} (v : Vd m r) (i : Nat) : ∀ k : Nat, rch r ((i + k : Nat) + 1 : Int) - rch r ((i + k : Nat) : Int) ≤ rch r ((i : Int) + 1) - rch r (i : Int)
  | 0 => Int.le_refl _
  | k + 1 => by
    have ih := step_mono v i k
    have c := rch_conc (h := ((i + k : Nat) : Int)) v (by omega)
    rw [show ((i + (k + 1) : Nat) : Int) + 1 = ((i + k : Nat) : Int) + 2 by omega, show ((i + (k + 1) : Nat) : Int) = ((i + k : Nat) : Int) + 1 by omega]
    omega
def up (D : List Int) : List Run := D.foldl (fun F s => run F s 1) []
theorem up_take {D : List Int} {i : Nat} {s : Int} (h : D[i]? = some s) : up (D.take (i + 1)) = run (up (D.take i)) s 1 := by
  unfold up
  rw [List.take_succ, h]
  show List.foldl _ _ (D.take i ++ [s]) = _
  rw [List.foldl_append]
  rfl
theorem up_len : ∀ (D : List Int) (F : List Run), (D.foldl (fun F s => run F s 1) F).length ≤ F.length + D.length
  | [], F => Nat.le_refl _
  | s :: D, F => by
    have h1 := up_len D (run F s 1)
    have h2 := run_len F s 1
    rw [List.length_cons]
    show (D.foldl _ (run F s 1)).length ≤ _
    omega
theorem sum_take {D : List Int} {i : Nat} {s : Int} (h : D[i]? = some s) : (D.take (i + 1)).sum = (D.take i).sum + s := by
  rw [List.take_succ, h]
  simp
theorem up_is {D : List Int} {r : List Run} {m : Int} (v : Vd m r) (hm : 1 ≤ m) (S : ∀ h : Nat, (D.take h).sum = rch r (h : Int)) : (up D).filter (fun q => decide (0 < q.1)) = r := by
  have inv : ∀ i : Nat, i ≤ D.length → RInv (fun h => rch r h) m (up (D.take i)) (i : Int) := fun i => by
    induction i with
    | zero => exact fun _ => ⟨trivial, rfl, fun h h0 h1 => by
        have h1 : h ≤ 0 := h1
        rw [show h = 0 by omega, rch_zero v]
        rfl⟩
    | succ i ih =>
      intro hi
      have I := ih (by omega)
      obtain ⟨s, hs⟩ : ∃ s, D[i]? = some s := ⟨_, List.getElem?_eq_getElem (by omega)⟩
      have e1 := sum_take hs
      rw [S, S] at e1
      have e2 : ((i + 1 : Nat) : Int) = (i : Int) + 1 := by omega
      rw [e2] at e1 ⊢
      have st := rch_step (h := (i : Int)) v (by omega)
      have tl := (top_lt v hm).2
      rw [up_take hs]
      have J := I.step (hi := (i : Int) + 1) (s := s) (by omega) (fun k k1 k2 => by
        show rch r (k + 1) - rch r k = s
        rw [show k = (i : Int) by omega]
        omega) (by omega) (by omega) (fun l1 => by
        show s ≤ rch r (i : Int) - rch r ((i : Int) - 1)
        have c := rch_conc (h := (i : Int) - 1) v (by omega)
        rw [show (i : Int) - 1 + 2 = (i : Int) + 1 by omega, show (i : Int) - 1 + 1 = (i : Int) by omega] at c
        omega)
      rw [show (i : Int) + 1 - (i : Int) = 1 by omega] at J
      exact J
  have J := inv D.length (Nat.le_refl _)
  rw [List.take_length] at J
  obtain ⟨p1, p2⟩ := vz_pos J.vz
  refine rch_inj p1 v fun h h0 => ?_
  rw [p2 h h0]
  by_cases c : h ≤ (D.length : Int)
  · exact J.rc h h0 c
  · rw [rch_const (vz_nn J.vz) (by rw [J.hrs]; omega), J.hrs]
    have e := J.rc (D.length : Int) (by omega) (Int.le_refl _)
    have e : rch (up D) (D.length : Int) = rch r (D.length : Int) := e
    rw [e, ← S, List.take_length]
    have := S h.toNat
    rw [List.take_of_length_le (by omega), show ((h.toNat : Nat) : Int) = h by omega] at this
    exact this
/-- a list whose sums are a reach falls -/
theorem falls {D : List Int} {r : List Run} {m : Int} (v : Vd m r) (S : ∀ h : Nat, (D.take h).sum = rch r (h : Int)) : D.Pairwise (fun a b => b ≤ a) := by
  rw [List.pairwise_iff_getElem]
  intro i j hi hj hij
  have e1 := sum_take (List.getElem?_eq_getElem hi)
  have e2 := sum_take (List.getElem?_eq_getElem hj)
  rw [S, S] at e1 e2
  have := step_mono v i (j - i)
  rw [show i + (j - i) = j by omega] at this
  rw [show ((i + 1 : Nat) : Int) = (i : Int) + 1 by omega] at e1
  rw [show ((j + 1 : Nat) : Int) = (j : Int) + 1 by omega] at e2
  omega
/-- the same, the steps in another order, but falling -/
theorem up_perm {D N : List Int} {r : List Run} {m : Int} (v : Vd m r) (hm : 1 ≤ m) (S : ∀ h : Nat, (N.take h).sum = rch r (h : Int)) (p : D.Perm N) (f : D.Pairwise (fun i j => 0 - i ≤ 0 - j)) : (up D).filter (fun q => decide (0 < q.1)) = r := by
  have e : D = N := List.Perm.eq_of_pairwise (le := fun a b : Int => b ≤ a) (fun a b _ _ h1 h2 => by omega) (f.imp fun {a b} h => by omega) (falls v S) p
  rw [e]
  exact up_is v hm S
/-- the two neighbours of a sum put together -/
def neigh (L0 : List Int) (x : Int) (t : Nat) : List Int := L0.take t ++ [L0.getD t 0 + L0.getD (t + 1) 0 - x] ++ L0.drop (t + 2)
theorem sum_drop_take (L : List Int) (a k : Nat) : ((L.drop a).take k).sum = (L.take (a + k)).sum - (L.take a).sum := by
  have : L.take (a + k) = L.take a ++ (L.drop a).take k := by
    rw [List.take_add]
  rw [this, List.sum_append]
  omega
theorem neigh_sums {L0 : List Int} {r : List Run} {m x : Int} {t : Nat} (v : Vd m r) (x1 : 1 ≤ x) (xt : x ≤ top r) (S0 : ∀ h : Nat, (L0.take h).sum = rch r (h : Int)) (ht : t + 1 < L0.length) (ha : x ≤ L0.getD t 0) (hb : ∀ j, t < j → j < L0.length → L0.getD j 0 < x) (h : Nat) :
    ((neigh L0 x t).take h).sum = rch (tkc x r) (h : Int) := by
  rw [tkc_rch v x1 xt (by omega)]
  have g1 : L0[t]? = some (L0.getD t 0) := by rw [List.getD_eq_getElem?_getD, List.getElem?_eq_getElem (by omega)]; rfl
  have g2 : L0[t + 1]? = some (L0.getD (t + 1) 0) := by rw [List.getD_eq_getElem?_getD, List.getElem?_eq_getElem ht]; rfl
  have e1 := sum_take g1
  have e2 := sum_take g2
  have lt : (L0.take t).length = t := by rw [List.length_take]; omega
  by_cases c : h ≤ t
  · have eN : (neigh L0 x t).take h = L0.take h := by
      unfold neigh
      rw [List.append_assoc, List.take_append_of_le_length (by rw [lt]; exact c), List.take_take, Nat.min_eq_left c]
    rw [eN, S0]
    have sm := step_mono v h (t - h)
    rw [show h + (t - h) = t by omega] at sm
    rw [S0, S0, show ((t + 1 : Nat) : Int) = (t : Int) + 1 by omega] at e1
    omega
  · have eN : (neigh L0 x t).take h = L0.take t ++ [L0.getD t 0 + L0.getD (t + 1) 0 - x] ++ (L0.drop (t + 2)).take (h - t - 1) := by
      unfold neigh
      have l2 : (L0.take t ++ [L0.getD t 0 + L0.getD (t + 1) 0 - x]).length = t + 1 := by rw [List.length_append, lt]; rfl
      rw [List.take_append, l2, List.take_of_length_le (by rw [l2]; omega), show h - (t + 1) = h - t - 1 by omega]
    rw [eN, List.sum_append, List.sum_append, sum_drop_take, List.sum_singleton]
    rw [show t + 2 + (h - t - 1) = h + 1 by omega, show t + 2 = t + 1 + 1 by omega, e2, e1, S0 (h + 1)]
    have sh : rch r ((h : Int) + 1) - rch r (h : Int) < x := by
      by_cases d : h < L0.length
      · have g3 : L0[h]? = some (L0.getD h 0) := by rw [List.getD_eq_getElem?_getD, List.getElem?_eq_getElem d]; rfl
        have e3 := sum_take g3
        rw [S0, S0, show ((h + 1 : Nat) : Int) = (h : Int) + 1 by omega] at e3
        have := hb h (by omega) d
        omega
      · have e3 : (L0.take (h + 1)).sum = (L0.take h).sum := by rw [List.take_of_length_le (by omega), List.take_of_length_le (by omega)]
        rw [S0, S0, show ((h + 1 : Nat) : Int) = (h : Int) + 1 by omega] at e3
        omega
    rw [show ((h + 1 : Nat) : Int) = (h : Int) + 1 by omega]
    omega
theorem pad_sums {L : List Int} {r : List Run} (S : ∀ h : Nat, (L.take h).sum = rch r (h : Int)) (h : Nat) : ((L ++ [0, 0]).take h).sum = rch r (h : Int) := by
  rw [List.take_append, List.sum_append, S]
  have : ∀ k : Nat, (([0, 0] : List Int).take k).sum = 0 := fun k => by
    match k with
    | 0 => rfl
    | 1 => rfl
    | k + 2 => rw [List.take_of_length_le (by simp)]; rfl
  rw [this]
  omega
end RM

/-! NsK: enumerate(t), a tuple. -/
namespace Ns
open PySem PySem.Spec PyProof.Rows L2
set_option maxHeartbeats 4000000 in
theorem meets_enum1 {v : Value} {o : Obj} {H : Heap → Prop} (B : Begins v o H) :
    Meets (Builtin.«enumerate.__new__» ⟨[.type "enumerate", v], []⟩) (fun _ R s => H s.heap ∧
      R (.ok (.ret (.ref (s.heap.push o).objs.size))) { s with heap := (s.heap.push o).push { cls := .type "enumerate", data := .fields #[.none, .bool false, .ref s.heap.objs.size, rawInt 0, .none, .none] } }) :=
  .of_wp fun prog w A R s h => by
    obtain ⟨hp, g, d, tk, os⟩ := s; obtain ⟨h1, h⟩ := h
    have hsub := sub_enumerate
    have q1 : ∀ {A' : Around} {E : Value → Shared → Prop} {Q : Value → Shared → Prop}, Q (.ref hp.objs.size) ⟨hp.push o, g, d, tk, os⟩ → wpAny (model prog w) A' (pyIter v) Q E ⟨hp, g, d, tk, os⟩ :=
      fun q => B.iter prog w _ _ ⟨hp, g, d, tk, os⟩ _ h1 q
    wp_walk using q1
    refine wpAny_stack_any fun st => wpAny_pure ?_
    split
    · rename_i c _ _ _ _ _
      cases (c == Value.type "enumerate")
      · wp_walk using q1
        exact ⟨_, rfl, h⟩
      · wp_walk using q1
        exact ⟨_, rfl, h⟩
    · wp_walk using q1
      exact ⟨_, rfl, h⟩
section
variable {prog : Program} {w : World} {A : Around} {E : Value → Shared → Prop} {s : Shared}
theorem call_enum1 {v : Value} {o : Obj} {H : Heap → Prop} {Q : Value → Shared → Prop} (B : Begins v o H) (h1 : H s.heap)
    (h : ∀ h', IsEnum h' (s.heap.objs.size + 1) s.heap.objs.size 0 .none → h'.get? s.heap.objs.size = some o → h'.objs.size = s.heap.objs.size + 2 →
      (∀ b o, s.heap.get? b = some o → h'.get? b = some o) → Q (.ref (s.heap.objs.size + 1)) { s with heap := h' }) :
    wpAny (model prog w) A (call (.type "enumerate") [v]) Q E s := by
  refine callType_new F.called_enumerate (by decide) (F.typeCall_enumerate_1 _) (F.newCall_enumerate_1 _) (fun obj => F.args_object_init_2 obj _) F.entry_enumerate_new
    (meets_enum1 B) ⟨h1, ?_⟩
  have hz : (s.heap.push o).objs.size = s.heap.objs.size + 1 := Heap.size_push ..
  show _ ∧ _
  rw [hz]
  have he : IsEnum ((s.heap.push o).push { cls := .type "enumerate", data := .fields #[.none, .bool false, .ref s.heap.objs.size, rawInt 0, .none, .none] }) (s.heap.objs.size + 1) s.heap.objs.size 0 .none := by
    have := Heap.get?_push_size (s.heap.push o) (o := { cls := .type "enumerate", data := .fields #[.none, .bool false, .ref s.heap.objs.size, rawInt 0, .none, .none] }) rfl
    rw [hz] at this; exact this
  refine ⟨⟨_, he, rfl⟩, h _ he (Heap.get?_push_of_some _ (Heap.get?_push_size _ B.free)) (by rw [Heap.size_push, hz]) fun b o x => Heap.get?_push_of_some _ (Heap.get?_push_of_some _ x)⟩
end
/-- the tuple at a, each item in a new pair -/
def IteT (K : PySem.W.Frag) (a : Addr) : It :=
  ⟨fun i H => ∃ (xs : List V) (x : V), SqT K H a xs ∧ xs[i]? = some x, fun i H v H' => ∃ T x, v = .ref T ∧ H T = none ∧ H' = upd H T (.tup [.int (i : Nat), x]) ∧ ∀ xs, SqT K H a xs → xs[i]? = some x, fun i H => ∃ xs : List V, SqT K H a xs ∧ xs.length ≤ i⟩
theorem turn_enumT {P : Program} {w : World} {K : PySem.W.Frag} {elts : List Expr} {kk : Nat} {tpos : Pos} (a e it : Addr) :
    Turn P w K (.Tuple elts kk tpos) (IteT K a) [e, it] e (fun i h => (∃ old, IsEnum h e it ((i : Nat) : Int) old) ∧ h.IsTupleIter it a i ∧ e ≠ it) where
  mem := by simp
  obj := fun i h st b hb => by
    obtain ⟨⟨old, he⟩, ⟨o, ho, hc, hd⟩, _⟩ := st
    have e' : b = e ∨ b = it := by simpa using hb
    rcases e' with z | z
    · rw [z]; exact ⟨_, he, fun v q => nomatch q⟩
    · rw [z]; exact ⟨o, ho, fun v q => by rw [hd] at q; cases q⟩
  keep := fun i h h' st k => let ⟨⟨old, he⟩, hi, hne⟩ := st; ⟨⟨old, k e (by simp) _ he⟩, hi.at fun o q => k it (by simp) o q, hne⟩
  item := by
    intro X hP hw hK hc i pins s σ H E I hf st hg
    subst hP hw hK
    obtain ⟨⟨old, he⟩, hit, hne⟩ := st
    obtain ⟨xs, x, hq, hx⟩ := hg
    obtain ⟨its, rv, p, hz⟩ := I.tuple hq
    obtain ⟨u, hu, ru⟩ := rv.get hx
    have p' : s.heap.IsTuple a its.toArray := p
    have hel : e < s.heap.objs.size := Heap.lt_size he
    have hil : it < s.heap.objs.size := by obtain ⟨_, q, _⟩ := hit; exact Heap.lt_size q
    have nai : a ≠ it := fun z => by
      obtain ⟨o, e1, c1, _⟩ := p'
      obtain ⟨o2, e2, c2, _⟩ := hit
      rw [z, e2] at e1
      cases e1
      rw [c1] at c2
      injection c2 with c3
      exact absurd c3 (by decide)
    have nea : e ≠ a := fun z => by
      obtain ⟨o, e1, c1, _⟩ := p'
      have e2 : s.heap.get? e = _ := he
      rw [z, e1] at e2
      have := congrArg (fun z => z.map Obj.cls) e2
      have c2 : o.cls = .type "enumerate" := Option.some.inj this
      rw [c1] at c2
      injection c2 with c3
      exact absurd c3 (by decide)
    have D := Draws.tuple (prog := X.prog) (w := X.w) (A := X.A.in1) (I.ok.hd hc) it a nai its.toArray
    have hi : i < its.toArray.size := by
      have := (List.getElem?_eq_some_iff.mp hu).1
      simpa using this
    refine wpAny_pyNext_enum_itemD D he ⟨hit, p'⟩ hi hne (by simp [hne, nea]) fun x' h' tk hP ho hit' hT hsz hk => ?_
    have ex : x' = u := by
      have hP : its.toArray[i]? = some x' := hP
      have h2 : its.toArray[i]? = some u := by simpa using hu
      rw [h2] at hP
      exact (Option.some.inj hP).symm
    subst ex
    refine ⟨_, rfl, wpAny_letOwnedTupleGo_enum (s := { s with heap := h', toks := tk + 1 }) ho fun h'' he' sb => ?_⟩
    have hT2 : h''.get? s.heap.objs.size = some { cls := .type "tuple", data := .seq #[.int i tk, x'] } := (sb.2 _ (Nat.ne_of_gt hel)).trans hT
    have new : ObjOk X.prog X.w (upd H s.heap.objs.size (.tup [.int (i : Nat), x])) h'' s.heap.objs.size (.tup [.int (i : Nat), x]) :=
      ⟨by show 2 ≤ sizeLine; decide, [.int i tk, x'], .cons ⟨_, rfl⟩ (.cons ru .nil), ⟨_, hT2, rfl, _, rfl⟩⟩
    have I1 : Inv X pins σ (upd H s.heap.objs.size (.tup [.int (i : Nat), x])) { s with heap := h'', toks := tk + 1 } :=
      I.turnedNew (ch := [e, it]) (fun b ob hb q => (sb.2 b (fun z => hb (by simp [z]))).trans (hk b ob (fun z => hb (by simp [z])) (fun z => hb (by simp [z])) q)) hf (Nat.le_refl _) new
    refine ⟨.ref s.heap.objs.size, _, I1, rfl, ⟨_, x, rfl, I.hok.fresh (Nat.le_refl _), rfl, fun ys hy => by rw [I.tuple_inj hy hq]; exact hx⟩, ⟨⟨x', ?_⟩, hit'.1.at fun o q => (sb.2 it (Ne.symm hne)).trans q, hne⟩, fun b hb => ?_⟩
    · have e1 : ((i + 1 : Nat) : Int) = (i : Int) + 1 := by omega
      rw [e1]; exact he'
    · have hb' : b < s.heap.objs.size := by
        have e' : b = e ∨ b = it := by simpa using hb
        rcases e' with z | z
        · rw [z]; exact hel
        · rw [z]; exact hil
      rw [upd_ne (Nat.ne_of_lt hb')]
      exact (hf b hb).1
  done := by
    intro X hP hw hK hc i pins s σ H E I hf st hg
    subst hP hw hK
    obtain ⟨⟨old, he⟩, hit, hne⟩ := st
    obtain ⟨xs, hq, hx⟩ := hg
    obtain ⟨its, rv, p, hz⟩ := I.tuple hq
    have p' : s.heap.IsTuple a its.toArray := p
    obtain ⟨f0, f1, f2, f3, f4, f5⟩ := hf it (by simp)
    have hl := rv.length
    have hT : s.TypeIs (.ref e) "enumerate" := ⟨_, he, rfl⟩
    unfold pyNext
    refine wpAny_bind (wpAny_attempt (wpAny_callSpecial?_slot (name := Str.ofString "__next__") hT F.slot_enumerate_next
      (wpAny_call_entry F.slot_enumerate_next hT F.entry_enumerate_next ?_ (F.args_enumerate_next_1 _))))
    show wpAny _ _ (field (.ref e) 2 >>= _) _ _ _
    refine wpAny_bind (wpAny_field he rfl (x := .ref it) rfl ?_)
    refine wpAny_bind (wpAny_nextOf_tuple_end (I.ok.hd hc) hit p' (by simp; omega) fun h' x he' hx' => ?_)
    obtain ⟨o, ho, hc'⟩ := hx'
    refine wpAny_bind (wpAny_isInstance (T := "StopIteration") (b := true) ⟨o, ho, hc'⟩ isSubtype_stop ?_)
    exact wpAny_pure ⟨rfl, I.turned (t' := s.toks) (fun b o hb q => he' b o hb q) f0 f1 f3 f4 f5⟩
  self := fun A i s Q E st h => let ⟨⟨_, he⟩, _⟩ := st; wpAny_pyIter_enum he h
def iEnumT (K : PySem.W.Frag) (ta : TA) : TI := fun σ H R => ta σ H fun vs H1 => ∃ a xs, vs = [.ref a] ∧ SqT K H1 a xs ∧ R (IteT K a) H1
theorem pi_enumT {X : Cx} {e : Expr} {ta : TA} {p pos tpos : Pos} {elts : List Expr} {kk : Nat} (hg : Gl X "enumerate") (hm : X.mg "enumerate" = none) (ha : PA X [e] ta) (hs : starEach [e] X.env = [(false, eval e X.env)] := by rfl) :
    PI X (.Tuple elts kk tpos) (.Call (.Name "enumerate" p) [e] [] pos) (iEnumT X.K ta) := by
  refine ⟨fun pins s σ H R I h => ?_⟩
  refine Call_ (ld_blt I hg hm boot_enumerate (PyProof.Rows.callWith_type1 (thn (ha.run pos pins s σ H _ I h) fun us s1 ⟨vs, H1, I1, r1, q1⟩ => ?_) hs rfl))
  obtain ⟨a, xs, ex, hq, q⟩ := q1
  subst ex
  cases r1 with
  | cons r rr =>
    cases rr
    cases r
    obtain ⟨its, rv, p', hz⟩ := I1.tuple hq
    have pT : s1.heap.IsTuple a its.toArray := p'
    refine call_enum1 (begins_tuple a its.toArray) pT fun h' he hit hsz hk => wpAny_pyIter_enum he ?_
    have I2 : Inv X pins σ H1 { s1 with heap := h' } := I1.kept (t' := s1.toks) hk
    refine ⟨s1.heap.objs.size + 1, [s1.heap.objs.size + 1, s1.heap.objs.size], _, _, H1, rfl, I2, turn_enumT a (s1.heap.objs.size + 1) s1.heap.objs.size, ⟨⟨.none, he⟩, ⟨_, hit, rfl, rfl⟩, Nat.succ_ne_self _⟩, fun b hb => ?_, q⟩
    have e' : b = s1.heap.objs.size + 1 ∨ b = s1.heap.objs.size := by simpa using hb
    have hle : s1.heap.objs.size ≤ b := by
      rcases e' with z | z
      · rw [z]; exact Nat.le_add_right _ _
      · rw [z]; exact Nat.le_refl _
    exact I1.fpOk hle (I1.hok.fresh hle)
theorem walk_enumT {K : PySem.W.Frag} {a : Addr} {xs : List V} : Walk (IteT K a) xs.length (fun H => SqT K H a xs) (YPair (fun i => some (.int (i : Nat))) (fun i => xs[i]?)) := by
  refine ⟨fun i _ hi q => ⟨xs, xs[i], q, by simp [hi]⟩, fun _ q => ⟨xs, q, Nat.le_refl _⟩, fun i H v H' _ q y => ?_⟩
  obtain ⟨T, x, h1, h2, h3, h4⟩ := y
  exact ⟨T, .int (i : Nat), x, h1, h2, h3, rfl, h4 xs q⟩
end Ns

/-! steps run up, neighbours, COULD with several tables -/
namespace Y
open PySem PySem.Spec PyProof.Rows L2 Ns LamX LamP
open C8 (pss_cut)
def qUp : Str := Str.ofString "_law_run_up.<locals>.<lambda>"
def spUp (K : PySem.W.Frag) (TT : List (Addr × Str)) : Sp := fun as H Q _ => ∃ (l : Addr) (ns : List Int), as = [.ref l] ∧ SqL K H l (ns.map V.int) ∧ ns.length ≤ 250 ∧ Tabs TT H ∧
  ∀ (t : Addr) (ms : List Int) (H' : Hp), ms.Perm ns → ms.Pairwise (fun i j => 0 - i ≤ 0 - j) → ExtN H H' → Tabs TT H' → RowV K H' (.ref t) (posR (RM.up ms)) → Q (.ref t) H'
def IsNb (L : List Int) (x : Int) (N : List Int) : Prop := (x = 0 ∧ N = L) ∨ ∃ t : Nat, 1 ≤ x ∧ t + 1 < (L ++ [0, 0]).length ∧ x ≤ (L ++ [0, 0]).getD t 0 ∧ (∀ j, t < j → j < (L ++ [0, 0]).length → (L ++ [0, 0]).getD j 0 < x) ∧ N = RM.neigh (L ++ [0, 0]) x t
def spNb (K : PySem.W.Frag) : Sp := fun as H Q _ => ∃ (l : Addr) (x : Int) (L : List Int), as = [.ref l, .int x] ∧ SqL K H l (L.map V.int) ∧ L.length ≤ 200 ∧ 0 ≤ x ∧ (∀ s ∈ L, 0 < s) ∧ (1 ≤ x → x ≤ (L ++ [0, 0]).getD 0 0) ∧
  ∀ (p : Addr) (N : List Int) (H' : Hp), IsNb L x N → SqL K H' p (N.map V.int) → N.length ≤ 210 → Same H H' → Q (.ref p) H'
section
variable {Pr : Program} {w : World} {K : PySem.W.Frag} {mg : Str → Option Value} {base : Heap}
theorem scUp : FnScope ["steps", "found", "step", "many"] ["steps"] (defScope sRunUp) := ⟨rfl, rfl, rfl, by decide +kernel, rfl, by decide +kernel, by decide +kernel⟩
theorem upUp : ∀ y ∈ ([("one", .local)] : List (Str × NameKind)), y.2 = .free → (defScope sRunUp).names.lookup y.1 = some .cell ∨ (defScope sRunUp).names.lookup y.1 = some .free := by decide +kernel
theorem upOnly : ∀ y : Str, ([("one", .local)] : List (Str × NameKind)).lookup y = some .local → y = "one" := fun y h =>
  (show ∀ p ∈ ([("one", .local)] : List (Str × NameKind)), p.2 = .local → p.1 = "one" by decide +kernel) (y, .local) (PySem.mem_of_lookup h) rfl
theorem ok_runUp {f fN c P : Addr} {fd dN : FuncData} {TT : List (Addr × Str)} (F : Fun K "_law_run_up" "_law_run_up" sRunUp f fd) (T : Nat0 mg) (hc : ∀ (oc : Value) (od : Option Addr) (gd : FuncData) (osl : Array (Option Value)), K.lookup f = some ⟨oc, od, .func gd, osl⟩ → gd.code = .ref c) (TB : TabB base mg c P)
    (hm : (P, qUp) ∈ TT) (hu : ∀ p ∈ TT, p.1 = P → p.2 = qUp) (FN : Fun K "_law_run" "_law_run" sRun fN dN) (mN : mg "_law_run" = some (.ref fN)) (bN : Binds K dN ["found", "step", "many"] []) :
    GnOk Pr w K mg base 4 f fd ["steps"] (spUp K TT) := by
  have GN : FnOk Pr w K mg base CX0 1 fN dN ["found", "step", "many"] (spRun K) := ok_run FN
  refine Fun.okL (c := c) F scUp hc (fun as H Q E h => ?_) (fun A outer s H as Q E hr hgd h => ?_)
  · obtain ⟨l, ns, rfl, _⟩ := h
    rfl
  · obtain ⟨l, ns, rfl, hS, l250, hT, k⟩ := h
    have hr1 : Room 1 _ := hr.mono (by decide)
    refine ⟨_, pss_cons (ps_set (i := 1) scUp.nd rfl (.inl rfl) (pe_lst pa_nil))
      (pss_cons (ps_for PassesOwn.never rfl (pi_list (pe_sortedLam (T := TT) (x := "one") (k := 0) rfl T.sorted TB rfl hm hu hr ⟨rfl, rfl, rfl, rfl, by decide +kernel, upOnly, upUp⟩ (show ("one" : Str) ∉ (["steps", "found", "step", "many"] : List Str) by decide +kernel) rfl (fun _ _ _ _ _ _ => rfl)
          (fun A outer s H f c' hr' => pe_op op_sub pe_int (pv 4)) (pa_cons (pv 0) pa_nil))) (pg_name (i := 2) scUp.nd rfl (.inl rfl))
        (pss_one (ps_set (i := 1) scUp.nd rfl (.inl rfl) (pe_call GN hr1 rfl mN FN.kp bN .nil pass0 (pa_cons (pv 1) (pa_cons (pv 2) (pa_cons pe_int pa_nil)))))))
      (pss_one (ps_ret (pe_callTy call_tuple_of (by rfl) T.tuple (by decide +kernel) (pa_cons (pe_lc (own := [("step", 2), ("many", 3)]) (g := gTup K 2 (gCons (gName 2) (gCons (gName 3) gNil))) (tt := tTest (tOp (rI0 fun i j => .bl (decide (j < i))) (tVar 2) (tC (.int 0)))) rfl scUp.nd (pi_list (pv 1))
          (blkOk_by (N := ["steps", "found", "step", "many"]) (sc := defScope sRunUp) (by decide +kernel)) (fun _ _ _ _ _ => pg_tup rfl (pgs_cons (pg_name (i := 2) scUp.nd rfl (Or.inl rfl)) (pgs_cons (pg_name (i := 3) scUp.nd rfl (Or.inl rfl)) pgs_nil)))
          (fun _ _ _ _ _ => by exact pts_one (pt_cmpR op_gt (pv 2) pe_int (nomark _))) (fun _ _ _ _ _ => pe_tup (pa_cons (pv 2) (pa_cons (pv 3) pa_nil)))) pa_nil))))), ?_⟩
    refine ⟨by show 0 ≤ sizeLine; decide, fun fa hfa => ?_⟩
    have m1 := same_new (o := .lst []) (Same.refl H) hfa
    have f1 : upd H fa (.lst []) fa = some (.lst []) := upd_same
    generalize upd H fa (.lst []) = H1 at m1 f1 ⊢
    refine ⟨_, rfl, hT.ext m1, l, ns, fun i => 0 - i, rfl, m1.seq hS, fun H2 eN T2 => ⟨fun i hi Q' hq => ⟨_, rfl, _, _, rfl, rfl, hq⟩, fun ms p pm srt hp => ⟨p, rfl, ⟨_, SqL.of upd_same⟩, ?_⟩⟩⟩
    have lm : ms.length ≤ 250 := by rw [pm.length_eq]; exact l250
    have m3 := same_new (o := .lst (ms.map V.int)) (Same.refl H2) hp
    have f3 := m3 _ _ (eN _ _ f1 (fun _ z => nomatch z))
    have p3 : upd H2 p (.lst (ms.map V.int)) p = some (.lst (ms.map V.int)) := upd_same
    generalize upd H2 p (.lst (ms.map V.int)) = H3 at m3 f3 p3 ⊢
    refine for_list (K := K) (a := p) (xs := ms.map V.int) (fun i σ H' => ∃ (fx : Addr) (us : List V) (v2 v3 : Option V), σ = [some (.ref l), some (.ref fx), v2, v3] ∧ H' fx = some (.lst us) ∧ Paired (RunV K H') us (RM.up (ms.take i)) ∧ Same H3 H') ?_ ?_ ?_ ?_
    · exact ⟨fa, [], _, _, rfl, f3, by rw [List.take_zero]; exact .nil, Same.refl H3⟩
    · rintro i σ H' _ ⟨_, _, _, _, _, _, _, sm⟩
      exact SqL.of (sm _ _ p3)
    · rintro i z σ H' hz ⟨fx, us, v2, v3, rfl, e1, e2, sm⟩
      obtain ⟨s', hs, rfl⟩ := ints_of hz
      have ul : (RM.up (ms.take i)).length ≤ (ms.take i).length := by
        have := RM.up_len (ms.take i) []
        unfold RM.up
        rw [List.length_nil] at this
        omega
      have l2 : (ms.take i).length ≤ ms.length := by rw [List.length_take]; exact Nat.min_le_right _ _
      refine ⟨_, rfl, _, rfl, fx, s', 1, us, _, rfl, e1, e2, by omega, fun p' us' H9 e9 pr9 fr9 sm9 => ⟨p', us', _, _, rfl, e9, ?_, sm.trans sm9⟩⟩
      rw [RM.up_take hs]
      exact pr9
    rintro σ H9 ⟨fx, us, v2, v3, rfl, e1, e2, sm⟩
    rw [List.length_map, List.take_length] at e2
    have ul : (RM.up ms).length ≤ 250 := by
      have := RM.up_len ms []
      unfold RM.up
      rw [List.length_nil] at this
      omega
    refine ⟨_, rfl, fx, rfl, ⟨_, SqL.of e1⟩, fun D2 hD2 => ?_⟩
    have lu := paired_len e2
    generalize hF : RM.up ms = F at e2 ul lu
    refine lc_list (K := K) (a := fx) (xs := us) (fun i H' => ∃ ts : List Addr, H' D2 = some (.lst (ts.map V.ref)) ∧ Paired (fun t (r : Run) => H' t = some (.tup [.int r.1, .int r.2]) ∧ t ≠ D2) ts (posR (F.take i)) ∧ Same H9 H') ?_ ?_ ?_ ?_
    · exact ⟨[], upd_same, by rw [List.take_zero]; exact .nil, same_new (Same.refl H9) hD2⟩
    · rintro i H' _ ⟨_, _, _, sm⟩
      exact SqL.of (sm _ _ e1)
    · rintro i x H' hx ⟨ts, p1, p2, p4⟩
      obtain ⟨r, hr2, q, rfl, hq⟩ := paired_at e2 hx
      have et : F.take (i + 1) = F.take i ++ [r] := by rw [List.take_succ, hr2]; rfl
      refine ⟨q, _, rfl, sqt_more p4 hq, rfl, _, _, rfl, _, _, rfl, rfl, ?_⟩
      refine ⟨rfl, _, rfl, _, _, rfl, rfl, _, rfl, ?_⟩
      refine ite2 (fun c => ?_) (fun c => ?_)
      · have c : 0 < r.1 := of_decide_eq_true c
        refine ⟨_, rfl, _, rfl, by show 2 ≤ sizeLine; decide, fun t ht => ?_⟩
        have nt : t ≠ D2 := fun z => by rw [z, p1] at ht; cases ht
        have lt := paired_len p2
        refine ⟨ts.map V.ref, s3u ht p1, ?_, ts ++ [t], by rw [upd_same, List.map_append]; rfl, ?_, same_put (same_new p4 ht) hD2⟩
        · have := List.length_filter_le (fun q : Run => decide (0 < q.1)) (F.take i)
          have l2 : (F.take i).length ≤ F.length := by rw [List.length_take]; exact Nat.min_le_right _ _
          unfold posR at lt
          rw [List.length_map]
          exact small1000 (by omega)
        · unfold posR at p2 ⊢
          rw [et, List.filter_append, List.filter_cons_of_pos (by exact decide_eq_true c)]
          refine paired_snoc ⟨by rw [upd_ne nt, upd_same], nt⟩ (paired_imp (fun t0 r h => ⟨?_, h.2⟩) p2)
          rw [upd_ne h.2]
          exact s3u ht h.1
      · have c : ¬ 0 < r.1 := fun z => c (decide_eq_true z)
        refine ⟨ts, p1, ?_, p4⟩
        unfold posR at p2 ⊢
        rw [et, List.filter_append, List.filter_cons_of_neg (by rw [decide_eq_true_eq]; exact c)]
        simpa using p2
    rintro H10 ⟨ts, p1, p2, p4⟩
    rw [lu, List.take_length] at p2
    refine ⟨D2, _, rfl, .inl ⟨SqL.of p1, fun t0 ht0 => ?_⟩⟩
    have m10 := same_new (o := .tup (ts.map V.ref)) ((m3.trans sm).trans p4) ht0
    exact k t0 ms _ pm srt ((ExtN.of m1).trans (eN.trans (ExtN.of m10))) (T2.ext m10) (by rw [hF]; exact ⟨t0, ts.map V.ref, rfl, SqT.of upd_same, paired_ref (S := fun t (r : Run) => H10 t = some (.tup [.int r.1, .int r.2]) ∧ t ≠ D2) (fun t r h => ⟨t, rfl, SqT.of (s3u ht0 h.1)⟩) p2⟩)
end
end Y

/-! a row behind a cap: the lesser of the reach and so much an hour -/
namespace RM
theorem vd_snoc : ∀ {F : List Run} {m s t : Int}, Vd m F → 1 ≤ s → s < lst m F → 1 ≤ t → Vd m (F ++ [(s, t)])
  | [], _, _, _, _, h0, h1, h2 => ⟨h0, h1, h2, trivial⟩
  | q :: F, m, s, t, v, h0, h1, h2 => ⟨v.1, v.2.1, v.2.2.1, vd_snoc v.2.2.2 h0 h1 h2⟩
theorem vd_more : ∀ {D : List Run} {m s t : Int} {q : Run}, Vd m (D ++ [q]) → q.1 = s → 0 ≤ t → Vd m (D ++ [(s, t + q.2)])
  | [], _, s, t, q, v, e, h => ⟨by rw [← e]; exact v.1, by rw [← e]; exact v.2.1, by have := v.2.2.1; show 1 ≤ t + q.2; omega, trivial⟩
  | p :: D, m, s, t, q, v, e, h => ⟨v.1, v.2.1, v.2.2.1, vd_more v.2.2.2 e h⟩
theorem vd_n0 {r : List Run} {m : Int} (v : Vd m r) : ∀ q ∈ r, 0 ≤ q.2 := fun q hq => by
  have := vd_one2 v q hq
  omega
theorem put_len (D : List Run) (s t : Int) : (put D s t).length ≤ D.length + 1 := by
  unfold put
  split
  · omega
  · split
    · split
      · rw [List.length_append, List.length_dropLast]
        show D.length - 1 + 1 ≤ _
        omega
      · rw [List.length_append]
        exact Nat.le_refl _
    · rw [List.length_append]
      exact Nat.le_refl _
structure PutF (m : Int) (D : List Run) (s t : Int) (D' : List Run) : Prop where
  vd : Vd m D'
  rc : ∀ h, 0 ≤ h → rch D' h = rch D h + s * min t (h - min (hoursN D) h)
  hr : hoursN D' = hoursN D + (if s = 0 then 0 else t)
  ls : ∀ u, u ≤ s → u ≤ lst m D'
theorem put_vd {D : List Run} {m s t : Int} (v : Vd m D) (s0 : 0 ≤ s) (sm : s < m) (sl : s ≤ lst m D) (t0 : 0 ≤ t) : PutF m D s t (put D s t) := by
  have n0 := hoursN_nn (vd_n0 v)
  by_cases e : s = 0 ∨ t = 0
  · have ep : put D s t = D := if_pos e
    rw [ep]
    refine ⟨v, fun h h0 => ?_, ?_, fun u hu => by omega⟩
    · rcases e with e | e
      · rw [e, Int.zero_mul, Int.add_zero]
      · rw [e, show min (0 : Int) (h - min (hoursN D) h) = 0 by omega, Int.mul_zero, Int.add_zero]
    · rcases e with e | e
      · rw [if_pos e, Int.add_zero]
      · split <;> omega
  · have s1 : 1 ≤ s := by omega
    have t1 : 1 ≤ t := by omega
    have es : ¬ s = 0 := by omega
    rcases List.eq_nil_or_concat D with ed | ⟨A, q, ed⟩
    · subst ed
      have ep : put [] s t = [(s, t)] := by
        unfold put
        rw [if_neg e]
        rfl
      rw [ep]
      refine ⟨⟨s1, sm, t1, trivial⟩, fun h h0 => ?_, ?_, fun u hu => hu⟩
      · rw [rch_run, hoursN_nil, show h - min 0 h = h by omega]
        show _ = 0 + _
        omega
      · rw [hoursN_cons, hoursN_nil, if_neg es]
        show t + 0 = 0 + t
        omega
    · rw [List.concat_eq_append] at ed
      subst ed
      rw [lst_snoc] at sl
      have vA : ∀ p ∈ A, 0 ≤ p.2 := fun p hp => vd_n0 v p (List.mem_append_left _ hp)
      have q0 : 0 ≤ q.2 := vd_n0 v q (List.mem_append_right _ (List.mem_singleton.mpr rfl))
      have nA := hoursN_nn vA
      have hq : hoursN (A ++ [q]) = hoursN A + q.2 := by rw [hoursN_app, hoursN_cons, hoursN_nil]; omega
      by_cases c : q.1 = s
      · have ep : put (A ++ [q]) s t = A ++ [(s, t + q.2)] := by
          unfold put
          rw [if_neg e, show (A ++ [q]).getLast? = some q by simp]
          show (if q.1 = s then _ else _) = _
          rw [if_pos c, List.dropLast_concat]
        rw [ep]
        refine ⟨vd_more v c t0, fun h h0 => ?_, ?_, fun u hu => by rw [lst_snoc]; exact hu⟩
        · rw [rch_app _ vA h0, rch_app _ vA h0, rch_run, hq]
          have : rch [q] (h - min (hoursN A) h) = s * min q.2 (h - min (hoursN A) h) := by rw [← c]; exact rch_run q.1 q.2 _
          rw [this, Int.add_assoc, ← Int.mul_add]
          congr 2
          omega
        · rw [hoursN_app, hoursN_cons, hoursN_nil, hq, if_neg es]
          show hoursN A + (t + q.2 + 0) = _
          omega
      · have ep : put (A ++ [q]) s t = (A ++ [q]) ++ [(s, t)] := by
          unfold put
          rw [if_neg e, show (A ++ [q]).getLast? = some q by simp]
          show (if q.1 = s then _ else _) = _
          rw [if_neg c]
        rw [ep]
        refine ⟨vd_snoc v s1 (by rw [lst_snoc]; omega) t1, fun h h0 => ?_, ?_, fun u hu => by rw [lst_snoc]; exact hu⟩
        · rw [rch_app _ (vd_n0 v) h0, rch_run]
        · rw [hoursN_app, hoursN_cons, hoursN_nil, if_neg es]
          show _ + (t + 0) = _
          omega
/-- as far as the cap fills all, or behind that -/
structure CpI (M cap m : Int) (A : List Run) (lost : Int) (D : List Run) : Prop where
  vd : Vd M D
  hd : 1 ≤ lst m A → hoursN D = hoursN A
  ph : (lost = rch A (hoursN A) - cap * hoursN A ∧ 0 ≤ lost ∧ (∀ h, 0 ≤ h → h ≤ hoursN A → cap * h ≤ rch A h) ∧ hoursN D = hoursN A ∧ (∀ h, 0 ≤ h → rch D h = cap * min (hoursN A) h) ∧ cap ≤ lst M D) ∨
    (lost = 0 ∧ (∀ h, 0 ≤ h → rch D h = min (rch A h) (cap * h)) ∧ rch A (hoursN A) ≤ cap * hoursN A ∧ lst m A < cap ∧ lst m A ≤ lst M D)
theorem cp_start (M cap m : Int) (h : cap ≤ M) : CpI M cap m [] 0 [] := by
  refine ⟨trivial, fun _ => rfl, .inl ⟨by rw [hoursN_nil]; show 0 = 0 - cap * 0; omega, Int.le_refl _, fun k k0 k1 => ?_, rfl, fun k k0 => ?_, h⟩⟩
  · rw [hoursN_nil] at k1
    have : k = 0 := by omega
    rw [this, Int.mul_zero]
    exact Int.le_refl _
  · rw [hoursN_nil, show min 0 k = 0 by omega, Int.mul_zero]
    rfl
theorem rch_A {A : List Run} {q : Run} {h : Int} (nA : ∀ p ∈ A, 0 ≤ p.2) (h0 : 0 ≤ h) : rch (A ++ [q]) h = rch A h + q.1 * min q.2 (h - min (hoursN A) h) := by
  rw [rch_app _ nA h0]
  congr 1
  exact rch_run q.1 q.2 _
theorem hrs_A (A : List Run) (q : Run) : hoursN (A ++ [q]) = hoursN A + q.2 := by rw [hoursN_app, hoursN_cons, hoursN_nil]; omega
/-- all hours of the run are filled -/
theorem cp_full {M cap m lost : Int} {A D : List Run} {q : Run} (hc : 1 ≤ cap) (cM : cap < M) (nA : ∀ p ∈ A, 0 ≤ p.2) (ql : q.1 < lst m A) (q0 : 0 ≤ q.1) (qt : 1 ≤ q.2) (I : CpI M cap m A lost D) (hf : q.2 * (cap - q.1) ≤ lost) : CpI M cap m (A ++ [q]) (lost + q.2 * (q.1 - cap)) (put D cap q.2) := by
  have a0 := hoursN_nn nA
  rcases I.ph with ⟨e1, e2, e3, e4, e5, e6⟩ | ⟨e1, e2, e3, e4, e5⟩
  · have P := put_vd (s := cap) (t := q.2) I.vd (by omega) cM e6 (by omega)
    have ra : rch (A ++ [q]) (hoursN A + q.2) = rch A (hoursN A) + q.1 * q.2 := by
      rw [rch_A nA (by omega), show min q.2 (hoursN A + q.2 - min (hoursN A) (hoursN A + q.2)) = q.2 by omega, rch_const nA (by omega)]
    have x1 : q.2 * (cap - q.1) = cap * q.2 - q.1 * q.2 := by rw [Int.mul_sub, Int.mul_comm q.2 cap, Int.mul_comm q.2 q.1]
    have x2 : q.2 * (q.1 - cap) = q.1 * q.2 - cap * q.2 := by rw [Int.mul_sub, Int.mul_comm q.2 cap, Int.mul_comm q.2 q.1]
    have hrD : hoursN (put D cap q.2) = hoursN A + q.2 := by rw [P.hr, e4, if_neg (by omega)]
    refine ⟨P.vd, fun _ => by rw [hrD, hrs_A], .inl ⟨?_, by omega, fun h h0 h1 => ?_, by rw [hrD, hrs_A], fun h h0 => ?_, P.ls cap (Int.le_refl _)⟩⟩
    · rw [hrs_A, ra, Int.mul_add, e1]
      omega
    · rw [hrs_A] at h1
      rw [rch_A nA h0]
      by_cases c : h ≤ hoursN A
      · have := e3 h h0 c
        rw [show min q.2 (h - min (hoursN A) h) = 0 by omega, Int.mul_zero]
        omega
      · have rc := rch_const nA (h := h) (by omega)
        rw [show min q.2 (h - min (hoursN A) h) = h - hoursN A by omega, rc]
        have y : cap * h = cap * hoursN A + cap * (h - hoursN A) := by rw [← Int.mul_add]; congr 1; omega
        have z : (cap - q.1) * (h - hoursN A) = cap * (h - hoursN A) - q.1 * (h - hoursN A) := Int.sub_mul _ _ _
        have zz : (cap - q.1) * (h - hoursN A) ≤ lost := by
          by_cases d : cap ≤ q.1
          · have := Int.mul_nonneg (show 0 ≤ q.1 - cap by omega) (show 0 ≤ h - hoursN A by omega)
            have w : (q.1 - cap) * (h - hoursN A) = - ((cap - q.1) * (h - hoursN A)) := by rw [← Int.neg_mul]; congr 1; omega
            omega
          · have := Int.mul_le_mul_of_nonneg_left (show h - hoursN A ≤ q.2 by omega) (show 0 ≤ cap - q.1 by omega)
            rw [Int.mul_comm q.2 (cap - q.1)] at hf
            omega
        omega
    · rw [P.rc h h0, e5 h h0, e4, hrs_A, ← Int.mul_add]
      congr 1
      omega
  · exfalso
    have d : 0 < q.2 * (cap - q.1) := Int.mul_pos (by omega) (by omega)
    omega
/-- not all of them -/
theorem cp_part {M cap m lost f : Int} {A D : List Run} {q : Run} (hc : 1 ≤ cap) (cM : cap < M) (nA : ∀ p ∈ A, 0 ≤ p.2) (ql : q.1 < lst m A) (q0 : 0 ≤ q.1) (qc : q.1 < cap) (qt : 1 ≤ q.2) (I : CpI M cap m A lost D) (f0 : 0 ≤ f) (f1 : f < q.2) (hf : f * (cap - q.1) ≤ lost) (hf2 : lost < (f + 1) * (cap - q.1)) : CpI M cap m (A ++ [q]) 0 (put (put (put D cap f) (q.1 + (lost + f * (q.1 - cap))) 1) q.1 (q.2 - f - 1)) := by
  have a0 := hoursN_nn nA
  have x1 : f * (cap - q.1) = cap * f - q.1 * f := by rw [Int.mul_sub, Int.mul_comm f cap, Int.mul_comm f q.1]
  have x2 : f * (q.1 - cap) = q.1 * f - cap * f := by rw [Int.mul_sub, Int.mul_comm f cap, Int.mul_comm f q.1]
  have x3 : (f + 1) * (cap - q.1) = cap * f - q.1 * f + (cap - q.1) := by rw [Int.add_mul, Int.one_mul, x1]
  have hD := I.hd (by omega)
  rcases I.ph with ⟨e1, e2, e3, e4, e5, e6⟩ | ⟨e1, e2, e3, e4, e5⟩
  · have P1 := put_vd (s := cap) (t := f) I.vd (by omega) cM e6 f0
    generalize put D cap f = D1 at P1 ⊢
    generalize hl1 : lost + f * (q.1 - cap) = l1
    have l0 : 0 ≤ l1 ∧ l1 < cap - q.1 := by omega
    have P2 := put_vd (s := q.1 + l1) (t := 1) P1.vd (by omega) (by omega) (P1.ls _ (by omega)) (by omega)
    generalize put D1 (q.1 + l1) 1 = D2 at P2 ⊢
    have P3 := put_vd (s := q.1) (t := q.2 - f - 1) P2.vd q0 (by omega) (P2.ls _ (by omega)) (by omega)
    generalize put D2 q.1 (q.2 - f - 1) = D3 at P3 ⊢
    have h1 : hoursN D1 = hoursN A + f := by rw [P1.hr, e4, if_neg (by omega)]
    have h2 : q.1 ≠ 0 → hoursN D2 = hoursN A + f + 1 := fun z => by rw [P2.hr, h1, if_neg (by omega)]
    have ra : rch (A ++ [q]) (hoursN A + q.2) = rch A (hoursN A) + q.1 * q.2 := by
      rw [rch_A nA (by omega), show min q.2 (hoursN A + q.2 - min (hoursN A) (hoursN A + q.2)) = q.2 by omega, rch_const nA (by omega)]
    have up : ∀ j, f + 1 ≤ j → lost ≤ j * (cap - q.1) := fun j hj => by
      have := Int.mul_le_mul_of_nonneg_right hj (show 0 ≤ cap - q.1 by omega)
      omega
    refine ⟨P3.vd, fun z => ?_, .inr ⟨rfl, fun h h0 => ?_, ?_, by rw [lst_snoc]; exact qc, by rw [lst_snoc]; exact P3.ls _ (Int.le_refl _)⟩⟩
    · rw [lst_snoc] at z
      rw [P3.hr, h2 (by omega), if_neg (by omega), hrs_A]
      omega
    · have last : q.1 * min (q.2 - f - 1) (h - min (hoursN D2) h) = q.1 * min (q.2 - f - 1) (h - min (hoursN A + f + 1) h) := by
        by_cases z : q.1 = 0
        · rw [z, Int.zero_mul, Int.zero_mul]
        · rw [h2 z]
      rw [P3.rc h h0, P2.rc h h0, P1.rc h h0, e5 h h0, h1, last, rch_A nA h0, e4]
      by_cases c : h ≤ hoursN A
      · have := e3 h h0 c
        rw [show min (hoursN A) h = h by omega, show min f (h - h) = 0 by omega, show min 1 (h - min (hoursN A + f) h) = 0 by omega, show min (q.2 - f - 1) (h - min (hoursN A + f + 1) h) = 0 by omega, show min q.2 (h - h) = 0 by omega, Int.mul_zero, Int.mul_zero, Int.mul_zero]
        omega
      · have rc := rch_const nA (h := h) (by omega)
        have y : cap * h = cap * hoursN A + cap * (h - hoursN A) := by rw [← Int.mul_add]; congr 1; omega
        by_cases d : h ≤ hoursN A + f
        · rw [show min (hoursN A) h = hoursN A by omega, show min f (h - hoursN A) = h - hoursN A by omega, show min 1 (h - min (hoursN A + f) h) = 0 by omega, show min (q.2 - f - 1) (h - min (hoursN A + f + 1) h) = 0 by omega, show min q.2 (h - hoursN A) = h - hoursN A by omega, Int.mul_zero, Int.mul_zero, rc]
          have z : (cap - q.1) * (h - hoursN A) = cap * (h - hoursN A) - q.1 * (h - hoursN A) := Int.sub_mul _ _ _
          have zz : (cap - q.1) * (h - hoursN A) ≤ lost := by
            have := Int.mul_le_mul_of_nonneg_left (show h - hoursN A ≤ f by omega) (show 0 ≤ cap - q.1 by omega)
            rw [Int.mul_comm f (cap - q.1)] at hf
            omega
          omega
        · rw [show min (hoursN A) h = hoursN A by omega, show min f (h - hoursN A) = f by omega, show min 1 (h - min (hoursN A + f) h) = 1 by omega, rc, Int.mul_one]
          generalize hj : min q.2 (h - hoursN A) = j
          have ej : min (q.2 - f - 1) (h - min (hoursN A + f + 1) h) = j - f - 1 := by omega
          have z1 : q.1 * (j - f - 1) = q.1 * j - q.1 * f - q.1 := by rw [Int.mul_sub, Int.mul_sub, Int.mul_one]
          have z2 := up j (by omega)
          rw [Int.mul_comm j, Int.sub_mul] at z2
          have z3 := Int.mul_le_mul_of_nonneg_left (show j ≤ h - hoursN A by omega) (show 0 ≤ cap by omega)
          rw [ej, z1]
          omega
    · rw [hrs_A, ra, Int.mul_add]
      have z2 := up q.2 (by omega)
      rw [Int.mul_comm q.2, Int.sub_mul] at z2
      omega
  · have fz : f = 0 := by
      by_cases z : 1 ≤ f
      · have : 0 < f * (cap - q.1) := Int.mul_pos (by omega) (by omega)
        omega
      · omega
    subst fz
    rw [show put D cap 0 = D from if_pos (.inr rfl), show q.1 + (lost + 0 * (q.1 - cap)) = q.1 by omega, show q.2 - 0 - 1 = q.2 - 1 by omega]
    have P2 := put_vd (s := q.1) (t := 1) I.vd q0 (by omega) (by omega) (by omega)
    generalize put D q.1 1 = D2 at P2 ⊢
    have P3 := put_vd (s := q.1) (t := q.2 - 1) P2.vd q0 (by omega) (P2.ls _ (Int.le_refl _)) (by omega)
    generalize put D2 q.1 (q.2 - 1) = D3 at P3 ⊢
    have h2 : q.1 ≠ 0 → hoursN D2 = hoursN A + 1 := fun z => by rw [P2.hr, hD, if_neg z]
    have ra : rch (A ++ [q]) (hoursN A + q.2) = rch A (hoursN A) + q.1 * q.2 := by
      rw [rch_A nA (by omega), show min q.2 (hoursN A + q.2 - min (hoursN A) (hoursN A + q.2)) = q.2 by omega, rch_const nA (by omega)]
    refine ⟨P3.vd, fun z => ?_, .inr ⟨rfl, fun h h0 => ?_, ?_, by rw [lst_snoc]; exact qc, by rw [lst_snoc]; exact P3.ls _ (Int.le_refl _)⟩⟩
    · rw [lst_snoc] at z
      rw [P3.hr, h2 (by omega), if_neg (by omega), hrs_A]
      omega
    · have last : q.1 * min (q.2 - 1) (h - min (hoursN D2) h) = q.1 * min (q.2 - 1) (h - min (hoursN A + 1) h) := by
        by_cases z : q.1 = 0
        · rw [z, Int.zero_mul, Int.zero_mul]
        · rw [h2 z]
      rw [P3.rc h h0, P2.rc h h0, e2 h h0, hD, last, rch_A nA h0]
      by_cases c : h ≤ hoursN A
      · rw [show min 1 (h - min (hoursN A) h) = 0 by omega, show min (q.2 - 1) (h - min (hoursN A + 1) h) = 0 by omega, show min q.2 (h - min (hoursN A) h) = 0 by omega, Int.mul_zero]
        omega
      · have rc := rch_const nA (h := h) (by omega)
        have y : cap * h = cap * hoursN A + cap * (h - hoursN A) := by rw [← Int.mul_add]; congr 1; omega
        rw [show min 1 (h - min (hoursN A) h) = 1 by omega, show min (hoursN A) h = hoursN A by omega, rc, Int.mul_one]
        generalize hj : min q.2 (h - hoursN A) = j
        have ej : min (q.2 - 1) (h - min (hoursN A + 1) h) = j - 1 := by omega
        have z1 : q.1 * (j - 1) = q.1 * j - q.1 := by rw [Int.mul_sub, Int.mul_one]
        have z2 := Int.mul_le_mul_of_nonneg_right (show q.1 ≤ cap by omega) (show 0 ≤ j by omega)
        have z3 := Int.mul_le_mul_of_nonneg_left (show j ≤ h - hoursN A by omega) (show 0 ≤ cap by omega)
        have z4 := Int.mul_nonneg (show 0 ≤ cap by omega) (show 0 ≤ h - hoursN A by omega)
        rw [ej, z1]
        omega
    · rw [hrs_A, ra, Int.mul_add]
      have z2 := Int.mul_le_mul_of_nonneg_right (show q.1 ≤ cap by omega) (show 0 ≤ q.2 by omega)
      omega
end RM
namespace RM
theorem vz_end : ∀ {r : List Run} {m t : Int}, Vd m r → 1 ≤ m → 1 ≤ t → Vz m (r ++ [(0, t)])
  | [], m, t, _, hm, ht => ⟨Int.le_refl _, by show (0 : Int) < m; omega, ht, trivial⟩
  | q :: r, m, t, v, _, ht => ⟨by have := v.1; omega, v.2.1, v.2.2.1, vz_end v.2.2.2 v.1 ht⟩
theorem vz_at : ∀ {r : List Run} {m : Int} {i : Nat} {q : Run}, Vz m r → r[i]? = some q → 0 ≤ q.1 ∧ q.1 < lst m (r.take i) ∧ 1 ≤ q.2 ∧ q.1 < m
  | [], _, _, _, _, h => by cases h
  | p :: r, m, 0, q, v, h => by
    cases h
    exact ⟨v.1, v.2.1, v.2.2.1, v.2.1⟩
  | p :: r, m, i + 1, q, v, h => by
    obtain ⟨a, b, c, d⟩ := vz_at (i := i) v.2.2.2 h
    exact ⟨a, b, c, by have := v.2.1; omega⟩
theorem whole_nn : ∀ {r : List Run} {m : Int}, Vd m r → 0 ≤ whole r
  | [], _, _ => Int.le_refl _
  | q :: r, m, v => by
    have := whole_nn v.2.2.2
    have k1 := v.1
    have k2 := v.2.2.1
    have e : whole (q :: r) = q.1 * q.2 + whole r := by unfold whole; rw [List.map_cons, List.sum_cons]
    have : 0 ≤ q.1 * q.2 := Int.mul_nonneg (by omega) (by omega)
    omega
theorem rch_whole : ∀ {r : List Run} {m : Int}, Vd m r → rch r (hoursN r) = whole r
  | [], _, _ => rfl
  | q :: r, m, v => by
    have nn := hoursN_nn (vd_n0 v.2.2.2)
    have k2 := v.2.2.1
    have e : whole (q :: r) = q.1 * q.2 + whole r := by unfold whole; rw [List.map_cons, List.sum_cons]
    rw [hoursN_cons, rch_hi (by omega), show q.2 + hoursN r - q.2 = hoursN r by omega, rch_whole v.2.2.2, e]
theorem rch_end {r : List Run} {t h : Int} (n : ∀ q ∈ r, 0 ≤ q.2) (h0 : 0 ≤ h) : rch (r ++ [(0, t)]) h = rch r h := by
  rw [rch_A n h0]
  show _ + 0 * _ = _
  rw [Int.zero_mul, Int.add_zero]
theorem cp_end {M cap m lost : Int} {r D : List Run} (hc : 1 ≤ cap) (v : Vd m r) (I : CpI M cap m (r ++ [(0, whole r + 1)]) lost D) : ∀ h, 0 ≤ h → rch D h = min (rch r h) (cap * h) := by
  have n := vd_n0 v
  have n0 := hoursN_nn n
  have w0 := whole_nn v
  rcases I.ph with ⟨e1, e2, e3, e4, e5, e6⟩ | ⟨e1, e2, e3, e4, e5⟩
  · exfalso
    have a : hoursN (r ++ [(0, whole r + 1)]) = hoursN r + (whole r + 1) := hrs_A r (0, whole r + 1)
    rw [a, rch_end n (by omega), rch_const n (by omega), rch_whole v] at e1
    have := Int.mul_le_mul_of_nonneg_right hc (show 0 ≤ hoursN r + (whole r + 1) by omega)
    omega
  · intro h h0
    rw [e2 h h0, rch_end n h0]
theorem rch_nn : ∀ {r : List Run} {m h : Int}, Vd m r → 0 ≤ h → 0 ≤ rch r h
  | [], _, _, _, _ => Int.le_refl _
  | q :: r, m, h, v, h0 => by
    have k1 := v.1
    have k2 := v.2.2.1
    have := rch_nn (h := h - min q.2 h) v.2.2.2 (by omega)
    have z : 0 ≤ q.1 * min q.2 h := Int.mul_nonneg (by omega) (by omega)
    show 0 ≤ q.1 * min q.2 h + rch r (h - min q.2 h)
    omega
end RM

/-! the marks of a row behind a cap -/
namespace RM
theorem find_run : ∀ {r : List Run} {k : Int}, 0 ≤ k → k < hoursN r → ∃ j q, r[j]? = some q ∧ hoursN (r.take j) ≤ k ∧ k < hoursN (r.take j) + q.2
  | [], k, h0, h1 => by rw [hoursN_nil] at h1; omega
  | q :: r, k, h0, h1 => by
    by_cases c : k < q.2
    · exact ⟨0, q, rfl, h0, by show k < 0 + q.2; omega⟩
    · rw [hoursN_cons] at h1
      obtain ⟨j, p, e, a, b⟩ := find_run (r := r) (k := k - q.2) (by omega) (by omega)
      refine ⟨j + 1, p, e, ?_, ?_⟩
      · rw [List.take_succ_cons, hoursN_cons]; omega
      · rw [List.take_succ_cons, hoursN_cons]; omega
theorem rch_in : ∀ {r : List Run} {m k : Int} {j : Nat} {q : Run}, Vd m r → r[j]? = some q → hoursN (r.take j) ≤ k → k ≤ hoursN (r.take j) + q.2 → rch r k = rch r (hoursN (r.take j)) + q.1 * (k - hoursN (r.take j))
  | [], _, _, _, _, _, h, _, _ => by cases h
  | p :: r, m, k, 0, q, v, h, h1, h2 => by
    cases h
    have e : hoursN ((p :: r).take 0) = 0 := rfl
    rw [e] at h1 h2 ⊢
    rw [rch_lo v h1 (by omega), rch_zero v, Int.sub_zero, Int.zero_add]
  | p :: r, m, k, j + 1, q, v, h, h1, h2 => by
    have nn := hoursN_nn (r := r.take j) fun z hz => vd_n0 v.2.2.2 z (List.mem_of_mem_take hz)
    rw [List.take_succ_cons, hoursN_cons] at h1 h2 ⊢
    have ih := rch_in (k := k - p.2) v.2.2.2 h (by omega) (by omega)
    rw [rch_hi (show p.2 ≤ k by omega), rch_hi (show p.2 ≤ p.2 + hoursN (r.take j) by omega), ih, show p.2 + hoursN (r.take j) - p.2 = hoursN (r.take j) by omega, show k - p.2 - hoursN (r.take j) = k - (p.2 + hoursN (r.take j)) by omega]
    omega
theorem ends_at : ∀ {r : List Run} {a s : Int}, s ∈ endsI a r → ∃ j q, r[j]? = some q ∧ s = a + hoursN (r.take (j + 1))
  | [], _, _, h => by cases h
  | q :: r, a, s, h => by
    rcases List.mem_cons.mp h with rfl | h
    · refine ⟨0, q, rfl, ?_⟩
      show a + q.2 = a + hoursN [q]
      rw [hoursN_cons, hoursN_nil]
      omega
    · obtain ⟨j, p, e, f⟩ := ends_at h
      refine ⟨j + 1, p, e, ?_⟩
      rw [List.take_succ_cons, hoursN_cons]
      omega
def gCp (cap : Int) (r : List Run) (h : Int) : Int := min (rch r h) (cap * h)
/-- once below the cap's line, always -/
theorem below {r : List Run} {m cap : Int} (v : Vd m r) : ∀ n : Nat, rch r (n : Int) < cap * (n : Int) → rch r ((n : Int) + 1) < cap * ((n : Int) + 1) := fun n h => by
  have key : ∀ n : Nat, cap ≤ rch r ((n : Int) + 1) - rch r (n : Int) → cap * (n : Int) ≤ rch r (n : Int) := fun n => by
    induction n with
    | zero =>
      intro _
      rw [show ((0 : Nat) : Int) = 0 from rfl, Int.mul_zero, rch_zero v]
      exact Int.le_refl _
    | succ n ih =>
      intro hn
      have c := rch_conc (h := (n : Int)) v (by omega)
      rw [show ((n + 1 : Nat) : Int) = (n : Int) + 1 by omega] at hn ⊢
      rw [show (n : Int) + 1 + 1 = (n : Int) + 2 by omega] at hn
      have := ih (by omega)
      rw [Int.mul_add, Int.mul_one]
      omega
  by_cases c : cap ≤ rch r ((n : Int) + 1) - rch r (n : Int)
  · have := key n c
    omega
  · rw [Int.mul_add, Int.mul_one]
    omega
theorem capped_is {r D : List Run} {m m' cap : Int} {M : List Int} (v : Vd m r) (c1 : 1 ≤ cap) (vD : Vd m' D) (hm' : 1 ≤ m') (hD : ∀ h, 0 ≤ h → rch D h = min (rch r h) (cap * h)) (p : M.Pairwise (· < ·)) (n0 : ∀ k ∈ M, 0 ≤ k) (z : 0 ∈ M)
    (ends : ∀ s ∈ endsI 0 r, s ∈ M) (bend : ∀ k, 0 ≤ k → cap * k ≤ rch r k → rch r (k + 1) < cap * (k + 1) → k ∈ M ∧ k + 1 ∈ M) : (rof (gCp cap r) [] M).filter (fun q => decide (0 < q.1)) = D := by
  have nn := vd_n0 v
  have hM : ∃ T, M = 0 :: T := by
    cases M with
    | nil => cases z
    | cons a T =>
      have a0 := n0 a List.mem_cons_self
      rcases List.mem_cons.mp z with e | e
      · exact ⟨T, by rw [← e]⟩
      · have := (List.pairwise_cons.mp p).1 0 e
        omega
  refine rof_is vD hm' (fun h h0 => (hD h h0).symm) hM ?_
  obtain ⟨T, e⟩ := hM
  have dn : ∀ h, 0 ≤ h → rch r h < cap * h → rch r (h + 1) < cap * (h + 1) := fun h h0 hb => by
    have := below (cap := cap) v h.toNat (by rw [show ((h.toNat : Nat) : Int) = h by omega]; exact hb)
    rw [show ((h.toNat : Nat) : Int) = h by omega] at this
    exact this
  have lin : ∀ h, 0 ≤ h → h + 1 ∉ M → gCp cap r (h + 2) - gCp cap r (h + 1) = gCp cap r (h + 1) - gCp cap r h := fun h h0 hn => by
    have f1 := rch_flat (h := h) (a := 0) v h0 (fun z => hn (ends _ (by rw [Int.zero_add] at z; exact z)))
    have m1 : cap * (h + 1) = cap * h + cap := by rw [Int.mul_add, Int.mul_one]
    have m2 : cap * (h + 2) = cap * h + cap * 2 := Int.mul_add _ _ _
    unfold gCp
    by_cases a : cap * h ≤ rch r h
    · by_cases b : cap * (h + 1) ≤ rch r (h + 1)
      · by_cases c : cap * (h + 2) ≤ rch r (h + 2)
        · omega
        · exact absurd (bend (h + 1) (by omega) b (by rw [show h + 1 + 1 = h + 2 by omega]; omega)).1 hn
      · exact absurd (bend h h0 a (by omega)).2 hn
    · have b := dn h h0 (by omega)
      have c := dn (h + 1) (by omega) b
      rw [show h + 1 + 1 = h + 2 by omega] at c
      omega
  have tail : ∀ h, (∀ k ∈ M, k ≤ h) → gCp cap r (h + 2) = gCp cap r (h + 1) := fun h hk => by
    have h0 := hk 0 z
    have hh : hoursN r ≤ h := by
      rcases List.eq_nil_or_concat r with e | ⟨A, q, e⟩
      · rw [e, hoursN_nil]
        exact h0
      · have last : ∀ (A : List Run) (q : Run) (a : Int), a + hoursN (A ++ [q]) ∈ endsI a (A ++ [q]) := fun A q => by
          induction A with
          | nil => intro a; show a + hoursN [q] ∈ [a + q.2]; rw [hoursN_cons, hoursN_nil, Int.add_zero]; exact List.mem_singleton.mpr rfl
          | cons p A ih =>
            intro a
            show a + hoursN (p :: (A ++ [q])) ∈ (a + p.2) :: endsI (a + p.2) (A ++ [q])
            rw [hoursN_cons, ← Int.add_assoc]
            exact List.mem_cons_of_mem _ (ih _)
        have l := last A q 0
        rw [List.concat_eq_append] at e
        rw [← e, Int.zero_add] at l
        exact hk _ (ends _ l)
    have g1 := rch_const nn (show hoursN r ≤ h + 1 by omega)
    have g2 := rch_const nn (show hoursN r ≤ h + 2 by omega)
    have w := rch_nn v (hoursN_nn nn)
    have b : rch r (h + 1) < cap * (h + 1) := by
      by_cases c : rch r (h + 1) < cap * (h + 1)
      · exact c
      · exfalso
        have d0 : rch r (hoursN r) / cap * cap ≤ rch r (hoursN r) := Int.ediv_mul_le _ (by omega)
        have d1 : rch r (hoursN r) < (rch r (hoursN r) / cap + 1) * cap := Int.lt_ediv_add_one_mul_self _ (by omega)
        have d2 : h + 1 ≤ rch r (hoursN r) / cap := Int.le_ediv_of_mul_le (by omega) (by rw [Int.mul_comm]; omega)
        generalize rch r (hoursN r) / cap = k at d0 d1 d2
        have := (bend k (by omega) (by rw [rch_const nn (show hoursN r ≤ k by omega), Int.mul_comm]; exact d0) (by rw [rch_const nn (show hoursN r ≤ k + 1 by omega), Int.mul_comm cap]; exact d1)).1
        have := hk k this
        omega
    have c := dn (h + 1) (by omega) b
    rw [show h + 1 + 1 = h + 2 by omega] at c
    unfold gCp
    omega
  subst e
  exact mk_of lin tail p T [] 0 rfl (Int.le_refl _)
/-- what the marks tell of each run -/
structure CpM (cap : Int) (r : List Run) (i : Nat) (L : List Int) : Prop where
  z : 0 ∈ L
  e : ∀ j q, j < i → r[j]? = some q → hoursN (r.take (j + 1)) ∈ L
  b : ∀ j q s, j < i → r[j]? = some q → q.1 < cap → (s = hoursN (r.take j) + (rch r (hoursN (r.take j)) - cap * hoursN (r.take j)) / (cap - q.1) ∨ s = hoursN (r.take j) + (rch r (hoursN (r.take j)) - cap * hoursN (r.take j)) / (cap - q.1) + 1) → hoursN (r.take j) ≤ s → s ≤ hoursN (r.take j) + q.2 + 1 → s ∈ L
theorem cpm_bend {r : List Run} {m cap : Int} {L : List Int} (v : Vd m r) (c1 : 1 ≤ cap) (C : CpM cap r r.length L) (w : ∀ s, (s = rch r (hoursN r) / cap ∨ s = rch r (hoursN r) / cap + 1) → s ∈ L) : ∀ k, 0 ≤ k → cap * k ≤ rch r k → rch r (k + 1) < cap * (k + 1) → k ∈ L ∧ k + 1 ∈ L := fun k k0 h1 h2 => by
  have nn := vd_n0 v
  by_cases c : k < hoursN r
  · obtain ⟨j, q, e, a, b⟩ := find_run k0 c
    have hj : j < r.length := (List.getElem?_eq_some_iff.mp e).1
    have r1 := rch_in v e a (by omega)
    have r2 := rch_in (k := k + 1) v e (by omega) (by omega)
    generalize hlow : hoursN (r.take j) = low at a b r1 r2
    have x0 : q.1 * (k + 1 - low) = q.1 * (k - low) + q.1 := by rw [show k + 1 - low = k - low + 1 by omega, Int.mul_add, Int.mul_one]
    have x1 : cap * (k + 1) = cap * k + cap := by rw [Int.mul_add, Int.mul_one]
    have qc : q.1 < cap := by omega
    have x2 : cap * k = cap * low + cap * (k - low) := by rw [← Int.mul_add]; congr 1; omega
    have x3 : (k - low) * (cap - q.1) = cap * (k - low) - q.1 * (k - low) := by rw [Int.mul_comm, Int.sub_mul]
    have x4 : (k - low + 1) * (cap - q.1) = cap * (k - low) - q.1 * (k - low) + (cap - q.1) := by rw [Int.add_mul, Int.one_mul, x3]
    have meet : (rch r low - cap * low) / (cap - q.1) = k - low := by
      have l1 : k - low ≤ (rch r low - cap * low) / (cap - q.1) := Int.le_ediv_of_mul_le (by omega) (by omega)
      have l2 : (rch r low - cap * low) / (cap - q.1) < k - low + 1 := Int.ediv_lt_of_lt_mul (by omega) (by omega)
      omega
    refine ⟨C.b j q k hj e qc (.inl ?_) ?_ ?_, C.b j q (k + 1) hj e qc (.inr ?_) ?_ ?_⟩ <;> rw [hlow] <;> first | omega | (rw [meet]; omega)
  · have g1 := rch_const nn (show hoursN r ≤ k by omega)
    have g2 := rch_const nn (show hoursN r ≤ k + 1 by omega)
    have meet : rch r (hoursN r) / cap = k := by
      have l1 : k ≤ rch r (hoursN r) / cap := Int.le_ediv_of_mul_le (by omega) (by rw [Int.mul_comm]; omega)
      have l2 : rch r (hoursN r) / cap < k + 1 := Int.ediv_lt_of_lt_mul (by omega) (by rw [Int.mul_comm]; omega)
      omega
    exact ⟨w k (.inl meet.symm), w (k + 1) (.inr (by rw [meet]))⟩
theorem cpm_ends {r : List Run} {cap : Int} {L : List Int} (C : CpM cap r r.length L) : ∀ s ∈ endsI 0 r, s ∈ L := fun s hs => by
  obtain ⟨j, q, e, f⟩ := ends_at hs
  rw [f, Int.zero_add]
  exact C.e j q (List.getElem?_eq_some_iff.mp e).1 e
theorem CpM.step {cap : Int} {r : List Run} {i : Nat} {L L2 : List Int} {q : Run} (C : CpM cap r i L) (hq : r[i]? = some q) (sub : ∀ s ∈ L, s ∈ L2) (he : hoursN (r.take (i + 1)) ∈ L2)
    (hb : q.1 < cap → ∀ s, (s = hoursN (r.take i) + (rch r (hoursN (r.take i)) - cap * hoursN (r.take i)) / (cap - q.1) ∨ s = hoursN (r.take i) + (rch r (hoursN (r.take i)) - cap * hoursN (r.take i)) / (cap - q.1) + 1) → hoursN (r.take i) ≤ s → s ≤ hoursN (r.take i) + q.2 + 1 → s ∈ L2) : CpM cap r (i + 1) L2 := by
  refine ⟨sub _ C.z, fun j p hj e => ?_, fun j p s hj e hc hs h1 h2 => ?_⟩
  · by_cases c : j = i
    · subst c
      exact he
    · exact sub _ (C.e j p (by omega) e)
  · by_cases c : j = i
    · subst c
      rw [hq] at e
      cases e
      exact hb hc s hs h1 h2
    · exact sub _ (C.b j p s (by omega) e hc hs h1 h2)
end RM

/-! rows side by side: the marks of their sum -/
namespace RM
def sumR (Rs : List (List Run)) (h : Int) : Int := (Rs.map fun R => rch R h).sum
theorem sumR_cons (R : List Run) (Rs : List (List Run)) (h : Int) : sumR (R :: Rs) h = rch R h + sumR Rs h := by
  unfold sumR
  rw [List.map_cons, List.sum_cons]
theorem sumR_lin : ∀ {Rs : List (List Run)} {h : Int}, (∀ R ∈ Rs, ∃ m, Vd m R) → 0 ≤ h → (∀ R ∈ Rs, h + 1 ∉ endsI 0 R) → sumR Rs (h + 2) - sumR Rs (h + 1) = sumR Rs (h + 1) - sumR Rs h
  | [], _, _, _, _ => rfl
  | R :: Rs, h, v, h0, e => by
    obtain ⟨m, vR⟩ := v R List.mem_cons_self
    have ih := sumR_lin (Rs := Rs) (h := h) (fun S hS => v S (List.mem_cons_of_mem _ hS)) h0 fun S hS => e S (List.mem_cons_of_mem _ hS)
    have f := rch_flat (h := h) (a := 0) vR h0 (by rw [Int.zero_add]; exact e R List.mem_cons_self)
    rw [sumR_cons, sumR_cons, sumR_cons]
    omega
theorem ends_hrs : ∀ (r : List Run) (a h : Int), (∀ s ∈ endsI a r, s ≤ h) → a ≤ h → a + hoursN r ≤ h
  | [], a, h, _, h0 => by rw [hoursN_nil]; omega
  | q :: r, a, h, hk, h0 => by
    have := ends_hrs r (a + q.2) h (fun s hs => hk s (List.mem_cons_of_mem _ hs)) (hk _ List.mem_cons_self)
    rw [hoursN_cons]
    omega
theorem sumR_tail : ∀ {Rs : List (List Run)} {h : Int}, (∀ R ∈ Rs, ∃ m, Vd m R) → 0 ≤ h → (∀ R ∈ Rs, ∀ s ∈ endsI 0 R, s ≤ h) → ∀ k, h ≤ k → sumR Rs k = sumR Rs h
  | [], _, _, _, _, _, _ => rfl
  | R :: Rs, h, v, h0, e, k, hk => by
    obtain ⟨m, vR⟩ := v R List.mem_cons_self
    have ih := sumR_tail (Rs := Rs) (h := h) (fun S hS => v S (List.mem_cons_of_mem _ hS)) h0 (fun S hS => e S (List.mem_cons_of_mem _ hS)) k hk
    have hh := ends_hrs R 0 h (e R List.mem_cons_self) h0
    have nn := vd_n0 vR
    rw [sumR_cons, sumR_cons, ih, rch_const nn (show hoursN R ≤ k by omega), rch_const nn (show hoursN R ≤ h by omega)]
theorem marks0 {M : List Int} (p : M.Pairwise (· < ·)) (n0 : ∀ k ∈ M, 0 ≤ k) (z : 0 ∈ M) : ∃ T, M = 0 :: T := by
  cases M with
  | nil => cases z
  | cons a T =>
    have a0 := n0 a List.mem_cons_self
    rcases List.mem_cons.mp z with e | e
    · exact ⟨T, by rw [← e]⟩
    · have := (List.pairwise_cons.mp p).1 0 e
      omega
theorem added_is {Rs : List (List Run)} {D : List Run} {M : List Int} {m' : Int} (v : ∀ R ∈ Rs, ∃ m, Vd m R) (vD : Vd m' D) (hm' : 1 ≤ m') (hD : ∀ h, 0 ≤ h → rch D h = sumR Rs h) (p : M.Pairwise (· < ·)) (n0 : ∀ k ∈ M, 0 ≤ k) (z : 0 ∈ M) (ends : ∀ R ∈ Rs, ∀ s ∈ endsI 0 R, s ∈ M) :
    (rof (sumR Rs) [] M).filter (fun q => decide (0 < q.1)) = D := by
  have hM := marks0 p n0 z
  refine rof_is vD hm' (fun h h0 => (hD h h0).symm) hM ?_
  obtain ⟨T, e⟩ := hM
  have lin : ∀ h, 0 ≤ h → h + 1 ∉ M → sumR Rs (h + 2) - sumR Rs (h + 1) = sumR Rs (h + 1) - sumR Rs h := fun h h0 hn => sumR_lin v h0 fun R hR z => hn (ends R hR _ z)
  have tail : ∀ h, (∀ k ∈ M, k ≤ h) → sumR Rs (h + 2) = sumR Rs (h + 1) := fun h hk => by
    have t := sumR_tail v (hk 0 z) fun R hR s hs => hk s (ends R hR s hs)
    rw [t (h + 2) (by omega), t (h + 1) (by omega)]
  subst e
  exact mk_of lin tail p T [] 0 rfl (Int.le_refl _)
end RM

/-! a row behind a cap, by the program -/
namespace Y
open PySem PySem.Spec PyProof.Rows L2 Ns
open C8 (pss_cut)
def Big : Int := 10 ^ 12 + 2
def spCapped (K : PySem.W.Frag) : Sp := fun as H Q _ => ∃ (y : V) (cap m : Int) (R : List Run), as = [y, .int cap] ∧ RowV K H y R ∧ RM.Vd m R ∧ 1 ≤ m ∧ m ≤ Big ∧ 0 ≤ cap ∧ cap < Big ∧ R.length ≤ 60 ∧
  ∀ (p : Addr) (D : List Run) (H' : Hp), RM.Vd Big D → (∀ h, 0 ≤ h → RM.rch D h = min (RM.rch R h) (cap * h)) → D.length ≤ 200 → RowV K H' (.ref p) D → Same H H' → Q (.ref p) H'
theorem vd_steps : ∀ {R : List Run} {m : Int}, RM.Vd m R → ∀ r ∈ R, 1 ≤ r.1 ∧ r.1 < m ∧ 1 ≤ r.2
  | [], _, _, _, h => by cases h
  | q :: R, m, v, r, h => by
    have k1 := v.1
    have k2 := v.2.1
    rcases List.mem_cons.mp h with rfl | h
    · exact ⟨v.1, v.2.1, v.2.2.1⟩
    · have := vd_steps v.2.2.2 r h
      omega
structure FillF (cap lost : Int) (q : Run) (f : Int) : Prop where
  f0 : 0 ≤ f
  fq : f ≤ q.2
  al : (f = q.2 ∧ q.2 * (cap - q.1) ≤ lost) ∨ (f < q.2 ∧ q.1 < cap ∧ f * (cap - q.1) ≤ lost ∧ lost < (f + 1) * (cap - q.1))
def fillTE : TE := tIf (tTest (tOp (rI0 fun i j => V.bl (decide (j ≤ i))) (tVar 4) (tVar 1))) (tVar 5) (tCB (fun xs H Q => ∃ i j, xs = [V.int i, V.int j] ∧ Q (V.int (if j < i then j else i)) H) (tCons (tVar 5) (tCons (tOp (rI CDivW fun i j => V.int (i / j)) (tVar 3) (tOp (rI0 fun i j => V.int (i - j)) (tVar 1) (tVar 4))) tNil)))
theorem fill_te {σ : L2.St} {H : Hp} {Q : VK} {cap lost : Int} {q : Run} (h1 : σ[1]? = some (some (.int cap))) (h3 : σ[3]? = some (some (.int lost))) (h4 : σ[4]? = some (some (.int q.1))) (h5 : σ[5]? = some (some (.int q.2))) (l0 : 0 ≤ lost) (q1 : 0 ≤ q.1) (q2 : 1 ≤ q.2) (cb : cap < Big) (k : ∀ f, FillF cap lost q f → Q (.int f) H) : fillTE σ H Q := by
  refine ⟨_, h4, _, h1, _, _, rfl, rfl, _, rfl, ?_⟩
  refine ite2 (fun c => ?_) (fun c => ?_)
  · have c : cap ≤ q.1 := of_decide_eq_true c
    have : 0 ≤ q.2 * (q.1 - cap) := Int.mul_nonneg (by omega) (by omega)
    have e : q.2 * (q.1 - cap) = - (q.2 * (cap - q.1)) := by rw [← Int.mul_neg]; congr 1; omega
    exact ⟨_, h5, k q.2 ⟨by omega, Int.le_refl _, .inl ⟨rfl, by omega⟩⟩⟩
  · have c : ¬ cap ≤ q.1 := fun z => c (decide_eq_true z)
    refine ⟨_, h5, _, h3, _, h1, _, h4, _, _, rfl, rfl, lost, cap - q.1, rfl, rfl, wide_div (b := 50) (by omega) (Nat.lt_of_le_of_lt (show (cap - q.1).natAbs ≤ 10 ^ 12 + 2 by unfold Big at cb; omega) (by decide +kernel)) (by decide) (by decide), q.2, _, rfl, ?_⟩
    have g0 : 0 ≤ lost / (cap - q.1) := Int.ediv_nonneg l0 (by omega)
    have g1 : lost / (cap - q.1) * (cap - q.1) ≤ lost := Int.ediv_mul_le lost (by omega)
    have g2 : lost < (lost / (cap - q.1) + 1) * (cap - q.1) := Int.lt_ediv_add_one_mul_self lost (by omega)
    generalize lost / (cap - q.1) = g at g0 g1 g2 ⊢
    refine k _ ?_
    by_cases d : g < q.2
    · rw [if_pos d]
      exact ⟨g0, by omega, .inr ⟨d, by omega, g1, g2⟩⟩
    · rw [if_neg d]
      have := Int.mul_le_mul_of_nonneg_right (show q.2 ≤ g by omega) (show 0 ≤ cap - q.1 by omega)
      exact ⟨by omega, Int.le_refl _, .inl ⟨rfl, by omega⟩⟩
section
variable {P : Program} {w : World} {K : PySem.W.Frag} {mg : Str → Option Value} {base : Heap}
theorem scCp : FnScope ["stairs", "cap", "runs", "lost", "step", "times", "filled"] ["stairs", "cap"] (defScope sCapped) := ⟨rfl, rfl, rfl, by decide +kernel, rfl, by decide +kernel, by decide +kernel⟩
theorem ok_capped {f fP fW : Addr} {fd dP dW : FuncData} (F : Fun K "capped" "capped" sCapped f fd) (T : Nat0 mg) (FP : Fun K "put_run" "put_run" sPutRun fP dP) (mP : mg "put_run" = some (.ref fP)) (bP : Binds K dP ["runs", "step", "times"] []) (FW : Fun K "whole_of" "whole_of" sWholeOf fW dW) (mW : mg "whole_of" = some (.ref fW)) (bW : Binds K dW ["stairs"] []) : FnOk P w K mg base CX0 2 f fd ["stairs", "cap"] (spCapped K) := by
  have GP : FnOk P w K mg base CX0 1 fP dP ["runs", "step", "times"] (spPut K) := ok_putRun FP T
  have GW : FnOk P w K mg base CX0 1 fW dW ["stairs"] (spR1 K whl) := ok_wholeOf FW T
  refine F.ok scCp (fun as H Q E h => ?_) (fun cdv A outer s H as Q E hr h => ?_)
  · obtain ⟨y, cap, m, R, rfl, _⟩ := h
    rfl
  · obtain ⟨y, cap, m, R, rfl, hV, vd, hm, hmB, c0, cB, l60, k⟩ := h
    have hr1 : Room 1 _ := hr
    refine ⟨_, pss_cons (ps_set (i := 2) scCp.nd rfl (.inl rfl) (pe_lst pa_nil))
      (pss_cons (ps_set (i := 3) scCp.nd rfl (.inl rfl) pe_int)
      (pss_cons (ps_for PassesOwn.never rfl (pi_tup (pe_op op_catU (pv 0) (pe_tup (pa_cons (pe_tup (pa_cons pe_int (pa_cons (pe_op op_add (pe_call GW hr1 rfl mW FW.kp bW .nil pass0 (pa_cons (pv 0) pa_nil)) pe_int) pa_nil))) pa_nil)))) (pg_tup rfl (pgs_cons (pg_name (i := 4) scCp.nd rfl (.inl rfl)) (pgs_cons (pg_name (i := 5) scCp.nd rfl (.inl rfl)) pgs_nil)))
        (pss_cons (ps_set (i := 6) scCp.nd rfl (.inl rfl) (pe_ifExp (pt_cmpR op_ge (pv 4) (pv 1) (nomark _)) (pv 5) (pe_callB (call_min2 rfl) (by rfl) T.min (by decide +kernel) (pa_cons (pv 5) (pa_cons (pe_op op_fdivW (pv 3) (pe_op op_sub (pv 1) (pv 4))) pa_nil)))))
        (pss_cons (ps_expr (pe_call GP hr1 rfl mP FP.kp bP .nil pass0 (pa_cons (pv 2) (pa_cons (pv 1) (pa_cons (pv 6) pa_nil)))))
        (pss_cons (ps_aug (i := 3) scCp.nd rfl (.inl rfl) (pe_op op_mul (pv 6) (pe_op op_sub (pv 4) (pv 1))) ip_add)
        (pss_one (ps_if (pt_cmpR op_lt (pv 6) (pv 5) (nomark _))
          (pss_cons (ps_expr (pe_call GP hr1 rfl mP FP.kp bP .nil pass0 (pa_cons (pv 2) (pa_cons (pe_op op_add (pv 4) (pv 3)) (pa_cons pe_int pa_nil)))))
          (pss_cons (ps_expr (pe_call GP hr1 rfl mP FP.kp bP .nil pass0 (pa_cons (pv 2) (pa_cons (pv 4) (pa_cons (pe_op op_sub (pe_op op_sub (pv 5) (pv 6)) pe_int) pa_nil)))))
          (pss_one (ps_set (i := 3) scCp.nd rfl (.inl rfl) pe_int)))) pss_nil))))))
      (pss_one (ps_ret (pe_callTy call_tuple_of (by rfl) T.tuple (by decide +kernel) (pa_cons (pv 2) pa_nil)))))), ?_⟩
    obtain ⟨t, xs, rfl, h1, h2⟩ := id hV
    have lx := paired_len h2
    refine ⟨by show 0 ≤ sizeLine; decide, fun rl hrl => ?_⟩
    have m1 := same_new (o := .lst []) (Same.refl H) hrl
    have r1 : upd H rl (.lst []) rl = some (.lst []) := upd_same
    generalize upd H rl (.lst []) = H1 at m1 r1 ⊢
    have V1 := hV.more m1
    have bdR : ∀ r ∈ R, -(2 ^ 64) < r.1 ∧ r.1 < 2 ^ 64 := fun r hr' => by
      have := vd_steps vd r hr'
      unfold Big at hmB
      omega
    refine ⟨_, rfl, ?_⟩
    refine ⟨_, rfl, .ref t, R, rfl, V1, bdR, by omega, fun H2 m2 => ⟨_, _, rfl, rfl, by show 2 ≤ sizeLine; decide, fun u hu => ⟨by show 1 ≤ sizeLine; decide, fun z hz => ?_⟩⟩⟩
    have m3 := same_new (o := .tup [.ref u]) (same_new (o := .tup [.int 0, .int (whl R + 1)]) m2 hu) hz
    have u3 := s3u (o := .tup [.ref u]) hz (upd_same (H := H2) (a := u) (o := .tup [.int 0, .int (whl R + 1)]))
    have z3 : upd (upd H2 u (.tup [.int 0, .int (whl R + 1)])) z (.tup [.ref u]) z = some (.tup [.ref u]) := upd_same
    generalize upd (upd H2 u (.tup [.int 0, .int (whl R + 1)])) z (.tup [.ref u]) = H3 at m3 u3 z3 ⊢
    refine ⟨t, z, xs, [.ref u], rfl, rfl, sqt_more (m1.trans m3) h1, SqT.of z3, ?_, fun p H6 m6 h6 => ?_⟩
    · rw [lx]
      exact Nat.le_of_lt (small1000 (show R.length + 1 ≤ 1000 by omega))
    have mH := (m1.trans m3).trans m6
    have r6 := m6 _ _ (m3 _ _ r1)
    have pr : Paired (RunV K H6) (xs ++ [.ref u]) (R ++ [(0, RM.whole R + 1)]) := paired_snoc ⟨u, rfl, SqT.of (m6 _ _ u3)⟩ (paired_imp (fun v c ⟨a, e1, q⟩ => ⟨a, e1, sqt_more mH q⟩) h2)
    have w0 := RM.whole_nn vd
    have vz := RM.vz_end (t := RM.whole R + 1) vd hm (by omega)
    have nz := RM.vz_nn vz
    generalize hR0 : R ++ [(0, RM.whole R + 1)] = R0 at pr vz nz
    have l0 : R0.length = R.length + 1 := by rw [← hR0, List.length_append]; rfl
    refine ⟨p, rfl, ⟨_, h6⟩, ?_⟩
    refine for_tup (K := K) (a := p) (xs := xs ++ [.ref u]) (fun i σ H' => ∃ (lost : Int) (us : List V) (D : List Run) (v4 v5 v6 : Option V), σ = [some (.ref t), some (.int cap), some (.ref rl), some (.int lost), v4, v5, v6] ∧ H' rl = some (.lst us) ∧ Paired (RunV K H') us D ∧ D.length ≤ 3 * i ∧ 0 ≤ lost ∧ (1 ≤ cap → RM.CpI Big cap m (R0.take i) lost D) ∧ (cap = 0 → D = []) ∧ But rl H6 H') ?_ ?_ ?_ ?_
    · exact ⟨0, [], [], none, none, none, rfl, r6, .nil, Nat.le_refl _, Int.le_refl _, fun _ => RM.cp_start Big cap m (Int.le_of_lt cB), fun _ => rfl, fun _ _ _ h => h⟩
    · rintro i σ H' _ ⟨_, _, _, _, _, _, _, _, _, _, _, _, _, e7⟩
      exact sqt_but r6 e7 h6
    · rintro i z σ H' hz ⟨lost, us, D, v4, v5, v6, rfl, e1, e2, e3, e4, e5, e6, e7⟩
      obtain ⟨r, hr', q, rfl, hq⟩ := paired_at pr hz
      have hi : i < R0.length := (List.getElem?_eq_some_iff.mp hr').1
      obtain ⟨q0, ql, qt, qm⟩ := RM.vz_at vz hr'
      have et : R0.take (i + 1) = R0.take i ++ [r] := by rw [List.take_succ, hr']; rfl
      have nA : ∀ p ∈ R0.take i, 0 ≤ p.2 := fun p hp => nz p (List.mem_of_mem_take hp)
      refine ⟨q, _, rfl, sqt_but r6 e7 hq, rfl, _, _, rfl, _, _, rfl, rfl, ?_⟩
      refine fill_te (cap := cap) (lost := lost) (q := r) rfl rfl rfl rfl e4 q0 qt cB (fun f F => ?_)
      have F0 := F.f0
      have F1 := F.fq
      refine ⟨_, rfl, _, rfl, _, rfl, rl, cap, f, us, D, rfl, e1, e2, by omega, fun us1 H7 g1 g2 g3 => ?_⟩
      have pl1 := RM.put_len D cap f
      refine ⟨_, rfl, _, rfl, _, rfl, _, rfl, _, _, rfl, rfl, _, _, rfl, rfl, .inr ⟨by unfold Big at cB hmB; omega, by unfold Big at cB hmB; omega⟩, lost, _, rfl, rfl, ?_⟩
      refine ⟨_, rfl, _, rfl, _, _, rfl, rfl, _, rfl, ?_⟩
      refine ite2 (fun c => ?_) (fun c => ?_)
      · have c : f < r.2 := of_decide_eq_true c
        rcases F.al with ⟨a1, _⟩ | ⟨a1, a2, a3, a4⟩
        · omega
        have c1 : 1 ≤ cap := by omega
        have CP := RM.cp_part c1 cB nA ql q0 a2 qt (e5 c1) F0 a1 a3 a4
        rw [← et] at CP
        have pl2 := RM.put_len (RM.put D cap f) (r.1 + (lost + f * (r.1 - cap))) 1
        have pl3 := RM.put_len (RM.put (RM.put D cap f) (r.1 + (lost + f * (r.1 - cap))) 1) r.1 (r.2 - f - 1)
        refine ⟨_, rfl, _, rfl, _, rfl, _, _, rfl, rfl, rl, r.1 + (lost + f * (r.1 - cap)), 1, us1, _, rfl, g1, g2, by omega, fun us2 H8 g4 g5 g6 => ?_⟩
        refine ⟨_, rfl, _, rfl, _, rfl, _, rfl, _, _, rfl, rfl, _, _, rfl, rfl, rl, r.1, r.2 - f - 1, us2, _, rfl, g4, g5, by omega, fun us3 H9 g7 g8 g9 => ?_⟩
        exact ⟨0, us3, _, _, _, _, rfl, g7, g8, by omega, Int.le_refl _, fun _ => CP, fun z => by omega, ((e7.trans g3).trans g6).trans g9⟩
      · have c : ¬ f < r.2 := fun z => c (decide_eq_true z)
        rcases F.al with ⟨a1, a2⟩ | ⟨a1, _⟩
        · subst a1
          have x2 : r.2 * (r.1 - cap) = - (r.2 * (cap - r.1)) := by rw [← Int.mul_neg]; congr 1; omega
          refine ⟨lost + r.2 * (r.1 - cap), us1, _, _, _, _, rfl, g1, g2, by omega, by omega, fun c1 => ?_, fun z => ?_, e7.trans g3⟩
          · rw [et]
            exact RM.cp_full c1 cB nA ql q0 qt (e5 c1) a2
          · subst z
            rw [e6 rfl]
            exact if_pos (.inl rfl)
        · omega
    rintro σ H7 ⟨lost, us, D, v4, v5, v6, rfl, e1, e2, e3, e4, e5, e6, e7⟩
    have lz : (xs ++ [V.ref u]).length = R0.length := by rw [List.length_append, lx, l0]; rfl
    rw [lz] at e3 e5
    rw [List.take_length] at e5
    refine ⟨_, rfl, rl, us, rfl, .inl ⟨SqL.of e1, fun d hd => ?_⟩⟩
    have mE := (same_but (m1.trans (m3.trans m6)) hrl e7)
    have mF := same_new (o := .tup us) (Same.refl H7) hd
    have fin : RM.Vd Big D ∧ ∀ h, 0 ≤ h → RM.rch D h = min (RM.rch R h) (cap * h) := by
      by_cases c : cap = 0
      · rw [e6 c, c]
        refine ⟨trivial, fun h h0 => ?_⟩
        have := RM.rch_nn vd h0
        rw [Int.zero_mul, show min (RM.rch R h) 0 = 0 by omega]
        rfl
      · have c1 : 1 ≤ cap := by omega
        have I := e5 c1
        rw [← hR0] at I
        exact ⟨I.vd, RM.cp_end c1 vd I⟩
    exact k d D _ fin.1 fin.2 (by omega) ⟨d, us, rfl, SqT.of upd_same, paired_imp (fun v c ⟨a, e1, q⟩ => ⟨a, e1, sqt_more mF q⟩) e2⟩ (mE.trans mF)
end
end Y

/-! a row behind a cap, by the law -/
namespace Y
open PySem PySem.Spec PyProof.Rows L2 Ns LamX LamP
open C8 (pss_cut)
def qCp : Str := Str.ofString "_law_capped.<locals>.<lambda>"
def spLCp (K : PySem.W.Frag) (TT : List (Addr × Str)) : Sp := fun as H Q _ => ∃ (y : V) (cap m : Int) (R : List Run), as = [y, .int cap] ∧ RowV K H y R ∧ RM.Vd m R ∧ 1 ≤ m ∧ m ≤ 2 ^ 60 ∧ 0 ≤ cap ∧ cap ≤ 2 ^ 60 ∧ R.length ≤ 12 ∧ Tabs TT H ∧
  ∀ (y' : V) (H' : Hp), ExtN H H' → Tabs TT H' → (∀ D : List Run, RM.Vd Big D → (∀ h, 0 ≤ h → RM.rch D h = min (RM.rch R h) (cap * h)) → RowV K H' y' D) → Q y' H'
theorem cpUp : ∀ y ∈ ([("hours", .local), ("cap", .free), ("row", .free), ("min", .globalImplicit), ("_law_row_reach", .globalImplicit)] : List (Str × NameKind)), y.2 = .free → (defScope sLCapped).names.lookup y.1 = some .cell ∨ (defScope sLCapped).names.lookup y.1 = some .free := by decide +kernel
theorem cpOnly : ∀ y : Str, ([("hours", .local), ("cap", .free), ("row", .free), ("min", .globalImplicit), ("_law_row_reach", .globalImplicit)] : List (Str × NameKind)).lookup y = some .local → y = "hours" := fun y h =>
  (show ∀ p ∈ ([("hours", .local), ("cap", .free), ("row", .free), ("min", .globalImplicit), ("_law_row_reach", .globalImplicit)] : List (Str × NameKind)), p.2 = .local → p.1 = "hours" by decide +kernel) (y, .local) (PySem.mem_of_lookup h) rfl
section
variable {Pr : Program} {w : World} {K : PySem.W.Frag} {mg : Str → Option Value} {base : Heap}
theorem scLCp : FnScope ["row", "cap", "bends", "hour", "step", "many", "low", "high", "base", "meet", "spot"] ["row", "cap"] (defScope sLCapped) := ⟨rfl, rfl, rfl, by decide +kernel, rfl, by decide +kernel, by decide +kernel⟩
theorem ok_lawCapped {f fO fN fR c P : Addr} {fd dO dN dR : FuncData} {TT : List (Addr × Str)} (F : Fun K "_law_capped" "_law_capped" sLCapped f fd) (T : Nat0 mg) (hc : ∀ (oc : Value) (od : Option Addr) (gd : FuncData) (osl : Array (Option Value)), K.lookup f = some ⟨oc, od, .func gd, osl⟩ → gd.code = .ref c) (TB : TabB base mg c P)
    (hm : (P, qCp) ∈ TT) (hu : ∀ p ∈ TT, p.1 = P → p.2 = qCp)
    (FO : Fun K "_law_row_of" "_law_row_of" sRowOf fO dO) (mO : mg "_law_row_of" = some (.ref fO)) (bO : Binds K dO ["bends", "rule"] []) (FN : Fun K "_law_run" "_law_run" sRun fN dN) (mN : mg "_law_run" = some (.ref fN)) (bN : Binds K dN ["found", "step", "many"] []) (FR : Fun K "_law_row_reach" "_law_row_reach" sRowReach fR dR) (mR : mg "_law_row_reach" = some (.ref fR)) (bR : Binds K dR ["row", "hours"] []) :
    GnOk Pr w K mg base 4 f fd ["row", "cap"] (spLCp K TT) := by
  have GR : FnOk Pr w K mg base CX0 1 fR dR ["row", "hours"] (spRI K lrch) := ok_rowReach FR T
  have GN : FnOk Pr w K mg base CX0 1 fN dN ["found", "step", "many"] (spRun K) := ok_run FN
  obtain ⟨oc, od, kV, doc, pm, an, cdB, ct, osl, eB, lkB, hcB⟩ := FO.ex
  subst eB
  refine Fun.okL (c := c) F scLCp hc (fun as H Q E h => ?_) (fun A outer s H as Q E hr hgd h => ?_)
  · obtain ⟨y, cap, m, R, rfl, _⟩ := h
    rfl
  · obtain ⟨y, cap, m, R, rfl, hV, vd, hm1, hm2, c0, cB, l12, hT, k⟩ := h
    have hr1 : Room 1 _ := hr.mono (by decide)
    refine ⟨_, pss_cons (ps_par (i := 2) (j := 3) rfl scLCp.nd rfl rfl (by decide) rfl rfl (pa_cons (pe_lst (pa_cons pe_int pa_nil)) (pa_cons pe_int pa_nil)) (by rfl))
      (pss_cons (ps_for PassesOwn.never rfl (pi_tup (pv 0)) (pg_tup rfl (pgs_cons (pg_name (i := 4) scLCp.nd rfl (.inl rfl)) (pgs_cons (pg_name (i := 5) scLCp.nd rfl (.inl rfl)) pgs_nil)))
        (pss_cons (ps_asg (pe_tup (pa_cons (pv 3) (pa_cons (pe_op op_add (pv 3) (pv 5)) (pa_cons (pe_call GR hr1 rfl mR FR.kp bR .nil pass0 (pa_cons (pv 0) (pa_cons (pv 3) pa_nil))) pa_nil)))) (pg_tup rfl (pgs_cons (pg_name (i := 6) scLCp.nd rfl (by first | exact .inl rfl | exact .inr rfl)) (pgs_cons (pg_name (i := 7) scLCp.nd rfl (by first | exact .inl rfl | exact .inr rfl)) (pgs_cons (pg_name (i := 8) scLCp.nd rfl (by first | exact .inl rfl | exact .inr rfl)) pgs_nil)))))
        (pss_cons (ps_if (pt_cmpR op_lt (pv 4) (pv 1) (nomark _))
          (pss_cons (ps_set (i := 9) scLCp.nd rfl (.inl rfl) (pe_op op_add (pv 3) (pe_op op_fdivW (pe_callTy call_int1 (by rfl) T.int (by decide +kernel) (pa_cons (pe_op op_sub (pv 8) (pe_op op_mul (pv 1) (pv 3))) pa_nil)) (pe_op op_sub (pv 1) (pv 4)))))
          (pss_one (ps_expr (pe_bm PySem.F.plainAttrs_list PySem.F.slot_list_extend PySem.F.type_list_extend mt_extend (pv 2) (pa_cons
            (pe_lc (own := [("spot", 10)]) (g := gName 10) (tt := _) rfl scLCp.nd (pi_tup (pe_tup (pa_cons (pv 9) (pa_cons (pe_op op_add (pv 9) pe_int) pa_nil))))
              (blkOk_by (N := ["row", "cap", "bends", "hour", "step", "many", "low", "high", "base", "meet", "spot"]) (sc := defScope sLCapped) (by decide +kernel)) (fun _ _ _ _ _ => pg_name (i := 10) scLCp.nd rfl (Or.inl rfl))
              (fun _ _ _ _ _ => pts_one (pt_chain op_le op_le (pv 6) (pv 10) (pe_op op_add (pv 7) pe_int))) (fun _ _ _ _ _ => pv 10)) pa_nil))))) pss_nil)
        (pss_cons (ps_set (i := 3) scLCp.nd rfl (.inl rfl) (pv 7))
        (pss_one (ps_expr (pe_bm PySem.F.plainAttrs_list PySem.F.slot_list_append PySem.F.type_list_append mt_append (pv 2) (pa_cons (pv 3) pa_nil))))))))
      (pss_cons (ps_if (pt_cmpR op_gt (pv 1) pe_int (nomark _))
        (pss_cons (ps_set (i := 9) scLCp.nd rfl (.inl rfl) (pe_op op_fdivW (pe_callTy call_int1 (by rfl) T.int (by decide +kernel) (pa_cons (pe_call GR hr1 rfl mR FR.kp bR .nil pass0 (pa_cons (pv 0) (pa_cons (pv 3) pa_nil))) pa_nil)) (pv 1)))
        (pss_one (ps_expr (pe_bm PySem.F.plainAttrs_list PySem.F.slot_list_extend PySem.F.type_list_extend mt_extend (pv 2) (pa_cons (pe_lst (pa_cons (pv 9) (pa_cons (pe_op op_add (pv 9) pe_int) pa_nil))) pa_nil))))) pss_nil)
      (pss_one (ps_ret (pe_ifExp (pt_cmpR op_gt (pv 1) pe_int (nomark _)) (pe_lamcall2 (T := TT) (x := "hours") (a := "rule") (b2 := "bends") (Ng := ["bends", "rule", "found", "marks", "hour", "low", "high", "step", "many"]) (i := 1) (k := 1) rfl mO FO.kp lkB hcB bO scRO rfl (.inl rfl)
        (gives_rowOf T (hr.mono (by decide)) GN FN mN bN) TB rfl hm hu hr ⟨rfl, rfl, rfl, rfl, by decide +kernel, cpOnly, cpUp⟩ (show ("hours" : Str) ∉ (["row", "cap", "bends", "hour", "step", "many", "low", "high", "base", "meet", "spot"] : List Str) by decide +kernel) rfl (fun _ _ _ _ _ _ => rfl)
        (fun A outer s H f c' hr' => pe_callB (call_min2 rfl) (by rfl) T.min (by decide +kernel) (pa_cons (pe_call GR hr' rfl mR FR.kp bR .nil pass0 (pa_cons (pv 0) (pa_cons (pv 11) pa_nil))) (pa_cons (pe_op op_mul (pv 1) (pv 11)) pa_nil)))
        (pv 2) (fun _ => rfl)) (pe_tup pa_nil)))))), ?_⟩
    obtain ⟨t, xs, rfl, h1, h2⟩ := id hV
    have lx := paired_len h2
    have bd : ∀ r ∈ R, -(2 ^ 64) < r.1 ∧ r.1 < 2 ^ 64 := vd_bd vd hm2
    have nn : ∀ r ∈ R, 0 ≤ r.2 := RM.vd_n0 vd
    refine ⟨by show 1 ≤ sizeLine; decide, fun bl hbl => ?_⟩
    have m0 := same_new (o := .lst [.int 0]) (Same.refl H) hbl
    have b0 : upd H bl (.lst [.int 0]) bl = some (.lst [.int 0]) := upd_same
    generalize upd H bl (.lst [.int 0]) = H0 at m0 b0 ⊢
    refine ⟨_, _, rfl, _, rfl, t, rfl, ⟨_, sqt_more m0 h1⟩, ?_⟩
    refine for_tup (K := K) (a := t) (xs := xs) (fun i σ H' => ∃ (L : List Int) (v4 v5 v6 v7 v8 v9 v10 : Option V), σ = [some (.ref t), some (.int cap), some (.ref bl), some (.int (RM.hoursN (R.take i))), v4, v5, v6, v7, v8, v9, v10] ∧ H' bl = some (.lst (L.map V.int)) ∧ L.length ≤ 1 + 3 * i ∧ RM.CpM cap R i L ∧ Same H H') ?_ ?_ ?_ ?_
    · exact ⟨[0], _, _, _, _, _, _, _, rfl, b0, Nat.le_refl _, ⟨List.mem_singleton.mpr rfl, (fun j _ hj => nomatch hj), (fun j _ _ hj => nomatch hj)⟩, m0⟩
    · rintro i σ H' _ ⟨_, _, _, _, _, _, _, _, _, _, _, _, m⟩
      exact sqt_more m h1
    · rintro i z σ H' hz ⟨L, v4, v5, v6, v7, v8, v9, v10, rfl, e1, lL, C, m1⟩
      obtain ⟨r, hr', q, rfl, hq⟩ := paired_at h2 hz
      have hi : i < R.length := (List.getElem?_eq_some_iff.mp hr').1
      have et : R.take (i + 1) = R.take i ++ [r] := by rw [List.take_succ, hr']; rfl
      have eh : RM.hoursN (R.take (i + 1)) = RM.hoursN (R.take i) + r.2 := by rw [et, RM.hrs_A]
      have l0 : 0 ≤ RM.hoursN (R.take i) := RM.hoursN_nn fun p hp => nn p (List.mem_of_mem_take hp)
      have bs : lrch R (RM.hoursN (R.take i)) = RM.rch R (RM.hoursN (R.take i)) := by rw [rch_eq nn l0, rch_rm]
      generalize hlow : RM.hoursN (R.take i) = low at eh l0 bs
      refine ⟨q, _, rfl, sqt_more m1 hq, rfl, _, _, rfl, _, _, rfl, rfl, ?_⟩
      refine ⟨_, rfl, _, rfl, _, rfl, _, _, rfl, rfl, _, rfl, _, rfl, .ref t, low, R, rfl, hV.more m1, bd, by show 3 ≤ sizeLine; decide, fun tp htp => ⟨tp, _, rfl, SqT.of upd_same, rfl, _, _, rfl, _, _, rfl, _, _, rfl, rfl, ?_⟩⟩
      rw [bs]
      have m2 := same_new (o := .tup [.int low, .int (low + r.2), .int (RM.rch R low)]) m1 htp
      have e2 := s3u (o := .tup [.int low, .int (low + r.2), .int (RM.rch R low)]) htp e1
      generalize upd H' tp (.tup [.int low, .int (low + r.2), .int (RM.rch R low)]) = H2 at m2 e2 ⊢
      refine ⟨_, rfl, _, rfl, _, _, rfl, rfl, _, rfl, ?_⟩
      refine ite2 (fun c => ?_) (fun c => ?_)
      · have c : r.1 < cap := of_decide_eq_true c
        have cr := RM.vd_one2 vd r (List.mem_of_getElem? hr')
        have r0 := (bd r (List.mem_of_getElem? hr')).1
        refine ⟨_, rfl, _, rfl, _, rfl, _, rfl, _, _, rfl, rfl, .inl ⟨by omega, by omega⟩, _, _, rfl, rfl, .inl ⟨_, rfl, ?_⟩⟩
        refine ⟨_, rfl, _, rfl, _, _, rfl, rfl, _, _, rfl, rfl, wide_div (b := 100) (by omega) (Nat.lt_of_le_of_lt (show (cap - r.1).natAbs ≤ 2 ^ 60 + 2 ^ 64 by omega) (by decide +kernel)) (by decide) (by decide), _, _, rfl, rfl, ?_⟩
        refine ⟨_, rfl, .inl ⟨rfl, _, SqL.of e2⟩, ?_⟩
        refine ⟨_, rfl, _, rfl, _, _, rfl, rfl, by show 2 ≤ sizeLine; decide, fun tq htq => ⟨tq, rfl, ⟨_, SqT.of upd_same⟩, fun D hD => ?_⟩⟩
        have htq : H2 tq = none := htq
        have m3 := same_new (o := .tup [.int (low + (RM.rch R low - cap * low) / (cap - r.1)), .int ((low + (RM.rch R low - cap * low) / (cap - r.1)) + 1)]) (Same.refl H2) htq
        have e3 := s3u (o := .tup [.int (low + (RM.rch R low - cap * low) / (cap - r.1)), .int ((low + (RM.rch R low - cap * low) / (cap - r.1)) + 1)]) htq e2
        have q3 : upd H2 tq (.tup [.int (low + (RM.rch R low - cap * low) / (cap - r.1)), .int ((low + (RM.rch R low - cap * low) / (cap - r.1)) + 1)]) tq = some (.tup ([(low + (RM.rch R low - cap * low) / (cap - r.1)), (low + (RM.rch R low - cap * low) / (cap - r.1)) + 1].map V.int)) := upd_same
        generalize upd H2 tq (.tup [.int (low + (RM.rch R low - cap * low) / (cap - r.1)), .int ((low + (RM.rch R low - cap * low) / (cap - r.1)) + 1)]) = H3 at m3 e3 q3 hD ⊢
        generalize hme : (low + (RM.rch R low - cap * low) / (cap - r.1)) = me at q3
        refine lc_tup (K := K) (a := tq) (xs := [me, me + 1].map V.int) (fun j H' => H' D = some (.lst ((([me, me + 1].take j).filter fun s => decide (low ≤ s) && decide (s ≤ low + r.2 + 1)).map V.int)) ∧ Same H3 H') ?_ ?_ ?_ ?_
        · exact ⟨upd_same, same_new (Same.refl H3) hD⟩
        · rintro j H' _ ⟨_, m⟩
          exact SqT.of (m _ _ q3)
        · rintro j z H' hz' ⟨w1, w2⟩
          obtain ⟨s', hs, rfl⟩ := ints_of hz'
          refine ⟨rfl, _, rfl, _, rfl, _, _, rfl, rfl, _, rfl, ?_⟩
          have hj : j < 2 := by
            have := (List.getElem?_eq_some_iff.mp hs).1
            exact this
          have lf := List.length_filter_le (fun s => decide (low ≤ s) && decide (s ≤ low + r.2 + 1)) ([me, me + 1].take j)
          rw [List.length_take] at lf
          refine ite2 (fun c1 => ?_) (fun c1 => ?_)
          · have c1 : low ≤ s' := of_decide_eq_true c1
            refine ⟨_, rfl, _, _, rfl, rfl, _, _, rfl, rfl, _, rfl, ?_⟩
            refine ite2 (fun c2 => ?_) (fun c2 => ?_)
            · have c2 : s' ≤ low + r.2 + 1 := of_decide_eq_true c2
              refine ⟨_, rfl, _, w1, ?_, ?_, same_put w2 hD⟩
              · rw [List.length_map]
                exact small1000 (by omega)
              · rw [upd_same, List.take_succ, hs]
                simp [c1, c2]
            · have c2 : ¬ s' ≤ low + r.2 + 1 := fun z => c2 (decide_eq_true z)
              refine ⟨?_, w2⟩
              rw [w1, List.take_succ, hs]
              simp [c2]
          · have c1 : ¬ low ≤ s' := fun z => c1 (decide_eq_true z)
            refine ⟨_, rfl, ite2 (fun z => by cases z) (fun _ => ⟨?_, w2⟩)⟩
            rw [w1, List.take_succ, hs]
            simp [c1]
        rintro H4 ⟨w1, w2⟩
        have w1 : H4 D = some (.lst (([me, me + 1].filter fun s => decide (low ≤ s) && decide (s ≤ low + r.2 + 1)).map V.int)) := w1
        have lf := List.length_filter_le (fun s => decide (low ≤ s) && decide (s ≤ low + r.2 + 1)) [me, me + 1]
        have lf : ([me, me + 1].filter fun s => decide (low ≤ s) && decide (s ≤ low + r.2 + 1)).length ≤ 2 := lf
        refine ⟨bl, D, _, _, rfl, rfl, w2 _ _ e3, w1, ?_, ?_⟩
        · rw [List.length_map, List.length_map]
          exact Nat.le_of_lt (small1000 (by omega))
        rw [← List.map_append]
        have m5 := same_put (o := .lst ((L ++ [me, me + 1].filter fun s => decide (low ≤ s) && decide (s ≤ low + r.2 + 1)).map V.int)) (m2.trans (m3.trans w2)) hbl
        have e5 : upd H4 bl (.lst ((L ++ [me, me + 1].filter fun s => decide (low ≤ s) && decide (s ≤ low + r.2 + 1)).map V.int)) bl = some (.lst ((L ++ [me, me + 1].filter fun s => decide (low ≤ s) && decide (s ≤ low + r.2 + 1)).map V.int)) := upd_same
        generalize upd H4 bl (.lst ((L ++ [me, me + 1].filter fun s => decide (low ≤ s) && decide (s ≤ low + r.2 + 1)).map V.int)) = H5 at m5 e5 ⊢
        have l5 : (L ++ [me, me + 1].filter fun s => decide (low ≤ s) && decide (s ≤ low + r.2 + 1)).length ≤ 3 + 3 * i := by rw [List.length_append]; omega
        have k5 : ∀ s, (s = me ∨ s = me + 1) → low ≤ s → s ≤ low + r.2 + 1 → s ∈ L ++ [me, me + 1].filter fun s => decide (low ≤ s) && decide (s ≤ low + r.2 + 1) := fun s hs a b => List.mem_append_right _ (List.mem_filter.mpr ⟨by simpa using hs, by simp [a, b]⟩)
        have k6 : ∀ s ∈ L, s ∈ L ++ [me, me + 1].filter fun s => decide (low ≤ s) && decide (s ≤ low + r.2 + 1) := fun s hs => List.mem_append_left _ hs
        generalize (L ++ [me, me + 1].filter fun s => decide (low ≤ s) && decide (s ≤ low + r.2 + 1)) = L5 at e5 l5 k5 k6
        refine ⟨_, rfl, _, rfl, .inl ⟨rfl, _, SqL.of e5⟩, _, rfl, bl, _, _, rfl, rfl, e5, ?_, ?_⟩
        · rw [List.length_map]
          exact small1000 (by omega)
        rw [eh]
        refine ⟨L5 ++ [low + r.2], _, _, _, _, _, _, _, rfl, ?_, ?_, ?_, same_put m5 hbl⟩
        · rw [upd_same, List.map_append]
          rfl
        · rw [List.length_append]
          show L5.length + 1 ≤ 1 + 3 * (i + 1)
          omega
        · refine C.step hr' (fun s hs => List.mem_append_left _ (k6 s hs)) (by rw [eh]; exact List.mem_append_right _ (List.mem_singleton.mpr rfl)) fun _ s hs a b => ?_
          rw [hlow] at hs a b
          rw [hme] at hs
          exact List.mem_append_left _ (k5 s hs a b)
      · have c : ¬ r.1 < cap := fun z => c (decide_eq_true z)
        refine ⟨_, rfl, _, rfl, .inl ⟨rfl, _, SqL.of e2⟩, _, rfl, bl, _, _, rfl, rfl, e2, ?_, ?_⟩
        · rw [List.length_map]
          exact small1000 (by omega)
        rw [eh]
        refine ⟨L ++ [low + r.2], _, _, _, _, _, _, _, rfl, ?_, ?_, ?_, same_put m2 hbl⟩
        · rw [upd_same, List.map_append]
          rfl
        · rw [List.length_append]
          show L.length + 1 ≤ 1 + 3 * (i + 1)
          omega
        · exact C.step hr' (fun s hs => List.mem_append_left _ hs) (by rw [eh]; exact List.mem_append_right _ (List.mem_singleton.mpr rfl)) fun z => absurd z c
    rintro σ H1 ⟨L, v4, v5, v6, v7, v8, v9, v10, rfl, e1, lL, C, m1⟩
    rw [lx] at lL C
    rw [lx, List.take_length]
    have h0 : 0 ≤ RM.hoursN R := RM.hoursN_nn nn
    have bs : lrch R (RM.hoursN R) = RM.rch R (RM.hoursN R) := by rw [rch_eq nn h0, rch_rm]
    refine ⟨_, rfl, _, _, rfl, rfl, _, rfl, ?_⟩
    refine ite2 (fun c => ?_) (fun c => ?_)
    · have c : 0 < cap := of_decide_eq_true c
      refine ⟨_, rfl, _, rfl, .ref t, RM.hoursN R, R, rfl, hV.more m1, bd, .inl ⟨_, rfl, _, rfl, _, _, rfl, rfl, wide_div (b := 100) c (Nat.lt_of_le_of_lt (show cap.natAbs ≤ 2 ^ 60 by omega) (by decide +kernel)) (by decide) (by decide), ?_⟩⟩
      rw [bs]
      refine ⟨_, rfl, .inl ⟨rfl, _, SqL.of e1⟩, _, rfl, _, rfl, _, _, rfl, rfl, by show 2 ≤ sizeLine; decide, fun q hq => ⟨bl, q, L.map V.int, [(RM.rch R (RM.hoursN R) / cap), (RM.rch R (RM.hoursN R) / cap) + 1].map V.int, rfl, rfl, s3u hq e1, upd_same, ?_, ?_⟩⟩
      · rw [List.length_map]
        show L.length + 2 ≤ sizeLine
        exact Nat.le_of_lt (small1000 (by omega))
      rw [← List.map_append]
      have m5 := same_put (o := .lst ((L ++ [(RM.rch R (RM.hoursN R) / cap), (RM.rch R (RM.hoursN R) / cap) + 1]).map V.int)) (same_new (o := .lst [.int (RM.rch R (RM.hoursN R) / cap), .int ((RM.rch R (RM.hoursN R) / cap) + 1)]) m1 hq) hbl
      have e5 : upd (upd H1 q (.lst [.int (RM.rch R (RM.hoursN R) / cap), .int ((RM.rch R (RM.hoursN R) / cap) + 1)])) bl (.lst ((L ++ [(RM.rch R (RM.hoursN R) / cap), (RM.rch R (RM.hoursN R) / cap) + 1]).map V.int)) bl = some (.lst ((L ++ [(RM.rch R (RM.hoursN R) / cap), (RM.rch R (RM.hoursN R) / cap) + 1]).map V.int)) := upd_same
      generalize upd (upd H1 q (.lst [.int (RM.rch R (RM.hoursN R) / cap), .int ((RM.rch R (RM.hoursN R) / cap) + 1)])) bl (.lst ((L ++ [(RM.rch R (RM.hoursN R) / cap), (RM.rch R (RM.hoursN R) / cap) + 1]).map V.int)) = H5 at m5 e5 ⊢
      refine ⟨_, rfl, _, _, rfl, rfl, _, rfl, ?_⟩
      refine ite2 (fun _ => ?_) (fun z => absurd (decide_eq_true c) z)
      refine ⟨_, rfl, hT.ext m5, fun H2 c' eN T2 hco => ?_⟩
      have eN0 : ExtN H H2 := (ExtN.of m5).trans eN
      refine ⟨bl, L ++ [(RM.rch R (RM.hoursN R) / cap), (RM.rch R (RM.hoursN R) / cap) + 1], RM.gCp cap R, rfl, SqL.of (eN _ _ e5 (fun _ z => nomatch z)), by rw [List.length_append]; show L.length + 2 ≤ 60; omega, fun i H' Q' i0 sm hq => ?_, fun t' M H' hpw hmem hrow fr sm => ?_⟩
      · have V2 : RowV K H' (.ref t) R := (hV.ext eN0).more sm
        refine ⟨_, rfl, _, rfl, .ref t, i, R, rfl, V2, bd, _, rfl, _, rfl, _, _, rfl, rfl, .inl ⟨by omega, by omega⟩, lrch R i, cap * i, rfl, ?_⟩
        have e : (if cap * i < lrch R i then cap * i else lrch R i) = RM.gCp cap R i := by
          unfold RM.gCp
          rw [rch_eq nn i0, rch_rm]
          exact mn_min _ _
        rw [e]
        exact hq _ (Same.refl _)
      · refine k _ H' (eN0.trans (ExtN.of sm)) (T2.ext sm) fun D vD hD => ?_
        have C' := C
        have iff : ∀ k, k ∈ M ↔ (k = 0 ∨ (k ∈ L ++ [(RM.rch R (RM.hoursN R) / cap), (RM.rch R (RM.hoursN R) / cap) + 1] ∧ 0 ≤ k)) := fun k => by rw [hmem k, List.mem_cons, List.mem_filter, decide_eq_true_eq]
        have inM : ∀ k, 0 ≤ k → k ∈ L ++ [(RM.rch R (RM.hoursN R) / cap), (RM.rch R (RM.hoursN R) / cap) + 1] → k ∈ M := fun k a b => (iff k).mpr (.inr ⟨b, a⟩)
        have er : posR (RM.rof (RM.gCp cap R) [] M) = D := by
          refine RM.capped_is vd c vD (by unfold Big; decide) hD hpw (fun k hk => ?_) ((iff 0).mpr (.inl rfl)) (fun s hs => ?_) (fun k k0 a b => ?_)
          · rcases (iff k).mp hk with rfl | ⟨_, z⟩
            · exact Int.le_refl _
            · exact z
          · refine inM s ?_ (List.mem_append_left _ (RM.cpm_ends C' s hs))
            obtain ⟨j, p, _, e⟩ := RM.ends_at hs
            have := RM.hoursN_nn (r := R.take (j + 1)) fun p hp => nn p (List.mem_of_mem_take hp)
            omega
          · have CL : RM.CpM cap R R.length (L ++ [(RM.rch R (RM.hoursN R) / cap), (RM.rch R (RM.hoursN R) / cap) + 1]) := ⟨List.mem_append_left _ C'.z, (fun j q hj e => List.mem_append_left _ (C'.e j q hj e)), (fun j q s hj e hc hs a b => List.mem_append_left _ (C'.b j q s hj e hc hs a b))⟩
            obtain ⟨z1, z2⟩ := RM.cpm_bend vd c CL (fun s hs => List.mem_append_right _ (List.mem_cons.mpr (hs.imp id fun e => List.mem_singleton.mpr e))) k k0 a b
            exact ⟨inM k k0 z1, inM (k + 1) (by omega) z2⟩
        rw [← er]
        exact hrow
    · have c : ¬ 0 < cap := fun z => c (decide_eq_true z)
      have cz : cap = 0 := by omega
      subst cz
      refine ⟨_, rfl, _, _, rfl, rfl, _, rfl, ?_⟩
      refine ite2 (fun z => absurd (of_decide_eq_true z) (by decide)) (fun _ => ?_)
      refine ⟨by show 0 ≤ sizeLine; decide, fun q hq => ?_⟩
      have m5 := same_new (o := .tup []) m1 hq
      refine k _ _ (ExtN.of m5) (hT.ext m5) fun D vD hD => ?_
      have : D = [] := RM.rch_inj vD (show RM.Vd 1 [] from trivial) fun h h0 => by
        have := RM.rch_nn vd h0
        rw [hD h h0, Int.zero_mul]
        show _ = (0 : Int)
        omega
      rw [this]
      exact ⟨q, [], rfl, SqT.of upd_same, .nil⟩
end
end Y

/-! LamP5: a lambda with one parameter and locals of its own (a comprehension within), its names told apart from its maker's. -/
namespace LamP
open PySem PySem.Spec PyProof.Rows L2 LamX
structure LamSG (sc scope : Scope) (x : Str) : Prop where
  kind : scope.kind = .function
  co : scope.isCoroutine = false
  gen : scope.isGenerator = false
  par : scope.names.lookup x = some .local
  noCell : ∀ y ∈ scope.names, y.2 ≠ .cell
  up : ∀ y ∈ scope.names, y.2 = .free → sc.names.lookup y.1 = some .cell ∨ sc.names.lookup y.1 = some .free
/-- the state of such a body, from its maker's and what it got -/
structure MkG (N Np : List Str) (scope : Scope) (x : Str) (G : L2.St → V → L2.St) : Prop where
  at_ : ∀ (σ : L2.St) (v : V) (i : Nat) (y : Str) (w : V), σ.length = N.length → Np[i]? = some y → (G σ v)[i]? = some (some w) → Vis scope y → (y = x ∧ w = v) ∨ (scope.names.lookup y = some .free ∧ ∃ j : Nat, N[j]? = some y ∧ σ[j]? = some (some w))
  len : ∀ (σ : L2.St) (v : V), σ.length = N.length → (G σ v).length = Np.length
def cxG (X : Cx) (Np : List Str) (A : Around) (outer : List Env) (s : Shared) (H : Hp) (E : XK) (scope : Scope) (f c' : Addr) : Cx := { lamCx X A outer s H E scope f c' with N := Np }
section
variable {X : Cx} {pins : List (Addr × Obj)} {σ : L2.St} {H HZ : Hp} {s s1 : Shared} {x : Str} {scope : Scope}
theorem LamSG.has (L : LamSG X.env.scope scope x) (ok : X.Ok) (y : Str × NameKind) (hy : y ∈ scope.names) (e : y.2 = .free) : ∃ c, X.env.cells.lookup y.1 = some c :=
  (L.up y hy e).elim (fun k => ok.has _ (.inl k)) (fun k => ok.has _ (.inr k))
/-- what is captured is the maker's cell -/
theorem LamSG.cell (L : LamSG X.env.scope scope x) (ok : X.Ok) {y : Str} {c : Addr} (e : (cloFrom X.env.cells scope.names []).lookup y = some c) : X.env.cells.lookup y = some c := by
  rcases cloFrom_mem (PySem.mem_of_lookup e) with hm | ⟨h1, h2⟩
  · cases hm
  · obtain ⟨d, hd⟩ := L.has ok _ h1 rfl
    have hd : X.env.cells.lookup y = some d := hd
    rw [hd, h2, hd]
    rfl
theorem LamSG.look (L : LamSG X.env.scope scope x) (ok : X.Ok) {y : Str} (hl : scope.names.lookup y = some .free) : ∃ c, (cloFrom X.env.cells scope.names []).lookup y = some c ∧ X.env.cells.lookup y = some c := by
  obtain ⟨c, hc⟩ := mem_lookup (cloFrom_has (cells := X.env.cells) (acc := []) (PySem.mem_of_lookup hl))
  exact ⟨c, hc, L.cell ok hc⟩
theorem startG {Np : List Str} {G : L2.St → V → L2.St} {A : Around} {outer : List Env} {E : XK} {f c' : Addr} {h₁ : Heap} {tk : Nat} {v : V} {u : Value} (I : Inv X pins σ H s) (L : LamSG X.env.scope scope x) (M : MkG X.N Np scope x G) (rv : L2.RelV v u)
    (e0 : Env0 X.prog X.w X.K X.mg X.base A outer s1 HZ) (hd : A.handled = none) (un : Un (frs X.stack) [] H HZ s.heap s1.heap)
    (hns : h₁.Ns s1.heap.objs.size fun y => ([(x, u)] : List (Str × Value)).reverse.lookup y) (kp : ∀ b o, s1.heap.get? b = some o → h₁.get? b = some o) :
    Inv (cxG X Np A outer s1 HZ E scope f c') [] (G σ v) HZ { s1 with heap := h₁, toks := tk } := by
  have keepC : ∀ {c : Addr} {z : Option Value}, H c = none → s.heap.IsCell c z → h₁.IsCell c z := fun {c z} n ⟨o, ho, hd⟩ => by
    obtain ⟨sl, q⟩ := un.any ho n (by simp)
    exact ⟨_, kp _ _ q, hd⟩
  have okC : (cxG X Np A outer s1 HZ E scope f c').Ok := {
    mod := e0.mod, kind := L.kind, glob := rfl, blt := rfl, above := Nat.le_refl _
    inj := fun y z c e1 e2 => I.ok.inj y z c (L.cell I.ok e1) (L.cell I.ok e2)
    has := fun y hy => by
      have hy : scope.names.lookup y = some .cell ∨ scope.names.lookup y = some .free := hy
      rcases hy with k | k
      · exact absurd rfl (L.noCell _ (PySem.mem_of_lookup k))
      · obtain ⟨c, hc, _⟩ := L.look I.ok k
        exact ⟨c, hc⟩
    cab := fun y c z _ => nomatch (show false = true from z)
    hd := fun _ => hd, frames := Around.frames_deeper e0.frames, stk := .inr ⟨rfl, rfl⟩
    exf := fun b z => nomatch (show b ∈ ([] : List Addr) from z)
    bs := e0.bs, bsz := e0.bsz
    noex := fun b _ _ z => nomatch (show b ∈ ([] : List Addr) from z)
    exfs := fun b z => nomatch (show b ∈ ([] : List Addr) from z)
    funs := e0.funs, frf := e0.frf }
  refine { ok := okC, os := rfl, bare := e0.bare, base := Un.kept kp, loc := ⟨_, hns, fun i y w e1 e2 e3 => ?_⟩, cell := fun y c e => ?_, free := e0.hok.fresh (Nat.le_refl _), freeC := fun y c e => ?_, pin := fun q hq => (nomatch (show q ∈ ([] : List (Addr × Obj)) ++ [] from hq)), hok := e0.hok.kept kp, len := ?_ }
  · have e1 : Np[i]? = some y := e1
    have e3 : Vis scope y := e3
    rcases M.at_ σ v i y w I.len e1 e2 e3 with ⟨ey, ew⟩ | ⟨k, j, j1, j2⟩
    · subst ey ew
      refine ⟨u, rv, .inl ⟨L.par, ?_⟩⟩
      show List.lookup y [(y, u)] = some u
      simp [List.lookup]
    · obtain ⟨m, _, hl⟩ := I.loc
      have vis : Vis X.env.scope y := .inr (L.up _ (PySem.mem_of_lookup k) rfl)
      obtain ⟨w', r, q⟩ := hl j y w j1 j2 vis
      obtain ⟨c, hc, hm⟩ := L.look I.ok k
      refine ⟨w', r, .inr ⟨.inr k, c, hc, ?_⟩⟩
      rcases q with ⟨k', _⟩ | ⟨_, c3, e', z⟩
      · have k' : X.env.scope.names.lookup y = some .local := k'
        rcases L.up _ (PySem.mem_of_lookup k) rfl with k2 | k2 <;> rw [show X.env.scope.names.lookup y = _ from k2] at k' <;> cases k'
      · rw [hm] at e'
        cases e'
        exact keepC (I.freeC y _ hm) z
  · obtain ⟨w', z⟩ := I.cell y c (L.cell I.ok e)
    exact ⟨w', keepC (I.freeC y c (L.cell I.ok e)) z⟩
  · obtain ⟨w', o, ho, hd⟩ := I.cell y c (L.cell I.ok e)
    exact un.free c o ho (I.freeC y c (L.cell I.ok e)) (by simp)
  · exact M.len σ v I.len
end
section
variable {X : Cx} {pins : List (Addr × Obj)} {σ : L2.St} {H : Hp} {s : Shared} {x : Str} {scope : Scope}
/-- r(e) -/
theorem pe_actG {Np : List Str} {G : L2.St → V → L2.St} {Ng : List Str} {qg : Str} {sg : Scope} {g f c' : Addr} {cdg pm ctv : Value} {params : Arguments} {body e : Expr} {k i : Nat} {a : Str} {tb : TE} {ta : TA} {p1 p2 : Pos} (I : Inv X pins σ H s) (L : LamSG X.env.scope scope x) (M : MkG X.N Np scope x G)
    (hf : s.heap.get? f = some (PySem.W.kla_obj "<lambda>" (X.env.qual ++ "<lambda>") params body scope (cloFrom X.env.cells scope.names []) pm c' ctv)) (hfn : H f = none) (hfr : f ∉ frs X.stack)
    (hbind : ∀ u : Value, bindArgs (PySem.W.kla_fn "<lambda>" (X.env.qual ++ "<lambda>") params body scope (cloFrom X.env.cells scope.names []) pm (.ref c') ctv) ⟨[u], []⟩ = pure [(x, u)])
    (hr : Room (k + 1) (X.A.deeper (envOfC qg sg s.heap.objs.size g cdg)))
    (hbody : ∀ (A : Around) (outer : List Env) (s : Shared) (H : Hp), Room k (A.deeper (lamEnv X scope s.heap.objs.size f c')) → PE (cxG X Np A outer s H C8.E0 scope f c').nox body tb)
    (hN : Ng[i]? = some a) (hv : Vis sg a) (ha : PA (gcx X Ng qg sg g cdg s H) [e] ta) (hst : ∀ env : Env, starEach [e] env = (false, eval e env) :: starEach [] env)
    (hd : (a == ("__debug__" : Str)) = false) (hcd : (a == ("__classdict__" : Str)) = false) :
    PE (gcx X Ng qg sg g cdg s H) (.Call (.Name a p1) [e] [] p2)
      (fun σZ HZ Q => σZ[i]? = some (some (.ref f)) ∧ ta σZ HZ fun vs H1 => ∃ v, vs = [v] ∧ H1 c' = some (CodeO c' (X.env.qual ++ "<lambda>")) ∧ tb (G σ v) H1 Q) := by
  refine ⟨fun pinsZ sZ σZ HZ Q IZ h => ?_⟩
  obtain ⟨hs, h⟩ := h
  refine wpAny_Call_Name_kw (thn ((pe_var (pos := p1) (i := i) hN hv hd hcd).run pinsZ sZ σZ HZ (fun v H1 => v = .ref f ∧ H1 = HZ) IZ ⟨.ref f, hs, rfl, rfl⟩) fun u0 s1 ⟨v0, H1, I1, r1, q1⟩ => ?_)
  obtain ⟨ev, eH⟩ := q1
  subst ev eH
  obtain rfl : u0 = Value.ref f := r1
  have at_ : ∀ {s2 : Shared} {H2 : Hp} {ps : List (Addr × Obj)} {σ2 : L2.St}, Inv (gcx X Ng qg sg g cdg s H) ps σ2 H2 s2 → s2.heap.get? f = some (PySem.W.kla_obj "<lambda>" (X.env.qual ++ "<lambda>") params body scope (cloFrom X.env.cells scope.names []) pm c' ctv) :=
    fun J => J.base.keep f _ hf hfn hfr (fun z => nomatch (show f ∈ ([] : List Addr) from z))
  refine PySem.W.callWith_F ⟨_, _, _, _, at_ I1⟩ (thn (ha.run p2 pinsZ s1 σZ H1 _ I1 h) fun us s2 ⟨as, H2, I2, r, q⟩ => ⟨⟨_, _, _, _, at_ I2⟩, ?_⟩) (hst _) (by rfl)
  obtain ⟨v, rfl, hc, ht⟩ := q
  obtain ⟨u, rfl, rv⟩ : ∃ u, us = [u] ∧ L2.RelV v u := by
    cases r with
    | cons h t =>
      cases t with
      | nil => exact ⟨_, rfl, h⟩
  have of2 := at_ I2
  obtain ⟨⟨oc, fs, tk, hoc, hdc, hvc⟩, _, _⟩ := I2.hok c' _ hc
  have rc : codeAny (model X.prog X.w) (X.A.deeper (envOfC qg sg s.heap.objs.size g cdg)) (.call (.ref f) ⟨[u], []⟩) (CR C8.CX0 (envOfC qg sg s.heap.objs.size g cdg :: X.stack) X.prog X.w H2 s2 Q C8.E0) s2 := by
    refine PySem.W.kla_callFunE hr.depth of2 rfl L.co L.gen rfl ⟨c', oc, fs, tk, rfl, hoc, hdc, hvc⟩ ?_
    rw [hbind]
    refine wpAny_pure (wpAny_newFunctionEnv L.noCell (fun y hy => ?_) (fun h₁ hns hsb => ⟨I2.nolimit.fresh _ hsb, ?_⟩) L.kind)
    · rw [List.mem_singleton.mp hy]
      exact L.par
    · have kp : ∀ b o, s2.heap.get? b = some o → h₁.get? b = some o := fun b o z => hsb.extBut b o (Nat.ne_of_lt (Heap.lt_size z)) (Heap.get?_push_of_some _ z)
      have J : Inv (cxG X Np (X.A.deeper (envOfC qg sg s.heap.objs.size g cdg)) (envOfC qg sg s.heap.objs.size g cdg :: X.stack) s2 H2 C8.E0 scope f c') [] (G σ v) H2 { s2 with heap := h₁, toks := s2.toks + ([(x, u)] : List (Str × Value)).length } :=
        startG I L M rv I2.env0 hr.hd I2.base hns kp
      refine PySem.W.kla_codeExpr (wpAny_mono ((hbody _ _ s2 H2 (hr.deeper _)).run [] _ _ H2 Q (J.wish _) ht) (fun u' s' hq => ?_) fun e s' hq => False.elim hq)
      obtain ⟨w', H', J', rv', q'⟩ := hq
      exact ⟨w', H', J'.os, J'.bare, J'.base, J'.hok, rv', q'⟩
  refine wpAny_call (codeAny_mono rc fun r s' hq => ?_)
  match r, hq with
  | .error _, hq => exact False.elim hq
  | .ok (.ret u), hq => exact I2.after hq
  | .ok .next, hq => exact False.elim hq
  | .ok .brk, hq => exact False.elim hq
  | .ok .cont, hq => exact False.elim hq
end
def tLamG (G : L2.St → V → L2.St) (T : List (Addr × Str)) (q : Str) (te : TE) (TT : V → (V → Hp → VK → Prop) → Hp → VK → Prop) (t : TE) : TE := fun σ H Q => te σ H fun v2 H1 => Tabs T H1 ∧ ∀ (H2 : Hp) (c' : Addr), ExtN H1 H2 → Tabs T H2 → H2 c' = some (CodeO c' q) →
  TT v2 (fun v H' Q' => t (G σ v) H' Q') H2 Q
section
variable {X : Cx} {x : Str} {scope : Scope}
/-- g(e, lambda x: body) -/
theorem pe_lamcallG {Np : List Str} {G : L2.St → V → L2.St} {T : List (Addr × Str)} {TT : V → (V → Hp → VK → Prop) → Hp → VK → Prop} {y a b2 : Str} {g c P : Addr} {k i : Nat} {pg : Arguments} {bg : List Stmt} {sg : Scope} {dV kV doc pm cdv ct oc : Value} {an od : Option Addr} {osl : Array (Option Value)} {Ng : List Str}
    {params : Arguments} {body e : Expr} {t te : TE} {p lpos pos : Pos} (hg : Gl X y) (hm : X.mg y = some (.ref g)) (hk : PySem.W.keepIn X.K (.ref g) = true)
    (lk : X.K.lookup g = some ⟨oc, od, .func (PySem.W.fnOf y y pg bg sg dV kV doc pm an cdv ct), osl⟩) (hcg : PySem.W.codeIn X.K cdv y = true) (hb : L2.Binds X.K (PySem.W.fnOf y y pg bg sg dV kV doc pm an cdv ct) [b2, a] []) (Sg : FnScope Ng [b2, a] sg) (hNg : Ng[i]? = some a) (hva : Vis sg a)
    (hG : Gives2 X Ng y sg g cdv bg a i (X.env.qual ++ "<lambda>") TT)
    (TB : TabB X.base X.mg c P) (hcode : X.env.code = .ref c) (hmT : (P, X.env.qual ++ "<lambda>") ∈ T) (hu : ∀ p ∈ T, p.1 = P → p.2 = X.env.qual ++ "<lambda>") (hr : Room (k + 2) X.A) (L : LamSG X.env.scope scope x) (M : MkG X.N Np scope x G) (hdef : defaultsOf params X.env = ([], []))
    (hbind : ∀ (q : Str) (cl : List (Str × Addr)) (pm cv ctv u : Value), bindArgs (PySem.W.kla_fn "<lambda>" q params body scope cl pm cv ctv) ⟨[u], []⟩ = pure [(x, u)])
    (hbody : ∀ (A : Around) (outer : List Env) (s : Shared) (H : Hp) (f c' : Addr), Room k (A.deeper (lamEnv X scope s.heap.objs.size f c')) → PE (cxG X Np A outer s H C8.E0 scope f c').nox body t)
    (he : PE X e te) (hst : ∀ env : Env, starEach [e, .Lambda params body scope lpos] env = (false, eval e env) :: starEach [.Lambda params body scope lpos] env) (hpl : (backTo pos (starEach [.Lambda params body scope lpos] X.env)).any (·.1) = false := by rfl)
    (hdb : (y == ("__debug__" : Str)) = false := by decide) (hd : (a == ("__debug__" : Str)) = false := by decide) (hcd : (a == ("__classdict__" : Str)) = false := by decide) :
    PE X (.Call (.Name y p) [e, .Lambda params body scope lpos] [] pos) (tLamG G T (X.env.qual ++ "<lambda>") te TT t) := by
  refine ⟨fun pins s σ H Q I h => ?_⟩
  refine wpAny_Call_Name_kw (ld_glob I hg hm ?_ hdb)
  refine PySem.W.callWith_K (h₀ := X.base) I.ok.mod.kin hk ?_ (hst _) hpl
  rw [hst]
  show wpAny _ _ (spliced ((false, eval e X.env) :: backTo pos (starEach [.Lambda params body scope lpos] X.env))) _ _ s
  refine Calls.spliced_cons (thn (he.run pins s σ H _ I h) fun u2 s1 ⟨v2, H1, I1, rv, q1⟩ => ?_)
  obtain ⟨hT, h⟩ := q1
  show wpAny _ _ (spliced ((false, eval (.Lambda params body scope lpos) X.env) :: backTo pos (starEach [] X.env))) _ _ s1
  refine Calls.spliced_cons (lam_make2 I1 TB hcode hmT hu hT hdef (fun z hz hzf => L.has I1.ok z hz hzf) fun f c' pm' ctv H2 s2 I2 eN T2 hf hfn hfr hco => ?_)
  refine Calls.spliced_nil ⟨I2.kIn, ?_⟩
  have rc : codeAny (model X.prog X.w) X.A (.call (.ref g) ⟨[u2, .ref f], []⟩) (CR C8.CX0 X.stack X.prog X.w H2 s2 Q C8.E0) s2 := by
    refine run_ofS (N := Ng) (ps := [b2, a]) (us := [u2, .ref f]) (vs := [v2, .ref f]) lk hcg Sg hr I2.env0 (hb s2 [u2, .ref f] I2.kIn rfl) (.cons rv (.cons rfl .nil)) rfl fun hr' => ?_
    obtain ⟨t', ht', hq'⟩ := hG f c' s2 H2 Q v2 (fun v H' Q' => t (G σ v) H' Q') (fun e' ta' p1 p2 ha' hst' => pe_actG I2 L M hf hfn hfr (fun u => hbind _ _ _ _ _ u) hr' (fun A outer s H hr2 => hbody A outer s H f c' hr2) hNg hva ha' hst' hd hcd) hco (h H2 c' eN T2 hco)
    exact ⟨t', ht'.nox, hq'⟩
  refine wpAny_call (codeAny_mono rc fun r s' hq => ?_)
  match r, hq with
  | .error _, hq => exact False.elim hq
  | .ok (.ret u), hq => exact I2.after hq
  | .ok .next, hq => exact False.elim hq
  | .ok .brk, hq => exact False.elim hq
  | .ok .cont, hq => exact False.elim hq
end
end LamP

/-! LamP6: a lambda whose one parameter a comprehension within captures: it is a cell. -/
namespace LamP
open PySem PySem.Spec PyProof.Rows L2 LamX
structure LamSC (sc scope : Scope) (x : Str) : Prop where
  kind : scope.kind = .function
  co : scope.isCoroutine = false
  gen : scope.isGenerator = false
  par : scope.names.lookup x = some .cell
  one : ∀ y, scope.names.lookup y = some .cell → y = x
  nox : ∀ y ∈ scope.names, y.2 = .free → y.1 ≠ x
  up : ∀ y ∈ scope.names, y.2 = .free → sc.names.lookup y.1 = some .cell ∨ sc.names.lookup y.1 = some .free
  cf : ∀ n acc, cellsFrom n scope.names acc = (x, n) :: acc
  pc : ∀ h : Heap, pushCells h scope.names = h.push { cls := .type "cell", data := .cell none }
abbrev lamEnvC (X : Cx) (scope : Scope) (x : Str) (L f c' : Addr) : Env := PySem.W.envX (X.env.qual ++ "<lambda>") scope L f (.ref c') ((x, L + 1) :: cloFrom X.env.cells scope.names [])
def cxC (X : Cx) (Np : List Str) (x : Str) (A : Around) (outer : List Env) (s : Shared) (H : Hp) (E : XK) (scope : Scope) (f c' : Addr) : Cx where
  prog := X.prog
  w := X.w
  K := X.K
  mg := X.mg
  base := X.base
  A := A.deeper (lamEnvC X scope x s.heap.objs.size f c')
  N := Np
  s_0 := s
  H_0 := H
  env := lamEnvC X scope x s.heap.objs.size f c'
  outer := outer
  stack := lamEnvC X scope x s.heap.objs.size f c' :: outer
  ex := []
  fn := fun _ => false
  calm := true
  pn := []
  xe := fun e s' => wpAny (model X.prog X.w) (A.deeper (lamEnvC X scope x s.heap.objs.size f c')) (leaving (lamEnvC X scope x s.heap.objs.size f c') e) (fun _ s'' => L2.CX X.prog X.w outer H s E e s'') (fun e' s'' => L2.CX X.prog X.w outer H s E e' s'') s'
theorem newEnvC {M : Model} {A : Around} {E : Value → Shared → Prop} {s : Shared} {scope : Scope} {globals : Addr} {clo : List (Str × Addr)} {x : Str} {u : Value} {qual : Str} {func : Option Addr} {code : Value} {builtins : Addr} {Q : Env → Shared → Prop}
    (hk : scope.kind = .function) (hl : scope.names.lookup x = some .cell) (cf : ∀ n acc, cellsFrom n scope.names acc = (x, n) :: acc) (pc : ∀ h : Heap, pushCells h scope.names = h.push { cls := .type "cell", data := .cell none })
    (hQ : ∀ h', h'.Ns s.heap.objs.size (fun _ => none) → h'.IsCell (s.heap.objs.size + 1) (some u) → (∀ b o, s.heap.get? b = some o → h'.get? b = some o) → Q (newEnv scope s.heap.objs.size globals ((x, s.heap.objs.size + 1) :: clo) qual func code none builtins) { s with heap := h' }) :
    wpAny M A (newFunctionEnv scope globals clo [(x, u)] qual func code none builtins) Q E s := by
  simp only [newFunctionEnv, Option.isSome_none, Bool.false_eq_true, if_false]
  refine wpAny_bind (wpAny_alloc ?_)
  refine wpAny_bind (wpAny_layCells _ (fun name kind cells => by cases hkc : kind == NameKind.cell <;> simp [hkc]) _ _ _ _ ?_)
  rw [cf, pc]
  rw [show ({ s with heap := s.heap.push { cls := .type "frame", data := .dict #[] } } : Shared).heap.objs.size = s.heap.objs.size + 1 from Heap.size_push ..]
  have n0 := Heap.Ns.new s.heap (.type "frame")
  have k0 : ∀ b o, s.heap.get? b = some o → ((s.heap.push { cls := .type "frame", data := .dict #[] }).push { cls := .type "cell", data := .cell none }).get? b = some o := fun b o e => Heap.get?_push_of_some _ (Heap.get?_push_of_some _ e)
  have n1 : ((s.heap.push { cls := .type "frame", data := .dict #[] }).push { cls := .type "cell", data := .cell none }).Ns s.heap.objs.size (fun _ => none) := n0.keeps fun b o e => Heap.get?_push_of_some _ e
  have c1 : ((s.heap.push { cls := .type "frame", data := .dict #[] }).push { cls := .type "cell", data := .cell none }).IsCell (s.heap.objs.size + 1) none := ⟨_, by
    have := Heap.get?_push_size (s.heap.push { cls := .type "frame", data := .dict #[] }) (o := { cls := .type "cell", data := .cell none }) rfl
    rw [Heap.size_push] at this
    exact this, rfl⟩
  generalize (s.heap.push { cls := .type "frame", data := .dict #[] }).push { cls := .type "cell", data := .cell none } = h1 at k0 n1 c1 ⊢
  rw [List.forIn_cons]
  refine wpAny_bind (wpAny_bind (wpAny_bind (wpAny_storeName_cell hk hl (by simp [List.lookup]) c1 fun h' hc hs => ?_)))
  refine wpAny_pure ?_
  dsimp only
  rw [List.forIn_nil]
  refine wpAny_pure (wpAny_pure (hQ h' (n1.sameBut hs (Nat.ne_of_lt (Nat.lt_succ_self _))) hc fun b o e => ?_))
  have : b < s.heap.objs.size := Heap.lt_size e
  exact hs.extBut b o (Nat.ne_of_lt (Nat.lt_succ_of_lt this)) (k0 b o e)
section
variable {X : Cx} {pins : List (Addr × Obj)} {σ : L2.St} {H HZ : Hp} {s s1 : Shared} {x : Str} {scope : Scope}
theorem LamSC.has (L : LamSC X.env.scope scope x) (ok : X.Ok) (y : Str × NameKind) (hy : y ∈ scope.names) (e : y.2 = .free) : ∃ c, X.env.cells.lookup y.1 = some c :=
  (L.up y hy e).elim (fun k => ok.has _ (.inl k)) (fun k => ok.has _ (.inr k))
theorem LamSC.cell (L : LamSC X.env.scope scope x) (ok : X.Ok) {y : Str} {c : Addr} (e : (cloFrom X.env.cells scope.names []).lookup y = some c) : X.env.cells.lookup y = some c ∧ y ≠ x := by
  rcases cloFrom_mem (PySem.mem_of_lookup e) with hm | ⟨h1, h2⟩
  · cases hm
  · obtain ⟨d, hd⟩ := L.has ok _ h1 rfl
    have hd : X.env.cells.lookup y = some d := hd
    refine ⟨?_, L.nox _ h1 rfl⟩
    rw [hd, h2, hd]
    rfl
theorem LamSC.look (L : LamSC X.env.scope scope x) (ok : X.Ok) {y : Str} (hl : scope.names.lookup y = some .free) : ∃ c, (cloFrom X.env.cells scope.names []).lookup y = some c ∧ X.env.cells.lookup y = some c ∧ y ≠ x := by
  obtain ⟨c, hc⟩ := mem_lookup (cloFrom_has (cells := X.env.cells) (acc := []) (PySem.mem_of_lookup hl))
  exact ⟨c, hc, L.cell ok hc⟩
theorem cons_look {x y : Str} {a c : Addr} {l : List (Str × Addr)} (h : ((x, a) :: l).lookup y = some c) : (y = x ∧ c = a) ∨ (y ≠ x ∧ l.lookup y = some c) := by
  by_cases e : y = x
  · subst e
    simp [List.lookup] at h
    exact .inl ⟨rfl, h.symm⟩
  · have : (y == x) = false := by simpa using e
    simp [List.lookup, this] at h
    exact .inr ⟨e, h⟩
theorem cons_skip {x y : Str} {a c : Addr} {l : List (Str × Addr)} (e : y ≠ x) (h : l.lookup y = some c) : ((x, a) :: l).lookup y = some c := by
  have : (y == x) = false := by simpa using e
  simp [List.lookup, this, h]
theorem startC {Np : List Str} {G : L2.St → V → L2.St} {A : Around} {outer : List Env} {E : XK} {f c' : Addr} {h₁ : Heap} {v : V} {u : Value} (I : Inv X pins σ H s) (L : LamSC X.env.scope scope x) (M : MkG X.N Np scope x G) (rv : L2.RelV v u)
    (e0 : Env0 X.prog X.w X.K X.mg X.base A outer s1 HZ) (hd : A.handled = none) (un : Un (frs X.stack) [] H HZ s.heap s1.heap)
    (hns : h₁.Ns s1.heap.objs.size fun _ => none) (hcx : h₁.IsCell (s1.heap.objs.size + 1) (some u)) (kp : ∀ b o, s1.heap.get? b = some o → h₁.get? b = some o) :
    Inv (cxC X Np x A outer s1 HZ E scope f c') [] (G σ v) HZ { s1 with heap := h₁ } := by
  have old : ∀ {c : Addr} {z : Option Value}, H c = none → s.heap.IsCell c z → s1.heap.IsCell c z := fun {c z} n ⟨o, ho, hd⟩ => by
    obtain ⟨sl, q⟩ := un.any ho n (by simp)
    exact ⟨_, q, hd⟩
  have keepC : ∀ {c : Addr} {z : Option Value}, H c = none → s.heap.IsCell c z → h₁.IsCell c z := fun {c z} n h => (old n h).keeps kp
  have low : ∀ {y : Str} {c : Addr}, X.env.cells.lookup y = some c → c < s1.heap.objs.size := fun {y c} e => by
    obtain ⟨w, z⟩ := I.cell y c e
    exact (old (I.freeC y c e) z).lt
  have okC : (cxC X Np x A outer s1 HZ E scope f c').Ok := {
    mod := e0.mod, kind := L.kind, glob := rfl, blt := rfl, above := Nat.le_refl _
    inj := fun y z c e1 e2 => by
      rcases cons_look e1 with ⟨a1, a2⟩ | ⟨a1, a2⟩ <;> rcases cons_look e2 with ⟨b1, b2⟩ | ⟨b1, b2⟩
      · rw [a1, b1]
      · exact absurd (low (L.cell I.ok b2).1) (by rw [show c = s1.heap.objs.size + 1 from a2]; exact Nat.not_lt.mpr (Nat.le_succ _))
      · exact absurd (low (L.cell I.ok a2).1) (by rw [show c = s1.heap.objs.size + 1 from b2]; exact Nat.not_lt.mpr (Nat.le_succ _))
      · exact I.ok.inj y z c (L.cell I.ok a2).1 (L.cell I.ok b2).1
    has := fun y hy => by
      have hy : scope.names.lookup y = some .cell ∨ scope.names.lookup y = some .free := hy
      rcases hy with k | k
      · have := L.one y k
        subst this
        exact ⟨s1.heap.objs.size + 1, by show ((y, s1.heap.objs.size + 1) :: cloFrom X.env.cells scope.names []).lookup y = _; simp [List.lookup]⟩
      · obtain ⟨c, hc, _, n⟩ := L.look I.ok k
        exact ⟨c, cons_skip n hc⟩
    cab := fun y c z _ => nomatch (show false = true from z)
    hd := fun _ => hd, frames := Around.frames_deeper e0.frames, stk := .inr ⟨rfl, rfl⟩
    exf := fun b z => nomatch (show b ∈ ([] : List Addr) from z)
    bs := e0.bs, bsz := e0.bsz
    noex := fun b _ _ z => nomatch (show b ∈ ([] : List Addr) from z)
    exfs := fun b z => nomatch (show b ∈ ([] : List Addr) from z)
    funs := e0.funs, frf := e0.frf }
  refine { ok := okC, os := rfl, bare := e0.bare, base := Un.kept kp, loc := ⟨_, hns, fun i y w e1 e2 e3 => ?_⟩, cell := fun y c e => ?_, free := e0.hok.fresh (Nat.le_refl _), freeC := fun y c e => ?_, pin := fun q hq => (nomatch (show q ∈ ([] : List (Addr × Obj)) ++ [] from hq)), hok := e0.hok.kept kp, len := M.len σ v I.len }
  · have e1 : Np[i]? = some y := e1
    have e3 : Vis scope y := e3
    rcases M.at_ σ v i y w I.len e1 e2 e3 with ⟨ey, ew⟩ | ⟨k, j, j1, j2⟩
    · subst ey ew
      exact ⟨u, rv, .inr ⟨.inl L.par, s1.heap.objs.size + 1, by show ((y, s1.heap.objs.size + 1) :: cloFrom X.env.cells scope.names []).lookup y = _; simp [List.lookup], hcx⟩⟩
    · obtain ⟨m, _, hl⟩ := I.loc
      have vis : Vis X.env.scope y := .inr (L.up _ (PySem.mem_of_lookup k) rfl)
      obtain ⟨w', r, q⟩ := hl j y w j1 j2 vis
      obtain ⟨c, hc, hm, n⟩ := L.look I.ok k
      refine ⟨w', r, .inr ⟨.inr k, c, cons_skip n hc, ?_⟩⟩
      rcases q with ⟨k', _⟩ | ⟨_, c3, e', z⟩
      · have k' : X.env.scope.names.lookup y = some .local := k'
        rcases L.up _ (PySem.mem_of_lookup k) rfl with k2 | k2 <;> rw [show X.env.scope.names.lookup y = _ from k2] at k' <;> cases k'
      · rw [hm] at e'
        cases e'
        exact keepC (I.freeC y _ hm) z
  · rcases cons_look e with ⟨_, e⟩ | ⟨_, e⟩
    · rw [e]
      exact ⟨_, hcx⟩
    · obtain ⟨w', z⟩ := I.cell y c (L.cell I.ok e).1
      exact ⟨w', keepC (I.freeC y c (L.cell I.ok e).1) z⟩
  · rcases cons_look e with ⟨_, e⟩ | ⟨_, e⟩
    · rw [e]
      exact e0.hok.fresh (Nat.le_succ _)
    · obtain ⟨w', o, ho, hd⟩ := I.cell y c (L.cell I.ok e).1
      exact un.free c o ho (I.freeC y c (L.cell I.ok e).1) (by simp)
end
section
variable {X : Cx} {pins : List (Addr × Obj)} {σ : L2.St} {H : Hp} {s : Shared} {x : Str} {scope : Scope}
/-- r(e) -/
theorem pe_actC {Np : List Str} {G : L2.St → V → L2.St} {Ng : List Str} {qg : Str} {sg : Scope} {g f c' : Addr} {cdg pm ctv : Value} {params : Arguments} {body e : Expr} {k i : Nat} {a : Str} {tb : TE} {ta : TA} {p1 p2 : Pos} (I : Inv X pins σ H s) (L : LamSC X.env.scope scope x) (M : MkG X.N Np scope x G)
    (hf : s.heap.get? f = some (PySem.W.kla_obj "<lambda>" (X.env.qual ++ "<lambda>") params body scope (cloFrom X.env.cells scope.names []) pm c' ctv)) (hfn : H f = none) (hfr : f ∉ frs X.stack)
    (hbind : ∀ u : Value, bindArgs (PySem.W.kla_fn "<lambda>" (X.env.qual ++ "<lambda>") params body scope (cloFrom X.env.cells scope.names []) pm (.ref c') ctv) ⟨[u], []⟩ = pure [(x, u)])
    (hr : Room (k + 1) (X.A.deeper (envOfC qg sg s.heap.objs.size g cdg)))
    (hbody : ∀ (A : Around) (outer : List Env) (s : Shared) (H : Hp), Room k (A.deeper (lamEnvC X scope x s.heap.objs.size f c')) → PE (cxC X Np x A outer s H C8.E0 scope f c').nox body tb)
    (hN : Ng[i]? = some a) (hv : Vis sg a) (ha : PA (gcx X Ng qg sg g cdg s H) [e] ta) (hst : ∀ env : Env, starEach [e] env = (false, eval e env) :: starEach [] env)
    (hd : (a == ("__debug__" : Str)) = false) (hcd : (a == ("__classdict__" : Str)) = false) :
    PE (gcx X Ng qg sg g cdg s H) (.Call (.Name a p1) [e] [] p2)
      (fun σZ HZ Q => σZ[i]? = some (some (.ref f)) ∧ ta σZ HZ fun vs H1 => ∃ v, vs = [v] ∧ H1 c' = some (CodeO c' (X.env.qual ++ "<lambda>")) ∧ tb (G σ v) H1 Q) := by
  refine ⟨fun pinsZ sZ σZ HZ Q IZ h => ?_⟩
  obtain ⟨hs, h⟩ := h
  refine wpAny_Call_Name_kw (thn ((pe_var (pos := p1) (i := i) hN hv hd hcd).run pinsZ sZ σZ HZ (fun v H1 => v = .ref f ∧ H1 = HZ) IZ ⟨.ref f, hs, rfl, rfl⟩) fun u0 s1 ⟨v0, H1, I1, r1, q1⟩ => ?_)
  obtain ⟨ev, eH⟩ := q1
  subst ev eH
  obtain rfl : u0 = Value.ref f := r1
  have at_ : ∀ {s2 : Shared} {H2 : Hp} {ps : List (Addr × Obj)} {σ2 : L2.St}, Inv (gcx X Ng qg sg g cdg s H) ps σ2 H2 s2 → s2.heap.get? f = some (PySem.W.kla_obj "<lambda>" (X.env.qual ++ "<lambda>") params body scope (cloFrom X.env.cells scope.names []) pm c' ctv) :=
    fun J => J.base.keep f _ hf hfn hfr (fun z => nomatch (show f ∈ ([] : List Addr) from z))
  refine PySem.W.callWith_F ⟨_, _, _, _, at_ I1⟩ (thn (ha.run p2 pinsZ s1 σZ H1 _ I1 h) fun us s2 ⟨as, H2, I2, r, q⟩ => ⟨⟨_, _, _, _, at_ I2⟩, ?_⟩) (hst _) (by rfl)
  obtain ⟨v, rfl, hc, ht⟩ := q
  obtain ⟨u, rfl, rv⟩ : ∃ u, us = [u] ∧ L2.RelV v u := by
    cases r with
    | cons h t =>
      cases t with
      | nil => exact ⟨_, rfl, h⟩
  have of2 := at_ I2
  obtain ⟨⟨oc, fs, tk, hoc, hdc, hvc⟩, _, _⟩ := I2.hok c' _ hc
  have rc : codeAny (model X.prog X.w) (X.A.deeper (envOfC qg sg s.heap.objs.size g cdg)) (.call (.ref f) ⟨[u], []⟩) (CR C8.CX0 (envOfC qg sg s.heap.objs.size g cdg :: X.stack) X.prog X.w H2 s2 Q C8.E0) s2 := by
    refine PySem.W.kla_callFunE hr.depth of2 rfl L.co L.gen rfl ⟨c', oc, fs, tk, rfl, hoc, hdc, hvc⟩ ?_
    rw [hbind]
    refine wpAny_pure (newEnvC L.kind L.par L.cf L.pc fun h₁ hns hcx kp => ⟨I2.nolimit.keeps kp, ?_⟩)
    · have J : Inv (cxC X Np x (X.A.deeper (envOfC qg sg s.heap.objs.size g cdg)) (envOfC qg sg s.heap.objs.size g cdg :: X.stack) s2 H2 C8.E0 scope f c') [] (G σ v) H2 { s2 with heap := h₁ } :=
        startC I L M rv I2.env0 hr.hd I2.base hns hcx kp
      refine PySem.W.kla_codeExpr (wpAny_mono ((hbody _ _ s2 H2 (hr.deeper _)).run [] _ _ H2 Q (J.wish _) ht) (fun u' s' hq => ?_) fun e s' hq => False.elim hq)
      obtain ⟨w', H', J', rv', q'⟩ := hq
      exact ⟨w', H', J'.os, J'.bare, J'.base, J'.hok, rv', q'⟩
  refine wpAny_call (codeAny_mono rc fun r s' hq => ?_)
  match r, hq with
  | .error _, hq => exact False.elim hq
  | .ok (.ret u), hq => exact I2.after hq
  | .ok .next, hq => exact False.elim hq
  | .ok .brk, hq => exact False.elim hq
  | .ok .cont, hq => exact False.elim hq
end
section
variable {X : Cx} {x : Str} {scope : Scope}
/-- g(e, lambda x: body) -/
theorem pe_lamcallC {Np : List Str} {G : L2.St → V → L2.St} {T : List (Addr × Str)} {TT : V → (V → Hp → VK → Prop) → Hp → VK → Prop} {y a b2 : Str} {g c P : Addr} {k i : Nat} {pg : Arguments} {bg : List Stmt} {sg : Scope} {dV kV doc pm cdv ct oc : Value} {an od : Option Addr} {osl : Array (Option Value)} {Ng : List Str}
    {params : Arguments} {body e : Expr} {t te : TE} {p lpos pos : Pos} (hg : Gl X y) (hm : X.mg y = some (.ref g)) (hk : PySem.W.keepIn X.K (.ref g) = true)
    (lk : X.K.lookup g = some ⟨oc, od, .func (PySem.W.fnOf y y pg bg sg dV kV doc pm an cdv ct), osl⟩) (hcg : PySem.W.codeIn X.K cdv y = true) (hb : L2.Binds X.K (PySem.W.fnOf y y pg bg sg dV kV doc pm an cdv ct) [b2, a] []) (Sg : FnScope Ng [b2, a] sg) (hNg : Ng[i]? = some a) (hva : Vis sg a)
    (hG : Gives2 X Ng y sg g cdv bg a i (X.env.qual ++ "<lambda>") TT)
    (TB : TabB X.base X.mg c P) (hcode : X.env.code = .ref c) (hmT : (P, X.env.qual ++ "<lambda>") ∈ T) (hu : ∀ p ∈ T, p.1 = P → p.2 = X.env.qual ++ "<lambda>") (hr : Room (k + 2) X.A) (L : LamSC X.env.scope scope x) (M : MkG X.N Np scope x G) (hdef : defaultsOf params X.env = ([], []))
    (hbind : ∀ (q : Str) (cl : List (Str × Addr)) (pm cv ctv u : Value), bindArgs (PySem.W.kla_fn "<lambda>" q params body scope cl pm cv ctv) ⟨[u], []⟩ = pure [(x, u)])
    (hbody : ∀ (A : Around) (outer : List Env) (s : Shared) (H : Hp) (f c' : Addr), Room k (A.deeper (lamEnvC X scope x s.heap.objs.size f c')) → PE (cxC X Np x A outer s H C8.E0 scope f c').nox body t)
    (he : PE X e te) (hst : ∀ env : Env, starEach [e, .Lambda params body scope lpos] env = (false, eval e env) :: starEach [.Lambda params body scope lpos] env) (hpl : (backTo pos (starEach [.Lambda params body scope lpos] X.env)).any (·.1) = false := by rfl)
    (hdb : (y == ("__debug__" : Str)) = false := by decide) (hd : (a == ("__debug__" : Str)) = false := by decide) (hcd : (a == ("__classdict__" : Str)) = false := by decide) :
    PE X (.Call (.Name y p) [e, .Lambda params body scope lpos] [] pos) (tLamG G T (X.env.qual ++ "<lambda>") te TT t) := by
  refine ⟨fun pins s σ H Q I h => ?_⟩
  refine wpAny_Call_Name_kw (ld_glob I hg hm ?_ hdb)
  refine PySem.W.callWith_K (h₀ := X.base) I.ok.mod.kin hk ?_ (hst _) hpl
  rw [hst]
  show wpAny _ _ (spliced ((false, eval e X.env) :: backTo pos (starEach [.Lambda params body scope lpos] X.env))) _ _ s
  refine Calls.spliced_cons (thn (he.run pins s σ H _ I h) fun u2 s1 ⟨v2, H1, I1, rv, q1⟩ => ?_)
  obtain ⟨hT, h⟩ := q1
  show wpAny _ _ (spliced ((false, eval (.Lambda params body scope lpos) X.env) :: backTo pos (starEach [] X.env))) _ _ s1
  refine Calls.spliced_cons (lam_make2 I1 TB hcode hmT hu hT hdef (fun z hz hzf => L.has I1.ok z hz hzf) fun f c' pm' ctv H2 s2 I2 eN T2 hf hfn hfr hco => ?_)
  refine Calls.spliced_nil ⟨I2.kIn, ?_⟩
  have rc : codeAny (model X.prog X.w) X.A (.call (.ref g) ⟨[u2, .ref f], []⟩) (CR C8.CX0 X.stack X.prog X.w H2 s2 Q C8.E0) s2 := by
    refine run_ofS (N := Ng) (ps := [b2, a]) (us := [u2, .ref f]) (vs := [v2, .ref f]) lk hcg Sg hr I2.env0 (hb s2 [u2, .ref f] I2.kIn rfl) (.cons rv (.cons rfl .nil)) rfl fun hr' => ?_
    obtain ⟨t', ht', hq'⟩ := hG f c' s2 H2 Q v2 (fun v H' Q' => t (G σ v) H' Q') (fun e' ta' p1 p2 ha' hst' => pe_actC I2 L M hf hfn hfr (fun u => hbind _ _ _ _ _ u) hr' (fun A outer s H hr2 => hbody A outer s H f c' hr2) hNg hva ha' hst' hd hcd) hco (h H2 c' eN T2 hco)
    exact ⟨t', ht'.nox, hq'⟩
  refine wpAny_call (codeAny_mono rc fun r s' hq => ?_)
  match r, hq with
  | .error _, hq => exact False.elim hq
  | .ok (.ret u), hq => exact I2.after hq
  | .ok .next, hq => exact False.elim hq
  | .ok .brk, hq => exact False.elim hq
  | .ok .cont, hq => exact False.elim hq
end
end LamP

/-! rows side by side, by the law -/
namespace Y
open PySem PySem.Spec PyProof.Rows L2 Ns LamX LamP
open C8 (pss_cut)
def qAd : Str := Str.ofString "_law_added.<locals>.<lambda>"
def spLAd (K : PySem.W.Frag) (TT : List (Addr × Str)) : Sp := fun as H Q _ => ∃ (l : Addr) (ys : List V) (Rs : List (List Run)), as = [.ref l] ∧ SqL K H l ys ∧ Paired (RowV K H) ys Rs ∧ (∀ R ∈ Rs, RM.Vd (2 ^ 60) R ∧ R.length ≤ 8) ∧ Rs.length ≤ 5 ∧ Tabs TT H ∧
  ∀ (y' : V) (H' : Hp), ExtN H H' → Tabs TT H' → (∀ (m : Int) (D : List Run), 1 ≤ m → RM.Vd m D → (∀ h, 0 ≤ h → RM.rch D h = RM.sumR Rs h) → RowV K H' y' D) → Q y' H'
def scAdL : Scope := { kind := .function, names := [("hour", .cell), ("rows", .free), ("sum", .globalImplicit)], isGenerator := false, isCoroutine := false, more := [("fast", .str "hour"), ("fast", .str "row"), ("fast", .str "rows")] }
def gAd : L2.St → V → L2.St := fun σ v => [σ.getD 0 none, some v, none]
section
variable {Pr : Program} {w : World} {K : PySem.W.Frag} {mg : Str → Option Value} {base : Heap}
theorem mkAd : MkG ["rows", "bends", "row", "hour", "step", "many"] ["rows", "hour", "row"] scAdL "hour" gAd := by
  refine ⟨fun σ v i y w hl h1 h2 h3 => ?_, fun σ v hl => rfl⟩
  match i with
  | 0 =>
    cases (show some (Str.ofString "rows") = some y from h1)
    refine .inr ⟨by decide +kernel, 0, rfl, ?_⟩
    have h2 : σ.getD 0 none = some w := Option.some.inj h2
    cases σ with
    | nil => cases h2
    | cons a σ => exact congrArg some h2
  | 1 =>
    cases (show some (Str.ofString "hour") = some y from h1)
    exact .inl ⟨rfl, (Option.some.inj (Option.some.inj (show some (some v) = some (some w) from h2))).symm⟩
  | 2 => cases (show some (none : Option V) = some (some w) from h2)
  | i + 3 => cases (show (none : Option Str) = some y from h1)
theorem lamAd : LamSC (defScope sLAdded) scAdL "hour" := by
  refine ⟨rfl, rfl, rfl, by decide +kernel, fun y h => ?_, by decide +kernel, by decide +kernel, fun _ _ => rfl, fun _ => rfl⟩
  exact (show ∀ p ∈ scAdL.names, p.2 = .cell → p.1 = "hour" by decide +kernel) (y, .cell) (PySem.mem_of_lookup h) rfl
theorem scLAd : FnScope ["rows", "bends", "row", "hour", "step", "many"] ["rows"] (defScope sLAdded) := ⟨rfl, rfl, rfl, by decide +kernel, rfl, by decide +kernel, by decide +kernel⟩
theorem ok_lawAdded {f0 fO fN fR c P : Addr} {fd dO dN dR : FuncData} {TT : List (Addr × Str)} (F : Fun K "_law_added" "_law_added" sLAdded f0 fd) (T : Nat0 mg) (hc : ∀ (oc : Value) (od : Option Addr) (gd : FuncData) (osl : Array (Option Value)), K.lookup f0 = some ⟨oc, od, .func gd, osl⟩ → gd.code = .ref c) (TB : TabB base mg c P)
    (hm : (P, qAd) ∈ TT) (hu : ∀ p ∈ TT, p.1 = P → p.2 = qAd)
    (FO : Fun K "_law_row_of" "_law_row_of" sRowOf fO dO) (mO : mg "_law_row_of" = some (.ref fO)) (bO : Binds K dO ["bends", "rule"] []) (FN : Fun K "_law_run" "_law_run" sRun fN dN) (mN : mg "_law_run" = some (.ref fN)) (bN : Binds K dN ["found", "step", "many"] []) (FR : Fun K "_law_row_reach" "_law_row_reach" sRowReach fR dR) (mR : mg "_law_row_reach" = some (.ref fR)) (bR : Binds K dR ["row", "hours"] []) :
    GnOk Pr w K mg base 4 f0 fd ["rows"] (spLAd K TT) := by
  have GR : FnOk Pr w K mg base CX0 1 fR dR ["row", "hours"] (spRI K lrch) := ok_rowReach FR T
  have GN : FnOk Pr w K mg base CX0 1 fN dN ["found", "step", "many"] (spRun K) := ok_run FN
  obtain ⟨oc, od, kV, doc, pm, an, cdB, ct, osl, eB, lkB, hcB⟩ := FO.ex
  subst eB
  refine Fun.okL (c := c) F scLAd hc (fun as H Q E h => ?_) (fun A0 outer0 s0 H0 as Q E hr hgd h => ?_)
  · obtain ⟨l, ys, Rs, rfl, _⟩ := h
    rfl
  · obtain ⟨l, ys, Rs, rfl, hL, hV, vd, l5, hT, k⟩ := h
    refine ⟨_, pss_cons (ps_set (i := 1) scLAd.nd rfl (.inl rfl) (pe_lst (pa_cons pe_int pa_nil)))
      (pss_cons (ps_for PassesOwn.never rfl (pi_list (pv 0)) (pg_name (i := 2) scLAd.nd rfl (.inl rfl))
        (pss_cons (ps_set (i := 3) scLAd.nd rfl (.inl rfl) pe_int)
        (pss_one (ps_for PassesOwn.never rfl (pi_tup (pv 2)) (pg_tup rfl (pgs_cons (pg_name (i := 4) scLAd.nd rfl (.inl rfl)) (pgs_cons (pg_name (i := 5) scLAd.nd rfl (.inl rfl)) pgs_nil)))
          (pss_cons (ps_aug (i := 3) scLAd.nd rfl (.inl rfl) (pv 5) ip_add)
          (pss_one (ps_expr (pe_bm PySem.F.plainAttrs_list PySem.F.slot_list_append PySem.F.type_list_append mt_append (pv 1) (pa_cons (pv 3) pa_nil)))))))))
      (pss_one (ps_ret (pe_lamcallC (G := gAd) (Np := ["rows", "hour", "row"]) (T := TT) (x := "hour") (a := "rule") (b2 := "bends") (Ng := ["bends", "rule", "found", "marks", "hour", "low", "high", "step", "many"]) (i := 1) (k := 1) rfl mO FO.kp lkB hcB bO scRO rfl (.inl rfl)
        (gives_rowOf T (hr.mono (by decide)) GN FN mN bN) TB rfl hm hu hr lamAd mkAd rfl (fun _ _ _ _ _ _ => rfl)
        (fun A outer s H f c' hr' => by exact pe_callB (id := "sum") (r := rSum K) (cr_sum rfl) (by rfl) T.sum (by decide +kernel) (pa_cons (pe_lc (wi := iList K (tVar 0)) (own := [("row", 2)]) (g := gName 2) (tt := tYes) rfl (show (["rows", "hour", "row"] : List Str).Nodup by decide +kernel) (pi_list (pv 0))
          (blkOk_by (N := ["rows", "hour", "row"]) (sc := scAdL) (by decide +kernel)) (fun _ _ _ _ _ => pg_name (i := 2) (show (["rows", "hour", "row"] : List Str).Nodup by decide +kernel) rfl (Or.inl rfl))
          (fun _ _ _ _ _ => pts_nil) (fun _ _ _ _ _ => pe_call GR hr' rfl mR FR.kp bR .nil pass0 (pa_cons (pv 2) (pa_cons (pv 1) pa_nil)))) pa_nil))
        (pv 1) (fun _ => rfl))))), ?_⟩
    refine ⟨by show 1 ≤ sizeLine; decide, fun bl hbl => ?_⟩
    have m0 := same_new (o := .lst [.int 0]) (Same.refl H0) hbl
    have b0 : upd H0 bl (.lst [.int 0]) bl = some (.lst [.int 0]) := upd_same
    generalize upd H0 bl (.lst [.int 0]) = H00 at m0 b0 ⊢
    have ly := paired_len hV
    have more : ∀ {H' : Hp}, Same H0 H' → Paired (RowV K H') ys Rs := fun {H'} m => paired_imp (fun v c z => z.more m) hV
    refine ⟨_, rfl, l, rfl, ⟨_, m0.seq hL⟩, ?_⟩
    refine for_list (K := K) (a := l) (xs := ys) (fun i σ H' => ∃ (L : List Int) (v2 v3 v4 v5 : Option V), σ = [some (.ref l), some (.ref bl), v2, v3, v4, v5] ∧ H' bl = some (.lst (L.map V.int)) ∧ L.length ≤ 1 + 8 * i ∧ 0 ∈ L ∧ (∀ j R, j < i → Rs[j]? = some R → ∀ s ∈ RM.endsI 0 R, s ∈ L) ∧ Same H0 H') ?_ ?_ ?_ ?_
    · exact ⟨[0], _, _, _, _, rfl, b0, Nat.le_refl _, List.mem_singleton.mpr rfl, (fun j R hj => nomatch hj), m0⟩
    · rintro i σ H' _ ⟨_, _, _, _, _, _, _, _, _, _, m⟩
      exact m.seq hL
    · rintro i y σ H1 hz ⟨L, v2, v3, v4, v5, rfl, e1, lL, z0, eL, m1⟩
      obtain ⟨R, hR, V1⟩ := paired_at (more m1) hz
      have hi : i < Rs.length := (List.getElem?_eq_some_iff.mp hR).1
      obtain ⟨vR, r8⟩ := vd R (List.mem_of_getElem? hR)
      obtain ⟨R', hR', V0⟩ := paired_at hV hz
      rw [hR] at hR'
      cases hR'
      obtain ⟨t, xs, rfl, h1', h2'⟩ := id V0
      have h1 := sqt_more m1 h1'
      have lx := paired_len h2'
      refine ⟨_, rfl, t, rfl, ⟨_, h1⟩, ?_⟩
      refine for_tup (K := K) (a := t) (xs := xs) (fun k σ H' => ∃ (L' : List Int) (v4 v5 : Option V), σ = [some (.ref l), some (.ref bl), some (.ref t), some (.int (RM.hoursN (R.take k))), v4, v5] ∧ H' bl = some (.lst (L'.map V.int)) ∧ L'.length ≤ 1 + 8 * i + k ∧ (∀ s ∈ L, s ∈ L') ∧ (∀ j, j < k → RM.hoursN (R.take (j + 1)) ∈ L') ∧ Same H0 H') ?_ ?_ ?_ ?_
      · exact ⟨L, _, _, rfl, e1, lL, fun _ h => h, (fun j hj => nomatch hj), m1⟩
      · rintro k σ H' _ ⟨_, _, _, _, _, _, _, _, m⟩
        exact sqt_more m h1'
      · rintro k z σ H' hz' ⟨L', u4, u5, rfl, e2, l2, s2, k2, m2⟩
        obtain ⟨r, hr', q, rfl, hq⟩ := paired_at h2' hz'
        have et : R.take (k + 1) = R.take k ++ [r] := by rw [List.take_succ, hr']; rfl
        have eh : RM.hoursN (R.take (k + 1)) = RM.hoursN (R.take k) + r.2 := by rw [et, RM.hrs_A]
        have hk : k < R.length := (List.getElem?_eq_some_iff.mp hr').1
        refine ⟨q, _, rfl, sqt_more m2 hq, rfl, _, _, rfl, _, _, rfl, rfl, ?_⟩
        refine ⟨_, rfl, _, rfl, _, _, rfl, rfl, ?_⟩
        refine ⟨_, rfl, .inl ⟨rfl, _, SqL.of e2⟩, _, rfl, bl, _, _, rfl, rfl, e2, ?_, ?_⟩
        · rw [List.length_map]
          exact small1000 (by omega)
        rw [eh]
        refine ⟨L' ++ [RM.hoursN (R.take k) + r.2], _, _, rfl, ?_, ?_, fun s hs => List.mem_append_left _ (s2 s hs), fun j hj => ?_, same_put m2 hbl⟩
        · rw [upd_same, List.map_append]
          rfl
        · rw [List.length_append]
          show L'.length + 1 ≤ 1 + 8 * i + (k + 1)
          omega
        · by_cases c : j = k
          · subst c
            rw [eh]
            exact List.mem_append_right _ (List.mem_singleton.mpr rfl)
          · exact List.mem_append_left _ (k2 j (by omega))
      rintro σ H' ⟨L', u4, u5, rfl, e2, l2, s2, k2, m2⟩
      rw [lx] at l2 k2
      refine ⟨L', _, _, _, _, rfl, e2, by omega, s2 _ z0, fun j R' hj hR' s hs => ?_, m2⟩
      by_cases c : j = i
      · subst c
        rw [hR] at hR'
        cases hR'
        obtain ⟨j', q, a, b⟩ := RM.ends_at hs
        rw [b, Int.zero_add]
        exact k2 j' (List.getElem?_eq_some_iff.mp a).1
      · exact s2 _ (eL j R' (by omega) hR' s hs)
    rintro σ H1 ⟨L, v2, v3, v4, v5, rfl, e1, lL, z0, eL, m1⟩
    rw [ly] at lL eL
    refine ⟨_, rfl, hT.ext m1, fun H2 c' eN T2 hco => ?_⟩
    have eN0 : ExtN H0 H2 := (ExtN.of m1).trans eN
    refine ⟨bl, L, RM.sumR Rs, rfl, SqL.of (eN _ _ e1 (fun _ z => nomatch z)), by omega, fun i H' Q' i0 sm hq => ?_, fun t' M H' hpw hmem hrow fr sm => ?_⟩
    · have mT : ∀ {G : Hp}, Same H' G → Paired (RowV K G) ys Rs := fun {G} z => paired_imp (fun v c y => ((y.ext eN0).more sm).more z) hV
      have lT : ∀ {G : Hp}, Same H' G → SqL K G l ys := fun {G} z => z.seq (sm.seq (sql_ext eN0 hL))
      refine ⟨_, rfl, l, rfl, ⟨_, lT (Same.refl H')⟩, fun D hD => ?_⟩
      refine lc_list (K := K) (a := l) (xs := ys) (fun j G => G D = some (.lst (((Rs.take j).map fun R => RM.rch R i).map V.int)) ∧ Same H' G) ?_ ?_ ?_ ?_
      · exact ⟨by rw [List.take_zero]; exact upd_same, same_new (Same.refl H') hD⟩
      · rintro j G _ ⟨_, z⟩
        exact lT z
      · rintro j y G hy ⟨q1, q2⟩
        obtain ⟨R, hR, VR⟩ := paired_at (mT q2) hy
        have hj : j < Rs.length := (List.getElem?_eq_some_iff.mp hR).1
        obtain ⟨vR, _⟩ := vd R (List.mem_of_getElem? hR)
        have eq : lrch R i = RM.rch R i := by rw [rch_eq (RM.vd_n0 vR) i0, rch_rm]
        refine ⟨rfl, _, rfl, _, rfl, y, i, R, rfl, VR, vd_bd vR (Int.le_refl _), ?_⟩
        refine ⟨_, q1, ?_, ?_, same_put q2 hD⟩
        · rw [List.length_map, List.length_map, List.length_take]
          exact small1000 (by omega)
        · rw [upd_same, List.take_succ, hR, eq]
          simp
      rintro G ⟨q1, q2⟩
      rw [ly, List.take_length] at q1
      refine ⟨D, _, rfl, SqL.of q1, ?_⟩
      exact hq G q2
    · refine k _ H' (eN0.trans (ExtN.of sm)) (T2.ext sm) fun m D hm vD hD => ?_
      have iff : ∀ k, k ∈ M ↔ (k = 0 ∨ (k ∈ L ∧ 0 ≤ k)) := fun k => by rw [hmem k, List.mem_cons, List.mem_filter, decide_eq_true_eq]
      have er : posR (RM.rof (RM.sumR Rs) [] M) = D := by
        refine RM.added_is (fun R hR => ⟨_, (vd R hR).1⟩) vD hm hD hpw (fun k hk => ?_) ((iff 0).mpr (.inl rfl)) fun R hR s hs => ?_
        · rcases (iff k).mp hk with rfl | ⟨_, z⟩
          · exact Int.le_refl _
          · exact z
        · obtain ⟨j, hj⟩ := List.getElem?_of_mem hR
          refine (iff s).mpr (.inr ⟨eL j R (List.getElem?_eq_some_iff.mp hj).1 hj s hs, ?_⟩)
          obtain ⟨j', q, a, b⟩ := RM.ends_at hs
          have := RM.hoursN_nn (r := R.take (j' + 1)) fun p hp => RM.vd_n0 (vd R hR).1 p (List.mem_of_mem_take hp)
          omega
      rw [← er]
      exact hrow
end
end Y

/-! NsP: three plain local names stored at once. -/
namespace Ns
open PySem PySem.Spec PyProof.Rows L2
def tPar3 (i j k : Nat) (ta : TA) : TS := fun D σ H => ta σ H fun vs H1 => ∃ v w z, vs = [v, w, z] ∧ D.nx (((σ.set i (some v)).set j (some w)).set k (some z)) H1
theorem ps_par3 {X : Cx} {i j k : Nat} {x y z : Str} {a b c : Expr} {ta : TA} {px py pz pt pos : Pos} {kt k2 pt2} (hc : X.calm = true) (hN : X.N.Nodup) (hi : X.N[i]? = some x) (hj : X.N[j]? = some y) (hk : X.N[k]? = some z) (hij : i ≠ j) (hik : i ≠ k) (hjk : j ≠ k)
    (hx : X.env.scope.names.lookup x = some .local) (hy : X.env.scope.names.lookup y = some .local) (hz : X.env.scope.names.lookup z = some .local) (ha : PA X [a, b, c] ta)
    (hw : swappedStores [.Tuple [.Name x px, .Name y py, .Name z pz] kt pt] (.Tuple [a, b, c] k2 pt2) X.env = pure (some [x, y, z]))
    (hs : swapsWithSole [.Tuple [.Name x px, .Name y py, .Name z pz] kt pt] (.Tuple [a, b, c] k2 pt2) pos.line X.env = pure false := by rfl) :
    PS X (.Assign [.Tuple [.Name x px, .Name y py, .Name z pz] kt pt] (.Tuple [a, b, c] k2 pt2) pos) (tPar3 i j k ta) := by
  refine ⟨fun pins s σ H D I h => ?_⟩
  rw [exec_Assign_arm]
  refine wpAny_bind (wpAny_standAt ?_)
  rw [hs]
  refine wpAny_bind (wpAny_pure ?_)
  rw [if_neg (by decide)]
  refine wpAny_bind (Tuple_ (thn (ha.run _ pins s σ H _ I h) fun us s1 ⟨vs, H1, I1, r1, q1⟩ => ?_))
  obtain ⟨v1, v2, v3, e1, q1⟩ := q1
  subst e1
  obtain ⟨u1, u2, u3, rfl, t1, t2, t3⟩ : ∃ u1 u2 u3, us = [u1, u2, u3] ∧ RelV v1 u1 ∧ RelV v2 u2 ∧ RelV v3 u3 := by
    cases r1 with
    | cons p q => cases q with
      | cons p' q' => cases q' with
        | cons p'' q'' =>
          cases q''
          exact ⟨_, _, _, rfl, p, p', p''⟩
  refine wpAny_newObj_type ?_ (by show 3 ≤ sizeLine; decide)
  have I2 : Inv X pins σ H1 { s1 with heap := s1.heap.push { cls := .type "tuple", data := .seq [u1, u2, u3].toArray } } := I1.kept (t' := s1.toks) fun b o e => Heap.get?_push_of_some _ e
  rw [hw]
  refine wpAny_bind (wpAny_pure ?_)
  show wpAny (model X.prog X.w) X.A (do rule "assign.swapped-stores"; let items ← unpackItems (.ref s1.heap.objs.size) 3 none; assignInOrder [fun v => bindName X.env z v, fun v => bindName X.env y v, fun v => bindName X.env x v] items.reverse; pure Flow.next) _ _ _
  refine wpAny_bind (wpAny_rule (wpAny_bind (unpackItems_tuple (items := #[u1, u2, u3]) (I.ok.hd hc) (IsTup.new s1.heap _) fun h' hx' => ?_)))
  have I3 := I2.kept (h' := h') (t' := s1.toks) fun b o e => hx' b o (Nat.ne_of_lt (Heap.lt_size e)) e
  show wpAny _ _ (assignInOrder [fun v => bindName X.env z v, fun v => bindName X.env y v, fun v => bindName X.env x v] [u3, u2, u1] >>= fun _ => pure Flow.next) _ _ _
  refine wpAny_bind (assignInOrder_cons (wpAny_bindName (store_ok I3 hN hk (.inl hz) t3 (fun s2 I4 => ?_) (.inr hz))))
  refine assignInOrder_cons (wpAny_bindName (store_ok I4 hN hj (.inl hy) t2 (fun s3 I5 => ?_) (.inr hy)))
  refine assignInOrder_cons (wpAny_bindName (store_ok I5 hN hi (.inl hx) t1 (fun s4 I6 => assignInOrder_nil (wpAny_pure ?_)) (.inr hx)))
  have e : ((σ.set k (some v3)).set j (some v2)).set i (some v1) = ((σ.set i (some v1)).set j (some v2)).set k (some v3) := by
    rw [List.set_comm _ _ (Ne.symm hjk), List.set_comm _ _ (Ne.symm hik), List.set_comm _ _ (Ne.symm hij)]
  rw [e] at I6
  exact ⟨_, H1, I6, q1⟩
end Ns

/-! NsQ: zip of a tuple, a tuple and a list. -/
namespace Ns
open PySem PySem.Spec PyProof.Rows L2
def Itz3 (K : PySem.W.Frag) (a b c : Addr) : It :=
  ⟨fun i H => ∃ (xs ys zs : List V) (x y z : V), SqT K H a xs ∧ SqT K H b ys ∧ SqL K H c zs ∧ xs[i]? = some x ∧ ys[i]? = some y ∧ zs[i]? = some z,
    fun i H v H' => ∃ T x y z, v = .ref T ∧ H T = none ∧ H' = upd H T (.tup [x, y, z]) ∧ (∀ xs, SqT K H a xs → xs[i]? = some x) ∧ (∀ ys, SqT K H b ys → ys[i]? = some y) ∧ ∀ zs, SqL K H c zs → zs[i]? = some z,
    fun i H => ∃ xs ys zs : List V, SqT K H a xs ∧ SqT K H b ys ∧ SqL K H c zs ∧ xs.length = i ∧ ys.length = i ∧ i ≤ zs.length⟩
theorem turn_zip3 {P : Program} {w : World} {K : PySem.W.Frag} {elts : List Expr} {kk : Nat} {tpos : Pos} {a b c z TI TO i1 i2 i3 : Addr} (S : ZipSep3 z TI TO i1 i2 i3 [i1, a] [i2, b] [i3, c]) (na : a ≠ i1) (nb : b ≠ i2) (nc : c ≠ i3) :
    Turn P w K (.Tuple elts kk tpos) (Itz3 K a b c) [z, TI, TO, i1, i2, i3] z (fun i h => IsZip h z TI TO .none ∧ IsTupOf3 h TI (.ref i1) (.ref i2) (.ref i3) ∧ (∃ a1 a2 a3, IsTupOf3 h TO a1 a2 a3) ∧ h.IsTupleIter i1 a i ∧ h.IsTupleIter i2 b i ∧ h.IsListIter i3 c i) where
  mem := by simp
  obj := fun i h st d hd => by
    obtain ⟨hz, hTI, ⟨x, y, u, hTO⟩, ⟨o1, e1, _, d1⟩, ⟨o2, e2, _, d2⟩, ⟨o3, e3, _, d3⟩⟩ := st
    have e' : d = z ∨ d = TI ∨ d = TO ∨ d = i1 ∨ d = i2 ∨ d = i3 := by simpa using hd
    rcases e' with q | q | q | q | q | q
    · rw [q]; exact ⟨_, hz, fun v q => nomatch q⟩
    · rw [q]; exact ⟨_, hTI, fun v q => nomatch q⟩
    · rw [q]; exact ⟨_, hTO, fun v q => nomatch q⟩
    · rw [q]; exact ⟨o1, e1, fun v q => by rw [d1] at q; cases q⟩
    · rw [q]; exact ⟨o2, e2, fun v q => by rw [d2] at q; cases q⟩
    · rw [q]; exact ⟨o3, e3, fun v q => by rw [d3] at q; cases q⟩
  keep := fun i h h' st k => by
    obtain ⟨hz, hTI, ⟨x, y, u, hTO⟩, h1, h2, h3⟩ := st
    exact ⟨k z (by simp) _ hz, k TI (by simp) _ hTI, ⟨x, y, u, k TO (by simp) _ hTO⟩, h1.at fun o q => k i1 (by simp) o q, h2.at fun o q => k i2 (by simp) o q, h3.at fun o q => k i3 (by simp) o q⟩
  item := by
    intro X hP hw hK hc i pins s σ H E I hf st hg
    subst hP hw hK
    have low : ∀ d ∈ [z, TI, TO, i1, i2, i3], d < s.heap.objs.size := fun d hd => by
      obtain ⟨hz, hTI, ⟨x, y, u, hTO⟩, ⟨o1, e1, _⟩, ⟨o2, e2, _⟩, ⟨o3, e3, _⟩⟩ := st
      have e' : d = z ∨ d = TI ∨ d = TO ∨ d = i1 ∨ d = i2 ∨ d = i3 := by simpa using hd
      rcases e' with q | q | q | q | q | q
      · rw [q]; exact Heap.lt_size hz
      · rw [q]; exact Heap.lt_size hTI
      · rw [q]; exact Heap.lt_size hTO
      · rw [q]; exact Heap.lt_size e1
      · rw [q]; exact Heap.lt_size e2
      · rw [q]; exact Heap.lt_size e3
    obtain ⟨hz, hTI, hTO, h1, h2, h3⟩ := st
    obtain ⟨xs, ys, zs, x, y, u, hqx, hqy, hqz, hx, hy, hu⟩ := hg
    obtain ⟨its, rv, p, _⟩ := I.tuple hqx
    obtain ⟨its2, rv2, p2, _⟩ := I.tuple hqy
    obtain ⟨its3, rv3, p3, _⟩ := I.list hqz
    obtain ⟨v1, hv1, rx⟩ := rv.get hx
    obtain ⟨v2, hv2, ry⟩ := rv2.get hy
    obtain ⟨v3, hv3, ru⟩ := rv3.get hu
    have W := GoesN.zip3 (prog := X.prog) (w := X.w) (A := X.A) (elts := elts) (x1 := kk) (pos := tpos) S (Draws.tuple (prog := X.prog) (w := X.w) (A := X.A.in1) (I.ok.hd hc) i1 a na its.toArray) (Draws.tuple (prog := X.prog) (w := X.w) (A := X.A.in1) (I.ok.hd hc) i2 b nb its2.toArray) (Draws.list (prog := X.prog) (w := X.w) (A := X.A.in1) (I.ok.hd hc) i3 c nc its3.toArray)
    have b1 := (List.getElem?_eq_some_iff.mp hv1).1
    have b2 := (List.getElem?_eq_some_iff.mp hv2).1
    have b3 := (List.getElem?_eq_some_iff.mp hv3).1
    refine W.goes i s _ E (by simp; omega) ⟨hz, hTI, hTO, ⟨h1, p⟩, ⟨h2, p2⟩, ⟨h3, p3.isList⟩⟩ fun v h' tk hY st' hk htk => ?_
    obtain ⟨T, x', y', u', rfl, hT, P1, P2, P3, tup⟩ := hY
    have ex : x' = v1 := by
      have P1 : its.toArray[i]? = some x' := P1
      rw [show its.toArray[i]? = some v1 by simpa using hv1] at P1
      exact (Option.some.inj P1).symm
    have ey : y' = v2 := by
      have P2 : its2.toArray[i]? = some y' := P2
      rw [show its2.toArray[i]? = some v2 by simpa using hv2] at P2
      exact (Option.some.inj P2).symm
    have eu : u' = v3 := by
      have P3 : its3.toArray[i]? = some u' := P3
      rw [show its3.toArray[i]? = some v3 by simpa using hv3] at P3
      exact (Option.some.inj P3).symm
    subst ex ey eu
    have new : ObjOk X.prog X.w (upd H T (.tup [x, y, u])) h' T (.tup [x, y, u]) :=
      ⟨by show 3 ≤ sizeLine; decide, [x', y', u'], .cons rx (.cons ry (.cons ru .nil)), tup⟩
    have sub : ∀ d ∈ [z, TO, i1, i2, i3], d ∈ [z, TI, TO, i1, i2, i3] := fun d hd => by
      simp only [List.mem_cons, List.not_mem_nil, or_false] at hd ⊢
      rcases hd with q | q | q | q | q <;> simp [q]
    have I1 : Inv X pins σ (upd H T (.tup [x, y, u])) { s with heap := h', toks := tk } :=
      I.turnedNew (ch := [z, TO, i1, i2, i3]) hk (fun d hd => hf d (sub d hd)) hT new
    obtain ⟨z1, z2, z3, z4, z5, z6⟩ := st'
    refine ⟨.ref T, _, I1, rfl, ⟨T, x, y, u, rfl, I.hok.fresh hT, rfl, fun l hl => by rw [I.tuple_inj hl hqx]; exact hx, fun l hl => by rw [I.tuple_inj hl hqy]; exact hy, fun l hl => by rw [I.list_inj hl hqz]; exact hu⟩, ⟨z1, z2, z3, z4.1, z5.1, z6.1⟩, fun d hd => ?_⟩
    rw [upd_ne (Nat.ne_of_lt (Nat.lt_of_lt_of_le (low d hd) hT))]
    exact (hf d hd).1
  done := by
    intro X hP hw hK hc i pins s σ H E I hf st hg
    subst hP hw hK
    obtain ⟨hz, hTI, hTO, h1, h2, h3⟩ := st
    obtain ⟨xs, ys, zs, hqx, hqy, hqz, l1, l2, l3⟩ := hg
    obtain ⟨its, rv, p, _⟩ := I.tuple hqx
    obtain ⟨its2, rv2, p2, _⟩ := I.tuple hqy
    obtain ⟨its3, rv3, p3, _⟩ := I.list hqz
    have k1 := rv.length
    have k2 := rv2.length
    have k3 := rv3.length
    have W := GoesN.zip3 (prog := X.prog) (w := X.w) (A := X.A) (elts := elts) (x1 := kk) (pos := tpos) S (Draws.tuple (prog := X.prog) (w := X.w) (A := X.A.in1) (I.ok.hd hc) i1 a na its.toArray) (Draws.tuple (prog := X.prog) (w := X.w) (A := X.A.in1) (I.ok.hd hc) i2 b nb its2.toArray) (Draws.list (prog := X.prog) (w := X.w) (A := X.A.in1) (I.ok.hd hc) i3 c nc its3.toArray)
    have en : min (min its.toArray.size its2.toArray.size) its3.toArray.size = i := by simp; omega
    have sub : ∀ d ∈ [z, TO, i1, i2, i3], d ∈ [z, TI, TO, i1, i2, i3] := fun d hd => by
      simp only [List.mem_cons, List.not_mem_nil, or_false] at hd ⊢
      rcases hd with q | q | q | q | q <;> simp [q]
    refine W.stops s _ E (by rw [en]; exact ⟨hz, hTI, hTO, ⟨h1, p⟩, ⟨h2, p2⟩, ⟨h3, p3.isList⟩⟩) fun h' tk hk htk => ?_
    exact I.turnedL (t' := tk) (ch := [z, TO, i1, i2, i3]) hk (fun d hd => hf d (sub d hd))
  self := fun A i s Q E st h => wpAny_pyIter_zip st.1 h
def iZip3 (K : PySem.W.Frag) (ta : TA) : TI := fun σ H R => ta σ H fun vs H1 => ∃ a b c xs ys zs, vs = [.ref a, .ref b, .ref c] ∧ SqT K H1 a xs ∧ SqT K H1 b ys ∧ SqL K H1 c zs ∧ R (Itz3 K a b c) H1
theorem pi_zip3 {X : Cx} {e e2 e3 : Expr} {ta : TA} {p pos tpos : Pos} {elts : List Expr} {kk : Nat} (hg : Gl X "zip") (hm : X.mg "zip" = none) (ha : PA X [e, e2, e3] ta)
    (hs : starEach [e, e2, e3] X.env = (false, eval e X.env) :: starEach [e2, e3] X.env := by rfl) (hpl : (backTo pos (starEach [e2, e3] X.env)).any (·.1) = false := by rfl) :
    PI X (.Tuple elts kk tpos) (.Call (.Name "zip" p) [e, e2, e3] [] pos) (iZip3 X.K ta) := by
  refine ⟨fun pins s σ H R I h => ?_⟩
  refine Call_ (ld_blt I hg hm PyProof.Rows.boot_zip (PyProof.Rows.callWith_type1 (thn (ha.run pos pins s σ H _ I h) fun us s1 ⟨vs, H1, I1, r1, q1⟩ => ?_) hs hpl))
  obtain ⟨a, b, c, xs, ys, zs, ex, hqx, hqy, hqz, q⟩ := q1
  subst ex
  obtain ⟨rfl⟩ : us = [.ref a, .ref b, .ref c] := by
    cases r1 with
    | cons r rr => cases rr with
      | cons r' rr => cases rr with
        | cons r'' rr =>
          cases rr
          cases r
          cases r'
          cases r''
          rfl
  have fresh6 : ∀ d, d ∈ [s1.heap.objs.size + 5, s1.heap.objs.size + 3, s1.heap.objs.size + 4, s1.heap.objs.size, s1.heap.objs.size + 1, s1.heap.objs.size + 2] → FpOk X pins H1 d := fun d hd => by
    have e' : d = s1.heap.objs.size + 5 ∨ d = s1.heap.objs.size + 3 ∨ d = s1.heap.objs.size + 4 ∨ d = s1.heap.objs.size ∨ d = s1.heap.objs.size + 1 ∨ d = s1.heap.objs.size + 2 := by simpa using hd
    have hle : s1.heap.objs.size ≤ d := by
      rcases e' with z | z | z | z | z | z <;> rw [z]
      · exact Nat.le_add_right _ _
      · exact Nat.le_add_right _ _
      · exact Nat.le_add_right _ _
      · exact Nat.le_refl _
      · exact Nat.le_add_right _ _
      · exact Nat.le_add_right _ _
    exact I1.fpOk hle (I1.hok.fresh hle)
  obtain ⟨its, rv, p1, _⟩ := I1.tuple hqx
  obtain ⟨its2, rv2, p2, _⟩ := I1.tuple hqy
  obtain ⟨its3, rv3, p3, _⟩ := I1.list hqz
  obtain ⟨o1, ho1, _⟩ := id p1
  obtain ⟨o2, ho2, _⟩ := id p2
  have la := Heap.lt_size ho1
  have lb := Heap.lt_size ho2
  have lc := p3.lt
  refine zip_begins3 (begins_tuple a its.toArray) (begins_tuple b its2.toArray) (begins_list c its3.toArray) p1 p2 p3.isList fun h' hz hTI hTO e1 e2 e3 hsz hk => wpAny_pyIter_zip hz ?_
  have I2 : Inv X pins σ H1 { s1 with heap := h' } := I1.kept (t' := s1.toks) hk
  have S := zip_sep3 (N := s1.heap.objs.size) (fp1 := [a]) (fp2 := [b]) (fp3 := [c]) (fun d hd => by rw [List.mem_singleton.mp hd]; exact la) (fun d hd => by rw [List.mem_singleton.mp hd]; exact lb) (fun d hd => by rw [List.mem_singleton.mp hd]; exact lc)
  exact ⟨s1.heap.objs.size + 5, [s1.heap.objs.size + 5, s1.heap.objs.size + 3, s1.heap.objs.size + 4, s1.heap.objs.size, s1.heap.objs.size + 1, s1.heap.objs.size + 2], _, _, H1, rfl, I2, turn_zip3 S (Nat.ne_of_lt la) (Nat.ne_of_lt (Nat.lt_succ_of_lt lb)) (Nat.ne_of_lt (Nat.lt_succ_of_lt (Nat.lt_succ_of_lt lc))), ⟨hz, hTI, ⟨_, _, _, hTO⟩, ⟨_, e1, rfl, rfl⟩, ⟨_, e2, rfl, rfl⟩, ⟨_, e3, rfl, rfl⟩⟩, fresh6, q⟩
section
variable {K : PySem.W.Frag} {a b c : Addr} {xs ys zs : List V}
theorem walk_zip3 {n : Nat} (h1 : xs.length = n) (h2 : ys.length = n) (h3 : n ≤ zs.length) : Walk (Itz3 K a b c) n (fun H => SqT K H a xs ∧ SqT K H b ys ∧ SqL K H c zs) (fun i H v H' => ∃ T x y z, v = .ref T ∧ H T = none ∧ H' = upd H T (.tup [x, y, z]) ∧ xs[i]? = some x ∧ ys[i]? = some y ∧ zs[i]? = some z) := by
  subst h1
  refine ⟨fun i _ hi q => ⟨xs, ys, zs, xs[i], ys[i], zs[i]'(by omega), q.1, q.2.1, q.2.2, by simp [hi], by simp [h2, hi], List.getElem?_eq_getElem (by omega)⟩, fun _ q => ⟨xs, ys, zs, q.1, q.2.1, q.2.2, rfl, h2, h3⟩, fun i H v H' _ q y => ?_⟩
  obtain ⟨T, x, y, z, h1, h2, h3, h4, h5, h6⟩ := y
  exact ⟨T, x, y, z, h1, h2, h3, h4 xs q.1, h5 ys q.2.1, h6 zs q.2.2⟩
end
end Ns

/-! NsR: sum of the values of a dict of ints. -/
namespace Ns
open PySem PySem.Spec PyProof.Rows L2
def tSumVals (td : TE) : TE := fun σ H Q => td σ H fun x H1 => ∃ (a : Addr) (kvs : List (Key × V)) (is : List Int), x = V.ref a ∧ H1 a = some (.dK kvs) ∧ kvs.map (·.2) = is.map V.int ∧ Q (.int is.sum) H1
theorem preSum_is : ∀ (is : List Int) (n : Nat), n ≤ is.length → preSum (fun i => is.getD i 0) n = (is.take n).sum
  | is, 0, _ => by
    rw [List.take_zero]
    rfl
  | is, n + 1, h => by
    have ih := preSum_is is n (by omega)
    obtain ⟨x, hx⟩ : ∃ x, is[n]? = some x := ⟨_, List.getElem?_eq_getElem (by omega)⟩
    have e1 : is.getD n 0 = x := by rw [List.getD_eq_getElem?_getD, hx]; rfl
    rw [List.take_succ, hx, List.sum_append, ← ih]
    show preSum (fun i => is.getD i 0) n + is.getD n 0 = _
    rw [e1]
    simp
section
variable {X : Cx} {o : Expr} {p pos apos mpos : Pos} {td : TE}
theorem pe_sumVals (hc : X.calm = true) (hg : Gl X "sum") (hm : X.mg "sum" = none) (hd : PE X o td) (hbase : attributeBase o "values" X.env (eval o X.env) = eval o X.env := by rfl) (hline : (apos.endLine == mpos.line) = true := by rfl)
    (hse : starEach [Expr.Call (.Attribute o "values" apos) [] [] mpos] X.env = [(false, eval (Expr.Call (.Attribute o "values" apos) [] [] mpos) X.env)] := by rfl) :
    PE X (.Call (.Name "sum" p) [.Call (.Attribute o "values" apos) [] [] mpos] [] pos) (tSumVals td) := by
  refine ⟨fun pins s σ H Q I h => ?_⟩
  refine wpAny_Call_Name_kw (ld_blt I hg hm (u := .builtin "sum") (by first | rfl | decide +kernel) ?_ (by first | decide +kernel | decide) (by first | decide +kernel | decide))
  rw [hse]
  refine PySem.callWith_builtin1 (wpAny_Call_method0_late hbase hline (thn (hd.run pins s σ H _ I h) fun v s1 ⟨x, H1, I1, r1, a, kvs, is, ex, ha, hv, q⟩ => ?_))
  subst ex
  obtain rfl : v = Value.ref a := r1
  obtain ⟨_, hsys, vs, rel, dof⟩ := dk_of I1.hok ha
  obtain ⟨ep, dat⟩ := dof.dictAt
  obtain ⟨ob, es, ho, ex, _⟩ := id dat
  refine ⟨"dict", "dict.values", F.plainAttrs_dict, F.slot_dict_values, F.type_dict_values, ⟨ob, ho, ex.1⟩, fun b e => by cases e; exact ⟨ob, ho, ex.2.1⟩, Calls.callWith_builtin rfl (PySem.evalArgs_none ?_)⟩
  refine call_meetsIn F.slot_dict_values ⟨ob, ho, ex.1⟩ F.entry_dict_values (F.args_dict_values_1 _) (meets_dict_values (mixKind X.prog X.w) a hsys) ⟨⟨vs, dof⟩, ?_⟩
  have lt := Heap.lt_size ho
  have grow : ∀ b u, s1.heap.get? b = some u → (s1.heap.push { cls := .type "dict_values", data := .fields #[.ref a] }).get? b = some u := fun b u e => Heap.get?_push_of_some _ e
  have dat2 := dat.keep grow
  have sz : (s1.heap.push { cls := .type "dict_values", data := .fields #[.ref a] }).objs.size = s1.heap.objs.size + 1 := Heap.size_push _ _
  have same : vs.length = is.length := by
    have e1 := congrArg List.length hv
    rw [List.length_map, List.length_map] at e1
    exact (KV.length rel).symm.trans e1
  have look : ∀ (i : Nat) (v : Value), (∃ k, vs[i]? = some (k, v)) → ∃ t, v = Value.int (is.getD i 0) t := fun i v ⟨k, hk⟩ => by
    obtain ⟨x, h1, h2⟩ := KV.at' rel hk
    have e1 : (is.map V.int)[i]? = some x := by rw [← hv, List.getElem?_map, h1]; rfl
    rw [List.getElem?_map] at e1
    obtain ⟨j, hj, e2⟩ := Option.map_eq_some_iff.mp e1
    subst e2
    obtain ⟨t, e3⟩ := h2
    exact ⟨t, by rw [e3, List.getD_eq_getElem?_getD, hj]; rfl⟩
  refine call_sum_walkG (wpAny_pyIter_values (v := s1.heap.objs.size) (d := a) ⟨_, Heap.get?_push_size _ rfl, rfl, rfl⟩ dat2 ?_)
  refine ⟨_, _, _, _, _, _, fun i => is.getD i 0, rfl, Walks.dictValues (knd := mixKind X.prog X.w) (A := X.A.in1) (I.ok.hd hc) (s1.heap.push { cls := .type "dict_values", data := .fields #[.ref a] }).objs.size a (by rw [sz]; exact Nat.ne_of_lt (Nat.lt_succ_of_lt lt)) vs ep,
    ⟨⟨_, Heap.get?_push_size _ rfl, rfl, rfl⟩, dat2.keep fun b u e => Heap.get?_push_of_some _ e⟩, fun b hb => ?_, look, fun h' tk t' hk => ?_⟩
  · show b < ((s1.heap.push _).push _).objs.size
    rw [Heap.size_push, Heap.size_push]
    rw [sz] at hb
    rcases List.mem_cons.mp hb with e | hb
    · rw [e]
      exact Nat.lt_succ_self _
    · rw [List.mem_singleton.mp hb]
      exact Nat.lt_succ_of_lt (Nat.lt_succ_of_lt lt)
  · refine ⟨.int is.sum, H1, I1.kept (t' := tk) fun b u e => hk b u (fun hmem => ?_) (Heap.get?_push_of_some _ (grow b u e)), ⟨t', ?_⟩, q⟩
    · have e1 : b = (s1.heap.push { cls := .type "dict_values", data := .fields #[.ref a] }).objs.size := List.mem_singleton.mp hmem
      have e2 := Heap.lt_size e
      rw [sz] at e1
      rw [e1] at e2
      exact absurd e2 (Nat.not_lt.mpr (Nat.le_succ _))
    · rw [preSum_is is _ (Nat.le_of_eq same), same, List.take_length]
end
end Ns

/-! falls: a dict from hours to numbers -/
namespace Y
open PySem PySem.Spec PyProof.Rows L2 Ns
abbrev Fl := List (Int × Int)
def gF : Fl → Int → Int
  | [], _ => 0
  | p :: F, e => if p.1 = e then p.2 else gF F e
def pF : Fl → Int → Int → Fl
  | [], e, v => [(e, v)]
  | p :: F, e, v => if p.1 = e then (p.1, v) :: F else p :: pF F e v
def tkF (F : Fl) : List (Key × V) := F.map fun p => (Sum.inl p.1, V.int p.2)
theorem val_tk : ∀ (F : Fl) (e : Int), (valV (tkF F) (Sum.inl e)).getD (.int 0) = .int (gF F e)
  | [], _ => rfl
  | p :: F, e => by
    unfold gF
    by_cases c : p.1 = e
    · rw [if_pos c]
      show (valV ((Sum.inl p.1, V.int p.2) :: tkF F) (Sum.inl e)).getD _ = _
      rw [valV_pos (by show Sum.inl p.1 = _; rw [c])]
      rfl
    · rw [if_neg c]
      show (valV ((Sum.inl p.1, V.int p.2) :: tkF F) (Sum.inl e)).getD _ = _
      rw [valV_neg (fun z => c (Sum.inl.inj z))]
      exact val_tk F e
theorem val_some : ∀ {F : Fl} {e : Int}, e ∈ F.map (·.1) → valV (tkF F) (Sum.inl e) = some (.int (gF F e))
  | [], _, h => by cases h
  | p :: F, e, h => by
    unfold gF
    by_cases c : p.1 = e
    · rw [if_pos c]
      exact valV_pos (p := (Sum.inl p.1, V.int p.2)) (r := tkF F) (by show Sum.inl p.1 = _; rw [c])
    · rw [if_neg c]
      refine (valV_neg (p := (Sum.inl p.1, V.int p.2)) (r := tkF F) (fun z => c (Sum.inl.inj z))).trans (val_some ?_)
      rcases List.mem_cons.mp h with z | z
      · exact absurd z.symm c
      · exact z
theorem pF_keys : ∀ (F : Fl) (e v : Int), (pF F e v).map (·.1) = if e ∈ F.map (·.1) then F.map (·.1) else F.map (·.1) ++ [e]
  | [], _, _ => rfl
  | p :: F, e, v => by
    unfold pF
    by_cases c : p.1 = e
    · rw [if_pos c, if_pos (by rw [List.map_cons, c]; exact List.mem_cons_self)]
      rfl
    · rw [if_neg c, List.map_cons, pF_keys F e v, List.map_cons]
      by_cases d : e ∈ F.map (·.1)
      · rw [if_pos d, if_pos (List.mem_cons_of_mem _ d)]
      · rw [if_neg d, if_neg (fun z => by rcases List.mem_cons.mp z with z | z; exact c z.symm; exact d z)]
        rfl
theorem pF_nodup {F : Fl} {e v : Int} (h : (F.map (·.1)).Nodup) : ((pF F e v).map (·.1)).Nodup := by
  rw [pF_keys]
  split
  · exact h
  · rename_i c
    exact List.nodup_append.mpr ⟨h, List.pairwise_singleton _ _, fun a ha b hb z => c (by rw [← List.mem_singleton.mp hb, ← z]; exact ha)⟩
theorem mem_pF : ∀ {F : Fl} {e v : Int} {q : Int × Int}, q ∈ pF F e v → q = (e, v) ∨ q ∈ F
  | [], _, _, _, h => .inl (List.mem_singleton.mp h)
  | p :: F, e, v, q, h => by
    unfold pF at h
    split at h
    · rename_i c
      rcases List.mem_cons.mp h with z | z
      · exact .inl (by rw [z, c])
      · exact .inr (List.mem_cons_of_mem _ z)
    · rcases List.mem_cons.mp h with z | z
      · exact .inr (by rw [z]; exact List.mem_cons_self)
      · exact (mem_pF z).imp id fun y => List.mem_cons_of_mem _ y
theorem pF_len : ∀ (F : Fl) (e v : Int), (pF F e v).length ≤ F.length + 1
  | [], _, _ => Nat.le_refl _
  | p :: F, e, v => by
    unfold pF
    split
    · exact Nat.le_succ _
    · have := pF_len F e v
      show (pF F e v).length + 1 ≤ F.length + 1 + 1
      omega
theorem any_tk {F : Fl} {e : Int} : ((tkF F).any fun kv => decide (kv.1 = Sum.inl e)) = decide (e ∈ F.map (·.1)) := by
  induction F with
  | nil => rfl
  | cons p F ih =>
    show (decide (Sum.inl p.1 = (Sum.inl e : Key)) || (tkF F).any fun kv => decide (kv.1 = Sum.inl e)) = _
    rw [ih, List.map_cons]
    by_cases c : p.1 = e
    · simp [c]
    · have : ¬ e = p.1 := fun z => c z.symm
      simp [c, this]
theorem map_id_tk : ∀ {F : Fl} {e v : Int}, e ∉ F.map (·.1) → (tkF F).map (fun kv => if kv.1 = Sum.inl e then (kv.1, V.int v) else kv) = tkF F
  | [], _, _, _ => rfl
  | p :: F, e, v, h => by
    have c : p.1 ≠ e := fun z => h (by rw [List.map_cons, z]; exact List.mem_cons_self)
    have ih := map_id_tk (F := F) (e := e) (v := v) fun z => h (List.mem_cons_of_mem _ z)
    show (if (Sum.inl p.1 : Key) = Sum.inl e then _ else _) :: _ = (Sum.inl p.1, V.int p.2) :: tkF F
    rw [if_neg (fun z => c (Sum.inl.inj z))]
    exact congrArg _ ih
theorem put_tk {e v : Int} : ∀ {F : Fl}, (F.map (·.1)).Nodup → putK (tkF F) (Sum.inl e) (.int v) = tkF (pF F e v)
  | [], _ => rfl
  | p :: F, h => by
    rw [List.map_cons] at h
    obtain ⟨h1, h2⟩ := List.nodup_cons.mp h
    have ih := put_tk (e := e) (v := v) h2
    unfold pF
    by_cases c : p.1 = e
    · rw [if_pos c]
      unfold putK
      rw [any_tk, if_pos (decide_eq_true (by rw [List.map_cons, c]; exact List.mem_cons_self))]
      show (if (Sum.inl p.1 : Key) = Sum.inl e then _ else _) :: _ = (Sum.inl p.1, V.int v) :: tkF F
      rw [if_pos (by rw [c])]
      exact congrArg _ (map_id_tk (by rw [← c]; exact h1))
    · rw [if_neg c]
      show _ = (Sum.inl p.1, V.int p.2) :: tkF (pF F e v)
      rw [← ih]
      unfold putK
      rw [any_tk, any_tk]
      have c' : ¬ e = p.1 := fun z => c z.symm
      by_cases d : e ∈ F.map (·.1)
      · rw [if_pos (decide_eq_true (by rw [List.map_cons]; exact List.mem_cons_of_mem _ d)), if_pos (decide_eq_true d)]
        show (if (Sum.inl p.1 : Key) = Sum.inl e then _ else _) :: _ = _
        rw [if_neg (fun z => c (Sum.inl.inj z))]
        rfl
      · rw [if_neg (by rw [decide_eq_true_eq, List.map_cons]; exact fun z => by rcases List.mem_cons.mp z with z | z; exact c' z; exact d z), if_neg (by rw [decide_eq_true_eq]; exact d)]
        rfl
/-- weighed -/
def Wt (w : Int → Int) (F : Fl) : Int := (F.map fun p => p.2 * w p.1).sum
theorem Wt_cons (w : Int → Int) (p : Int × Int) (F : Fl) : Wt w (p :: F) = p.2 * w p.1 + Wt w F := by
  unfold Wt
  rw [List.map_cons, List.sum_cons]
theorem Wt_put (w : Int → Int) : ∀ {F : Fl} {e d : Int}, Wt w (pF F e (gF F e + d)) = Wt w F + d * w e
  | [], e, d => by
    show Wt w [(e, 0 + d)] = 0 + d * w e
    rw [Wt_cons]
    show (0 + d) * w e + 0 = _
    rw [Int.zero_add, Int.zero_add, Int.add_zero]
  | p :: F, e, d => by
    unfold pF gF
    by_cases c : p.1 = e
    · rw [if_pos c, if_pos c, Wt_cons, Wt_cons]
      show (p.2 + d) * w p.1 + _ = _
      rw [Int.add_mul, c]
      omega
    · rw [if_neg c, if_neg c, Wt_cons, Wt_put w, Wt_cons]
      omega
theorem Wt_perm {w : Int → Int} {F G : Fl} (h : F.Perm G) : Wt w F = Wt w G := by
  induction h with
  | nil => rfl
  | cons x _ ih => rw [Wt_cons, Wt_cons, ih]
  | swap x y l => rw [Wt_cons, Wt_cons, Wt_cons, Wt_cons]; omega
  | trans _ _ a b => exact a.trans b
/-- the runs of falls, hour by hour -/
def mkR : Int → Int → Fl → List Run
  | _, _, [] => []
  | s, a, p :: T => (s, p.1 - a) :: mkR (s - p.2) p.1 T
def tot1 (F : Fl) : Int := (F.map (·.2)).sum
theorem tot1_cons (p : Int × Int) (F : Fl) : tot1 (p :: F) = p.2 + tot1 F := by
  unfold tot1
  rw [List.map_cons, List.sum_cons]
def Up : Int → Fl → Prop
  | _, [] => True
  | a, p :: T => a < p.1 ∧ Up p.1 T
theorem Wt_shift : ∀ {T : Fl} {a b h : Int}, Up b T → a ≤ b → 0 ≤ h → Wt (fun e => min (e - a) h) T = tot1 T * min (b - a) h + Wt (fun e => min (e - b) (h - min (b - a) h)) T
  | [], a, b, h, _, _, _ => by
    show (0 : Int) = 0 * _ + 0
    omega
  | p :: T, a, b, h, u, ab, h0 => by
    have u2 : Up b T := by
      have go : ∀ {T : Fl} {x y : Int}, Up x T → y ≤ x → Up y T := fun {T x y} z w => by
        cases T with
        | nil => trivial
        | cons q T => exact ⟨by have := z.1; omega, z.2⟩
      exact go u.2 (Int.le_of_lt u.1)
    have ih := Wt_shift (h := h) u2 ab h0
    have u1 := u.1
    rw [Wt_cons, Wt_cons, ih, tot1_cons, Int.add_mul]
    have e : min (p.1 - a) h = min (b - a) h + min (p.1 - b) (h - min (b - a) h) := by omega
    show p.2 * min (p.1 - a) h + _ = _
    rw [e, Int.mul_add]
    show _ = p.2 * _ + _ + (p.2 * min (p.1 - b) (h - min (b - a) h) + _)
    omega
theorem rch_mk : ∀ {T : Fl} {a h : Int}, Up a T → 0 ≤ h → RM.rch (mkR (tot1 T) a T) h = Wt (fun e => min (e - a) h) T
  | [], _, _, _, _ => rfl
  | p :: T, a, h, u, h0 => by
    have u1 := u.1
    have sh := Wt_shift (h := h) u.2 (Int.le_of_lt u.1) h0
    show tot1 (p :: T) * min (p.1 - a) h + RM.rch (mkR (tot1 (p :: T) - p.2) p.1 T) (h - min (p.1 - a) h) = _
    rw [show tot1 (p :: T) - p.2 = tot1 T by rw [tot1_cons]; omega, rch_mk u.2 (by omega), Wt_cons, sh, tot1_cons, Int.add_mul]
    show _ = p.2 * min (p.1 - a) h + _
    omega
theorem tot1_nn : ∀ {T : Fl}, (∀ p ∈ T, 1 ≤ p.2) → 0 ≤ tot1 T
  | [], _ => Int.le_refl _
  | p :: T, h => by
    rw [tot1_cons]
    have := h p List.mem_cons_self
    have := tot1_nn fun q hq => h q (List.mem_cons_of_mem _ hq)
    omega
theorem vd_mk : ∀ {T : Fl} {a m : Int}, Up a T → (∀ p ∈ T, 1 ≤ p.2) → tot1 T < m → RM.Vd m (mkR (tot1 T) a T)
  | [], _, _, _, _, _ => trivial
  | p :: T, a, m, u, h, hm => by
    have p1 := h p List.mem_cons_self
    have hT := fun q hq => h q (List.mem_cons_of_mem p hq)
    have t0 := tot1_nn hT
    have e := tot1_cons p T
    have u1 := u.1
    refine ⟨by omega, hm, by show 1 ≤ p.1 - a; omega, ?_⟩
    rw [show tot1 (p :: T) - p.2 = tot1 T by omega]
    exact vd_mk u.2 hT (by omega)
/-- a row's own falls -/
def flR : Int → List Run → Fl
  | _, [] => []
  | a, q :: R => (a + q.2, q.1 - RM.top R) :: flR (a + q.2) R
theorem up_fl : ∀ {R : List Run} {m a : Int}, RM.Vd m R → Up a (flR a R)
  | [], _, _, _ => trivial
  | q :: R, m, a, v => ⟨by have := v.2.2.1; show a < a + q.2; omega, up_fl v.2.2.2⟩
theorem fl_top : ∀ {R : List Run} {a : Int}, tot1 (flR a R) = RM.top R
  | [], _ => rfl
  | q :: R, a => by
    show tot1 ((a + q.2, q.1 - RM.top R) :: flR (a + q.2) R) = q.1
    rw [tot1_cons, fl_top]
    show q.1 - RM.top R + RM.top R = q.1
    omega
theorem mk_fl : ∀ {R : List Run} {a : Int}, mkR (tot1 (flR a R)) a (flR a R) = R
  | [], _ => rfl
  | q :: R, a => by
    rw [fl_top]
    show (q.1, a + q.2 - a) :: mkR (q.1 - (q.1 - RM.top R)) (a + q.2) (flR (a + q.2) R) = _
    have ih := mk_fl (R := R) (a := a + q.2)
    rw [fl_top] at ih
    rw [show q.1 - (q.1 - RM.top R) = RM.top R by omega, ih, show a + q.2 - a = q.2 by omega]
theorem rch_fl {R : List Run} {m h : Int} (v : RM.Vd m R) (h0 : 0 ≤ h) : RM.rch R h = Wt (fun e => min e h) (flR 0 R) := by
  have := rch_mk (up_fl (a := 0) v) h0
  rw [mk_fl] at this
  rw [this]
  congr 1
  funext e
  rw [Int.sub_zero]
end Y

/-! the first hour at which rows differ -/
namespace Y
open PySem PySem.Spec PyProof.Rows L2 Ns
open C8 (pss_cut)
section
variable {K : PySem.W.Frag} {a b : Addr} {xs ys : List V}
theorem walk_zipT {n : Nat} (hn : n = min xs.length ys.length) : Walk (RZ.ItzT K a b) n (fun H => SqT K H a xs ∧ SqT K H b ys) (YPair (fun i => xs[i]?) (fun i => ys[i]?)) := by
  subst hn
  refine ⟨fun i _ hi q => ?_, fun _ q => ⟨xs, ys, q.1, q.2, by omega⟩, fun i H v H' _ q y => ?_⟩
  · have h1 : i < xs.length := by omega
    have h2 : i < ys.length := by omega
    exact ⟨xs, ys, xs[i], ys[i], q.1, q.2, by simp [h1], by simp [h2]⟩
  · obtain ⟨T, x, z, h1, h2, h3, h4, h5⟩ := y
    exact ⟨T, x, z, h1, h2, h3, h4 xs q.1, h5 ys q.2⟩
end
def fu : Int → List Run → List Run → Option Int
  | _, [], [] => none
  | a, [], _ :: _ => some (a + 1)
  | a, _ :: _, [] => some (a + 1)
  | a, q :: R, p :: S => if q.1 = p.1 then (if q.2 = p.2 then fu (a + mn q.2 p.2) R S else some (a + mn q.2 p.2 + 1)) else some (a + 1)
theorem fu_comm : ∀ (R S : List Run) (a : Int), fu a R S = fu a S R
  | [], [], _ => rfl
  | [], _ :: _, _ => rfl
  | _ :: _, [], _ => rfl
  | q :: R, p :: S, a => by
    have e : mn q.2 p.2 = mn p.2 q.2 := by rw [mn_min, mn_min]; omega
    unfold fu
    rw [e, fu_comm R S]
    by_cases c : q.1 = p.1
    · rw [if_pos c, if_pos c.symm]
      by_cases d : q.2 = p.2
      · rw [if_pos d, if_pos d.symm]
      · rw [if_neg d, if_neg (Ne.symm d)]
    · rw [if_neg c, if_neg (Ne.symm c)]
theorem fu_cons (a : Int) (q p : Run) (R S : List Run) : fu a (q :: R) (p :: S) = if q.1 = p.1 then (if q.2 = p.2 then fu (a + mn q.2 p.2) R S else some (a + mn q.2 p.2 + 1)) else some (a + 1) := rfl
def oV : Option Int → V
  | none => .non
  | some i => .int i
def spFU (K : PySem.W.Frag) : Sp := fun as H Q _ => ∃ (y z : V) (R S : List Run), as = [y, z] ∧ RowV K H y R ∧ RowV K H z S ∧ R.length ≤ 100 ∧ S.length ≤ 100 ∧ ∀ H', Same H H' → Q (oV (fu 0 R S)) H'
section
variable {P : Program} {w : World} {K : PySem.W.Frag} {mg : Str → Option Value} {base : Heap}
theorem scFU : FnScope ["one", "other", "hour", "step", "times", "other_step", "other_times"] ["one", "other"] (defScope sFirstUnlike) := ⟨rfl, rfl, rfl, by decide +kernel, rfl, by decide +kernel, by decide +kernel⟩
theorem ok_firstUnlike {f : Addr} {fd : FuncData} (F : Fun K "first_unlike" "first_unlike" sFirstUnlike f fd) (T : Nat0 mg) : FnOk P w K mg base CX0 1 f fd ["one", "other"] (spFU K) := by
  refine F.ok scFU (fun as H Q E h => ?_) (fun cdv A outer s H as Q E hr h => ?_)
  · obtain ⟨y, z, R, S, rfl, _⟩ := h
    rfl
  · obtain ⟨y, z, R, S, rfl, hV, hW, lR, lS, k⟩ := h
    refine ⟨_, pss_cons (ps_set (i := 2) scFU.nd rfl (.inl rfl) pe_int)
      (pss_cons (ps_for PassesOwn.never rfl (RZ.pi_zipA (by rfl) T.zip (pa_cons (pv 0) (pa_cons (pv 1) pa_nil)))
        (pg_tup (by rfl) (pgs_cons (pg_tup (by rfl) (pgs_cons (pg_name (i := 3) scFU.nd rfl (.inl rfl)) (pgs_cons (pg_name (i := 4) scFU.nd rfl (.inl rfl)) pgs_nil))) (pgs_cons (pg_tup (by rfl) (pgs_cons (pg_name (i := 5) scFU.nd rfl (.inl rfl)) (pgs_cons (pg_name (i := 6) scFU.nd rfl (.inl rfl)) pgs_nil))) pgs_nil)))
        (pss_cons (ps_if (pt_cmpR op_ne (pv 3) (pv 5) (nomark _)) (pss_one (ps_ret (pe_op op_add (pv 2) pe_int))) pss_nil)
        (pss_cons (ps_aug (i := 2) scFU.nd rfl (.inl rfl) (pe_callB (call_min2 rfl) (by rfl) T.min (by decide +kernel) (pa_cons (pv 4) (pa_cons (pv 6) pa_nil))) ip_add)
        (pss_one (ps_if (pt_cmpR op_ne (pv 4) (pv 6) (nomark _)) (pss_one (ps_ret (pe_op op_add (pv 2) pe_int))) pss_nil)))))
      (pss_one (ps_ret (pe_ifExp (pt_cmpR op_eq (pe_callB call_len_seq (by rfl) T.len PySem.boot_len (pa_cons (pv 0) pa_nil)) (pe_callB call_len_seq (by rfl) T.len PySem.boot_len (pa_cons (pv 1) pa_nil)) (nomark _)) pe_non (pe_op op_add (pv 2) pe_int))))), ?_⟩
    obtain ⟨t, xs, rfl, h1, h2⟩ := hV
    obtain ⟨u, zs, rfl, g1, g2⟩ := hW
    have lx := paired_len h2
    have lz := paired_len g2
    refine ⟨_, rfl, _, rfl, t, u, xs, zs, rfl, .inr ⟨h1, g1, ?_⟩⟩
    refine for_it (walk_zipT (K := K) (a := t) (b := u) (xs := xs) (ys := zs) rfl) (fun j σ H' => ∃ (a : Int) (v3 v4 v5 v6 : Option V), σ = [some (.ref t), some (.ref u), some (.int a), v3, v4, v5, v6] ∧ fu 0 R S = fu a (R.drop j) (S.drop j) ∧ Same H H') ?_ ?_ ?_ ?_
    · exact ⟨0, _, _, _, _, rfl, rfl, Same.refl H⟩
    · rintro j σ H' _ ⟨_, _, _, _, _, _, _, m⟩
      exact ⟨sqt_more m h1, sqt_more m g1⟩
    · rintro j x σ H1 H2 hj ⟨a, v3, v4, v5, v6, rfl, e, m⟩ ⟨T', x', y', rfl, fT, rfl, hx, hy⟩
      obtain ⟨q, hq, q', rfl, sq⟩ := paired_at h2 hx
      obtain ⟨p, hp, p', rfl, sp⟩ := paired_at g2 hy
      have m2 := same_new (o := .tup [.ref q', .ref p']) m fT
      have t2 : upd H1 T' (.tup [.ref q', .ref p']) T' = some (.tup [.ref q', .ref p']) := upd_same
      generalize upd H1 T' (.tup [.ref q', .ref p']) = H2 at m2 t2 ⊢
      rw [drop_at hq, drop_at hp, fu_cons] at e
      refine ⟨T', _, rfl, SqT.of t2, rfl, _, _, rfl, q', _, rfl, sqt_more m2 sq, rfl, _, _, rfl, _, _, rfl, rfl, _, _, rfl, p', _, rfl, sqt_more m2 sp, rfl, _, _, rfl, _, _, rfl, rfl, rfl, ?_⟩
      have ne : ∀ {i j : Int}, (!decide (V.int i = V.int j)) = true ↔ i ≠ j := fun {i j} => by
        by_cases e : i = j
        · rw [e]
          simp
        · simp [e]
      refine ⟨_, rfl, _, rfl, rfl, _, rfl, ?_⟩
      refine ite2 (fun c => ?_) (fun c => ?_)
      · have c := ne.mp c
        refine ⟨_, rfl, _, _, rfl, rfl, ?_⟩
        rw [if_neg c] at e
        have := k H2 m2
        rw [e] at this
        exact this
      have c : q.1 = p.1 := Decidable.byContradiction fun z => c (ne.mpr z)
      rw [if_pos c] at e
      refine ⟨_, rfl, _, rfl, _, rfl, _, _, rfl, _, _, rfl, rfl, ?_⟩
      refine ⟨_, rfl, _, rfl, rfl, _, rfl, ?_⟩
      refine ite2 (fun d => ?_) (fun d => ?_)
      · have d := ne.mp d
        refine ⟨_, rfl, _, _, rfl, rfl, ?_⟩
        rw [if_neg d] at e
        have := k H2 m2
        rw [e] at this
        exact this
      have d : q.2 = p.2 := Decidable.byContradiction fun z => d (ne.mpr z)
      rw [if_pos d] at e
      exact ⟨a + mn q.2 p.2, _, _, _, _, rfl, e, m2⟩
    rintro σ H1 ⟨a, v3, v4, v5, v6, rfl, e, m⟩
    rw [lx, lz] at e
    have int : ∀ {n m : Nat}, decide (V.int (n : Int) = V.int (m : Int)) = true ↔ n = m := fun {n m} => by
      rw [decide_eq_true_eq]
      exact ⟨fun h => by have := V.int.inj h; omega, fun h => by rw [h]⟩
    refine ⟨_, rfl, t, xs, rfl, .inr (sqt_more m h1), _, rfl, u, zs, rfl, .inr (sqt_more m g1), rfl, _, rfl, ?_⟩
    refine ite2 (fun c => ?_) (fun c => ?_)
    · have c := int.mp c
      rw [lx, lz] at c
      rw [show min R.length S.length = R.length by omega, List.drop_length, c, List.drop_length] at e
      have := k H1 m
      rw [e] at this
      exact this
    · have c : R.length ≠ S.length := fun z => c (int.mpr (by rw [lx, lz]; exact z))
      refine ⟨_, rfl, _, _, rfl, rfl, ?_⟩
      have en : fu a (R.drop (min R.length S.length)) (S.drop (min R.length S.length)) = some (a + 1) := by
        by_cases d : R.length < S.length
        · rw [show min R.length S.length = R.length by omega, List.drop_length]
          cases z : S.drop R.length with
          | nil => have := congrArg List.length z; rw [List.length_drop] at this; have : S.length - R.length = 0 := this; omega
          | cons => rfl
        · rw [show min R.length S.length = S.length by omega, List.drop_length]
          cases z : R.drop S.length with
          | nil => have := congrArg List.length z; rw [List.length_drop] at this; have : R.length - S.length = 0 := this; omega
          | cons => rfl
      have := k H1 m
      rw [e, en] at this
      exact this
end
end Y

/-! the first hour at which rows differ, by the law -/
namespace Y
open PySem PySem.Spec PyProof.Rows L2 Ns
open C8 (pss_cut)
def cutR (q : Run) (many : Int) (L : List Run) : List Run := (if many < q.2 then [(q.1, q.2 - many)] else []) ++ L
theorem cutR_vd {q : Run} {many m : Int} {L : List Run} (v : RM.Vd m (q :: L)) : RM.Vd m (cutR q many L) := by
  unfold cutR
  split
  · exact ⟨v.1, v.2.1, by show 1 ≤ q.2 - many; omega, v.2.2.2⟩
  · exact v.2.2.2.mono (by have := v.2.1; omega)
theorem fu_less {a : Int} {L M : List Run} {x y m n : Int} {t : Int} (v : RM.Vd x L) (h : x ≤ y) : fu a L ((y, t) :: M) = some (a + 1) := by
  cases L with
  | nil => rfl
  | cons q L =>
    rw [fu_cons, if_neg (by have := v.2.1; show q.1 ≠ y; omega)]
theorem fu_step {q p : Run} {L M : List Run} {a m n : Int} (vL : RM.Vd m (q :: L)) (vM : RM.Vd n (p :: M)) (c : q.1 = p.1) : fu a (q :: L) (p :: M) = fu (a + mn q.2 p.2) (cutR q (mn q.2 p.2) L) (cutR p (mn q.2 p.2) M) := by
  rw [fu_cons, if_pos c]
  have e := mn_min q.2 p.2
  by_cases d : q.2 = p.2
  · rw [if_pos d]
    unfold cutR
    rw [if_neg (by omega), if_neg (by omega)]
    rfl
  · rw [if_neg d]
    by_cases f : q.2 < p.2
    · unfold cutR
      rw [if_neg (by omega), if_pos (by omega)]
      exact (fu_less (m := 0) (n := 0) vL.2.2.2 (by omega)).symm
    · unfold cutR
      rw [if_pos (by omega), if_neg (by omega), fu_comm]
      exact (fu_less (m := 0) (n := 0) vM.2.2.2 (by omega)).symm
theorem cutR_len {q p : Run} {L M : List Run} : (cutR q (mn q.2 p.2) L).length + (cutR p (mn q.2 p.2) M).length ≤ L.length + M.length + 1 := by
  have e := mn_min q.2 p.2
  unfold cutR
  rw [List.length_append, List.length_append]
  by_cases f : mn q.2 p.2 < q.2
  · rw [if_pos f, if_neg (by omega)]
    show 1 + L.length + (0 + M.length) ≤ _
    omega
  · rw [if_neg f]
    split
    · show 0 + L.length + (1 + M.length) ≤ _
      omega
    · show 0 + L.length + (0 + M.length) ≤ _
      omega

section
variable {K : PySem.W.Frag}
def hdR (L : List Run) : Run := L.headD (0, (10 : Int) ^ (30 : Int).toNat)
theorem eqv_runs_nil (L : List Run) : PyData.eqv (.list (L.map runD)) (.list []) = decide (L = []) := by
  cases L with
  | nil => simp [PyData.eqv, PyData.eqvAll]
  | cons q L => simp [PyData.eqv, PyData.eqvAll]
theorem one_tt {σ : L2.St} {H : Hp} {i : Nat} {la : Addr} {us : List V} {L : List Run} {Q : Bool → Hp → Prop} (h : σ[i]? = some (some (.ref la))) (e : H la = some (.lst us)) (p : Paired (RunV K H) us L) (k : ∀ H', Same H H' → Q (decide (L = [])) H') : tTest (tOp (rEqD K) (tVar i) (tLst tNil)) σ H Q := by
  refine ⟨_, h, by show 0 ≤ sizeLine; decide, fun q hq => ?_⟩
  have m := same_new (o := .lst []) (Same.refl H) hq
  refine ⟨.list (L.map runD), .list [], .lst (SqL.of (m _ _ e)) (dp_runs (paired_imp (fun v c ⟨a, e1, q⟩ => ⟨a, e1, sqt_more m q⟩) p)), .lst (SqL.of upd_same) .nil, shaped_runs L, by decide +kernel, _, rfl, ?_⟩
  rw [eqv_runs_nil]
  exact k _ m
theorem both_tt {σ : L2.St} {H : Hp} {la ra : Addr} {us vs : List V} {L M : List Run} {Q : Bool → Hp → Prop} (h3 : σ[3]? = some (some (.ref la))) (h4 : σ[4]? = some (some (.ref ra))) (e1 : H la = some (.lst us)) (e2 : H ra = some (.lst vs)) (p1 : Paired (RunV K H) us L) (p2 : Paired (RunV K H) vs M) (k : ∀ H', Same H H' → Q (decide (L = [] ∧ M = [])) H') :
    tAnd (tTest (tOp (rEqD K) (tVar 3) (tLst tNil))) (tTest (tOp (rEqD K) (tVar 4) (tLst tNil))) σ H Q := by
  refine one_tt h3 e1 p1 (fun H1 m1 => ?_)
  refine ite2 (fun c => ?_) (fun c => ?_)
  · have c : L = [] := of_decide_eq_true c
    refine one_tt h4 (m1 _ _ e2) (paired_imp (fun v c ⟨a, e1, q⟩ => ⟨a, e1, sqt_more m1 q⟩) p2) (fun H2 m2 => ?_)
    have := k H2 (m1.trans m2)
    have ed : decide (L = [] ∧ M = []) = decide (M = []) := by simp [c]
    rw [ed] at this
    exact this
  · have c : ¬ L = [] := fun z => c (decide_eq_true z)
    have := k H1 m1
    rw [show decide (L = [] ∧ M = []) = false by simp [c]] at this
    exact this
def headTE (K : PySem.W.Frag) (i : Nat) : TE := tOp rCat (tSl (rSlL K) (tVar i) tNoPart (tPart (tC (.int 1)))) (tLst (tCons (tTup (tCons (tC (.int 0)) (tCons (tOp (rI CPow fun i j => .int (i ^ j.toNat)) (tC (.int 10)) (tC (.int 30))) tNil))) tNil))
theorem take_one (us : List V) : cutV us none (some (1 : Int)) = us.take 1 := by rw [show (1 : Int) = ((1 : Nat) : Int) from rfl, cut_upto]
theorem drop_one (us : List V) : cutV us (some (1 : Int)) none = us.drop 1 := by rw [show (1 : Int) = ((1 : Nat) : Int) from rfl, cut_from]
theorem head_te {i : Nat} {σ : L2.St} {H : Hp} {la : Addr} {us : List V} {L : List Run} {Q : VK} (h : σ[i]? = some (some (.ref la))) (e : H la = some (.lst us)) (p : Paired (RunV K H) us L)
    (k : ∀ (f : Addr) (ws : List V) (H' : Hp) (rest : List Run), H' f = some (.lst ws) → Paired (RunV K H') ws (hdR L :: rest) → Same H H' → Q (.ref f) H') : headTE K i σ H Q := by
  refine ⟨_, h, 1, rfl, la, us, rfl, SqL.of e, fun a1 h1 => ?_⟩
  rw [take_one]
  have m1 := same_new (o := .lst (us.take 1)) (Same.refl H) h1
  have a1e : upd H a1 (.lst (us.take 1)) a1 = some (.lst (us.take 1)) := upd_same
  generalize upd H a1 (.lst (us.take 1)) = H1 at m1 a1e ⊢
  refine ⟨_, _, rfl, rfl, ⟨by decide, by decide, by decide⟩, by show 2 ≤ sizeLine; decide, fun q hq => ⟨by show 1 ≤ sizeLine; decide, fun b hb => ?_⟩⟩
  have m3 := same_new (o := .lst [.ref q]) (same_new (o := .tup [.int 0, .int ((10 : Int) ^ (30 : Int).toNat)]) (Same.refl H1) hq) hb
  have q3 := s3u (o := .lst [.ref q]) hb (upd_same (H := H1) (a := q) (o := .tup [.int 0, .int ((10 : Int) ^ (30 : Int).toNat)]))
  have b3 : upd (upd H1 q (.tup [.int 0, .int ((10 : Int) ^ (30 : Int).toNat)])) b (.lst [.ref q]) b = some (.lst [.ref q]) := upd_same
  have hb : upd H1 q (.tup [.int 0, .int ((10 : Int) ^ (30 : Int).toNat)]) b = none := hb
  generalize upd (upd H1 q (.tup [.int 0, .int ((10 : Int) ^ (30 : Int).toNat)])) b (.lst [.ref q]) = H3 at m3 q3 b3 ⊢
  refine ⟨a1, b, us.take 1, [.ref q], rfl, rfl, m3 _ _ a1e, b3, ?_, fun f hf => ?_⟩
  · have : (us.take 1).length ≤ 1 := by rw [List.length_take]; omega
    exact Nat.le_of_lt (small1000 (show (us.take 1).length + 1 ≤ 1000 by omega))
  have m4 := same_new (o := .lst (us.take 1 ++ [.ref q])) (m1.trans m3) hf
  have q4 := s3u (o := .lst (us.take 1 ++ [.ref q])) hf q3
  cases p with
  | nil => exact k f _ _ [] upd_same (.cons ⟨q, rfl, SqT.of q4⟩ .nil) m4
  | cons g _ =>
    obtain ⟨x, rfl, hx⟩ := g
    exact k f _ _ [(0, (10 : Int) ^ (30 : Int).toNat)] upd_same (.cons ⟨x, rfl, sqt_more m4 hx⟩ (.cons ⟨q, rfl, SqT.of q4⟩ .nil)) m4
def cutTE (K : PySem.W.Frag) (i : Nat) : TE := tOp rCat (tLc (iList K (tSl (rSlL K) (tVar i) tNoPart (tPart (tC (.int 1))))) (gTup K 2 (gCons (gName 9) (gCons (gName 10) gNil))) (tTest (tOp (rI0 fun i j => .bl (decide (j < i))) (tVar 10) (tVar 8))) (tTup (tCons (tVar 9) (tCons (tOp (rI0 fun i j => .int (i - j)) (tVar 10) (tVar 8)) tNil))) [9, 10]) (tSl (rSlL K) (tVar i) (tPart (tC (.int 1))) tNoPart)
theorem cut_te {i : Nat} {z0 z1 z2 z3 z4 z5 z6 z7 z9 z10 : Option V} {many : Int} {H : Hp} {la : Addr} {us : List V} {q : Run} {L : List Run} {Q : VK} (h : [z0, z1, z2, z3, z4, z5, z6, z7, some (V.int many), z9, z10][i]? = some (some (.ref la))) (e : H la = some (.lst us)) (p : Paired (RunV K H) us (q :: L)) (l : L.length ≤ 100)
    (k : ∀ (f : Addr) (ws : List V) (H' : Hp), H' f = some (.lst ws) → Paired (RunV K H') ws (cutR q many L) → Same H H' → Q (.ref f) H') : cutTE K i [z0, z1, z2, z3, z4, z5, z6, z7, some (V.int many), z9, z10] H Q := by
  have lp := paired_len p
  cases p with
  | @cons x0 _ us' _ g tl =>
  obtain ⟨x, rfl, hx⟩ := g
  refine ⟨_, h, 1, rfl, la, _, rfl, SqL.of e, fun a1 h1 => ?_⟩
  rw [take_one]
  have m1 := same_new (o := .lst [V.ref x]) (Same.refl H) h1
  have a1e : upd H a1 (.lst [V.ref x]) a1 = some (.lst [V.ref x]) := upd_same
  have eq1 : (V.ref x :: us').take 1 = [V.ref x] := rfl
  rw [eq1]
  generalize upd H a1 (.lst [V.ref x]) = H1 at m1 a1e ⊢
  refine ⟨a1, rfl, ⟨_, SqL.of a1e⟩, fun D hD => ?_⟩
  refine lc_list (K := K) (a := a1) (xs := [V.ref x]) (fun j H' => ∃ ws, H' D = some (.lst ws) ∧ Paired (RunV K H') ws (if j = 0 then [] else if many < q.2 then [(q.1, q.2 - many)] else []) ∧ Same H1 H') ?_ ?_ ?_ ?_
  · exact ⟨[], upd_same, .nil, same_new (Same.refl H1) hD⟩
  · rintro j H' _ ⟨_, _, _, sm⟩
    exact SqL.of (sm _ _ a1e)
  · rintro j y H' hy ⟨ws, w1, w2, w3⟩
    have hj : j = 0 := by
      have := (List.getElem?_eq_some_iff.mp hy).1
      have : j < 1 := this
      omega
    subst hj
    cases hy
    cases w2
    refine ⟨x, _, rfl, sqt_more (m1.trans w3) hx, rfl, _, _, rfl, _, _, rfl, rfl, ?_⟩
    refine ⟨rfl, _, rfl, _, rfl, _, _, rfl, rfl, _, rfl, ?_⟩
    refine ite2 (fun c => ?_) (fun c => ?_)
    · have c : many < q.2 := of_decide_eq_true c
      refine ⟨_, rfl, _, rfl, _, rfl, _, _, rfl, rfl, by show 2 ≤ sizeLine; decide, fun t ht => ?_⟩
      have nt : t ≠ D := fun z => by rw [z, w1] at ht; cases ht
      refine ⟨[], s3u ht w1, Nat.zero_lt_of_lt (show 0 < sizeLine by decide), [.ref t], upd_same, ?_, same_put (same_new w3 ht) hD⟩
      rw [if_neg (by decide), if_pos c]
      exact .cons ⟨t, rfl, SqT.of (by rw [upd_ne nt]; exact upd_same)⟩ .nil
    · have c : ¬ many < q.2 := fun z => c (decide_eq_true z)
      refine ⟨[], w1, ?_, w3⟩
      rw [if_neg (by decide), if_neg c]
      exact .nil
  rintro H2 ⟨ws, w1, w2, w3⟩
  rw [if_neg (show ¬ ([V.ref x] : List V).length = 0 from Nat.succ_ne_zero 0)] at w2
  have m2 := m1.trans w3
  refine ⟨_, h, 1, rfl, la, _, rfl, SqL.of (m2 _ _ e), fun a2 h2 => ?_⟩
  rw [drop_one]
  have lw := paired_len w2
  refine ⟨D, a2, ws, us', rfl, rfl, s3u h2 w1, upd_same, ?_, fun f hf => ?_⟩
  · have : ws.length ≤ 1 := by rw [lw]; split <;> simp
    have : us'.length = L.length := paired_len tl
    exact Nat.le_of_lt (small1000 (by omega))
  have m3 := same_new (o := .lst (ws ++ us')) (same_new (o := .lst us') (Same.refl H2) h2) hf
  refine k f (ws ++ us') _ upd_same ?_ (m2.trans m3)
  unfold cutR
  exact paired_app (paired_imp (fun v c ⟨a, e1, q⟩ => ⟨a, e1, sqt_more m3 q⟩) w2) (paired_imp (fun v c ⟨a, e1, q⟩ => ⟨a, e1, sqt_more (m2.trans m3) q⟩) tl)
end
def spFA (K : PySem.W.Frag) : Sp := fun as H Q _ => ∃ (y z : V) (R S : List Run) (m n : Int), as = [y, z] ∧ RowV K H y R ∧ RowV K H z S ∧ RM.Vd m R ∧ RM.Vd n S ∧ R.length + S.length ≤ 30 ∧ ∀ H', Same H H' → Q (oV (fu 0 R S)) H'
section
variable {P : Program} {w : World} {K : PySem.W.Frag} {mg : Str → Option Value} {base : Heap}
theorem scFA : FnScope ["one", "other", "hour", "left", "right", "turn", "first", "second", "many", "step", "times"] ["one", "other"] (defScope sFirstApart) := ⟨rfl, rfl, rfl, by decide +kernel, rfl, by decide +kernel, by decide +kernel⟩
theorem ok_firstApart {f : Addr} {fd : FuncData} (F : Fun K "_law_first_apart" "_law_first_apart" sFirstApart f fd) (T : Nat0 mg) : FnOk P w K mg base CX0 1 f fd ["one", "other"] (spFA K) := by
  refine F.ok scFA (fun as H Q E h => ?_) (fun cdv A outer s H as Q E hr h => ?_)
  · obtain ⟨y, z, R, S, m, n, rfl, _⟩ := h
    rfl
  · obtain ⟨y, z, R, S, m, n, rfl, hV, hW, vR, vS, l30, k⟩ := h
    refine ⟨_, pss_cons (ps_par3 (i := 2) (j := 3) (k := 4) rfl scFA.nd rfl rfl rfl (by decide) (by decide) (by decide) rfl rfl rfl (pa_cons pe_int (pa_cons (pe_callTy call_list_of (by rfl) T.list_ (by decide +kernel) (pa_cons (pv 0) pa_nil)) (pa_cons (pe_callTy call_list_of (by rfl) T.list_ (by decide +kernel) (pa_cons (pv 1) pa_nil)) pa_nil))) (by rfl))
      (pss_cons (ps_for PassesOwn.never rfl (pi_range1 (by rfl) T.range (pa_cons pe_int pa_nil)) (pg_name (i := 5) scFA.nd rfl (.inl rfl))
        (pss_cons (ps_if (PW.pt (pw_and (pt_cmpR (op_eqD hr.units) (pv 3) (pe_lst pa_nil) (nomark _)) (pw_and1 (pt_cmpR (op_eqD hr.units) (pv 4) (pe_lst pa_nil) (nomark _))))) (pss_one (ps_ret pe_non)) pss_nil)
        (pss_cons (ps_par (i := 6) (j := 7) rfl scFA.nd rfl rfl (by decide) rfl rfl (pa_cons (pe_op op_cat (pe_slice sl_list (pv 3) po_none (po_some pe_int)) (pe_lst (pa_cons (pe_tup (pa_cons pe_int (pa_cons (pe_op op_pow pe_int pe_int) pa_nil))) pa_nil)))
            (pa_cons (pe_op op_cat (pe_slice sl_list (pv 4) po_none (po_some pe_int)) (pe_lst (pa_cons (pe_tup (pa_cons pe_int (pa_cons (pe_op op_pow pe_int pe_int) pa_nil))) pa_nil))) pa_nil)) (by rfl))
        (pss_cons (ps_if (pt_cmpR op_ne (pe_ix ix_tup (pe_ix ix_list (pv 6) pe_int (fun _ _ => rfl)) pe_int (fun _ _ => rfl)) (pe_ix ix_tup (pe_ix ix_list (pv 7) pe_int (fun _ _ => rfl)) pe_int (fun _ _ => rfl)) (nomark _)) (pss_one (ps_ret (pe_op op_add (pv 2) pe_int))) pss_nil)
        (pss_cons (ps_set (i := 8) scFA.nd rfl (by first | exact .inl rfl | exact .inr rfl) (pe_callB (call_min2 rfl) (by rfl) T.min (by decide +kernel) (pa_cons (pe_ix ix_tup (pe_ix ix_list (pv 6) pe_int (fun _ _ => rfl)) pe_int (fun _ _ => rfl)) (pa_cons (pe_ix ix_tup (pe_ix ix_list (pv 7) pe_int (fun _ _ => rfl)) pe_int (fun _ _ => rfl)) pa_nil))))
        (pss_cons (ps_aug (i := 2) scFA.nd rfl (.inl rfl) (pv 8) ip_add)
        (pss_cons (ps_set (i := 3) scFA.nd rfl (.inl rfl) (pe_op op_cat (pe_lc (own := [("step", 9), ("times", 10)]) (g := gTup K 2 (gCons (gName 9) (gCons (gName 10) gNil))) (tt := tTest (tOp (rI0 fun i j => .bl (decide (j < i))) (tVar 10) (tVar 8))) rfl scFA.nd (pi_list (pe_slice sl_list (pv 3) po_none (po_some pe_int)))
            (blkOk_by (N := ["one", "other", "hour", "left", "right", "turn", "first", "second", "many", "step", "times"]) (sc := defScope sFirstApart) (by decide +kernel)) (fun _ _ _ _ _ => pg_tup rfl (pgs_cons (pg_name (i := 9) scFA.nd rfl (Or.inl rfl)) (pgs_cons (pg_name (i := 10) scFA.nd rfl (Or.inl rfl)) pgs_nil)))
            (fun _ _ _ _ _ => by exact pts_one (pt_cmpR op_gt (pv 10) (pv 8) (nomark _))) (fun _ _ _ _ _ => pe_tup (pa_cons (pv 9) (pa_cons (pe_op op_sub (pv 10) (pv 8)) pa_nil)))) (pe_slice sl_list (pv 3) (po_some pe_int) po_none)))
        (pss_one (ps_set (i := 4) scFA.nd rfl (.inl rfl) (pe_op op_cat (pe_lc (own := [("step", 9), ("times", 10)]) (g := gTup K 2 (gCons (gName 9) (gCons (gName 10) gNil))) (tt := tTest (tOp (rI0 fun i j => .bl (decide (j < i))) (tVar 10) (tVar 8))) rfl scFA.nd (pi_list (pe_slice sl_list (pv 4) po_none (po_some pe_int)))
            (blkOk_by (N := ["one", "other", "hour", "left", "right", "turn", "first", "second", "many", "step", "times"]) (sc := defScope sFirstApart) (by decide +kernel)) (fun _ _ _ _ _ => pg_tup rfl (pgs_cons (pg_name (i := 9) scFA.nd rfl (Or.inl rfl)) (pgs_cons (pg_name (i := 10) scFA.nd rfl (Or.inl rfl)) pgs_nil)))
            (fun _ _ _ _ _ => by exact pts_one (pt_cmpR op_gt (pv 10) (pv 8) (nomark _))) (fun _ _ _ _ _ => pe_tup (pa_cons (pv 9) (pa_cons (pe_op op_sub (pv 10) (pv 8)) pa_nil)))) (pe_slice sl_list (pv 4) (po_some pe_int) po_none)))))))))))
      (pss_one (ps_ret pe_non))), ?_⟩
    obtain ⟨t, xs, rfl, h1, h2⟩ := hV
    obtain ⟨u, zs, rfl, g1, g2⟩ := hW
    refine ⟨_, rfl, t, xs, rfl, .inr h1, fun l0 hl0 => ⟨_, rfl, u, zs, rfl, .inr (sqt_more (same_new (o := .lst xs) (Same.refl H) hl0) g1), fun r0 hr0 => ⟨_, _, _, rfl, ?_⟩⟩⟩
    have m1 := same_new (o := .lst zs) (same_new (o := .lst xs) (Same.refl H) hl0) hr0
    have e1 := s3u (o := .lst zs) hr0 (upd_same (H := H) (a := l0) (o := .lst xs))
    have e2 : upd (upd H l0 (.lst xs)) r0 (.lst zs) r0 = some (.lst zs) := upd_same
    generalize upd (upd H l0 (.lst xs)) r0 (.lst zs) = H1 at m1 e1 e2 ⊢
    have runs : ∀ {G G' : Hp} {ws : List V} {L : List Run}, Same G G' → Paired (RunV K G) ws L → Paired (RunV K G') ws L := fun {G G' ws L} m p => paired_imp (fun v c ⟨a, e1, q⟩ => ⟨a, e1, sqt_more m q⟩) p
    refine ⟨40, rfl, by decide, by decide, for_range (n := 40) (fun j σ H' => ∃ (a m' n' : Int) (la ra : Addr) (us vs : List V) (L M : List Run) (v5 v6 v7 v8 v9 v10 : Option V), σ = [some (.ref t), some (.ref u), some (.int a), some (.ref la), some (.ref ra), v5, v6, v7, v8, v9, v10] ∧ H' la = some (.lst us) ∧ H' ra = some (.lst vs) ∧ Paired (RunV K H') us L ∧ Paired (RunV K H') vs M ∧ RM.Vd m' L ∧ RM.Vd n' M ∧ L.length + M.length + j ≤ 30 ∧ fu 0 R S = fu a L M ∧ Same H H') ?_ ?_ ?_⟩
    · exact ⟨0, m, n, l0, r0, xs, zs, R, S, _, _, _, _, _, _, rfl, e1, e2, runs m1 h2, runs m1 g2, vR, vS, by omega, rfl, m1⟩
    · rintro j σ H2 hj ⟨a, m', n', la, ra, us, vs, L, M, v5, v6, v7, v8, v9, v10, rfl, c1, c2, p1, p2, vL, vM, lj, ef, m2⟩
      refine both_tt (K := K) (la := la) (ra := ra) rfl rfl c1 c2 p1 p2 (fun H3 m3 => ?_)
      have p13 := runs m3 p1
      have p23 := runs m3 p2
      have c13 := m3 _ _ c1
      have c23 := m3 _ _ c2
      have m23 := m2.trans m3
      clear p1 p2 c1 c2
      refine ite2 (fun c => ?_) (fun c => ?_)
      · obtain ⟨rfl, rfl⟩ := of_decide_eq_true c
        have := k H3 m23
        rw [ef] at this
        exact this
      have c : ¬ (L = [] ∧ M = []) := fun z => c (decide_eq_true z)
      refine head_te (K := K) (i := 3) rfl c13 p13 (fun f1 ws1 H4 rest1 f4 q4 m4 => ?_)
      refine head_te (K := K) (i := 4) rfl (m4 _ _ c23) (runs m4 p23) (fun f2 ws2 H5 rest2 f5 q5 m5 => ⟨_, _, rfl, ?_⟩)
      have q4' := runs m5 q4
      have f4' := m5 _ _ f4
      cases q4' with
      | @cons y1 _ ys1 _ g1' tl1 =>
      cases q5 with
      | @cons y2 _ ys2 _ g2' tl2 =>
      obtain ⟨b1, rfl, hb1⟩ := g1'
      obtain ⟨b2, rfl, hb2⟩ := g2'
      have ne : ∀ {i j : Int}, (!decide (V.int i = V.int j)) = true ↔ i ≠ j := fun {i j} => by
        by_cases e : i = j
        · rw [e]
          simp
        · simp [e]
      refine ⟨_, rfl, f1, _, 0, .ref b1, rfl, rfl, SqL.of f4', at0, b1, _, 0, .int (hdR L).1, rfl, rfl, hb1, at0, ?_⟩
      refine ⟨_, rfl, f2, _, 0, .ref b2, rfl, rfl, SqL.of f5, at0, b2, _, 0, .int (hdR M).1, rfl, rfl, hb2, at0, rfl, _, rfl, ?_⟩
      have m25 := (m23.trans m4).trans m5
      refine ite2 (fun d => ?_) (fun d => ?_)
      · have d := ne.mp d
        refine ⟨_, rfl, _, _, rfl, rfl, ?_⟩
        have ef2 : fu a L M = some (a + 1) := by
          cases L with
          | nil => cases M with
            | nil => exact absurd ⟨rfl, rfl⟩ c
            | cons p M => rfl
          | cons q L => cases M with
            | nil => rfl
            | cons p M => rw [fu_cons, if_neg (show ¬ q.1 = p.1 from d)]
        have := k H5 m25
        rw [ef, ef2] at this
        exact this
      have d : (hdR L).1 = (hdR M).1 := Decidable.byContradiction fun z => d (ne.mpr z)
      cases L with
      | nil => cases M with
        | nil => exact absurd ⟨rfl, rfl⟩ c
        | cons p M =>
          have d : (0 : Int) = p.1 := d
          have := vM.1
          omega
      | cons q L => cases M with
        | nil =>
          have d : q.1 = (0 : Int) := d
          have := vL.1
          omega
        | cons p M =>
          have d : q.1 = p.1 := d
          refine ⟨_, rfl, f1, _, 0, .ref b1, rfl, rfl, SqL.of f4', at0, b1, _, 1, .int q.2, rfl, rfl, hb1, at1, ?_⟩
          refine ⟨_, rfl, f2, _, 0, .ref b2, rfl, rfl, SqL.of f5, at0, b2, _, 1, .int p.2, rfl, rfl, hb2, at1, q.2, p.2, rfl, ?_⟩
          refine ⟨_, rfl, _, rfl, _, _, rfl, rfl, ?_⟩
          have m35 := m4.trans m5
          refine cut_te (K := K) (i := 3) rfl (m35 _ _ c13) (runs m35 p13) (by have : (q :: L).length = L.length + 1 := rfl; omega) (fun fl wl H6 k6 r6 m6 => ?_)
          refine cut_te (K := K) (i := 4) rfl ((m35.trans m6) _ _ c23) (runs (m35.trans m6) p23) (by have : (p :: M).length = M.length + 1 := rfl; omega) (fun fr wr H7 k7 r7 m7 => ?_)
          have cl := cutR_len (q := q) (p := p) (L := L) (M := M)
          refine ⟨a + mn q.2 p.2, m', n', fl, fr, wl, wr, _, _, _, _, _, _, _, _, rfl, m7 _ _ k6, k7, runs m7 r6, r7, cutR_vd vL, cutR_vd vM, ?_, ?_, (m25.trans m6).trans m7⟩
          · have e1 : (q :: L).length = L.length + 1 := rfl
            have e2 : (p :: M).length = M.length + 1 := rfl
            rw [e1, e2] at lj
            have cl : (cutR q (if p.2 < q.2 then p.2 else q.2) L).length + (cutR p (if p.2 < q.2 then p.2 else q.2) M).length ≤ L.length + M.length + 1 := cl
            omega
          · rw [ef]
            exact fu_step vL vM d
    · rintro σ H' ⟨a, m', n', la, ra, us, vs, L, M, v5, v6, v7, v8, v9, v10, rfl, c1, c2, p1, p2, vL, vM, lj, ef, m2⟩
      omega
end
end Y

/-! rows side by side, by the program -/
namespace Y
open PySem PySem.Spec PyProof.Rows L2 Ns
open C8 (pss_cut)
/-- over a list or a tuple that a variable holds -/
structure AnyV (K : PySem.W.Frag) (i : Nat) (σ : L2.St) (H : Hp) (R : It → Hp → Prop) : Prop where
  has : ∃ (a : Addr) (xs : List V), σ[i]? = some (some (.ref a)) ∧
    ((SqL K H a xs ∧ ∀ J, (∀ G : Hp → Prop, (∀ H', G H' → SqL K H' a xs) → Walk J xs.length G (YAt xs)) → R J H) ∨ (SqT K H a xs ∧ ∀ J, (∀ G : Hp → Prop, (∀ H', G H' → SqT K H' a xs) → Walk J xs.length G (YAt xs)) → R J H))
theorem pi_any {X : Cx} {tg : Expr} {i : Nat} {x : Str} {pos : Pos} (h : PE X (.Name x pos) (tVar i)) : PI X tg (.Name x pos) (AnyV X.K i) := by
  refine ⟨fun pins s σ H R I hw => ?_⟩
  obtain ⟨⟨a, xs, hi, hs⟩⟩ := hw
  rcases hs with ⟨hs, k⟩ | ⟨hs, k⟩
  · exact (pi_list h).run pins s σ H R I ⟨_, hi, a, rfl, ⟨xs, hs⟩, k _ fun G g => walk_list.mono g fun _ _ _ _ _ _ y => y⟩
  · exact (pi_tup h).run pins s σ H R I ⟨_, hi, a, rfl, ⟨xs, hs⟩, k _ fun G g => walk_tup.mono g fun _ _ _ _ _ _ y => y⟩
theorem any_use {K : PySem.W.Frag} {σ : L2.St} {Hb H : Hp} {R : It → Hp → Prop} {i : Nat} {a : Addr} {xs : List V} (hi : σ[i]? = some (some (.ref a))) (h : SqL K Hb a xs ∨ SqT K Hb a xs) (m : Same Hb H) (k : ∀ J, Walk J xs.length (fun H' => Same Hb H') (YAt xs) → R J H) : AnyV K i σ H R := by
  rcases h with h | h
  · exact ⟨⟨a, xs, hi, .inl ⟨m.seq h, fun J w => k J (w _ fun H' g => g.seq h)⟩⟩⟩
  · exact ⟨⟨a, xs, hi, .inr ⟨sqt_more m h, fun J w => k J (w _ fun H' g => sqt_more g h)⟩⟩⟩
theorem gF_nn : ∀ {F : Fl} {e : Int}, (∀ p ∈ F, 1 ≤ p.1 ∧ 1 ≤ p.2) → 0 ≤ gF F e
  | [], _, _ => Int.le_refl _
  | p :: F, e, h => by
    unfold gF
    split
    · have := (h p List.mem_cons_self).2
      omega
    · exact gF_nn fun q hq => h q (List.mem_cons_of_mem _ hq)
theorem hu_of {k : Nat} {A : Around} (hr : Room k A) : A.units + 1 < cLine := by have := hr.units; omega
def nx1 (R : List Run) : List Int := (R.drop 1).map (fun q : Run => q.1) ++ [0]
theorem fl_at : ∀ {R : List Run} {a : Int} {j : Nat} {q : Run} {e n : Int}, R[j]? = some q → (ends R a)[j]? = some e → (nx1 R)[j]? = some n → (flR a R)[j]? = some (e, q.1 - n)
  | [], _, _, _, _, _, h, _, _ => by cases h
  | [p], a, 0, q, e, n, h1, h2, h3 => by
    cases h1
    cases h2
    cases h3
    rfl
  | [p], a, j + 1, q, e, n, h1, _, _ => by cases h1
  | p :: r :: R, a, 0, q, e, n, h1, h2, h3 => by
    cases h1
    cases h2
    cases h3
    rfl
  | p :: r :: R, a, j + 1, q, e, n, h1, h2, h3 => fl_at (R := r :: R) (a := a + p.2) h1 h2 h3
theorem nx_len (R : List Run) : R.length ≤ (nx1 R).length := by
  unfold nx1
  rw [List.length_append, List.length_map, List.length_drop]
  show R.length ≤ R.length - 1 + 1
  omega
theorem fl_len : ∀ (R : List Run) (a : Int), (flR a R).length = R.length
  | [], _ => rfl
  | q :: R, a => congrArg (· + 1) (fl_len R (a + q.2))
theorem fl_pos : ∀ {R : List Run} {m a : Int}, RM.Vd m R → 0 ≤ a → ∀ p ∈ flR a R, 1 ≤ p.1 ∧ 1 ≤ p.2
  | [], _, _, _, _, p, h => by cases h
  | q :: R, m, a, v, a0, p, h => by
    have k := v.2.2.1
    rcases List.mem_cons.mp h with rfl | h
    · refine ⟨by show 1 ≤ a + q.2; omega, ?_⟩
      have := RM.top_lt v.2.2.2 v.1
      show 1 ≤ q.1 - RM.top R
      omega
    · exact fl_pos v.2.2.2 (by omega) p h
theorem Wt_app (w : Int → Int) (F G : Fl) : Wt w (F ++ G) = Wt w F + Wt w G := by
  unfold Wt
  rw [List.map_append, List.sum_append]
structure FlF (Rs : List (List Run)) (F : Fl) (k : Nat) : Prop where
  nd : (F.map (·.1)).Nodup
  ps : ∀ p ∈ F, 1 ≤ p.1 ∧ 1 ≤ p.2
  ln : F.length ≤ k
  wt : ∀ w, Wt w F = (Rs.map fun R => Wt w (flR 0 R)).sum
def spFalls (K : PySem.W.Frag) : Sp := fun as H Q _ => ∃ (l : Addr) (ys : List V) (Rs : List (List Run)), as = [.ref l] ∧ (SqL K H l ys ∨ SqT K H l ys) ∧ Paired (RowV K H) ys Rs ∧ (∀ R ∈ Rs, RM.Vd (2 ^ 60) R ∧ R.length ≤ 8) ∧ Rs.length ≤ 5 ∧
  ∀ (fd : Addr) (F : Fl) (H' : Hp), H' fd = some (.dK (tkF F)) → FlF Rs F 40 → H fd = none → Same H H' → Q (.ref fd) H'
section
variable {P : Program} {w : World} {K : PySem.W.Frag} {mg : Str → Option Value} {base : Heap}
theorem scFl : FnScope ["rows", "falls", "stairs", "nexts", "step", "times", "end", "later"] ["rows"] (defScope sFalls) := ⟨rfl, rfl, rfl, by decide +kernel, rfl, by decide +kernel, by decide +kernel⟩
theorem ok_falls {f fE : Addr} {fd dE : FuncData} (F : Fun K "_falls" "_falls" sFalls f fd) (T : Nat0 mg) (FE : Fun K "ends_of" "ends_of" sEndsOf fE dE) (mE : mg "ends_of" = some (.ref fE)) (bE : Binds K dE ["stairs"] []) : FnOk P w K mg base CX0 2 f fd ["rows"] (spFalls K) := by
  have GE : FnOk P w K mg base CX0 1 fE dE ["stairs"] (spEnds K) := ok_endsOf FE T
  refine F.ok scFl (fun as H Q E h => ?_) (fun cdv A outer s H as Q E hr h => ?_)
  · obtain ⟨l, ys, Rs, rfl, _⟩ := h
    rfl
  · obtain ⟨l, ys, Rs, rfl, hS, hV, vd, l5, k⟩ := h
    have hr1 : Room 1 _ := hr
    have hu := hu_of hr
    refine ⟨_, pss_cons (ps_set (i := 1) scFl.nd rfl (.inl rfl) pe_dnewK)
      (pss_cons (ps_for PassesOwn.never rfl (pi_any (pv 0)) (pg_name (i := 2) scFl.nd rfl (.inl rfl))
        (pss_cons (ps_set (i := 3) scFl.nd rfl (.inl rfl) (pe_op op_cat (pe_lc (own := [("step", 4), ("times", 5)]) (g := gTup K 2 (gCons (gName 4) (gCons (gName 5) gNil))) (tt := tYes) rfl scFl.nd (pi_tup (pe_slice sl_tupU (pv 2) (po_some pe_int) po_none))
            (blkOk_by (N := ["rows", "falls", "stairs", "nexts", "step", "times", "end", "later"]) (sc := defScope sFalls) (by decide +kernel)) (fun _ _ _ _ _ => pg_tup rfl (pgs_cons (pg_name (i := 4) scFl.nd rfl (Or.inl rfl)) (pgs_cons (pg_name (i := 5) scFl.nd rfl (Or.inl rfl)) pgs_nil)))
            (fun _ _ _ _ _ => pts_nil) (fun _ _ _ _ _ => pv 4)) (pe_lst (pa_cons pe_int pa_nil))))
        (pss_one (ps_for PassesOwn.never rfl (pi_zip3 (by rfl) T.zip (pa_cons (pv 2) (pa_cons (pe_call GE hr1 rfl mE FE.kp bE .nil pass0 (pa_cons (pv 2) pa_nil)) (pa_cons (pv 3) pa_nil))))
          (pg_tup (by rfl) (pgs_cons (pg_tup (by rfl) (pgs_cons (pg_name (i := 4) scFl.nd rfl (.inl rfl)) (pgs_cons (pg_name (i := 5) scFl.nd rfl (.inl rfl)) pgs_nil))) (pgs_cons (pg_name (i := 6) scFl.nd rfl (.inl rfl)) (pgs_cons (pg_name (i := 7) scFl.nd rfl (.inl rfl)) pgs_nil))))
          (pss_one (ps_dput hu (pv 1) (pv 6) (pe_op op_sub (pe_op op_add (pe_dget2 hu (pv 1) (pv 6) pe_int ⟨by rfl, by rfl, by rfl, by rfl⟩) (pv 4)) (pv 7)) rfl))))))
      (pss_one (ps_ret (pv 1)))), ?_⟩
    refine fun fd hfd => ?_
    have m0 := same_new (o := .dK []) (Same.refl H) hfd
    have d0 : upd H fd (.dK []) fd = some (.dK (tkF [])) := upd_same
    generalize upd H fd (.dK []) = H0 at m0 d0 ⊢
    have ly := paired_len hV
    refine any_use (K := K) (i := 0) (a := l) (xs := ys) (Hb := H) ?_ hS m0 (fun J wk => ?_)
    · exact rfl
    refine for_it wk (fun i σ H' => ∃ (F : Fl) (v2 v3 v4 v5 v6 v7 : Option V), σ = [some (.ref l), some (.ref fd), v2, v3, v4, v5, v6, v7] ∧ H' fd = some (.dK (tkF F)) ∧ FlF (Rs.take i) F (8 * i) ∧ Same H H') ?_ ?_ ?_ ?_
    · exact ⟨[], _, _, _, _, _, _, rfl, d0, ⟨List.Pairwise.nil, (fun _ z => nomatch z), Nat.le_refl 0, fun w => by rw [List.take_zero]; rfl⟩, m0⟩
    · rintro i σ H' _ ⟨_, _, _, _, _, _, _, _, _, _, m⟩
      exact m
    · rintro i y σ H1 H1' hi ⟨F, v2, v3, v4, v5, v6, v7, rfl, d1, FF, m1⟩ ⟨rfl, hy⟩
      obtain ⟨R, hR, V0⟩ := paired_at hV hy
      obtain ⟨vR, r8⟩ := vd R (List.mem_of_getElem? hR)
      obtain ⟨t, xs, rfl, h1, h2⟩ := id V0
      have lx := paired_len h2
      refine ⟨_, rfl, 1, rfl, t, _, rfl, sqt_more m1 h1, fun p5 H5 m5 h5 => ⟨p5, rfl, ⟨_, h5⟩, fun D hD => ?_⟩⟩
      rw [drop_one] at h5
      have m15 := m1.trans m5
      refine lc_tup (K := K) (a := p5) (xs := xs.drop 1) (fun j H' => H' D = some (.lst ((((R.drop 1).take j).map fun q : Run => q.1).map V.int)) ∧ Same H5 H') ?_ ?_ ?_ ?_
      · exact ⟨by rw [List.take_zero, upd_same]; rfl, same_new (Same.refl H5) hD⟩
      · rintro j H' _ ⟨_, m⟩
        exact sqt_more m h5
      · rintro j z H' hz ⟨q1, q2⟩
        rw [List.getElem?_drop] at hz
        obtain ⟨r, hr', q, rfl, hq⟩ := paired_at h2 hz
        have hr2 : (R.drop 1)[j]? = some r := by rw [List.getElem?_drop]; exact hr'
        have hj : 1 + j < R.length := (List.getElem?_eq_some_iff.mp hr').1
        refine ⟨q, _, rfl, sqt_more (m15.trans q2) hq, rfl, _, _, rfl, _, _, rfl, rfl, ?_⟩
        refine ⟨rfl, _, rfl, _, q1, ?_, ?_, same_put q2 hD⟩
        · rw [List.length_map, List.length_map, List.length_take]
          exact small1000 (by omega)
        · rw [upd_same, List.take_succ, hr2]
          simp
      rintro H6 ⟨e6, m6⟩
      have ed : (R.drop 1).take (xs.drop 1).length = R.drop 1 := List.take_of_length_le (by rw [List.length_drop, List.length_drop, lx]; exact Nat.le_refl _)
      rw [ed] at e6
      refine ⟨by show 1 ≤ sizeLine; decide, fun z hz => ⟨D, z, _, _, rfl, rfl, s3u hz e6, upd_same, ?_, fun nx hnx => ?_⟩⟩
      · rw [List.length_map, List.length_map, List.length_drop]
        exact Nat.le_of_lt (small1000 (show R.length - 1 + 1 ≤ 1000 by omega))
      have en : (((R.drop 1).map fun q : Run => q.1).map V.int ++ [V.int 0] : List V) = (nx1 R).map V.int := by unfold nx1; rw [List.map_append]; rfl
      rw [en]
      have m7 := same_new (o := .lst ((nx1 R).map V.int)) (same_new (o := .lst [.int 0]) (m15.trans m6) hz) hnx
      have m57 := same_new (o := .lst ((nx1 R).map V.int)) (same_new (o := .lst [.int 0]) (m5.trans m6) hz) hnx
      have n7 : upd (upd H6 z (.lst [.int 0])) nx (.lst ((nx1 R).map V.int)) nx = some (.lst ((nx1 R).map V.int)) := upd_same
      generalize upd (upd H6 z (.lst [.int 0])) nx (.lst ((nx1 R).map V.int)) = H7 at m7 m57 n7 ⊢
      refine ⟨_, rfl, _, rfl, .ref t, R, rfl, V0.more m7, by omega, fun ep H8 e8 f8 m8 => ?_⟩
      have m08 := m7.trans m8
      have d8 := m8 _ _ (m57 _ _ d1)
      have n8 := m8 _ _ n7
      have le : (ends R 0).length = R.length := ends_len R 0
      refine ⟨_, rfl, t, ep, nx, xs, (ends R 0).map V.int, (nx1 R).map V.int, rfl, sqt_more m08 h1, SqT.of e8, SqL.of n8, ?_⟩
      refine for_it (walk_zip3 (K := K) (a := t) (b := ep) (c := nx) (xs := xs) (ys := (ends R 0).map V.int) (zs := (nx1 R).map V.int) (n := xs.length) rfl (by rw [List.length_map, le, lx]) (by rw [List.length_map, lx]; exact nx_len R)) (fun j σ H' => ∃ (F' : Fl) (v4 v5 v6 v7 : Option V), σ = [some (.ref l), some (.ref fd), some (.ref t), some (.ref nx), v4, v5, v6, v7] ∧ H' fd = some (.dK (tkF F')) ∧ (F'.map (·.1)).Nodup ∧ (∀ p ∈ F', 1 ≤ p.1 ∧ 1 ≤ p.2) ∧ F'.length ≤ 8 * i + j ∧ (∀ w, Wt w F' = Wt w F + Wt w ((flR 0 R).take j)) ∧ But fd H8 H' ∧ Same H H') ?_ ?_ ?_ ?_
      · exact ⟨F, _, _, _, _, rfl, d8, FF.nd, FF.ps, FF.ln, fun w => by rw [List.take_zero]; show _ = _ + 0; omega, fun _ _ _ h => h, m08⟩
      · rintro j σ H' _ ⟨_, _, _, _, _, _, _, _, _, _, _, bt, sm⟩
        exact ⟨sqt_more sm h1, SqT.of (bt _ _ (fun z => by rw [z, d8] at e8; cases e8) e8), SqL.of (bt _ _ (fun z => by rw [z, d8] at n8; cases n8) n8)⟩
      · rintro j x σ H9 H9' hj ⟨F', u4, u5, u6, u7, rfl, d9, nd, ps, ln, wt, bt, sm⟩ ⟨T', x', y', z', rfl, fT, rfl, hx, hy', hz'⟩
        obtain ⟨r, hr', q, rfl, hq⟩ := paired_at h2 hx
        obtain ⟨e, he, rfl⟩ := ints_of hy'
        obtain ⟨n, hn, rfl⟩ := ints_of hz'
        have fl := fl_at hr' he hn
        obtain ⟨e1, n1⟩ := fl_pos vR (Int.le_refl 0) _ (List.mem_of_getElem? fl)
        have m10 := same_new (o := .tup [.ref q, .int e, .int n]) (Same.refl H9) fT
        have d10 := m10 _ _ d9
        have t10 : upd H9 T' (.tup [.ref q, .int e, .int n]) T' = some (.tup [.ref q, .int e, .int n]) := upd_same
        generalize upd H9 T' (.tup [.ref q, .int e, .int n]) = H10 at m10 d10 t10 ⊢
        have g0 := gF_nn (e := e) ps
        refine ⟨T', _, rfl, SqT.of t10, rfl, _, _, rfl, q, _, rfl, sqt_more (sm.trans m10) hq, rfl, _, _, rfl, _, _, rfl, rfl, _, _, rfl, _, _, rfl, rfl, ?_⟩
        refine ⟨_, rfl, fd, rfl, .inl ⟨_, .inl d10⟩, _, rfl, _, DGet.k (k := Sum.inl e) d10, _, rfl, gF F' e, r.1, val_tk F' e, rfl, _, rfl, _, _, rfl, rfl, _, rfl, _, rfl, fd, _, rfl, DPut.k (k := Sum.inl e) d10 ?_, ?_⟩
        · rw [show (tkF F').length = F'.length from List.length_map _]
          exact small1000 (by omega)
        have ev : gF F' e + r.1 - n = gF F' e + (r.1 - n) := by omega
        have ep' := put_tk (e := e) (v := gF F' e + (r.1 - n)) nd
        rw [← ev] at ep'
        have pl := pF_len F' e (gF F' e + (r.1 - n))
        refine ⟨pF F' e (gF F' e + (r.1 - n)), _, _, _, _, rfl, ?_, pF_nodup nd, fun p hp => ?_, by omega, fun w => ?_, ?_, same_put (sm.trans m10) hfd⟩
        · rw [upd_same, ← ev]
          exact congrArg (fun z => some (HO.dK z)) ep'
        · rcases mem_pF hp with z | z
          · rw [z]
            exact ⟨e1, by show 1 ≤ gF F' e + (r.1 - n); have : 1 ≤ r.1 - n := n1; omega⟩
          · exact ps p z
        · rw [Wt_put, wt w, List.take_succ, fl]
          show _ = _ + Wt w (_ ++ [(e, r.1 - n)])
          rw [Wt_app, Wt_cons]
          show _ = _ + (_ + ((r.1 - n) * w e + 0))
          omega
        · exact (bt.trans (But.of m10)).put
      rintro σ H9 ⟨F', u4, u5, u6, u7, rfl, d9, nd, ps, ln, wt, bt, sm⟩
      refine ⟨F', _, _, _, _, _, _, rfl, d9, ⟨nd, ps, by omega, fun w => ?_⟩, sm⟩
      have ea : (flR 0 R).take xs.length = flR 0 R := List.take_of_length_le (by rw [fl_len, lx]; exact Nat.le_refl _)
      rw [wt w, ea, FF.wt w, List.take_succ, hR]
      simp
    rintro σ H1 ⟨F, v2, v3, v4, v5, v6, v7, rfl, d1, FF, m1⟩
    rw [ly, List.take_length] at FF
    exact ⟨_, rfl, k fd F H1 d1 ⟨FF.nd, FF.ps, by have := FF.ln; omega, FF.wt⟩ hfd m1⟩
end
end Y

/-! the sum of rows, from their falls -/
namespace Y
open PySem PySem.Spec PyProof.Rows L2 Ns
open C8 (pss_cut)
theorem up_of {f : Int → Int} : ∀ {es : List Int} {a : Int}, (∀ e ∈ es, a < e) → es.Pairwise (· < ·) → Up a (es.map fun e => (e, f e))
  | [], _, _, _ => trivial
  | e :: es, a, h, p => by
    obtain ⟨p1, p2⟩ := List.pairwise_cons.mp p
    exact ⟨h e List.mem_cons_self, up_of p1 p2⟩
theorem fl_keys : ∀ {F : Fl}, (F.map (·.1)).Nodup → F = (F.map (·.1)).map fun e => (e, gF F e)
  | [], _ => rfl
  | p :: F, h => by
    rw [List.map_cons] at h
    obtain ⟨h1, h2⟩ := List.nodup_cons.mp h
    have ih := fl_keys h2
    rw [List.map_cons, List.map_cons]
    have e1 : gF (p :: F) p.1 = p.2 := by unfold gF; rw [if_pos rfl]
    rw [e1]
    have e2 : (F.map (·.1)).map (fun e => (e, gF (p :: F) e)) = (F.map (·.1)).map fun e => (e, gF F e) := by
      refine List.map_congr_left fun e he => ?_
      have : gF (p :: F) e = gF F e := by
        show (if p.1 = e then p.2 else gF F e) = _
        rw [if_neg (fun z => h1 (by rw [z]; exact he))]
      rw [this]
    rw [e2, ← ih]
theorem tot1_Wt (F : Fl) : tot1 F = Wt (fun _ => 1) F := by
  unfold tot1 Wt
  refine congrArg List.sum (List.map_congr_left fun p _ => ?_)
  show p.2 = p.2 * 1
  omega
def spAdded (K : PySem.W.Frag) : Sp := fun as H Q _ => ∃ (l : Addr) (ys : List V) (Rs : List (List Run)), as = [.ref l] ∧ (SqL K H l ys ∨ SqT K H l ys) ∧ Paired (RowV K H) ys Rs ∧ (∀ R ∈ Rs, RM.Vd (2 ^ 60) R ∧ R.length ≤ 8) ∧ Rs.length ≤ 5 ∧
  ∀ (p : Addr) (m : Int) (D : List Run) (H' : Hp), 1 ≤ m → RM.Vd m D → (∀ h, 0 ≤ h → RM.rch D h = RM.sumR Rs h) → D.length ≤ 40 → RowV K H' (.ref p) D → Same H H' → Q (.ref p) H'
section
variable {P : Program} {w : World} {K : PySem.W.Frag} {mg : Str → Option Value} {base : Heap}
theorem scAdd : FnScope ["rows", "falls", "step", "runs", "hour", "end"] ["rows"] (defScope sAdded) := ⟨rfl, rfl, rfl, by decide +kernel, rfl, by decide +kernel, by decide +kernel⟩
theorem ok_added {f fF : Addr} {fd dF : FuncData} (F : Fun K "added" "added" sAdded f fd) (T : Nat0 mg) (GF : FnOk P w K mg base CX0 2 fF dF ["rows"] (spFalls K)) (FF : Fun K "_falls" "_falls" sFalls fF dF) (mF : mg "_falls" = some (.ref fF)) (bF : Binds K dF ["rows"] []) : FnOk P w K mg base CX0 3 f fd ["rows"] (spAdded K) := by
  refine F.ok scAdd (fun as H Q E h => ?_) (fun cdv A outer s H as Q E hr h => ?_)
  · obtain ⟨l, ys, Rs, rfl, _⟩ := h
    rfl
  · obtain ⟨l, ys, Rs, rfl, hS, hV, vd, l5, k⟩ := h
    have hr2 : Room 2 _ := hr
    have hu := hu_of hr
    refine ⟨_, pss_cons (ps_set (i := 1) scAdd.nd rfl (.inl rfl) (pe_call GF hr2 rfl mF FF.kp bF .nil pass0 (pa_cons (pv 0) pa_nil)))
      (pss_cons (ps_set (i := 2) scAdd.nd rfl (.inl rfl) (pe_sumVals rfl (by rfl) T.sum (pv 1)))
      (pss_cons (ps_set (i := 3) scAdd.nd rfl (.inl rfl) (pe_lst pa_nil))
      (pss_cons (ps_set (i := 4) scAdd.nd rfl (.inl rfl) pe_int)
      (pss_cons (ps_for PassesOwn.never rfl (pi_list (pe_callB (call_sortedDI rfl) (by rfl) T.sorted (by decide +kernel) (pa_cons (pv 1) pa_nil))) (pg_name (i := 5) scAdd.nd rfl (.inl rfl))
        (pss_cons (ps_expr (pe_bm PySem.F.plainAttrs_list PySem.F.slot_list_append PySem.F.type_list_append mt_append (pv 3) (pa_cons (pe_tup (pa_cons (pv 2) (pa_cons (pe_op op_sub (pv 5) (pv 4)) pa_nil))) pa_nil)))
        (pss_cons (ps_aug (i := 2) scAdd.nd rfl (.inl rfl) (pe_dget hu (pv 1) (pv 5) (fun _ _ => rfl)) ip_sub)
        (pss_one (ps_set (i := 4) scAdd.nd rfl (.inl rfl) (pv 5))))))
      (pss_one (ps_ret (pe_callTy call_tuple_of (by rfl) T.tuple (by decide +kernel) (pa_cons (pv 3) pa_nil)))))))), ?_⟩
    refine ⟨_, rfl, l, ys, Rs, rfl, hS, hV, vd, l5, fun fd F H1 d1 FF n1 m1 => ?_⟩
    refine ⟨_, rfl, fd, tkF F, F.map (·.2), rfl, d1, by unfold tkF; rw [List.map_map, List.map_map]; rfl, ?_⟩
    refine ⟨by show 0 ≤ sizeLine; decide, fun rl hrl => ?_⟩
    have m2 := same_new (o := .lst []) m1 hrl
    have d2 := s3u (o := .lst []) hrl d1
    have r2 : upd H1 rl (.lst []) rl = some (.lst []) := upd_same
    have nrl : H rl = none := by
      cases z : H rl with
      | none => rfl
      | some o => rw [m1 _ _ z] at hrl; cases hrl
    generalize upd H1 rl (.lst []) = H2 at m2 d2 r2 ⊢
    have ln := FF.ln
    refine ⟨_, rfl, fd, tkF F, F.map (·.1), rfl, .inl d2, by unfold tkF; rw [List.map_map, List.map_map]; rfl, by rw [List.length_map]; omega, fun es p pe so hp => ⟨p, rfl, ⟨_, SqL.of upd_same⟩, ?_⟩⟩
    have m3 := same_new (o := .lst (es.map V.int)) m2 hp
    have d3 := s3u (o := .lst (es.map V.int)) hp d2
    have r3 := s3u (o := .lst (es.map V.int)) hp r2
    have p3 : upd H2 p (.lst (es.map V.int)) p = some (.lst (es.map V.int)) := upd_same
    have npr : p ≠ rl := fun z => by rw [z, r2] at hp; cases hp
    generalize upd H2 p (.lst (es.map V.int)) = H3 at m3 d3 r3 p3 ⊢
    have nde : es.Nodup := pe.nodup_iff.mpr FF.nd
    have lt : es.Pairwise (· < ·) := (so.and nde).imp fun {a b} h => by have := h.1; have := h.2; omega
    have e1 : ∀ e ∈ es, 0 < e := fun e he => by
      obtain ⟨q, hq, z⟩ := List.mem_map.mp (pe.mem_iff.mp he)
      have := (FF.ps q hq).1
      omega
    have up : Up 0 (es.map fun e => (e, gF F e)) := up_of e1 lt
    have pG : (es.map fun e => (e, gF F e)).Perm F := by
      have := pe.map fun e => (e, gF F e)
      rw [← fl_keys FF.nd] at this
      exact this
    have posG : ∀ q ∈ (es.map fun e => (e, gF F e)), 1 ≤ q.2 := fun q hq => (FF.ps q (pG.mem_iff.mp hq)).2
    have tG : (F.map (·.2)).sum = tot1 (es.map fun e => (e, gF F e)) := by
      show tot1 F = _
      rw [tot1_Wt, tot1_Wt, Wt_perm pG]
    have lG : (es.map fun e => (e, gF F e)).length = es.length := List.length_map _
    have atG : ∀ {j : Nat} {e : Int}, es[j]? = some e → (es.map fun e => (e, gF F e))[j]? = some (e, gF F e) := fun {j e} h => by rw [List.getElem?_map, h]; rfl
    rw [tG]
    generalize hG : (es.map fun e => (e, gF F e)) = G at up pG posG lG atG ⊢
    refine for_list (K := K) (a := p) (xs := es.map V.int) (fun j σ H' => ∃ (us : List V) (D : List Run) (hj : Int) (v5 : Option V), σ = [some (.ref l), some (.ref fd), some (.int (tot1 (G.drop j))), some (.ref rl), some (.int hj), v5] ∧ H' rl = some (.lst us) ∧ Paired (RunV K H') us D ∧ D.length = j ∧ mkR (tot1 G) 0 G = D ++ mkR (tot1 (G.drop j)) hj (G.drop j) ∧ But rl H3 H' ∧ Same H H') ?_ ?_ ?_ ?_
    · exact ⟨[], [], 0, _, rfl, r3, .nil, rfl, rfl, fun _ _ _ h => h, m3⟩
    · rintro j σ H' _ ⟨_, _, _, _, _, _, _, _, _, bt, _⟩
      exact SqL.of (bt _ _ npr p3)
    · rintro j z σ H' hz ⟨us, D, hj, v5, rfl, c1, c2, c3, c4, bt, sm⟩
      obtain ⟨e, he, rfl⟩ := ints_of hz
      have hjl : j < es.length := (List.getElem?_eq_some_iff.mp he).1
      have lk : es.length ≤ 40 := by rw [← lG, pG.length_eq]; exact ln
      have dr := drop_at (atG he)
      have et : tot1 (G.drop j) - gF F e = tot1 (G.drop (j + 1)) := by
        rw [dr, tot1_cons]
        show gF F e + _ - gF F e = _
        omega
      have dfd : H' fd = some (.dK (tkF F)) := bt _ _ (fun z => by rw [z, r3] at d3; cases d3) d3
      have lu := paired_len c2
      refine ⟨_, rfl, .inl ⟨rfl, _, SqL.of c1⟩, _, rfl, _, rfl, _, rfl, _, _, rfl, rfl, by show 2 ≤ sizeLine; decide, fun q hq => ?_⟩
      have nq : q ≠ rl := fun z => by rw [z, c1] at hq; cases hq
      refine ⟨rl, _, _, rfl, rfl, s3u hq c1, small1000 (by omega), ?_⟩
      have m5 := same_put (o := .lst (us ++ [.ref q])) (same_new (o := .tup [.int (tot1 (G.drop j)), .int (e - hj)]) sm hq) nrl
      have b5 : But rl H3 (upd (upd H' q (.tup [.int (tot1 (G.drop j)), .int (e - hj)])) rl (.lst (us ++ [.ref q]))) := (bt.trans (But.of (same_new (o := .tup [.int (tot1 (G.drop j)), .int (e - hj)]) (Same.refl H') hq))).put
      have q5 : upd (upd H' q (.tup [.int (tot1 (G.drop j)), .int (e - hj)])) rl (.lst (us ++ [.ref q])) q = some (.tup [.int (tot1 (G.drop j)), .int (e - hj)]) := by rw [upd_ne nq]; exact upd_same
      have r5 : upd (upd H' q (.tup [.int (tot1 (G.drop j)), .int (e - hj)])) rl (.lst (us ++ [.ref q])) rl = some (.lst (us ++ [.ref q])) := upd_same
      have c25 : Paired (RunV K (upd (upd H' q (.tup [.int (tot1 (G.drop j)), .int (e - hj)])) rl (.lst (us ++ [.ref q])))) us D :=
        runs_but (s3u hq c1) (But.of (Same.refl _)).put (paired_imp (fun v c ⟨a, e1, z⟩ => ⟨a, e1, sqt_more (same_new (o := .tup [.int (tot1 (G.drop j)), .int (e - hj)]) (Same.refl H') hq) z⟩) c2)
      have d5 := b5 fd _ (fun z => by rw [z, r3] at d3; cases d3) d3
      generalize upd (upd H' q (.tup [.int (tot1 (G.drop j)), .int (e - hj)])) rl (.lst (us ++ [.ref q])) = H5 at m5 b5 q5 r5 c25 d5 ⊢
      have mem : e ∈ F.map (·.1) := pe.mem_iff.mp (List.mem_of_getElem? he)
      refine ⟨_, rfl, _, rfl, _, rfl, fd, .int (gF F e), rfl, .inl ⟨_, Sum.inl e, .inl d5, rfl, (val_some mem).symm⟩, _, _, rfl, rfl, ?_⟩
      refine ⟨_, rfl, ?_⟩
      rw [← et]
      refine ⟨us ++ [.ref q], D ++ [(tot1 (G.drop j), e - hj)], e, _, rfl, r5, paired_snoc ⟨q, rfl, SqT.of q5⟩ c25, by rw [List.length_append, c3]; rfl, ?_, b5, m5⟩
      rw [c4, et, List.append_assoc]
      congr 1
      rw [dr]
      show (tot1 ((e, gF F e) :: G.drop (j + 1)), e - hj) :: mkR (tot1 ((e, gF F e) :: G.drop (j + 1)) - gF F e) e (G.drop (j + 1)) = _
      rw [← dr, et]
      rfl
    rintro σ H5 ⟨us, D, hj, v5, rfl, c1, c2, c3, c4, bt, sm⟩
    rw [List.length_map] at c3 c4
    have ed : G.drop es.length = [] := List.drop_eq_nil_of_le (by rw [lG]; exact Nat.le_refl _)
    have eD : D = mkR (tot1 G) 0 G := by
      rw [c4, ed]
      show D = D ++ []
      rw [List.append_nil]
    refine ⟨_, rfl, rl, us, rfl, .inl ⟨SqL.of c1, fun d hd => ?_⟩⟩
    have m6 := same_new (o := .tup us) (Same.refl H5) hd
    have t0 := tot1_nn posG
    refine k d (tot1 G + 1) D _ (by omega) (by rw [eD]; exact vd_mk up posG (by omega)) (fun h h0 => ?_) (by rw [c3, ← lG, pG.length_eq]; exact ln) ⟨d, us, rfl, SqT.of upd_same, paired_imp (fun v c ⟨a, e1, q⟩ => ⟨a, e1, sqt_more m6 q⟩) c2⟩ (sm.trans m6)
    rw [eD, rch_mk up h0, Wt_perm pG, FF.wt]
    unfold RM.sumR
    refine congrArg List.sum (List.map_congr_left fun R hR => ?_)
    rw [rch_fl (vd R hR).1 h0]
    congr 1
    funext e
    rw [Int.sub_zero]
end
end Y

/-! NsV: a tuple times 0 or 1. -/
namespace Ns
open PySem PySem.Spec PyProof.Rows L2
theorem tup_mul1 (l : Addr) (items : Array Value) (n : Nat) (dd : Option Addr) (sl : Array (Option Value)) (u : Tok) :
    Meets (Builtin.«tuple.__mul__» ⟨[.ref l, .int 1 u], []⟩) (fun _ R s => s.heap.get? l = some { cls := .type "tuple", dict := dd, data := .seq items n, slots := sl } ∧ R (.ok (.ret (Value.ref l))) s) :=
  .of_wp fun prog w A R s h => by
    obtain ⟨hp, g, d, tk, os⟩ := s
    obtain ⟨hl, h⟩ := h
    have f1 := AutoSeq1.idx_int
    wp_walk using wpAny_loadPart' hl
    exact ⟨_, rfl, h⟩
theorem tup_mul0 (l : Addr) (items : Array Value) (n : Nat) (dd : Option Addr) (sl : Array (Option Value)) (u : Tok) (hi : items.isEmpty = false) :
    Meets (Builtin.«tuple.__mul__» ⟨[.ref l, .int 0 u], []⟩) (fun _ R s => s.heap.get? l = some { cls := .type "tuple", dict := dd, data := .seq items n, slots := sl } ∧
      R (.ok (.ret (Value.ref s.heap.objs.size))) { s with heap := s.heap.push { cls := Value.type "tuple", data := Data.seq #[] }, toks := s.toks }) :=
  .of_wp fun prog w A R s h => by
    obtain ⟨hp, g, d, tk, os⟩ := s
    obtain ⟨hl, h⟩ := h
    have f1 := AutoSeq1.idx_int
    wp_walk using wpAny_loadPart' hl
    exact ⟨_, rfl, h⟩
def rRep01 (K : PySem.W.Frag) : R2 := fun x y H Q => ∃ (l : Addr) (k : Int) (xs : List V), x = .ref l ∧ y = .int k ∧ SqT K H l xs ∧ xs ≠ [] ∧ (k = 0 ∨ k = 1) ∧ (k = 1 → Q (.ref l) H) ∧ (k = 0 → ∀ p, H p = none → Q (.ref p) (upd H p (.tup [])))
theorem op_rep01 {X : Cx} : OpR X (binaryOp .Mult) (rRep01 X.K) := by
  intro pins s σ H x y v u Q I rx ry h
  obtain ⟨l, k, xs, rfl, rfl, hT, hne, hk, q1, q0⟩ := h
  cases rx
  obtain ⟨t, rfl⟩ := ry
  obtain ⟨its, r, ⟨⟨cls, dd, data, sl⟩, ho, hc, n, hd⟩, hs⟩ := I.tuple hT
  simp only at hc hd
  subst hc hd
  have hi : its.toArray.isEmpty = false := by
    cases its with
    | nil => exact absurd (List.eq_nil_of_length_eq_zero r.length) hne
    | cons a b => rfl
  rcases hk with rfl | rfl
  · refine wpAny_binaryOp_repeat_ref (T := "tuple") (U := "int") (by decide) ⟨_, ho, rfl⟩ (fun s' => typeIs_int s' 0 t) noFill_tuple_mul F.fills_int_mul F.slot_int_rmul repeat_tuple F.slot_int_index.lookup
      (call_meets F.slot_int_rmul (typeIs_int s 0 t) F.entry_int_rmul (F.args_int_rmul_2 _ _) (int_rmul_tuple 0 t l its.toArray n dd sl)
        ⟨ho, rfl, ⟨_, ho, rfl⟩, call_meets F.slot_tuple_mul ⟨_, ho, rfl⟩ F.entry_tuple_mul (F.args_tuple_mul_2 _ _) (tup_mul0 l its.toArray n dd sl t hi) ⟨ho, ?_⟩⟩)
    exact ⟨.ref s.heap.objs.size, _, I.laid (t' := s.toks) (o := .tup []) (fun b ob q => Heap.get?_push_of_some _ q) (Nat.le_refl _) ⟨by show 0 ≤ sizeLine; decide, [], .nil, IsTup.new _ _⟩, rfl, q0 rfl _ (I.hok.fresh (Nat.le_refl _))⟩
  · refine wpAny_binaryOp_repeat_ref (T := "tuple") (U := "int") (by decide) ⟨_, ho, rfl⟩ (fun s' => typeIs_int s' 1 t) noFill_tuple_mul F.fills_int_mul F.slot_int_rmul repeat_tuple F.slot_int_index.lookup
      (call_meets F.slot_int_rmul (typeIs_int s 1 t) F.entry_int_rmul (F.args_int_rmul_2 _ _) (int_rmul_tuple 1 t l its.toArray n dd sl)
        ⟨ho, rfl, ⟨_, ho, rfl⟩, call_meets F.slot_tuple_mul ⟨_, ho, rfl⟩ F.entry_tuple_mul (F.args_tuple_mul_2 _ _) (tup_mul1 l its.toArray n dd sl t) ⟨ho, ?_⟩⟩)
    exact ⟨.ref l, H, I, rfl, q1 rfl⟩
end Ns

namespace Y
open PySem PySem.Spec PyProof.Rows L2 Ns
structure D27 (P : Program) (w : World) (K : PySem.W.Frag) (mg : Str → Option Value) (base : Heap) (TT : List (Addr × Str)) (fB fT fS fRw fAd fLA fCp fLC fSM fLd fRR fRU fFU fFA fA : Addr) (dB dT dS dRw dAd dLA dCp dLC dSM dLd dRR dRU dFU dFA dA : FuncData) : Prop where
  B : Fun K "_law_bag" "_law_bag" sBag fB dB
  mB : mg "_law_bag" = some (.ref fB)
  bB : Binds K dB ["script"] []
  gB : FnOk P w K mg base CX0 1 fB dB ["script"] (spBag K)
  T : Fun K "_law_take" "_law_take" sTake fT dT
  mT : mg "_law_take" = some (.ref fT)
  bT : Binds K dT ["bag", "many"] []
  gT : FnOk P w K mg base CX0 1 fT dT ["bag", "many"] (spTake)
  S : Fun K "_law_some" "_law_some" sSome fS dS
  mS : mg "_law_some" = some (.ref fS)
  bS : Binds K dS ["bag", "things"] []
  gS : FnOk P w K mg base CX0 2 fS dS ["bag", "things"] (spSome K)
  Rw : Fun K "_law_some_row" "_law_some_row" sSomeRow fRw dRw
  mRw : mg "_law_some_row" = some (.ref fRw)
  bRw : Binds K dRw ["bag"] []
  gRw : FnOk P w K mg base CX0 3 fRw dRw ["bag"] (spRow K)
  Ad : Fun K "added" "added" sAdded fAd dAd
  mAd : mg "added" = some (.ref fAd)
  bAd : Binds K dAd ["rows"] []
  gAd : FnOk P w K mg base CX0 3 fAd dAd ["rows"] (spAdded K)
  LA : Fun K "_law_added" "_law_added" sLAdded fLA dLA
  mLA : mg "_law_added" = some (.ref fLA)
  bLA : Binds K dLA ["rows"] []
  gLA : GnOk P w K mg base 4 fLA dLA ["rows"] (spLAd K TT)
  Cp : Fun K "capped" "capped" sCapped fCp dCp
  mCp : mg "capped" = some (.ref fCp)
  bCp : Binds K dCp ["stairs", "cap"] []
  gCp : FnOk P w K mg base CX0 2 fCp dCp ["stairs", "cap"] (spCapped K)
  LC : Fun K "_law_capped" "_law_capped" sLCapped fLC dLC
  mLC : mg "_law_capped" = some (.ref fLC)
  bLC : Binds K dLC ["row", "cap"] []
  gLC : GnOk P w K mg base 4 fLC dLC ["row", "cap"] (spLCp K TT)
  SM : Fun K "_law_steps_many" "_law_steps_many" sStepsMany fSM dSM
  mSM : mg "_law_steps_many" = some (.ref fSM)
  bSM : Binds K dSM ["row"] []
  gSM : FnOk P w K mg base CX0 1 fSM dSM ["row"] (spR1 K hrs)
  Ld : Fun K "_law_laid" "_law_laid" sLaid fLd dLd
  mLd : mg "_law_laid" = some (.ref fLd)
  bLd : Binds K dLd ["row"] []
  gLd : FnOk P w K mg base CX0 1 fLd dLd ["row"] (spLaid K)
  RR : Fun K "_law_row_reach" "_law_row_reach" sRowReach fRR dRR
  mRR : mg "_law_row_reach" = some (.ref fRR)
  bRR : Binds K dRR ["row", "hours"] []
  gRR : FnOk P w K mg base CX0 1 fRR dRR ["row", "hours"] (spRI K lrch)
  RU : Fun K "_law_run_up" "_law_run_up" sRunUp fRU dRU
  mRU : mg "_law_run_up" = some (.ref fRU)
  bRU : Binds K dRU ["steps"] []
  gRU : GnOk P w K mg base 4 fRU dRU ["steps"] (spUp K TT)
  FU : Fun K "first_unlike" "first_unlike" sFirstUnlike fFU dFU
  mFU : mg "first_unlike" = some (.ref fFU)
  bFU : Binds K dFU ["one", "other"] []
  gFU : FnOk P w K mg base CX0 1 fFU dFU ["one", "other"] (spFU K)
  FA : Fun K "_law_first_apart" "_law_first_apart" sFirstApart fFA dFA
  mFA : mg "_law_first_apart" = some (.ref fFA)
  bFA : Binds K dFA ["one", "other"] []
  gFA : FnOk P w K mg base CX0 1 fFA dFA ["one", "other"] (spFA K)
  A : Fun K "_law_alike" "_law_alike" sAlike fA dA
  mA : mg "_law_alike" = some (.ref fA)
  bA : Binds K dA ["found", "due"] []
  gA : GnOk P w K mg base 1 fA dA ["found", "due"] (spAlike K)
theorem wo_upd {H : Hp} {D b : Addr} {o : HO} (n : D ≠ b) : wo (upd H D o) b = upd (wo H b) D o := by
  funext c
  by_cases e : c = b
  · subst e
    rw [upd_ne (Ne.symm n)]
    unfold wo
    simp
  · rw [wo_ne e]
    by_cases f : c = D
    · subst f
      rw [upd_same, upd_same]
    · rw [upd_ne f, upd_ne f, wo_ne e]
theorem row_but {K : PySem.W.Frag} {H H' : Hp} {l : Addr} {vs : List V} {y : V} {R : List Run} (e : H l = some (.lst vs)) (m : But l H H') (h : RowV K H y R) : RowV K H' y R := by
  obtain ⟨t, xs, rfl, h1, h2⟩ := h
  exact ⟨t, xs, rfl, sqt_but e m h1, runs_but e m h2⟩
theorem vd_of : ∀ {R : List Run} {m : Int}, (∀ r ∈ R, 1 ≤ r.1 ∧ r.1 < m ∧ 1 ≤ r.2) → R.Pairwise (fun x y => y.1 < x.1) → RM.Vd m R
  | [], _, _, _ => trivial
  | r :: R, m, h, p => by
    obtain ⟨p1, p2⟩ := List.pairwise_cons.mp p
    obtain ⟨h1, h2, h3⟩ := h r List.mem_cons_self
    exact ⟨h1, h2, h3, vd_of (fun q hq => ⟨(h q (List.mem_cons_of_mem _ hq)).1, p1 q hq, (h q (List.mem_cons_of_mem _ hq)).2.2⟩) p2⟩
theorem Runs.vd {R : List Run} (h : Runs R) (p : R.Pairwise (fun x y => y.1 < x.1)) : RM.Vd (10 ^ 12 + 1) R := vd_of (fun r hr => by have := h.2 r hr; omega) p
/-! the table of code objects, beside the bag -/
open LamX in
theorem tabs_wo {T : List (Addr × Str)} {H : Hp} {b : Addr} (h : Tabs T H) (B : Bag H b) : Tabs T (wo H b) := fun p hp => by
  obtain ⟨ps, h1, h2, h3⟩ := h p hp
  obtain ⟨_, _, _, _, _, e, _⟩ := B
  refine ⟨ps, (wo_ne (fun z => by rw [z, e] at h1; cases h1)).trans h1, h2, fun pos cv hc => ?_⟩
  obtain ⟨c, e1, e2⟩ := h3 pos cv hc
  exact ⟨c, e1, (wo_ne (fun z => by rw [z, e] at e2; cases e2)).trans e2⟩
open LamX in
theorem tabs_sb {T : List (Addr × Str)} {H H' : Hp} {b : Addr} (h : Tabs T H) (B : Bag H b) (s : Sb b H H') : Tabs T H' := ((tabs_wo h B).ext s.1).ext (wo_sub H' b)
open LamX in
theorem bag_ext {H H' : Hp} {b : Addr} (B : Bag H b) (e : ExtN H H') : Bag H' b := by
  obtain ⟨n0, n1, n2, l, ns, e1, e2, r⟩ := B
  exact ⟨n0, n1, n2, l, ns, e _ _ e1 (fun _ z => nomatch z), e _ _ e2 (fun _ z => nomatch z), r⟩
def rowD (R : List Run) : PyData := .tuple (R.map runD)
theorem fit_runB {r : Run} (h : 0 ≤ r.1 ∧ r.1 ≤ 10 ^ 28 ∧ 0 ≤ r.2 ∧ r.2 ≤ 10 ^ 28) : Fit 700 1 (runD r) := by
  refine (fit_tuple (m := 300) (k := 0) fun d hd => ?_).mono (show 2 * (300 + 2) + 3 ≤ 700 by decide) (by decide)
  simp only [List.mem_cons, List.not_mem_nil, or_false] at hd
  rcases hd with rfl | rfl
  · exact fit_num h.1 h.2.1
  · exact fit_num h.2.2.1 h.2.2.2
theorem fit_rowB {R : List Run} (hl : R.length ≤ 200) (h : ∀ r ∈ R, 0 ≤ r.1 ∧ r.1 ≤ 10 ^ 28 ∧ 0 ≤ r.2 ∧ r.2 ≤ 10 ^ 28) : Fit 200000 2 (rowD R) := by
  refine (fit_tuple (m := 700) (k := 1) fun d hd => ?_).mono ?_ (by decide)
  · obtain ⟨r, hr, rfl⟩ := List.mem_map.mp hd
    exact fit_runB (h r hr)
  · rw [List.length_map]
    omega
theorem whole_in : ∀ {R : List Run} {m : Int}, RM.Vd m R → ∀ r ∈ R, r.2 ≤ RM.whole R
  | [], _, _, _, h => by cases h
  | q :: R, m, v, r, h => by
    have k1 := v.1
    have k2 := v.2.2.1
    have w := RM.whole_nn v.2.2.2
    have e : RM.whole (q :: R) = q.1 * q.2 + RM.whole R := by unfold RM.whole; rw [List.map_cons, List.sum_cons]
    have g : 1 * q.2 ≤ q.1 * q.2 := Int.mul_le_mul_of_nonneg_right k1 (by omega)
    rcases List.mem_cons.mp h with rfl | h
    · omega
    · have := whole_in v.2.2.2 r h
      omega
theorem top_mem {R : List Run} {m : Int} (v : RM.Vd m R) {r : Run} (h : r ∈ R) : r.1 ≤ RM.top R := by
  cases R with
  | nil => cases h
  | cons q R =>
    show r.1 ≤ q.1
    rcases List.mem_cons.mp h with rfl | h
    · exact Int.le_refl _
    · have := vd_steps v.2.2.2 r h
      omega
/-- a row whose reach is bounded fits -/
theorem fit_reach {D : List Run} {m : Int} (v : RM.Vd m D) (hl : D.length ≤ 200) (hB : ∀ h, 0 ≤ h → RM.rch D h ≤ 10 ^ 28) : Fit 200000 2 (rowD D) := by
  refine fit_rowB hl fun r hr => ?_
  have s := vd_steps v r hr
  have t := top_mem v hr
  have o := RM.rch_one v
  have b1 := hB 1 (by decide)
  have w := whole_in v r hr
  have wh := RM.rch_whole v
  have b2 := hB (RM.hoursN D) (RM.hoursN_nn (RM.vd_n0 v))
  omega
theorem rch_le_whole : ∀ {R : List Run} {m h : Int}, RM.Vd m R → 0 ≤ h → RM.rch R h ≤ RM.whole R
  | [], _, _, _, _ => Int.le_refl _
  | q :: R, m, h, v, h0 => by
    have k1 := v.1
    have k2 := v.2.2.1
    have ih := rch_le_whole (h := h - min q.2 h) v.2.2.2 (by omega)
    have e : RM.whole (q :: R) = q.1 * q.2 + RM.whole R := by unfold RM.whole; rw [List.map_cons, List.sum_cons]
    have g : q.1 * min q.2 h ≤ q.1 * q.2 := Int.mul_le_mul_of_nonneg_left (by omega) (by omega)
    show q.1 * min q.2 h + RM.rch R (h - min q.2 h) ≤ _
    omega
theorem sumR_le : ∀ {Rs : List (List Run)} {h : Int}, (∀ R ∈ Rs, Runs R ∧ R.Pairwise (fun x y => y.1 < x.1)) → 0 ≤ h → RM.sumR Rs h ≤ 4 * 10 ^ 26 * Rs.length
  | [], _, _, _ => by show (0 : Int) ≤ 4 * 10 ^ 26 * (0 : Nat); omega
  | R :: Rs, h, k, h0 => by
    obtain ⟨a, b⟩ := k R List.mem_cons_self
    have ih := sumR_le (Rs := Rs) (h := h) (fun S hS => k S (List.mem_cons_of_mem _ hS)) h0
    have w := rch_le_whole (h := h) (a.vd b) h0
    have wb : RM.whole R ≤ 4 * 10 ^ 26 := (whl_bd a).2
    have e : ((R :: Rs).length : Int) = (Rs.length : Int) + 1 := by rw [List.length_cons]; omega
    rw [RM.sumR_cons, e]
    omega
section
variable {K : PySem.W.Frag} {H : Hp}
theorem dat_runs : ∀ {xs : List V} {R : List Run}, Paired (RunV K H) xs R → DatA K H xs (R.map runD)
  | _, _, .nil => .nil
  | _, _, .cons ⟨t, e, h⟩ r => by
    subst e
    exact .cons (.tup h (.cons (.int _) (.cons (.int _) .nil))) (dat_runs r)
theorem dat_row {y : V} {R : List Run} (h : RowV K H y R) : DatV K H y (rowD R) := by
  obtain ⟨t, xs, rfl, h1, h2⟩ := h
  exact .tup h1 (dat_runs h2)
theorem eqT_runs (n : Nat) : ∀ {xs zs : List V} {R : List Run}, Paired (RunV K H) xs R → Paired (RunV K H) zs R → Paired (EqT K H (n + 2)) xs zs
  | _, _, _, .nil, .nil => .nil
  | _, _, _, .cons ⟨a, e, h⟩ t, .cons ⟨b, e', h'⟩ t' => by
    subst e e'
    refine .cons (eqT_tup n h h' fun x hx => ?_) (eqT_runs n t t')
    simp only [List.mem_cons, List.not_mem_nil, or_false] at hx
    rcases hx with rfl | rfl <;> rfl
theorem eqT_row (n : Nat) {y z : V} {R : List Run} (h : RowV K H y R) (g : RowV K H z R) : EqT K H (n + 3) y z := by
  obtain ⟨t, xs, rfl, h1, h2⟩ := h
  obtain ⟨t', xs', rfl, g1, g2⟩ := g
  exact .inr (.inr (.inr ⟨t, t', xs, xs', rfl, rfl, h1, g1, eqT_runs n h2 g2⟩))
end
theorem eqs_row {K : PySem.W.Frag} {H : Hp} (n : Nat) {y z : V} {R : List Run} (h : RowV K H y R) (g : RowV K H z R) : EqS K H (n + 2) y z := by
  obtain ⟨t, xs, rfl, h1, h2⟩ := h
  obtain ⟨t', xs', rfl, g1, g2⟩ := g
  exact .inr ⟨t, t', xs, xs', rfl, rfl, h1, g1, eqT_runs n h2 g2⟩
theorem tele (g : Int → Int) : ∀ n : Nat, ((List.range n).map fun h : Nat => g ((h : Int) + 1) - g (h : Int)).sum = g (n : Int) - g 0
  | 0 => by simp
  | n + 1 => by
    rw [List.range_succ, List.map_append, List.sum_append, tele g n]
    show _ + (g ((n : Int) + 1) - g (n : Int) + 0) = g (((n + 1 : Nat) : Int)) - g 0
    rw [show ((n + 1 : Nat) : Int) = (n : Int) + 1 by omega]
    omega
/-- the differences of a capped reach of few hours tell its row -/
theorem cap_sums {R D : List Run} {m c : Int} (v : RM.Vd m R) (c0 : 0 ≤ c) (hh : RM.hoursN R ≤ 60) (hw : RM.whole R ≤ 200) (hD : ∀ h, 0 ≤ h → RM.rch D h = min (RM.rch R h) (c * h)) (h : Nat) :
    (((List.range 201).map fun h : Nat => RM.gCp c R ((h : Int) + 1) - RM.gCp c R (h : Int)).take h).sum = RM.rch D (h : Int) := by
  have g0 : RM.gCp c R 0 = 0 := by
    unfold RM.gCp
    rw [RM.rch_zero v, Int.mul_zero]
    rfl
  rw [← List.map_take, List.take_range, tele, g0, Int.sub_zero, hD _ (by omega)]
  by_cases e : h ≤ 201
  · rw [Nat.min_eq_left e]
    rfl
  · rw [Nat.min_eq_right (by omega)]
    unfold RM.gCp
    have n := RM.vd_n0 v
    have e1 := RM.rch_const n (show RM.hoursN R ≤ ((201 : Nat) : Int) by omega)
    have e2 := RM.rch_const n (show RM.hoursN R ≤ (h : Int) by omega)
    have e3 := RM.rch_whole v
    have w0 := RM.whole_nn v
    by_cases cz : c = 0
    · subst cz
      rw [e1, e2, Int.zero_mul, Int.zero_mul]
    · have a1 := Int.mul_le_mul_of_nonneg_right (show 1 ≤ c by omega) (show 0 ≤ ((201 : Nat) : Int) by omega)
      have a2 := Int.mul_le_mul_of_nonneg_right (show 1 ≤ c by omega) (show 0 ≤ (h : Int) by omega)
      rw [e1, e2, e3]
      omega
theorem cut_init (xs : List V) : cutV xs none (some (-1)) = xs.dropLast := by
  rcases List.eq_nil_or_concat xs with e | ⟨ys, v, e⟩
  · subst e
    rfl
  · rw [e, List.concat_eq_append, cut_last, List.dropLast_concat]
theorem cut_neg (xs : List V) : cutV xs (some (-1)) none = xs.drop (xs.length - 1) := by
  unfold cutV
  have e : HT.sIx xs.length 0 (some (-1)) = xs.length - 1 := by
    show (if (-1 : Int) < 0 then ((-1 : Int) + (xs.length : Int)).toNat else min (-1 : Int).toNat xs.length) = _
    rw [if_pos (by decide)]
    omega
  rw [e, HT.sIx_none, List.take_of_length_le (by rw [List.length_drop]; exact Nat.le_refl _)]
/-- the last run once longer -/
def nearR (R : List Run) : List Run := R.dropLast ++ (R.drop (R.length - 1)).map fun r : Run => (r.1, r.2 + 1)
theorem near_vd {R : List Run} {m : Int} (v : RM.Vd m R) : RM.Vd m (nearR R) := by
  rcases List.eq_nil_or_concat R with e | ⟨A, q, e⟩
  · subst e
    trivial
  · rw [List.concat_eq_append] at e
    subst e
    have h := RM.vd_more v rfl (show (0 : Int) ≤ 1 by decide)
    unfold nearR
    rw [List.dropLast_concat, show (A ++ [q]).length - 1 = A.length by rw [List.length_append]; rfl, List.drop_left]
    show RM.Vd m (A ++ [(q.1, q.2 + 1)])
    rw [Int.add_comm q.2 1]
    exact h
theorem init_vd : ∀ {R : List Run} {m : Int}, RM.Vd m R → RM.Vd m R.dropLast
  | [], _, _ => trivial
  | [q], _, _ => trivial
  | q :: p :: R, m, v => ⟨v.1, v.2.1, v.2.2.1, init_vd (R := p :: R) v.2.2.2⟩
theorem near_len (R : List Run) : (nearR R).length ≤ R.length + 1 := by
  unfold nearR
  rw [List.length_append, List.length_map, List.length_drop, List.length_dropLast]
  omega
theorem paired_init {α β : Type} {R : α → β → Prop} : ∀ {as : List α} {bs : List β}, Paired R as bs → Paired R as.dropLast bs.dropLast
  | _, _, .nil => .nil
  | _, _, .cons _ .nil => .nil
  | _, _, .cons h (.cons h' t) => .cons h (paired_init (.cons h' t))
theorem shaped_row (R : List Run) : SeqAt.shaped (rowD R) = true := by
  obtain ⟨h1, h2⟩ := lay_runs R
  unfold SeqAt.shaped rowD
  rw [Bool.and_eq_true]
  refine ⟨by simp [PyData.canLay0, h1], decide_eq_true ?_⟩
  simp only [PyData.depth]
  omega
theorem eqv_row_nil (q : Run) (R : List Run) : PyData.eqv (rowD (q :: R)) (.tuple []) = false := by
  unfold rowD
  rw [List.map_cons]
  simp [PyData.eqv, PyData.eqvAll]
theorem paired_splitR {α β : Type} {R : α → β → Prop} {b : β} : ∀ {bs : List β} {as : List α}, Paired R as (bs ++ [b]) → ∃ ys z, as = ys ++ [z] ∧ Paired R ys bs ∧ R z b
  | [], _, .cons h .nil => ⟨[], _, rfl, .nil, h⟩
  | _ :: _, _, .cons h t => by
    obtain ⟨ys, z, rfl, p, q⟩ := paired_splitR t
    exact ⟨_ :: ys, z, rfl, .cons h p, q⟩
/-- whether one more small step may follow -/
def more_te_te (K : PySem.W.Frag) : TE := tCB (fun xs H Q => (∃ i, xs = [V.int i] ∧ Q (V.int i) H) ∨ ∃ k, xs = [V.bl k] ∧ Q (V.int (if k = true then 1 else 0)) H) (tCons (tOrV (tOp (rEqD K) (tVar 5) (tTup tNil)) (tOp (rI0 fun i j => V.bl (decide (j < i))) (tOp (rIxT K) (tOp (rIxT K) (tVar 5) (tUn (rU fun i => V.int (-i)) (tC (V.int 1)))) (tC (V.int 0))) (tC (V.int 1)))) tNil)
theorem more_te {K : PySem.W.Frag} {σ : L2.St} {H : Hp} {Q : VK} {y : V} {R : List Run} {m : Int} (hi : σ[5]? = some (some y)) (h : RowV K H y R) (v : RM.Vd m R) (hm : 2 ≤ m) (k : ∀ (j : Int) (H' : Hp), (j = 0 ∨ j = 1) → (j = 1 → RM.Vd m (R ++ [(1, 3)])) → Same H H' → Q (.int j) H') : more_te_te K σ H Q := by
  refine ⟨y, hi, by show 0 ≤ sizeLine; decide, fun q hq => ?_⟩
  have m1 := same_new (o := .tup []) (Same.refl H) hq
  have hv := h.more m1
  obtain ⟨t, xs, rfl, h1, h2⟩ := hv
  refine ⟨rowD R, .tuple [], .tup h1 (dp_runs h2), .tup (SqT.of upd_same) .nil, shaped_row R, by decide +kernel, _, rfl, ?_⟩
  rcases List.eq_nil_or_concat R with e | ⟨A, r, e⟩
  · subst e
    refine ite2 (fun _ => .inr ⟨true, rfl, k 1 _ (.inr rfl) (fun _ => ⟨by decide, by omega, by decide, trivial⟩) m1⟩) (fun c => absurd (by decide) c)
  · rw [List.concat_eq_append] at e
    subst e
    have ne : PyData.eqv (rowD (A ++ [r])) (.tuple []) = false := by
      cases A with
      | nil => exact eqv_row_nil r []
      | cons a A => exact eqv_row_nil a (A ++ [r])
    rw [ne]
    refine ite2 (fun c => by cases c) (fun _ => ?_)
    obtain ⟨ys, z, rfl, g, hz⟩ := paired_splitR h2
    obtain ⟨q2, rfl, hq2⟩ := hz
    refine ⟨_, hi, 1, rfl, t, _, -1, .ref q2, rfl, rfl, h1, atI_last _ _, q2, _, 0, .int r.1, rfl, rfl, hq2, at0, _, _, rfl, rfl, ?_⟩
    refine .inr ⟨_, rfl, ?_⟩
    by_cases c : (1 : Int) < r.1
    · rw [decide_eq_true c]
      refine k 1 _ (.inr rfl) (fun _ => RM.vd_snoc v (by decide) (by rw [RM.lst_snoc]; exact c) (by decide)) m1
    · rw [decide_eq_false c]
      exact k 0 _ (.inl rfl) (fun z => absurd z (by decide)) m1
theorem sqt_wo {K : PySem.W.Frag} {H : Hp} {b p : Addr} {xs : List V} (h : SqT K H p xs) (B : Bag H b) : SqT K (wo H b) p xs := by
  obtain ⟨_, _, _, _, _, e, _⟩ := B
  rcases h with (h | ⟨o, h⟩) | h
  · exact .inl (.inl ((wo_ne (fun z => by rw [z, e] at h; cases h)).trans h))
  · exact .inl (.inr ⟨o, (wo_ne (fun z => by rw [z, e] at h; cases h)).trans h⟩)
  · exact .inr h
theorem RowV.wo {K : PySem.W.Frag} {H : Hp} {b : Addr} {v : V} {R : List Run} (h : RowV K H v R) (B : Bag H b) : RowV K (wo H b) v R := by
  obtain ⟨t, xs, rfl, h1, h2⟩ := h
  exact ⟨t, xs, rfl, sqt_wo h1 B, paired_imp (fun v c ⟨a, e1, q⟩ => ⟨a, e1, sqt_wo q B⟩) h2⟩
theorem rep01_use {K : PySem.W.Frag} {H : Hp} {Q : VK} {l : Addr} {xs : List V} {k : Int} (hT : SqT K H l xs) (hne : xs ≠ []) (hk : k = 0 ∨ k = 1) (g : ∀ (p : Addr) (ys : List V) (H' : Hp), SqT K H' p ys → ys = (if k = 1 then xs else []) → Same H H' → Q (.ref p) H') : Ns.rRep01 K (.ref l) (.int k) H Q :=
  ⟨l, k, xs, rfl, rfl, hT, hne, hk, fun e => g l xs H hT (by rw [if_pos e]) (Same.refl H), fun e p hp => g p [] _ (SqT.of upd_same) (by rw [if_neg (by omega)]) (same_new (Same.refl H) hp)⟩
theorem fu_bd : ∀ {R S : List Run} {a i m n : Int}, RM.Vd m R → RM.Vd n S → fu a R S = some i → a < i ∧ i ≤ a + RM.hoursN R + 1
  | [], [], _, _, _, _, _, _, h => by cases h
  | [], p :: S, a, i, m, n, _, vS, h => by
    have e : a + 1 = i := Option.some.inj h
    rw [RM.hoursN_nil]
    omega
  | q :: R, [], a, i, m, n, vR, _, h => by
    have e : a + 1 = i := Option.some.inj h
    have := RM.hoursN_nn (RM.vd_n0 vR)
    omega
  | q :: R, p :: S, a, i, m, n, vR, vS, h => by
    have n1 := RM.hoursN_nn (RM.vd_n0 vR.2.2.2)
    have n2 := RM.hoursN_nn (RM.vd_n0 vS.2.2.2)
    have q2 := vR.2.2.1
    have p2 := vS.2.2.1
    have e := mn_min q.2 p.2
    rw [RM.hoursN_cons]
    rw [fu_cons] at h
    split at h
    · split at h
      · have ih := fu_bd vR.2.2.2 vS.2.2.2 h
        omega
      · have h : a + mn q.2 p.2 + 1 = i := Option.some.inj h
        omega
    · have h : a + 1 = i := Option.some.inj h
      omega
def oD : Option Int → PyData
  | none => .none
  | some i => .int i
theorem dat_o {K : PySem.W.Frag} {H : Hp} (o : Option Int) : DatV K H (oV o) (oD o) := by
  cases o with
  | none => exact .non
  | some i => exact .int i
theorem flat_o (o : Option Int) : flatB (oV o) = true := by cases o <;> rfl
end Y

namespace Y
open PySem PySem.Spec PyProof.Rows L2 Ns
open C8 (pss_cut)
open LamX LamP
section
variable {P : Program} {w : World} {K : PySem.W.Frag} {mg : Str → Option Value} {base : Heap} {TT : List (Addr × Str)} {fB fT fS fRw fAd fLA fCp fLC fSM fLd fRR fRU fFU fFA fA : Addr} {dB dT dS dRw dAd dLA dCp dLC dSM dLd dRR dRU dFU dFA dA : FuncData}
theorem scL : FnScope ["script", "bag", "turn", "rows", "k", "row", "steps", "step", "many", "cap", "told", "laid", "hour", "other", "one", "near"] ["script"] (defScope sLaw) := ⟨rfl, rfl, rfl, by decide +kernel, rfl, by decide +kernel, by decide +kernel⟩
set_option maxHeartbeats 16000000 in
theorem ok_law {f : Addr} {fd : FuncData} {cs : List (Addr × Addr)} (F : Fun K "law" "law" sLaw f fd) (T : Nat0 mg) (hTT : ∀ p ∈ TT, ∃ c, (c, p.1) ∈ cs) (D : D27 P w K mg base TT fB fT fS fRw fAd fLA fCp fLC fSM fLd fRR fRU fFU fFA fA dB dT dS dRw dAd dLA dCp dLC dSM dLd dRR dRU dFU dFA dA) : GnOk P w K mg base 5 f fd ["script"] (spTopT K cs) := by
  refine Fun.okG F scL (fun as H Q E h => ?_) (fun cdv A outer s H as Q E hr hgd h => ?_)
  · obtain ⟨a, ns, rfl, _⟩ := h
    rfl
  · obtain ⟨a, ns, rfl, hS, hl, hT0, k⟩ := h
    have hr1 : Room 1 _ := hr.mono (by decide)
    have hr2 : Room 2 _ := hr.mono (by decide)
    have hr3 : Room 3 _ := hr.mono (by decide)
    have hr4 : Room 4 _ := hr
    have hun := hr.units
    refine ⟨_, (pss_cons (ps_set (i := 1) scL.nd rfl (by first | exact .inl rfl | exact .inr rfl) (pe_call D.gB hr1 rfl D.mB D.B.kp D.bB .nil pass0 (pa_cons (pv 0) pa_nil)))
      (pss_cons (ps_for PassesOwn.never rfl (pi_range1 (by rfl) T.range (pa_cons pe_int pa_nil)) (pg_name (i := 2) scL.nd rfl (by first | exact .inl rfl | exact .inr rfl))
      (pss_cons (ps_setLc (i := 3) (own := [("k", 4)]) (g := gName 4) (tt := tYes) rfl scL.nd rfl rfl (sw_true rfl rfl rfl (by decide +kernel)) (pi_range1 (by rfl) T.range (pa_cons (pe_call D.gT hr1 rfl D.mT D.T.kp D.bT .nil pass0 (pa_cons (pv 1) (pa_cons pe_int pa_nil))) pa_nil)) (blkOk_by (N := ["script", "bag", "turn", "rows", "k", "row", "steps", "step", "many", "cap", "told", "laid", "hour", "other", "one", "near"]) (sc := defScope sLaw) (by decide +kernel)) (fun _ _ _ _ _ => (pg_name (i := 4) scL.nd rfl (.inl rfl))) (fun _ _ _ _ _ => by exact pts_nil)
        (fun _ _ _ _ _ => (pe_call D.gRw hr3 rfl D.mRw D.Rw.kp D.bRw .nil pass0 (pa_cons (pv 1) pa_nil))))
      (pss_cons (ps_if (pt_not (pt_val (pe_callG D.gA hr1 hgd rfl D.mA D.A.kp D.bA (pa_cons (pe_lst (pa_cons (pe_call D.gAd hr3 rfl D.mAd D.Ad.kp D.bAd .nil pass0 (pa_cons (pv 3) pa_nil)) (pa_cons (pe_call D.gAd hr3 rfl D.mAd D.Ad.kp D.bAd .nil pass0 (pa_cons (pe_callTy call_tuple_of (by rfl) T.tuple (by decide +kernel) (pa_cons (pv 3) pa_nil)) pa_nil)) pa_nil))) (pa_cons (pe_op op_rep (pe_lst (pa_cons (pe_callG D.gLA hr4 hgd rfl D.mLA D.LA.kp D.bLA (pa_cons (pv 3) pa_nil)) pa_nil)) pe_int) pa_nil))))) (pss_one (ps_ret pe_bl)) pss_nil)
      (pss_cons (ps_set (i := 5) scL.nd rfl (by first | exact .inl rfl | exact .inr rfl) (pe_call D.gRw hr3 rfl D.mRw D.Rw.kp D.bRw .nil pass0 (pa_cons (pv 1) pa_nil)))
      (pss_cons (ps_set (i := 6) scL.nd rfl (by first | exact .inl rfl | exact .inr rfl) (pe_op op_cat (pe_lc (own := [("step", 7), ("many", 8)]) (g := gTup K 2 (gCons (gName 7) (gCons (gName 8) gNil))) (tt := tYes) rfl scL.nd (pi_tup (pv 5)) (blkOk_by (N := ["script", "bag", "turn", "rows", "k", "row", "steps", "step", "many", "cap", "told", "laid", "hour", "other", "one", "near"]) (sc := defScope sLaw) (by decide +kernel)) (fun _ _ _ _ _ => pg_tup rfl (pgs_cons (pg_name (i := 7) scL.nd rfl (by first | exact .inl rfl | exact .inr rfl)) (pgs_cons (pg_name (i := 8) scL.nd rfl (by first | exact .inl rfl | exact .inr rfl)) pgs_nil))) (fun _ _ _ _ _ => by exact pts_nil)
        (fun _ _ _ _ _ => (pv 7))) (pe_lst (pa_cons pe_int pa_nil))))
      (pss_cons (ps_for PassesOwn.never rfl (pi_list (pe_lst (pa_cons pe_int (pa_cons (pe_call D.gS hr2 rfl D.mS D.S.kp D.bS .nil pass0 (pa_cons (pv 1) (pa_cons (pv 6) pa_nil))) (pa_cons (pe_callB (call_min2 rfl) (by rfl) T.min (by decide +kernel) (pa_cons (pe_op op_sub (pe_op op_pow pe_int pe_int) pe_int) (pa_cons (pe_op op_add (pe_call D.gS hr2 rfl D.mS D.S.kp D.bS .nil pass0 (pa_cons (pv 1) (pa_cons (pv 6) pa_nil))) pe_int) pa_nil))) (pa_cons (pe_callB (call_max2 rfl) (by rfl) T.max (by decide +kernel) (pa_cons pe_int (pa_cons (pe_op op_sub (pe_call D.gS hr2 rfl D.mS D.S.kp D.bS .nil pass0 (pa_cons (pv 1) (pa_cons (pv 6) pa_nil))) pe_int) pa_nil))) (pa_cons (pe_call D.gT hr1 rfl D.mT D.T.kp D.bT .nil pass0 (pa_cons (pv 1) (pa_cons (pe_callB (call_min2 rfl) (by rfl) T.min (by decide +kernel) (pa_cons (pe_op op_add (pe_ix ix_list (pv 6) pe_int (fun _ _ => rfl)) pe_int) (pa_cons (pe_op op_pow pe_int pe_int) pa_nil))) pa_nil))) pa_nil))))))) (pg_name (i := 9) scL.nd rfl (by first | exact .inl rfl | exact .inr rfl))
      (pss_cons (ps_set (i := 10) scL.nd rfl (by first | exact .inl rfl | exact .inr rfl) (pe_call D.gCp hr2 rfl D.mCp D.Cp.kp D.bCp .nil pass0 (pa_cons (pv 5) (pa_cons (pv 9) pa_nil))))
      (pss_cons (ps_if (pt_not (pt_val (pe_callG D.gA hr1 hgd rfl D.mA D.A.kp D.bA (pa_cons (pv 10) (pa_cons (pe_callG D.gLC hr4 hgd rfl D.mLC D.LC.kp D.bLC (pa_cons (pv 5) (pa_cons (pv 9) pa_nil))) pa_nil))))) (pss_one (ps_ret pe_bl)) pss_nil)
      (pss_one (ps_if (PW.pt (pw_and (pt_cmpR op_le (pe_call D.gSM hr1 rfl D.mSM D.SM.kp D.bSM .nil pass0 (pa_cons (pv 5) pa_nil)) pe_int (nomark _)) (pw_and1 (pt_cmpR op_le (pe_callB (cr_sum rfl) (by rfl) T.sum (by decide +kernel) (pa_cons (pe_call D.gLd hr1 rfl D.mLd D.Ld.kp D.bLd .nil pass0 (pa_cons (pv 5) pa_nil)) pa_nil)) pe_int (nomark _))))) (pss_cons (ps_setLc (i := 11) (own := [("hour", 12)]) (g := gName 12) (tt := tYes) rfl scL.nd rfl rfl (sw_true rfl rfl rfl (by decide +kernel)) (pi_range1 (by rfl) T.range (pa_cons pe_int pa_nil)) (blkOk_by (N := ["script", "bag", "turn", "rows", "k", "row", "steps", "step", "many", "cap", "told", "laid", "hour", "other", "one", "near"]) (sc := defScope sLaw) (by decide +kernel)) (fun _ _ _ _ _ => (pg_name (i := 12) scL.nd rfl (.inl rfl))) (fun _ _ _ _ _ => by exact pts_nil)
        (fun _ _ _ _ _ => (pe_callB (call_min2 rfl) (by rfl) T.min (by decide +kernel) (pa_cons (pe_call D.gRR hr1 rfl D.mRR D.RR.kp D.bRR .nil pass0 (pa_cons (pv 5) (pa_cons (pv 12) pa_nil))) (pa_cons (pe_op op_mul (pv 9) (pv 12)) pa_nil)))))
      (pss_one (ps_if (pt_not (pt_val (pe_callG D.gA hr1 hgd rfl D.mA D.A.kp D.bA (pa_cons (pv 10) (pa_cons (pe_callG D.gRU hr4 hgd rfl D.mRU D.RU.kp D.bRU (pa_cons (pe_lc (own := [("one", 14), ("other", 13)]) (g := gTup K 2 (gCons (gName 14) (gCons (gName 13) gNil))) (tt := tYes) rfl scL.nd (RZ.pi_zipA (by rfl) T.zip (pa_cons (pv 11) (pa_cons (pe_slice sl_list (pv 11) (po_some pe_int) po_none) pa_nil))) (blkOk_by (N := ["script", "bag", "turn", "rows", "k", "row", "steps", "step", "many", "cap", "told", "laid", "hour", "other", "one", "near"]) (sc := defScope sLaw) (by decide +kernel)) (fun _ _ _ _ _ => pg_tup (by rfl) (pgs_cons (pg_name (i := 14) scL.nd rfl (.inl rfl)) (pgs_cons (pg_name (i := 13) scL.nd rfl (.inl rfl)) pgs_nil))) (fun _ _ _ _ _ => by exact pts_nil)
        (fun _ _ _ _ _ => (pe_op op_sub (pv 13) (pv 14)))) pa_nil)) pa_nil))))) (pss_one (ps_ret pe_bl)) pss_nil))) pss_nil)))))
      (pss_cons (ps_set (i := 15) scL.nd rfl (by first | exact .inl rfl | exact .inr rfl) (pe_op op_catU (pe_slice sl_tupU (pv 5) po_none (po_some (pe_un un_neg pe_int))) (pe_callTy call_tuple_of (by rfl) T.tuple (by decide +kernel) (pa_cons (pe_lc (own := [("step", 7), ("many", 8)]) (g := gTup K 2 (gCons (gName 7) (gCons (gName 8) gNil))) (tt := tYes) rfl scL.nd (pi_tup (pe_slice sl_tupU (pv 5) (po_some (pe_un un_neg pe_int)) po_none)) (blkOk_by (N := ["script", "bag", "turn", "rows", "k", "row", "steps", "step", "many", "cap", "told", "laid", "hour", "other", "one", "near"]) (sc := defScope sLaw) (by decide +kernel)) (fun _ _ _ _ _ => pg_tup (by rfl) (pgs_cons (pg_name (i := 7) scL.nd rfl (.inl rfl)) (pgs_cons (pg_name (i := 8) scL.nd rfl (.inl rfl)) pgs_nil))) (fun _ _ _ _ _ => by exact pts_nil)
        (fun _ _ _ _ _ => (pe_tup (pa_cons (pv 7) (pa_cons (pe_op op_add (pv 8) pe_int) pa_nil))))) pa_nil))))
      (pss_one (ps_for PassesOwn.never rfl (pi_list (pe_lst (pa_cons (pv 5) (pa_cons (pv 15) (pa_cons (pe_call D.gRw hr3 rfl D.mRw D.Rw.kp D.bRw .nil pass0 (pa_cons (pv 1) pa_nil)) (pa_cons (pe_slice sl_tupU (pv 5) po_none (po_some (pe_un un_neg pe_int))) (pa_cons (pe_op op_catU (pv 5) (pe_op op_rep01 (pe_tup (pa_cons (pe_tup (pa_cons pe_int (pa_cons pe_int pa_nil))) pa_nil)) (pe_callTy call_int1 (by rfl) T.int (by decide +kernel) (pa_cons (pe_or (pe_cmpR (op_eqD hr.units) (pv 5) (pe_tup pa_nil) (nomark _)) (pe_one (pe_cmpR op_gt (pe_ix ix_tup (pe_ix ix_tup (pv 5) (pe_un un_neg pe_int) (fun _ _ => rfl)) pe_int (fun _ _ => rfl)) pe_int (nomark _)))) pa_nil)))) pa_nil))))))) (pg_name (i := 13) scL.nd rfl (by first | exact .inl rfl | exact .inr rfl))
      (pss_one (ps_if (pt_not (pt_val (pe_callG D.gA hr1 hgd rfl D.mA D.A.kp D.bA (pa_cons (pe_lst (pa_cons (pe_call D.gFU hr1 rfl D.mFU D.FU.kp D.bFU .nil pass0 (pa_cons (pv 5) (pa_cons (pv 13) pa_nil))) (pa_cons (pe_call D.gFU hr1 rfl D.mFU D.FU.kp D.bFU .nil pass0 (pa_cons (pv 13) (pa_cons (pv 5) pa_nil))) pa_nil))) (pa_cons (pe_op op_rep (pe_lst (pa_cons (pe_call D.gFA hr1 rfl D.mFA D.FA.kp D.bFA .nil pass0 (pa_cons (pv 5) (pa_cons (pv 13) pa_nil))) pa_nil)) pe_int) pa_nil))))) (pss_one (ps_ret pe_bl)) pss_nil)))))))))))
      (pss_one (ps_ret pe_bl)))), ?_⟩
    refine ⟨_, rfl, a, ns, rfl, hS, hl, fun b Hb hBb _ smb => ?_⟩
    have T1 : Tabs TT Hb := Tabs.ext (H := H) (fun p hp => by obtain ⟨c, hc⟩ := hTT p hp; exact TabS.nil (hT0 (c, p.1) hc)) smb
    refine ⟨4, rfl, by decide, by decide, for_range (n := 4) (fun i σ H' => ∃ v2 v3 v4 v5 v6 v7 v8 v9 v10 v11 v12 v13 v14 v15 : Option V, σ = [some (.ref a), some (.ref b), v2, v3, v4, v5, v6, v7, v8, v9, v10, v11, v12, v13, v14, v15] ∧ Bag H' b ∧ Tabs TT H') ?_ ?_ ?_⟩
    · exact ⟨none, none, none, none, none, none, none, none, none, none, none, none, none, none, rfl, hBb, T1⟩
    · clear hBb T1 smb
      rintro i σ H0 hi ⟨v2, v3, v4, v5, v6, v7, v8, v9, v10, v11, v12, v13, v14, v15, rfl, hB, hT⟩
      refine ⟨_, rfl, b, 5, rfl, hB, by decide, by decide, fun v H1 v0 v1 B1 s1 => ?_⟩
      refine ⟨v, rfl, by omega, by omega, fun D hD => ?_⟩
      have nD := B1.ne hD
      refine lc_range (lo := 0) (n := v.toNat) (fun j H' => ∃ (ys : List V) (Rs : List (List Run)), H' D = some (.lst ys) ∧ Paired (RowV K (wo H' b)) ys Rs ∧ Rs.length = j ∧ (∀ R ∈ Rs, Runs R ∧ R.Pairwise (fun x y => y.1 < x.1)) ∧ Bag H' b ∧ Sb b H1 H') ?_ ?_ ?_
      · exact ⟨[], [], upd_same, .nil, rfl, (fun _ z => nomatch z), B1.new hD, (Sb.refl b H1).new hD⟩
      · rintro j H' hj ⟨ys, Rs, q1, q2, q3, q4, q5, q6⟩
        refine ⟨rfl, _, rfl, b, rfl, q5, fun t R H'' hR pw V2 c12 s12 => ?_⟩
        have e1 := s12.get q1 nD
        have ly := paired_len q2
        have bt : But D (wo H'' b) (wo (upd H'' D (.lst (ys ++ [.ref t]))) b) := by
          rw [wo_upd nD]
          exact (But.of (Same.refl _)).put
        have e2 : wo H'' b D = some (.lst ys) := (wo_ne nD).trans e1
        refine ⟨ys, e1, by rw [ly, q3]; exact small1000 (by omega), ys ++ [.ref t], Rs ++ [R], upd_same, ?_, by rw [List.length_append, q3]; rfl, fun S hS => ?_, B1.wr hD (q6.trans s12) c12, (q6.trans s12).wr hD⟩
        · exact paired_snoc (row_but e2 bt V2) (paired_imp (fun v c z => row_but e2 bt (z.more s12.1)) q2)
        · rcases List.mem_append.mp hS with z | z
          · exact q4 S z
          · rw [List.mem_singleton.mp z]
            exact ⟨hR, pw⟩
      rintro H2 ⟨ys, Rs, e2, pV, lR, hRs, B2, s2⟩
      have T2 := tabs_sb (tabs_sb hT hB s1) B1 s2
      have pV2 : Paired (RowV K H2) ys Rs := paired_imp (fun v c z => z.more (wo_sub H2 b)) pV
      have ly := paired_len pV2
      have hv : ∀ R ∈ Rs, RM.Vd (2 ^ 60) R ∧ R.length ≤ 8 := fun R hR => ⟨((hRs R hR).1.vd (hRs R hR).2).mono (by decide), by have := (hRs R hR).1.1; omega⟩
      have runs : ∀ {G G' : Hp} {ws : List V} {L : List (List Run)}, Same G G' → Paired (RowV K G) ws L → Paired (RowV K G') ws L := fun {G G' ws L} m p => paired_imp (fun v c z => z.more m) p
      refine ⟨_, rfl, D, ys, Rs, rfl, .inl (SqL.of e2), pV2, hv, by omega, fun p1 ma D1 H3 ha vD1 hD1 lD1 V1 m3 => ?_⟩
      refine ⟨_, rfl, D, ys, rfl, .inl ⟨SqL.of (m3 _ _ e2), fun tp htp => ?_⟩⟩
      have m4 := same_new (o := .tup ys) m3 htp
      have V1a := V1.more (same_new (o := .tup ys) (Same.refl H3) htp)
      have t4 : upd H3 tp (.tup ys) tp = some (.tup ys) := upd_same
      generalize upd H3 tp (.tup ys) = H4 at m4 V1a t4 ⊢
      refine ⟨tp, ys, Rs, rfl, .inr (SqT.of t4), runs m4 pV2, hv, by omega, fun p2 mb D2 H5 hb vD2 hD2 lD2 V2 m5 => ?_⟩
      have eD : D2 = D1 := RM.rch_inj vD2 vD1 fun h h0 => by rw [hD2 h h0, hD1 h h0]
      subst eD
      refine ⟨by show 2 ≤ sizeLine; decide, fun a1 h1 => ?_⟩
      have m6 := same_new (o := .lst [.ref p1, .ref p2]) (m4.trans m5) h1
      have x1 : upd H5 a1 (.lst [.ref p1, .ref p2]) a1 = some (.lst [.ref p1, .ref p2]) := upd_same
      have V1b := (V1a.more m5).more (same_new (o := .lst [.ref p1, .ref p2]) (Same.refl H5) h1)
      have V2b := V2.more (same_new (o := .lst [.ref p1, .ref p2]) (Same.refl H5) h1)
      generalize upd H5 a1 (.lst [.ref p1, .ref p2]) = H6 at m6 x1 V1b V2b ⊢
      refine ⟨_, rfl, D, ys, Rs, rfl, SqL.of (m6 _ _ e2), runs m6 pV2, hv, by omega, T2.ext m6, fun y3 H7 eN T7 hy3 => ⟨by show 1 ≤ sizeLine; decide, fun q hq => ?_⟩⟩
      have V3 := hy3 mb D2 hb vD2 hD2
      refine ⟨q, 2, _, rfl, rfl, upd_same, by decide, by decide, by show 1 * 2 ≤ sizeLine; decide, fun a2 h2 => ?_⟩
      have er : (List.replicate (2 : Int).toNat [y3]).flatten = [y3, y3] := rfl
      rw [er]
      have m8 := same_new (o := .lst [y3, y3]) (same_new (o := .lst [y3]) (Same.refl H7) hq) h2
      have z8 : upd (upd H7 q (.lst [y3])) a2 (.lst [y3, y3]) a2 = some (.lst [y3, y3]) := upd_same
      generalize upd (upd H7 q (.lst [y3])) a2 (.lst [y3, y3]) = H8 at m8 z8 ⊢
      have x8 := m8 _ _ (eN _ _ x1 (fun _ z => nomatch z))
      have V1c := (V1b.ext eN).more m8
      have V2c := (V2b.ext eN).more m8
      have V3c := V3.more m8
      have fitD := fit_reach vD2 (by omega) fun h h0 => by
        rw [hD2 h h0]
        have := sumR_le hRs h0
        omega
      have fitL : Fit 500000 3 (.list [rowD D2, rowD D2]) := by
        refine (fit_list (m := 200000) (k := 2) fun z hz => ?_).mono (show 2 * (200000 + 2) + 3 ≤ 500000 by decide) (by decide)
        simp only [List.mem_cons, List.not_mem_nil, or_false] at hz
        rcases hz with rfl | rfl <;> exact fitD
      have g1 := fitL.1
      have g2 : (PyData.list [rowD D2, rowD D2]).shown.length ≤ sizeLine := Nat.le_trans fitL.2.1 (big_ok (n := 500000) (by decide))
      have g3 : (PyData.list [rowD D2, rowD D2]).depth ≤ 60 := Nat.le_trans fitL.2.2 (show 3 ≤ 60 by decide)
      refine ⟨.ref a1, .ref a2, .list [rowD D2, rowD D2], rfl, .inr ⟨4, by decide, .inl (.inl ⟨a1, a2, _, _, rfl, rfl, SqL.of x8, SqL.of z8, .cons (eqT_row 1 V1c V3c) (.cons (eqT_row 1 V2c V3c) .nil)⟩)⟩, .lst (SqL.of x8) (.cons (dat_row V1c) (.cons (dat_row V2c) .nil)), .lst (SqL.of z8) (.cons (dat_row V3c) (.cons (dat_row V3c) .nil)), g1, g2, g3, ?_⟩
      refine ⟨_, rfl, ?_⟩
      refine ite2 (fun h => by cases h) (fun _ => ?_)
      have B8 := bag_ext B2 (((ExtN.of m6).trans eN).trans (ExtN.of m8))
      have T8 := T7.ext m8
      clear g1 g2 g3 fitL fitD V1c V2c V3c x8 z8 m8 V3 hy3 eN T7 V1b V2b x1 m6 V1a V2 V1 m3 m4 m5 t4 pV2 pV e2 T2 s2 hB hT s1 B1 B2
      -- a row, its steps
      refine ⟨_, rfl, b, rfl, B8, fun t R H9 hR pw V9 B9 s9 => ?_⟩
      have vdR := hR.vd pw
      have l4 := hR.1
      have T9 := tabs_sb T8 B8 s9
      have V9' := V9.more (wo_sub H9 b)
      obtain ⟨t', xs, et, k1, k2⟩ := id V9'
      cases et
      have lx := paired_len k2
      refine ⟨_, rfl, t, rfl, ⟨_, k1⟩, fun D1 hD1 => ?_⟩
      refine lc_tup (K := K) (a := t) (xs := xs) (fun i H' => H' D1 = some (.lst (((R.take i).map (fun r : Run => r.1)).map V.int)) ∧ Same H9 H') ?_ ?_ ?_ ?_
      · exact ⟨by rw [List.take_zero, upd_same]; rfl, same_new (Same.refl H9) hD1⟩
      · rintro i H' _ ⟨_, m⟩
        exact sqt_more m k1
      · rintro i z H' hz ⟨q1, q2⟩
        obtain ⟨r, hr', q, rfl, hq⟩ := paired_at k2 hz
        refine ⟨q, _, rfl, sqt_more q2 hq, rfl, _, _, rfl, _, _, rfl, rfl, ?_⟩
        refine ⟨rfl, _, rfl, _, q1, ?_, ?_, same_put q2 hD1⟩
        · rw [List.length_map, List.length_map, List.length_take]
          exact small1000 (by omega)
        · rw [upd_same, List.take_succ, hr']
          simp
      rintro H10 ⟨e10, m10⟩
      rw [lx, List.take_length] at e10
      refine ⟨by show 1 ≤ sizeLine; decide, fun z hz => ⟨D1, z, _, _, rfl, rfl, s3u hz e10, upd_same, ?_, fun st hst => ?_⟩⟩
      · rw [List.length_map, List.length_map]
        exact Nat.le_of_lt (small1000 (show R.length + 1 ≤ 1000 by omega))
      have es : ((R.map fun r : Run => r.1).map V.int ++ [V.int 0] : List V) = (R.map (fun r : Run => r.1) ++ [0]).map V.int := by rw [List.map_append]; rfl
      rw [es]
      have sS : ∀ x ∈ R.map (fun r : Run => r.1) ++ [0], 0 ≤ x ∧ x ≤ 10 ^ 12 := fun x hx => by
        rcases List.mem_append.mp hx with hx | hx
        · obtain ⟨r, hr', rfl⟩ := List.mem_map.mp hx
          have := hR.2 r hr'
          omega
        · rw [List.mem_singleton.mp hx]
          decide
      have s0S : (R.map (fun r : Run => r.1) ++ [0])[0]? = some (RM.top R) := by cases R <;> rfl
      have lS : (R.map (fun r : Run => r.1) ++ [0]).length ≤ 5 := by rw [List.length_append, List.length_map]; show R.length + 1 ≤ 5; omega
      have pS : (R.map (fun r : Run => r.1) ++ [0]).length ≠ 0 := by rw [List.length_append]; exact Nat.succ_ne_zero _
      generalize R.map (fun r : Run => r.1) ++ [0] = S at hst sS s0S lS pS ⊢
      have m11 := same_new (o := .lst (S.map V.int)) (same_new (o := .lst [.int 0]) m10 hz) hst
      have st11 : upd (upd H10 z (.lst [.int 0])) st (.lst (S.map V.int)) st = some (.lst (S.map V.int)) := upd_same
      generalize upd (upd H10 z (.lst [.int 0])) st (.lst (S.map V.int)) = H11 at m11 st11 ⊢
      have B11 := B9.keep m11
      have T11 := T9.ext m11
      have V11 : RowV K (wo H11 b) (.ref t) R := V9.more (wo_same m11)
      have nst : st ≠ b := (B9.keep (same_new (o := .lst [.int 0]) m10 hz)).ne hst
      have neS : S.map V.int ≠ [] := fun z => pS (by have := congrArg List.length z; rw [List.length_map] at this; exact this)
      have lS6 : (S.map V.int).length ≤ 1000000 := by rw [List.length_map]; omega
      clear hst hz hD1 e10 m10 m11 k1 k2 V9' V9 B9 T9 s9
      -- the caps
      refine ⟨_, rfl, _, rfl, b, st, _, rfl, B11, sql_new st11 nst, neS, lS6, fun y H12 hy B12 s12 => ?_⟩
      obtain ⟨c1, hc1, rfl⟩ := List.mem_map.mp hy
      have st12 := s12.get st11 nst
      refine ⟨_, _, rfl, rfl, ⟨by decide, by decide, by decide⟩, _, _, rfl, rfl, _, rfl, _, rfl, b, st, _, rfl, B12, sql_new st12 nst, neS, lS6, fun y H13 hy B13 s13 => ?_⟩
      obtain ⟨c2, hc2, rfl⟩ := List.mem_map.mp hy
      have st13 := s13.get st12 nst
      refine ⟨_, _, rfl, rfl, _, _, rfl, ?_⟩
      refine ⟨_, rfl, _, rfl, b, st, _, rfl, B13, sql_new st13 nst, neS, lS6, fun y H14 hy B14 s14 => ?_⟩
      obtain ⟨c3, hc3, rfl⟩ := List.mem_map.mp hy
      have st14 := s14.get st13 nst
      have pw12 : (10 : Int) ^ (12 : Int).toNat = 10 ^ 12 := by decide
      refine ⟨_, _, rfl, rfl, _, _, rfl, ?_⟩
      refine ⟨_, rfl, _, rfl, st, _, 0, .int (RM.top R), rfl, rfl, SqL.of st14, atI_nat (j := 0) (by rw [List.getElem?_map, s0S]; rfl), _, _, rfl, rfl, _, _, rfl, rfl, ⟨by decide, by decide, by decide⟩, _, _, rfl, b, _, rfl, B14, ?_, ?_, fun vv H15 w0 w1 B15 s15 => ⟨by show 5 ≤ sizeLine; decide, fun cl hcl => ?_⟩⟩
      · have := RM.top_lt vdR (by decide)
        show 0 < if (10 : Int) ^ (12 : Int).toNat < RM.top R + 2 then (10 : Int) ^ (12 : Int).toNat else RM.top R + 2
        rw [pw12]
        split <;> omega
      · have := RM.top_lt vdR (by decide)
        refine Nat.lt_of_le_of_lt (m := 10 ^ 12) ?_ (by decide +kernel)
        show (if (10 : Int) ^ (12 : Int).toNat < RM.top R + 2 then (10 : Int) ^ (12 : Int).toNat else RM.top R + 2).natAbs ≤ _
        rw [pw12]
        split <;> omega
      have w1 : vv < if (10 : Int) ^ (12 : Int).toNat < RM.top R + 2 then (10 : Int) ^ (12 : Int).toNat else RM.top R + 2 := w1
      rw [pw12] at w1
      have tl := RM.top_lt vdR (by decide)
      have sv : vv < 10 ^ 12 + 1 := by split at w1 <;> omega
      have s15' := ((s12.trans s13).trans s14).trans s15
      have T15 := tabs_sb T11 B11 s15'
      have V15 := V11.more s15'.1
      have m16 := same_new (o := .lst [V.int 0, V.int c1, V.int (if c2 + 1 < (10 : Int) ^ (12 : Int).toNat - 1 then c2 + 1 else (10 : Int) ^ (12 : Int).toNat - 1), V.int (if c3 - 1 > 0 then c3 - 1 else 0), V.int vv]) (Same.refl H15) hcl
      have cl16 : upd H15 cl (.lst [V.int 0, V.int c1, V.int (if c2 + 1 < (10 : Int) ^ (12 : Int).toNat - 1 then c2 + 1 else (10 : Int) ^ (12 : Int).toNat - 1), V.int (if c3 - 1 > 0 then c3 - 1 else 0), V.int vv]) cl = some (.lst [V.int 0, V.int c1, V.int (if c2 + 1 < (10 : Int) ^ (12 : Int).toNat - 1 then c2 + 1 else (10 : Int) ^ (12 : Int).toNat - 1), V.int (if c3 - 1 > 0 then c3 - 1 else 0), V.int vv]) := upd_same
      have caps : ∀ c ∈ [0, c1, if c2 + 1 < (10 : Int) ^ (12 : Int).toNat - 1 then c2 + 1 else (10 : Int) ^ (12 : Int).toNat - 1, if c3 - 1 > 0 then c3 - 1 else 0, vv], 0 ≤ c ∧ c < Big := fun c hc => by
        have a1 := sS c1 hc1
        have a2 := sS c2 hc2
        have a3 := sS c3 hc3
        rw [pw12] at hc
        unfold Big
        simp only [List.mem_cons, List.not_mem_nil, or_false] at hc
        rcases hc with rfl | rfl | rfl | rfl | rfl
        · omega
        · omega
        · split <;> omega
        · split <;> omega
        · omega
      refine ⟨cl, rfl, ⟨_, SqL.of upd_same⟩, ?_⟩
      generalize upd H15 cl (.lst [V.int 0, V.int c1, V.int (if c2 + 1 < (10 : Int) ^ (12 : Int).toNat - 1 then c2 + 1 else (10 : Int) ^ (12 : Int).toNat - 1), V.int (if c3 - 1 > 0 then c3 - 1 else 0), V.int vv]) = H16 at m16 cl16 ⊢
      have cl16 : H16 cl = some (.lst ([0, c1, if c2 + 1 < (10 : Int) ^ (12 : Int).toNat - 1 then c2 + 1 else (10 : Int) ^ (12 : Int).toNat - 1, if c3 - 1 > 0 then c3 - 1 else 0, vv].map V.int)) := cl16
      generalize [0, c1, if c2 + 1 < (10 : Int) ^ (12 : Int).toNat - 1 then c2 + 1 else (10 : Int) ^ (12 : Int).toNat - 1, if c3 - 1 > 0 then c3 - 1 else 0, vv] = CS at cl16 caps
      have V16 : RowV K (wo H16 b) (.ref t) R := V15.more (wo_same m16)
      have T16 := T15.ext m16
      have B16 := B15.keep m16
      have V16' := V16.more (wo_sub H16 b)
      clear hcl m16 V15 T15 B15 s15' s15 s14 s13 s12 st14 st13 st12 B14 B13 B12 V11 T11 B11 st11 H15 H14 H13 H12
      have bdR : ∀ r ∈ R, -(2 ^ 64) < r.1 ∧ r.1 < 2 ^ 64 := fun r hr' => by have := hR.2 r hr'; omega
      refine for_list (K := K) (a := cl) (xs := CS.map V.int) (fun j σ H' => ∃ w9 w10 w11 w12 w13 w14 : Option V, σ = [some (.ref a), some (.ref b), some (.int (0 + (i : Int))), some (.ref D), v4, some (.ref t), some (.ref st), v7, v8, w9, w10, w11, w12, w13, w14, v15] ∧ ExtN H16 H' ∧ Tabs TT H') ?_ ?_ ?_ ?_
      · exact ⟨_, _, _, _, _, _, rfl, ExtN.refl H16, T16⟩
      · rintro j σ H' _ ⟨_, _, _, _, _, _, _, eN, _⟩
        exact SqL.of (eN _ _ cl16 (fun _ z => nomatch z))
      · rintro j z σ H' hz ⟨w9, w10, w11, w12, w13, w14, rfl, eN, T'⟩
        obtain ⟨c, hc, rfl⟩ := ints_of hz
        obtain ⟨c0, cB⟩ := caps c (List.mem_of_getElem? hc)
        have V' := V16'.ext eN
        refine ⟨_, rfl, _, rfl, .ref t, c, 10 ^ 12 + 1, R, rfl, V', vdR, by decide, by decide, c0, cB, by omega, fun tp Dc H18 vDc hDc lDc VDc m18 => ?_⟩
        have cB2 : c ≤ 2 ^ 60 := by unfold Big at cB; omega
        refine ⟨_, rfl, _, rfl, _, rfl, .ref t, c, 10 ^ 12 + 1, R, rfl, V'.more m18, vdR, by decide, by decide, c0, cB2, by omega, T'.ext m18, fun y2 H19 eN19 T19 h19 => ?_⟩
        have V19 := h19 Dc vDc hDc
        have VD19 := VDc.ext eN19
        have fitC := fit_reach vDc lDc fun h h0 => by
          rw [hDc h h0]
          have := rch_le_whole (h := h) vdR h0
          have : RM.whole R ≤ 4 * 10 ^ 26 := (whl_bd hR).2
          omega
        have gd1 := fitC.1
        have gd2 : (rowD Dc).shown.length ≤ sizeLine := Nat.le_trans fitC.2.1 (big_ok (n := 200000) (by decide))
        have gd3 : (rowD Dc).depth ≤ 60 := Nat.le_trans fitC.2.2 (show 2 ≤ 60 by decide)
        refine ⟨.ref tp, y2, rowD Dc, rfl, .inr ⟨4, by decide, eqs_row 2 VD19 V19⟩, dat_row VD19, dat_row V19, gd1, gd2, gd3, ?_⟩
        refine ⟨_, rfl, ?_⟩
        refine ite2 (fun h => by cases h) (fun _ => ?_)
        have eN2 := (eN.trans (ExtN.of m18)).trans eN19
        have Vr := V16'.ext eN2
        clear V19 h19 VDc m18 eN19 eN V' T'
        refine ⟨_, rfl, .ref t, R, rfl, Vr, bdR, by omega, fun H20 m20 => ?_⟩
        refine ⟨_, _, rfl, rfl, _, rfl, ?_⟩
        refine ite2 (fun d => ?_) (fun d => ?_)
        · have d : hrs R ≤ 60 := of_decide_eq_true d
          have nn := hR.nn
          have ll := lay_len nn
          have eL : (laid R).take 200 = lay R := by rw [laid_eq nn (by omega), List.take_of_length_le (by omega)]
          refine ⟨_, rfl, .ref t, R, rfl, Vr.more m20, hR, fun la H21 e21 f21 m21 => ⟨la, lay R, rfl, SqL.of (by rw [e21, eL]), _, _, rfl, rfl, _, rfl, ?_⟩⟩
          have m201 := m20.trans m21
          refine ite2 (fun d2 => ?_) (fun _ => ⟨_, _, _, _, _, _, rfl, eN2.trans (ExtN.of m201), T19.ext m201⟩)
          have d2 : (lay R).sum ≤ 200 := of_decide_eq_true d2
          refine ⟨202, rfl, by decide, by decide, fun D4 hD4 => ?_⟩
          refine lc_range (lo := 0) (n := 202) (fun j H' => H' D4 = some (.lst (((List.range j).map fun h : Nat => RM.gCp c R (h : Int)).map V.int)) ∧ Same H21 H') ?_ ?_ ?_
          · exact ⟨upd_same, same_new (Same.refl H21) hD4⟩
          · rintro h H' hh ⟨q1, q2⟩
            refine ⟨rfl, _, rfl, _, rfl, .ref t, 0 + (h : Int), R, rfl, Vr.more (m201.trans q2), bdR, ?_⟩
            refine ⟨_, rfl, _, rfl, _, _, rfl, rfl, .inl ⟨by omega, by omega⟩, _, _, rfl, ?_⟩
            have e : (if c * (0 + (h : Int)) < lrch R (0 + (h : Int)) then c * (0 + (h : Int)) else lrch R (0 + (h : Int))) = RM.gCp c R (h : Int) := by
              unfold RM.gCp
              rw [Int.zero_add, rch_eq nn (by omega), rch_rm]
              exact mn_min _ _
            refine ⟨_, q1, by rw [List.length_map, List.length_map, List.length_range]; exact small1000 (by omega), ?_, same_put q2 hD4⟩
            rw [upd_same, List.range_succ, List.map_append, List.map_append]
            show some (HO.lst (_ ++ [V.int (if c * (0 + (h : Int)) < lrch R (0 + (h : Int)) then c * (0 + (h : Int)) else lrch R (0 + (h : Int)))])) = _
            rw [e]
            rfl
          rintro H22 ⟨e22, m22⟩
          have e22 : H22 D4 = some (.lst (((List.range 202).map fun h : Nat => RM.gCp c R (h : Int)).map V.int)) := e22
          have gj : ∀ {j : Nat}, j < 202 → ((List.range 202).map fun h : Nat => RM.gCp c R (h : Int))[j]? = some (RM.gCp c R (j : Int)) := fun {j} hj => by rw [List.getElem?_map, List.getElem?_range hj]; rfl
          have lg : ((List.range 202).map fun h : Nat => RM.gCp c R (h : Int)).length = 202 := by rw [List.length_map, List.length_range]
          generalize hGG : ((List.range 202).map fun h : Nat => RM.gCp c R (h : Int)) = GG at e22 gj lg
          refine ⟨_, rfl, _, rfl, _, rfl, 1, rfl, D4, _, rfl, SqL.of e22, fun a3 h3 => ?_⟩
          rw [drop_one, ← List.map_drop]
          have m23 := same_new (o := .lst ((GG.drop 1).map V.int)) (Same.refl H22) h3
          have a23 : upd H22 a3 (.lst ((GG.drop 1).map V.int)) a3 = some (.lst ((GG.drop 1).map V.int)) := upd_same
          generalize upd H22 a3 (.lst ((GG.drop 1).map V.int)) = H23 at m23 a23 ⊢
          have e23 := m23 _ _ e22
          refine ⟨D4, a3, _, _, rfl, .inl ⟨SqL.of e23, SqL.of a23, fun D5 hD5 => ?_⟩⟩
          refine lc_it (walk_zip (K := K) (a := D4) (b := a3) (xs := GG.map V.int) (ys := (GG.drop 1).map V.int) (n := 201) (by rw [List.length_map, List.length_map, List.length_drop, lg]; rfl)) (fun j H' => H' D5 = some (.lst (((List.range j).map fun h : Nat => RM.gCp c R ((h : Int) + 1) - RM.gCp c R (h : Int)).map V.int)) ∧ Same H23 H') ?_ ?_ ?_ ?_
          · exact ⟨upd_same, same_new (Same.refl H23) hD5⟩
          · rintro j H' _ ⟨_, sm⟩
            exact ⟨SqL.of (sm _ _ e23), SqL.of (sm _ _ a23)⟩
          · rintro j y H' H'' hj ⟨q1, q2⟩ ⟨T', x', y', rfl, fT, rfl, hx, hy⟩
            have hx : (GG.map V.int)[j]? = some x' := hx
            have hy : ((GG.drop 1).map V.int)[j]? = some y' := hy
            have ex : x' = V.int (RM.gCp c R (j : Int)) := by
              rw [List.getElem?_map, gj (by omega)] at hx
              exact (Option.some.inj hx).symm
            have ey : y' = V.int (RM.gCp c R ((j : Int) + 1)) := by
              rw [List.getElem?_map, List.getElem?_drop, gj (by omega)] at hy
              rw [show ((1 + j : Nat) : Int) = (j : Int) + 1 by omega] at hy
              exact (Option.some.inj hy).symm
            subst ex ey
            refine ⟨T', _, rfl, SqT.of upd_same, rfl, _, _, rfl, _, _, rfl, rfl, ?_⟩
            refine ⟨rfl, _, rfl, _, rfl, _, _, rfl, rfl, _, s3u fT q1, by rw [List.length_map, List.length_map, List.length_range]; exact small1000 (by omega), ?_, same_put (same_new q2 fT) hD5⟩
            rw [upd_same, List.range_succ, List.map_append, List.map_append]
            rfl
          rintro H24 ⟨e24, m24⟩
          have m1924 := ((m201.trans m22).trans m23).trans m24
          have wR : RM.whole R ≤ 200 := by
            have := lay_sum (R := R) (n := (lay R).length) nn
            rw [List.take_length, rch_rm, ll] at this
            have h1 : RM.rch R (hrs R) = RM.whole R := RM.rch_whole vdR
            omega
          refine ⟨D5, _, rfl, SqL.of e24, by rw [List.length_map, List.length_range]; decide, T19.ext m1924, fun t3 ms H25 pm fl eN25 T25 V25 => ?_⟩
          have eU : posR (RM.up ms) = Dc := RM.up_perm vDc (by unfold Big; decide) (fun h => cap_sums vdR c0 (show RM.hoursN R ≤ 60 from d) wR hDc h) pm fl
          rw [eU] at V25
          have VD25 := (VD19.more m1924).ext eN25
          refine ⟨.ref tp, .ref t3, rowD Dc, rfl, .inr ⟨4, by decide, eqs_row 2 VD25 V25⟩, dat_row VD25, dat_row V25, gd1, gd2, gd3, ?_⟩
          refine ⟨_, rfl, ?_⟩
          refine ite2 (fun h => by cases h) (fun _ => ?_)
          exact ⟨_, _, _, _, _, _, rfl, (eN2.trans (ExtN.of m1924)).trans eN25, T25⟩
        · exact ⟨_, _, _, _, _, _, rfl, eN2.trans (ExtN.of m20), T19.ext m20⟩
      rintro σ H17 ⟨w9, w10, w11, w12, w13, w14, rfl, eN, T17⟩
      have B17 := bag_ext B16 eN
      have V17 := V16'.ext eN
      clear eN V16' B16 T16 V16 cl16 caps
      -- rows near it
      obtain ⟨t', xs, et, k1, k2⟩ := id V17
      cases et
      have lx := paired_len k2
      refine ⟨_, rfl, 1, rfl, _, rfl, t, _, rfl, k1, fun n1 H18 m18 hn1 => ?_⟩
      refine ⟨_, rfl, 1, rfl, _, rfl, t, _, rfl, sqt_more m18 k1, fun n2 H19 m19 hn2 => ⟨n2, rfl, ⟨_, hn2⟩, fun D6 hD6 => ?_⟩⟩
      rw [cut_init] at hn1
      rw [cut_neg] at hn2
      have m1819 := m18.trans m19
      have k3 := paired_init k2
      have k4 : Paired (RunV K H17) (xs.drop (xs.length - 1)) (R.drop (R.length - 1)) := by rw [lx]; exact paired_drop k2 _
      have lt1 : (R.drop (R.length - 1)).length ≤ 1 := by rw [List.length_drop]; omega
      refine lc_tup (K := K) (a := n2) (xs := xs.drop (xs.length - 1)) (fun j H' => ∃ ts : List Addr, H' D6 = some (.lst (ts.map V.ref)) ∧ Paired (fun t (r : Run) => H' t = some (.tup [.int r.1, .int r.2]) ∧ t ≠ D6) ts (((R.drop (R.length - 1)).take j).map fun r : Run => (r.1, r.2 + 1)) ∧ Same H19 H') ?_ ?_ ?_ ?_
      · exact ⟨[], upd_same, by rw [List.take_zero]; exact .nil, same_new (Same.refl H19) hD6⟩
      · rintro j H' _ ⟨_, _, _, sm⟩
        exact sqt_more sm hn2
      · rintro j z H' hz ⟨ts, w1, w2, w3⟩
        obtain ⟨r, hr', q, rfl, hq⟩ := paired_at k4 hz
        have hj : j < (R.drop (R.length - 1)).length := (List.getElem?_eq_some_iff.mp hr').1
        refine ⟨q, _, rfl, sqt_more (m1819.trans w3) hq, rfl, _, _, rfl, _, _, rfl, rfl, ?_⟩
        refine ⟨rfl, _, rfl, _, rfl, _, _, rfl, rfl, by show 2 ≤ sizeLine; decide, fun t9 ht9 => ?_⟩
        have nt : t9 ≠ D6 := fun z => by rw [z, w1] at ht9; cases ht9
        have lts := paired_len w2
        refine ⟨ts.map V.ref, s3u ht9 w1, ?_, ts ++ [t9], by rw [upd_same, List.map_append]; rfl, ?_, same_put (same_new w3 ht9) hD6⟩
        · rw [List.length_map, lts, List.length_map, List.length_take]
          exact small1000 (by omega)
        · rw [List.take_succ, hr']
          show Paired _ _ ((_ ++ [r]).map _)
          rw [List.map_append]
          refine paired_snoc ⟨by rw [upd_ne nt]; exact upd_same, nt⟩ (paired_imp (fun t0 r h => ⟨?_, h.2⟩) w2)
          rw [upd_ne h.2]
          exact s3u ht9 h.1
      rintro H20 ⟨ts, w1, w2, w3⟩
      have et : (R.drop (R.length - 1)).take (xs.drop (xs.length - 1)).length = R.drop (R.length - 1) := List.take_of_length_le (by rw [paired_len k4]; exact Nat.le_refl _)
      rw [et] at w2
      refine ⟨D6, _, rfl, .inl ⟨SqL.of w1, fun n3 hn3 => ?_⟩⟩
      have m20 := same_new (o := .tup (ts.map V.ref)) w3 hn3
      have n20 : upd H20 n3 (.tup (ts.map V.ref)) n3 = some (.tup (ts.map V.ref)) := upd_same
      have w20 : Paired (RunV K (upd H20 n3 (.tup (ts.map V.ref)))) (ts.map V.ref) ((R.drop (R.length - 1)).map fun r : Run => (r.1, r.2 + 1)) := paired_ref (S := fun t (r : Run) => H20 t = some (.tup [.int r.1, .int r.2]) ∧ t ≠ D6) (fun t r h => ⟨t, rfl, SqT.of (s3u hn3 h.1)⟩) w2
      generalize upd H20 n3 (.tup (ts.map V.ref)) = H21 at m20 n20 w20 ⊢
      have m1721 := m1819.trans m20
      refine ⟨n1, n3, _, _, rfl, rfl, sqt_more (m19.trans m20) hn1, SqT.of n20, ?_, fun nr H22 m22 hnr => ?_⟩
      · have a1 : xs.dropLast.length ≤ xs.length := by rw [List.length_dropLast]; omega
        have a2 := paired_len w20
        rw [List.length_map (f := fun r : Run => (r.1, r.2 + 1))] at a2
        exact Nat.le_of_lt (small1000 (by omega))
      have m1722 := m1721.trans m22
      have VN : RowV K H22 (.ref nr) (nearR R) := ⟨nr, _, rfl, hnr, paired_app (paired_imp (fun v c ⟨a, e1, q⟩ => ⟨a, e1, sqt_more m1722 q⟩) k3) (paired_imp (fun v c ⟨a, e1, q⟩ => ⟨a, e1, sqt_more m22 q⟩) w20)⟩
      have V22 := V17.more m1722
      have B22 := B17.keep m1722
      have T22 := T17.ext m1722
      clear w20 n20 hn3 w1 w2 w3 hn1 hn2 k3 k4 k1 k2 V17 B17 T17 hD6
      -- the others
      have pV22 := V22.wo B22
      have pVN := VN.wo B22
      refine ⟨_, rfl, _, rfl, _, rfl, b, rfl, B22, fun t2 R2 H23 hR2 pw2 VW2 B23 s23 => ?_⟩
      have V23 := (pV22.more s23.1).more (wo_sub H23 b)
      have VN23 := (pVN.more s23.1).more (wo_sub H23 b)
      have VW23 := VW2.more (wo_sub H23 b)
      have T23 := tabs_sb T22 B22 s23
      have vdR2 := hR2.vd pw2
      obtain ⟨t', xs2, et2, k5, k6⟩ := id V23
      cases et2
      have lx2 := paired_len k6
      refine ⟨_, rfl, 1, rfl, _, rfl, t, _, rfl, k5, fun n4 H24 m24 hn4 => ?_⟩
      rw [cut_init] at hn4
      have VI24 : RowV K H24 (.ref n4) R.dropLast := ⟨n4, _, rfl, hn4, paired_imp (fun v c ⟨a, e1, q⟩ => ⟨a, e1, sqt_more m24 q⟩) (paired_init k6)⟩
      refine ⟨_, rfl, by show 2 ≤ sizeLine; decide, fun q1 hq1 => ⟨by show 1 ≤ sizeLine; decide, fun q2 hq2 => ?_⟩⟩
      have m26 := same_new (o := .tup [.ref q1]) (same_new (o := .tup [.int 1, .int 3]) (Same.refl H24) hq1) hq2
      have q26 := s3u (o := .tup [.ref q1]) hq2 (upd_same (H := H24) (a := q1) (o := .tup [.int 1, .int 3]))
      have r26 : upd (upd H24 q1 (.tup [.int 1, .int 3])) q2 (.tup [.ref q1]) q2 = some (.tup [.ref q1]) := upd_same
      generalize upd (upd H24 q1 (.tup [.int 1, .int 3])) q2 (.tup [.ref q1]) = H26 at m26 q26 r26 ⊢
      refine more_te (K := K) (R := R) (m := 10 ^ 12 + 1) rfl ((V23.more m24).more m26) vdR (by decide) (fun kk H27 hk hk1 m27 => ?_)
      refine rep01_use (SqT.of (m27 _ _ r26)) (fun z => nomatch z) hk (fun px ys2 H28 hpx ey m28 => ?_)
      have m2428 := ((m24.trans m26).trans m27).trans m28
      have pE : Paired (RunV K H28) ys2 (if kk = 1 then [((1 : Int), (3 : Int))] else []) := by
        rw [ey]
        split
        · exact .cons ⟨q1, rfl, SqT.of (m28 _ _ (m27 _ _ q26))⟩ .nil
        · exact .nil
      have vE : RM.Vd (10 ^ 12 + 1) (R ++ if kk = 1 then [((1 : Int), (3 : Int))] else []) := by
        by_cases c : kk = 1
        · rw [if_pos c]
          exact hk1 c
        · rw [if_neg c, List.append_nil]
          exact vdR
      have lE : (if kk = 1 then [((1 : Int), (3 : Int))] else []).length ≤ 1 := by split <;> simp
      generalize (if kk = 1 then [((1 : Int), (3 : Int))] else []) = Es at pE vE lE
      have lp := paired_len pE
      refine ⟨t, px, xs2, ys2, rfl, rfl, sqt_more m2428 k5, hpx, ?_, fun ne H29 m29 hne => ⟨by show 5 ≤ sizeLine; decide, fun ol hol => ?_⟩⟩
      · exact Nat.le_of_lt (small1000 (by omega))
      have m2329 := m2428.trans m29
      have VE : RowV K H29 (.ref ne) (R ++ Es) := ⟨ne, _, rfl, hne, paired_app (paired_imp (fun v c ⟨a, e1, q⟩ => ⟨a, e1, sqt_more m2329 q⟩) k6) (paired_imp (fun v c ⟨a, e1, q⟩ => ⟨a, e1, sqt_more m29 q⟩) pE)⟩
      have m30 := same_new (o := .lst [.ref t, .ref nr, .ref t2, .ref n4, .ref ne]) (Same.refl H29) hol
      have l30 : upd H29 ol (.lst [.ref t, .ref nr, .ref t2, .ref n4, .ref ne]) ol = some (.lst [.ref t, .ref nr, .ref t2, .ref n4, .ref ne]) := upd_same
      generalize upd H29 ol (.lst [.ref t, .ref nr, .ref t2, .ref n4, .ref ne]) = H30 at m30 l30 ⊢
      have m2330 := m2329.trans m30
      have V30 := V23.more m2330
      have l2 := hR2.1
      have items : ∀ x ∈ [V.ref t, V.ref nr, V.ref t2, V.ref n4, V.ref ne], ∃ S : List Run, RowV K H30 x S ∧ RM.Vd (10 ^ 12 + 1) S ∧ S.length ≤ 6 := fun x hx => by
        simp only [List.mem_cons, List.not_mem_nil, or_false] at hx
        rcases hx with rfl | rfl | rfl | rfl | rfl
        · exact ⟨R, V30, vdR, by omega⟩
        · exact ⟨nearR R, VN23.more m2330, near_vd vdR, by have := near_len R; omega⟩
        · exact ⟨R2, VW23.more m2330, vdR2, by omega⟩
        · exact ⟨R.dropLast, (VI24.more (((m26.trans m27).trans m28).trans m29)).more m30, init_vd vdR, by rw [List.length_dropLast]; omega⟩
        · exact ⟨R ++ Es, VE.more m30, vE, by rw [List.length_append]; omega⟩
      have B30 := B23.keep m2330
      have T30 := T23.ext m2330
      refine ⟨ol, rfl, ⟨_, SqL.of l30⟩, ?_⟩
      refine for_list (K := K) (a := ol) (xs := [.ref t, .ref nr, .ref t2, .ref n4, .ref ne]) (fun j σ H' => ∃ w13 : Option V, σ = [some (.ref a), some (.ref b), some (.int (0 + (i : Int))), some (.ref D), v4, some (.ref t), some (.ref st), v7, v8, w9, w10, w11, w12, w13, w14, some (.ref nr)] ∧ Same H30 H') ?_ ?_ ?_ ?_
      · exact ⟨_, rfl, Same.refl H30⟩
      · rintro j σ H' _ ⟨_, _, sm⟩
        exact SqL.of (sm _ _ l30)
      · rintro j x σ H' hx ⟨w13, rfl, sm⟩
        obtain ⟨S, VS, vS, lS6'⟩ := items x (List.mem_of_getElem? hx)
        have V' := V30.more sm
        have VS' := VS.more sm
        refine ⟨_, rfl, _, rfl, .ref t, x, R, S, rfl, V', VS', by omega, by omega, fun H31 m31 => ?_⟩
        refine ⟨_, rfl, _, rfl, x, .ref t, S, R, rfl, VS'.more m31, V'.more m31, by omega, by omega, fun H32 m32 => ⟨by show 2 ≤ sizeLine; decide, fun a1 h1 => ?_⟩⟩
        rw [fu_comm S R]
        have h1 : H32 a1 = none := h1
        have m132 := m31.trans m32
        have m33 := same_new (o := .lst [oV (fu 0 R S), oV (fu 0 R S)]) m132 h1
        have x1 : upd H32 a1 (.lst [oV (fu 0 R S), oV (fu 0 R S)]) a1 = some (.lst [oV (fu 0 R S), oV (fu 0 R S)]) := upd_same
        generalize upd H32 a1 (.lst [oV (fu 0 R S), oV (fu 0 R S)]) = H33 at m33 x1 ⊢
        refine ⟨_, rfl, _, rfl, .ref t, x, R, S, 10 ^ 12 + 1, 10 ^ 12 + 1, rfl, V'.more m33, VS'.more m33, vdR, vS, by omega, fun H34 m34 => ⟨by show 1 ≤ sizeLine; decide, fun q hq => ⟨q, 2, _, rfl, rfl, upd_same, by decide, by decide, by show 1 * 2 ≤ sizeLine; decide, fun a2 h2 => ?_⟩⟩⟩
        have er : (List.replicate (2 : Int).toNat [oV (fu 0 R S)]).flatten = [oV (fu 0 R S), oV (fu 0 R S)] := rfl
        rw [er]
        have m35 := same_new (o := .lst [oV (fu 0 R S), oV (fu 0 R S)]) (same_new (o := .lst [oV (fu 0 R S)]) m34 hq) h2
        have x2 : upd (upd H34 q (.lst [oV (fu 0 R S)])) a2 (.lst [oV (fu 0 R S), oV (fu 0 R S)]) a2 = some (.lst [oV (fu 0 R S), oV (fu 0 R S)]) := upd_same
        generalize upd (upd H34 q (.lst [oV (fu 0 R S)])) a2 (.lst [oV (fu 0 R S), oV (fu 0 R S)]) = H35 at m35 x2 ⊢
        have x1' := m35 _ _ x1
        have fo : Fit 300 0 (oD (fu 0 R S)) := by
          cases ho : fu 0 R S with
          | none => exact ⟨by decide +kernel, by decide +kernel, by decide +kernel⟩
          | some i =>
            have u := fu_bd vdR vS ho
            have hb : RM.hoursN R ≤ 4 * 10 ^ 14 := (hrs_bd hR).2
            exact fit_num (by omega) (by omega)
        have fl : Fit 1000 1 (.list [oD (fu 0 R S), oD (fu 0 R S)]) := by
          refine (fit_list (m := 300) (k := 0) fun z hz => ?_).mono (show 2 * (300 + 2) + 3 ≤ 1000 by decide) (by decide)
          simp only [List.mem_cons, List.not_mem_nil, or_false] at hz
          rcases hz with rfl | rfl <;> exact fo
        have g1 := fl.1
        have g2 : (PyData.list [oD (fu 0 R S), oD (fu 0 R S)]).shown.length ≤ sizeLine := Nat.le_trans fl.2.1 (big_ok (n := 1000) (by decide))
        have g3 : (PyData.list [oD (fu 0 R S), oD (fu 0 R S)]).depth ≤ 60 := Nat.le_trans fl.2.2 (show 1 ≤ 60 by decide)
        have eT := eqT_flat (K := K) (H := H35) 3 (flat_o (fu 0 R S))
        refine ⟨.ref a1, .ref a2, .list [oD (fu 0 R S), oD (fu 0 R S)], rfl, .inr ⟨4, by decide, .inl (.inl ⟨a1, a2, _, _, rfl, rfl, SqL.of x1', SqL.of x2, .cons eT (.cons eT .nil)⟩)⟩, .lst (SqL.of x1') (.cons (dat_o _) (.cons (dat_o _) .nil)), .lst (SqL.of x2) (.cons (dat_o _) (.cons (dat_o _) .nil)), g1, g2, g3, ?_⟩
        refine ⟨_, rfl, ?_⟩
        refine ite2 (fun h => by cases h) (fun _ => ?_)
        exact ⟨_, rfl, sm.trans (m33.trans m35)⟩
      · rintro σ H' ⟨w13, rfl, sm⟩
        exact ⟨_, _, _, _, _, _, _, _, _, _, _, _, _, _, rfl, B30.keep sm, T30.ext sm⟩
    · rintro σ H' ⟨v2, v3, v4, v5, v6, v7, v8, v9, v10, v11, v12, v13, v14, v15, rfl, _⟩
      exact k H'
end
end Y

namespace Y
open PySem PySem.Spec PyProof.Rows L2 Ns
/-- the def's data -/
def fdOf {K : PySem.W.Frag} {x q : Str} {st : Stmt} {f : Addr} {fd : FuncData} (_ : Fun K x q st f fd) : FuncData := fd
set_option maxHeartbeats 4000000 in
theorem all_mk {l : PySem.W.OpenLaw} {w : World} {K : PySem.W.Frag} {h : Heap} {mg : Str → Option Value} {fa : Addr} (X : K.In h) (G : h.Ns mainGlobals mg) (hfa : mg "law" = some (.ref fa))
    {fPR fWO fEO fAd fFL fCp fFU fB fT fS fA fRN fRR fSM fRO fLA fLC fRw fLd fRU fFA fL : Addr}
    {oddPR andPR : Option Addr} {sldPR : Array (Option Value)} {ocdPR kVdPR dcdPR pmdPR cddPR ctdPR : Value}
    {oddWO andWO : Option Addr} {sldWO : Array (Option Value)} {ocdWO kVdWO dcdWO pmdWO cddWO ctdWO : Value}
    {oddEO andEO : Option Addr} {sldEO : Array (Option Value)} {ocdEO kVdEO dcdEO pmdEO cddEO ctdEO : Value}
    {oddAd andAd : Option Addr} {sldAd : Array (Option Value)} {ocdAd kVdAd dcdAd pmdAd cddAd ctdAd : Value}
    {oddFL andFL : Option Addr} {sldFL : Array (Option Value)} {ocdFL kVdFL dcdFL pmdFL cddFL ctdFL : Value}
    {oddCp andCp : Option Addr} {sldCp : Array (Option Value)} {ocdCp kVdCp dcdCp pmdCp cddCp ctdCp : Value}
    {oddFU andFU : Option Addr} {sldFU : Array (Option Value)} {ocdFU kVdFU dcdFU pmdFU cddFU ctdFU : Value}
    {oddB andB : Option Addr} {sldB : Array (Option Value)} {ocdB kVdB dcdB pmdB cddB ctdB : Value}
    {oddT andT : Option Addr} {sldT : Array (Option Value)} {ocdT kVdT dcdT pmdT cddT ctdT : Value}
    {oddS andS : Option Addr} {sldS : Array (Option Value)} {ocdS kVdS dcdS pmdS cddS ctdS : Value}
    {oddA andA : Option Addr} {sldA : Array (Option Value)} {ocdA kVdA dcdA pmdA cddA ctdA : Value}
    {oddRN andRN : Option Addr} {sldRN : Array (Option Value)} {ocdRN kVdRN dcdRN pmdRN cddRN ctdRN : Value}
    {oddRR andRR : Option Addr} {sldRR : Array (Option Value)} {ocdRR kVdRR dcdRR pmdRR cddRR ctdRR : Value}
    {oddSM andSM : Option Addr} {sldSM : Array (Option Value)} {ocdSM kVdSM dcdSM pmdSM cddSM ctdSM : Value}
    {oddRO andRO : Option Addr} {sldRO : Array (Option Value)} {ocdRO kVdRO dcdRO pmdRO cddRO ctdRO : Value}
    {oddLA andLA : Option Addr} {sldLA : Array (Option Value)} {ocdLA kVdLA dcdLA pmdLA cddLA ctdLA : Value}
    {oddLC andLC : Option Addr} {sldLC : Array (Option Value)} {ocdLC kVdLC dcdLC pmdLC cddLC ctdLC : Value}
    {oddRw andRw : Option Addr} {sldRw : Array (Option Value)} {ocdRw kVdRw dcdRw pmdRw cddRw ctdRw : Value}
    {oddLd andLd : Option Addr} {sldLd : Array (Option Value)} {ocdLd kVdLd dcdLd pmdLd cddLd ctdLd : Value}
    {oddRU andRU : Option Addr} {sldRU : Array (Option Value)} {ocdRU kVdRU dcdRU pmdRU cddRU ctdRU : Value}
    {oddFA andFA : Option Addr} {sldFA : Array (Option Value)} {ocdFA kVdFA dcdFA pmdFA cddFA ctdFA : Value}
    {oddL andL : Option Addr} {sldL : Array (Option Value)} {ocdL kVdL dcdL pmdL cddL ctdL : Value}
    (adPR : PySem.W.nsIn K mainGlobals "put_run" = some (some (.ref fPR)))
    (ldPR : K.lookup fPR = some ⟨ocdPR, oddPR, .func (PySem.W.fnOf "put_run" "put_run" (defArgs sPutRun) (defBody sPutRun) (defScope sPutRun) .none kVdPR dcdPR pmdPR andPR cddPR ctdPR), sldPR⟩)
    (cdPR : PySem.W.codeIn K cddPR "put_run" = true)
    (kdPR : PySem.W.keepIn K (.ref fPR) = true)
    (adWO : PySem.W.nsIn K mainGlobals "whole_of" = some (some (.ref fWO)))
    (ldWO : K.lookup fWO = some ⟨ocdWO, oddWO, .func (PySem.W.fnOf "whole_of" "whole_of" (defArgs sWholeOf) (defBody sWholeOf) (defScope sWholeOf) .none kVdWO dcdWO pmdWO andWO cddWO ctdWO), sldWO⟩)
    (cdWO : PySem.W.codeIn K cddWO "whole_of" = true)
    (kdWO : PySem.W.keepIn K (.ref fWO) = true)
    (adEO : PySem.W.nsIn K mainGlobals "ends_of" = some (some (.ref fEO)))
    (ldEO : K.lookup fEO = some ⟨ocdEO, oddEO, .func (PySem.W.fnOf "ends_of" "ends_of" (defArgs sEndsOf) (defBody sEndsOf) (defScope sEndsOf) .none kVdEO dcdEO pmdEO andEO cddEO ctdEO), sldEO⟩)
    (cdEO : PySem.W.codeIn K cddEO "ends_of" = true)
    (kdEO : PySem.W.keepIn K (.ref fEO) = true)
    (adAd : PySem.W.nsIn K mainGlobals "added" = some (some (.ref fAd)))
    (ldAd : K.lookup fAd = some ⟨ocdAd, oddAd, .func (PySem.W.fnOf "added" "added" (defArgs sAdded) (defBody sAdded) (defScope sAdded) .none kVdAd dcdAd pmdAd andAd cddAd ctdAd), sldAd⟩)
    (cdAd : PySem.W.codeIn K cddAd "added" = true)
    (kdAd : PySem.W.keepIn K (.ref fAd) = true)
    (adFL : PySem.W.nsIn K mainGlobals "_falls" = some (some (.ref fFL)))
    (ldFL : K.lookup fFL = some ⟨ocdFL, oddFL, .func (PySem.W.fnOf "_falls" "_falls" (defArgs sFalls) (defBody sFalls) (defScope sFalls) .none kVdFL dcdFL pmdFL andFL cddFL ctdFL), sldFL⟩)
    (cdFL : PySem.W.codeIn K cddFL "_falls" = true)
    (kdFL : PySem.W.keepIn K (.ref fFL) = true)
    (adCp : PySem.W.nsIn K mainGlobals "capped" = some (some (.ref fCp)))
    (ldCp : K.lookup fCp = some ⟨ocdCp, oddCp, .func (PySem.W.fnOf "capped" "capped" (defArgs sCapped) (defBody sCapped) (defScope sCapped) .none kVdCp dcdCp pmdCp andCp cddCp ctdCp), sldCp⟩)
    (cdCp : PySem.W.codeIn K cddCp "capped" = true)
    (kdCp : PySem.W.keepIn K (.ref fCp) = true)
    (adFU : PySem.W.nsIn K mainGlobals "first_unlike" = some (some (.ref fFU)))
    (ldFU : K.lookup fFU = some ⟨ocdFU, oddFU, .func (PySem.W.fnOf "first_unlike" "first_unlike" (defArgs sFirstUnlike) (defBody sFirstUnlike) (defScope sFirstUnlike) .none kVdFU dcdFU pmdFU andFU cddFU ctdFU), sldFU⟩)
    (cdFU : PySem.W.codeIn K cddFU "first_unlike" = true)
    (kdFU : PySem.W.keepIn K (.ref fFU) = true)
    (adB : PySem.W.nsIn K mainGlobals "_law_bag" = some (some (.ref fB)))
    (ldB : K.lookup fB = some ⟨ocdB, oddB, .func (PySem.W.fnOf "_law_bag" "_law_bag" (defArgs sBag) (defBody sBag) (defScope sBag) .none kVdB dcdB pmdB andB cddB ctdB), sldB⟩)
    (cdB : PySem.W.codeIn K cddB "_law_bag" = true)
    (kdB : PySem.W.keepIn K (.ref fB) = true)
    (adT : PySem.W.nsIn K mainGlobals "_law_take" = some (some (.ref fT)))
    (ldT : K.lookup fT = some ⟨ocdT, oddT, .func (PySem.W.fnOf "_law_take" "_law_take" (defArgs sTake) (defBody sTake) (defScope sTake) .none kVdT dcdT pmdT andT cddT ctdT), sldT⟩)
    (cdT : PySem.W.codeIn K cddT "_law_take" = true)
    (kdT : PySem.W.keepIn K (.ref fT) = true)
    (adS : PySem.W.nsIn K mainGlobals "_law_some" = some (some (.ref fS)))
    (ldS : K.lookup fS = some ⟨ocdS, oddS, .func (PySem.W.fnOf "_law_some" "_law_some" (defArgs sSome) (defBody sSome) (defScope sSome) .none kVdS dcdS pmdS andS cddS ctdS), sldS⟩)
    (cdS : PySem.W.codeIn K cddS "_law_some" = true)
    (kdS : PySem.W.keepIn K (.ref fS) = true)
    (adA : PySem.W.nsIn K mainGlobals "_law_alike" = some (some (.ref fA)))
    (ldA : K.lookup fA = some ⟨ocdA, oddA, .func (PySem.W.fnOf "_law_alike" "_law_alike" (defArgs sAlike) (defBody sAlike) (defScope sAlike) .none kVdA dcdA pmdA andA cddA ctdA), sldA⟩)
    (cdA : PySem.W.codeIn K cddA "_law_alike" = true)
    (kdA : PySem.W.keepIn K (.ref fA) = true)
    (adRN : PySem.W.nsIn K mainGlobals "_law_run" = some (some (.ref fRN)))
    (ldRN : K.lookup fRN = some ⟨ocdRN, oddRN, .func (PySem.W.fnOf "_law_run" "_law_run" (defArgs sRun) (defBody sRun) (defScope sRun) .none kVdRN dcdRN pmdRN andRN cddRN ctdRN), sldRN⟩)
    (cdRN : PySem.W.codeIn K cddRN "_law_run" = true)
    (kdRN : PySem.W.keepIn K (.ref fRN) = true)
    (adRR : PySem.W.nsIn K mainGlobals "_law_row_reach" = some (some (.ref fRR)))
    (ldRR : K.lookup fRR = some ⟨ocdRR, oddRR, .func (PySem.W.fnOf "_law_row_reach" "_law_row_reach" (defArgs sRowReach) (defBody sRowReach) (defScope sRowReach) .none kVdRR dcdRR pmdRR andRR cddRR ctdRR), sldRR⟩)
    (cdRR : PySem.W.codeIn K cddRR "_law_row_reach" = true)
    (kdRR : PySem.W.keepIn K (.ref fRR) = true)
    (adSM : PySem.W.nsIn K mainGlobals "_law_steps_many" = some (some (.ref fSM)))
    (ldSM : K.lookup fSM = some ⟨ocdSM, oddSM, .func (PySem.W.fnOf "_law_steps_many" "_law_steps_many" (defArgs sStepsMany) (defBody sStepsMany) (defScope sStepsMany) .none kVdSM dcdSM pmdSM andSM cddSM ctdSM), sldSM⟩)
    (cdSM : PySem.W.codeIn K cddSM "_law_steps_many" = true)
    (kdSM : PySem.W.keepIn K (.ref fSM) = true)
    (adRO : PySem.W.nsIn K mainGlobals "_law_row_of" = some (some (.ref fRO)))
    (ldRO : K.lookup fRO = some ⟨ocdRO, oddRO, .func (PySem.W.fnOf "_law_row_of" "_law_row_of" (defArgs sRowOf) (defBody sRowOf) (defScope sRowOf) .none kVdRO dcdRO pmdRO andRO cddRO ctdRO), sldRO⟩)
    (cdRO : PySem.W.codeIn K cddRO "_law_row_of" = true)
    (kdRO : PySem.W.keepIn K (.ref fRO) = true)
    (adLA : PySem.W.nsIn K mainGlobals "_law_added" = some (some (.ref fLA)))
    (ldLA : K.lookup fLA = some ⟨ocdLA, oddLA, .func (PySem.W.fnOf "_law_added" "_law_added" (defArgs sLAdded) (defBody sLAdded) (defScope sLAdded) .none kVdLA dcdLA pmdLA andLA cddLA ctdLA), sldLA⟩)
    (cdLA : PySem.W.codeIn K cddLA "_law_added" = true)
    (kdLA : PySem.W.keepIn K (.ref fLA) = true)
    (adLC : PySem.W.nsIn K mainGlobals "_law_capped" = some (some (.ref fLC)))
    (ldLC : K.lookup fLC = some ⟨ocdLC, oddLC, .func (PySem.W.fnOf "_law_capped" "_law_capped" (defArgs sLCapped) (defBody sLCapped) (defScope sLCapped) .none kVdLC dcdLC pmdLC andLC cddLC ctdLC), sldLC⟩)
    (cdLC : PySem.W.codeIn K cddLC "_law_capped" = true)
    (kdLC : PySem.W.keepIn K (.ref fLC) = true)
    (adRw : PySem.W.nsIn K mainGlobals "_law_some_row" = some (some (.ref fRw)))
    (ldRw : K.lookup fRw = some ⟨ocdRw, oddRw, .func (PySem.W.fnOf "_law_some_row" "_law_some_row" (defArgs sSomeRow) (defBody sSomeRow) (defScope sSomeRow) .none kVdRw dcdRw pmdRw andRw cddRw ctdRw), sldRw⟩)
    (cdRw : PySem.W.codeIn K cddRw "_law_some_row" = true)
    (kdRw : PySem.W.keepIn K (.ref fRw) = true)
    (adLd : PySem.W.nsIn K mainGlobals "_law_laid" = some (some (.ref fLd)))
    (ldLd : K.lookup fLd = some ⟨ocdLd, oddLd, .func (PySem.W.fnOf "_law_laid" "_law_laid" (defArgs sLaid) (defBody sLaid) (defScope sLaid) .none kVdLd dcdLd pmdLd andLd cddLd ctdLd), sldLd⟩)
    (cdLd : PySem.W.codeIn K cddLd "_law_laid" = true)
    (kdLd : PySem.W.keepIn K (.ref fLd) = true)
    (adRU : PySem.W.nsIn K mainGlobals "_law_run_up" = some (some (.ref fRU)))
    (ldRU : K.lookup fRU = some ⟨ocdRU, oddRU, .func (PySem.W.fnOf "_law_run_up" "_law_run_up" (defArgs sRunUp) (defBody sRunUp) (defScope sRunUp) .none kVdRU dcdRU pmdRU andRU cddRU ctdRU), sldRU⟩)
    (cdRU : PySem.W.codeIn K cddRU "_law_run_up" = true)
    (kdRU : PySem.W.keepIn K (.ref fRU) = true)
    (adFA : PySem.W.nsIn K mainGlobals "_law_first_apart" = some (some (.ref fFA)))
    (ldFA : K.lookup fFA = some ⟨ocdFA, oddFA, .func (PySem.W.fnOf "_law_first_apart" "_law_first_apart" (defArgs sFirstApart) (defBody sFirstApart) (defScope sFirstApart) .none kVdFA dcdFA pmdFA andFA cddFA ctdFA), sldFA⟩)
    (cdFA : PySem.W.codeIn K cddFA "_law_first_apart" = true)
    (kdFA : PySem.W.keepIn K (.ref fFA) = true)
    (adL : PySem.W.nsIn K mainGlobals "law" = some (some (.ref fL)))
    (ldL : K.lookup fL = some ⟨ocdL, oddL, .func (PySem.W.fnOf "law" "law" (defArgs sLaw) (defBody sLaw) (defScope sLaw) .none kVdL dcdL pmdL andL cddL ctdL), sldL⟩)
    (cdL : PySem.W.codeIn K cddL "law" = true)
    (kdL : PySem.W.keepIn K (.ref fL) = true)
    (zabs : PySem.W.nsIn K mainGlobals "abs" = some none)
    (zint : PySem.W.nsIn K mainGlobals "int" = some none)
    (zlen : PySem.W.nsIn K mainGlobals "len" = some none)
    (zrepr : PySem.W.nsIn K mainGlobals "repr" = some none)
    (zisinstance : PySem.W.nsIn K mainGlobals "isinstance" = some none)
    (zrange : PySem.W.nsIn K mainGlobals "range" = some none)
    (zsorted : PySem.W.nsIn K mainGlobals "sorted" = some none)
    (ztuple : PySem.W.nsIn K mainGlobals "tuple" = some none)
    (zlist : PySem.W.nsIn K mainGlobals "list" = some none)
    (zdict : PySem.W.nsIn K mainGlobals "dict" = some none)
    (zset : PySem.W.nsIn K mainGlobals "set" = some none)
    (zsum : PySem.W.nsIn K mainGlobals "sum" = some none)
    (zmax : PySem.W.nsIn K mainGlobals "max" = some none)
    (zmin : PySem.W.nsIn K mainGlobals "min" = some none)
    (zstr : PySem.W.nsIn K mainGlobals "str" = some none)
    (zall : PySem.W.nsIn K mainGlobals "all" = some none)
    (zany : PySem.W.nsIn K mainGlobals "any" = some none)
    (zzip : PySem.W.nsIn K mainGlobals "zip" = some none)
    {cC1 tP1 : Addr} (tC1 : PySem.W.tabIn K "_law_added" = some (cC1, tP1)) (mC1 : h.get? tP1 = some (PySem.W.tabObj #[])) (hC1 : PySem.W.codeHdIn K cC1 tP1 = true) (oC1 : K.lookup tP1 = none)
    {cC2 tP2 : Addr} (tC2 : PySem.W.tabIn K "_law_capped" = some (cC2, tP2)) (mC2 : h.get? tP2 = some (PySem.W.tabObj #[])) (hC2 : PySem.W.codeHdIn K cC2 tP2 = true) (oC2 : K.lookup tP2 = none)
    {cC3 tP3 : Addr} (tC3 : PySem.W.tabIn K "_law_run_up" = some (cC3, tP3)) (mC3 : h.get? tP3 = some (PySem.W.tabObj #[])) (hC3 : PySem.W.codeHdIn K cC3 tP3 = true) (oC3 : K.lookup tP3 = none)
    (n12 : tP1 ≠ tP2)
    (n13 : tP1 ≠ tP3)
    (n23 : tP2 ≠ tP3) :
    ∃ (fd : FuncData) (cs : List (Addr × Addr)), Ns.Makers K h cs ∧ (∀ (s : Shared) (v : Value), BindsTo s fd ⟨[v], []⟩ [("script", v)]) ∧ ∀ base : Heap, K.In base → base.Ns mainGlobals mg → (∀ p ∈ cs, LamX.TabB base mg p.1 p.2) → GnOk l.prog w K mg base 5 fa fd ["script"] (spTopT K cs) := by
  have e := hfa.symm.trans (PySem.W.mg_of X G adL)
  cases e
  have T : Nat0 mg := ⟨PySem.W.mg_none_of X G zabs, PySem.W.mg_none_of X G zint, PySem.W.mg_none_of X G zlen, PySem.W.mg_none_of X G zrepr, PySem.W.mg_none_of X G zisinstance, PySem.W.mg_none_of X G zrange, PySem.W.mg_none_of X G zsorted, PySem.W.mg_none_of X G ztuple, PySem.W.mg_none_of X G zlist, PySem.W.mg_none_of X G zdict, PySem.W.mg_none_of X G zset, PySem.W.mg_none_of X G zsum, PySem.W.mg_none_of X G zmax, PySem.W.mg_none_of X G zmin, PySem.W.mg_none_of X G zstr, PySem.W.mg_none_of X G zall, PySem.W.mg_none_of X G zany, PySem.W.mg_none_of X G zzip⟩
  have FPR := fun_mk (st := sPutRun) ldPR cdPR kdPR
  have bPR := FPR.binds (ps := ["runs", "step", "times"]) fun _ _ _ _ _ _ us hl => match us, hl with | [_, _, _], _ => rfl
  have mPR := PySem.W.mg_of X G adPR
  have FWO := fun_mk (st := sWholeOf) ldWO cdWO kdWO
  have bWO := FWO.binds (ps := ["stairs"]) fun _ _ _ _ _ _ us hl => match us, hl with | [_], _ => rfl
  have mWO := PySem.W.mg_of X G adWO
  have FEO := fun_mk (st := sEndsOf) ldEO cdEO kdEO
  have bEO := FEO.binds (ps := ["stairs"]) fun _ _ _ _ _ _ us hl => match us, hl with | [_], _ => rfl
  have mEO := PySem.W.mg_of X G adEO
  have FAd := fun_mk (st := sAdded) ldAd cdAd kdAd
  have bAd := FAd.binds (ps := ["rows"]) fun _ _ _ _ _ _ us hl => match us, hl with | [_], _ => rfl
  have mAd := PySem.W.mg_of X G adAd
  have FFL := fun_mk (st := sFalls) ldFL cdFL kdFL
  have bFL := FFL.binds (ps := ["rows"]) fun _ _ _ _ _ _ us hl => match us, hl with | [_], _ => rfl
  have mFL := PySem.W.mg_of X G adFL
  have FCp := fun_mk (st := sCapped) ldCp cdCp kdCp
  have bCp := FCp.binds (ps := ["stairs", "cap"]) fun _ _ _ _ _ _ us hl => match us, hl with | [_, _], _ => rfl
  have mCp := PySem.W.mg_of X G adCp
  have FFU := fun_mk (st := sFirstUnlike) ldFU cdFU kdFU
  have bFU := FFU.binds (ps := ["one", "other"]) fun _ _ _ _ _ _ us hl => match us, hl with | [_, _], _ => rfl
  have mFU := PySem.W.mg_of X G adFU
  have FB := fun_mk (st := sBag) ldB cdB kdB
  have bB := FB.binds (ps := ["script"]) fun _ _ _ _ _ _ us hl => match us, hl with | [_], _ => rfl
  have mB := PySem.W.mg_of X G adB
  have FT := fun_mk (st := sTake) ldT cdT kdT
  have bT := FT.binds (ps := ["bag", "many"]) fun _ _ _ _ _ _ us hl => match us, hl with | [_, _], _ => rfl
  have mT := PySem.W.mg_of X G adT
  have FS := fun_mk (st := sSome) ldS cdS kdS
  have bS := FS.binds (ps := ["bag", "things"]) fun _ _ _ _ _ _ us hl => match us, hl with | [_, _], _ => rfl
  have mS := PySem.W.mg_of X G adS
  have FA := fun_mk (st := sAlike) ldA cdA kdA
  have bA := FA.binds (ps := ["found", "due"]) fun _ _ _ _ _ _ us hl => match us, hl with | [_, _], _ => rfl
  have mA := PySem.W.mg_of X G adA
  have FRN := fun_mk (st := sRun) ldRN cdRN kdRN
  have bRN := FRN.binds (ps := ["found", "step", "many"]) fun _ _ _ _ _ _ us hl => match us, hl with | [_, _, _], _ => rfl
  have mRN := PySem.W.mg_of X G adRN
  have FRR := fun_mk (st := sRowReach) ldRR cdRR kdRR
  have bRR := FRR.binds (ps := ["row", "hours"]) fun _ _ _ _ _ _ us hl => match us, hl with | [_, _], _ => rfl
  have mRR := PySem.W.mg_of X G adRR
  have FSM := fun_mk (st := sStepsMany) ldSM cdSM kdSM
  have bSM := FSM.binds (ps := ["row"]) fun _ _ _ _ _ _ us hl => match us, hl with | [_], _ => rfl
  have mSM := PySem.W.mg_of X G adSM
  have FRO := fun_mk (st := sRowOf) ldRO cdRO kdRO
  have bRO := FRO.binds (ps := ["bends", "rule"]) fun _ _ _ _ _ _ us hl => match us, hl with | [_, _], _ => rfl
  have mRO := PySem.W.mg_of X G adRO
  have FLA := fun_mk (st := sLAdded) ldLA cdLA kdLA
  have bLA := FLA.binds (ps := ["rows"]) fun _ _ _ _ _ _ us hl => match us, hl with | [_], _ => rfl
  have mLA := PySem.W.mg_of X G adLA
  have FLC := fun_mk (st := sLCapped) ldLC cdLC kdLC
  have bLC := FLC.binds (ps := ["row", "cap"]) fun _ _ _ _ _ _ us hl => match us, hl with | [_, _], _ => rfl
  have mLC := PySem.W.mg_of X G adLC
  have FRw := fun_mk (st := sSomeRow) ldRw cdRw kdRw
  have bRw := FRw.binds (ps := ["bag"]) fun _ _ _ _ _ _ us hl => match us, hl with | [_], _ => rfl
  have mRw := PySem.W.mg_of X G adRw
  have FLd := fun_mk (st := sLaid) ldLd cdLd kdLd
  have bLd := FLd.binds (ps := ["row"]) fun _ _ _ _ _ _ us hl => match us, hl with | [_], _ => rfl
  have mLd := PySem.W.mg_of X G adLd
  have FRU := fun_mk (st := sRunUp) ldRU cdRU kdRU
  have bRU := FRU.binds (ps := ["steps"]) fun _ _ _ _ _ _ us hl => match us, hl with | [_], _ => rfl
  have mRU := PySem.W.mg_of X G adRU
  have FFA := fun_mk (st := sFirstApart) ldFA cdFA kdFA
  have bFA := FFA.binds (ps := ["one", "other"]) fun _ _ _ _ _ _ us hl => match us, hl with | [_, _], _ => rfl
  have mFA := PySem.W.mg_of X G adFA
  have FL := fun_mk (st := sLaw) ldL cdL kdL
  exact ⟨_, [(cC1, tP1), (cC2, tP2), (cC3, tP3)], ⟨(List.forall_mem_cons.mpr ⟨hC1, (List.forall_mem_cons.mpr ⟨hC2, (List.forall_mem_cons.mpr ⟨hC3, (fun _ z => nomatch z)⟩)⟩)⟩), (List.forall_mem_cons.mpr ⟨oC1, (List.forall_mem_cons.mpr ⟨oC2, (List.forall_mem_cons.mpr ⟨oC3, (fun _ z => nomatch z)⟩)⟩)⟩), (List.forall_mem_cons.mpr ⟨mC1, (List.forall_mem_cons.mpr ⟨mC2, (List.forall_mem_cons.mpr ⟨mC3, (fun _ z => nomatch z)⟩)⟩)⟩)⟩, fun s v => .of_eq rfl, fun base _ _ tb =>
    have hu1 : ∀ p ∈ [(tP1, qAd), (tP2, qCp), (tP3, qUp)], p.1 = tP1 → p.2 = qAd := fun p hp e => by
      rcases List.mem_cons.mp hp with rfl | hp
      · rfl
      rcases List.mem_cons.mp hp with rfl | hp
      · exact absurd (show tP2 = tP1 from e).symm n12
      cases List.mem_singleton.mp hp
      exact absurd (show tP3 = tP1 from e).symm n13
    have hu2 : ∀ p ∈ [(tP1, qAd), (tP2, qCp), (tP3, qUp)], p.1 = tP2 → p.2 = qCp := fun p hp e => by
      rcases List.mem_cons.mp hp with rfl | hp
      · exact absurd (show tP1 = tP2 from e) n12
      rcases List.mem_cons.mp hp with rfl | hp
      · rfl
      cases List.mem_singleton.mp hp
      exact absurd (show tP3 = tP2 from e).symm n23
    have hu3 : ∀ p ∈ [(tP1, qAd), (tP2, qCp), (tP3, qUp)], p.1 = tP3 → p.2 = qUp := fun p hp e => by
      rcases List.mem_cons.mp hp with rfl | hp
      · exact absurd (show tP1 = tP3 from e) n13
      rcases List.mem_cons.mp hp with rfl | hp
      · exact absurd (show tP2 = tP3 from e) n23
      cases List.mem_singleton.mp hp
      rfl
    have gFL : FnOk l.prog w K mg base CX0 2 fFL _ ["rows"] (spFalls K) := ok_falls FFL T FEO mEO bEO
    have gAd : FnOk l.prog w K mg base CX0 3 fAd _ ["rows"] (spAdded K) := ok_added FAd T gFL FFL mFL bFL
    have gCp : FnOk l.prog w K mg base CX0 2 fCp _ ["stairs", "cap"] (spCapped K) := ok_capped FCp T FPR mPR bPR FWO mWO bWO
    have gLA : GnOk l.prog w K mg base 4 fLA _ ["rows"] (spLAd K [(tP1, qAd), (tP2, qCp), (tP3, qUp)]) := ok_lawAdded FLA T (Ns.code_of adLA tC1) (tb (cC1, tP1) (.head _)) (.head _) hu1 FRO mRO bRO FRN mRN bRN FRR mRR bRR
    have gLC : GnOk l.prog w K mg base 4 fLC _ ["row", "cap"] (spLCp K [(tP1, qAd), (tP2, qCp), (tP3, qUp)]) := ok_lawCapped FLC T (Ns.code_of adLC tC2) (tb (cC2, tP2) (.tail _ (.head _))) (.tail _ (.head _)) hu2 FRO mRO bRO FRN mRN bRN FRR mRR bRR
    have gRU : GnOk l.prog w K mg base 4 fRU _ ["steps"] (spUp K [(tP1, qAd), (tP2, qCp), (tP3, qUp)]) := ok_runUp FRU T (Ns.code_of adRU tC3) (tb (cC3, tP3) (.tail _ (.tail _ (.head _)))) (.tail _ (.tail _ (.head _))) hu3 FRN mRN bRN
    have D : D27 l.prog w K mg base [(tP1, qAd), (tP2, qCp), (tP3, qUp)] fB fT fS fRw fAd fLA fCp fLC fSM fLd fRR fRU fFU fFA fA _ _ _ _ _ _ _ _ _ _ _ _ _ _ _ := { B := FB, mB := mB, bB := bB, gB := ok_bag FB T, T := FT, mT := mT, bT := bT, gT := ok_take FT T, S := FS, mS := mS, bS := bS, gS := ok_some FS T FT mT bT, Rw := FRw, mRw := mRw, bRw := bRw, gRw := ok_someRow FRw T FT mT bT FS mS bS, Ad := FAd, mAd := mAd, bAd := bAd, gAd := gAd, LA := FLA, mLA := mLA, bLA := bLA, gLA := gLA, Cp := FCp, mCp := mCp, bCp := bCp, gCp := gCp, LC := FLC, mLC := mLC, bLC := bLC, gLC := gLC, SM := FSM, mSM := mSM, bSM := bSM, gSM := ok_stepsMany FSM T, Ld := FLd, mLd := mLd, bLd := bLd, gLd := ok_laid FLd T, RR := FRR, mRR := mRR, bRR := bRR, gRR := ok_rowReach FRR T, RU := FRU, mRU := mRU, bRU := bRU, gRU := gRU, FU := FFU, mFU := mFU, bFU := bFU, gFU := ok_firstUnlike FFU T, FA := FFA, mFA := mFA, bFA := bFA, gFA := ok_firstApart FFA T, A := FA, mA := mA, bA := bA, gA := ok_alike FA T }
    ok_law FL T (fun p hp => by
      rcases List.mem_cons.mp hp with rfl | hp
      · exact ⟨cC1, .head _⟩
      rcases List.mem_cons.mp hp with rfl | hp
      · exact ⟨cC2, .tail _ (.head _)⟩
      cases List.mem_singleton.mp hp
      exact ⟨cC3, .tail _ (.tail _ (.head _))⟩) D⟩
end Y
open PySem PySem.W PyProof.Rows in
set_option maxRecDepth 100000 in
set_option maxHeartbeats 0 in
theorem PySem.Challenge.cw_nightstairs_k27_rows_put_together_holds : PySem.Challenge.rw_nightstairs_k27_rows_put_together.Holds := by
  w_on; o_law; k_head; (case hw => w_witness2)
  k_fill
  refine Ns.walk_ofGM (l := PySem.Challenge.rw_nightstairs_k27_rows_put_together) (k := 5) rfl rfl ⟨rfl, by decide, by decide⟩ (fun w h Z => PySem.W.km_in_of Z) ?F
  case F =>
    intro w mg fa h Z KX G hmg
    refine' Y.all_mk KX G hmg ?adPR ?ldPR ?cdPR ?kdPR ?adWO ?ldWO ?cdWO ?kdWO ?adEO ?ldEO ?cdEO ?kdEO ?adAd ?ldAd ?cdAd ?kdAd ?adFL ?ldFL ?cdFL ?kdFL ?adCp ?ldCp ?cdCp ?kdCp ?adFU ?ldFU ?cdFU ?kdFU ?adB ?ldB ?cdB ?kdB ?adT ?ldT ?cdT ?kdT ?adS ?ldS ?cdS ?kdS ?adA ?ldA ?cdA ?kdA ?adRN ?ldRN ?cdRN ?kdRN ?adRR ?ldRR ?cdRR ?kdRR ?adSM ?ldSM ?cdSM ?kdSM ?adRO ?ldRO ?cdRO ?kdRO ?adLA ?ldLA ?cdLA ?kdLA ?adLC ?ldLC ?cdLC ?kdLC ?adRw ?ldRw ?cdRw ?kdRw ?adLd ?ldLd ?cdLd ?kdLd ?adRU ?ldRU ?cdRU ?kdRU ?adFA ?ldFA ?cdFA ?kdFA ?adL ?ldL ?cdL ?kdL ?zabs ?zint ?zlen ?zrepr ?zisinstance ?zrange ?zsorted ?ztuple ?zlist ?zdict ?zset ?zsum ?zmax ?zmin ?zstr ?zall ?zany ?zzip ?tC1 ?mC1 ?hC1 ?oC1 ?tC2 ?mC2 ?hC2 ?oC2 ?tC3 ?mC3 ?hC3 ?oC3 ?n12 ?n13 ?n23
    (case adPR => k_is)
    (case ldPR => k_is)
    (case cdPR => k_is)
    (case kdPR => k_is)
    (case adWO => k_is)
    (case ldWO => k_is)
    (case cdWO => k_is)
    (case kdWO => k_is)
    (case adEO => k_is)
    (case ldEO => k_is)
    (case cdEO => k_is)
    (case kdEO => k_is)
    (case adAd => k_is)
    (case ldAd => k_is)
    (case cdAd => k_is)
    (case kdAd => k_is)
    (case adFL => k_is)
    (case ldFL => k_is)
    (case cdFL => k_is)
    (case kdFL => k_is)
    (case adCp => k_is)
    (case ldCp => k_is)
    (case cdCp => k_is)
    (case kdCp => k_is)
    (case adFU => k_is)
    (case ldFU => k_is)
    (case cdFU => k_is)
    (case kdFU => k_is)
    (case adB => k_is)
    (case ldB => k_is)
    (case cdB => k_is)
    (case kdB => k_is)
    (case adT => k_is)
    (case ldT => k_is)
    (case cdT => k_is)
    (case kdT => k_is)
    (case adS => k_is)
    (case ldS => k_is)
    (case cdS => k_is)
    (case kdS => k_is)
    (case adA => k_is)
    (case ldA => k_is)
    (case cdA => k_is)
    (case kdA => k_is)
    (case adRN => k_is)
    (case ldRN => k_is)
    (case cdRN => k_is)
    (case kdRN => k_is)
    (case adRR => k_is)
    (case ldRR => k_is)
    (case cdRR => k_is)
    (case kdRR => k_is)
    (case adSM => k_is)
    (case ldSM => k_is)
    (case cdSM => k_is)
    (case kdSM => k_is)
    (case adRO => k_is)
    (case ldRO => k_is)
    (case cdRO => k_is)
    (case kdRO => k_is)
    (case adLA => k_is)
    (case ldLA => k_is)
    (case cdLA => k_is)
    (case kdLA => k_is)
    (case adLC => k_is)
    (case ldLC => k_is)
    (case cdLC => k_is)
    (case kdLC => k_is)
    (case adRw => k_is)
    (case ldRw => k_is)
    (case cdRw => k_is)
    (case kdRw => k_is)
    (case adLd => k_is)
    (case ldLd => k_is)
    (case cdLd => k_is)
    (case kdLd => k_is)
    (case adRU => k_is)
    (case ldRU => k_is)
    (case cdRU => k_is)
    (case kdRU => k_is)
    (case adFA => k_is)
    (case ldFA => k_is)
    (case cdFA => k_is)
    (case kdFA => k_is)
    (case adL => k_is)
    (case ldL => k_is)
    (case cdL => k_is)
    (case kdL => k_is)
    (case zabs => k_is)
    (case zint => k_is)
    (case zlen => k_is)
    (case zrepr => k_is)
    (case zisinstance => k_is)
    (case zrange => k_is)
    (case zsorted => k_is)
    (case ztuple => k_is)
    (case zlist => k_is)
    (case zdict => k_is)
    (case zset => k_is)
    (case zsum => k_is)
    (case zmax => k_is)
    (case zmin => k_is)
    (case zstr => k_is)
    (case zall => k_is)
    (case zany => k_is)
    (case zzip => k_is)
    (case tC1 => first | rfl | decide +kernel | k_is)
    (case mC1 => first | exact PySem.W.km_tabs_of Z _ (List.mem_singleton.mpr rfl) | exact PySem.W.km_tabs_of Z _ (.head _) | exact PySem.W.km_tabs_of Z _ (.tail _ (.head _)) | exact PySem.W.km_tabs_of Z _ (.tail _ (.tail _ (.head _))))
    (case hC1 => first | rfl | decide +kernel | k_is)
    (case oC1 => first | rfl | decide +kernel | k_is)
    (case tC2 => first | rfl | decide +kernel | k_is)
    (case mC2 => first | exact PySem.W.km_tabs_of Z _ (List.mem_singleton.mpr rfl) | exact PySem.W.km_tabs_of Z _ (.head _) | exact PySem.W.km_tabs_of Z _ (.tail _ (.head _)) | exact PySem.W.km_tabs_of Z _ (.tail _ (.tail _ (.head _))))
    (case hC2 => first | rfl | decide +kernel | k_is)
    (case oC2 => first | rfl | decide +kernel | k_is)
    (case tC3 => first | rfl | decide +kernel | k_is)
    (case mC3 => first | exact PySem.W.km_tabs_of Z _ (List.mem_singleton.mpr rfl) | exact PySem.W.km_tabs_of Z _ (.head _) | exact PySem.W.km_tabs_of Z _ (.tail _ (.head _)) | exact PySem.W.km_tabs_of Z _ (.tail _ (.tail _ (.head _))))
    (case hC3 => first | rfl | decide +kernel | k_is)
    (case oC3 => first | rfl | decide +kernel | k_is)
    (case n12 => decide)
    (case n13 => decide)
    (case n23 => decide)

